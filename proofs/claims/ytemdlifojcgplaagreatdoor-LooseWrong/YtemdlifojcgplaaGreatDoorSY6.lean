/- Contracts and facts on the way to the top. It proves no statement by itself. No conditions. -/
import Derived.Test.YtemdlifojcgplaaGreatDoorSY5
set_option maxHeartbeats 16000000
namespace Go.Proofs.YtemdlifojcgplaaGreatDoor
open Go Go.Vx Go.Hf Go.If Go.Df
variable [W0]
set_option maxRecDepth 4000
set_option linter.all false
def RwO (b:List UInt8) (level:Int) (o:List UInt8):Prop:=∃x q,o=wrB x q∧x.length≤3∧BlC b 0 (x++[q]) b.length∧itL (wrI x q)≤100000000∧(1 < level→szB 0 (x++[q])≤szB 0 (stB b)∧szB 0 (x++[q])≤szB 0 [.fx (pcT b)])
theorem bsI_sz:∀(x:List Blk) (a:List (Nat × Nat)),itL (bsI a x)=szB (itL a) x
 |[],a=>rfl
 |B::x,a=>by
  rw [bsI,bsI_sz x,itL_app,itL_app]
  rfl
theorem wrI_sz (x:List Blk) (q:Blk):itL (wrI x q)=szB 0 (x++[q]):=by
 unfold wrI
 rw [szB_app,itL_app,itL_app,bsI_sz]
 rfl
theorem rawA_n (v:Value) (level:Int) (b:List UInt8) (L:List Chunk) (ht:Rs L 1 v b.length (bsv b)) (hb:b.length≤200000) (hor:OrAt L) :
 Gv Tryz.prog 46 [v,.int .i64 level].toArray L (fun r L'=>∃C o,RwO b level o∧o.length≤1000000000∧Ow 5 1 r o.length (bsv o) C∧L'=C::L):=by
 refine Gv.of_body (args:=[v,.int .i64 level]) Tryz.func46 rfl rfl ?_
 refine kW ?_
 refine cC rfl rfl (blocksOf_n v level b L _ Inc.refl ht hb hor) (fun r L' hp=>?_)
 obtain ⟨bs,C,hbl,h0,h4,hc9,hs,rfl⟩:=hp
 obtain ⟨x,q,rfl⟩:∃x q,bs=x++[q]:=by
  have hne:bs≠[]:=fun h=>by subst h;simp at h0
  exact ⟨bs.dropLast,bs.getLast hne,(List.dropLast_concat_getLast hne).symm⟩
 rw [List.length_append,List.length_singleton] at h4
 have hsz:=szB_le hbl (x++[q]).length (Nat.le_refl _)
 rw [List.take_length,←wrI_sz,List.length_append,List.length_singleton] at hsz
 have hsz2:itL (wrI x q)≤100000000:=by omega
 refine kW ?_
 refine cC rfl rfl (written_n r x q _ hbl (by omega)) (fun r2 L' hp=>?_)
 obtain ⟨C2,ho,rfl⟩:=hp
 have hlen:(wrB x q).length=(itL (wrI x q)+7) / 8:=leB_length _ _
 refine kW ?_
 refine kR ?_
 exact ⟨_,iC,C2,wrB x q,⟨x,q,rfl,by omega,hc9,hsz2,hs⟩,by omega,by rw [hlen];exact ho,rfl⟩
theorem zlibA_n (v:Value) (level:Int) (b:List UInt8) (L:List Chunk) (ht:Rs L 1 v b.length (bsv b)) (hb:b.length≤200000) (hor:OrAt L) :
 Gv Tryz.prog 21 [v,.int .i64 level].toArray L (fun r L'=>∃C o,RwO b level o∧o.length≤1000000000∧Ow 5 1 r (2+o.length+4) (bsv ([120,flB level]++o++be4 (adlV (adlN (1#32,0#32) b)).toNat)) C∧L'=C::L):=by
 exact zlib_n v level b [] L (RwO b level) OrAt (fun _ _ h=>h.there) hor ht hb (fun L' hR hT=>rawA_n v level b L' hT hb hR)
end Go.Proofs.YtemdlifojcgplaaGreatDoor
namespace Go.Df
open Go.Vx Go.If Go.Hf
set_option linter.all false
theorem Tks.ok {b:List UInt8}:∀{ts:List (Nat × Nat)} {i j:Nat},Tks b i ts j→∀t∈ts,TkOk t
 |[],_,_,_,t,ht=>by cases ht
 |u::r,i,j,h,t,ht=>by
  rcases List.mem_cons.1 ht with rfl|ht
  ·exact h.1
  ·exact Tks.ok h.2.2.2.2 t ht
theorem it_app {a a' c c':List (Nat × Nat)} (h1:itV a=itV a'∧itL a=itL a') (h2:itV c=itV c'∧itL c=itL c'):itV (a++c)=itV (a'++c')∧itL (a++c)=itL (a'++c'):=by
 rw [itV_app,itV_app,itL_app,itL_app,h1.1,h1.2,h2.1,h2.2]
 exact ⟨rfl,rfl⟩
theorem Bi.two {d:List UInt8} {t h ty:Nat} {a:List (Nat × Nat)} (hb:Bi d t ((h,1)::(ty,2)::a)):Bi d t ((h+2 * ty,3)::a):=by
 have e1:itV ((h+2 * ty,3)::a)=itV ((h,1)::(ty,2)::a):=by
  simp only [itV]
  omega
 have e2:itL ((h+2 * ty,3)::a)=itL ((h,1)::(ty,2)::a):=by
  simp only [itL]
  omega
 unfold Bi
 rw [e1,e2]
 exact hb
theorem fx_pos {t:Nat × Nat} (h:TkOk t):0 < fxL.getD (tsy t) 0∧(t.2≠0→0 < fxD.getD (odN t.2) 0):=by
 have hl:∀i,i < 286→0 < fxL.getD i 0:=by decide+kernel
 have hd:∀i,i < 30→0 < fxD.getD i 0:=by decide+kernel
 refine ⟨hl _ (tsy_lt h).1,fun h0=>hd _ ?_⟩
 rcases h with ⟨g1,_⟩|⟨g1,g2,_⟩
 ·exact absurd g1 h0
 ·exact Nat.lt_succ_of_le (odN_ok g1 g2).1
end Go.Df
namespace Go.Proofs.YtemdlifojcgplaaGreatDoor
open Go Go.Vx Go.Hf Go.If Go.Df
variable [W0]
set_option linter.all false
theorem DnF.eq {k:List (Nat × Nat)} {l dl own o:List Nat} {n1 n2:Nat} {rs:List (Nat × Nat)} (h:DnF k l dl n1 n2 o own rs) :
 itV (hwI n1 n2 o own rs++coI l dl k)=itV (hdI own n1 n2 (o.length - 4) (rs.map rlOf)++(tsI (l.take n1) (dl.take n2) (k.map tok)++[sc (l.take n1) 256]))∧itL (hwI n1 n2 o own rs++coI l dl k)=itL (hdI own n1 n2 (o.length - 4) (rs.map rlOf)++(tsI (l.take n1) (dl.take n2) (k.map tok)++[sc (l.take n1) 256])):=by
 have hs1:=sc_trim h.n1z
 have hs2:=sc_trim h.n2z
 rw [tsI_congr hs1 hs2,hs1]
 obtain ⟨r1,r2⟩:=rnI_eq (own:=own) h.ro
 have ho:4+(o.length - 4)=o.length:=by have:=h.o4;omega
 have e:hwI n1 n2 o own rs=((n1 - 257,5)::(n2 - 1,5)::((o.length - 4,4)::owI own (4+(o.length - 4)) 0))++rnI own rs:=by
  rw [ho,←h.oo]
  rfl
 unfold hdI coI
 rw [e]
 exact it_app (it_app ⟨rfl,rfl⟩ ⟨r1,r2⟩) ⟨rfl,rfl⟩
theorem dn_blk {d b:List UInt8} {most i j:Nat} {k:List (Nat × Nat)} {l dl own o:List Nat} {n1 n2:Nat} {rs:List (Nat × Nat)} {s:S6} (hf:DnF k l dl n1 n2 o own rs) (hk:Tks b i k j) (hi:i≤b.length) (he:s.e=0) (ho:s.out=b.take i) (hm:b.length≤most)
 (h:Bi d s.t (hwI n1 n2 o own rs++coI l dl k)):bkS d most 2 s=⟨s.t+itL (hwI n1 n2 o own rs++coI l dl k),b.take j,0⟩:=by
 have hjb:=hk.le.2 hi
 obtain ⟨e1,e2⟩:=hf.eq
 unfold Bi at h
 rw [e1,e2] at h
 rw [e2]
 have hn1:=hf.n1b
 have hw:=hf.w
 have hll:=hf.ll
 have hdll:=hf.dll
 have hn2:=hf.n2b
 have ht1:(rsW (rs.map rlOf) []).take n1=l.take n1:=by
  rw [hw,List.take_append_of_le_length (by rw [List.length_take];omega),List.take_take,Nat.min_self]
 have ht2:(rsW (rs.map rlOf) []).drop n1=dl.take n2:=by
  rw [hw,List.drop_append_of_le_length (by rw [List.length_take];omega),List.drop_eq_nil_of_le (by rw [List.length_take];omega),List.nil_append]
 obtain ⟨k1,k2⟩:=tks_ok (l:=l.take n1) (dl:=dl.take n2) hk (fun t ht=>by
  rw [getD_trim hf.n1z,getD_trim hf.n2z]
  exact hf.pl t ht)
 have hil:(b.take i).length=i:=by rw [List.length_take];omega
 have hb:Bi d s.t (hdI own n1 n2 (o.length - 4) (rs.map rlOf)++(tsI (l.take n1) (dl.take n2) (k.map tok)++[sc (l.take n1) 256])):=h
 have hge:=tsI_ge k1
 have hbl:=hb.len
 rw [itL_app,itL_app] at hbl
 have:=dn_at (most:=most) hf.hd ht1 ht2 (fun x hx=>hf.h15 x (by rwa [hw] at hx)) he (by omega) (by rw [ho,hil];exact k1) (by rw [ho,hil];omega) hb
 rw [this,ho,tks_W hi hk]
theorem blk_at {d b:List UInt8} {most i j f hd:Nat} {B:Blk} {s:S6} (hB:BlO b i j B) (hij:i≤j) (hj:j≤b.length) (he:s.e=0) (ho:s.out=b.take i) (hm:b.length≤most) (hd1:hd≤1)
 (h:Bi d s.t ((hd,1)::blI (s.t+1) B)) :
 rwS d most (f+1) s=if hd=1 then ⟨s.t+1+itL (blI (s.t+1) B),b.take j,0⟩ else rwS d most f ⟨s.t+1+itL (blI (s.t+1) B),b.take j,0⟩:=by
 have hil:(b.take i).length=i:=by rw [List.length_take];omega
 cases B with
 |st t=>
  obtain ⟨hB,hf⟩:=hB
  have htl:t.length=j - i:=by rw [hB,List.length_take,List.length_drop];omega
  have h2:=Bi.two (ty:=0) h
  obtain ⟨h3,h4⟩:=Bi.cons h2 (show hd+2 * 0 < 2 ^ 3 by omega)
  obtain ⟨_,h6⟩:=Bi.cons h4 (Nat.pow_pos (by decide))
  have hL:itL (blI (s.t+1) (.st t))=2+(8 * ((s.t+1+2+7) / 8) - (s.t+1+2))+32+8 * t.length:=by
   simp only [blI]
   rw [itL_app,raI_L]
   simp only [itL]
   omega
  have ha:s.t+3+(8 * ((s.t+1+2+7) / 8) - (s.t+1+2))=8 * ((s.t+3+7) / 8):=by omega
  rw [show (hd+2 * 0,3).2=3 from rfl] at h6
  have hp:=st_at (d:=d) (p:=t) (most:=most) (a:=8 * ((s.t+3+7) / 8)) (s:=⟨s.t+3,s.out,0⟩) rfl rfl (by omega) (by simp only;rw [ho,hil];omega) (by
   rw [←ha]
   have h7:Bi d (s.t+3+(8 * ((s.t+1+2+7) / 8) - (s.t+1+2))) ([(t.length,16),(65535 - t.length,16)]++raI t):=h6
   unfold Bi at h7
   rw [itV_app,itL_app,raI_V,raI_L] at h7
   simp only [itV,itL] at h7
   have e1:t.length+2 ^ 16 * (65535 - t.length+2 ^ 16 * val t)=t.length+2 ^ 16 * (65535 - t.length+2 ^ 16 * 0)+2 ^ (16+(16+0)) * val t:=by
    rw [Nat.mul_add,Nat.mul_add,←Nat.mul_assoc,←Nat.pow_add];omega
   rw [e1,show 16+(16+8 * t.length)=16+(16+0)+8 * t.length from by omega]
   exact h7)
  rw [rw_at (ty:=0) he hd1 (by decide) h3 hp rfl]
  have e9:s.out++t=b.take j:=by
   rw [ho,hB,show j=i+(j - i) from by omega,List.take_add]
   simp
  rw [e9,hL,show 8 * ((s.t+3+7) / 8)+32+8 * t.length=s.t+1+(2+(8 * ((s.t+1+2+7) / 8) - (s.t+1+2))+32+8 * t.length) from by omega]
 |fx k=>
  have hk:Tks b i k j:=hB
  have h2:=Bi.two (ty:=1) h
  obtain ⟨h3,h4⟩:=Bi.cons h2 (show hd+2 * 1 < 2 ^ 3 by omega)
  obtain ⟨k1,k2⟩:=tks_ok (l:=fxL) (dl:=fxD) hk (fun t ht=>fx_pos (hk.ok t ht))
  have hge:=tsI_ge k1
  have hbl:=Bi.len h4
  rw [itL_app] at hbl
  have hp:=fx_at (d:=d) (most:=most) (ts:=k.map tok) (s:=⟨s.t+3,s.out,0⟩) rfl (by omega) (by simp only;rw [ho,hil];exact k1) (by simp only;rw [ho,hil];omega) h4
  rw [rw_at (ty:=1) he hd1 (by decide) h3 hp rfl]
  simp only
  rw [ho,tks_W (by omega) hk,show s.t+1+itL (blI (s.t+1) (.fx k))=s.t+3+itL (tsI fxL fxD (k.map tok)++[sc fxL 256]) from by simp only [blI,itL];omega]
 |dn k l dl n1 n2 o own rs=>
  obtain ⟨hk,hne,h1,h2,h3,rfl,rfl,rfl,rfl⟩:=hB
  have hF:=dn_facts hk.ok hne h1 h2 h3
  generalize trN l 257 l.length=n1 at *
  generalize trN dl 1 dl.length=n2 at *
  generalize (orN own).take (trN (orN own) 4 19)=o at *
  generalize rnS (hdL l dl)=rs at *
  have h4:=Bi.two (ty:=2) h
  obtain ⟨h5,h6⟩:=Bi.cons h4 (show hd+2 * 2 < 2 ^ 3 by omega)
  have hp:=dn_blk (most:=most) (s:=⟨s.t+3,s.out,0⟩) hF hk (by omega) rfl ho hm h6
  rw [rw_at (ty:=2) he hd1 (by decide) h5 hp rfl]
  simp only
  rw [show s.t+1+itL (blI (s.t+1) (.dn k l dl n1 n2 o own rs))=s.t+3+itL (hwI n1 n2 o own rs++coI l dl k) from by simp only [blI,itL,coI];omega]
end Go.Proofs.YtemdlifojcgplaaGreatDoor
namespace Go.Df
open Go.Vx Go.If Go.Hf
set_option linter.all false
def chI [W0]:Nat→List Blk→List (Nat × Nat)
 |_,[]=>[]
 |n,B::r=>((0,1)::blI (n+1) B)++chI (n+1+itL (blI (n+1) B)) r
theorem bsI_ch [W0]:∀(x:List Blk) (a:List (Nat × Nat)),bsI a x=a++chI (itL a) x
 |[],a=>by rw [bsI,chI,List.append_nil]
 |B::r,a=>by
  rw [bsI,bsI_ch r,chI]
  have e:itL (a++[(0,1)]++blI (itL a+1) B)=itL a+1+itL (blI (itL a+1) B):=by
   rw [itL_app,itL_app];rfl
  rw [e]
  simp [List.append_assoc]
theorem wrI_ch [W0] (x:List Blk) (q:Blk):wrI x q=chI 0 x++((1,1)::blI (itL (chI 0 x)+1) q):=by
 unfold wrI
 rw [bsI_ch]
 simp only [List.nil_append,show itL ([]:List (Nat × Nat))=0 from rfl]
 rw [List.append_assoc]
 rfl
end Go.Df
namespace Go.Proofs.YtemdlifojcgplaaGreatDoor
open Go Go.Vx Go.Hf Go.If Go.Df
variable [W0]
set_option linter.all false
theorem tsI_lt' {l dl:List Nat} {b:List UInt8} {k:List (Nat × Nat)} {i j:Nat} (hk:Tks b i k j) (hp:∀t∈k,0 < l.getD (tsy t) 0∧(t.2≠0→0 < dl.getD (odN t.2) 0)):∀x∈coI l dl k,x.1 < 2 ^ x.2:=fun x hx=>by
 rcases List.mem_append.1 hx with hx|hx
 ·exact tsI_lt (tks_ok hk hp).1 x hx
 ·rw [List.mem_singleton.1 hx];exact sc_lt _ _
theorem rnI_lt {own:List Nat}:∀{rs:List (Nat × Nat)},(∀r∈rs,RnOk r)→∀x∈rnI own rs,x.1 < 2 ^ x.2
 |[],_,x,hx=>by cases hx
 |r::q,h,x,hx=>by
  rw [rnI] at hx
  rcases List.mem_cons.1 hx with rfl|hx
  ·exact sc_lt _ _
  rcases List.mem_cons.1 hx with rfl|hx
  ·exact (h r List.mem_cons_self).2
  ·exact rnI_lt (fun y hy=>h y (List.mem_cons_of_mem _ hy)) x hx
theorem blI_lt {b:List UInt8} {i j n:Nat} {B:Blk} (hB:BlO b i j B) (hij:i≤j) (hj:j≤b.length):∀x∈blI n B,x.1 < 2 ^ x.2:=fun x hx=>by
 cases B with
 |st t=>
  obtain ⟨hB,hf⟩:=hB
  have htl:t.length=j - i:=by rw [hB,List.length_take,List.length_drop];omega
  simp only [blI] at hx
  rcases List.mem_append.1 hx with hx|hx
  ·simp only [List.mem_cons,List.not_mem_nil,or_false] at hx
   rcases hx with rfl|rfl|rfl|rfl
   ·decide
   ·exact Nat.pow_pos (by decide)
   ·show t.length < 2 ^ 16;omega
   ·show 65535 - t.length < 2 ^ 16;omega
  ·obtain ⟨c,_,rfl⟩:=List.mem_map.1 hx
   exact c.toNat_lt
 |fx k=>
  have hk:Tks b i k j:=hB
  simp only [blI] at hx
  rcases List.mem_cons.1 hx with rfl|hx
  ·decide
  ·exact tsI_lt' (l:=fxL) (dl:=fxD) hk (fun t ht=>fx_pos (hk.ok t ht)) x hx
 |dn k l dl n1 n2 o own rs=>
  obtain ⟨hk,hne,h1,h2,h3,rfl,rfl,rfl,rfl⟩:=hB
  have hF:=dn_facts hk.ok hne h1 h2 h3
  generalize trN l 257 l.length=n1 at *
  generalize trN dl 1 dl.length=n2 at *
  generalize (orN own).take (trN (orN own) 4 19)=o at *
  generalize rnS (hdL l dl)=rs at *
  simp only [blI] at hx
  rcases List.mem_cons.1 hx with rfl|hx
  ·decide
  rcases List.mem_append.1 hx with hx|hx
  ·unfold hwI at hx
   have b1:=hF.n1b
   have b2:=hF.n2b
   have b3:=hF.hd.zb
   rcases List.mem_append.1 hx with hx|hx
   ·simp only [List.mem_cons,List.not_mem_nil,or_false] at hx
    rcases hx with rfl|rfl|rfl
    ·show n1 - 257 < 2 ^ 5;omega
    ·show n2 - 1 < 2 ^ 5;omega
    ·show o.length - 4 < 2 ^ 4;omega
   ·rcases List.mem_append.1 hx with hx|hx
    ·rw [hF.oo] at hx
     exact owI_lt hF.hd.o7 _ _ x hx
    ·exact rnI_lt hF.ro x hx
  ·exact tsI_lt' hk hF.pl x hx
theorem chI_lt {b:List UInt8}:∀{x:List Blk} {i k n:Nat},BlC b i x k→∀y∈chI n x,y.1 < 2 ^ y.2
 |[],_,_,_,_,y,hy=>by cases hy
 |B::r,i,k,n,h,y,hy=>by
  obtain ⟨j,h1,h2,h3,h4⟩:=h
  rw [chI] at hy
  rcases List.mem_append.1 hy with hy|hy
  ·rcases List.mem_cons.1 hy with rfl|hy
   ·decide
   ·exact blI_lt h3 h1 h2 y hy
  ·exact chI_lt h4 y hy
theorem BlC.split {b:List UInt8}:∀{x y:List Blk} {i k:Nat},BlC b i (x++y) k→∃j,BlC b i x j∧BlC b j y k
 |[],y,i,k,h=>⟨i,rfl,h⟩
 |B::x,y,i,k,h=>by
  obtain ⟨j,h1,h2,h3,h4⟩:=h
  obtain ⟨m,g1,g2⟩:=BlC.split h4
  exact ⟨m,⟨j,h1,h2,h3,g1⟩,g2⟩
theorem wrI_lt {b:List UInt8} {x:List Blk} {q:Blk} {k:Nat} (h:BlC b 0 (x++[q]) k):∀y∈wrI x q,y.1 < 2 ^ y.2:=fun y hy=>by
 rw [wrI_ch] at hy
 obtain ⟨j,h1,m,h2,h3,h4,_⟩:=h.split
 rcases List.mem_append.1 hy with hy|hy
 ·exact chI_lt h1 y hy
 ·rcases List.mem_cons.1 hy with rfl|hy
  ·decide
  ·exact blI_lt h4 h2 h3 y hy
theorem run_at {d b:List UInt8} {most:Nat} (hm:b.length≤most) (q:Blk):∀(x:List Blk) (i f:Nat) (s:S6),BlC b i (x++[q]) b.length→s.e=0→s.out=b.take i→x.length < f→
 Bi d s.t (chI s.t x++((1,1)::blI (s.t+itL (chI s.t x)+1) q))→rwS d most f s=⟨s.t+itL (chI s.t x++((1,1)::blI (s.t+itL (chI s.t x)+1) q)),b,0⟩
 |[],i,f,s,h,he,ho,hf,hb=>by
  obtain ⟨j,h1,h2,h3,h4⟩:=h
  have h4:j=b.length:=h4
  subst h4
  obtain ⟨g,rfl⟩:∃g,f=g+1:=⟨f - 1,by simp at hf;omega⟩
  have hb:Bi d s.t ((1,1)::blI (s.t+1) q):=hb
  rw [blk_at (f:=g) h3 h1 h2 he ho hm (Nat.le_refl _) hb,if_pos rfl,List.take_length]
  simp only [chI,List.nil_append,itL,Nat.add_zero,Nat.add_assoc]
 |B::r,i,f,s,h,he,ho,hf,hb=>by
  obtain ⟨j,h1,h2,h3,h4⟩:=h
  obtain ⟨g,rfl⟩:∃g,f=g+1:=⟨f - 1,by simp at hf;omega⟩
  have hlt:∀y∈((0,1)::blI (s.t+1) B:List (Nat × Nat)),y.1 < 2 ^ y.2:=fun y hy=>by
   rcases List.mem_cons.1 hy with rfl|hy
   ·decide
   ·exact blI_lt h3 h1 h2 y hy
  rw [chI,List.append_assoc] at hb ⊢
  obtain ⟨b1,b2⟩:=Bi.app hb hlt
  rw [blk_at (f:=g) h3 h1 h2 he ho hm (Nat.zero_le _) b1,if_neg (by decide)]
  have e1:s.t+itL ((0,1)::blI (s.t+1) B)=s.t+1+itL (blI (s.t+1) B):=by simp only [itL];omega
  have e2:s.t+itL ((0,1)::blI (s.t+1) B++chI (s.t+1+itL (blI (s.t+1) B)) r)+1=s.t+1+itL (blI (s.t+1) B)+itL (chI (s.t+1+itL (blI (s.t+1) B)) r)+1:=by
   rw [itL_app];omega
  rw [e1,e2] at b2
  rw [e2,itL_app,←Nat.add_assoc,e1]
  exact run_at hm q r j g ⟨s.t+1+itL (blI (s.t+1) B),b.take j,0⟩ h4 rfl rfl (by simp at hf;omega) b2
theorem raw_all {b z:List UInt8} {x:List Blk} {q:Blk} {most:Nat} (h:BlC b 0 (x++[q]) b.length) (hx:x.length≤3) (hm:b.length≤most):rawS (wrB x q++z) most=⟨itL (wrI x q),b,0⟩:=by
 have hb:=bi_all (wrI_lt h) z
 have hpos:1≤itL (wrI x q):=by rw [wrI_ch,itL_app];simp only [itL];omega
 have hl:1≤(wrB x q++z).length:=by
  rw [List.length_append,show (wrB x q).length=(itL (wrI x q)+7) / 8 from leB_length _ _];omega
 unfold rawS
 have hb2:Bi (wrB x q++z) 0 (wrI x q):=hb
 rw [wrI_ch] at hb2
 have:=run_at (d:=wrB x q++z) hm q x 0 (8 * (wrB x q++z).length+1) ⟨0,[],0⟩ h rfl rfl (by omega) (by simpa using hb2)
 rw [this]
 simp only [Nat.zero_add]
 rw [←wrI_ch]
end Go.Proofs.YtemdlifojcgplaaGreatDoor
namespace Go.Df
open Go.Vx Go.If Go.Hf
set_option linter.all false
theorem Tks.count {b:List UInt8}:∀{ts:List (Nat × Nat)} {i j:Nat},Tks b i ts j→ts.length≤j - i
 |[],i,j,h=>Nat.zero_le _
 |t::r,i,j,h=>by
  have h1:=h.2.2.2.2.count
  have h2:=h.2.2.2.2.le.1
  have h3:1≤tsz t:=by
   unfold tsz
   rcases h.1 with ⟨g1,g2⟩|⟨g1,g2,g3,g4⟩
   ·rw [if_pos g1];exact Nat.le_refl _
   ·rw [if_neg (by omega)];omega
  rw [List.length_cons]
  omega
end Go.Df
namespace Go.Proofs.YtemdlifojcgplaaGreatDoor
open Go Go.Vx Go.Hf Go.If Go.Df
variable [W0]
set_option linter.all false
theorem rnS_count {l:List Nat} (h:∀x∈l,x≤15):(rnS l).length≤l.length:=by
 have w:=(rnS_W h).2.1
 have h1:=rsW_length ((rnS l).map rlOf) []
 rw [w,List.length_nil,Nat.zero_add] at h1
 have key:∀rs:List Rl,rs.length≤rsN rs:=by
  intro rs
  induction rs with
  |nil=>exact Nat.le_refl _
  |cons r q ih=>
   have:=rlN_pos r
   rw [List.length_cons,rsN];omega
 have:=key ((rnS l).map rlOf)
 rw [List.length_map] at this
 omega
theorem coI_le {l dl:List Nat} (hl:Cok l) (hd:Cok dl) {ts:List (Nat × Nat)} (h:∀t∈ts,TkOk t):itL (coI l dl ts)≤48 * ts.length+15:=by
 have h1:=tsI_le hl hd h
 have h2:=hl.at 256
 unfold coI
 rw [itL_app]
 simp only [itL,sc]
 omega
theorem blI_sz {b:List UInt8} {i j n:Nat} {B:Blk} (hB:BlO b i j B) (hij:i≤j) (hj:j≤b.length):itL (blI n B)≤48 * (j - i)+10000:=by
 cases B with
 |st t=>
  obtain ⟨hB,hf⟩:=hB
  have htl:t.length=j - i:=by rw [hB,List.length_take,List.length_drop];omega
  simp only [blI]
  rw [itL_app,raI_L]
  simp only [itL]
  omega
 |fx k=>
  have hk:Tks b i k j:=hB
  have:=coI_le fxL_ok fxD_ok hk.ok
  have:=hk.count
  simp only [blI,itL]
  unfold coI at *
  omega
 |dn k l dl n1 n2 o own rs=>
  obtain ⟨hk,hne,h1,h2,h3,rfl,rfl,rfl,rfl⟩:=hB
  have hF:=dn_facts hk.ok hne h1 h2 h3
  have h15:=hF.h15
  have hcl:Cok l:=⟨by have:=hF.hd.kl;rw [hF.w,List.take_append_of_le_length (by rw [List.length_take];have:=hF.n1b;have:=hF.ll;omega),List.take_take,Nat.min_self,kS_trim hF.n1z] at this;omega,fun x hx=>by
   obtain ⟨i,hi,rfl⟩:=List.getElem_of_mem hx
   have:=h1.le i
   rwa [show l.getD i 0=l[i] from by simp [List.getD,hi]] at this⟩
  have hcd:Cok dl:=⟨kd_le h2.one,fun x hx=>by
   obtain ⟨i,hi,rfl⟩:=List.getElem_of_mem hx
   have:=h2.le i
   rwa [show dl.getD i 0=dl[i] from by simp [List.getD,hi]] at this⟩
  have c1:=coI_le hcl hcd hk.ok
  have c2:=hk.count
  have c3:=hwI_le (own:=own) (o:=(orN own).take (trN (orN own) 4 19)) hF.hd.own (by rw [List.length_take,orN_len];omega) (rnS (hdL l dl)) (trN l 257 l.length) (trN dl 1 dl.length)
  have c4:=rnS_count (l:=hdL l dl) h15
  have c5:(hdL l dl).length≤316:=by
   unfold hdL
   have:=hF.ll
   have:=hF.dll
   rw [List.length_append,List.length_take,List.length_take];omega
  simp only [blI,itL]
  rw [itL_app]
  unfold coI at c1
  omega
theorem szB_sz {b:List UInt8}:∀{bs:List Blk} {i k n:Nat},BlC b i bs k→szB n bs≤n+48 * (k - i)+10001 * bs.length
 |[],i,k,n,h=>by simp [szB]
 |B::r,i,k,n,h=>by
  obtain ⟨j,h1,h2,h3,h4⟩:=h
  have e:=blI_sz (n:=n+1) h3 h1 h2
  have ih:=szB_sz (n:=enB n B) h4
  have hle:j≤k:=by
   clear ih e h3 h2 h1
   revert j
   induction r with
   |nil=>intro j h4;exact Nat.le_of_eq h4
   |cons D q ihq=>
    intro j h4
    obtain ⟨m,g1,g2,g3,g4⟩:=h4
    exact Nat.le_trans g1 (ihq m g4)
  have hs:szB n (B::r)=szB (enB n B) r:=rfl
  rw [hs,List.length_cons]
  have he:enB n B=n+1+itL (blI (n+1) B):=rfl
  omega
theorem RwO.len {b o:List UInt8} {level:Int} (h:RwO b level o):o.length≤6 * b.length+5010:=by
 obtain ⟨x,q,rfl,hx,hc9,_,_⟩:=h
 have:=szB_sz (n:=0) hc9
 rw [←wrI_sz,List.length_append,List.length_singleton] at this
 rw [show (wrB x q).length=(itL (wrI x q)+7) / 8 from leB_length _ _]
 omega
end Go.Proofs.YtemdlifojcgplaaGreatDoor
namespace Go.Proofs.YtemdlifojcgplaaGreatDoor
open Go Go.Vx Go.Ob Go.Hf Go.If
open Go.Df (flB be4 wrB wrI)
variable [W0]
set_option linter.all false
set_option maxRecDepth 4000
omit [W0] in
def sObj:List UInt8:=[111,98,106,101,99,116,115,47]
omit [W0] in
def ptL (s:List UInt8):List UInt8:=if hshB s then sObj++s.take 2++[47]++s.drop 2 else []
theorem hsh_len {s:List UInt8} (h:hshB s=true):s.length=40:=by
 unfold hshB at h
 simp only [Bool.and_eq_true,decide_eq_true_eq] at h
 exact h.1
theorem path_n (s:List UInt8) (L:List Chunk) (hs:s.length≤9223372036854775807):GvP Tryz.prog 10 [.string (str s)].toArray L (.string (str (ptL s))):=by
 refine Gv.of_body (args:=[.string (str s)]) Tryz.func10 rfl rfl ?_
 have hh:=hash_n s L hs
 unfold ptL
 cases hb:hshB s with
 |false=>
  rw [hb] at hh
  refine kW ?_
  refine cP rfl rfl hh ?_
  refine kW ?_
  exact kE
 |true=>
  have hl:=hsh_len hb
  rw [hb] at hh
  refine kW ?_
  refine cP rfl rfl hh ?_
  refine kW ?_
  refine WC_drawAll [] mixed ?_
  (refine WR_t 0 ?_)
  refine cT 1 rfl rfl (EV_cutL s 0 2 rfl rfl rfl (by omega) (by omega)) ?_
  refine cT 2 rfl rfl (EV_catL sObj (s.take 2) rfl rfl (by simp [sObj];omega)) ?_
  refine cT 3 rfl rfl (EV_catL (sObj++s.take 2) [47] rfl rfl (by simp [sObj];omega)) ?_
  (refine WR_t 4 ?_)
  refine cT 5 rfl rfl (EV_cutL s 2 s.length rfl rfl rfl (by omega) (Nat.le_refl _)) ?_
  rw [List.take_of_length_le (l:=s.drop 2) (i:=s.length - 2) (by rw [List.length_drop];exact Nat.le_refl _)]
  refine cT 6 rfl rfl (EV_catL (sObj++s.take 2++[47]) (s.drop 2) rfl rfl (by simp [sObj];omega)) ?_
  (refine WR_t 7 ?_)
  refine cD ?_
  refine kW ?_
  exact kE
theorem zl_okM {b o:List UInt8} {level:Int} {m:Nat} (h:RwO b level o) (A:Nat) (hA:A=(adlV (adlN (1#32,0#32) b)).toNat) (hm:b.length≤m) :
 zlE ([120,flB level]++o++be4 A) m=0∧usd ([120,flB level]++o++be4 A) m=o.length∧(rawS (([120,flB level]++o++be4 A).drop 2) m).out=b:=by
 obtain ⟨x,q,rfl,hx,hc9,_,_⟩:=h
 have hA2:A < 4294967296:=by rw [hA];exact (adlV (adlN (1#32,0#32) b)).isLt
 have hd:([120,flB level]++wrB x q++be4 A).drop 2=wrB x q++be4 A:=rfl
 have hr:=raw_all (z:=be4 A) hc9 hx hm
 have hl:(wrB x q).length=(itL (wrI x q)+7) / 8:=leB_length _ _
 have hu:usd ([120,flB level]++wrB x q++be4 A) m=(wrB x q).length:=by
  unfold usd
  rw [hd,hr,hl]
 have ho:(rawS (([120,flB level]++wrB x q++be4 A).drop 2) m).out=b:=by rw [hd,hr]
 refine ⟨?_,hu,ho⟩
 have hlen:([120,flB level]++wrB x q++be4 A).length=2+(wrB x q).length+4:=by
  simp [be4];omega
 have hbt:∀k,byt ([120,flB level]++wrB x q++be4 A) (2+(wrB x q).length+k)=((be4 A).getD k 0).toNat:=fun k=>by
  unfold byt
  rw [List.getD_eq_getElem?_getD,List.getElem?_append_right (by simp;omega),show 2+(wrB x q).length+k - ([120,flB level]++wrB x q).length=k from by simp;omega,←List.getD_eq_getElem?_getD]
 have b0:=hbt 0
 rw [Nat.add_zero] at b0
 have hh:hdK (byt ([120,flB level]++wrB x q++be4 A) 0) (byt ([120,flB level]++wrB x q++be4 A) 1)=true:=by
  show hdK 120 (flB level).toNat=true
  unfold flB
  split
  ·decide
  ·split<;>decide
 unfold zlE
 rw [if_neg (by omega),if_neg (by rw [hh];decide),hd,hr,if_neg (fun h=>h rfl),hu,if_neg (by omega),b0,hbt 1,hbt 2,hbt 3,if_neg]
 unfold adS
 rw [hd,hr,←hA]
 intro hne
 apply hne
 simp only [be4,List.getD_cons_zero,List.getD_cons_succ,wdN,UInt8.toNat_ofNat']
 omega
structure FlO (k:Nat) (b z:List UInt8):Prop where
 e:psE z=0
 k:psK (psO z)=k
 b:psB (psO z)=b
 l:6≤z.length∧z.length≤500000
theorem file_n (k:Nat) (v:Value) (b:List UInt8) (L:List Chunk) (h1:1≤k) (h2:k≤4) (hl:b.length≤5000) (hv:Rs L 1 v b.length (bsv b)) (hb:BsAt L) (hor:OrAt L) :
 Gv Tryz.prog 8 [.int .i64 (k:Int),v].toArray L (fun r L'=>∃C z,FlO k b z∧Ow 5 1 r z.length (bsv z) C∧L'=C::L):=by
 obtain ⟨va,vc,rfl,hroom⟩:=hv.room
 refine Gv.of_body (args:=[.int .i64 (k:Int),.slice va b.length vc]) Tryz.func8 rfl rfl ?_
 refine kW ?_
 refine cC rfl rfl (header_n (k:Int) (b.length:Int) L hb (by omega)) (fun r L' hp=>?_)
 obtain ⟨C,ho,rfl⟩:=hp
 have hhl:=hdL_len (k:Int) (b.length:Int) (by omega)
 refine kW ?_
 refine OW_appG rfl rfl ho (sl_there hv.sl) (by repeat (first|exact Zip.here _|apply Zip.there)) (by rfl) bsv_ones (by omega) (by unfold maxLen;omega) rfl (fun v1 C1 g1=>?_)
 rw [←bsv_append,←List.length_append] at g1
 refine kW ?_
 have hlen:(hdL (k:Int) (b.length:Int)++b).length≤5028:=by rw [List.length_append];omega
 refine cC rfl rfl (zlibA_n v1 2 (hdL (k:Int) (b.length:Int)++b) _ ⟨g1.sl,g1.room⟩ (by omega) (by repeat (first|exact hor|apply OrAt.there))) (fun r L' hp=>?_)
 obtain ⟨C2,o,hO,hol,g2,rfl⟩:=hp
 have hol2:=hO.len
 obtain ⟨z1,z2,z3⟩:=zl_okM (m:=65568) hO _ rfl (by omega)
 obtain ⟨z,hz⟩:∃z,z=[120,flB 2]++o++be4 (adlV (adlN (1#32,0#32) (hdL (k:Int) (b.length:Int)++b))).toNat:=⟨_,rfl⟩
 have hzl:z.length=2+o.length+4:=by rw [hz];simp [be4];omega
 rw [←hz] at z1 z2 z3 g2
 rw [←hzl] at g2
 refine kW ?_
 refine kR ?_
 have hk:=ps_hd h1 h2 b
 have hpo:psO z=hdL (k:Int) (b.length:Int)++b:=z3
 refine ⟨C2::L,iC,C2,z,⟨?_,by rw [hpo];exact hk.1,by rw [hpo];exact hk.2,by omega,by omega⟩,g2,rfl⟩
 unfold psE psF
 rw [z1,z2,hpo,hk.1,hk.2,if_neg (fun h=>h rfl),if_neg (fun h=>h.elim (by omega) (fun h=>h (by omega))),if_neg (by omega)]
theorem FlO.prK {k:Nat} {b z:List UInt8} (h:FlO k b z):prK z=k:=by unfold Go.Proofs.YtemdlifojcgplaaGreatDoor.prK;rw [if_pos h.e,h.k]
theorem FlO.prB {k:Nat} {b z:List UInt8} (h:FlO k b z):prB z=b:=by unfold Go.Proofs.YtemdlifojcgplaaGreatDoor.prB;rw [if_pos h.e,h.b]
end Go.Proofs.YtemdlifojcgplaaGreatDoor
namespace Go.Proofs.YtemdlifojcgplaaGreatDoor
open Go Go.Vx
variable [W0]
set_option maxRecDepth 4000
set_option linter.all false
theorem idx_c (s:ByteArray) (L:List Chunk):GvP Tryz.prog 123 [.string s,.int .u8 0].toArray L (.int .i64 (firstIdx s 0)):=by
 refine Gv.of_body Tryz.func123 rfl rfl ?_
 refine kW ?_
 refine OW_EV (OW_extern (f:=172) rfl rfl Tryz.func172 (by kernel_rfl) (by kernel_rfl) (by kernel_rfl) rfl (fun w _=>run_indexByte_string s 0 w)) rfl ?_
 refine kW ?_
 exact kE
theorem idx_b (s:ByteArray) (L:List Chunk):GvP Tryz.prog 80 [.string s,.int .u8 0].toArray L (.int .i64 (firstIdx s 0)):=by
 refine Gv.of_body Tryz.func80 rfl rfl ?_
 refine kW ?_
 refine cP rfl rfl (idx_c s _) ?_
 refine kW ?_
 exact kE
theorem cmp_c (s r:ByteArray) (L:List Chunk):GvP Tryz.prog 124 [.string s,.string r].toArray L (.int .i64 (Lib.compareBytes s.data.toList r.data.toList)):=by
 refine Gv.of_body Tryz.func124 rfl rfl ?_
 refine kW ?_
 refine OW_EV (OW_extern (f:=173) rfl rfl Tryz.func173 (by kernel_rfl) (by kernel_rfl) (by kernel_rfl) rfl (fun w _=>Lib.run_compareString s r w)) rfl ?_
 refine kW ?_
 exact kE
theorem cmp_b (s r:ByteArray) (L:List Chunk):GvP Tryz.prog 83 [.string s,.string r].toArray L (.int .i64 (Lib.compareBytes s.data.toList r.data.toList)):=by
 refine Gv.of_body Tryz.func83 rfl rfl ?_
 refine kW ?_
 refine cP rfl rfl (cmp_c s r _) ?_
 refine kW ?_
 exact kE
theorem cmp_a (s r:ByteArray) (f:Value) (L:List Chunk) (hf:f.oneCell'=true):GvP Tryz.prog 82 [.agg #[.string s,f],.string r].toArray L (.int .i64 (Lib.compareBytes s.data.toList r.data.toList)):=by
 refine Gv.of_body Tryz.func82 rfl rfl ?_
 (refine kW ?_;refine kU fun bk=>?_;refine kW ?_)
 refine cP rfl rfl (cmp_b s r _) ?_
 refine kW ?_
 exact kE
omit [W0] in
def nameOk (s:ByteArray):Bool:=decide (1≤s.size)&&decide (s.size≤200)&&decide (firstIdx s 0 < 0)
theorem valid_1 (s:ByteArray) (L:List Chunk):GvP Tryz.prog 49 [.string s].toArray L (.bool (nameOk s)):=by
 refine Gv.of_body Tryz.func49 rfl rfl ?_
 (repeat' first|refine kW ?_|refine kU fun bk=>?_|refine kV fun hc=>?_|refine kZ (fun hc=>?_) fun hc=>?_|fail)
 ·refine cP rfl rfl (idx_b s _) ?_
  refine kW ?_
  refine kR ?_
  refine ⟨_,iC,?_,rfl⟩
  have h3:1≤s.size:=by omega
  have h4:s.size≤200:=by omega
  simp [tupled,nameOk,h3,h4]
 ·refine kR ?_
  refine ⟨_,iC,?_,rfl⟩
  have h4:¬s.size≤200:=by omega
  simp [tupled,nameOk,h4]
 ·refine kR ?_
  refine ⟨_,iC,?_,rfl⟩
  have h4:¬1≤s.size:=by omega
  simp [tupled,nameOk]
  intro h;omega
end Go.Proofs.YtemdlifojcgplaaGreatDoor
namespace Go.Vx
open Go
set_option linter.all false
def kcmp (a b:ByteArray):Int:=Lib.compareBytes a.data.toList b.data.toList
theorem cb_eq:∀(a b:List UInt8),Lib.compareBytes a b=0↔a=b
 |[],[]=>by simp [Lib.compareBytes]
 |[],_::_=>by simp [Lib.compareBytes]
 |_::_,[]=>by simp [Lib.compareBytes]
 |a::la,b::bs=>by
  unfold Lib.compareBytes
  have ih:=cb_eq la bs
  by_cases h1:a < b
  ·have:a≠b:=by intro e;subst e;exact absurd h1 (UInt8.lt_irrefl a)
   simp [h1,this]
  ·by_cases h2:b < a
   ·have:a≠b:=by intro e;subst e;exact absurd h2 (UInt8.lt_irrefl a)
    simp [h1,h2,this]
   ·have:a=b:=UInt8.le_antisymm (UInt8.not_lt.1 h2) (UInt8.not_lt.1 h1)
    subst this
    simp [h1,ih]
theorem cb_neg:∀(a b:List UInt8),Lib.compareBytes a b < 0↔0 < Lib.compareBytes b a
 |[],[]=>by simp [Lib.compareBytes]
 |[],_::_=>by simp [Lib.compareBytes]
 |_::_,[]=>by simp [Lib.compareBytes]
 |a::la,b::bs=>by
  unfold Lib.compareBytes
  have ih:=cb_neg la bs
  by_cases h1:a < b
  ·have h2:¬b < a:=fun h=>absurd (UInt8.lt_trans h1 h) (UInt8.lt_irrefl a)
   simp [h1,h2]
  ·by_cases h2:b < a
   ·simp [h1,h2]
   ·simp [h1,h2,ih]
theorem cb_trans:∀(a b c:List UInt8),Lib.compareBytes a b < 0→Lib.compareBytes b c < 0→Lib.compareBytes a c < 0
 |[],[],_,h,_=>by simp [Lib.compareBytes] at h
 |[],_::_,[],_,h=>by simp [Lib.compareBytes] at h
 |[],_::_,_::_,_,_=>by simp [Lib.compareBytes]
 |_::_,[],_,h,_=>by simp [Lib.compareBytes] at h
 |_::_,_::_,[],_,h=>by simp [Lib.compareBytes] at h
 |a::la,b::bs,c::cs,h1,h2=>by
  have ih:=cb_trans la bs cs
  unfold Lib.compareBytes at h1 h2 ⊢
  by_cases e1:a < b
  ·by_cases e2:b < c
   ·have:=UInt8.lt_trans e1 e2;simp [this]
   ·by_cases e3:c < b
    ·simp [e2,e3] at h2
    ·have:b=c:=UInt8.le_antisymm (UInt8.not_lt.1 e3) (UInt8.not_lt.1 e2)
     subst this;simp [e1]
  ·by_cases e1':b < a
   ·simp [e1,e1'] at h1
   ·have:a=b:=UInt8.le_antisymm (UInt8.not_lt.1 e1') (UInt8.not_lt.1 e1)
    subst this
    by_cases e2:a < c
    ·simp [e2]
    ·by_cases e3:c < a
     ·simp [e2,e3] at h2
     ·simp [e1] at h1
      simp [e2,e3] at h2 ⊢
      exact ih h1 h2
theorem kcmp_eq {a b:ByteArray}:kcmp a b=0↔a=b:=by
 unfold kcmp
 rw [cb_eq]
 constructor
 ·intro h;cases a;cases b;simp only [ByteArray.mk.injEq];exact Array.ext' h
 ·intro h;rw [h]
theorem kcmp_neg {a b:ByteArray}:kcmp a b < 0↔0 < kcmp b a:=cb_neg _ _
theorem kcmp_trans {a b c:ByteArray} (h1:kcmp a b < 0) (h2:kcmp b c < 0):kcmp a c < 0:=cb_trans _ _ _ h1 h2
theorem kcmp_irrefl {a:ByteArray}:¬kcmp a a < 0:=by have:kcmp a a=0:=kcmp_eq.2 rfl;omega
structure En where
 name:ByteArray
 file:Nat
def Asc:List En→Prop
 |[]=>True
 |e::r=>(∀x∈r,kcmp e.name x.name < 0)∧Asc r
def pos:List En→ByteArray→Nat
 |[],_=>0
 |e::r,s=>if kcmp e.name s < 0 then pos r s+1 else 0
def has (l:List En) (s:ByteArray):Bool:=l.any fun e=>decide (e.name=s)
theorem pos_le:∀(l:List En) (s:ByteArray),pos l s≤l.length
 |[],_=>by simp [pos]
 |e::r,s=>by unfold pos;have:=pos_le r s;split<;>simp<;>omega
theorem pos_spec:∀{l:List En} {s:ByteArray} {k:Nat} {e:En},Asc l→l[k]? =some e→(kcmp e.name s < 0↔k < pos l s)
 |[],_,_,_,_,h=>by simp at h
 |x::r,s,0,e,ha,h=>by
  simp at h;subst h
  unfold pos;split<;>simp_all
 |x::r,s,k+1,e,ha,h=>by
  have hr:r[k]? =some e:=by simpa using h
  have hm:e∈r:=List.mem_of_getElem? hr
  have ih:=pos_spec (s:=s) ha.2 hr
  unfold pos
  split
  ·rw [ih];omega
  ·rename_i hx
   constructor
   ·intro he;exact absurd (kcmp_trans (ha.1 e hm) he) hx
   ·intro h0;omega
theorem pos_unique {l:List En} {s:ByteArray} {i:Nat} (ha:Asc l) (hi:i≤l.length) (h1:∀k e,k < i→l[k]? =some e→kcmp e.name s < 0) (h2:∀k e,i≤k→l[k]? =some e→¬kcmp e.name s < 0):pos l s=i:=by
 have hp:=pos_le l s
 rcases Nat.lt_trichotomy (pos l s) i with h|h|h
 ·have hlt:pos l s < l.length:=by omega
  have hg:l[pos l s]? =some l[pos l s]:=by simp [hlt]
  have:=(pos_spec (s:=s) ha hg).1 (h1 _ _ h hg)
  omega
 ·exact h
 ·have hlt:i < l.length:=by omega
  have hg:l[i]? =some l[i]:=by simp [hlt]
  exact absurd ((pos_spec (s:=s) ha hg).2 h) (h2 _ _ (Nat.le_refl _) hg)
theorem asc_get:∀{l:List En} {i j:Nat} {a b:En},Asc l→i < j→l[i]? =some a→l[j]? =some b→kcmp a.name b.name < 0
 |[],_,_,_,_,_,_,h,_=>by simp at h
 |x::r,0,j+1,a,b,ha,_,h1,h2=>by
  simp at h1;subst h1
  exact ha.1 b (List.mem_of_getElem? (by simpa using h2))
 |x::r,i+1,j+1,a,b,ha,hij,h1,h2=>asc_get (i:=i) (j:=j) ha.2 (by omega) (by simpa using h1) (by simpa using h2)
 |x::r,i,0,a,b,ha,hij,h1,h2=>by omega
theorem pos_at {l:List En} {e:En} {k:Nat} (ha:Asc l) (hk:l[k]? =some e):pos l e.name=k:=by
 have hlt:k < l.length:=by
  rcases Nat.lt_or_ge k l.length with h|h
  ·exact h
  ·simp [List.getElem?_eq_none h] at hk
 refine pos_unique ha (by omega) (fun j x hj hx=>asc_get ha hj hx hk) (fun j x hj hx h=>?_)
 rcases Nat.lt_or_ge k j with h2|h2
 ·have h3:=asc_get ha h2 hk hx
  rw [kcmp_neg] at h3;omega
 ·have:j=k:=by omega
  subst this
  rw [hk] at hx;cases hx
  exact kcmp_irrefl h
theorem has_iff {l:List En} {s:ByteArray} (ha:Asc l):has l s=true↔∃e,l[pos l s]? =some e∧kcmp e.name s=0:=by
 unfold has
 rw [List.any_eq_true]
 constructor
 ·rintro ⟨e,hm,he⟩
  simp at he
  subst he
  obtain ⟨k,hk⟩:=List.getElem?_of_mem hm
  exact ⟨e,by rw [pos_at ha hk];exact hk,kcmp_eq.2 rfl⟩
 ·rintro ⟨e,hk,hz⟩
  exact ⟨e,List.mem_of_getElem? hk,by simpa using kcmp_eq.1 hz⟩
end Go.Vx
namespace Go.Proofs.YtemdlifojcgplaaGreatDoor
open Go Go.Vx
variable [W0]
set_option maxRecDepth 4000
set_option linter.all false
omit [W0] in
def ents:List En→List Value
 |[]=>[]
 |e::r=>.string e.name::.int .i64 (e.file:Int)::ents r
theorem ents_length:∀l:List En,(ents l).length=l.length * 2
 |[]=>rfl
 |e::r=>by simp [ents,ents_length r];omega
theorem ents_at:∀{l:List En} {k:Nat} {e:En},l[k]? =some e→(ents l)[k * 2]? =some (.string e.name)∧(ents l)[k * 2+1]? =some (.int .i64 (e.file:Int))
 |[],_,_,h=>by simp at h
 |x::r,0,e,h=>by simp at h;subst h;simp [ents]
 |x::r,k+1,e,h=>by
  have:=ents_at (l:=r) (k:=k) (by simpa using h)
  simpa [ents,Nat.add_mul,Nat.add_assoc] using this
theorem ents_append:∀a b:List En,ents (a++b)=ents a++ents b
 |[],b=>rfl
 |e::r,b=>by simp [ents,ents_append r b]
omit [W0] in
def NSl (L:List Chunk) (v:Value) (es:List En):Prop:=
 (v=.slice none 0 0∧es=[])∨∃b cap rest,v=.slice (some ⟨b,0,none⟩) es.length cap∧es.length≤cap∧Fnd L b (cl (ents es++rest) 95)
theorem getE_app {l r:List Value} {i:Nat} {v:Value} (h:l[i]? =some v):(l++r)[i]? =some v:=by
 have:i < l.length:=by
  rcases Nat.lt_or_ge i l.length with h'|h'
  ·exact h'
  ·simp [List.getElem?_eq_none h'] at h
 rw [List.getElem?_append_left this];exact h
theorem rdEn {L:List Chunk} {b:Nat} {T:TypeId} {es:List En} {rest:List Value} {k:Nat} {e:En} (hf:Fnd L b (cl (ents es++rest) T)) (hk:es[k]? =some e) :
 RdAt L ⟨b,k * 2,none⟩ [.string e.name,.int .i64 (e.file:Int)]:=by
 obtain ⟨h1,h2⟩:=ents_at hk
 refine .inr ⟨b,k * 2,_,T,(0,0),rfl,hf,fun j u hj=>?_⟩
 simp only [List.getElem?_toArray]
 match j,hj with
 |0,hj=>simp at hj;subst hj;exact getE_app h1
 |1,hj=>simp at hj;subst hj;exact getE_app h2
theorem search_1 (v:Value) (es:List En) (s:ByteArray) (L:List Chunk) (hv:NSl L v es) (ha:Asc es) (hlen:es.length≤4611686018427387904) :
 GvP Tryz.prog 81 [v,.string s,.func (.func 82) #[] #[]].toArray L (.tuple #[.int .i64 (pos es s:Int),.bool (has es s)]):=by
 refine Gv.of_body Tryz.func81 rfl rfl ?_
 rcases hv with ⟨rfl,rfl⟩|⟨b,cap,rest,rfl,hcap,hf⟩
 ·refine kW ?_
  refine WC_loop (X:=Unit) (fun _=>[(8,.int .i64 0),(9,.int .i64 0),(10,.int .i64 0)]) (fun _=>L) (fun _=>True) (fun _=>0) () trivial iS (fun w h=>h) ?_
  intro _ _
  refine kW ?_
  refine kR ?_
  exact ⟨_,iC,by simp [tupled,pos,has],rfl⟩
 ·have hr:∀k e,es[k]? =some e→k < es.length:=fun k e h=>by
   rcases Nat.lt_or_ge k es.length with h'|h'
   ·exact h'
   ·simp [List.getElem?_eq_none h'] at h
  refine kW ?_
  refine WC_loop (X:=Nat × Nat) (fun x=>[(0,.slice (some ⟨b,0,none⟩) es.length cap),(1,.string s),(2,.func (.func 82) #[] #[]),(8,.int .i64 (es.length:Int)),(9,.int .i64 (x.1:Int)),(10,.int .i64 (x.2:Int))])
   (fun _=>L) (fun x=>x.1≤x.2∧x.2≤es.length∧(∀k e,k < x.1→es[k]? =some e→kcmp e.name s < 0)∧(∀k e,x.2≤k→es[k]? =some e→¬kcmp e.name s < 0)) (fun x=>x.2 - x.1) (0,es.length)
   ⟨Nat.zero_le _,Nat.le_refl _,fun k e h=>by omega,fun k e h he=>by simp [List.getElem?_eq_none h] at he⟩ iS (fun w h=>h) ?_
  rintro ⟨i,j⟩ ⟨hij,hj,hlo,hhi⟩
  (repeat' first|refine kW ?_|refine kU fun bk=>?_|refine kV fun hc=>?_|refine kZ (fun hc=>?_) fun hc=>?_|fail)
  ·have hm:(i+j) / 2 < es.length:=by omega
   obtain ⟨e,he⟩:∃e,es[(i+j) / 2]? =some e:=⟨es[(i+j) / 2],by simp [hm]⟩
   refine OW_EV (EV_indexAddr0 (j:=(i+j) / 2) rfl rfl (by omega) hm) rfl ?_
   refine kW ?_
   refine OW_EV (EV_loadAgg rfl (rdEn hf he) rfl) rfl ?_
   refine kW ?_
   refine cP rfl rfl (cmp_a e.name s _ _ rfl) ?_
   (repeat' first|refine kW ?_|refine kU fun bk=>?_|refine kV fun hc=>?_|refine kZ (fun hc=>?_) fun hc=>?_|fail)
   ·refine WQ_round ((i+j) / 2+1,j) (by simp;omega) ⟨by simp;omega,hj,fun k x hk hx=>?_,hhi⟩ iS (fun w h=>h)
    have hc2:kcmp e.name s < 0:=by assumption
    rcases Nat.lt_or_ge k ((i+j) / 2) with h2|h2
    ·exact kcmp_trans (asc_get ha h2 hx he) hc2
    ·have:k=(i+j) / 2:=by simp at hk;omega
     subst this
     rw [he] at hx;cases hx;exact hc2
   ·refine WQ_round (i,(i+j) / 2) (by simp;omega) ⟨by simp;omega,by simp;omega,hlo,fun k x hk hx hlt=>?_⟩ iS (fun w h=>h)
    have hc2:¬kcmp e.name s < 0:=by assumption
    rcases Nat.lt_or_ge ((i+j) / 2) k with h2|h2
    ·exact hc2 (kcmp_trans (asc_get ha h2 he hx) hlt)
    ·have:k=(i+j) / 2:=by simp at hk;omega
     subst this
     rw [he] at hx;cases hx;exact hc2 hlt
  ·have hi:pos es s=i:=pos_unique ha (by simp at hij hj;omega) hlo (fun k e hk=>hhi k e (by simp;omega))
   have hm:i < es.length:=by omega
   obtain ⟨e,he⟩:∃e,es[i]? =some e:=⟨es[i],by simp [hm]⟩
   refine OW_EV (EV_indexAddr0 (j:=i) rfl rfl (by omega) hm) rfl ?_
   refine kW ?_
   refine OW_EV (EV_loadAgg rfl (rdEn hf he) rfl) rfl ?_
   refine kW ?_
   refine cP rfl rfl (cmp_a e.name s _ _ rfl) ?_
   refine kW ?_
   refine kR ?_
   refine ⟨_,iC,?_,rfl⟩
   have hh:has es s=(kcmp e.name s == 0):=by
    rw [Bool.eq_iff_iff,has_iff ha,hi]
    simp only [he,Option.some.injEq,beq_iff_eq]
    exact ⟨fun ⟨x,hx,h0⟩=>by subst hx;exact h0,fun h0=>⟨e,rfl,h0⟩⟩
   rw [hh,hi]
   rfl
  ·have hi:pos es s=i:=pos_unique ha (by simp at hij hj;omega) hlo (fun k e hk=>hhi k e (by simp;omega))
   refine kR ?_
   refine ⟨_,iC,?_,rfl⟩
   have hh:has es s=false:=by
    rw [Bool.eq_false_iff]
    intro h
    obtain ⟨e,he,_⟩:=(has_iff ha).1 h
    have:=hr _ _ he
    omega
   rw [hh,hi]
   rfl
theorem find_1 (v:Value) (es:List En) (s:ByteArray) (L:List Chunk) (hv:NSl L v es) (ha:Asc es) (hlen:es.length≤4611686018427387904) :
 GvP Tryz.prog 50 [v,.string s].toArray L (.tuple #[.int .i64 (pos es s:Int),.bool (has es s)]):=by
 refine Gv.of_body Tryz.func50 rfl rfl ?_
 refine kW ?_
 refine cP rfl rfl (search_1 v es s _ hv ha hlen) ?_
 refine kW ?_
 exact kE
theorem Holds_ne {w:World} {C:Chunk} {L:List Chunk} {b b':Nat} {o o':Obj} (hw:Holds w (C::L)) (h1:(b,o)∈C) (h2:Fnd L b' o'):b≠b':=by
 have h:=hw.1
 simp only [List.flatten_cons,List.map_append,List.nodup_append] at h
 intro e
 exact h.2.2 b (List.mem_map_of_mem (f:=Prod.fst) h1) b' (List.mem_map_of_mem (f:=Prod.fst) h2) e
theorem patch_mid {a x y c:List Value} {off:Nat} (ho:off=a.length) (hl:y.length=x.length):patch (a++(x++c)) off y=a++(y++c):=by
 subst ho
 unfold patch
 rw [List.take_left]
 have:a.length+y.length=(a++x).length:=by simp [hl]
 rw [this,←List.append_assoc a x c,List.drop_left]
 simp
theorem ents_ones:∀l:List En,ones (ents l)=true
 |[]=>rfl
 |e::r=>by have:=ents_ones r;simp only [ones,ents,List.all_cons,Value.oneCell',Bool.true_and] at *;exact this
theorem ents_cons (e:En) (r:List En):ents (e::r)=ents [e]++ents r:=rfl
omit [W0] in
def insE (es:List En) (i:Nat) (e:En):List En:=es.take i++e::es.drop i
theorem insert_1 (v:Value) (es:List En) (i:Nat) (e:En) (bn:Nat) (C:Chunk) (L:List Chunk) (hi:i≤es.length) (hown:Ow 95 2 v es.length (ents es) C) (hlen:es.length≤1000000) :
 Gv Tryz.prog 125 [v,.int .i64 (i:Int),.slice (some ⟨bn,0,none⟩) 1 1].toArray ([(bn,cl (ents [e]) 95)]::C::L)
  (fun r L'=>∃C',L'=C'::L∧Ow 95 2 r (es.length+1) (ents (insE es i e)) C'):=by
 refine Gv.of_body Tryz.func125 rfl rfl ?_
 rcases hown with ⟨rfl,h0,h1,rfl⟩|⟨b,cap,rest,rfl,rfl,hxl,hrl,hmc,hcm⟩
 ·have he:es=[]:=List.eq_nil_of_length_eq_zero h0
  subst he
  have:i=0:=by simpa using hi
  subst this
  refine kW ?_
  refine OW_EV (EV_sliceNil rfl rfl rfl) rfl ?_
  refine kW ?_
  refine OW_append rfl rfl (e:=95) (k:=2) (m:=0) (xs:=[]) (C:=[]) (.inl ⟨rfl,rfl,rfl,rfl⟩) (c:=1) (ys:=ents [e]) (.inr ⟨_,_,rfl,RdAt.cl' (off:=0) Fnd.here rfl,rfl⟩) (by repeat (first|exact Zip.here _|apply Zip.there)) (by rfl) rfl (by omega) (by simp [maxLen]) rfl (fun v' C' ho hn1 hn2=>?_)
  refine kW ?_
  refine kR ?_
  exact ⟨C'::L,iC,C',rfl,by simpa [tupled,insE] using ho⟩
 ·have hz:(ents [e]).length=2:=rfl
  have htk:(es.take i).length=i:=by simp;omega
  have hxt:(ents (es.take i)).length=i * 2:=by rw [ents_length,htk]
  have hxd:(ents (es.drop i)).length=(es.length - i) * 2:=by rw [ents_length];simp
  have hes:ents es=ents (es.take i)++ents (es.drop i):=by rw [←ents_append,List.take_append_drop]
  refine kW ?_
  refine OW_EV (EV_sliceSl (l:=i) (h:=es.length) rfl rfl rfl hi hmc) rfl ?_
  (repeat' first|refine kW ?_|refine kU fun bk=>?_|refine kV fun hc=>?_|refine kZ (fun hc=>?_) fun hc=>?_|fail)
  ·have hin:i=es.length:=by omega
   refine OW_append rfl rfl (e:=95) (k:=2) (m:=es.length) (xs:=ents es) (.inr ⟨b,cap,rest,rfl,rfl,hxl,hrl,hmc,hcm⟩) (c:=1) (ys:=ents [e]) (.inr ⟨_,_,rfl,RdAt.cl' (off:=0) Fnd.here rfl,rfl⟩) (by repeat (first|exact Zip.here _|apply Zip.there)) (by rfl) rfl (by omega) (by simp only [maxLen];omega) rfl (fun v' C' ho hn1 hn2=>?_)
   refine kW ?_
   refine kR ?_
   refine ⟨C'::L,iC,C',rfl,?_⟩
   have:insE es i e=es++[e]:=by subst hin;simp [insE]
   rw [this,ents_append]
   exact ho
  ·have hlt:i < es.length:=by omega
   refine OW_EV (EV_sliceTo (h:=i) rfl rfl rfl (by omega)) rfl ?_
   refine kW ?_
   refine OW_appendZeros (c:=es.length+1 - i) (old:=ents (es.take i)) rfl (lk_int rfl (by omega)) (by rfl) (RdAt.cl' (l:=ents es++rest) (off:=0) (by repeat (first|assumption|exact Fnd.here|refine Fnd.there ?_)) ?_) hxt (by omega) (by omega) (by omega) rfl (fun b2 cap2 rest2 hcap2 hcm2 hrl2=>?_)
   ·unfold cut;rw [hxt,hes];simp only [List.drop_zero,List.append_assoc];rw [←hxt,List.take_left]
   obtain ⟨q,hq⟩:∃q,es.length+1 - i=q+1:=⟨es.length - i,by omega⟩
   have hcap3:i+(es.length+1 - i)=es.length+1:=by omega
   rw [hcap3] at hcap2 hrl2 ⊢
   refine kW ?_
   refine OW_EV (EV_sliceFrom0 (l:=i) (h:=es.length+1) rfl rfl rfl (by omega) (by omega) (by omega)) rfl ?_
   refine kW ?_
   rw [hq]
   refine OW_copyTo (sl:=1) (zs:=ents [e]) (ents (es.take i)++(ents [e]++(zeros [.string ByteArray.empty,.int .i64 0] q++rest2))) rfl rfl (.inr ⟨_,_,rfl,RdAt.cl' (off:=0) (by repeat (first|assumption|exact Fnd.here|refine Fnd.there ?_)) rfl,rfl⟩) (by rw [List.take_of_length_le (by rw [hz];omega)];rfl) ?_ iU ?_ rfl ?_
   ·rw [show min 1 (q+1) * 2=2 from by omega]
    show patch (ents (es.take i)++([.string ByteArray.empty,.int .i64 0]++zeros [.string ByteArray.empty,.int .i64 0] q)++rest2) (i * 2) (ents [e])=_
    rw [List.append_assoc,List.append_assoc]
    exact patch_mid hxt.symm rfl
   ·simp only [List.length_append,hxt,zeros_length]
    have:(Value.agg #[Value.string ByteArray.empty,Value.int IntKind.i64 0]).cells.toList.length=2:=rfl
    rw [this];omega
   refine kW ?_
   refine WC_drawAll [8] mixed ?_
   (refine WR_t 0 ?_;refine WR_t 1 ?_;refine WR_t 2 ?_;refine WR_t 3 ?_)
   refine cT 4 rfl rfl (EV_sliceFrom0 (l:=i+1) (h:=es.length+1) rfl (bnd_int rfl (by omega)) rfl (by omega) (by omega) (by omega)) ?_
   (refine WR_t 5 ?_;refine WR_t 6 ?_)
   refine cT 7 rfl rfl (EV_sliceFrom0 (l:=i) (h:=es.length) rfl rfl rfl (by omega) (by omega) (by omega)) ?_
   refine cL 8 rfl rfl rfl ?_
   have hq2:es.length - i=q:=by omega
   refine OW_copyTo (sl:=es.length - i) (zs:=ents (es.drop i)) (ents (insE es i e)++rest2) rfl rfl (.inr ⟨_,_,rfl,RdAt.cl' (l:=ents es++rest) (by repeat (first|assumption|exact Fnd.here|refine Fnd.there ?_)) ?_,hxd⟩) ?_ ?_ iU ?_ rfl ?_
   ·unfold cut
    rw [hes,List.append_assoc,←hxt,List.drop_left,List.take_left]
   ·rw [List.take_of_length_le (by rw [hxd];omega)];exact ents_ones _
   ·have e1:(ents (es.drop i)).take (min (es.length - i) (es.length+1 - (i+1)) * 2)=ents (es.drop i):=List.take_of_length_le (by rw [hxd];omega)
    rw [e1,←List.append_assoc]
    rw [patch_mid (by rw [List.length_append,hxt];show (i+1) * 2=i * 2+2;omega) (by rw [hxd,zeros_length,hq2];rfl)]
    unfold insE
    rw [ents_append,ents_cons e (es.drop i)]
    simp only [List.append_assoc]
   ·simp only [List.length_append,hxt,zeros_length,hz]
    have:([Value.string ByteArray.empty,Value.int IntKind.i64 0]:List Value).length=2:=rfl
    rw [this,show es.length+1 - (i+1)=es.length - i from by omega,Nat.min_self];omega
   refine cD ?_
   refine kW ?_
   refine kR ?_
   refine ⟨_::L,iC,_,rfl,.inr ⟨b2,cap2,rest2,rfl,rfl,?_,hrl2,hcap2,hcm2⟩⟩
   rw [ents_length];simp [insE];omega
  ·have hlt:i < es.length:=by omega
   have hroom:es.length+1≤cap:=by omega
   refine OW_EV (EV_sliceTo (h:=es.length+1) rfl rfl (bnd_int rfl (by omega)) (by omega)) rfl ?_
   refine kW ?_
   refine OW_EV (EV_sliceFrom0 (l:=i+1) (h:=es.length+1) rfl (bnd_int rfl (by omega)) rfl (by omega) (by omega) (by omega)) rfl ?_
   refine kW ?_
   refine OW_EV (OW_extern (f:=174) (v:=.bool false) rfl rfl Tryz.func174 (by kernel_rfl) (by kernel_rfl) (by kernel_rfl) rfl (fun w hw=>?_)) rfl ?_
   ·have hb1:w.heap[bn]? =_:=(Fnd.here:Fnd ([(bn,cl (ents [e]) 95)]::[(b,cl (ents es++rest) 95)]::L) bn _).get hw
    have hb2:w.heap[b]? =_:=((Fnd.here.there:Fnd ([(bn,cl (ents [e]) 95)]::[(b,cl (ents es++rest) 95)]::L) b (cl (ents es++rest) 95))).get hw
    refine Lib.run_overlaps_apart w 44 4 95 Tryz.underlying44 2 (fun w=>sizeOf_run (by kernel_rfl) w) ⟨bn,0,none⟩ ⟨b,_,none⟩ _ _ _ _ (Holds_ne (o:=cl (ents [e]) 95) hw (by simp) Fnd.here) 95 95 2 (cap * 2) ?_ ?_ (by omega) ?_ ?_
    ·simp [World.shape?,hb1,cl,ents]
    ·simp [World.shape?,hb2,cl,hxl,hrl];omega
    ·simp [World.frozen?,hb1,cl]
    ·simp [World.frozen?,hb1,cl]
   refine kW ?_
   obtain ⟨y,r2,hr2,hy2⟩:∃y r2,rest=y++r2∧y.length=2:=⟨rest.take 2,rest.drop 2,(List.take_append_drop 2 rest).symm,by simp;omega⟩
   have hr2l:r2.length=(cap - (es.length+1)) * 2:=by
    have:=congrArg List.length hr2
    simp only [List.length_append,hy2,hrl] at this;omega
   obtain ⟨c2,hc2,hc2l⟩:∃c2,ents (es.drop i)++y=c2∧c2.length=(es.length+1 - i) * 2:=⟨_,rfl,by simp [hxd,hy2];omega⟩
   have hblk:ents es++rest=ents (es.take i)++(c2++r2):=by rw [hes,hr2,←hc2];simp only [List.append_assoc]
   obtain ⟨p2,q2,hpq,hp2⟩:∃p2 q2,c2=p2++q2∧p2.length=2:=⟨c2.take 2,c2.drop 2,(List.take_append_drop 2 c2).symm,by simp;omega⟩
   have hq2l:q2.length=(es.length - i) * 2:=by
    have:=congrArg List.length hpq
    simp only [List.length_append,hp2,hc2l] at this;omega
   refine WC_drawAll [8] mixed ?_
   (refine WR_t 0 ?_;refine WR_t 1 ?_;refine WR_t 2 ?_;refine WR_t 3 ?_)
   refine cT 4 rfl rfl (EV_sliceFrom0 (l:=i+1) (h:=es.length+1) rfl (bnd_int rfl (by omega)) rfl (by omega) (by omega) (by omega)) ?_
   (refine WR_t 5 ?_;refine WR_t 6 ?_)
   refine cT 7 rfl rfl (EV_sliceFrom0 (l:=i) (h:=es.length+1) rfl rfl rfl (by omega) (by omega) (by omega)) ?_
   refine cL 8 rfl rfl rfl ?_
   rw [hblk]
   refine OW_copyTo (sl:=es.length+1 - i) (zs:=c2) (ents (es.take i)++(p2++(ents (es.drop i)++r2))) rfl rfl (.inr ⟨_,_,rfl,RdAt.cl' (l:=ents (es.take i)++(c2++r2)) (by repeat (first|assumption|exact Fnd.here|refine Fnd.there ?_)) ?_,hc2l⟩) ?_ ?_ iU ?_ rfl ?_
   ·unfold cut
    rw [←hxt,List.drop_left,List.take_left]
   ·have e1:c2.take (min (es.length+1 - i) (es.length+1 - (i+1)) * 2)=ents (es.drop i):=by
     rw [show min (es.length+1 - i) (es.length+1 - (i+1)) * 2=(ents (es.drop i)).length from by rw [hxd];omega,←hc2,List.take_left]
    rw [e1];exact ents_ones _
   ·have e1:c2.take (min (es.length+1 - i) (es.length+1 - (i+1)) * 2)=ents (es.drop i):=by
     rw [show min (es.length+1 - i) (es.length+1 - (i+1)) * 2=(ents (es.drop i)).length from by rw [hxd];omega,←hc2,List.take_left]
    rw [e1,hpq,List.append_assoc,←List.append_assoc,patch_mid (by simp only [List.length_append,hxt,hp2];omega) (by rw [hxd,hq2l]),List.append_assoc]
   ·simp only [List.length_append,hxt,hc2l,hr2l];omega
   refine cD ?_
   refine kW ?_
   refine OW_EV (EV_sliceFrom0 (l:=i) (h:=es.length+1) rfl rfl rfl (by omega) (by omega) (by omega)) rfl ?_
   refine kW ?_
   refine OW_copyTo (sl:=1) (zs:=ents [e]) (ents (insE es i e)++r2) rfl rfl (.inr ⟨_,_,rfl,RdAt.cl' (off:=0) (by repeat (first|assumption|exact Fnd.here|refine Fnd.there ?_)) rfl,rfl⟩) (by rw [List.take_of_length_le (by rw [hz];omega)];rfl) ?_ iU ?_ rfl ?_
   ·rw [show min 1 (es.length+1 - i) * 2=2 from by omega]
    show patch _ _ (ents [e])=_
    rw [patch_mid hxt.symm (by rw [hz,hp2])]
    unfold insE
    rw [ents_append,ents_cons e (es.drop i)]
    simp only [List.append_assoc]
   ·simp only [List.length_append,hxt,hp2,hxd,hr2l];omega
   refine kW ?_
   refine kR ?_
   refine ⟨_::L,iC,_,rfl,.inr ⟨b,cap,r2,rfl,rfl,?_,hr2l,hroom,hcm⟩⟩
   rw [ents_length];simp [insE];omega
theorem delete_1 (v:Value) (es:List En) (i:Nat) (C:Chunk) (L:List Chunk) (hi:i < es.length) (hown:Ow 95 2 v es.length (ents es) C) (hlen:es.length≤1000000) :
 Gv Tryz.prog 126 [v,.int .i64 (i:Int),.int .i64 ((i:Int)+1)].toArray (C::L)
  (fun r L'=>∃C',L'=C'::L∧Ow 95 2 r (es.length - 1) (ents (es.eraseIdx i)) C'):=by
 refine Gv.of_body Tryz.func126 rfl rfl ?_
 rcases hown with ⟨rfl,h0,h1,rfl⟩|⟨b,cap,rest,rfl,rfl,hxl,hrl,hmc,hcm⟩
 ·omega
 ·have htk:(es.take i).length=i:=by simp;omega
  have hxt:(ents (es.take i)).length=i * 2:=by rw [ents_length,htk]
  have hxd:(ents (es.drop (i+1))).length=(es.length - (i+1)) * 2:=by rw [ents_length];simp
  obtain ⟨x,hes,hx2⟩:∃x,ents es=ents (es.take i)++(x++ents (es.drop (i+1)))∧x.length=2:=⟨ents [es[i]],by
   rw [←ents_append,←ents_append];congr 1
   simp,rfl⟩
  obtain ⟨w1,z2,hw,hz2⟩:∃w1 z2,x++ents (es.drop (i+1))=w1++z2∧z2.length=2:=
   ⟨(x++ents (es.drop (i+1))).take ((es.length - (i+1)) * 2),(x++ents (es.drop (i+1))).drop ((es.length - (i+1)) * 2),(List.take_append_drop _ _).symm,by simp [hx2,hxd]⟩
  have hw1:w1.length=(es.length - (i+1)) * 2:=by
   have:=congrArg List.length hw
   simp only [List.length_append,hx2,hxd,hz2] at this;omega
  refine kW ?_
  refine OW_EV (EV_slice3 (l:=i) (h:=i+1) (m:=es.length) rfl rfl (lk_int rfl (by omega)) rfl (by omega) (by omega) hmc) rfl ?_
  (refine kW ?_;refine kV fun hc=>?_;refine kW ?_)
  refine WC_drawAll [6,7] mixed ?_
  (refine WR_t 0 ?_;refine WR_t 1 ?_)
  refine cT 2 rfl rfl (EV_sliceTo (h:=i) rfl rfl rfl (by omega)) ?_
  (refine WR_t 3 ?_;refine WR_t 4 ?_)
  refine cT 5 rfl rfl (EV_sliceSl (l:=i+1) (h:=es.length) rfl (bnd_int rfl (by omega)) rfl (by omega) (by omega)) ?_
  refine cL 6 rfl rfl rfl ?_
  refine OW_appendRoomTo (m:=es.length - (i+1)) (ys:=ents (es.drop (i+1))) (ents (es.take i)++(ents (es.drop (i+1))++(z2++rest))) rfl rfl ?_ (ents_ones _) (by omega) ?_ iU ?_ rfl ?_
  ·refine .inr ⟨_,_,rfl,?_,hxd⟩
   by_cases hc:cap=i+1
   ·have:ents (es.drop (i+1))=[]:=List.eq_nil_of_length_eq_zero (by rw [hxd];omega)
    rw [this];exact .inl rfl
   ·rw [if_neg hc,Nat.zero_add]
    refine RdAt.cl' (l:=ents es++rest) (by repeat (first|assumption|exact Fnd.here|refine Fnd.there ?_)) ?_
    unfold cut
    rw [hes]
    have e1:ents (es.take i)++(x++ents (es.drop (i+1)))++rest=(ents (es.take i)++x)++(ents (es.drop (i+1))++rest):=by simp only [List.append_assoc]
    have e2:(i+1) * 2=(ents (es.take i)++x).length:=by simp only [List.length_append,hxt,hx2];omega
    rw [e1,e2,List.drop_left,List.take_left]
  ·rw [hes,hw]
   have e1:ents (es.take i)++(w1++z2)++rest=ents (es.take i)++(w1++(z2++rest)):=by simp only [List.append_assoc]
   rw [e1,patch_mid hxt.symm (by rw [hxd,hw1])]
  ·simp only [List.length_append,hxl,hrl,hxd];omega
  refine cL 7 rfl rfl rfl ?_
  refine kW ?_
  refine cD ?_
  refine kW ?_
  have hn1:i+(es.length - (i+1))=es.length - 1:=by omega
  rw [hn1]
  refine OW_EV (EV_sliceFrom0 (l:=es.length - 1) (h:=es.length) rfl rfl rfl (by omega) hmc (by omega)) rfl ?_
  have hn2:es.length - (es.length - 1)=1:=by omega
  rw [hn2]
  refine kW ?_
  refine OW_clearTo (ents (es.take i)++(ents (es.drop (i+1))++(zeros [.string ByteArray.empty,.int .i64 0] 1++rest))) rfl (by rfl) rfl ?_ iU ?_ ?_
  ·have e1:ents (es.take i)++(ents (es.drop (i+1))++(z2++rest))=(ents (es.take i)++ents (es.drop (i+1)))++(z2++rest):=by simp only [List.append_assoc]
   rw [e1,patch_mid (by simp only [List.length_append,hxt,hxd];omega) (by rw [hz2];rfl)]
   simp only [List.append_assoc]
   rfl
  ·simp only [List.length_append,hxt,hxd,hz2];omega
  refine kW ?_
  refine kR ?_
  have hee:ents (es.eraseIdx i)=ents (es.take i)++ents (es.drop (i+1)):=by rw [List.eraseIdx_eq_take_drop_succ,ents_append]
  refine ⟨_::L,iC,_,rfl,.inr ⟨b,cap,zeros [.string ByteArray.empty,.int .i64 0] 1++rest,rfl,?_,?_,?_,by omega,hcm⟩⟩
  ·rw [hee];simp only [List.append_assoc]
  ·rw [ents_length,List.length_eraseIdx_of_lt hi]
  ·simp only [List.length_append,hrl,zeros_length]
   have:([Value.string ByteArray.empty,Value.int IntKind.i64 0]:List Value).length=2:=rfl
   rw [this];omega
theorem nsl_of {v:Value} {es:List En} {C:Chunk} {L:List Chunk} (h:Ow 95 2 v es.length (ents es) C):NSl (C::L) v es:=by
 rcases h with ⟨rfl,h0,h1,rfl⟩|⟨b,cap,rest,rfl,rfl,hxl,hrl,hmc,hcm⟩
 ·exact .inl ⟨rfl,List.eq_nil_of_length_eq_zero h0⟩
 ·exact .inr ⟨b,cap,rest,rfl,hmc,Fnd.here⟩
omit [W0] in
def putE (es:List En) (s:ByteArray) (f:Nat):List En:=if has es s then es.set (pos es s) ⟨s,f⟩ else insE es (pos es s) ⟨s,f⟩
omit [W0] in
def dropE (es:List En) (s:ByteArray):List En:=es.eraseIdx (pos es s)
omit [W0] in
def fileE (es:List En) (s:ByteArray):Nat:=((es[pos es s]?).map En.file).getD 0
theorem has_get {es:List En} {s:ByteArray} (ha:Asc es) (h:has es s=true):∃f,es[pos es s]? =some ⟨s,f⟩∧fileE es s=f∧pos es s < es.length:=by
 obtain ⟨e,he,hz⟩:=(has_iff ha).1 h
 have:=kcmp_eq.1 hz
 subst this
 refine ⟨e.file,by rw [he],by simp [fileE,he],?_⟩
 rcases Nat.lt_or_ge (pos es e.name) es.length with h'|h'
 ·exact h'
 ·simp [List.getElem?_eq_none h'] at he
theorem ents_set:∀{es:List En} {i f:Nat} {e:En},es[i]? =some e→(ents es).set (i * 2+1) (.int .i64 (f:Int))=ents (es.set i ⟨e.name,f⟩)
 |[],_,_,_,h=>by simp at h
 |x::r,0,f,e,h=>by simp at h;subst h;simp [ents]
 |x::r,i+1,f,e,h=>by
  have:=ents_set (es:=r) (i:=i) (f:=f) (e:=e) (by simpa using h)
  have e2:(i+1) * 2+1=(i * 2+1)+1+1:=by omega
  rw [e2]
  simp [ents,this]
theorem put_1 (v:Value) (es:List En) (s:ByteArray) (f:Nat) (C:Chunk) (L:List Chunk) (hown:Ow 95 2 v es.length (ents es) C) (ha:Asc es) (hlen:es.length≤1000000) :
 Gv Tryz.prog 84 [v,.string s,.int .i64 (f:Int)].toArray (C::L)
  (fun r L'=>∃C',L'=C'::L∧Ow 95 2 r (putE es s f).length (ents (putE es s f)) C'):=by
 refine Gv.of_body Tryz.func84 rfl rfl ?_
 refine kW ?_
 refine cP rfl rfl (find_1 v es s _ (nsl_of hown) ha (by omega)) ?_
 cases hh:has es s
 ·refine kW ?_
  refine OW_buildSlice (cs:=ents [⟨s,f⟩]) rfl (by rfl) (by simp [fillL,patch,Value.cells,zeros,ents]) (by omega) rfl rfl (fun bn=>?_)
  refine kW ?_
  refine cC rfl rfl (insert_1 v es (pos es s) ⟨s,f⟩ bn C L (pos_le es s) hown hlen) (fun r L' hp=>?_)
  obtain ⟨C',rfl,ho⟩:=hp
  refine kW ?_
  refine kR ?_
  refine ⟨C'::L,iC,C',rfl,?_⟩
  have:putE es s f=insE es (pos es s) ⟨s,f⟩:=by simp [putE,hh]
  rw [this]
  have hl:(insE es (pos es s) ⟨s,f⟩).length=es.length+1:=by have:=pos_le es s;simp [insE];omega
  rw [hl];exact ho
 ·obtain ⟨g,hg,hfe,hlt⟩:=has_get ha hh
  rcases hown with ⟨rfl,h0,h1,rfl⟩|⟨b,cap,rest,rfl,rfl,hxl,hrl,hmc,hcm⟩
  ·omega
  ·refine kW ?_
   refine OW_EV (EV_indexAddr0 (j:=pos es s) rfl rfl rfl hlt) rfl ?_
   refine kW ?_
   refine kR ?_
   have hp:putE es s f=es.set (pos es s) ⟨s,f⟩:=by simp [putE,hh]
   have hset:=ents_set (f:=f) hg
   refine ⟨_::L,iC,_,rfl,.inr ⟨b,cap,rest,?_,?_,?_,?_,?_,hcm⟩⟩
   ·rw [hp,List.length_set];rfl
   ·rw [hp,←hset,List.set_append_left _ _ (by rw [hxl];omega)]
   ·rw [ents_length]
   ·rw [hp,List.length_set];exact hrl
   ·rw [hp,List.length_set];exact hmc
theorem drop_1 (v:Value) (es:List En) (s:ByteArray) (C:Chunk) (L:List Chunk) (hown:Ow 95 2 v es.length (ents es) C) (ha:Asc es) (hh:has es s=true) (hlen:es.length≤1000000) :
 Gv Tryz.prog 85 [v,.string s].toArray (C::L)
  (fun r L'=>∃C' v',r=.tuple #[v',.int .i64 (fileE es s:Int)]∧L'=C'::L∧Ow 95 2 v' (dropE es s).length (ents (dropE es s)) C'):=by
 refine Gv.of_body Tryz.func85 rfl rfl ?_
 obtain ⟨g,hg,hfe,hlt⟩:=has_get ha hh
 have hd:(dropE es s).length=es.length - 1:=by unfold dropE;rw [List.length_eraseIdx_of_lt hlt]
 refine kW ?_
 refine cP rfl rfl (find_1 v es s _ (nsl_of hown) ha (by omega)) ?_
 have hown2:=hown
 rcases hown2 with ⟨rfl,h0,h1,rfl⟩|⟨b,cap,rest,rfl,rfl,hxl,hrl,hmc,hcm⟩
 ·omega
 ·refine kW ?_
  refine OW_EV (EV_indexAddr0 (j:=pos es s) rfl rfl rfl hlt) rfl ?_
  refine kW ?_
  refine OW_EV (EV_loadc (v:=.int .i64 (g:Int)) rfl (by repeat (first|assumption|exact Fnd.here|refine Fnd.there ?_)) (by rw [nth_eq];exact getE_app (ents_at hg).2)) rfl ?_
  refine kW ?_
  refine cC rfl rfl (delete_1 _ es (pos es s) _ L hlt hown hlen) (fun r L' hp=>?_)
  obtain ⟨C',rfl,ho⟩:=hp
  refine kW ?_
  refine kR ?_
  refine ⟨C'::L,iC,C',r,?_,rfl,?_⟩
  ·rw [hfe];rfl
  ·rw [hd];exact ho
omit [W0] in
inductive Ch where
 |cr (s:ByteArray) (f:Nat)
 |rn (a b:ByteArray)
 |rm (a:ByteArray)
omit [W0] in
def chV:Ch→Value
 |.cr s f=>.iface 64 (.agg #[.string s,.int .i64 (f:Int)])
 |.rn a b=>.iface 126 (.agg #[.string a,.string b])
 |.rm a=>.iface 131 (.agg #[.string a])
omit [W0] in
def chOk (es:List En):Ch→Bool
 |.cr _ _=>true
 |.rn a _=>has es a
 |.rm a=>has es a
omit [W0] in
def afterE (es:List En):Ch→List En
 |.cr s f=>putE es s f
 |.rn a b=>putE (dropE es a) b (fileE es a)
 |.rm a=>dropE es a
theorem asc_erase:∀{es:List En} (i:Nat),Asc es→Asc (es.eraseIdx i)
 |[],i,_=>by simp [Asc]
 |e::r,0,h=>by simpa using h.2
 |e::r,i+1,h=>by
  simp only [List.eraseIdx_cons_succ]
  exact ⟨fun x hx=>h.1 x (List.mem_of_mem_eraseIdx hx),asc_erase i h.2⟩
theorem asc_drop {es:List En} (s:ByteArray) (h:Asc es):Asc (dropE es s):=asc_erase _ h
theorem after_1 (v:Value) (es:List En) (c:Ch) (C:Chunk) (L:List Chunk) (hown:Ow 95 2 v es.length (ents es) C) (ha:Asc es) (hc:chOk es c=true) (hlen:es.length≤1000000) :
 Gv Tryz.prog 51 [v,chV c].toArray (C::L)
  (fun r L'=>∃C',L'=C'::L∧Ow 95 2 r (afterE es c).length (ents (afterE es c)) C'):=by
 refine Gv.of_body Tryz.func51 rfl rfl ?_
 cases c with
 |cr s f=>
  (refine kW ?_;refine kU fun bk=>?_;refine kW ?_)
  refine cC rfl rfl ((put_1 v es s f C _ hown ha hlen).take (by repeat (first|exact Take.here|apply Take.there))) (fun r L' hp=>?_)
  obtain ⟨C',rfl,ho⟩:=hp
  refine kW ?_
  refine kR ?_
  exact ⟨C'::L,iC,C',rfl,ho⟩
 |rn a b=>
  (refine kW ?_;refine kU fun bk=>?_;refine kW ?_;refine kU fun bk=>?_;refine kW ?_)
  refine cC rfl rfl ((drop_1 v es a C _ hown ha hc hlen).take (by repeat (first|exact Take.here|apply Take.there))) (fun r L' hp=>?_)
  obtain ⟨C',v',rfl,rfl,ho⟩:=hp
  refine kW ?_
  have hle:(dropE es a).length≤1000000:=by unfold dropE;have:=List.length_eraseIdx_le es (pos es a);omega
  refine cC rfl rfl ((put_1 v' (dropE es a) b (fileE es a) C' _ ho (asc_drop a ha) hle).take (by repeat (first|exact Take.here|apply Take.there))) (fun r L' hp=>?_)
  obtain ⟨C2,rfl,ho2⟩:=hp
  refine kW ?_
  refine kR ?_
  exact ⟨C2::L,iC,C2,rfl,ho2⟩
 |rm a=>
  (refine kW ?_;refine kU fun bk=>?_;refine kW ?_;refine kU fun bk=>?_;refine kW ?_;refine kU fun bk=>?_;refine kW ?_)
  refine cC rfl rfl ((drop_1 v es a C _ hown ha hc hlen).take (by repeat (first|exact Take.here|apply Take.there))) (fun r L' hp=>?_)
  obtain ⟨C',v',rfl,rfl,ho⟩:=hp
  refine kW ?_
  refine kR ?_
  exact ⟨C'::L,iC,C',rfl,ho⟩
omit [W0] in
structure Fi where
 data:List UInt8
 synced:Nat
omit [W0] in
structure Fsy where
 quota:Nat
 files:List Fi
 names:List En
 durable:List En
 journal:List Ch
 left:Int
 dead:Bool
omit [W0] in
def fcl:List Fi→List Value→List Value
 |f::fs,v::vs=>v::.int .i64 (f.synced:Int)::fcl fs vs
 |_,_=>[]
theorem fcl_length:∀{fs:List Fi} {vs:List Value},vs.length=fs.length→(fcl fs vs).length=fs.length * 2
 |[],[],_=>rfl
 |f::fs,v::vs,h=>by
  have:=fcl_length (fs:=fs) (vs:=vs) (by simpa using h)
  simp [fcl,this];omega
theorem fcl_at:∀{fs:List Fi} {vs:List Value} {i:Nat} {f:Fi} {v:Value},fs[i]? =some f→vs[i]? =some v→(fcl fs vs)[i * 2]? =some v∧(fcl fs vs)[i * 2+1]? =some (.int .i64 (f.synced:Int))
 |[],_,_,_,_,h,_=>by simp at h
 |_::_,[],_,_,_,_,h=>by simp at h
 |f::fs,v::vs,0,_,_,h1,h2=>by simp at h1 h2;subst h1 h2;simp [fcl]
 |f::fs,v::vs,i+1,_,_,h1,h2=>by
  have:=fcl_at (fs:=fs) (vs:=vs) (i:=i) (by simpa using h1) (by simpa using h2)
  simpa [fcl,Nat.add_mul,Nat.add_assoc] using this
theorem fcl_append:∀{fs:List Fi} {vs:List Value} {gs:List Fi} {us:List Value},vs.length=fs.length→fcl (fs++gs) (vs++us)=fcl fs vs++fcl gs us
 |[],[],gs,us,_=>by simp [fcl]
 |f::fs,v::vs,gs,us,h=>by
  have:=fcl_append (fs:=fs) (vs:=vs) (gs:=gs) (us:=us) (by simpa using h)
  simp [fcl,this]
omit [W0] in
structure FR (fs:List Fi) (vs:List Value) (Cs:List Chunk):Prop where
 lv:vs.length=fs.length
 lc:Cs.length=fs.length
 at_:∀(i:Nat) (f:Fi),fs[i]? =some f→∃v C,vs[i]? =some v∧Cs[i]? =some C∧Ow 5 1 v f.data.length (bsv f.data) C
omit [W0] in
def hdrO (S:Fsy) (fv nv dv jv:Value):Obj:=cl [.int .i64 (S.quota:Int),fv,nv,dv,jv,.int .i64 S.left,.bool S.dead] 47
omit [W0] in
def hdr (S:Fsy) (p:Nat) (fv nv dv jv:Value):Chunk:=[(p,hdrO S fv nv dv jv)]
omit [W0] in
def spendS (S:Fsy):Fsy:=if S.dead=true∨S.left=0 then { S with dead:=true } else if S.left > 0 then { S with left:=S.left - 1 } else S
omit [W0] in
def spendE (S:Fsy):Int:=if S.dead=true∨S.left=0 then 50 else 0
theorem spend_1 (S:Fsy) (p:Nat) (fv nv dv jv:Value) (L:List Chunk) (hl: -9223372036854775808≤S.left∧S.left≤9223372036854775807) :
 Gv Tryz.prog 24 [.pointer (some ⟨p,0,none⟩)].toArray (hdr S p fv nv dv jv::L) (fun r L'=>r=.int .i64 (spendE S)∧L'=hdr (spendS S) p fv nv dv jv::L):=by
 obtain ⟨q,fs,ns,ds,js,left,dead⟩:=S
 refine Gv.of_body Tryz.func24 rfl rfl ?_
 simp only [hdr,hdrO] at *
 cases dead
 ·(repeat' first|refine kW ?_|refine kU fun bk=>?_|refine kV fun hc=>?_|refine kZ (fun hc=>?_) fun hc=>?_|fail)
  ·refine kR ?_
   have h0:left=0:=by assumption
   exact ⟨_,iC,by simp [tupled,spendE,h0],by simp [spendS,h0]⟩
  ·refine kR ?_
   have h0:¬left=0:=by assumption
   have h1:left > 0:=by assumption
   exact ⟨_,iC,by simp [tupled,spendE,h0],by simp [spendS,h0,h1]⟩
  ·refine kR ?_
   have h0:¬left=0:=by assumption
   have h1:¬left > 0:=by assumption
   exact ⟨_,iC,by simp [tupled,spendE,h0],by simp [spendS,h0,h1]⟩
 ·refine kW ?_
  refine kR ?_
  exact ⟨_,iC,by simp [tupled,spendE],by simp [spendS]⟩
omit [W0] in
def openE (S:Fsy) (s:ByteArray):Int:=if S.dead=true then 50 else if nameOk s=false then 1 else if has S.names s=false then 61 else 0
omit [W0] in
def openN (S:Fsy) (s:ByteArray):Nat:=if openE S s=0 then fileE S.names s else 0
theorem nsl_there {L:List Chunk} {C:Chunk} {v:Value} {es:List En} (h:NSl L v es):NSl (C::L) v es:=by
 rcases h with h|⟨b,cap,rest,h1,h2,h3⟩
 ·exact .inl h
 ·exact .inr ⟨b,cap,rest,h1,h2,h3.there⟩
theorem open_1 (S:Fsy) (p:Nat) (fv nv dv jv:Value) (s:ByteArray) (L:List Chunk) (hp:Fnd L p (hdrO S fv nv dv jv)) (hn:NSl L nv S.names) (ha:Asc S.names) (hl:S.names.length≤100000) :
 GvP Tryz.prog 23 [.pointer (some ⟨p,0,none⟩),.string s].toArray L (.tuple #[.int .i64 (openN S s:Int),.int .i64 (openE S s)]):=by
 obtain ⟨q,fs,ns,ds,js,left,dead⟩:=S
 refine Gv.of_body Tryz.func23 rfl rfl ?_
 simp only [hdrO] at *
 cases dead
 ·refine kW ?_
  refine cP rfl rfl (valid_1 s _) ?_
  cases hv:nameOk s
  ·refine kW ?_
   refine kR ?_
   exact ⟨_,iC,by simp [tupled,openN,openE,hv],rfl⟩
  ·refine kW ?_
   refine cP rfl rfl (find_1 nv ns s _ hn ha (by omega)) ?_
   cases hh:has ns s
   ·refine kW ?_
    refine kR ?_
    exact ⟨_,iC,by simp [tupled,openN,openE,hv,hh],rfl⟩
   ·obtain ⟨g,hg,hfe,hlt⟩:=has_get ha hh
    rcases hn with ⟨rfl,h0⟩|⟨b,cap,rest,rfl,hmc,hfn⟩
    ·subst h0;simp at hlt
    ·refine kW ?_
     refine OW_EV (EV_indexAddr0 (j:=pos ns s) rfl rfl rfl hlt) rfl ?_
     refine kW ?_
     refine OW_EV (EV_loadc (v:=.int .i64 (g:Int)) rfl (by repeat (first|assumption|exact Fnd.here|refine Fnd.there ?_)) (by rw [nth_eq];exact getE_app (ents_at hg).2)) rfl ?_
     refine kW ?_
     refine kR ?_
     exact ⟨_,iC,by simp [tupled,openN,openE,hv,hh,hfe],rfl⟩
 ·refine kW ?_
  refine kR ?_
  exact ⟨_,iC,by simp [tupled,openN,openE],rfl⟩
theorem clone_b (s:ByteArray) (L:List Chunk) (hs:s.size≤1000):GvP Tryz.prog 52 [.string s].toArray L (.string s):=by
 refine Gv.of_body Tryz.func52 rfl rfl ?_
 (repeat' first|refine kW ?_|refine kU fun bk=>?_|refine kV fun hc=>?_|refine kZ (fun hc=>?_) fun hc=>?_|fail)
 ·refine kR ?_
  have h0:(s.size:Int)=0:=by assumption
  have:s=ByteArray.empty:=by
   cases s with|mk d=>cases d with|mk l=>cases l with|nil=>rfl|cons a r=>simp [ByteArray.size] at h0;omega
  subst this
  exact ⟨_,iC,rfl,rfl⟩
 ·have h0:¬(s.size:Int)=0:=by assumption
  refine OW_makeSlice (m:=s.size) (c:=s.size) rfl rfl (by rfl) (Nat.le_refl _) (by omega) (by omega) rfl (fun b=>?_)
  refine kW ?_
  refine OW_copyStr (l:=_) rfl rfl rfl iU (by rw [zeros_length];simp [Value.cells]) rfl ?_
  have hlen:s.data.toList.length=s.size:=rfl
  have he:patch (zeros (Value.int IntKind.u8 0).cells.toList s.size) 0 (bsv s.data.toList)=bsv s.data.toList++[]:=by
   unfold patch
   rw [List.drop_eq_nil_of_le (by rw [zeros_length,bsv_length,hlen];simp [Value.cells])]
   simp
  rw [he]
  refine kW ?_
  refine OW_EV (EV_indexAddr0 (j:=0) rfl rfl rfl (by omega)) rfl ?_
  refine kW ?_
  refine OW_unsafeString (l:=s.data.toList) (rest:=[]) (e:=5) Tryz.underlying133 (by kernel_rfl) (by rw [Nat.zero_mul];rfl) rfl (by rw [hlen]) (by intro h;rw [h] at hlen;simp at hlen;omega) (by omega) iU rfl ?_
  refine kW ?_
  refine kR ?_
  exact ⟨_,iC,rfl,rfl⟩
theorem clone_a (s:ByteArray) (L:List Chunk) (hs:s.size≤1000):GvP Tryz.prog 26 [.string s].toArray L (.string s):=by
 refine Gv.of_body Tryz.func26 rfl rfl ?_
 refine kW ?_
 refine cP rfl rfl (clone_b s _ hs) ?_
 refine kW ?_
 exact kE
theorem chV_one (c:Ch):(chV c).oneCell'=true:=by cases c<;>rfl
theorem ow_one {e k m:Nat} {v:Value} {xs:List Value} {C:Chunk} (h:Ow e k v m xs C):v.oneCell'=true:=by
 rcases h with ⟨rfl,_⟩|⟨b,cap,rest,rfl,_⟩<;>rfl
theorem ow_slc {e k m:Nat} {v:Value} {xs:List Value} {C:Chunk} (h:Ow e k v m xs C):∃a c,v=.slice a m c:=by
 rcases h with ⟨rfl,rfl,_⟩|⟨b,cap,rest,rfl,_⟩
 ·exact ⟨_,_,rfl⟩
 ·exact ⟨_,_,rfl⟩
theorem ow_sl {e k m:Nat} {v:Value} {xs:List Value} {C:Chunk} {L:List Chunk} (h:Ow e k v m xs C):Sl (C::L) k v m xs:=by
 rcases h with ⟨rfl,rfl,rfl,rfl⟩|⟨b,cap,rest,rfl,rfl,hxl,hrl,hmc,hcm⟩
 ·exact .inl ⟨_,rfl,rfl,rfl⟩
 ·exact .inr ⟨_,_,rfl,RdAt.cl' Fnd.here (by simp [cut]),hxl⟩
theorem note_1 (S:Fsy) (p:Nat) (fv nv dv jv:Value) (c:Ch) (Cn Cj:Chunk) (L:List Chunk) (hn:Ow 95 2 nv S.names.length (ents S.names) Cn) (hj:Ow 97 1 jv S.journal.length (S.journal.map chV) Cj) (han:Asc S.names) (hln:S.names.length≤100000) (hlj:S.journal.length≤100000) (hc:chOk S.names c=true) :
 Gv Tryz.prog 25 [.pointer (some ⟨p,0,none⟩),chV c].toArray (hdr S p fv nv dv jv::Cn::Cj::L)
  (fun r L'=>∃nv' jv' Cn' Cj',r=.tuple #[]∧L'=hdr S p fv nv' dv jv'::Cn'::Cj'::L∧Ow 95 2 nv' (afterE S.names c).length (ents (afterE S.names c)) Cn'∧Ow 97 1 jv' (S.journal.length+1) ((S.journal++[c]).map chV) Cj'):=by
 obtain ⟨q,fs,ns,ds,js,left,dead⟩:=S
 refine Gv.of_body Tryz.func25 rfl rfl ?_
 simp only [hdr,hdrO] at *
 refine kW ?_
 refine cC rfl rfl ((after_1 nv ns c Cn _ hn han hc (by omega)).take (by repeat (first|exact Take.here|apply Take.there))) (fun r L' hp=>?_)
 obtain ⟨Cn',rfl,ho⟩:=hp
 refine kW ?_
 refine OW_store rfl rfl (ow_one ho) iU (by simp) ?_
 refine kW ?_
 refine OW_buildSlice (cs:=[chV c]) rfl (by rfl) (by cases c<;>simp [fillL,patch,Value.cells,zeros,chV]) (by omega) rfl rfl (fun bn=>?_)
 refine kW ?_
 refine OW_append rfl rfl hj (c:=1) (ys:=[chV c]) (.inr ⟨_,_,rfl,RdAt.cl' (off:=0) (by repeat (first|assumption|exact Fnd.here|refine Fnd.there ?_)) rfl,rfl⟩) (by repeat (first|exact Zip.here _|apply Zip.there)) (by rfl) (by simp [ones,chV_one]) (by omega) (by simp only [maxLen];omega) rfl (fun v' C' ho2 hn1 hn2=>?_)
 refine kW ?_
 refine OW_store rfl rfl (ow_one ho2) iU (by simp) ?_
 refine kW ?_
 refine kR ?_
 exact ⟨_::Cn'::C'::L,iC,r,v',Cn',C',rfl,rfl,ho,by simpa using ho2⟩
theorem clone_e (v:Value) (m:Nat) (xs:List Value) (L:List Chunk) (hs:Sl L 2 v m xs) (h1:ones xs=true) (hm:m≤100000000) :
 Gv Tryz.prog 143 [v].toArray L (fun r L'=>∃C',L'=C'::L∧Ow 95 2 r m xs C'):=by
 refine Gv.of_body Tryz.func143 rfl rfl ?_
 rcases hs with ⟨c,rfl,rfl,rfl⟩|⟨a,cap,rfl,hrd,hl⟩
 ·refine kW ?_
  refine kH ?_
  exact ⟨[]::L,fun w h=>Holds.nil.2 h,[],rfl,.inl ⟨rfl,rfl,rfl,rfl⟩⟩
 ·refine kW ?_
  refine OW_buildSlice (cs:=[]) rfl (by rfl) (by simp [fillL,zeros]) (by omega) rfl rfl (fun bn=>?_)
  refine kW ?_
  refine OW_append rfl rfl (m:=0) (xs:=[]) (C:=[(bn,cl [] 95)]) (.inr ⟨bn,0,[],rfl,rfl,rfl,rfl,Nat.le_refl _,by simp [maxLen]⟩) (c:=m) (ys:=xs) (.inr ⟨_,_,rfl,?_,hl⟩) (by repeat (first|exact Zip.here _|apply Zip.there)) (by rfl) h1 (by omega) (by simp only [maxLen];omega) rfl (fun v' C' ho hn1 hn2=>?_)
  ·rcases hrd with h|⟨b,off,c,T,fr,h2,h3,h4⟩
   ·exact .inl h
   ·exact .inr ⟨b,off,c,T,fr,h2,h3.there,h4⟩
  refine kW ?_
  refine kR ?_
  exact ⟨C'::L,iC,C',rfl,by simpa [tupled] using ho⟩
theorem clone_y (v:Value) (m:Nat) (xs:List Value) (L:List Chunk) (hs:Sl L 1 v m xs) (h1:ones xs=true) (hm:m≤100000000) :
 Gv Tryz.prog 54 [v].toArray L (fun r L'=>∃C',L'=C'::L∧Ow 5 1 r m xs C'):=by
 refine Gv.of_body Tryz.func54 rfl rfl ?_
 rcases hs with ⟨c,rfl,rfl,rfl⟩|⟨a,cap,rfl,hrd,hl⟩
 ·refine kW ?_
  refine kH ?_
  exact ⟨[]::L,fun w h=>Holds.nil.2 h,[],rfl,.inl ⟨rfl,rfl,rfl,rfl⟩⟩
 ·refine kW ?_
  refine OW_buildSlice (cs:=[]) rfl (by rfl) (by simp [fillL,zeros]) (by omega) rfl rfl (fun bn=>?_)
  refine kW ?_
  refine OW_append rfl rfl (m:=0) (xs:=[]) (C:=[(bn,cl [] 5)]) (.inr ⟨bn,0,[],rfl,rfl,rfl,rfl,Nat.le_refl _,by simp [maxLen]⟩) (c:=m) (ys:=xs) (.inr ⟨_,_,rfl,?_,hl⟩) (by repeat (first|exact Zip.here _|apply Zip.there)) (by rfl) h1 (by omega) (by simp only [maxLen];omega) rfl (fun v' C' ho hn1 hn2=>?_)
  ·rcases hrd with h|⟨b,off,c,T,fr,h2,h3,h4⟩
   ·exact .inl h
   ·exact .inr ⟨b,off,c,T,fr,h2,h3.there,h4⟩
  refine kW ?_
  refine kR ?_
  exact ⟨C'::L,iC,C',rfl,by simpa [tupled] using ho⟩
omit [W0] in
def renum:Nat→List En→List En
 |_,[]=>[]
 |i,e::r=>⟨e.name,i⟩::renum (i+1) r
theorem renum_length:∀(i:Nat) (es:List En),(renum i es).length=es.length
 |_,[]=>rfl
 |i,e::r=>by simp [renum,renum_length (i+1) r]
theorem renum_append:∀(i:Nat) (a b:List En),renum i (a++b)=renum i a++renum (i+a.length) b
 |_,[],b=>by simp [renum]
 |i,e::r,b=>by simp [renum,renum_append (i+1) r b];congr 1;omega
omit [W0] in
def fiAt (fs:List Fi) (e:En):Fi:=fs.getD e.file ⟨[],0⟩
omit [W0] in
def vAt (vs:List Value) (e:En):Value:=vs.getD e.file undef
omit [W0] in
def settleS (S:Fsy):Fsy:={ S with files:=S.names.map (fiAt S.files),names:=renum 0 S.names,durable:=renum 0 S.names,journal:=[] }
theorem settle_1 (S:Fsy) (p:Nat) (fv nv dv jv:Value) (vs:List Value) (Cf Cn:Chunk) (L:List Chunk) (hf:Ow 61 2 fv S.files.length (fcl S.files vs) Cf) (hvs:vs.length=S.files.length) (h1:∀v∈vs,v.oneCell'=true) (hn:Ow 95 2 nv S.names.length (ents S.names) Cn)
 (hl:S.names.length≤100000) (hin:∀e∈S.names,e.file < S.files.length) :
 Gv Tryz.prog 106 [.pointer (some ⟨p,0,none⟩)].toArray (hdr S p fv nv dv jv::Cf::Cn::L)
  (fun r L'=>∃fv' nv' dv' Cf' Cn' Cd',r=.tuple #[]∧L'=hdr (settleS S) p fv' nv' dv' (.slice none 0 0)::Cf'::Cn'::Cd'::L∧
    Ow 61 2 fv' S.names.length (fcl (S.names.map (fiAt S.files)) (S.names.map (vAt vs))) Cf'∧Ow 95 2 nv' S.names.length (ents (renum 0 S.names)) Cn'∧Ow 95 2 dv' S.names.length (ents (renum 0 S.names)) Cd'):=by
 obtain ⟨q,fs,ns,ds,js,left,dead⟩:=S
 refine Gv.of_body Tryz.func106 rfl rfl ?_
 simp only [hdr,hdrO] at *
 rcases hn with ⟨rfl,h0,hh,rfl⟩|⟨b,cap,rest,rfl,rfl,hxl,hrl,hmc,hcm⟩
 ·have hnil:ns=[]:=List.eq_nil_of_length_eq_zero h0
  subst hnil
  refine kW ?_
  refine OW_makeSlice (m:=0) (c:=0) rfl rfl (by rfl) (Nat.le_refl _) (by omega) (by omega) rfl (fun kb=>?_)
  refine kW ?_
  refine WC_loop (X:=Unit) (fun _=>[(0,.pointer (some ⟨p,0,none⟩)),(2,.slice (some ⟨kb,0,none⟩) 0 0),(15,.int .i64 0),(16,.int .i64 0)]) (fun _=>[(kb,cl [] 61)]::[(p,cl [.int .i64 (q:Int),fv,.slice none 0 0,dv,jv,.int .i64 left,.bool dead] 47)]::L) (fun _=>True) (fun _=>0) () trivial iS ?_ ?_
  ·exact fun w h=>iH h
  intro _ _
  refine kW ?_
  refine OW_call rfl rfl rfl (clone_e (.slice none 0 0) 0 [] _ (.inl ⟨_,rfl,rfl,rfl⟩) rfl (by omega)) rfl (fun r L' hp=>?_)
  obtain ⟨C',rfl,ho⟩:=hp
  refine kW ?_
  refine OW_store rfl rfl (ow_one ho) iU (by simp) ?_
  refine kW ?_
  refine kH ?_
  refine ⟨_::[(kb,cl [] 61)]::[]::C'::L,fun w h=>?_,_,_,_,[(kb,cl [] 61)],[],C',rfl,rfl,.inr ⟨kb,0,[],rfl,rfl,rfl,rfl,Nat.le_refl _,by simp [maxLen]⟩,.inl ⟨rfl,rfl,rfl,rfl⟩,ho⟩
  exact (iC:Inc _ ([]::_)).holds (Holds.nil.2 h)
 ·have hr:∀{i:Nat} {e:En},ns[i]? =some e→i < ns.length:=fun {i e} h=>by
   rcases Nat.lt_or_ge i ns.length with h'|h'
   ·exact h'
   ·simp [List.getElem?_eq_none h'] at h
  have hrt:∀i,i≤ns.length→(renum 0 (ns.take i)).length=i:=fun i hi=>by rw [renum_length];simp;omega
  have hkl:∀i,i≤ns.length→(fcl ((ns.take i).map (fiAt fs)) ((ns.take i).map (vAt vs))).length=i * 2:=fun i hi=>by rw [fcl_length (by simp)];simp;omega
  have hsucc:∀{i:Nat} {e:En},ns[i]? =some e→ns.take (i+1)=ns.take i++[e]∧ns.drop i=e::ns.drop (i+1):=fun {i e} h=>by
   have hlt:=hr h
   have he:e=ns[i]:=by rw [List.getElem?_eq_getElem hlt] at h;exact (Option.some.inj h).symm
   subst he
   exact ⟨by rw [List.take_succ_eq_append_getElem hlt],by rw [List.drop_eq_getElem_cons hlt]⟩
  refine kW ?_
  refine OW_makeSlice (m:=ns.length) (c:=ns.length) rfl rfl (by rfl) (Nat.le_refl _) (by omega) (by omega) rfl (fun kb=>?_)
  refine kW ?_
  refine WC_loop (X:=Nat) (fun i=>[(0,.pointer (some ⟨p,0,none⟩)),(2,.slice (some ⟨kb,0,none⟩) ns.length ns.length),(14,.slice (some ⟨b,0,none⟩) ns.length cap),(15,.int .i64 (ns.length:Int)),(16,.int .i64 (i:Int))])
   (fun i=>[(kb,cl (fcl ((ns.take i).map (fiAt fs)) ((ns.take i).map (vAt vs))++zeros [.slice none 0 0,.int .i64 0] (ns.length - i)) 61)]::[(p,cl [.int .i64 (q:Int),fv,.slice (some ⟨b,0,none⟩) ns.length cap,dv,jv,.int .i64 left,.bool dead] 47)]::Cf::[(b,cl (ents (renum 0 (ns.take i)++ns.drop i)++rest) 95)]::L)
   (fun i=>i≤ns.length) (fun i=>ns.length - i) 0 (Nat.zero_le _) iS (fun w h=>?_) ?_
  ·simp [fcl,renum];exact h
  intro i hi
  (repeat' first|refine kW ?_|refine kU fun bk=>?_|refine kV fun hc=>?_|refine kZ (fun hc=>?_) fun hc=>?_|fail)
  ·have hlt:i < ns.length:=by omega
   obtain ⟨e,he⟩:∃e,ns[i]? =some e:=⟨ns[i],by simp [hlt]⟩
   obtain ⟨hs1,hs2⟩:=hsucc he
   have hef:e.file < fs.length:=hin e (List.mem_of_getElem? he)
   have hfi:fs[e.file]? =some (fiAt fs e):=by simp [fiAt,List.getD,List.getElem?_eq_getElem hef]
   have hvi:vs[e.file]? =some (vAt vs e):=by simp [vAt,List.getD,List.getElem?_eq_getElem (show e.file < vs.length by omega)]
   have hmix:(renum 0 (ns.take i)++ns.drop i)[i]? =some e:=by
    rw [List.getElem?_append_right (by rw [hrt i hi];exact Nat.le_refl _),hrt i hi,hs2];simp
   have hv1:(vAt vs e).oneCell'=true:=h1 _ (List.mem_of_getElem? hvi)
   rcases hf with ⟨rfl,hf0,_,rfl⟩|⟨fb,fcap,frest,rfl,rfl,hfl,hfr,hfm,hfc⟩
   ·omega
   ·refine OW_EV (EV_indexAddr0 (j:=i) rfl rfl rfl hlt) rfl ?_
    refine kW ?_
    refine OW_EV (EV_loadAgg rfl (rdEn (by repeat (first|assumption|exact Fnd.here|refine Fnd.there ?_)) hmix) rfl) rfl ?_
    (refine kW ?_;refine kU fun bk=>?_;refine kW ?_)
    refine WC_drawAll [11] mixed ?_
    (refine WR_t 0 ?_;refine WR_t 1 ?_;refine WR_t 2 ?_;refine WR_t 3 ?_;refine WR_t 4 ?_;refine WR_t 5 ?_;refine WR_t 6 ?_;refine WR_t 7 ?_)
    refine cT 8 rfl rfl (EV_indexAddr0 (j:=e.file) rfl rfl rfl hef) ?_
    refine cT 9 rfl rfl (EV_loadAgg (vs:=[vAt vs e,.int .i64 ((fiAt fs e).synced:Int)]) rfl (.inr ⟨fb,e.file * 2,_,_,(0,0),rfl,(by repeat (first|assumption|exact Fnd.here|refine Fnd.there ?_)),fun j u hj=>?_⟩) rfl) ?_
    ·simp only [List.getElem?_toArray]
     match j,hj with
     |0,hj=>simp at hj;subst hj;exact getE_app (fcl_at hfi hvi).1
     |1,hj=>simp at hj;subst hj;exact getE_app (fcl_at hfi hvi).2
    refine cT 10 rfl rfl (EV_indexAddr0 (j:=i) rfl rfl rfl hlt) ?_
    refine cL 11 rfl rfl rfl ?_
    refine OW_storeAggTo (fcl ((ns.take (i+1)).map (fiAt fs)) ((ns.take (i+1)).map (vAt vs))++zeros [.slice none 0 0,.int .i64 0] (ns.length - (i+1))) rfl rfl rfl (by simp only [ones,List.all_cons,hv1];rfl) ?_ iU ?_ ?_
    ·obtain ⟨q2,hq2⟩:∃q2,ns.length - i=q2+1:=⟨ns.length - (i+1),by omega⟩
     have hq3:ns.length - (i+1)=q2:=by omega
     rw [hq2,hq3]
     show patch (_++([Value.slice none 0 0,Value.int IntKind.i64 0]++zeros _ q2)) _ _=_
     rw [patch_mid (x:=[Value.slice none 0 0,Value.int IntKind.i64 0]) (by rw [hkl i hi]) (by rfl),hs1,List.map_append,List.map_append,fcl_append (by simp)]
     simp [fcl]
    ·simp only [List.length_append,hkl i hi,zeros_length,List.length_cons,List.length_nil];omega
    refine cD ?_
    refine kW ?_
    refine OW_EV (EV_indexAddr0 (j:=i) rfl rfl rfl hlt) rfl ?_
    refine kW ?_
    refine OW_storeTo (ents (renum 0 (ns.take (i+1))++ns.drop (i+1))++rest) rfl rfl rfl ?_ iU ?_ ?_
    ·have:=ents_set (f:=i) hmix
     rw [List.set_append_left _ _ (by rw [ents_length,List.length_append,hrt i hi];simp;omega),this]
     congr 2
     rw [List.set_append_right _ _ (by rw [hrt i hi];exact Nat.le_refl _),hrt i hi,hs2,hs1,renum_append]
     simp [renum]
     omega
    ·rw [List.length_append,ents_length,List.length_append,hrt i hi];simp;omega
    refine kW ?_
    refine WQ_round (i+1) (by omega) (by omega) iS (fun w h=>iH h)
  ·have hin:i=ns.length:=by omega
   subst hin
   have hen:ents (renum 0 (ns.take ns.length)++ns.drop ns.length)=ents (renum 0 ns):=by simp
   have hel:(ents (renum 0 ns)).length=ns.length * 2:=by rw [ents_length,renum_length]
   have hkn:fcl ((ns.take ns.length).map (fiAt fs)) ((ns.take ns.length).map (vAt vs))++zeros [.slice none 0 0,.int .i64 0] (ns.length - ns.length)=fcl (ns.map (fiAt fs)) (ns.map (vAt vs))++[]:=by simp [zeros]
   rw [hen,hkn]
   refine OW_call rfl rfl rfl (clone_e _ ns.length (ents (renum 0 ns)) _ (.inr ⟨_,_,rfl,RdAt.cl' (l:=ents (renum 0 ns)++rest) (by repeat (first|assumption|exact Fnd.here|refine Fnd.there ?_)) (by simp [cut]),hel⟩) (ents_ones _) (by omega)) rfl (fun r L' hp=>?_)
   obtain ⟨C',rfl,ho⟩:=hp
   refine kW ?_
   refine OW_store rfl rfl (ow_one ho) iU (by simp) ?_
   refine kW ?_
   refine kR ?_
   refine ⟨_::_::_::C'::L,iC,_,_,_,_,_,C',rfl,rfl,.inr ⟨kb,ns.length,[],rfl,rfl,?_,by simp,Nat.le_refl _,by simp only [maxLen];omega⟩,.inr ⟨b,cap,rest,rfl,rfl,hel,hrl,hmc,hcm⟩,ho⟩
   rw [fcl_length (by simp)];simp
omit [W0] in
def FSl (L:List Chunk) (v:Value) (fs:List Fi) (vs:List Value):Prop:=
 (v=.slice none 0 0∧fs=[])∨∃b cap rest,v=.slice (some ⟨b,0,none⟩) fs.length cap∧fs.length≤cap∧Fnd L b (cl (fcl fs vs++rest) 61)
omit [W0] in
structure See (L:List Chunk) (S:Fsy) (p:Nat) (fv nv dv jv:Value) (vs:List Value):Prop where
 h:Fnd L p (hdrO S fv nv dv jv)
 f:FSl L fv S.files vs
 n:NSl L nv S.names
 lv:vs.length=S.files.length
 b:∀(i:Nat) (f:Fi),S.files[i]? =some f→∃v,vs[i]? =some v∧Sl L 1 v f.data.length (bsv f.data)∧v.oneCell'=true
 an:Asc S.names
 ln:S.names.length≤100000
 inn:∀e∈S.names,e.file < S.files.length
omit [W0] in
def lens (fs:List Fi) (es:List En):Nat:=(es.map fun e=>(fiAt fs e).data.length).sum
omit [W0] in
def usedN (S:Fsy):Nat:=lens S.files S.names
theorem lens_append {fs:List Fi} {a b:List En}:lens fs (a++b)=lens fs a+lens fs b:=by simp [lens]
theorem sl_slice {L:List Chunk} {k:Nat} {v:Value} {m:Nat} {xs:List Value} (h:Sl L k v m xs):∃a c,v=.slice a m c:=by
 rcases h with ⟨c,rfl,rfl,rfl⟩|⟨a,cap,rfl,_⟩
 ·exact ⟨_,_,rfl⟩
 ·exact ⟨_,_,rfl⟩
theorem used_1 (S:Fsy) (p:Nat) (fv nv dv jv:Value) (vs:List Value) (L:List Chunk) (hS:See L S p fv nv dv jv vs) (hu:usedN S≤1000000000000000) :
 GvP Tryz.prog 28 [.pointer (some ⟨p,0,none⟩)].toArray L (.int .i64 (usedN S:Int)):=by
 obtain ⟨q,fs,ns,ds,js,left,dead⟩:=S
 obtain ⟨hh,hf,hn,hlv,hb,han,hln,hin⟩:=hS
 refine Gv.of_body Tryz.func28 rfl rfl ?_
 simp only [hdrO] at *
 have hun:usedN ⟨q,fs,ns,ds,js,left,dead⟩=lens fs ns:=rfl
 rw [hun] at hu ⊢
 rcases hn with ⟨rfl,rfl⟩|⟨b,cap,rest,rfl,hmc,hfn⟩
 ·refine kW ?_
  refine WC_loop (X:=Unit) (fun _=>[(3,.int .i64 0),(10,.int .i64 0),(11,.int .i64 0)]) (fun _=>L) (fun _=>True) (fun _=>0) () trivial iS (fun w h=>h) ?_
  intro _ _
  refine kW ?_
  exact kE
 ·refine kW ?_
  refine WC_loop (X:=Nat) (fun i=>[(0,.pointer (some ⟨p,0,none⟩)),(3,.int .i64 (lens fs (ns.take i):Int)),(9,.slice (some ⟨b,0,none⟩) ns.length cap),(10,.int .i64 (ns.length:Int)),(11,.int .i64 (i:Int))]) (fun _=>L) (fun i=>i≤ns.length) (fun i=>ns.length - i) 0 (Nat.zero_le _) iS (fun w h=>h) ?_
  intro i hi
  (repeat' first|refine kW ?_|refine kU fun bk=>?_|refine kV fun hc=>?_|refine kZ (fun hc=>?_) fun hc=>?_|fail)
  ·have hlt:i < ns.length:=by omega
   obtain ⟨e,he⟩:∃e,ns[i]? =some e:=⟨ns[i],by simp [hlt]⟩
   have he':ns[i]=e:=by rw [List.getElem?_eq_getElem hlt] at he;exact Option.some.inj he
   have hs1:ns.take (i+1)=ns.take i++[e]:=by rw [List.take_succ_eq_append_getElem hlt,he']
   have hef:e.file < fs.length:=hin e (List.mem_of_getElem? he)
   have hfi:fs[e.file]? =some (fiAt fs e):=by simp [fiAt,List.getD,List.getElem?_eq_getElem hef]
   obtain ⟨v,hvi,hsl,_⟩:=hb _ _ hfi
   obtain ⟨va,vc,rfl⟩:=sl_slice hsl
   rcases hf with ⟨rfl,rfl⟩|⟨fb,fcap,frest,rfl,hfm,hff⟩
   ·simp at hef
   ·refine OW_EV (EV_indexAddr0 (j:=i) rfl rfl rfl hlt) rfl ?_
    refine kW ?_
    refine OW_EV (EV_loadAgg rfl (rdEn hfn he) rfl) rfl ?_
    (refine kW ?_;refine kU fun bk=>?_;refine kW ?_)
    have hsum:lens fs (ns.take (i+1))=lens fs (ns.take i)+(fiAt fs e).data.length:=by rw [hs1,lens_append];simp [lens]
    have hle:lens fs (ns.take (i+1))≤lens fs ns:=by
     have:lens fs ns=lens fs (ns.take (i+1))+lens fs (ns.drop (i+1)):=by rw [←lens_append,List.take_append_drop]
     omega
    refine WC_drawAll [] mixed ?_
    (refine WR_t 0 ?_;refine WR_t 1 ?_;refine WR_t 2 ?_;refine WR_t 3 ?_;refine WR_t 4 ?_;refine WR_t 5 ?_;refine WR_t 6 ?_)
    refine cT 7 rfl rfl (EV_indexAddr0 (j:=e.file) rfl rfl rfl hef) ?_
    (refine WR_t 8 ?_)
    refine cT 9 rfl rfl (EV_loadc (v:=.slice va (fiAt fs e).data.length vc) rfl (by repeat (first|assumption|exact Fnd.here|refine Fnd.there ?_)) (by rw [nth_eq];exact getE_app (fcl_at hfi hvi).1)) ?_
    (refine WR_t 10 ?_;refine WR_t 11 ?_;refine WR_t 12 ?_)
    refine cD ?_
    refine kW ?_
    refine WQ_round (i+1) (by omega) (by omega) iS (fun w h=>iH h)
  ·have hie:i=ns.length:=by omega
   subst hie
   refine kR ?_
   refine ⟨_,iC,?_,rfl⟩
   simp [tupled]
omit [W0] in
def hasP (s pre:ByteArray):Bool:=decide (pre.size≤s.size)&&decide (s.extract 0 pre.size=pre)
theorem hasP_b (s pre:ByteArray) (L:List Chunk):GvP Tryz.prog 107 [.string s,.string pre].toArray L (.bool (hasP s pre)):=by
 refine Gv.of_body Tryz.func107 rfl rfl ?_
 (repeat' first|refine kW ?_|refine kU fun bk=>?_|refine kV fun hc=>?_|refine kZ (fun hc=>?_) fun hc=>?_|fail)
 ·have hle:pre.size≤s.size:=by omega
  refine OW_EV (EV_sliceStr (l:=0) (h:=pre.size) rfl rfl rfl (Nat.zero_le _) hle) rfl ?_
  refine kW ?_
  refine kR ?_
  exact ⟨_,iC,by simp [tupled,hasP,hle],rfl⟩
 ·have hle:¬pre.size≤s.size:=by omega
  refine kR ?_
  exact ⟨_,iC,by simp [tupled,hasP,hle],rfl⟩
theorem hasP_a (s pre:ByteArray) (L:List Chunk):GvP Tryz.prog 72 [.string s,.string pre].toArray L (.bool (hasP s pre)):=by
 refine Gv.of_body Tryz.func72 rfl rfl ?_
 refine kW ?_
 refine cP rfl rfl (hasP_b s pre _) ?_
 refine kW ?_
 exact kE
theorem openE_zero {S:Fsy} {s:ByteArray} (h:openE S s=0):S.dead=false∧nameOk s=true∧has S.names s=true:=by
 unfold openE at h
 cases h1:S.dead<;>cases h2:nameOk s<;>cases h3:has S.names s<;>simp [h1,h2,h3] at h ⊢
theorem read_1 (S:Fsy) (p:Nat) (fv nv dv jv:Value) (vs:List Value) (s:ByteArray) (L:List Chunk) (hS:See L S p fv nv dv jv vs) (hbig:∀f∈S.files,f.data.length≤100000000) :
 Gv Tryz.prog 29 [.pointer (some ⟨p,0,none⟩),.string s].toArray L
  (fun r L'=>∃v C',r=.tuple #[v,.int .i64 (openE S s)]∧L'=C'::L∧(openE S s=0→Ow 5 1 v (fiAt S.files ⟨s,fileE S.names s⟩).data.length (bsv (fiAt S.files ⟨s,fileE S.names s⟩).data) C')∧(openE S s≠0→v=.slice none 0 0∧C'=[])):=by
 have hS':=hS
 obtain ⟨q,fs,ns,ds,js,left,dead⟩:=S
 obtain ⟨hh,hf,hn,hlv,hb,han,hln,hin⟩:=hS
 refine Gv.of_body Tryz.func29 rfl rfl ?_
 simp only [hdrO] at hh hf hn hlv hb han hln hin hbig ⊢
 refine kW ?_
 refine cP rfl rfl (open_1 ⟨q,fs,ns,ds,js,left,dead⟩ p fv nv dv jv s _ hS'.h hS'.n hS'.an hS'.ln) ?_
 have hpo:openE ⟨q,fs,ns,ds,js,left,dead⟩ s=0→openN ⟨q,fs,ns,ds,js,left,dead⟩ s=fileE ns s∧has ns s=true:=fun h0=>by
  exact ⟨by simp [openN,h0],(openE_zero h0).2.2⟩
 generalize openE ⟨q,fs,ns,ds,js,left,dead⟩ s=oe at *
 generalize openN ⟨q,fs,ns,ds,js,left,dead⟩ s=on at *
 (repeat' first|refine kW ?_|refine kU fun bk=>?_|refine kV fun hc=>?_|refine kZ (fun hc=>?_) fun hc=>?_|fail)
 ·have h0:¬oe=0:=by assumption
  refine kH ?_
  exact ⟨[]::L,fun w h=>Holds.nil.2 h,_,[],rfl,rfl,fun h=>absurd h h0,fun _=>⟨rfl,rfl⟩⟩
 ·have h0:oe=0:=by omega
  obtain ⟨ho1,ho2⟩:=hpo h0
  subst ho1
  obtain ⟨g,hg,hfe,hlt⟩:=has_get han ho2
  have hef:fileE ns s < fs.length:=by rw [hfe];exact hin _ (List.mem_of_getElem? hg)
  have hfi:fs[fileE ns s]? =some (fiAt fs ⟨s,fileE ns s⟩):=by simp [fiAt,List.getD,List.getElem?_eq_getElem hef]
  obtain ⟨v,hvi,hsl,_⟩:=hb _ _ hfi
  rcases hf with ⟨rfl,rfl⟩|⟨fb,fcap,frest,rfl,hfm,hff⟩
  ·simp at hef
  ·refine OW_EV (EV_indexAddr0 (j:=fileE ns s) rfl rfl rfl hef) rfl ?_
   refine kW ?_
   refine OW_EV (EV_loadc (v:=v) rfl (by repeat (first|assumption|exact Fnd.here|refine Fnd.there ?_)) (by rw [nth_eq];exact getE_app (fcl_at hfi hvi).1)) rfl ?_
   refine kW ?_
   refine cC rfl rfl (clone_y v _ _ _ hsl bsv_ones (hbig _ (List.mem_of_getElem? hfi))) (fun r L' hp=>?_)
   obtain ⟨C',rfl,ho⟩:=hp
   refine kW ?_
   refine kR ?_
   exact ⟨_,iC,r,C',by rw [h0];rfl,rfl,fun _=>ho,fun h=>absurd h0 h⟩
theorem tw_step {α:Type} (P:α→Bool):∀(l:List α) (k:Nat) (e:α),k≤(l.takeWhile P).length→l[k]? =some e→(P e=true→k+1≤(l.takeWhile P).length∧(l.takeWhile P)[k]? =some e)∧(P e=false→(l.takeWhile P).length=k)
 |[],k,e,_,h=>by simp at h
 |x::r,0,e,_,h=>by
  simp at h;subst h
  constructor
  ·intro hp;simp [List.takeWhile_cons,hp]
  ·intro hp;simp [List.takeWhile_cons,hp]
 |x::r,k+1,e,hk,h=>by
  cases hp:P x with
  |false=>simp [List.takeWhile_cons,hp] at hk
  |true=>
   simp only [List.takeWhile_cons,hp,if_true,List.length_cons] at hk ⊢
   have ih:=tw_step P r k e (by omega) (by simpa using h)
   exact ⟨fun he=>by have:=ih.1 he;simp;exact ⟨by omega,this.2⟩,fun he=>by have:=ih.2 he;omega⟩
theorem tw_le {α:Type} (P:α→Bool) (l:List α):(l.takeWhile P).length≤l.length:=(List.takeWhile_prefix P).length_le
theorem take_succ_of {α:Type} {l:List α} {k:Nat} {e:α} (h:l[k]? =some e):l.take (k+1)=l.take k++[e]:=by
 have hlt:k < l.length:=by
  rcases Nat.lt_or_ge k l.length with h'|h'
  ·exact h'
  ·simp [List.getElem?_eq_none h'] at h
 rw [List.getElem?_eq_getElem hlt] at h
 rw [List.take_succ_eq_append_getElem hlt,Option.some.inj h]
omit [W0] in
def strsV (es:List En):List Value:=es.map fun e=>.string e.name
omit [W0] in
def listE (es:List En) (pre:ByteArray):List En:=(es.drop (pos es pre)).takeWhile fun e=>hasP e.name pre
omit [W0] in
def listS (S:Fsy) (pre:ByteArray):List En:=if S.dead=true then [] else listE S.names pre
theorem list_1 (S:Fsy) (p:Nat) (fv nv dv jv:Value) (vs:List Value) (pre:ByteArray) (L:List Chunk) (hS:See L S p fv nv dv jv vs) :
 Gv Tryz.prog 39 [.pointer (some ⟨p,0,none⟩),.string pre].toArray L
  (fun r L'=>∃C',L'=C'::L∧Ow 9 1 r (listS S pre).length (strsV (listS S pre)) C'):=by
 obtain ⟨q,fs,ns,ds,js,left,dead⟩:=S
 obtain ⟨hh,hf,hn,hlv,hb,han,hln,hin⟩:=hS
 refine Gv.of_body Tryz.func39 rfl rfl ?_
 simp only [hdrO] at *
 cases dead
 ·refine kW ?_
  refine cP rfl rfl (find_1 nv ns pre _ hn han (by omega)) ?_
  refine kW ?_
  have hpl:=pos_le ns pre
  have hlist:listS ⟨q,fs,ns,ds,js,left,false⟩ pre=listE ns pre:=by simp [listS]
  rw [hlist]
  refine WC_holds' (L':=[]::L) (fun w h=>Holds.nil.2 h) ?_
  refine WC_loop (X:=Nat × Value × Chunk) (fun x=>[(0,.pointer (some ⟨p,0,none⟩)),(1,.string pre),(5,x.2.1),(6,.int .i64 ((pos ns pre+x.1:Nat):Int))]) (fun x=>x.2.2::L)
   (fun x=>pos ns pre+x.1≤ns.length∧x.1≤(listE ns pre).length∧Ow 9 1 x.2.1 x.1 (strsV ((listE ns pre).take x.1)) x.2.2) (fun x=>ns.length - (pos ns pre+x.1)) (0,.slice none 0 0,[]) ⟨hpl,Nat.zero_le _,.inl ⟨rfl,rfl,rfl,rfl⟩⟩ iS (fun w h=>h) ?_
  rintro ⟨k,lv,C⟩ ⟨hk1,hk2,ho⟩
  simp only at hk1 hk2 ho
  have hdr1:∀e,ns[pos ns pre+k]? =some e→(ns.drop (pos ns pre)).drop k=e::ns.drop (pos ns pre+k+1):=fun e he=>by
   have hlt:pos ns pre+k < ns.length:=by
    rcases Nat.lt_or_ge (pos ns pre+k) ns.length with h'|h'
    ·exact h'
    ·simp [List.getElem?_eq_none h'] at he
   rw [List.drop_drop,List.drop_eq_getElem_cons hlt]
   rw [List.getElem?_eq_getElem hlt] at he
   rw [Option.some.inj he]
  rcases hn with ⟨rfl,rfl⟩|⟨b,cap,rest,rfl,hmc,hfn⟩
  ·refine kW ?_
   refine kR ?_
   have:k=0:=by simp at hk1;omega
   subst this
   exact ⟨_,iC,C,rfl,by simpa [listE,tupled] using ho⟩
  ·(repeat' first|refine kW ?_|refine kU fun bk=>?_|refine kV fun hc=>?_|refine kZ (fun hc=>?_) fun hc=>?_|fail)
   ·have hlt:pos ns pre+k < ns.length:=by omega
    obtain ⟨e,he⟩:∃e,ns[pos ns pre+k]? =some e:=⟨ns[pos ns pre+k],by simp [hlt]⟩
    have htw:=tw_step (fun e:En=>hasP e.name pre) (ns.drop (pos ns pre)) k e hk2 (by rw [List.getElem?_drop];exact he)
    refine OW_EV (EV_indexAddr0 (j:=pos ns pre+k) rfl rfl rfl hlt) rfl ?_
    refine kW ?_
    refine OW_EV (EV_loadc (v:=.string e.name) rfl (by repeat (first|assumption|exact Fnd.here|refine Fnd.there ?_)) (by rw [nth_eq];exact getE_app (ents_at he).1)) rfl ?_
    refine kW ?_
    refine cP rfl rfl (hasP_a e.name pre _) ?_
    cases hpx:hasP e.name pre
    ·refine kW ?_
     refine kR ?_
     refine ⟨_,iC,C,rfl,?_⟩
     have hle:=htw.2 hpx
     have:listE ns pre=(listE ns pre).take k:=(List.take_of_length_le (by unfold listE;omega)).symm
     rw [this]
     have hl2:((listE ns pre).take k).length=k:=by rw [←this];exact hle
     rw [hl2];exact ho
    ·refine kW ?_
     refine OW_EV (EV_indexAddr0 (j:=pos ns pre+k) rfl rfl rfl hlt) rfl ?_
     refine kW ?_
     refine OW_EV (EV_loadc (v:=.string e.name) rfl (by repeat (first|assumption|exact Fnd.here|refine Fnd.there ?_)) (by rw [nth_eq];exact getE_app (ents_at he).1)) rfl ?_
     refine kW ?_
     refine OW_buildSlice (cs:=[.string e.name]) rfl (by rfl) (by simp [fillL,patch,Value.cells,zeros]) (by omega) rfl rfl (fun bn=>?_)
     refine kW ?_
     have hlen:(listE ns pre).length≤ns.length:=by unfold listE;have:=tw_le (fun e:En=>hasP e.name pre) (ns.drop (pos ns pre));simp at this;omega
     refine OW_append rfl rfl ho (c:=1) (ys:=[.string e.name]) (.inr ⟨_,_,rfl,RdAt.cl' (off:=0) (by repeat (first|assumption|exact Fnd.here|refine Fnd.there ?_)) rfl,rfl⟩) (by repeat (first|exact Zip.here _|apply Zip.there)) (by rfl) rfl (by omega) (by simp only [maxLen];omega) rfl (fun v' C' ho2 hn1 hn2=>?_)
     refine kW ?_
     refine WQ_round (k+1,v',C') (by simp only;omega) ⟨by simp only;omega,(htw.1 hpx).1,?_⟩ iS (fun w h=>iH h)
     have:=take_succ_of (htw.1 hpx).2
     simp only
     rw [show (listE ns pre).take (k+1)=(listE ns pre).take k++[e] from this]
     simpa [strsV] using ho2
   ·refine kR ?_
    refine ⟨_,iC,C,rfl,?_⟩
    have hle:(listE ns pre).length=k:=by
     have:=tw_le (fun e:En=>hasP e.name pre) (ns.drop (pos ns pre))
     simp only [List.length_drop] at this
     unfold listE at hk2 ⊢
     omega
    have:listE ns pre=(listE ns pre).take k:=(List.take_of_length_le (by omega)).symm
    rw [hle,this];exact ho
 ·refine kW ?_
  refine kH ?_
  exact ⟨[]::L,fun w h=>Holds.nil.2 h,[],rfl,.inl ⟨rfl,by simp [listS],by simp [listS,strsV],rfl⟩⟩
theorem mem_insE {es:List En} {i:Nat} {e x:En}:x∈insE es i e↔x=e∨x∈es:=by
 unfold insE
 rw [List.mem_append,List.mem_cons]
 constructor
 ·rintro (h|h|h)
  ·exact .inr (List.mem_of_mem_take h)
  ·exact .inl h
  ·exact .inr (List.mem_of_mem_drop h)
 ·rintro (h|h)
  ·exact .inr (.inl h)
  ·rw [←List.take_append_drop i es,List.mem_append] at h
   rcases h with h|h
   ·exact .inl h
   ·exact .inr (.inr h)
theorem asc_append:∀{a b:List En},Asc a→Asc b→(∀x∈a,∀y∈b,kcmp x.name y.name < 0)→Asc (a++b)
 |[],b,_,hb,_=>hb
 |e::r,b,ha,hb,h=>by
  refine ⟨fun x hx=>?_,asc_append ha.2 hb (fun x hx=>h x (by simp [hx]))⟩
  rcases List.mem_append.1 hx with h2|h2
  ·exact ha.1 x h2
  ·exact h e (by simp) x h2
theorem asc_take:∀{es:List En} (i:Nat),Asc es→Asc (es.take i)
 |[],i,_=>by simp [Asc]
 |e::r,0,_=>by simp [Asc]
 |e::r,i+1,h=>by
  simp only [List.take_succ_cons]
  exact ⟨fun x hx=>h.1 x (List.mem_of_mem_take hx),asc_take i h.2⟩
theorem asc_dropn:∀{es:List En} (i:Nat),Asc es→Asc (es.drop i)
 |[],i,_=>by simp [Asc]
 |e::r,0,h=>by simpa using h
 |e::r,i+1,h=>by simpa using asc_dropn i h.2
theorem mem_take_idx {es:List En} {i:Nat} {x:En} (h:x∈es.take i):∃k,k < i∧es[k]? =some x:=by
 obtain ⟨k,hk⟩:=List.getElem?_of_mem h
 rw [List.getElem?_take] at hk
 split at hk
 ·exact ⟨k,by assumption,hk⟩
 ·simp at hk
theorem mem_drop_idx {es:List En} {i:Nat} {x:En} (h:x∈es.drop i):∃k,i≤k∧es[k]? =some x:=by
 obtain ⟨k,hk⟩:=List.getElem?_of_mem h
 rw [List.getElem?_drop] at hk
 exact ⟨i+k,by omega,hk⟩
theorem has_false {es:List En} {s:ByteArray} (h:has es s=false) {e:En} (he:e∈es):e.name≠s:=by
 intro hn
 have:has es s=true:=by unfold has;rw [List.any_eq_true];exact ⟨e,he,by simpa using hn⟩
 rw [h] at this;cases this
theorem asc_put {es:List En} (s:ByteArray) (f:Nat) (ha:Asc es):Asc (putE es s f):=by
 unfold putE
 split
 ·rename_i hh
  obtain ⟨g,hg,_,hlt⟩:=has_get ha hh
  have key:∀(l:List En) (i:Nat) (e e':En),l[i]? =some e→e.name=e'.name→Asc l→Asc (l.set i e'):=by
   intro l
   induction l with
   |nil=>intro i e e' h;simp at h
   |cons x r ih=>
    intro i e e' h hn hl
    cases i with
    |zero=>
     simp at h;subst h
     exact ⟨fun y hy=>by rw [←hn];exact hl.1 y hy,hl.2⟩
    |succ i=>
     simp only [List.set_cons_succ]
     refine ⟨fun y hy=>?_,ih i e e' (by simpa using h) hn hl.2⟩
     rcases List.mem_or_eq_of_mem_set hy with h2|h2
     ·exact hl.1 y h2
     ·subst h2
      rw [←hn];exact hl.1 e (List.mem_of_getElem? (by simpa using h))
  exact key _ _ _ _ hg rfl ha
 ·rename_i hh
  have hh':has es s=false:=by simpa using hh
  unfold insE
  refine asc_append (asc_take _ ha) ⟨fun y hy=>?_,asc_dropn _ ha⟩ (fun x hx y hy=>?_)
  ·obtain ⟨k,hk,hky⟩:=mem_drop_idx hy
   have h1:¬kcmp y.name s < 0:=fun h=>by have:=(pos_spec (s:=s) ha hky).1 h;omega
   have h2:kcmp y.name s≠0:=fun h=>has_false hh' (List.mem_of_getElem? hky) (kcmp_eq.1 h)
   rw [kcmp_neg];simp only;omega
  ·obtain ⟨k,hk,hkx⟩:=mem_take_idx hx
   have h1:kcmp x.name s < 0:=(pos_spec (s:=s) ha hkx).2 hk
   rcases List.mem_cons.1 hy with h2|h2
   ·subst h2;exact h1
   ·obtain ⟨j,hj,hjy⟩:=mem_drop_idx h2
    exact asc_get ha (by omega) hkx hjy
theorem put_length {es:List En} {s:ByteArray} {f:Nat}:(putE es s f).length≤es.length+1:=by
 unfold putE insE
 split
 ·simp
 ·simp;omega
theorem mem_put {es:List En} {s:ByteArray} {f:Nat} {x:En} (h:x∈putE es s f):x=⟨s,f⟩∨x∈es:=by
 unfold putE at h
 split at h
 ·rcases List.mem_or_eq_of_mem_set h with h2|h2
  ·exact .inr h2
  ·exact .inl h2
 ·exact mem_insE.1 h
theorem nodup_put {es:List En} {s:ByteArray} {f:Nat} (hn:(es.map En.file).Nodup) (hf:f∉es.map En.file):((putE es s f).map En.file).Nodup:=by
 unfold putE
 split
 ·rw [List.map_set]
  have key:∀(l:List Nat) (i:Nat),l.Nodup→f∉l→(l.set i f).Nodup:=by
   intro l
   induction l with
   |nil=>intro i _ _;simp
   |cons x r ih=>
    intro i hl hf
    simp only [List.nodup_cons,List.mem_cons,not_or] at hl hf
    cases i with
    |zero=>simp only [List.set_cons_zero,List.nodup_cons];exact ⟨hf.2,hl.2⟩
    |succ i=>
     simp only [List.set_cons_succ,List.nodup_cons]
     refine ⟨fun hm=>?_,ih i hl.2 hf.2⟩
     rcases List.mem_or_eq_of_mem_set hm with h2|h2
     ·exact hl.1 h2
     ·exact hf.1 h2.symm
  exact key _ _ hn hf
 ·unfold insE
  rw [List.map_append,List.map_cons]
  have hsp:es.map En.file=(es.take (pos es s)).map En.file++(es.drop (pos es s)).map En.file:=by rw [←List.map_append,List.take_append_drop]
  rw [hsp] at hn hf
  have hp:((es.take (pos es s)).map En.file++f::(es.drop (pos es s)).map En.file).Perm (f::((es.take (pos es s)).map En.file++(es.drop (pos es s)).map En.file)):=List.perm_middle
  exact hp.nodup_iff.2 (List.nodup_cons.2 ⟨hf,hn⟩)
theorem mem_dropE {es:List En} {s:ByteArray} {x:En} (h:x∈dropE es s):x∈es:=List.mem_of_mem_eraseIdx h
theorem drop_length {es:List En} {s:ByteArray}:(dropE es s).length≤es.length:=List.length_eraseIdx_le _ _
theorem map_eraseIdx' {α β:Type} (f:α→β):∀(l:List α) (i:Nat),(l.eraseIdx i).map f=(l.map f).eraseIdx i
 |[],i=>by simp
 |x::r,0=>by simp
 |x::r,i+1=>by simp [map_eraseIdx' f r i]
theorem nodup_drop {es:List En} {s:ByteArray} (hn:(es.map En.file).Nodup):((dropE es s).map En.file).Nodup:=by
 unfold dropE
 rw [map_eraseIdx']
 exact hn.sublist (List.eraseIdx_sublist _ _)
theorem file_not_drop {es:List En} {s:ByteArray} (ha:Asc es) (hh:has es s=true) (hn:(es.map En.file).Nodup):fileE es s∉(dropE es s).map En.file:=by
 obtain ⟨g,hg,hfe,hlt⟩:=has_get ha hh
 rw [hfe]
 unfold dropE
 rw [List.eraseIdx_eq_take_drop_succ,List.map_append,List.mem_append]
 have hsp:es=es.take (pos es s)++⟨s,g⟩::es.drop (pos es s+1):=by
  have h2:es[pos es s]=⟨s,g⟩:=by rw [List.getElem?_eq_getElem hlt] at hg;exact Option.some.inj hg
  rw [←h2,←List.drop_eq_getElem_cons hlt,List.take_append_drop]
 have hn2:(((es.take (pos es s)).map En.file)++g::(es.drop (pos es s+1)).map En.file).Nodup:=by
  have:=congrArg (List.map En.file) hsp
  rw [List.map_append,List.map_cons] at this
  rw [←this];exact hn
 have hn3:=(List.perm_middle.nodup_iff).1 hn2
 simp only [List.nodup_cons,List.mem_append,not_or] at hn3
 intro h
 rcases h with h|h
 ·exact hn3.1.1 h
 ·exact hn3.1.2 h
omit [W0] in
structure WN (F m:Nat) (es:List En):Prop where
 asc:Asc es
 len:es.length≤m
 inn:∀e∈es,e.file < F
 dist:(es.map En.file).Nodup
theorem WN.mono {F m F' m':Nat} {es:List En} (h:WN F m es) (hF:F≤F') (hm:m≤m'):WN F' m' es:=
 ⟨h.asc,Nat.le_trans h.len hm,fun e he=>Nat.lt_of_lt_of_le (h.inn e he) hF,h.dist⟩
theorem fileE_lt {F m:Nat} {es:List En} {s:ByteArray} (h:WN F m es) (hh:has es s=true):fileE es s < F:=by
 obtain ⟨g,hg,hfe,hlt⟩:=has_get h.asc hh
 rw [hfe];exact h.inn _ (List.mem_of_getElem? hg)
theorem wn_drop {F m:Nat} {es:List En} (s:ByteArray) (h:WN F m es):WN F m (dropE es s):=
 ⟨asc_drop s h.asc,Nat.le_trans drop_length h.len,fun e he=>h.inn e (mem_dropE he),nodup_drop h.dist⟩
theorem wn_put {F m:Nat} {es:List En} (s:ByteArray) {f:Nat} (h:WN F m es) (hf:f < F) (hn:f∉es.map En.file):WN F (m+1) (putE es s f):=
 ⟨asc_put s f h.asc,Nat.le_trans put_length (by have:=h.len;omega),fun e he=>by
   rcases mem_put he with h2|h2
   ·subst h2;exact hf
   ·exact h.inn e h2,nodup_put h.dist hn⟩
theorem wn_rn {F m:Nat} {es:List En} {a:ByteArray} (b:ByteArray) (h:WN F m es) (hh:has es a=true):WN F (m+1) (afterE es (.rn a b)):=
 wn_put b (wn_drop a h) (fileE_lt h hh) (file_not_drop h.asc hh h.dist)
omit [W0] in
def Rp (F m:Nat):List En→List Ch→List En→Prop
 |ds,[],ns=>ds=ns∧WN F m ds
 |ds,c::j,ns=>chOk ds c=true∧WN F m ds∧Rp F m (afterE ds c) j ns
theorem Rp.mono {F m F' m':Nat} (hF:F≤F') (hm:m≤m'):∀{ds:List En} {j:List Ch} {ns:List En},Rp F m ds j ns→Rp F' m' ds j ns
 |_,[],_,h=>⟨h.1,h.2.mono hF hm⟩
 |_,_::_,_,h=>⟨h.1,h.2.1.mono hF hm,Rp.mono hF hm h.2.2⟩
theorem Rp.snoc {F m:Nat} {c:Ch}:∀{ds:List En} {j:List Ch} {ns:List En},Rp F m ds j ns→chOk ns c=true→WN F m (afterE ns c)→Rp F m ds (j++[c]) (afterE ns c)
 |_,[],_,h,hc,hw=>by obtain ⟨h1,h2⟩:=h;subst h1;exact ⟨hc,h2,rfl,hw⟩
 |_,_::_,_,h,hc,hw=>⟨h.1,h.2.1,Rp.snoc h.2.2 hc hw⟩
theorem Rp.now {F m:Nat}:∀{ds:List En} {j:List Ch} {ns:List En},Rp F m ds j ns→WN F m ns
 |_,[],_,h=>by obtain ⟨h1,h2⟩:=h;subst h1;exact h2
 |_,_::_,_,h=>Rp.now h.2.2
omit [W0] in
structure Good (S:Fsy) (m:Nat):Prop where
 rp:Rp S.files.length m S.durable S.journal S.names
 lf:S.files.length≤m
 lj:S.journal.length≤m
 m:m≤90000
 q:S.quota≤16777216
 left: -9223372036854775808≤S.left∧S.left≤9223372036854775807
 dl:∀f∈S.files,f.data.length≤S.quota∧f.synced≤f.data.length
omit [W0] in
def FsAt (S:Fsy) (p:Nat) (C:Chunk):Prop:=∃fv nv dv jv vs Cs Cf Cn Cd Cj,
 C=hdr S p fv nv dv jv++(Cf++(Cn++(Cd++(Cj++Cs.flatten))))∧Ow 61 2 fv S.files.length (fcl S.files vs) Cf∧FR S.files vs Cs∧
 Ow 95 2 nv S.names.length (ents S.names) Cn∧Ow 95 2 dv S.durable.length (ents S.durable) Cd∧Ow 97 1 jv S.journal.length (S.journal.map chV) Cj
theorem six {w:World} {A B C D E F:Chunk} {L:List Chunk}:Holds w ((A++(B++(C++(D++(E++F)))))::L)↔Holds w (A::B::C::D::E::F::L):=by
 simp [Holds,List.append_assoc]
theorem sl_there {L:List Chunk} {C:Chunk} {k m:Nat} {v:Value} {xs:List Value} (h:Sl L k v m xs):Sl (C::L) k v m xs:=by
 rcases h with h|⟨a,cap,e1,h5,h6⟩
 ·exact .inl h
 ·refine .inr ⟨a,cap,e1,?_,h6⟩
  rcases h5 with h|⟨b,off,c,T,fr,e2,h7,h8⟩
  ·exact .inl h
  ·exact .inr ⟨b,off,c,T,fr,e2,h7.there,h8⟩
theorem used_le {S:Fsy} {m:Nat} (h:Good S m):usedN S≤1600000000000:=by
 have hw:=h.rp.now
 have key:∀es:List En,(∀e∈es,e.file < S.files.length)→lens S.files es≤es.length * 16777216:=by
  intro es
  induction es with
  |nil=>intro _;simp [lens]
  |cons e r ih=>
   intro hin
   have h1:=ih (fun x hx=>hin x (by simp [hx]))
   have he:=hin e (by simp)
   have h2:(fiAt S.files e).data.length≤16777216:=by
    have:fiAt S.files e∈S.files:=by
     have:S.files[e.file]? =some (fiAt S.files e):=by simp [fiAt,List.getD,List.getElem?_eq_getElem he]
     exact List.mem_of_getElem? this
    have h3:=(h.dl _ this).1
    have:=h.q;omega
   have:lens S.files (e::r)=(fiAt S.files e).data.length+lens S.files r:=by simp [lens]
   rw [this];simp only [List.length_cons];omega
 have h1:=key S.names hw.inn
 have h2:=hw.len
 have h3:=h.m
 have h4:S.names.length * 16777216≤90000 * 16777216:=Nat.mul_le_mul_right _ (by omega)
 unfold usedN
 omega
theorem FR.split {fs:List Fi} {vs:List Value} {Cs:List Chunk} {i:Nat} {f:Fi} (h:FR fs vs Cs) (hi:fs[i]? =some f) :
 ∃v C D1 D2,vs[i]? =some v∧Ow 5 1 v f.data.length (bsv f.data) C∧Cs.flatten=D1++(C++D2)∧
  ∀f' v' C',Ow 5 1 v' f'.data.length (bsv f'.data) C'→∃Cs',FR (fs.set i f') (vs.set i v') Cs'∧Cs'.flatten=D1++(C'++D2):=by
 obtain ⟨v,C,h1,h2,h3⟩:=h.at_ i f hi
 have hlt:i < Cs.length:=by
  rcases Nat.lt_or_ge i Cs.length with h'|h'
  ·exact h'
  ·simp [List.getElem?_eq_none h'] at h2
 have hC:Cs[i]=C:=by rw [List.getElem?_eq_getElem hlt] at h2;exact Option.some.inj h2
 refine ⟨v,C,(Cs.take i).flatten,(Cs.drop (i+1)).flatten,h1,h3,?_,fun f' v' C' ho=>⟨Cs.set i C',⟨by simp [h.lv],by simp [h.lc],fun j g hj=>?_⟩,?_⟩⟩
 ·conv=>lhs;rw [←List.take_append_drop i Cs,List.drop_eq_getElem_cons hlt,hC]
  simp
 ·by_cases hij:i=j
  ·subst hij
   have hfl:i < fs.length:=by rw [←h.lc];exact hlt
   rw [List.getElem?_set_self hfl] at hj
   cases hj
   exact ⟨v',C',by rw [List.getElem?_set_self (by rw [h.lv];exact hfl)],by rw [List.getElem?_set_self hlt],ho⟩
  ·rw [List.getElem?_set_ne hij] at hj
   obtain ⟨u,D,a1,a2,a3⟩:=h.at_ j g hj
   exact ⟨u,D,by rw [List.getElem?_set_ne hij];exact a1,by rw [List.getElem?_set_ne hij];exact a2,a3⟩
 ·rw [List.set_eq_take_append_cons_drop,if_pos hlt]
  simp
theorem fcl_set_v:∀{fs:List Fi} {vs:List Value} {i:Nat} {f:Fi} {v':Value} {d:List UInt8},fs[i]? =some f→vs.length=fs.length→(fcl fs vs).set (i * 2) v'=fcl (fs.set i ⟨d,f.synced⟩) (vs.set i v')
 |[],_,_,_,_,_,h,_=>by simp at h
 |_::_,[],_,_,_,_,_,h=>by simp at h
 |g::fs,u::vs,0,f,v',d,h,_=>by simp at h;subst h;simp [fcl]
 |g::fs,u::vs,i+1,f,v',d,h,hl=>by
  have:=fcl_set_v (fs:=fs) (vs:=vs) (i:=i) (f:=f) (v':=v') (d:=d) (by simpa using h) (by simpa using hl)
  rw [show (i+1) * 2=i * 2+1+1 from by omega]
  simp [fcl,this]
theorem fcl_set_s:∀{fs:List Fi} {vs:List Value} {i:Nat} {f:Fi} {n:Nat},fs[i]? =some f→vs.length=fs.length→(fcl fs vs).set (i * 2+1) (.int .i64 (n:Int))=fcl (fs.set i ⟨f.data,n⟩) vs
 |[],_,_,_,_,h,_=>by simp at h
 |_::_,[],_,_,_,_,h=>by simp at h
 |g::fs,u::vs,0,f,n,h,_=>by simp at h;subst h;simp [fcl]
 |g::fs,u::vs,i+1,f,n,h,hl=>by
  have:=fcl_set_s (fs:=fs) (vs:=vs) (i:=i) (f:=f) (n:=n) (by simpa using h) (by simpa using hl)
  rw [show (i+1) * 2+1=i * 2+1+1+1 from by omega]
  simp [fcl,this]
theorem set_same {α:Type} {l:List α} {i:Nat} {a:α} (h:l[i]? =some a):l.set i a=l:=by
 have hlt:i < l.length:=by
  rcases Nat.lt_or_ge i l.length with h'|h'
  ·exact h'
  ·simp [List.getElem?_eq_none h'] at h
 rw [List.getElem?_eq_getElem hlt] at h
 rw [←Option.some.inj h];simp
theorem see_of {S:Fsy} {p m:Nat} {fv nv dv jv:Value} {vs:List Value} {Cs:List Chunk} {Cf Cn Cd Cj:Chunk} {L:List Chunk} (hG:Good S m)
 (hf:Ow 61 2 fv S.files.length (fcl S.files vs) Cf) (hr:FR S.files vs Cs) (hn:Ow 95 2 nv S.names.length (ents S.names) Cn) :
 See (hdr S p fv nv dv jv::Cf::Cn::Cd::Cj::Cs.flatten::L) S p fv nv dv jv vs:=by
 have hw:=hG.rp.now
 refine ⟨Fnd.here,?_,nsl_there (nsl_there (nsl_of hn)),hr.lv,fun i f hi=>?_,hw.asc,by have:=hw.len;have:=hG.m;omega,hw.inn⟩
 ·rcases hf with ⟨rfl,h0,h1,rfl⟩|⟨b,cap,rest,rfl,rfl,hxl,hrl,hmc,hcm⟩
  ·exact .inl ⟨rfl,List.eq_nil_of_length_eq_zero h0⟩
  ·exact .inr ⟨b,cap,rest,rfl,hmc,Fnd.here.there⟩
 ·obtain ⟨v,C,h1,h2,h3⟩:=hr.at_ i f hi
  refine ⟨v,h1,?_,ow_one h3⟩
  have h4:=ow_sl (L:=[]) h3
  rcases h4 with h|⟨a,cap,e1,h5,h6⟩
  ·exact .inl h
  ·refine .inr ⟨a,cap,e1,?_,h6⟩
   rcases h5 with h|⟨b,off,c,T,fr,e2,h7,h8⟩
   ·exact .inl h
   ·refine .inr ⟨b,off,c,T,fr,e2,?_,h8⟩
    have hm:(b,Obj.cells c T fr)∈C:=by simpa [Fnd] using h7
    refine Fnd.there (Fnd.there (Fnd.there (Fnd.there (Fnd.there (Fnd.mem ?_)))))
    exact List.mem_flatten.2 ⟨C,List.mem_of_getElem? h2,hm⟩
omit [W0] in
def createS (S:Fsy) (s:ByteArray):Int × Fsy:=
 if openE S s=0 then (64,S) else if openE S s≠61 then (openE S s,S) else
 if spendE S≠0 then (spendE S,spendS S) else
 (0,{ spendS S with files:=S.files++[⟨[],0⟩],names:=afterE S.names (.cr s S.files.length),journal:=S.journal++[.cr s S.files.length] })
theorem openE_none {S:Fsy} {s:ByteArray} (h:openE S s=61):S.dead=false∧nameOk s=true∧has S.names s=false:=by
 unfold openE at h
 cases h1:S.dead<;>cases h2:nameOk s<;>cases h3:has S.names s<;>simp [h1,h2,h3] at h ⊢
theorem nameOk_size {s:ByteArray} (h:nameOk s=true):1≤s.size∧s.size≤200:=by
 simp [nameOk] at h;exact ⟨h.1.1,h.1.2⟩
theorem spend_same (S:Fsy):(spendS S).files=S.files∧(spendS S).names=S.names∧(spendS S).durable=S.durable∧(spendS S).journal=S.journal∧(spendS S).quota=S.quota:=by
 unfold spendS;(repeat' split)<;>exact ⟨rfl,rfl,rfl,rfl,rfl⟩
theorem create_1 (S:Fsy) (p m:Nat) (s:ByteArray) (C:Chunk) (L:List Chunk) (hA:FsAt S p C) (hG:Good S m) :
 Gv Tryz.prog 9 [.pointer (some ⟨p,0,none⟩),.string s].toArray (C::L)
  (fun r L'=>∃C',r=.int .i64 (createS S s).1∧L'=C'::L∧FsAt (createS S s).2 p C'):=by
 obtain ⟨fv,nv,dv,jv,vs,Cs,Cf,Cn,Cd,Cj,rfl,hf,hr,hn,hd,hj⟩:=hA
 refine Gv.holds (L':=hdr S p fv nv dv jv::Cf::Cn::Cd::Cj::Cs.flatten::L) ?_ (fun w h=>six.1 h)
 refine Gv.of_body Tryz.func9 rfl rfl ?_
 refine kW ?_
 have hS:=see_of (p:=p) (dv:=dv) (jv:=jv) (Cd:=Cd) (Cj:=Cj) (L:=L) hG hf hr hn
 refine cP rfl rfl (open_1 S p fv nv dv jv s _ hS.h hS.n hS.an hS.ln) ?_
 have hL:∀w,Holds w (hdr S p fv nv dv jv::Cf::Cn::Cd::Cj::Cs.flatten::L)→Holds w ((hdr S p fv nv dv jv++(Cf++(Cn++(Cd++(Cj++Cs.flatten)))))::L):=fun w h=>six.2 h
 (repeat' first|refine kW ?_|refine kU fun bk=>?_|refine kV fun hc=>?_|refine kZ (fun hc=>?_) fun hc=>?_|fail)
 ·have h0:openE S s=0:=by assumption
  refine kH ?_
  exact ⟨_,hL,_,by simp [createS,h0];rfl,rfl,fv,nv,dv,jv,vs,Cs,Cf,Cn,Cd,Cj,by simp [createS,h0],by simpa [createS,h0] using hf,by simpa [createS,h0] using hr,by simpa [createS,h0] using hn,by simpa [createS,h0] using hd,by simpa [createS,h0] using hj⟩
 ·have h0:¬openE S s=0:=by assumption
  have h1:¬openE S s=61:=by assumption
  have hc:createS S s=(openE S s,S):=by simp [createS,h0,h1]
  refine kH ?_
  rw [hc]
  exact ⟨_,hL,_,rfl,rfl,fv,nv,dv,jv,vs,Cs,Cf,Cn,Cd,Cj,rfl,hf,hr,hn,hd,hj⟩
 ·have h0:¬openE S s=0:=by assumption
  have h1:openE S s=61:=by omega
  obtain ⟨_,hok,hno⟩:=openE_none h1
  obtain ⟨e1,e2,e3,e4,e5⟩:=spend_same S
  refine cC rfl rfl (spend_1 S p fv nv dv jv _ hG.left) (fun r L' hp=>?_)
  obtain ⟨rfl,rfl⟩:=hp
  (repeat' first|refine kW ?_|refine kU fun bk=>?_|refine kV fun hc=>?_|refine kZ (fun hc=>?_) fun hc=>?_|fail)
  ·have h2:¬spendE S=0:=by assumption
   have hc:createS S s=(spendE S,spendS S):=by simp [createS,h0,h1,h2]
   refine kH ?_
   rw [hc]
   exact ⟨_,fun w h=>six.2 h,_,rfl,rfl,fv,nv,dv,jv,vs,Cs,Cf,Cn,Cd,Cj,rfl,by rw [e1];exact hf,by rw [e1];exact hr,by rw [e2];exact hn,by rw [e3];exact hd,by rw [e4];exact hj⟩
  ·have h2:spendE S=0:=by omega
   have hc:createS S s=(0,{ spendS S with files:=S.files++[⟨[],0⟩],names:=afterE S.names (.cr s S.files.length),journal:=S.journal++[.cr s S.files.length] }):=by simp [createS,h0,h1,h2]
   refine OW_buildSlice (cs:=[.slice none 0 0,.int .i64 0]) rfl (by rfl) (by simp [fillL,patch,Value.cells,zeros]) (by omega) rfl rfl (fun bn=>?_)
   refine kW ?_
   have hlf:=hG.lf
   have hgm:=hG.m
   refine OW_append rfl rfl hf (c:=1) (ys:=[.slice none 0 0,.int .i64 0]) (.inr ⟨_,_,rfl,RdAt.cl' (off:=0) (by repeat (first|assumption|exact Fnd.here|refine Fnd.there ?_)) rfl,rfl⟩) (by repeat (first|exact Zip.here _|apply Zip.there)) (by rfl) rfl (by omega) (by simp only [maxLen];omega) rfl (fun fv' Cf' ho hn1 hn2=>?_)
   obtain ⟨fa,fc,rfl⟩:=ow_slc ho
   refine kW ?_
   have hsz:=nameOk_size hok
   have hnow:=hG.rp.now
   have hlj:=hG.lj
   refine WC_holds' (L':=hdr { spendS S with files:=S.files++[⟨[],0⟩] } p (.slice fa (S.files.length+1) fc) nv dv jv::Cf'::Cn::Cd::Cj::Cs.flatten::L) (fun w h=>iH h) ?_
   refine WC_drawAll [11] mixed ?_
   (refine WR_t 0 ?_;refine WR_t 1 ?_;refine WR_t 3 ?_;refine WR_t 4 ?_;refine WR_t 5 ?_;refine WR_t 6 ?_;refine WR_t 7 ?_;refine WR_t 8 ?_)
   rw [show ((S.files.length+1:Nat):Int) - 1=(S.files.length:Int) from by omega]
   refine cI 2 rfl rfl ?_
   refine cP rfl rfl (clone_a s _ (by omega)) ?_
   refine ⟨iC,?_⟩
   (refine WR_t 9 ?_;refine WR_t 10 ?_)
   refine cL 11 rfl rfl rfl ?_
   refine cC rfl rfl (Gv.holds (note_1 { spendS S with files:=S.files++[⟨[],0⟩] } p (.slice fa (S.files.length+1) fc) nv dv jv (.cr s S.files.length) Cn Cj (Cf'::Cd::Cs.flatten::L) (by simp only;rw [e2];exact hn) (by simp only;rw [e4];exact hj) (by simp only;rw [e2];exact hnow.asc) (by simp only;rw [e2];have:=hnow.len;omega) (by simp only;rw [e4];omega) rfl) (fun w h=>iH h)) (fun r L' hp=>?_)
   obtain ⟨nv',jv',Cn',Cj',rfl,rfl,hn',hj'⟩:=hp
   refine cD ?_
   refine kW ?_
   refine kH ?_
   rw [hc]
   refine ⟨_,fun w h=>six.2 ((iC:Inc (hdr _ p _ nv' dv jv'::Cf'::Cn'::Cd::Cj'::Cs.flatten::L) _).holds h),_,rfl,rfl,.slice fa (S.files.length+1) fc,nv',dv,jv',vs++[.slice none 0 0],Cs++[[]],Cf',Cn',Cd,Cj',by simp;rfl,?_,?_,?_,?_,?_⟩
   ·simp only [List.length_append,List.length_cons,List.length_nil]
    rw [fcl_append hr.lv];exact ho
   ·refine ⟨by simp [hr.lv],by simp [hr.lc],fun i f hi=>?_⟩
    rcases Nat.lt_or_ge i S.files.length with hlt|hge
    ·rw [List.getElem?_append_left hlt] at hi
     obtain ⟨v,C,a1,a2,a3⟩:=hr.at_ i f hi
     exact ⟨v,C,by rw [List.getElem?_append_left (by rw [hr.lv];exact hlt)];exact a1,by rw [List.getElem?_append_left (by rw [hr.lc];exact hlt)];exact a2,a3⟩
    ·rw [List.getElem?_append_right hge] at hi
     have hi0:i - S.files.length=0:=by
      rcases Nat.eq_zero_or_pos (i - S.files.length) with h|h
      ·exact h
      ·obtain ⟨q,hq⟩:∃q,i - S.files.length=q+1:=⟨i - S.files.length - 1,by omega⟩
       rw [hq] at hi;simp at hi
     rw [hi0] at hi;simp at hi;subst hi
     exact ⟨.slice none 0 0,[],by rw [List.getElem?_append_right (by rw [hr.lv];exact hge),hr.lv,hi0];rfl,by rw [List.getElem?_append_right (by rw [hr.lc];exact hge),hr.lc,hi0];rfl,.inl ⟨rfl,rfl,rfl,rfl⟩⟩
   ·simpa [e2] using hn'
   ·simpa [e3] using hd
   ·simpa [e4] using hj'
omit [W0] in
def appendS (S:Fsy) (s:ByteArray) (b:List UInt8):Int × Fsy:=
 if openE S s≠0 then (openE S s,S) else if usedN S+b.length > S.quota then (60,S) else
 if spendE S≠0 then (spendE S,spendS S) else
 (0,{ spendS S with files:=S.files.set (fileE S.names s) ⟨(fiAt S.files ⟨s,fileE S.names s⟩).data++b,(fiAt S.files ⟨s,fileE S.names s⟩).synced⟩ })
theorem append_1 (S:Fsy) (p m:Nat) (s:ByteArray) (b:List UInt8) (v:Value) (C:Chunk) (L:List Chunk) (hA:FsAt S p C) (hG:Good S m) (hv:Sl L 1 v b.length (bsv b)) (hb:b.length≤281474976710656) :
 Gv Tryz.prog 11 [.pointer (some ⟨p,0,none⟩),.string s,v].toArray (C::L)
  (fun r L'=>∃C',r=.int .i64 (appendS S s b).1∧L'=C'::L∧FsAt (appendS S s b).2 p C'):=by
 obtain ⟨fv,nv,dv,jv,vs,Cs,Cf,Cn,Cd,Cj,rfl,hf,hr,hn,hd,hj⟩:=hA
 refine Gv.holds (L':=hdr S p fv nv dv jv::Cf::Cn::Cd::Cj::Cs.flatten::L) ?_ (fun w h=>six.1 h)
 obtain ⟨va,vc,rfl⟩:=sl_slice hv
 refine Gv.of_body Tryz.func11 rfl rfl ?_
 refine kW ?_
 have hS:=see_of (p:=p) (dv:=dv) (jv:=jv) (Cd:=Cd) (Cj:=Cj) (L:=L) hG hf hr hn
 refine cP rfl rfl (open_1 S p fv nv dv jv s _ hS.h hS.n hS.an hS.ln) ?_
 have hub:=used_le hG
 have hq:=hG.q
 (repeat' first|refine kW ?_|refine kU fun bk=>?_|refine kV fun hc=>?_|refine kZ (fun hc=>?_) fun hc=>?_|fail)
 ·have h0:¬openE S s=0:=by assumption
  have hc:appendS S s b=(openE S s,S):=by simp [appendS,h0]
  refine kH ?_
  rw [hc]
  exact ⟨_,fun w h=>six.2 h,_,rfl,rfl,fv,nv,dv,jv,vs,Cs,Cf,Cn,Cd,Cj,rfl,hf,hr,hn,hd,hj⟩
 ·have h0:openE S s=0:=by omega
  obtain ⟨hdead,hok,hhas⟩:=openE_zero h0
  refine WC_drawAll [] mixed ?_
  (refine WR_t 0 ?_;refine WR_t 2 ?_;refine WR_t 3 ?_;refine WR_t 5 ?_;refine WR_t 6 ?_;refine WR_t 7 ?_;refine WR_t 8 ?_)
  refine cI 1 rfl rfl ?_
  refine cP rfl rfl (used_1 S p fv nv dv jv vs _ hS (by omega)) ?_
  refine ⟨iC,?_⟩
  (refine WR_t 4 ?_;refine WR_t 9 ?_)
  refine cD ?_
  (repeat' first|refine kW ?_|refine kU fun bk=>?_|refine kV fun hc=>?_|refine kZ (fun hc=>?_) fun hc=>?_|fail)
  ·have h1:(usedN S:Int)+(b.length:Int) > (S.quota:Int):=by assumption
   have hc:appendS S s b=(60,S):=by
    unfold appendS;rw [if_neg (by simpa using h0),if_pos (by omega)]
   refine kH ?_
   rw [hc]
   exact ⟨_,fun w h=>six.2 h,_,rfl,rfl,fv,nv,dv,jv,vs,Cs,Cf,Cn,Cd,Cj,rfl,hf,hr,hn,hd,hj⟩
  ·have h1:¬(usedN S:Int)+(b.length:Int) > (S.quota:Int):=by assumption
   obtain ⟨e1,e2,e3,e4,e5⟩:=spend_same S
   refine cC rfl rfl (spend_1 S p fv nv dv jv _ hG.left) (fun r L' hp=>?_)
   obtain ⟨rfl,rfl⟩:=hp
   (repeat' first|refine kW ?_|refine kU fun bk=>?_|refine kV fun hc=>?_|refine kZ (fun hc=>?_) fun hc=>?_|fail)
   ·have h2:¬spendE S=0:=by assumption
    have hc:appendS S s b=(spendE S,spendS S):=by
     unfold appendS;rw [if_neg (by simpa using h0),if_neg (by omega),if_pos h2]
    refine kH ?_
    rw [hc]
    exact ⟨_,fun w h=>six.2 h,_,rfl,rfl,fv,nv,dv,jv,vs,Cs,Cf,Cn,Cd,Cj,rfl,by rw [e1];exact hf,by rw [e1];exact hr,by rw [e2];exact hn,by rw [e3];exact hd,by rw [e4];exact hj⟩
   ·have h2:spendE S=0:=by omega
    have hpo:openN S s=fileE S.names s:=by simp [openN,h0]
    rw [hpo]
    obtain ⟨g,hg,hfe,hlt⟩:=has_get hS.an hhas
    have hef:fileE S.names s < S.files.length:=by rw [hfe];exact hS.inn _ (List.mem_of_getElem? hg)
    have hfi:S.files[fileE S.names s]? =some (fiAt S.files ⟨s,fileE S.names s⟩):=by simp [fiAt,List.getD,List.getElem?_eq_getElem hef]
    have hdl:=(hG.dl _ (List.mem_of_getElem? hfi)).1
    obtain ⟨x,Ci,D1,D2,hxi,hxo,hfl,hset⟩:=hr.split hfi
    obtain ⟨xa,xc,rfl⟩:=ow_slc hxo
    rcases hf with ⟨rfl,hf0,_,rfl⟩|⟨fb,fcap,frest,rfl,rfl,hfxl,hfrl,hfmc,hfcm⟩
    ·omega
    ·rw [hfl]
     refine WC_holds' (L':=hdr (spendS S) p (.slice (some ⟨fb,0,none⟩) S.files.length fcap) nv dv jv::[(fb,cl (fcl S.files vs++frest) 61)]::Cn::Cd::Cj::D1::Ci::D2::L) (fun w h=>?_) ?_
     ·simpa [Holds,List.append_assoc] using h
     refine WC_draw [hdr (spendS S) p (.slice (some ⟨fb,0,none⟩) S.files.length fcap) nv dv jv,[(fb,cl (fcl S.files vs++frest) 61)]] [17] mixed ?_
     (refine WR_t 0 ?_;refine WR_t 1 ?_;refine WR_t 2 ?_;refine WR_t 3 ?_;refine WR_t 4 ?_;refine WR_t 5 ?_;refine WR_t 6 ?_;refine WR_t 7 ?_;refine WR_t 8 ?_;refine WR_t 9 ?_)
     refine cT 10 rfl rfl (EV_indexAddr0 (j:=fileE S.names s) rfl rfl rfl hef) ?_
     (refine WR_t 11 ?_)
     refine cT 12 rfl rfl (EV_loadc (v:=.slice xa _ xc) rfl (by repeat (first|assumption|exact Fnd.here|refine Fnd.there ?_)) (by rw [nth_eq];exact getE_app (fcl_at hfi hxi).1)) ?_
     (refine WR_t 13 ?_)
     refine cI 14 rfl rfl ?_
     refine OW_append rfl rfl hxo (c:=b.length) (ys:=bsv b) (sl_there (sl_there (sl_there (sl_there (sl_there (sl_there (sl_there (sl_there hv)))))))) (by repeat (first|exact Zip.here _|apply Zip.there)) (by rfl) bsv_ones (by omega) (by simp only [maxLen];omega) rfl (fun v' Ci' ho hn1 hn2=>?_)
     refine ⟨iC,?_⟩
     refine cT 15 rfl rfl (EV_indexAddr0 (j:=fileE S.names s) rfl rfl rfl hef) ?_
     (refine WR_t 16 ?_)
     refine cL 17 rfl rfl rfl ?_
     refine OW_storeTo (fcl (S.files.set (fileE S.names s) ⟨(fiAt S.files ⟨s,fileE S.names s⟩).data++b,(fiAt S.files ⟨s,fileE S.names s⟩).synced⟩) (vs.set (fileE S.names s) v')++frest) rfl rfl (ow_one ho) ?_ iU ?_ ?_
     ·rw [Nat.add_zero,List.set_append_left _ _ (by rw [hfxl];omega),fcl_set_v hfi hr.lv]
     ·rw [List.length_append,hfxl];omega
     refine cD ?_
     refine kW ?_
     obtain ⟨Cs',hr',hfl'⟩:=hset ⟨(fiAt S.files ⟨s,fileE S.names s⟩).data++b,(fiAt S.files ⟨s,fileE S.names s⟩).synced⟩ v' Ci' (by simp only [List.length_append,bsv_append];exact ho)
     have hc:appendS S s b=(0,{ spendS S with files:=S.files.set (fileE S.names s) ⟨(fiAt S.files ⟨s,fileE S.names s⟩).data++b,(fiAt S.files ⟨s,fileE S.names s⟩).synced⟩ }):=by
      unfold appendS;rw [if_neg (by simpa using h0),if_neg (by omega),if_neg (by simpa using h2)]
     refine kH ?_
     rw [hc]
     refine ⟨_,fun w h=>?_,_,rfl,rfl,.slice (some ⟨fb,0,none⟩) S.files.length fcap,nv,dv,jv,vs.set (fileE S.names s) v',Cs',[(fb,cl (fcl (S.files.set (fileE S.names s) ⟨(fiAt S.files ⟨s,fileE S.names s⟩).data++b,(fiAt S.files ⟨s,fileE S.names s⟩).synced⟩) (vs.set (fileE S.names s) v')++frest) 61)],Cn,Cd,Cj,rfl,?_,hr',by simpa [e2] using hn,by simpa [e3] using hd,by simpa [e4] using hj⟩
     ·rw [hfl']
      simpa [Holds,List.append_assoc,hdr,hdrO] using h
     ·refine .inr ⟨fb,fcap,frest,by simp,rfl,?_,by simpa using hfrl,by simpa using hfmc,hfcm⟩
      rw [fcl_length (by simp [hr.lv])]
omit [W0] in
def newS (q:Nat):Fsy:=⟨q,[],[],[],[],-1,false⟩
theorem new_yes (q:Nat) (L:List Chunk) (hq:q≤16777216) :
 Gv Tryz.prog 5 [.int .i64 (q:Int)].toArray L (fun r L'=>∃p C',r=.tuple #[.pointer (some ⟨p,0,none⟩),.int .i64 0]∧L'=C'::L∧FsAt (newS q) p C'):=by
 refine Gv.of_body Tryz.func5 rfl rfl ?_
 (refine kW ?_;refine kV fun hc=>?_;refine kW ?_;refine kU fun bk=>?_;refine kW ?_)
 refine kR ?_
 refine ⟨_::L,iC,_,_,rfl,rfl,.slice none 0 0,.slice none 0 0,.slice none 0 0,.slice none 0 0,[],[],[],[],[],[],?_,.inl ⟨rfl,rfl,rfl,rfl⟩,⟨rfl,rfl,fun i f h=>by simp [newS] at h⟩,.inl ⟨rfl,rfl,rfl,rfl⟩,.inl ⟨rfl,rfl,rfl,rfl⟩,.inl ⟨rfl,rfl,rfl,rfl⟩⟩
 simp [hdr,hdrO,newS]
 rfl
theorem good_new (q:Nat) (hq:q≤16777216):Good (newS q) 0:=
 ⟨⟨rfl,trivial,Nat.le_refl _,fun e h=>by simp [newS] at h,by simp [newS]⟩,Nat.le_refl _,Nat.le_refl _,by omega,hq,by simp [newS],fun f h=>by simp [newS] at h⟩
theorem pick_perm {α:Type} [Inhabited α] (l:List α) (is:List Nat) (hn:is.Nodup) (hi:∀i∈is,i < l.length):∃R,l.Perm (is.map (fun i=>l.getD i default)++R):=by
 refine ⟨((List.range l.length).filter (fun i=>!decide (i∈is))).map (fun i=>l.getD i default),?_⟩
 rw [←List.map_append]
 have h1:l=(List.range l.length).map (fun i=>l.getD i default):=by
  apply List.ext_getElem?
  intro i
  by_cases h:i < l.length
  ·simp [h,List.getD]
  ·simp [List.getElem?_eq_none (Nat.le_of_not_lt h),h]
 have h2:(List.range l.length).Perm (is++(List.range l.length).filter (fun i=>!decide (i∈is))):=by
  refine (List.filter_append_perm (fun i=>decide (i∈is)) (List.range l.length)).symm.trans (List.Perm.append_right _ ?_)
  refine (List.perm_ext_iff_of_nodup (List.nodup_range.filter _) hn).2 (fun a=>?_)
  simp only [List.mem_filter,List.mem_range,decide_eq_true_eq]
  exact ⟨fun h=>h.2,fun h=>⟨hi a h,h⟩⟩
 conv=>lhs;rw [h1]
 exact h2.map _
theorem holds_pick {w:World} {D D' R:Chunk} {L:List Chunk} (hp:D.Perm (D'++R)) (h:Holds w (D::L)):Holds w (D'::L):=by
 have h1:Holds w ((D'++R)::L):=by
  refine ⟨?_,fun x hx=>h.2.1 x ?_,h.2.2⟩
  ·have:=h.1
   simp only [List.flatten_cons,List.map_append] at this ⊢
   have hpm:=(hp.map Prod.fst).append_right (L.flatten.map Prod.fst)
   rw [List.map_append] at hpm
   exact hpm.nodup_iff.1 this
  ·simp only [List.flatten_cons,List.mem_append] at hx ⊢
   rcases hx with hx|hx
   ·exact .inl (hp.mem_iff.2 (List.mem_append.2 hx))
   ·exact .inr hx
 have h2:=(Holds.split.1 h1)
 exact ((h2.perm (List.Perm.swap R D' L)).drop)
theorem settle_2 (S:Fsy) (p m:Nat) (fv nv dv jv:Value) (vs:List Value) (Cs:List Chunk) (Cf Cn:Chunk) (L:List Chunk) (hf:Ow 61 2 fv S.files.length (fcl S.files vs) Cf) (hr:FR S.files vs Cs) (hn:Ow 95 2 nv S.names.length (ents S.names) Cn)
 (hw:WN S.files.length m S.names) (hm:m≤100000) :
 Gv Tryz.prog 106 [.pointer (some ⟨p,0,none⟩)].toArray (hdr S p fv nv dv jv::Cf::Cn::Cs.flatten::L)
  (fun r L'=>∃fv' nv' dv' Cf' Cn' Cd' vs' Cs',r=.tuple #[]∧L'=hdr (settleS S) p fv' nv' dv' (.slice none 0 0)::Cf'::Cn'::Cd'::[]::Cs'.flatten::L∧
    Ow 61 2 fv' (settleS S).files.length (fcl (settleS S).files vs') Cf'∧FR (settleS S).files vs' Cs'∧Ow 95 2 nv' (settleS S).names.length (ents (settleS S).names) Cn'∧Ow 95 2 dv' (settleS S).durable.length (ents (settleS S).durable) Cd'):=by
 have h1:∀v∈vs,v.oneCell'=true:=fun v hv=>by
  obtain ⟨i,hi⟩:=List.getElem?_of_mem hv
  have hlt:i < S.files.length:=by
   rw [←hr.lv]
   rcases Nat.lt_or_ge i vs.length with h'|h'
   ·exact h'
   ·simp [List.getElem?_eq_none h'] at hi
  obtain ⟨u,C,a1,a2,a3⟩:=hr.at_ i S.files[i] (by simp [hlt])
  rw [hi] at a1;cases a1
  exact ow_one a3
 have base:=settle_1 S p fv nv dv jv vs Cf Cn (Cs.flatten::L) hf hr.lv h1 hn (by have:=hw.len;omega) hw.inn
 refine ⟨fun w hh=>(base.out w hh).mono fun _ w' he=>?_⟩
 obtain ⟨v,L',e1,⟨fv',nv',dv',Cf',Cn',Cd',e2,e3,e4,e5,e6⟩,hw'⟩:=he
 subst e2 e3
 have hnd:(S.names.map En.file).Nodup:=hw.dist
 obtain ⟨R,hR⟩:=pick_perm Cs (S.names.map En.file) hnd (fun i hi=>by
  obtain ⟨e,he,rfl⟩:=List.mem_map.1 hi
  rw [hr.lc];exact hw.inn e he)
 have hRf:=hR.flatten
 rw [List.flatten_append] at hRf
 refine ⟨_,_,e1,⟨fv',nv',dv',Cf',Cn',Cd',S.names.map (vAt vs),(S.names.map En.file).map (fun i=>Cs.getD i default),rfl,rfl,?_,?_,?_,?_⟩,?_⟩
 ·simpa [settleS] using e4
 ·refine ⟨by simp [settleS],by simp [settleS],fun i f hi=>?_⟩
  simp only [settleS,List.getElem?_map] at hi
  cases hni:S.names[i]? with
  |none=>simp [hni] at hi
  |some e=>
   simp [hni] at hi
   subst hi
   have hef:=hw.inn e (List.mem_of_getElem? hni)
   have hfi:S.files[e.file]? =some (fiAt S.files e):=by simp [fiAt,List.getD,List.getElem?_eq_getElem hef]
   obtain ⟨u,C,a1,a2,a3⟩:=hr.at_ _ _ hfi
   refine ⟨u,C,?_,?_,a3⟩
   ·simp [hni,vAt,List.getD,a1]
   ·simp [hni,List.getD,a2]
 ·simpa [settleS,renum_length] using e5
 ·simpa [settleS,renum_length] using e6
 ·have h5:Holds w' (Cs.flatten::hdr (settleS S) p fv' nv' dv' (.slice none 0 0)::Cf'::Cn'::Cd'::L):=iH hw'
  have h6:=holds_pick hRf h5
  have h7:=Holds.nil.2 h6
  exact iH h7
theorem good_spend {S:Fsy} {m:Nat} (h:Good S m):Good (spendS S) m:=by
 obtain ⟨e1,e2,e3,e4,e5⟩:=spend_same S
 refine ⟨by rw [e1,e2,e3,e4];exact h.rp,by rw [e1];exact h.lf,by rw [e4];exact h.lj,h.m,by rw [e5];exact h.q,?_,by rw [e1,e5];exact h.dl⟩
 have:=h.left
 unfold spendS
 (repeat' split)<;>(try simp only)<;>omega
theorem Good.mono {S:Fsy} {m m':Nat} (h:Good S m) (hm:m≤m') (h2:m'≤90000):Good S m':=
 ⟨h.rp.mono (Nat.le_refl _) hm,Nat.le_trans h.lf hm,Nat.le_trans h.lj hm,h2,h.q,h.left,h.dl⟩
theorem wn_cr {F m:Nat} {es:List En} (s:ByteArray) (h:WN F m es):WN (F+1) (m+1) (afterE es (.cr s F)):=
 wn_put s (h.mono (Nat.le_succ F) (Nat.le_refl m)) (Nat.lt_succ_self F) (fun hm=>by
  obtain ⟨e,he,hf⟩:=List.mem_map.1 hm
  have:=h.inn e he;omega)
theorem good_create {S:Fsy} {m:Nat} (s:ByteArray) (h:Good S m) (hm:m+1≤90000):Good (createS S s).2 (m+1):=by
 have hmono:=h.mono (Nat.le_succ m) hm
 unfold createS
 split
 ·exact hmono
 ·split
  ·exact hmono
  ·split
   ·exact good_spend hmono
   ·have hs:=good_spend h
    obtain ⟨e1,e2,e3,e4,e5⟩:=spend_same S
    refine ⟨?_,?_,?_,hm,hs.q,hs.left,?_⟩
    ·simp only [List.length_append,List.length_cons,List.length_nil,e3]
     refine Rp.snoc ?_ rfl (wn_cr s h.rp.now)
     exact h.rp.mono (Nat.le_succ _) (Nat.le_succ _)
    ·simp;exact h.lf
    ·simp;exact h.lj
    ·intro f hf
     simp only [List.mem_append,List.mem_singleton] at hf
     rcases hf with hf|hf
     ·simp only [e5];exact h.dl f hf
     ·subst hf;simp
theorem fi_mem {fs:List Fi} {e:En} (h:e.file < fs.length):fiAt fs e∈fs:=by
 have:fs[e.file]? =some (fiAt fs e):=by simp [fiAt,List.getD,List.getElem?_eq_getElem h]
 exact List.mem_of_getElem? this
theorem lens_ge {fs:List Fi}:∀{es:List En} {e:En},e∈es→(fiAt fs e).data.length≤lens fs es
 |[],_,h=>by simp at h
 |x::r,e,h=>by
  have e1:lens fs (x::r)=(fiAt fs x).data.length+lens fs r:=by simp [lens]
  rcases List.mem_cons.1 h with h2|h2
  ·subst h2;omega
  ·have:=lens_ge (fs:=fs) h2;omega
theorem good_append {S:Fsy} {m:Nat} (s:ByteArray) (b:List UInt8) (h:Good S m):Good (appendS S s b).2 m:=by
 unfold appendS
 split
 ·exact h
 ·rename_i h0
  split
  ·exact h
  ·rename_i h1
   split
   ·exact good_spend h
   ·have h0':openE S s=0:=by simpa using h0
    obtain ⟨_,_,hh⟩:=openE_zero h0'
    have hnow:=h.rp.now
    obtain ⟨g,hg,hfe,hlt⟩:=has_get hnow.asc hh
    have hmem:(⟨s,fileE S.names s⟩:En)∈S.names:=by rw [hfe];exact List.mem_of_getElem? hg
    have hef:=hnow.inn _ hmem
    have hge:=lens_ge (fs:=S.files) hmem
    have hs:=good_spend h
    obtain ⟨e1,e2,e3,e4,e5⟩:=spend_same S
    refine ⟨?_,?_,?_,h.m,hs.q,hs.left,?_⟩
    ·simp only [List.length_set,e2,e3,e4];exact h.rp
    ·simp;exact h.lf
    ·simp only [e4];exact h.lj
    ·intro f hf
     simp only [e5]
     rcases List.mem_or_eq_of_mem_set hf with hf|hf
     ·exact h.dl f hf
     ·subst hf
      have:=h.dl _ (fi_mem hef)
      unfold usedN at h1
      simp only [List.length_append]
      omega
theorem asc_renum:∀{es:List En} (i:Nat),Asc es→Asc (renum i es)
 |[],_,_=>trivial
 |e::r,i,h=>by
  refine ⟨fun x hx=>?_,asc_renum (i+1) h.2⟩
  have key:∀(l:List En) (j:Nat) (x:En),x∈renum j l→∃y∈l,y.name=x.name:=by
   intro l
   induction l with
   |nil=>intro j x hx;simp [renum] at hx
   |cons y r ih=>
    intro j x hx
    simp only [renum,List.mem_cons] at hx
    rcases hx with hx|hx
    ·subst hx;exact ⟨y,by simp,rfl⟩
    ·obtain ⟨z,hz,hn⟩:=ih (j+1) x hx;exact ⟨z,by simp [hz],hn⟩
  obtain ⟨y,hy,hn⟩:=key r (i+1) x hx
  show kcmp e.name x.name < 0
  rw [←hn];exact h.1 y hy
theorem renum_files:∀(es:List En) (i:Nat),(renum i es).map En.file=List.range' i es.length
 |[],i=>by simp [renum]
 |e::r,i=>by simp [renum,renum_files r (i+1),List.range'_succ]
theorem wn_renum {F m:Nat} {es:List En} (h:WN F m es):WN es.length m (renum 0 es):=by
 have hr:=renum_files es 0
 refine ⟨asc_renum 0 h.asc,by rw [renum_length];exact h.len,fun e he=>?_,by rw [hr];exact List.nodup_range'⟩
 have:e.file∈(renum 0 es).map En.file:=List.mem_map_of_mem he
 rw [hr,List.mem_range'_1] at this
 omega
theorem good_settle {S:Fsy} {m:Nat} (hw:WN S.files.length m S.names) (hm:m≤90000) (hq:S.quota≤16777216) (hl: -9223372036854775808≤S.left∧S.left≤9223372036854775807) (hd:∀f∈S.files,f.data.length≤S.quota∧f.synced≤f.data.length):Good (settleS S) m:=by
 refine ⟨⟨rfl,?_⟩,by simp [settleS];exact hw.len,by simp [settleS],hm,hq,hl,fun f hf=>?_⟩
 ·simp only [settleS,List.length_map];exact wn_renum hw
 ·simp only [settleS,List.mem_map] at hf
  obtain ⟨e,he,rfl⟩:=hf
  exact hd _ (fi_mem (hw.inn e he))
theorem fsat_open {S:Fsy} {p m:Nat} {C:Chunk} {L:List Chunk} (hA:FsAt S p C) (hG:Good S m):∃fv nv dv jv vs L',See L' S p fv nv dv jv vs∧(∀w,Holds w (C::L)↔Holds w L')∧(∀C0 w,Holds w (C0::C::L)↔Holds w (C0::L')):=by
 obtain ⟨fv,nv,dv,jv,vs,Cs,Cf,Cn,Cd,Cj,rfl,hf,hr,hn,hd,hj⟩:=hA
 refine ⟨fv,nv,dv,jv,vs,_,see_of (p:=p) (dv:=dv) (jv:=jv) (Cd:=Cd) (Cj:=Cj) (L:=L) hG hf hr hn,fun w=>six,fun C0 w=>?_⟩
 simp [Holds,List.append_assoc]
theorem read_2 (S:Fsy) (p m:Nat) (s:ByteArray) (C:Chunk) (L:List Chunk) (hA:FsAt S p C) (hG:Good S m) :
 Gv Tryz.prog 29 [.pointer (some ⟨p,0,none⟩),.string s].toArray (C::L)
  (fun r L'=>∃v C',r=.tuple #[v,.int .i64 (openE S s)]∧L'=C'::C::L∧(openE S s=0→Ow 5 1 v (fiAt S.files ⟨s,fileE S.names s⟩).data.length (bsv (fiAt S.files ⟨s,fileE S.names s⟩).data) C')∧(openE S s≠0→v=.slice none 0 0∧C'=[])):=by
 obtain ⟨fv,nv,dv,jv,vs,L',hS,h1,h2⟩:=fsat_open (L:=L) hA hG
 have base:=read_1 S p fv nv dv jv vs s L' hS (fun f hf=>by have:=hG.dl f hf;have:=hG.q;omega)
 refine ⟨fun w hw=>(base.out w ((h1 w).1 hw)).mono fun _ w' he=>?_⟩
 obtain ⟨r,L2,e1,⟨v,C',e2,e3,e4,e5⟩,hw'⟩:=he
 subst e3
 exact ⟨r,_,e1,⟨v,C',e2,rfl,e4,e5⟩,(h2 C' w').2 hw'⟩
theorem list_2 (S:Fsy) (p m:Nat) (pre:ByteArray) (C:Chunk) (L:List Chunk) (hA:FsAt S p C) (hG:Good S m) :
 Gv Tryz.prog 39 [.pointer (some ⟨p,0,none⟩),.string pre].toArray (C::L)
  (fun r L'=>∃C',L'=C'::C::L∧Ow 9 1 r (listS S pre).length (strsV (listS S pre)) C'):=by
 obtain ⟨fv,nv,dv,jv,vs,L',hS,h1,h2⟩:=fsat_open (L:=L) hA hG
 have base:=list_1 S p fv nv dv jv vs pre L' hS
 refine ⟨fun w hw=>(base.out w ((h1 w).1 hw)).mono fun _ w' he=>?_⟩
 obtain ⟨r,L2,e1,⟨C',e3,e4⟩,hw'⟩:=he
 subst e3
 exact ⟨r,_,e1,⟨C',rfl,e4⟩,(h2 C' w').2 hw'⟩
omit [W0] in
def syncNamesS (S:Fsy):Int × Fsy:=if spendE S≠0 then (spendE S,spendS S) else (0,settleS (spendS S))
theorem syncNames_1 (S:Fsy) (p m:Nat) (C:Chunk) (L:List Chunk) (hA:FsAt S p C) (hG:Good S m) :
 Gv Tryz.prog 71 [.pointer (some ⟨p,0,none⟩)].toArray (C::L)
  (fun r L'=>∃C',r=.int .i64 (syncNamesS S).1∧L'=C'::L∧FsAt (syncNamesS S).2 p C'):=by
 obtain ⟨fv,nv,dv,jv,vs,Cs,Cf,Cn,Cd,Cj,rfl,hf,hr,hn,hd,hj⟩:=hA
 refine Gv.holds (L':=hdr S p fv nv dv jv::Cf::Cn::Cd::Cj::Cs.flatten::L) ?_ (fun w h=>six.1 h)
 refine Gv.of_body Tryz.func71 rfl rfl ?_
 obtain ⟨e1,e2,e3,e4,e5⟩:=spend_same S
 refine kW ?_
 refine cC rfl rfl (spend_1 S p fv nv dv jv _ hG.left) (fun r L' hp=>?_)
 obtain ⟨rfl,rfl⟩:=hp
 (repeat' first|refine kW ?_|refine kU fun bk=>?_|refine kV fun hc=>?_|refine kZ (fun hc=>?_) fun hc=>?_|fail)
 ·have h2:¬spendE S=0:=by assumption
  have hc:syncNamesS S=(spendE S,spendS S):=by simp [syncNamesS,h2]
  refine kH ?_
  rw [hc]
  exact ⟨_,fun w h=>six.2 h,_,rfl,rfl,fv,nv,dv,jv,vs,Cs,Cf,Cn,Cd,Cj,rfl,by rw [e1];exact hf,by rw [e1];exact hr,by rw [e2];exact hn,by rw [e3];exact hd,by rw [e4];exact hj⟩
 ·have h2:spendE S=0:=by omega
  have hc:syncNamesS S=(0,settleS (spendS S)):=by simp [syncNamesS,h2]
  have hgm:=hG.m
  refine cC rfl rfl (Gv.holds (settle_2 (spendS S) p m fv nv dv jv vs Cs Cf Cn L (by rw [e1];exact hf) (by rw [e1];exact hr) (by rw [e2];exact hn) (by rw [e1,e2];exact hG.rp.now) (by omega)) (fun w h=>iH h)) (fun r L' hp=>?_)
  obtain ⟨fv',nv',dv',Cf',Cn',Cd',vs',Cs',rfl,rfl,hf',hr',hn',hd'⟩:=hp
  refine kW ?_
  refine kH ?_
  rw [hc]
  exact ⟨_,fun w h=>six.2 h,_,rfl,rfl,fv',nv',dv',.slice none 0 0,vs',Cs',Cf',Cn',Cd',[],rfl,hf',hr',hn',hd',.inl ⟨rfl,rfl,rfl,rfl⟩⟩
theorem good_syncNames {S:Fsy} {m:Nat} (h:Good S m):Good (syncNamesS S).2 m:=by
 have hs:=good_spend h
 unfold syncNamesS
 split
 ·exact hs
 ·exact good_settle hs.rp.now hs.m hs.q hs.left hs.dl
omit [W0] in
def removeS (S:Fsy) (s:ByteArray):Int × Fsy:=
 if openE S s≠0 then (openE S s,S) else
 if spendE S≠0 then (spendE S,spendS S) else
 (0,{ spendS S with names:=afterE S.names (.rm s),journal:=S.journal++[.rm s] })
theorem remove_1 (S:Fsy) (p m:Nat) (s:ByteArray) (C:Chunk) (L:List Chunk) (hA:FsAt S p C) (hG:Good S m) :
 Gv Tryz.prog 68 [.pointer (some ⟨p,0,none⟩),.string s].toArray (C::L)
  (fun r L'=>∃C',r=.int .i64 (removeS S s).1∧L'=C'::L∧FsAt (removeS S s).2 p C'):=by
 obtain ⟨fv,nv,dv,jv,vs,Cs,Cf,Cn,Cd,Cj,rfl,hf,hr,hn,hd,hj⟩:=hA
 refine Gv.holds (L':=hdr S p fv nv dv jv::Cf::Cn::Cd::Cj::Cs.flatten::L) ?_ (fun w h=>six.1 h)
 refine Gv.of_body Tryz.func68 rfl rfl ?_
 obtain ⟨e1,e2,e3,e4,e5⟩:=spend_same S
 refine kW ?_
 have hS:=see_of (p:=p) (dv:=dv) (jv:=jv) (Cd:=Cd) (Cj:=Cj) (L:=L) hG hf hr hn
 refine cP rfl rfl (open_1 S p fv nv dv jv s _ hS.h hS.n hS.an hS.ln) ?_
 (repeat' first|refine kW ?_|refine kU fun bk=>?_|refine kV fun hc=>?_|refine kZ (fun hc=>?_) fun hc=>?_|fail)
 ·have h0:¬openE S s=0:=by assumption
  have hc:removeS S s=(openE S s,S):=by simp [removeS,h0]
  refine kH ?_
  rw [hc]
  exact ⟨_,fun w h=>six.2 h,_,rfl,rfl,fv,nv,dv,jv,vs,Cs,Cf,Cn,Cd,Cj,rfl,hf,hr,hn,hd,hj⟩
 ·have h0:openE S s=0:=by omega
  obtain ⟨hdead,hok,hhas⟩:=openE_zero h0
  refine cC rfl rfl (spend_1 S p fv nv dv jv _ hG.left) (fun r L' hp=>?_)
  obtain ⟨rfl,rfl⟩:=hp
  (repeat' first|refine kW ?_|refine kU fun bk=>?_|refine kV fun hc=>?_|refine kZ (fun hc=>?_) fun hc=>?_|fail)
  ·have h2:¬spendE S=0:=by assumption
   have hc:removeS S s=(spendE S,spendS S):=by simp [removeS,h0,h2]
   refine kH ?_
   rw [hc]
   exact ⟨_,fun w h=>six.2 h,_,rfl,rfl,fv,nv,dv,jv,vs,Cs,Cf,Cn,Cd,Cj,rfl,by rw [e1];exact hf,by rw [e1];exact hr,by rw [e2];exact hn,by rw [e3];exact hd,by rw [e4];exact hj⟩
  ·have h2:spendE S=0:=by omega
   have hc:removeS S s=(0,{ spendS S with names:=afterE S.names (.rm s),journal:=S.journal++[.rm s] }):=by simp [removeS,h0,h2]
   have hsz:=nameOk_size hok
   have hnow:=hG.rp.now
   have hlj:=hG.lj
   have hgm:=hG.m
   refine cP rfl rfl (clone_a s _ (by omega)) ?_
   refine kW ?_
   refine cC rfl rfl (Gv.holds (note_1 (spendS S) p fv nv dv jv (.rm s) Cn Cj (Cf::Cd::Cs.flatten::L) (by rw [e2];exact hn) (by rw [e4];exact hj) (by rw [e2];exact hnow.asc) (by rw [e2];have:=hnow.len;omega) (by rw [e4];omega) (by rw [e2];exact hhas)) (fun w h=>iH h)) (fun r L' hp=>?_)
   obtain ⟨nv',jv',Cn',Cj',rfl,rfl,hn',hj'⟩:=hp
   refine kW ?_
   refine kH ?_
   rw [hc]
   exact ⟨_,fun w h=>six.2 ((iC:Inc (hdr _ p fv nv' dv jv'::Cf::Cn'::Cd::Cj'::Cs.flatten::L) _).holds h),_,rfl,rfl,fv,nv',dv,jv',vs,Cs,Cf,Cn',Cd,Cj',rfl,by simpa [e1] using hf,by simpa [e1] using hr,by simpa [e2] using hn',by simpa [e3] using hd,by simpa [e4] using hj'⟩
omit [W0] in
def syncS (S:Fsy) (s:ByteArray):Int × Fsy:=
 if openE S s≠0 then (openE S s,S) else
 if spendE S≠0 then (spendE S,spendS S) else
 (0,{ spendS S with files:=S.files.set (fileE S.names s) ⟨(fiAt S.files ⟨s,fileE S.names s⟩).data,(fiAt S.files ⟨s,fileE S.names s⟩).data.length⟩ })
theorem good_sync {S:Fsy} {m:Nat} (s:ByteArray) (h:Good S m):Good (syncS S s).2 m:=by
 unfold syncS
 split
 ·exact h
 ·rename_i h0
  split
  ·exact good_spend h
  ·have h0':openE S s=0:=by simpa using h0
   obtain ⟨_,_,hh⟩:=openE_zero h0'
   have hnow:=h.rp.now
   obtain ⟨g,hg,hfe,hlt⟩:=has_get hnow.asc hh
   have hmem:(⟨s,fileE S.names s⟩:En)∈S.names:=by rw [hfe];exact List.mem_of_getElem? hg
   have hef:=hnow.inn _ hmem
   have hs:=good_spend h
   obtain ⟨e1,e2,e3,e4,e5⟩:=spend_same S
   refine ⟨?_,?_,?_,h.m,hs.q,hs.left,?_⟩
   ·simp only [List.length_set,e2,e3,e4];exact h.rp
   ·simp;exact h.lf
   ·simp only [e4];exact h.lj
   ·intro f hf
    simp only [e5]
    rcases List.mem_or_eq_of_mem_set hf with hf|hf
    ·exact h.dl f hf
    ·subst hf
     have:=h.dl _ (fi_mem hef)
     exact ⟨this.1,Nat.le_refl _⟩
theorem sync_1 (S:Fsy) (p m:Nat) (s:ByteArray) (C:Chunk) (L:List Chunk) (hA:FsAt S p C) (hG:Good S m) :
 Gv Tryz.prog 69 [.pointer (some ⟨p,0,none⟩),.string s].toArray (C::L)
  (fun r L'=>∃C',r=.int .i64 (syncS S s).1∧L'=C'::L∧FsAt (syncS S s).2 p C'):=by
 obtain ⟨fv,nv,dv,jv,vs,Cs,Cf,Cn,Cd,Cj,rfl,hf,hr,hn,hd,hj⟩:=hA
 refine Gv.holds (L':=hdr S p fv nv dv jv::Cf::Cn::Cd::Cj::Cs.flatten::L) ?_ (fun w h=>six.1 h)
 refine Gv.of_body Tryz.func69 rfl rfl ?_
 obtain ⟨e1,e2,e3,e4,e5⟩:=spend_same S
 refine kW ?_
 have hS:=see_of (p:=p) (dv:=dv) (jv:=jv) (Cd:=Cd) (Cj:=Cj) (L:=L) hG hf hr hn
 refine cP rfl rfl (open_1 S p fv nv dv jv s _ hS.h hS.n hS.an hS.ln) ?_
 (repeat' first|refine kW ?_|refine kU fun bk=>?_|refine kV fun hc=>?_|refine kZ (fun hc=>?_) fun hc=>?_|fail)
 ·have h0:¬openE S s=0:=by assumption
  have hc:syncS S s=(openE S s,S):=by simp [syncS,h0]
  refine kH ?_
  rw [hc]
  exact ⟨_,fun w h=>six.2 h,_,rfl,rfl,fv,nv,dv,jv,vs,Cs,Cf,Cn,Cd,Cj,rfl,hf,hr,hn,hd,hj⟩
 ·have h0:openE S s=0:=by omega
  obtain ⟨hdead,hok,hhas⟩:=openE_zero h0
  refine cC rfl rfl (spend_1 S p fv nv dv jv _ hG.left) (fun r L' hp=>?_)
  obtain ⟨rfl,rfl⟩:=hp
  (repeat' first|refine kW ?_|refine kU fun bk=>?_|refine kV fun hc=>?_|refine kZ (fun hc=>?_) fun hc=>?_|fail)
  ·have h2:¬spendE S=0:=by assumption
   have hc:syncS S s=(spendE S,spendS S):=by simp [syncS,h0,h2]
   refine kH ?_
   rw [hc]
   exact ⟨_,fun w h=>six.2 h,_,rfl,rfl,fv,nv,dv,jv,vs,Cs,Cf,Cn,Cd,Cj,rfl,by rw [e1];exact hf,by rw [e1];exact hr,by rw [e2];exact hn,by rw [e3];exact hd,by rw [e4];exact hj⟩
  ·have h2:spendE S=0:=by omega
   have hpo:openN S s=fileE S.names s:=by simp [openN,h0]
   rw [hpo]
   obtain ⟨g,hg,hfe,hlt⟩:=has_get hS.an hhas
   have hef:fileE S.names s < S.files.length:=by rw [hfe];exact hS.inn _ (List.mem_of_getElem? hg)
   have hfi:S.files[fileE S.names s]? =some (fiAt S.files ⟨s,fileE S.names s⟩):=by simp [fiAt,List.getD,List.getElem?_eq_getElem hef]
   obtain ⟨x,Ci,D1,D2,hxi,hxo,hfl,hset⟩:=hr.split hfi
   obtain ⟨xa,xc,rfl⟩:=ow_slc hxo
   rcases hf with ⟨rfl,hf0,_,rfl⟩|⟨fb,fcap,frest,rfl,rfl,hfxl,hfrl,hfmc,hfcm⟩
   ·omega
   ·refine WC_drawAll [16] mixed ?_
    (refine WR_t 0 ?_;refine WR_t 1 ?_;refine WR_t 2 ?_;refine WR_t 3 ?_;refine WR_t 4 ?_;refine WR_t 5 ?_;refine WR_t 6 ?_;refine WR_t 7 ?_;refine WR_t 8 ?_;refine WR_t 9 ?_)
    refine cT 10 rfl rfl (EV_indexAddr0 (j:=fileE S.names s) rfl rfl rfl hef) ?_
    (refine WR_t 11 ?_)
    refine cT 12 rfl rfl (EV_loadc (v:=.slice xa _ xc) rfl (by repeat (first|assumption|exact Fnd.here|refine Fnd.there ?_)) (by rw [nth_eq];exact getE_app (fcl_at hfi hxi).1)) ?_
    (refine WR_t 13 ?_)
    refine cT 14 rfl rfl (EV_indexAddr0 (j:=fileE S.names s) rfl rfl rfl hef) ?_
    (refine WR_t 15 ?_)
    refine cL 16 rfl rfl rfl ?_
    refine OW_storeTo (fcl (S.files.set (fileE S.names s) ⟨(fiAt S.files ⟨s,fileE S.names s⟩).data,(fiAt S.files ⟨s,fileE S.names s⟩).data.length⟩) vs++frest) rfl rfl rfl ?_ iU ?_ ?_
    ·rw [List.set_append_left _ _ (by rw [hfxl];omega),fcl_set_s hfi hr.lv]
    ·rw [List.length_append,hfxl];omega
    refine cD ?_
    refine kW ?_
    obtain ⟨Cs',hr',hfl'⟩:=hset ⟨(fiAt S.files ⟨s,fileE S.names s⟩).data,(fiAt S.files ⟨s,fileE S.names s⟩).data.length⟩ (.slice xa _ xc) Ci hxo
    rw [set_same hxi] at hr'
    have hc:syncS S s=(0,{ spendS S with files:=S.files.set (fileE S.names s) ⟨(fiAt S.files ⟨s,fileE S.names s⟩).data,(fiAt S.files ⟨s,fileE S.names s⟩).data.length⟩ }):=by
     simp [syncS,h0,h2]
    refine kH ?_
    rw [hc]
    refine ⟨_,fun w h=>?_,_,rfl,rfl,.slice (some ⟨fb,0,none⟩) S.files.length fcap,nv,dv,jv,vs,Cs',[(fb,cl (fcl (S.files.set (fileE S.names s) ⟨(fiAt S.files ⟨s,fileE S.names s⟩).data,(fiAt S.files ⟨s,fileE S.names s⟩).data.length⟩) vs++frest) 61)],Cn,Cd,Cj,rfl,?_,hr',by simpa [e2] using hn,by simpa [e3] using hd,by simpa [e4] using hj⟩
    ·rw [hfl',←hfl]
     simpa [Holds,List.append_assoc,hdr,hdrO] using h
    ·refine .inr ⟨fb,fcap,frest,by simp,rfl,?_,by simpa using hfrl,by simpa using hfmc,hfcm⟩
     rw [fcl_length (by simp [hr.lv])]
omit [W0] in
def renameS (S:Fsy) (a b:ByteArray):Int × Fsy:=
 if openE S a≠50∧nameOk b=false then (1,S) else
 if openE S a≠0 then (openE S a,S) else
 if spendE S≠0 then (spendE S,spendS S) else
 if a=b then (0,spendS S) else
 (0,{ spendS S with names:=afterE S.names (.rn a b),journal:=S.journal++[.rn a b] })
theorem good_rename {S:Fsy} {m:Nat} (a b:ByteArray) (h:Good S m) (hm:m+1≤90000):Good (renameS S a b).2 (m+1):=by
 have hmono:=h.mono (Nat.le_succ m) hm
 unfold renameS
 split
 ·exact hmono
 split
 ·exact hmono
 ·rename_i _ h0
  split
  ·exact good_spend hmono
  split
  ·exact good_spend hmono
  ·have h0':openE S a=0:=by simpa using h0
   obtain ⟨_,_,hh⟩:=openE_zero h0'
   have hs:=good_spend h
   obtain ⟨e1,e2,e3,e4,e5⟩:=spend_same S
   refine ⟨?_,by simp only [e1];exact hmono.lf,by simp;exact h.lj,hm,hs.q,hs.left,by simp only [e1,e5];exact h.dl⟩
   simp only [e1,e3]
   exact Rp.snoc (h.rp.mono (Nat.le_refl _) (Nat.le_succ m)) hh (wn_rn b h.rp.now hh)
theorem rename_1 (S:Fsy) (p m:Nat) (a b:ByteArray) (C:Chunk) (L:List Chunk) (hA:FsAt S p C) (hG:Good S m) :
 Gv Tryz.prog 70 [.pointer (some ⟨p,0,none⟩),.string a,.string b].toArray (C::L)
  (fun r L'=>∃C',r=.int .i64 (renameS S a b).1∧L'=C'::L∧FsAt (renameS S a b).2 p C'):=by
 obtain ⟨fv,nv,dv,jv,vs,Cs,Cf,Cn,Cd,Cj,rfl,hf,hr,hn,hd,hj⟩:=hA
 refine Gv.holds (L':=hdr S p fv nv dv jv::Cf::Cn::Cd::Cj::Cs.flatten::L) ?_ (fun w h=>six.1 h)
 refine Gv.of_body Tryz.func70 rfl rfl ?_
 obtain ⟨e1,e2,e3,e4,e5⟩:=spend_same S
 refine kW ?_
 have hS:=see_of (p:=p) (dv:=dv) (jv:=jv) (Cd:=Cd) (Cj:=Cj) (L:=L) hG hf hr hn
 refine cP rfl rfl (open_1 S p fv nv dv jv a _ hS.h hS.n hS.an hS.ln) ?_
 cases hnb:nameOk b
 all_goals ((repeat' first|refine kW ?_|refine kU fun bk=>?_|refine kV fun hc=>?_|refine kZ (fun hc=>?_) fun hc=>?_|fail))
 all_goals (try (refine cP rfl rfl (valid_1 b _) ?_;rw [hnb];((repeat' first|refine kW ?_|refine kU fun bk=>?_|refine kV fun hc=>?_|refine kZ (fun hc=>?_) fun hc=>?_|fail))))
 ·have h0:¬openE S a=50:=by assumption
  have hc:renameS S a b=(1,S):=by simp [renameS,h0,hnb]
  refine kH ?_
  rw [hc]
  exact ⟨_,fun w h=>six.2 h,_,rfl,rfl,fv,nv,dv,jv,vs,Cs,Cf,Cn,Cd,Cj,rfl,hf,hr,hn,hd,hj⟩
 ·have h0:openE S a=50:=by assumption
  have hc:renameS S a b=(openE S a,S):=by simp [renameS,h0]
  refine kH ?_
  rw [hc]
  exact ⟨_,fun w h=>six.2 h,_,rfl,rfl,fv,nv,dv,jv,vs,Cs,Cf,Cn,Cd,Cj,rfl,hf,hr,hn,hd,hj⟩
 ·have h0:¬openE S a=0:=by assumption
  have hc:renameS S a b=(openE S a,S):=by simp [renameS,h0,hnb]
  refine kH ?_
  rw [hc]
  exact ⟨_,fun w h=>six.2 h,_,rfl,rfl,fv,nv,dv,jv,vs,Cs,Cf,Cn,Cd,Cj,rfl,hf,hr,hn,hd,hj⟩
 ·have h0:openE S a=0:=by assumption
  obtain ⟨hdead,hok,hhas⟩:=openE_zero h0
  refine cC rfl rfl (spend_1 S p fv nv dv jv _ hG.left) (fun r L' hp=>?_)
  obtain ⟨rfl,rfl⟩:=hp
  (repeat' first|refine kW ?_|refine kU fun bk=>?_|refine kV fun hc=>?_|refine kZ (fun hc=>?_) fun hc=>?_|fail)
  ·have h2:¬spendE S=0:=by assumption
   have hc:renameS S a b=(spendE S,spendS S):=by simp [renameS,h0,h2,hnb]
   refine kH ?_
   rw [hc]
   exact ⟨_,fun w h=>six.2 h,_,rfl,rfl,fv,nv,dv,jv,vs,Cs,Cf,Cn,Cd,Cj,rfl,by rw [e1];exact hf,by rw [e1];exact hr,by rw [e2];exact hn,by rw [e3];exact hd,by rw [e4];exact hj⟩
  ·have h2:spendE S=0:=by omega
   have hab:¬a=b:=by assumption
   have hc:renameS S a b=(0,{ spendS S with names:=afterE S.names (.rn a b),journal:=S.journal++[.rn a b] }):=by simp [renameS,h0,h2,hnb,hab]
   have hsz:=nameOk_size hok
   have hsz2:=nameOk_size hnb
   have hnow:=hG.rp.now
   have hlj:=hG.lj
   have hgm:=hG.m
   refine cP rfl rfl (clone_a a _ (by omega)) ?_
   refine kW ?_
   refine cP rfl rfl (clone_a b _ (by omega)) ?_
   refine kW ?_
   refine cC rfl rfl (Gv.holds (note_1 (spendS S) p fv nv dv jv (.rn a b) Cn Cj (Cf::Cd::Cs.flatten::L) (by rw [e2];exact hn) (by rw [e4];exact hj) (by rw [e2];exact hnow.asc) (by rw [e2];have:=hnow.len;omega) (by rw [e4];omega) (by rw [e2];exact hhas)) (fun w h=>iH h)) (fun r L' hp=>?_)
   obtain ⟨nv',jv',Cn',Cj',rfl,rfl,hn',hj'⟩:=hp
   refine kW ?_
   refine kH ?_
   rw [hc]
   exact ⟨_,fun w h=>six.2 ((iC:Inc (hdr _ p fv nv' dv jv'::Cf::Cn'::Cd::Cj'::Cs.flatten::L) _).holds h),_,rfl,rfl,fv,nv',dv,jv',vs,Cs,Cf,Cn',Cd,Cj',rfl,by simpa [e1] using hf,by simpa [e1] using hr,by simpa [e2] using hn',by simpa [e3] using hd,by simpa [e4] using hj'⟩
  ·have h2:spendE S=0:=by omega
   have hab:a=b:=by assumption
   have hc:renameS S a b=(0,spendS S):=by simp [renameS,h0,h2,hnb,hab];intro hx;rw [←hab,h0] at hx;exact absurd rfl hx
   refine kH ?_
   rw [hc]
   exact ⟨_,fun w h=>six.2 h,_,rfl,rfl,fv,nv,dv,jv,vs,Cs,Cf,Cn,Cd,Cj,rfl,by rw [e1];exact hf,by rw [e1];exact hr,by rw [e2];exact hn,by rw [e3];exact hd,by rw [e4];exact hj⟩
 ·have h0:openE S a=50:=by assumption
  have hc:renameS S a b=(openE S a,S):=by simp [renameS,h0]
  refine kH ?_
  rw [hc]
  exact ⟨_,fun w h=>six.2 h,_,rfl,rfl,fv,nv,dv,jv,vs,Cs,Cf,Cn,Cd,Cj,rfl,hf,hr,hn,hd,hj⟩
end Go.Proofs.YtemdlifojcgplaaGreatDoor
namespace Go.Proofs.YtemdlifojcgplaaGreatDoor
open Go Go.Vx Go.Ob Go.Hf Go.If
variable [W0]
set_option linter.all false
set_option maxRecDepth 4000
def rdE (s d:List UInt8):Nat:=if psE d≠0 then psE d else if idL (prK d:Int) (prB d)≠s then 6 else 0
def rdK (s d:List UInt8):Nat:=if rdE s d=0 then prK d else 0
def rdB (s d:List UInt8):List UInt8:=if rdE s d=0 then prB d else []
theorem prB_len (d:List UInt8):(prB d).length≤65568:=by
 unfold prB psB
 split
 ·have h1:(psO d).length≤65568:=rawS_m (d.drop 2) 65568
  have h2:=(cutN_len2 0 (psO d)).2
  omega
 ·simp
theorem ptL_yes {s:List UInt8} (h:hshB s=true):ptL s=sObj++s.take 2++[47]++s.drop 2:=by unfold ptL;rw [if_pos h]
theorem lread_n (S:Fsy) (p m:Nat) (s d:List UInt8) (C:Chunk) (L:List Chunk) (hA:FsAt S p C) (hG:Good S m) (hh:hshB s=true) (ho:openE S (str (ptL s))=0) (hd:(fiAt S.files ⟨str (ptL s),fileE S.names (str (ptL s))⟩).data=d) (hdl:d.length≤1000000) (hb:BsAt L) (hor:OrAt L) :
 Gv Tryz.prog 12 [.pointer (some ⟨p,0,none⟩),.string (str s)].toArray (C::L) (fun r L'=>∃v D,r=.tuple #[.int .i64 (rdK s d:Int),v,.int .i64 (rdE s d:Int)]∧(∀L0,SlC (D::L0) 1 v (rdB s d).length (bsv (rdB s d)))∧L'=D::C::L):=by
 refine Gv.of_body (args:=[.pointer (some ⟨p,0,none⟩),.string (str s)]) Tryz.func12 rfl rfl ?_
 have hl:=hsh_len hh
 have hash:=hash_n s (C::L) (by omega)
 rw [hh] at hash
 have hnil:∀L0:List Chunk,SlC L0 1 (.slice none 0 0) ([]:List UInt8).length (bsv []):=fun L0=>⟨.inl ⟨0,rfl,rfl,rfl⟩,_,_,rfl,Nat.le_refl _⟩
 refine kW ?_
 refine cP rfl rfl hash ?_
 refine kW ?_
 refine cP rfl rfl (path_n s _ (by omega)) ?_
 refine kW ?_
 refine cC rfl rfl (read_2 S p m (str (ptL s)) C L hA hG) (fun r L' hp=>?_)
 obtain ⟨v1,D1,rfl,rfl,h1,_⟩:=hp
 have h1:=h1 ho
 rw [hd] at h1
 rw [ho]
 obtain ⟨a1,c1,rfl,hc1⟩:=(SlC.ow (L:=[]) h1).room
 have hx:=prB_len d
 refine kW ?_
 refine cC rfl rfl (parse_n a1 c1 d _ (ow_sl h1) (by omega) hc1 (by repeat (first|exact hb|apply BsAt.there)) (by repeat (first|exact hor|apply OrAt.there))) (fun r L' hp=>?_)
 obtain ⟨v2,D2,rfl,h2,rfl⟩:=hp
 obtain ⟨a2,c2,rfl,hc2⟩:=(h2 []).room
 by_cases he:psE d=0
 ·have hid:=id_n (prK d:Int) (.slice a2 (prB d).length c2) (prB d) (D2::D1::C::L) hb.there.there.there (by omega) (h2 _)
  rw [he]
  by_cases hi:idL (prK d:Int) (prB d)=s
  ·have e0:rdE s d=0:=by unfold rdE;rw [if_neg (fun h=>h he),if_neg (fun h=>h hi)]
   have e1:rdK s d=prK d:=if_pos e0
   have e2:rdB s d=prB d:=if_pos e0
   rw [e0,e1,e2]
   refine kW ?_
   refine cP rfl rfl hid ?_
   (repeat' first|refine kW ?_|refine kU fun bk=>?_|refine kV fun hc=>?_|refine kZ (fun hc=>?_) fun hc=>?_|fail)
   ·exact absurd (by rw [hi]) hc
   ·refine kR ?_
    exact ⟨D2::C::L,iC,_,D2,rfl,h2,rfl⟩
  ·have e0:rdE s d=6:=by unfold rdE;rw [if_neg (fun h=>h he),if_pos hi]
   have e1:rdK s d=0:=if_neg (by omega)
   have e2:rdB s d=[]:=if_neg (by omega)
   rw [e0,e1,e2]
   refine kW ?_
   refine cP rfl rfl hid ?_
   (repeat' first|refine kW ?_|refine kU fun bk=>?_|refine kV fun hc=>?_|refine kZ (fun hc=>?_) fun hc=>?_|fail)
   ·refine kR ?_
    exact ⟨D2::C::L,iC,_,D2,rfl,fun L0=>hnil _,rfl⟩
   ·exact absurd (str_inj.1 hc) hi
 ·have e0:rdE s d=psE d:=if_pos he
  have e1:rdK s d=0:=if_neg (by omega)
  have e2:rdB s d=[]:=if_neg (by omega)
  rw [e0,e1,e2]
  (refine kW ?_;refine kV fun hc=>?_;refine kW ?_)
  refine kR ?_
  exact ⟨D2::C::L,iC,_,D2,rfl,fun L0=>hnil _,rfl⟩
end Go.Proofs.YtemdlifojcgplaaGreatDoor
namespace Go.Proofs.YtemdlifojcgplaaGreatDoor
open Go Go.Vx Go.Ob Go.Hf Go.If Go.RowKit
variable [W0]
set_option linter.all false
set_option maxRecDepth 4000
omit [W0] in
def blB:List UInt8:=[101,54,57,100,101,50,57,98,98,50,100,49,100,54,52,51,52,98,56,98,50,57,97,101,55,55,53,97,100,56,99,50,101,52,56,99,53,51,57,49]
omit [W0] in
def ptB:List UInt8:=[111,98,106,101,99,116,115,47,101,54,47,57,100,101,50,57,98,98,50,100,49,100,54,52,51,52,98,56,98,50,57,97,101,55,55,53,97,100,56,99,50,101,52,56,99,53,51,57,49]
omit [W0] in
def tmB:List UInt8:=[116,109,112,47,101,54,57,100,101,50,57,98,98,50,100,49,100,54,52,51,52,98,56,98,50,57,97,101,55,55,53,97,100,56,99,50,101,52,56,99,53,51,57,49]
theorem id_bl:idL 3 []=blB:=by kernel_rfl
theorem hsh_bl:hshB blB=true:=by kernel_rfl
theorem pt_bl:ptL blB=ptB:=by kernel_rfl
theorem rep_bl:Lib.replaceAll (ptB.drop 8) [47] []=blB:=by kernel_rfl
omit [W0] in
def wA:Fsy:=⟨1048576,[⟨[],0⟩],[⟨str tmB,0⟩],[],[.cr (str tmB) 0],-1,false⟩
omit [W0] in
def wB (d:List UInt8):Fsy:=⟨1048576,[⟨d,0⟩],[⟨str tmB,0⟩],[],[.cr (str tmB) 0],-1,false⟩
omit [W0] in
def wC (d:List UInt8):Fsy:=⟨1048576,[⟨d,d.length⟩],[⟨str tmB,0⟩],[],[.cr (str tmB) 0],-1,false⟩
omit [W0] in
def wD (d:List UInt8):Fsy:=⟨1048576,[⟨d,d.length⟩],[⟨str ptB,0⟩],[],[.cr (str tmB) 0,.rn (str tmB) (str ptB)],-1,false⟩
omit [W0] in
def wE (d:List UInt8):Fsy:=⟨1048576,[⟨d,d.length⟩],[⟨str ptB,0⟩],[⟨str ptB,0⟩],[],-1,false⟩
theorem ev_w0:removeS (newS 1048576) (str tmB)=(61,newS 1048576):=by kernel_rfl
theorem ev_wA:createS (newS 1048576) (str tmB)=(0,wA):=by kernel_rfl
theorem ev_wB (d:List UInt8) (h:d.length≤1000000):appendS wA (str tmB) d=(0,wB d):=by
 unfold appendS
 rw [if_neg (by rw [show openE wA (str tmB)=0 from by kernel_rfl];simp),if_neg (by simp [wA,usedN,lens,fiAt];omega)]
 simp [wA,wB,spendE,spendS,fileE,Vx.pos,fiAt,kcmp_irrefl]
theorem ev_wC (d:List UInt8):syncS (wB d) (str tmB)=(0,wC d):=by kernel_rfl
theorem ev_wD (d:List UInt8):renameS (wC d) (str tmB) (str ptB)=(0,wD d):=by kernel_rfl
theorem ev_wE (d:List UInt8):syncNamesS (wD d)=(0,wE d):=by kernel_rfl
theorem ev_wO (d:List UInt8):openE (wE d) (str ptB)=0:=by kernel_rfl
theorem ev_wF (d:List UInt8):(fiAt (wE d).files ⟨str ptB,fileE (wE d).names (str ptB)⟩).data=d:=by kernel_rfl
theorem ev_w1:listS (newS 1048576) (str ptB)=[]:=by kernel_rfl
theorem ev_w2 (d:List UInt8):listS (wE d) (str sObj)=[⟨str ptB,0⟩]:=by kernel_rfl
theorem good_wE {d:List UInt8} (h:d.length≤1000000):Good (wE d) 2:=by
 have g0:=good_new 1048576 (by omega)
 have gA:=good_create (str tmB) g0 (by omega)
 rw [ev_wA] at gA
 have gB:=good_append (str tmB) d gA
 rw [ev_wB d h] at gB
 have gC:=good_sync (str tmB) gB
 rw [ev_wC] at gC
 have gD:=good_rename (str tmB) (str ptB) gC (by omega)
 rw [ev_wD] at gD
 have gE:=good_syncNames gD
 rw [ev_wE] at gE
 exact gE
theorem replaceall_n (s old new:List UInt8) (L:List Chunk) (hb:BsAt L) (hs:s.length < 4294967281) (h1:1≤old.length) (hl:s.length+Lib.count s old * new.length≤140737488355328) :
 GvP Tryz.prog 40 [.string (str s),.string (str old),.string (str new)].toArray L (.string (str (Lib.replaceAll s old new))):=by
 obtain ⟨m,hm⟩:=hb.mx
 exact GvP.of_below fun w hw=>Any.strings_ReplaceAll sh_r sh_rx (str s) (str old) (str new) m w hs (hm w hw) h1 hl
theorem exists0_n (p:Nat) (C:Chunk) (L:List Chunk) (hA:FsAt (newS 1048576) p C) :
 Gv Tryz.prog 37 [.pointer (some ⟨p,0,none⟩),.string (str ptB)].toArray (C::L) (fun r L'=>r=.bool false∧L'=C::L):=by
 refine Gv.of_body (args:=[.pointer (some ⟨p,0,none⟩),.string (str ptB)]) Tryz.func37 rfl rfl ?_
 refine kW ?_
 refine cC rfl rfl (list_2 (newS 1048576) p 0 (str ptB) C L hA (good_new 1048576 (by omega))) (fun r L' hp=>?_)
 obtain ⟨D,rfl,h1⟩:=hp
 rw [ev_w1] at h1
 obtain ⟨a1,c1,rfl⟩:=ow_slc h1
 refine kW ?_
 refine kR ?_
 exact ⟨C::L,iC,rfl,rfl⟩
theorem keep0_n (p:Nat) (v:Value) (d:List UInt8) (C:Chunk) (L:List Chunk) (hA:FsAt (newS 1048576) p C) (hv:Sl L 1 v d.length (bsv d)) (hd:d.length≤1000000) :
 Gv Tryz.prog 38 [.pointer (some ⟨p,0,none⟩),.string (str blB),v].toArray (C::L) (fun r L'=>∃C',r=.int .i64 0∧L'=C'::L∧FsAt (wE d) p C'):=by
 refine Gv.of_body (args:=[.pointer (some ⟨p,0,none⟩),.string (str blB),v]) Tryz.func38 rfl rfl ?_
 have g0:=good_new 1048576 (by omega)
 have gA:=good_create (str tmB) g0 (by omega)
 rw [ev_wA] at gA
 have gB:=good_append (str tmB) d gA
 rw [ev_wB d hd] at gB
 have gC:=good_sync (str tmB) gB
 rw [ev_wC] at gC
 have gD:=good_rename (str tmB) (str ptB) gC (by omega)
 rw [ev_wD] at gD
 have hpt:=path_n blB
 rw [pt_bl] at hpt
 refine kW ?_
 refine OW_EV (EV_catL [116,109,112,47] blB rfl rfl (by simp [blB])) rfl ?_
 rw [show ([116,109,112,47]++blB:List UInt8)=tmB from rfl]
 refine kW ?_
 refine cC rfl rfl (remove_1 (newS 1048576) p 0 (str tmB) C L hA g0) (fun r L' hp=>?_)
 obtain ⟨C1,rfl,rfl,h1⟩:=hp
 rw [ev_w0] at h1 ⊢
 refine kW ?_
 refine cC rfl rfl (create_1 (newS 1048576) p 0 (str tmB) C1 L h1 g0) (fun r L' hp=>?_)
 obtain ⟨C2,rfl,rfl,h2⟩:=hp
 rw [ev_wA] at h2 ⊢
 refine kW ?_
 refine cC rfl rfl (append_1 wA p 1 (str tmB) d v C2 L h2 gA hv (by omega)) (fun r L' hp=>?_)
 obtain ⟨C3,rfl,rfl,h3⟩:=hp
 rw [ev_wB d hd] at h3 ⊢
 refine kW ?_
 refine cC rfl rfl (sync_1 (wB d) p 1 (str tmB) C3 L h3 gB) (fun r L' hp=>?_)
 obtain ⟨C4,rfl,rfl,h4⟩:=hp
 rw [ev_wC] at h4 ⊢
 refine kW ?_
 refine cP rfl rfl (hpt _ (by decide)) ?_
 refine kW ?_
 refine cC rfl rfl (rename_1 (wC d) p 1 (str tmB) (str ptB) C4 L h4 gC) (fun r L' hp=>?_)
 obtain ⟨C5,rfl,rfl,h5⟩:=hp
 rw [ev_wD] at h5 ⊢
 refine kW ?_
 refine cC rfl rfl (syncNames_1 (wD d) p 2 C5 L h5 gD) (fun r L' hp=>?_)
 obtain ⟨C6,rfl,rfl,h6⟩:=hp
 rw [ev_wE] at h6 ⊢
 refine kW ?_
 refine kR ?_
 exact ⟨C6::L,iC,C6,rfl,rfl,h6⟩
theorem write0_n (p:Nat) (C:Chunk) (L:List Chunk) (hA:FsAt (newS 1048576) p C) (hb:BsAt L) (hor:OrAt L) :
 Gv Tryz.prog 16 [.pointer (some ⟨p,0,none⟩),.int .i64 3,.slice none 0 0].toArray (C::L) (fun r L'=>∃C' d,r=.tuple #[.string (str blB),.int .i64 0]∧L'=C'::L∧FlO 3 [] d∧FsAt (wE d) p C'):=by
 refine Gv.of_body (args:=[.pointer (some ⟨p,0,none⟩),.int .i64 3,.slice none 0 0]) Tryz.func16 rfl rfl ?_
 have hn:=obname_n 3
 rw [show nmI 3=sBlob from rfl] at hn
 have hi:=fun L0 (h0:BsAt L0)=>id_n 3 (.slice none 0 0) [] L0 h0 (by decide) ⟨.inl ⟨0,rfl,rfl,rfl⟩,_,_,rfl,Nat.le_refl _⟩
 rw [id_bl] at hi
 have hpt:=path_n blB
 rw [pt_bl] at hpt
 refine kW ?_
 refine cP rfl rfl (hn _) ?_
 refine kW ?_
 all_goals (try (exfalso;exact absurd (str_inj.1 (b:=[]) hc) (by decide)))
 refine cP rfl rfl (hi _ hb.there) ?_
 refine kW ?_
 refine cP rfl rfl (hpt _ (by decide)) ?_
 refine kW ?_
 refine cC rfl rfl (exists0_n p C L hA) (fun r L' hp=>?_)
 obtain ⟨rfl,rfl⟩:=hp
 refine kW ?_
 refine cC rfl rfl (file_n 3 (.slice none 0 0) [] (C::L) (by omega) (by omega) (by simp) ⟨.inl ⟨0,rfl,rfl,rfl⟩,_,_,rfl,Nat.le_refl _⟩ hb.there hor.there) (fun r L' hp=>?_)
 obtain ⟨C1,d,hF,h1,rfl⟩:=hp
 have hdl:=hF.l
 refine kW ?_
 refine cC rfl rfl (Gv.take (keep0_n p r d C (C1::L) hA (ow_sl h1) (by omega)) (by repeat (first|exact Take.here|apply Take.there))) (fun r L' hp=>?_)
 obtain ⟨C2,rfl,rfl,h2⟩:=hp
 refine kW ?_
 refine kR ?_
 exact ⟨C2::L,iC,C2,d,rfl,rfl,hF,h2⟩
theorem ids0_n (p:Nat) (d:List UInt8) (C:Chunk) (L:List Chunk) (hA:FsAt (wE d) p C) (hG:Good (wE d) 2) (hb:BsAt L) :
 Gv Tryz.prog 17 [.pointer (some ⟨p,0,none⟩)].toArray (C::L) (fun r L'=>(∃a c,r=.slice a 1 c)∧L'=C::L):=by
 refine Gv.of_body (args:=[.pointer (some ⟨p,0,none⟩)]) Tryz.func17 rfl rfl ?_
 have hpt:=path_n blB
 rw [pt_bl] at hpt
 have hrp:=fun L0 (h0:BsAt L0)=>replaceall_n (ptB.drop 8) [47] [] L0 h0 (by decide) (by decide) (by decide)
 rw [rep_bl] at hrp
 refine kW ?_
 refine cC rfl rfl (list_2 (wE d) p 2 (str sObj) C L hA hG) (fun r L' hp=>?_)
 obtain ⟨D,rfl,h1⟩:=hp
 rw [ev_w2] at h1
 change Ow 9 1 r 1 [.string (str ptB)] D at h1
 rcases h1 with ⟨_,h1,_⟩|⟨lb,lcap,lrest,rfl,rfl,hxl,hrl,hm1,hm2⟩
 ·exact absurd h1 (by decide)
 refine kW ?_
 refine WC_holds' (L':=[]::[(lb,cl ([.string (str ptB)]++lrest) 9)]::C::L) (fun w h=>Holds.nil.2 h) ?_
 refine WC_loop (X:=Nat × Value × Chunk) (fun x=>[(0,.pointer (some ⟨p,0,none⟩)),(3,x.2.1),(8,.slice (some ⟨lb,0,none⟩) 1 lcap),(9,.int .i64 1),(10,.int .i64 (x.1:Int))]) (fun x=>x.2.2::[(lb,cl ([.string (str ptB)]++lrest) 9)]::C::L)
  (fun x=>x.1≤1∧Ow 9 1 x.2.1 x.1 (List.replicate x.1 (.string (str blB))) x.2.2) (fun x=>1 - x.1) (0,.slice none 0 0,[]) ⟨by omega,.inl ⟨rfl,rfl,rfl,rfl⟩⟩ iS (fun w h=>h) ?_
 rintro ⟨k,lv,lD⟩ ⟨hk,hL⟩
 simp only at hk hL ⊢
 (repeat' first|refine kW ?_|refine kU fun bk=>?_|refine kV fun hc=>?_|refine kZ (fun hc=>?_) fun hc=>?_|fail)
 ·have hk0:k=0:=by omega
  subst hk0
  refine OW_EV (EV_indexAddr0 (j:=0) rfl rfl rfl (by omega)) rfl ?_
  refine kW ?_
  refine OW_EV (EV_cutL ptB 8 ptB.length rfl rfl rfl (by decide) (Nat.le_refl _)) rfl ?_
  rw [List.take_of_length_le (l:=ptB.drop 8) (i:=ptB.length - 8) (by decide)]
  refine kW ?_
  refine cP rfl rfl (hrp _ (by repeat (first|exact hb|apply BsAt.there))) ?_
  refine kW ?_
  refine cP rfl rfl (hpt _ (by decide)) ?_
  refine kW ?_
  refine OW_buildSlice (cs:=[.string (str blB)]) rfl (by rfl) (by first|(simp [fillL,patch,Value.cells,zeros];done)|(simp [fillL,patch,Value.cells,zeros];rfl)) (by omega) rfl rfl (fun b1=>?_)
  refine kW ?_
  refine OW_append rfl rfl hL (sl_cells (k:=1) (c:=#[.string (str blB)]) (xs:=[.string (str blB)]) (m:=1) Fnd.here rfl rfl) (by repeat (first|exact Zip.here _|apply Zip.there)) (by rfl) (by rfl) (by omega) (by decide) rfl (fun v1 D1 h1 _ _=>?_)
  refine kW ?_
  refine WQ_round (X:=Nat × Value × Chunk) (μ:=fun x=>1 - x.1) (x:=(0,lv,lD)) (1,v1,D1) (by simp) ⟨by simp,h1⟩ iS (fun w h=>iH h)
 ·have hk1:k=1:=by omega
  subst hk1
  obtain ⟨a,c,rfl⟩:=ow_slc hL
  skip
  refine kR ?_
  exact ⟨C::L,iC,⟨_,_,rfl⟩,rfl⟩
end Go.Proofs.YtemdlifojcgplaaGreatDoor
namespace Go.Proofs.YtemdlifojcgplaaGreatDoor
open Go Go.Vx Go.Ob Go.Hf Go.If
variable [W0]
set_option linter.all false
set_option maxRecDepth 4000
theorem awake9_n (L:List Chunk) (hb:BsAt L) (hor:OrAt L):GvP Tryz.prog 6 [].toArray L (.bool true):=by
 refine Gv.of_body Tryz.func6 rfl rfl ?_
 have hpt:=path_n blB
 rw [pt_bl] at hpt
 refine kW ?_
 refine cC rfl rfl (new_yes 1048576 L (by omega)) (fun r L' hp=>?_)
 obtain ⟨p,C0,rfl,rfl,hA0⟩:=hp
 refine kW ?_
 refine cC rfl rfl (write0_n p C0 L hA0 hb hor) (fun r L' hp=>?_)
 obtain ⟨C1,d,rfl,rfl,hF,hA1⟩:=hp
 have hdl:=hF.l
 have hG:=good_wE (d:=d) (by omega)
 have e0:rdE blB d=0:=by unfold rdE;rw [if_neg (fun h=>h hF.e),hF.prK,hF.prB,if_neg (fun h=>h id_bl)]
 have e1:rdK blB d=3:=by unfold rdK;rw [if_pos e0,hF.prK]
 have e2:rdB blB d=[]:=by unfold rdB;rw [if_pos e0,hF.prB]
 have hr:=lread_n (wE d) p 2 blB d C1 L hA1 hG hsh_bl (by rw [pt_bl];exact ev_wO d) (by rw [pt_bl];exact ev_wF d) (by omega) hb hor
 rw [e0,e1,e2] at hr
 refine kW ?_
 refine cC rfl rfl hr (fun r L' hp=>?_)
 obtain ⟨v,D,rfl,hv,rfl⟩:=hp
 obtain ⟨a,c,rfl,_⟩:=(hv []).room
 refine kW ?_
 refine cP rfl rfl (hpt _ (by decide)) ?_
 refine kW ?_
 refine cC rfl rfl (Gv.take (ids0_n p d C1 (D::L) hA1 hG hb.there) (by repeat (first|exact Take.here|apply Take.there))) (fun r L' hp=>?_)
 obtain ⟨⟨a3,c3,rfl⟩,rfl⟩:=hp
 refine kW ?_
 exact kE
theorem idn_len (k:Int) (s:List UInt8):(idL k s).length=40:=by unfold idL;rw [hexL_length,shaN_length]
theorem idn_hsh (k:Int) (s:List UInt8):hshB (idL k s)=true:=by
 unfold hshB
 rw [idn_len]
 unfold idL
 rw [unB_hex]
 rfl
omit [W0] in
theorem hex_no (l:List UInt8):(0:UInt8)∉hexL l:=by
 have hd:∀i,i < 16→dig i≠0:=by decide
 induction l with
 |nil=>simp [hexL]
 |cons x r ih=>
  have hx:=x.toNat_lt
  simp only [hexL,hexB,List.mem_append,List.mem_cons,List.not_mem_nil,or_false,not_or]
  exact ⟨⟨(hd _ (by omega)).symm,(hd _ (by omega)).symm⟩,ih⟩
theorem pt_len {s:List UInt8} (h:hshB s=true):(ptL s).length=49:=by
 rw [ptL_yes h]
 have:=hsh_len h
 simp [sObj];omega
theorem pt_ok (k:Int) (s:List UInt8):nameOk (str (ptL (idL k s)))=true:=by
 have h:=idn_hsh k s
 have hl:=pt_len h
 have hn:(0:UInt8)∉ptL (idL k s):=by
  rw [ptL_yes h]
  have hx:=hex_no (shaN (hdL k (s.length:Int)++s))
  change (0:UInt8)∉idL k s at hx
  simp only [List.mem_append,not_or]
  exact ⟨⟨⟨by decide,fun hh=>hx (List.mem_of_mem_take hh)⟩,by decide⟩,fun hh=>hx (List.mem_of_mem_drop hh)⟩
 have hi:firstIdx (str (ptL (idL k s))) 0= -1:=by
  rw [Lib.firstIdx_eq]
  rcases index_cut 0 (ptL (idL k s)) with ⟨_,h2,_⟩|⟨_,h2,_⟩
  ·exact h2
  ·exact absurd h2 hn
 unfold nameOk
 rw [hi,str_size,hl]
 rfl
theorem pt_inj {s r:List UInt8} (hs:hshB s=true) (hr:hshB r=true) (h:ptL s=ptL r):s=r:=by
 rw [ptL_yes hs,ptL_yes hr] at h
 have l1:=hsh_len hs
 have l2:=hsh_len hr
 have e1:s.take 2++([47]++s.drop 2)=r.take 2++([47]++r.drop 2):=by
  simpa [List.append_assoc] using h
 have e2:=List.append_inj e1 (by rw [List.length_take,List.length_take,l1,l2])
 rw [←List.take_append_drop 2 s,←List.take_append_drop 2 r,e2.1,List.append_cancel_left e2.2]
omit [W0] in
def oA (a:ByteArray):Fsy:=⟨1048576,[⟨[],0⟩],[⟨a,0⟩],[],[.cr a 0],-1,false⟩
omit [W0] in
def oB (a:ByteArray) (d:List UInt8):Fsy:=⟨1048576,[⟨d,0⟩],[⟨a,0⟩],[],[.cr a 0],-1,false⟩
omit [W0] in
def tw (a b:ByteArray):List En:=if kcmp a b < 0 then [⟨a,0⟩,⟨b,1⟩] else [⟨b,1⟩,⟨a,0⟩]
omit [W0] in
def oC (a b:ByteArray) (d:List UInt8):Fsy:=⟨1048576,[⟨d,0⟩,⟨[],0⟩],tw a b,[],[.cr a 0,.cr b 1],-1,false⟩
omit [W0] in
def oD (a b:ByteArray) (d e:List UInt8):Fsy:=⟨1048576,[⟨d,0⟩,⟨e,0⟩],tw a b,[],[.cr a 0,.cr b 1],-1,false⟩
theorem ev_oA {a:ByteArray} (h:nameOk a=true):createS (newS 1048576) a=(0,oA a):=by
 simp [createS,openE,newS,has,h,spendE,spendS,afterE,putE,insE,Vx.pos,oA]
theorem op_oA {a:ByteArray} (h:nameOk a=true):openE (oA a) a=0:=by simp [openE,oA,has,h]
theorem op_oB {a:ByteArray} {d:List UInt8} (h:nameOk a=true):openE (oB a d) a=0:=by simp [openE,oB,has,h]
theorem fi_oB (a:ByteArray) (d:List UInt8):(fiAt (oB a d).files ⟨a,fileE (oB a d).names a⟩).data=d:=by
 simp [oB,fileE,Vx.pos,fiAt,kcmp_irrefl]
theorem ev_oB {a:ByteArray} {d:List UInt8} (h:nameOk a=true) (hd:d.length≤1000000):appendS (oA a) a d=(0,oB a d):=by
 unfold appendS
 rw [if_neg (by rw [op_oA h];simp),if_neg (by simp [oA,usedN,lens,fiAt];omega)]
 simp [oA,oB,spendE,spendS,fileE,Vx.pos,fiAt,kcmp_irrefl]
theorem ev_oC {a b:ByteArray} {d:List UInt8} (h:nameOk b=true) (hab:a≠b):createS (oB a d) b=(0,oC a b d):=by
 by_cases hk:kcmp a b < 0
 ·simp [createS,openE,oB,has,h,hab,spendE,spendS,afterE,putE,insE,Vx.pos,oC,tw,hk]
 ·simp [createS,openE,oB,has,h,hab,spendE,spendS,afterE,putE,insE,Vx.pos,oC,tw,hk]
theorem op_oC {a b:ByteArray} {d:List UInt8} (h:nameOk b=true):openE (oC a b d) b=0:=by
 have hh:has (tw a b) b=true:=by
  unfold tw
  split<;>simp [has]
 simp [openE,oC,hh,h]
theorem op_oD {a b:ByteArray} {d e:List UInt8} (h:nameOk b=true):openE (oD a b d e) b=0:=op_oC (d:=d) h
theorem tw_file (a b:ByteArray):fileE (tw a b) b=1:=by
 by_cases hk:kcmp a b < 0
 ·simp [tw,hk,fileE,Vx.pos,kcmp_irrefl]
 ·simp [tw,hk,fileE,Vx.pos,kcmp_irrefl]
theorem fi_oD (a b:ByteArray) (d e:List UInt8):(fiAt (oD a b d e).files ⟨b,fileE (oD a b d e).names b⟩).data=e:=by
 show (fiAt [⟨d,0⟩,⟨e,0⟩] ⟨b,fileE (tw a b) b⟩).data=e
 rw [tw_file]
 rfl
theorem us_oC (a b:ByteArray) (d:List UInt8):usedN (oC a b d)=d.length:=by
 unfold usedN oC tw
 split<;>simp [lens,fiAt]
theorem ev_oD {a b:ByteArray} {d e:List UInt8} (h:nameOk b=true) (hd:d.length+e.length≤1000000):appendS (oC a b d) b e=(0,oD a b d e):=by
 unfold appendS
 rw [if_neg (by rw [op_oC h];simp),if_neg (by rw [us_oC];simp [oC];omega)]
 have h1:fileE (oC a b d).names b=1:=tw_file a b
 rw [h1]
 simp [oC,oD,spendE,spendS,fiAt]
theorem bit_xor8 (a b:UInt8):bitI .xor .u8 (a.toNat:Int) (b.toNat:Int)=some ((a ^^^ b).toNat:Int):=by
 have ha:=a.toNat_lt
 have hb:=b.toNat_lt
 have hc:=(a ^^^ b).toNat_lt
 have e:(BitVec.ofInt 8 (a.toNat:Int) ^^^ BitVec.ofInt 8 (b.toNat:Int)).toNat=(a ^^^ b).toNat:=by
  rw [BitVec.toNat_xor,BitVec.ofInt_natCast,BitVec.ofInt_natCast,BitVec.toNat_ofNat,BitVec.toNat_ofNat,Nat.mod_eq_of_lt (by omega),Nat.mod_eq_of_lt (by omega),UInt8.toNat_xor]
 show some (IntKind.u8.wrap (((BitVec.ofInt 8 (a.toNat:Int) ^^^ BitVec.ofInt 8 (b.toNat:Int)).toNat:Nat):Int))=_
 rw [e]
 congr 1
 exact wrap_nat rfl (by simp only [IntKind.bits];omega)
theorem set_xor0 (z:List UInt8) (i:Nat):z.set i (z.getD i 0 ^^^ 0)=z:=by
 rw [UInt8.xor_zero]
 rcases Nat.lt_or_ge i z.length with h|h
 ·rw [List.getD_eq_getElem?_getD,List.getElem?_eq_getElem h]
  exact List.set_getElem_self h
 ·exact List.set_eq_of_length_le h
theorem loosewrong_n (k1 k2:Int) (a1 a2:Option Addr) (c1 c2:Nat) (x y:List UInt8) (at_:Int) (byt_:UInt8) (L:List Chunk) (g1:SlC L 1 (.slice a1 x.length c1) x.length (bsv x)) (g2:SlC L 1 (.slice a2 y.length c2) y.length (bsv y))
 (hl1:x.length≤140737488351232) (hl2:y.length≤140737488351232) (hat: -9223372036854775808≤at_∧at_≤9223372036854775807) (hb:BsAt L) (hor:OrAt L) :
 GvP Tryz.prog 3 [.agg #[.int .i64 k1,.slice a1 x.length c1],.agg #[.int .i64 k2,.slice a2 y.length c2],.int .i64 at_,.int .u8 (byt_.toNat:Int)].toArray L (.bool true):=by
 refine Gv.of_body (args:=[.agg #[.int .i64 k1,.slice a1 x.length c1],.agg #[.int .i64 k2,.slice a2 y.length c2],.int .i64 at_,.int .u8 (byt_.toNat:Int)]) Tryz.func3 rfl rfl ?_
 ((refine kW ?_;refine kU fun bk=>?_;refine kW ?_;refine kU fun bk=>?_;refine kW ?_))
 rename_i b1
 refine cC rfl rfl (new_yes 1048576 _ (by omega)) (fun r L' hp=>?_)
 obtain ⟨p,C0,rfl,rfl,hA0⟩:=hp
 ((repeat' first|refine kW ?_|refine kU fun bk=>?_|refine kV fun hc=>?_|refine kZ (fun hc=>?_) fun hc=>?_|fail)<;>try exact absurd trivial hc)
 rotate_right
 ·obtain ⟨k,rfl⟩:∃k:Nat,k1=(k:Int):=⟨k1.toNat,by omega⟩
  obtain ⟨k',rfl⟩:∃k':Nat,k2=(k':Int):=⟨k2.toNat,by omega⟩
  have hX:=idn_hsh (k:Int) x
  have hY:=idn_hsh (k':Int) y
  have oX:=pt_ok (k:Int) x
  have oY:=pt_ok (k':Int) y
  have q1:=refid_n (k:Int) x
  have q2:=refid_n (k':Int) y
  have q3:=pt_inj hX hY
  have pX:=path_n (idL (k:Int) x)
  have pY:=path_n (idL (k':Int) y)
  have lX:=hsh_len hX
  have lY:=hsh_len hY
  obtain ⟨X,hXe⟩:∃X,idL (k:Int) x=X:=⟨_,rfl⟩
  obtain ⟨Y,hYe⟩:∃Y,idL (k':Int) y=Y:=⟨_,rfl⟩
  rw [hXe] at hX oX q1 q3 pX lX
  rw [hYe] at hY oY q2 q3 pY lY
  refine WC_drawAll [] mixed ?_
  (refine WR_t 0 ?_;refine WR_t 1 ?_;refine WR_t 2 ?_;refine WR_t 3 ?_)
  refine cT 4 rfl rfl (EV_convStr (m:=x.length) (b:=x) rfl (by repeat (first|exact g1.sl|apply sl_there))) ?_
  (refine WR_t 6 ?_;refine WR_t 7 ?_;refine WR_t 8 ?_;refine WR_t 9 ?_)
  refine cT 10 rfl rfl (EV_convStr (m:=y.length) (b:=y) rfl (by repeat (first|exact g2.sl|apply sl_there))) ?_
  refine cI 5 rfl rfl ?_
  refine cP rfl rfl (q1 _ (by omega)) ?_
  refine ⟨iC,?_⟩
  refine cI 11 rfl rfl ?_
  refine cP rfl rfl (q2 _ (by omega)) ?_
  refine ⟨iC,?_⟩
  (refine WR_t 12 ?_;refine WR_t 13 ?_)
  refine cD ?_
  by_cases hxy:X=Y
  ·subst hxy
   ((refine kW ?_;refine kV fun hc=>?_;refine kW ?_))
   refine cP rfl rfl (awake9_n _ (by repeat (first|exact hb|apply BsAt.there)) (by repeat (first|exact hor|apply OrAt.there))) ?_
   (refine kW ?_)
   exact kE
  have hne:¬str X=str Y:=fun h=>hxy (str_inj.1 h)
  have hpp:str (ptL Y)≠str (ptL X):=fun h=>hxy (q3 (str_inj.1 h.symm))
  have g0:=good_new 1048576 (by omega)
  have gA:=good_create (str (ptL Y)) g0 (by omega)
  rw [ev_oA oY] at gA
  ((repeat' first|refine kW ?_|refine kU fun bk=>?_|refine kV fun hc=>?_|refine kZ (fun hc=>?_) fun hc=>?_|fail)<;>try exact absurd trivial hc)
  all_goals (try exact absurd hc hne)
  refine cC rfl rfl (file_n k (.slice a1 x.length c1) x _ (by omega) (by omega) (by omega) ⟨by repeat (first|exact g1.sl|apply sl_there),g1.room⟩ (by repeat (first|exact hb|apply BsAt.there)) (by repeat (first|exact hor|apply OrAt.there))) (fun r L' hp=>?_)
  obtain ⟨C1,z,hF,h1,rfl⟩:=hp
  obtain ⟨az,cz,rfl,hcz⟩:=(SlC.ow (L:=[]) h1).room
  have hzl:=hF.l
  have gB:=good_append (str (ptL Y)) z gA
  rw [ev_oB oY (by omega)] at gB
  have gC:=good_create (str (ptL X)) gB (by omega)
  rw [ev_oC oX hpp] at gC
  (refine kW ?_)
  refine cP rfl rfl (pY _ (by omega)) ?_
  (refine kW ?_)
  refine cC rfl rfl (Gv.take (create_1 (newS 1048576) p 0 (str (ptL Y)) C0 _ hA0 g0) (by repeat (first|exact Take.here|apply Take.there))) (fun r L' hp=>?_)
  obtain ⟨D1,rfl,rfl,d1⟩:=hp
  rw [ev_oA oY] at d1 ⊢
  (refine kW ?_)
  refine cP rfl rfl (pY _ (by omega)) ?_
  (refine kW ?_)
  refine cC rfl rfl (append_1 (oA (str (ptL Y))) p 1 (str (ptL Y)) z (.slice az z.length cz) D1 _ d1 gA (ow_sl h1) (by omega)) (fun r L' hp=>?_)
  obtain ⟨D2,rfl,rfl,d2⟩:=hp
  rw [ev_oB oY (by omega)] at d2 ⊢
  (refine kW ?_)
  have e6:rdE Y z=6:=by unfold rdE;rw [if_neg (fun h=>h hF.e),hF.prK,hF.prB,hXe,if_pos hxy]
  have e7:rdK Y z=0:=if_neg (by omega)
  have e8:rdB Y z=[]:=if_neg (by omega)
  have hr1:=fun L0 (b0:BsAt L0) (o0:OrAt L0)=>lread_n (oB (str (ptL Y)) z) p 1 Y z D2 L0 d2 gB hY (op_oB oY) (fi_oB _ z) (by omega) b0 o0
  rw [e6,e7,e8] at hr1
  refine cC rfl rfl (hr1 _ (by repeat (first|exact hb|apply BsAt.there)) (by repeat (first|exact hor|apply OrAt.there))) (fun r L' hp=>?_)
  obtain ⟨v1,R1,rfl,hv1,rfl⟩:=hp
  obtain ⟨ar,cr,rfl,_⟩:=(hv1 []).room
  ((refine kW ?_;refine kV fun hc=>?_;refine kW ?_))
  have hn0:(z.length:Int)≠0:=by omega
  have hmb: -(z.length:Int) < at_.tmod (z.length:Int)∧at_.tmod (z.length:Int) < (z.length:Int):=by
   have h2:=Int.natAbs_tmod at_ (z.length:Int)
   have h3:=Nat.mod_lt at_.natAbs (show 0 < (z.length:Int).natAbs by omega)
   omega
  refine OW_EV (EV_rem rfl rfl hn0) rfl ?_
  generalize at_.tmod (z.length:Int)=m at hmb ⊢
  (refine kW ?_)
  obtain ⟨i,hi⟩:∃i:Nat,i=(m+(z.length:Int)).toNat % z.length:=⟨_,rfl⟩
  have hil:i < z.length:=by rw [hi];exact Nat.mod_lt _ (by omega)
  refine OW_EV (EV_remN (m+(z.length:Int)).toNat z.length rfl rfl (by omega) rfl (by omega)) rfl ?_
  rw [←hi]
  obtain ⟨bz,capz,restz,f1,rfl,f3,f4,hput⟩:=ow_put h1 hil
  injection f1 with f5 _ f6
  subst f5 f6
  obtain ⟨z',hz'⟩:∃z',z'=z.set i (z.getD i 0 ^^^ byt_):=⟨_,rfl⟩
  have hzl':z'.length=z.length:=by rw [hz',List.length_set]
  have hput':=hput (z.getD i 0 ^^^ byt_)
  rw [←hz'] at hput'
  have hw3:Ow 5 1 (.slice (some ⟨bz,0,none⟩) z.length cz) z'.length (bsv z') [(bz,cl ((bsv z++restz).set (i * 1) (.int .u8 ((z.getD i 0 ^^^ byt_).toNat:Int))) 5)]:=by rw [hzl'];exact hput'
  (refine kW ?_)
  refine OW_EV (EV_indexAddr (j:=i) rfl rfl rfl hil) rfl ?_
  (refine kW ?_)
  refine OW_EV (EV_load rfl (by repeat (first|exact Fnd.here|apply Fnd.there)) (by rw [Nat.zero_add];exact f3)) rfl ?_
  (refine kW ?_)
  refine OW_EV (EV_bit rfl rfl (bit_xor8 (z.getD i 0) byt_)) rfl ?_
  (refine kW ?_)
  refine OW_EV (EV_indexAddr (j:=i) rfl rfl rfl hil) rfl ?_
  refine WL_plain rfl ?_
  refine OW_store rfl rfl rfl iU (by rw [Nat.zero_add];exact f4) ?_
  rw [Nat.zero_add]
  have gD:=good_append (str (ptL X)) z' gC
  rw [ev_oD oX (by omega)] at gD
  (refine kW ?_)
  refine cP rfl rfl (pX _ (by omega)) ?_
  (refine kW ?_)
  refine cC rfl rfl (Gv.take (create_1 (oB (str (ptL Y)) z) p 1 (str (ptL X)) D2 _ d2 gB) (by repeat (first|exact Take.here|apply Take.there))) (fun r L' hp=>?_)
  obtain ⟨D3,rfl,rfl,d3⟩:=hp
  rw [ev_oC oX hpp] at d3 ⊢
  (refine kW ?_)
  refine cP rfl rfl (pX _ (by omega)) ?_
  (refine kW ?_)
  refine cC rfl rfl (append_1 (oC (str (ptL Y)) (str (ptL X)) z) p 2 (str (ptL X)) z' (.slice (some ⟨bz,0,none⟩) z.length cz) D3 _ d3 gC (by rw [hzl'] at hw3 ⊢;repeat (first|exact ow_sl hw3|apply sl_there)) (by omega)) (fun r L' hp=>?_)
  obtain ⟨D4,rfl,rfl,d4⟩:=hp
  rw [ev_oD oX (by omega)] at d4 ⊢
  (refine kW ?_)
  have hr2:=fun L0 (b0:BsAt L0) (o0:OrAt L0)=>lread_n (oD (str (ptL Y)) (str (ptL X)) z z') p 2 X z' D4 L0 d4 gD hX (op_oD oX) (fi_oD _ _ z z') (by omega) b0 o0
  have hll:=prB_len z'
  by_cases hq:rdE X z'=0
  ·have hB:idL (rdK X z':Int) (rdB X z')=X:=by
    have:¬(psE z'≠0)∧¬(idL (prK z':Int) (prB z')≠X):=by
     unfold rdE at hq
     split at hq
     ·omega
     ·rename_i h
      split at hq
      ·omega
      ·rename_i h'
       exact ⟨h,h'⟩
    unfold rdK rdB
    rw [if_pos hq,if_pos hq]
    exact Classical.not_not.1 this.2
   have hBl:(rdB X z').length≤65568:=by unfold rdB;rw [if_pos hq];exact hll
   have hq2:=refid_n (rdK X z':Int) (rdB X z')
   rw [hB] at hq2
   rw [hq] at hr2
   refine cC rfl rfl (hr2 _ (by repeat (first|exact hb|apply BsAt.there)) (by repeat (first|exact hor|apply OrAt.there))) (fun r L' hp=>?_)
   obtain ⟨v2,R2,rfl,hv2,rfl⟩:=hp
   (refine kW ?_)
   refine OW_EV (EV_convStr (m:=(rdB X z').length) (b:=rdB X z') rfl (hv2 _).sl) rfl ?_
   (refine kW ?_)
   refine cP rfl rfl (hq2 _ (by omega)) ?_
   ((repeat' first|refine kW ?_|refine kU fun bk=>?_|refine kV fun hc=>?_|refine kZ (fun hc=>?_) fun hc=>?_|fail)<;>try exact absurd trivial hc)
   refine cP rfl rfl (awake9_n _ (by repeat (first|exact hb|apply BsAt.there)) (by repeat (first|exact hor|apply OrAt.there))) ?_
   (refine kW ?_)
   exact kE
  ·have hby:byt_≠0:=fun h=>by
    rw [h,set_xor0] at hz'
    rw [hz'] at hq
    refine hq ?_
    unfold rdE
    rw [if_neg (fun h=>h hF.e),hF.prK,hF.prB,if_neg (fun h=>h hXe)]
   have hbn:byt_.toNat≠0:=fun h=>hby (UInt8.toNat_inj.1 h)
   have hK:rdK X z'=0:=if_neg hq
   have hBn:rdB X z'=[]:=if_neg hq
   rw [hK,hBn] at hr2
   refine cC rfl rfl (hr2 _ (by repeat (first|exact hb|apply BsAt.there)) (by repeat (first|exact hor|apply OrAt.there))) (fun r L' hp=>?_)
   obtain ⟨v2,R2,rfl,hv2,rfl⟩:=hp
   obtain ⟨av,cv2,rfl,_⟩:=(hv2 []).room
   ((refine kW ?_;refine kV fun hc=>?_;refine kW ?_;refine kV fun hc=>?_;refine kW ?_))
   refine cP rfl rfl (awake9_n _ (by repeat (first|exact hb|apply BsAt.there)) (by repeat (first|exact hor|apply OrAt.there))) ?_
   (refine kW ?_)
   exact kE
 all_goals (
  refine cP rfl rfl (awake9_n _ (by repeat (first|exact hb|apply BsAt.there)) (by repeat (first|exact hor|apply OrAt.there))) ?_
  (refine kW ?_)
  exact kE)
end Go.Proofs.YtemdlifojcgplaaGreatDoor
namespace Go.Proofs.YtemdlifojcgplaaGreatDoor
open Go Go.Vx Go.ChangeShapes Go.WideShapes Go.ChangeAt Go.RowKit
set_option maxRecDepth 4000
set_option linter.all false
theorem open_bytes {H:Type} {enc:TypeId × Value→H} {P:Program} {W:World} {t e:TypeId} {a:Option Addr} {len cap:Nat} {d:DataW H} {ps:List MemPlace} (ht:P.underlying t=some (.slice e)) (he:P.underlying e=some (.int .u8)) (hc:P.cellsOf e=1)
 (h:DataW.Trod enc P W 0 (fun _=>true) true t (.slice a len cap) d ps) :
 ∃xs:List UInt8,xs.length=len∧SlC [blks W] 1 (.slice a len cap) len (bsv xs)∧len≤Rows.uptoBulk d∧(len=0∨∃el sp,d=.slice el sp∧el.length=len):=by
 have hx:len≤cap∧(len=0∨∃el sp,d=.slice el sp∧el.length=len):=by
  obtain ⟨fuel,hf⟩:=h
  rcases open_ints ht he hc hf with ⟨hcs,_⟩|⟨x,l,c,zs,hcs,_,hl,hm,hz,hx,hcell,hwz⟩
  ·simp [Value.cells] at hcs
   obtain ⟨rfl,rfl,rfl⟩:=hcs
   exact ⟨Nat.le_refl _,.inl rfl⟩
  ·simp [Value.cells] at hcs
   obtain ⟨rfl,rfl,rfl⟩:=hcs
   have hzl:zs.length=cap:=by simpa using hz
   have hd:d=.slice (lits .u8 (zs.take len)) (lits .u8 (zs.drop len)):=by injection hx
   exact ⟨hl,.inr ⟨_,_,hd,by simp [lits];omega⟩⟩
 obtain ⟨xs,h1,h2,h3,h4⟩:=open_row ht he hc h
 refine ⟨xs.map fun n=>UInt8.ofNat n.toNat,by simpa using h1,⟨?_,_,_,rfl,hx.1⟩,h4,hx.2⟩
 rw [bytes_of xs h2]
 exact h3
end Go.Proofs.YtemdlifojcgplaaGreatDoor
namespace Go.Proofs.YtemdlifojcgplaaGreatDoor
open Go Go.Vx Go.ChangeShapes Go.WideShapes Go.ChangeAt Go.RowKit Go.Lib
set_option maxRecDepth 100000
set_option linter.all false
def laid9:List (String × DataW Unit):=[("math/bits.deBruijn32tab",Rows.laid_math_bits_deBruijn32tab),("math/bits.deBruijn64tab",Rows.laid_math_bits_deBruijn64tab),("internal/strconv.uint64pow10",Rows.laid_internal_strconv_uint64pow10),("unicode/utf8.acceptRanges",Rows.laid_unicode_utf8_acceptRanges),("stemma/symbols.order",Rows.laid_stemma_symbols_order),("unicode/utf8.first",Rows.laid_unicode_utf8_first)]
def nums (k:IntKind):List (DataW Unit)→List Value
 |[]=>[]
 |.lit (.int _ z)::r=>.int k z::nums k r
 |.agg [.lit (.int _ z),.lit (.int _ y)]::r=>.int k z::.int k y::nums k r
 |_::r=>nums k r
def parts:DataW Unit→List (DataW Unit)
 |.agg l=>l
 |_=>[]
def tab32:List Value:=nums .u8 (parts Rows.laid_math_bits_deBruijn32tab)
def tab64:List Value:=nums .u8 (parts Rows.laid_math_bits_deBruijn64tab)
def tab10:List Value:=nums .u64 (parts Rows.laid_internal_strconv_uint64pow10)
def tabAc:List Value:=nums .u8 (parts Rows.laid_unicode_utf8_acceptRanges)
def tabOr:List Value:=nums .i64 (parts Rows.laid_stemma_symbols_order)
def tabFi:List Value:=nums .u8 (parts Rows.laid_unicode_utf8_first)
def ordZ:List Int:=[16,17,18,0,8,7,9,6,10,5,11,4,12,3,13,2,14,1,15]
theorem ordZ_eq {i:Nat} (h:i < 19):ordZ.getD i 0=((Go.If.ordL.getD i 0:Nat):Int):=by
 have:∀i:Fin 19,ordZ.getD i.val 0=((Go.If.ordL.getD i.val 0:Nat):Int):=by decide
 exact this ⟨i,h⟩
theorem pow_eq:Rows.laid_internal_strconv_uint64pow10 (H:=Unit)=tabData .u64 pow10Tab:=by kernel_rfl
theorem ord_eq:Rows.laid_stemma_symbols_order (H:=Unit)=tabData .i64 ordZ:=by kernel_rfl
theorem met_plain {W:World} (h:laidMetH Tryz.prog laid9 W):laidMet Tryz.prog laid9 W:=by
 have e:laid9.filter (fun x=>x.2.handleName?.isSome)=[]:=by kernel_rfl
 unfold laidMetH at h
 rw [e] at h
 exact h
theorem or_met {W:World} (hL:laidMetH Tryz.prog laid9 W):OrAt [blks W]:=by
 letI:W0:=⟨W.os,W.output⟩
 obtain ⟨ps,hv,_⟩:=met_plain hL
 have r5:=LaidVars_reads hv "stemma/symbols.order" Rows.laid_stemma_symbols_order (by simp [laid9])
 rw [ord_eq] at r5
 have hg:Tryz.prog.globalNamed "stemma/symbols.order"=some 6:=by kernel_rfl
 have ht:TabIs Tryz.prog W "stemma/symbols.order" .i64 ordZ:=by
  obtain ⟨g',t',cs,fuel,p,hg',ht',hvar,hd⟩:=r5
  obtain rfl:=Option.some.inj (hg.symm.trans hg')
  obtain rfl:=Option.some.inj ((show (Tryz.prog.globals[6]?).map (·.type)=some 367 by kernel_rfl).symm.trans ht')
  unfold TabIs
  rw [hvar,←cells_of_tab Tryz.underlying367 Tryz.underlying3 (by kernel_rfl) (by kernel_rfl) hd]
 have hc0:=ht.cell hg 0 (by decide)
 have hblk:∃C T fr,W.heap[6]? =some (.cells C T fr):=by
  unfold World.cell? at hc0
  split at hc0
  ·rename_i C T fr hb;exact ⟨C,T,fr,hb⟩
  ·cases hc0
 obtain ⟨C,T,fr,hb⟩:=hblk
 refine ⟨C,T,fr,by simpa [Fnd] using blks_mem.2 hb,fun i hi=>?_⟩
 have:=ht.cell hg i hi
 rw [cell_of hb] at this
 rw [this,ordZ_eq hi]
theorem bs_met {W:World} (hL:laidMetH Tryz.prog laid9 W) (hsh:W.ShapedOpen Tryz.prog) [W0]:BsAt [blks W]:=by
 obtain ⟨ps,hv,_⟩:=met_plain hL
 have r5:=LaidVars_reads hv "internal/strconv.uint64pow10" Rows.laid_internal_strconv_uint64pow10 (by simp [laid9])
 rw [pow_eq] at r5
 have hmx:∃m,W.cell? ⟨0,0,none⟩=some (.int .i64 m):=
  cell_of_shapedOpen_int (t:=3) (zero:=#[.int .i64 0]) hsh (of_decide_eq_true (by kernel_rfl)) (by kernel_rfl) (by kernel_rfl) (by kernel_rfl) (by kernel_rfl) Tryz.underlying3
 have hpw:TabIs Tryz.prog W "internal/strconv.uint64pow10" .u64 pow10Tab:=by
  obtain ⟨g',t',cs,fuel,p,hg',ht',hvar,hd⟩:=r5
  obtain rfl:=Option.some.inj ((show Tryz.prog.globalNamed "internal/strconv.uint64pow10"=some 3 by kernel_rfl).symm.trans hg')
  obtain rfl:=Option.some.inj ((show (Tryz.prog.globals[3]?).map (·.type)=some 291 by kernel_rfl).symm.trans ht')
  unfold TabIs
  rw [hvar,←cells_of_tab Tryz.underlying291 Tryz.underlying86 (by kernel_rfl) (by kernel_rfl) hd]
 have hkeep:∀w,Vx.Holds w [blks W]→∀k,k < W.heap.size→w.heap[k]? =W.heap[k]? :=fun w hw k hk=>by
  have hm:W.heap[k]? =some W.heap[k]:=by simp [hk]
  rw [hm]
  exact hw.2.1 (k,W.heap[k]) (by simpa using blks_mem.2 hm)
 have hlt:∀{a:Addr} {v:Value},W.cell? a=some v→a.block < W.heap.size:=fun {a} {v} h=>by
  rcases Nat.lt_or_ge a.block W.heap.size with h'|h'
  ·exact h'
  ·have:W.heap[a.block]? =none:=by simp;omega
   simp [World.cell?,this] at h
 have hcell:∀w,Vx.Holds w [blks W]→∀{a:Addr} {v:Value},W.cell? a=some v→w.cell? a=some v:=fun w hw {a} {v} h=>by
  have hb:=hkeep w hw a.block (hlt h)
  rw [←h]
  unfold World.cell?
  rw [hb]
 refine ⟨fun w hw=>trivial,hmx.imp fun m hm w hw=>hcell w hw hm,fun w hw=>?_⟩
 have h0:=hpw.cell (g:=3) (by kernel_rfl) 0 (by decide)
 have hb:=hkeep w hw _ (hlt h0)
 unfold TabIs World.var? at hpw ⊢
 rw [show Tryz.prog.globalNamed "internal/strconv.uint64pow10"=some 3 from by kernel_rfl] at hpw ⊢
 simp only [Option.bind_some] at hpw ⊢
 rw [hb]
 exact hpw
end Go.Proofs.YtemdlifojcgplaaGreatDoor
namespace Go.Proofs.YtemdlifojcgplaaGreatDoor
open Go Go.Vx Go.Ob Go.ChangeShapes Go.WideShapes Go.ChangeAt Go.RowKit Go.Lib Go.Joins
set_option maxRecDepth 4000
set_option linter.all false
theorem open_put {H:Type} {enc:TypeId × Value→H} {W:World} {base:Nat} {v:Value} {d:DataW H} {p:List MemPlace} (hv:Value.okWide Tryz.prog W .any base 24 v)
 (h:DataW.Trod enc Tryz.prog W 0 (fun _=>true) true 24 v d p) :
 ∃(z:Int) (a:Option Addr) (c:Nat) (x:List UInt8),v=.agg #[.int .i64 z,.slice a x.length c]∧SlC [blks W] 1 (.slice a x.length c) x.length (bsv x)∧∃e,d=.agg [.lit (.int .i64 z),e]∧(x.length=0∨∃el sp,e=.slice el sp∧el.length=x.length):=by
 obtain ⟨v0,v1,y0,y1,n,rfl,rfl,rfl,h0,h1⟩:=open_agg2 Tryz.underlying24 (by kernel_rfl) (by kernel_rfl) hv h
 obtain ⟨z,e0,q0,w0⟩:=DataW.trod_int Tryz.underlying3 h0
 simp only [List.cons.injEq,and_true] at e0
 subst e0 q0
 obtain ⟨a,l,c,rfl⟩:∃a l c,v1=.slice a l c:=by
  rcases DataW.trod_slice Tryz.underlying22 h1 with ⟨e,_⟩|⟨x,len,cap,elems,rest,m,_,e,_⟩
  ·simp only [List.cons.injEq,and_true] at e
   exact ⟨_,_,_,e⟩
  ·simp only [List.cons.injEq,and_true] at e
   exact ⟨_,_,_,e⟩
 obtain ⟨d1,p1⟩:=y1
 obtain ⟨x,hx,hs,_,hd⟩:=open_bytes Tryz.underlying22 Tryz.underlying5 (by kernel_rfl) (show DataW.Trod enc Tryz.prog W 0 (fun _=>true) true 22 (.slice a l c) d1 p1 from ⟨n,by simpa [Value.cells] using h1⟩)
 subst hx
 exact ⟨z,a,c,x,rfl,hs,d1,rfl,hd⟩
theorem put_len {H:Type} {ts:List TypeId} {ds:List (DataW H)} (h:(DataW.weightsEach Tryz.prog ts ds).all (·≤reachBytes)=true) {j:Nat} {z:Int} {l:Nat} {d:DataW H} (ht:ts[j]? =some 24) (hj:ds[j]? =some d)
 (hd:∃e:DataW H,d=.agg [.lit (.int .i64 z),e]∧(l=0∨∃el sp,e=.slice el sp∧el.length=l)):l≤140737488351232:=by
 obtain ⟨e,rfl,h0|⟨el,sp,rfl,rfl⟩⟩:=hd
 ·omega
 have hu:=Tryz.underlying24
 have hb:Tryz.prog.bytesOf 5=1:=by kernel_rfl
 have hin:(el.length+sp.length) * Tryz.prog.bytesOf 5∈DataW.weights Tryz.prog 24 (.agg [.lit (.int .i64 z),.slice el sp]:DataW H):=by
  unfold DataW.weights
  rw [hu]
  simp [DataW.weightsEach,DataW.weights,Tryz.underlying22]
 have:=List.all_eq_true.1 h _ (DataW.weights_mem_each ht hj _ hin)
 have h2:(el.length+sp.length) * Tryz.prog.bytesOf 5≤reachBytes:=by simpa using this
 rw [hb] at h2
 have h3:reachBytes=140737488351232:=rfl
 omega
end Go.Proofs.YtemdlifojcgplaaGreatDoor
