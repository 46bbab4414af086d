/- Contracts and facts on the way to the top. It proves no statement by itself. No conditions. -/
import Derived.Test.YtemdlifojcgplaaGreatDoorSY3
set_option maxHeartbeats 16000000
namespace Go.Df
open Go.Vx Go.Hf Go.If
set_option linter.all false
inductive Rl
 |len (v:Nat)
 |rep (x:Nat)
 |few (x:Nat)
 |more (x:Nat)
def rlI [W0] (own:List Nat):Rl→List (Nat × Nat)
 |.len v=>[sc own v]
 |.rep x=>[sc own 16,(x,2)]
 |.few x=>[sc own 17,(x,3)]
 |.more x=>[sc own 18,(x,7)]
def rlW:Rl→List Nat→List Nat
 |.len v,l=>l++[v]
 |.rep x,l=>l++List.replicate (3+x) (l.getD (l.length - 1) 0)
 |.few x,l=>l++List.replicate (3+x) 0
 |.more x,l=>l++List.replicate (11+x) 0
def rlN:Rl→Nat
 |.len _=>1
 |.rep x=>3+x
 |.few x=>3+x
 |.more x=>11+x
def rlOk (own:List Nat) (n:Nat):Rl→Prop
 |.len v=>v≤15∧0 < own.getD v 0
 |.rep x=>0 < n∧x < 4∧0 < own.getD 16 0
 |.few x=>x < 8∧0 < own.getD 17 0
 |.more x=>x < 128∧0 < own.getD 18 0
theorem rlI_lt [W0] {own:List Nat} {n:Nat} {r:Rl} (h:rlOk own n r):∀x∈rlI own r,x.1 < 2 ^ x.2:=by
 intro x hx
 cases r with
 |len v=>rw [List.mem_singleton.1 hx];exact sc_lt _ _
 |rep v=>
  simp only [rlI,List.mem_cons,List.not_mem_nil,or_false] at hx
  rcases hx with rfl|rfl
  ·exact sc_lt _ _
  ·exact h.2.1
 |few v=>
  simp only [rlI,List.mem_cons,List.not_mem_nil,or_false] at hx
  rcases hx with rfl|rfl
  ·exact sc_lt _ _
  ·exact h.1
 |more v=>
  simp only [rlI,List.mem_cons,List.not_mem_nil,or_false] at hx
  rcases hx with rfl|rfl
  ·exact sc_lt _ _
  ·exact h.1
theorem rlW_length (r:Rl) (l:List Nat):(rlW r l).length=l.length+rlN r:=by
 cases r<;>simp [rlW,rlN]
theorem rlN_pos (r:Rl):1≤rlN r:=by cases r<;>simp only [rlN]<;>omega
theorem rp_at [W0] {d:List UInt8} {own l:List Nat} {m k x:Nat} {s:S6} (ho:Cok own) (he:s.e=0) (h0:0 < own.getD k 0) (h1:At d s.t (sc own k).1 (sc own k).2) (h2:At d (s.t+own.getD k 0) x (rpB k)) (h3:¬(k=16∧l=[])) (h4:l.length+(rpA k+x)≤m) :
 rpS d own m s l=⟨s.t+own.getD k 0+rpB k,s.out,0⟩∧rpL d own s l=l++List.replicate (rpA k+x) (rpV k l):=by
 obtain ⟨e1,e2⟩:=sy_bi ho he h0 h1
 obtain ⟨e3,e4⟩:=tk_at (s:=⟨s.t+own.getD k 0,s.out,0⟩) h2
 simp only at e3 e4
 unfold rpS rpL
 rw [e1,e2,e3,e4,if_neg (show ¬(0:Nat)≠0 by decide),if_neg (show ¬(0:Nat)≠0 by decide),if_neg (fun hh=>by rcases hh with hh|hh;exact h3 hh;omega)]
 exact ⟨rfl,rfl⟩
theorem rl_at [W0] {d:List UInt8} {own l:List Nat} {m:Nat} {s:S6} {r:Rl} (ho:Cok own) (he:s.e=0) (hk:rlOk own l.length r) (hm:l.length+rlN r≤m) (h:Bi d s.t (rlI own r)) :
 rpS d own m s l=⟨s.t+itL (rlI own r),s.out,0⟩∧rpL d own s l=rlW r l:=by
 have hne:0 < l.length→l≠[]:=fun h hh=>by rw [hh] at h;cases h
 cases r with
 |len v=>
  obtain ⟨k1,k2⟩:=hk
  obtain ⟨h1,_⟩:=Bi.cons h (sc_lt _ _)
  have hb:rpB v=0:=by unfold rpB;rw [if_neg (by omega),if_neg (by omega),if_neg (by omega)]
  have hA:rpA v=1:=by unfold rpA;rw [if_neg (by omega),if_neg (by omega),if_neg (by omega)]
  have hV:rpV v l=v:=by unfold rpV;rw [if_neg (by omega),if_neg (by omega)]
  have h2:At d (s.t+own.getD v 0) 0 (rpB v):=by rw [hb];exact ⟨by rw [Nat.pow_zero,Nat.mod_one],by have:=h1.2;simp only [sc] at this;omega⟩
  have:=rp_at (l:=l) (m:=m) ho he k2 h1 h2 (fun hh=>by omega) (by rw [hA];exact hm)
  rw [hb,hA,hV] at this
  exact this
 |rep x=>
  obtain ⟨k1,k2,k3⟩:=hk
  obtain ⟨h1,h⟩:=Bi.cons h (sc_lt _ _)
  obtain ⟨h2,_⟩:=Bi.cons h k2
  exact rp_at (l:=l) (m:=m) ho he k3 h1 h2 (fun hh=>hne k1 hh.2) hm
 |few x=>
  obtain ⟨k1,k2⟩:=hk
  obtain ⟨h1,h⟩:=Bi.cons h (sc_lt _ _)
  obtain ⟨h2,_⟩:=Bi.cons h k1
  exact rp_at (l:=l) (m:=m) ho he k2 h1 h2 (fun hh=>by omega) hm
 |more x=>
  obtain ⟨k1,k2⟩:=hk
  obtain ⟨h1,h⟩:=Bi.cons h (sc_lt _ _)
  obtain ⟨h2,_⟩:=Bi.cons h k1
  exact rp_at (l:=l) (m:=m) ho he k2 h1 h2 (fun hh=>by omega) hm
def rsI [W0] (own:List Nat):List Rl→List (Nat × Nat)
 |[]=>[]
 |r::q=>rlI own r++rsI own q
def rsW:List Rl→List Nat→List Nat
 |[],l=>l
 |r::q,l=>rsW q (rlW r l)
def rsN:List Rl→Nat
 |[]=>0
 |r::q=>rlN r+rsN q
def rsOk (own:List Nat):Nat→List Rl→Prop
 |_,[]=>True
 |n,r::q=>rlOk own n r∧rsOk own (n+rlN r) q
theorem rsI_lt [W0] {own:List Nat}:∀{rs:List Rl} {n:Nat},rsOk own n rs→∀x∈rsI own rs,x.1 < 2 ^ x.2
 |[],_,_,x,hx=>by cases hx
 |r::q,n,h,x,hx=>by
  rcases List.mem_append.1 hx with hx|hx
  ·exact rlI_lt h.1 x hx
  ·exact rsI_lt h.2 x hx
theorem rsW_length:∀(rs:List Rl) (l:List Nat),(rsW rs l).length=l.length+rsN rs
 |[],l=>rfl
 |r::q,l=>by rw [rsW,rsW_length q,rlW_length,rsN];omega
theorem rs_at [W0] {d:List UInt8} {own:List Nat} {m:Nat} (ho:Cok own):∀(rs:List Rl) (f:Nat) (s:S6) (l:List Nat),s.e=0→rsOk own l.length rs→l.length+rsN rs=m→m≤f+l.length→Bi d s.t (rsI own rs)→
 lpS d own m f s l=(⟨s.t+itL (rsI own rs),s.out,0⟩,rsW rs l)
 |[],f,s,l,he,hk,hm,hf,h=>by
  obtain ⟨t,o,e⟩:=s
  simp only at he
  subst he
  cases f with
  |zero=>rfl
  |succ f=>rw [lpS,if_neg (fun hh=>by simp only [rsN] at hm;omega)];rfl
 |r::q,f,s,l,he,hk,hm,hf,h=>by
  have hp:=rlN_pos r
  have hm':l.length+(rlN r+rsN q)=m:=hm
  obtain ⟨g,rfl⟩:∃g,f=g+1:=⟨f - 1,by omega⟩
  obtain ⟨h1,h2⟩:=Bi.app h (rlI_lt hk.1)
  obtain ⟨e1,e2⟩:=rl_at (m:=m) ho he hk.1 (by omega) h1
  rw [lpS,if_pos ⟨he,by omega⟩,e1,e2,if_pos rfl]
  rw [rs_at ho q g ⟨s.t+itL (rlI own r),s.out,0⟩ (rlW r l) rfl (by rw [rlW_length];exact hk.2) (by rw [rlW_length];omega) (by rw [rlW_length];omega) h2]
  simp only [rsI,itL_app,rsW,Nat.add_assoc]
def owI (own:List Nat):Nat→Nat→List (Nat × Nat)
 |0,_=>[]
 |k+1,i=>(own.getD (ordL.getD i 0) 0,3)::owI own k (i+1)
def owF (own:List Nat):Nat→Nat→List Nat→List Nat
 |0,_,o=>o
 |k+1,i,o=>owF own k (i+1) (o.set (ordL.getD i 0) (own.getD (ordL.getD i 0) 0))
theorem owI_L (own:List Nat):∀k i,itL (owI own k i)=3 * k
 |0,i=>rfl
 |k+1,i=>by rw [owI,itL,owI_L own k];omega
theorem owI_lt {own:List Nat} (h7:∀i,own.getD i 0≤7):∀k i,∀x∈owI own k i,x.1 < 2 ^ x.2
 |0,i,x,hx=>by cases hx
 |k+1,i,x,hx=>by
  rcases List.mem_cons.1 hx with rfl|hx
  ·have:=h7 (ordL.getD i 0);simp only;omega
  ·exact owI_lt h7 k _ x hx
theorem ow_at [W0] {d:List UInt8} {own:List Nat} (h7:∀i,own.getD i 0≤7):∀(k i:Nat) (s:S6) (o:List Nat),s.e=0→Bi d s.t (owI own k i)→owS d k i s o=(⟨s.t+3 * k,s.out,0⟩,owF own k i o)
 |0,i,s,o,he,h=>by
  obtain ⟨t,q,e⟩:=s
  simp only at he
  subst he
  rfl
 |k+1,i,s,o,he,h=>by
  obtain ⟨h1,h2⟩:=Bi.cons h (show own.getD (ordL.getD i 0) 0 < 2 ^ 3 by have:=h7 (ordL.getD i 0);omega)
  obtain ⟨e1,e2⟩:=tk_at h1
  rw [owS,e1,e2,if_neg (fun hh=>hh he),ow_at h7 k (i+1) ⟨s.t+3,s.out,s.e⟩ _ he h2]
  simp only [owF]
  rw [show s.t+3+3 * k=s.t+3 * (k+1) by omega]
theorem owF_length (own:List Nat):∀k i o,(owF own k i o).length=o.length
 |0,i,o=>rfl
 |k+1,i,o=>by rw [owF,owF_length own k,List.length_set]
theorem owF_get {own:List Nat}:∀(k i:Nat) (o:List Nat) (j:Nat),j < o.length→
 (∀q,i≤q→q < i+k→ordL.getD q 0=j→(owF own k i o).getD j 0=own.getD j 0)∧((∀q,i≤q→q < i+k→ordL.getD q 0≠j)→(owF own k i o).getD j 0=o.getD j 0)
 |0,i,o,j,hj=>⟨fun q h1 h2=>by omega,fun _=>rfl⟩
 |k+1,i,o,j,hj=>by
  obtain ⟨g1,g2⟩:=owF_get k (i+1) (o.set (ordL.getD i 0) (own.getD (ordL.getD i 0) 0)) j (by rw [List.length_set];exact hj)
  rw [owF]
  by_cases h2:ordL.getD i 0=j
  ·have hv:(owF own k (i+1) (o.set (ordL.getD i 0) (own.getD (ordL.getD i 0) 0))).getD j 0=own.getD j 0:=by
    by_cases hq:∃q,i+1≤q∧q < i+1+k∧ordL.getD q 0=j
    ·obtain ⟨q,q1,q2,q3⟩:=hq
     exact g1 q q1 q2 q3
    ·rw [g2 (fun q q1 q2 q3=>hq ⟨q,q1,q2,q3⟩),h2]
     simp [List.getD,hj]
   exact ⟨fun q _ _ _=>hv,fun h=>absurd h2 (h i (by omega) (by omega))⟩
  ·refine ⟨fun q q1 q2 q3=>?_,fun h=>?_⟩
   ·have hne:q≠i:=fun hh=>h2 (by rw [←hh];exact q3)
    exact g1 q (by omega) (by omega) q3
   ·rw [g2 (fun q q1 q2=>h q (by omega) (by omega))]
    generalize ordL.getD i 0=oi at h2 ⊢
    simp only [List.getD_eq_getElem?_getD]
    rw [List.getElem?_set_ne h2]
theorem ord_all:∀j,j < 19→∃q,q < 19∧ordL.getD q 0=j:=by decide
theorem owF_own {own:List Nat} {n:Nat} (hl:own.length=19) (hn:n≤19) (hz:∀i,n≤i→i < 19→own.getD (ordL.getD i 0) 0=0):owF own n 0 (List.replicate 19 0)=own:=by
 refine List.ext_getElem (by rw [owF_length,hl];simp) fun j h1 h2=>?_
 obtain ⟨g1,g2⟩:=owF_get (own:=own) n 0 (List.replicate 19 0) j (by rw [List.length_replicate];omega)
 have e1:(owF own n 0 (List.replicate 19 0)).getD j 0=(owF own n 0 (List.replicate 19 0))[j]:=by rw [List.getD_eq_getElem?_getD,List.getElem?_eq_getElem h1];rfl
 have e2:own.getD j 0=own[j]:=by simp [List.getD,h2]
 rw [←e1,←e2]
 obtain ⟨q,q1,q2⟩:=ord_all j (by omega)
 by_cases hq:q < n
 ·exact g1 q (Nat.zero_le _) (by omega) q2
 ·by_cases hh:∃q',0≤q'∧q' < 0+n∧ordL.getD q' 0=j
  ·obtain ⟨q',r1,r2,r3⟩:=hh
   exact g1 q' r1 r2 r3
  ·rw [g2 (fun q' r1 r2 r3=>hh ⟨q',r1,r2,r3⟩)]
   have:=hz q (by omega) q1
   rw [q2] at this
   rw [this]
   have hj19:j < 19:=by omega
   rw [List.getD_eq_getElem?_getD,List.getElem?_replicate,if_pos hj19]
   rfl
theorem lc_at [W0] {d:List UInt8} {own:List Nat} {z:Nat} {s:S6} (hl:own.length=19) (h7:∀i,own.getD i 0≤7) (hk:kS own=32768) (hzz:z≤15) (hz:∀i,4+z≤i→i < 19→own.getD (ordL.getD i 0) 0=0) (he:s.e=0) (h:Bi d s.t ((z,4)::owI own (4+z) 0)) :
 lcS d s=(⟨s.t+itL ((z,4)::owI own (4+z) 0),s.out,0⟩,own):=by
 obtain ⟨h1,h2⟩:=Bi.cons h (show z < 2 ^ 4 by omega)
 obtain ⟨e1,e2⟩:=tk_at h1
 have e3:=ow_at (d:=d) h7 (4+z) 0 ⟨s.t+4,s.out,s.e⟩ (List.replicate 19 0) he h2
 rw [owF_own hl (by omega) hz] at e3
 unfold lcS
 rw [e1,e2,if_neg (fun hh=>hh he),e3,if_neg (show ¬(0:Nat)≠0 by decide),if_pos hk]
 rw [itL,owI_L]
 simp only [Nat.add_assoc]
def hdI [W0] (own:List Nat) (n1 n2 z:Nat) (rs:List Rl):List (Nat × Nat):=(n1 - 257,5)::(n2 - 1,5)::((z,4)::owI own (4+z) 0)++rsI own rs
structure HdOk (own:List Nat) (n1 n2 z:Nat) (rs:List Rl):Prop where
 n1a:257≤n1
 n1b:n1≤286
 n2a:1≤n2
 n2b:n2≤30
 ol:own.length=19
 o7:∀i,own.getD i 0≤7
 ok:kS own=32768
 zb:z≤15
 zz:∀i,4+z≤i→i < 19→own.getD (ordL.getD i 0) 0=0
 ro:rsOk own 0 rs
 rn:rsN rs=n1+n2
 e256:(rsW rs []).getD 256 0≠0
 kl:kS ((rsW rs []).take n1)=32768
 kd:kS ((rsW rs []).drop n1)=32768∨sgl ((rsW rs []).drop n1)=true
theorem HdOk.own {own:List Nat} {n1 n2 z:Nat} {rs:List Rl} (h:HdOk own n1 n2 z rs):Cok own:=⟨by rw [h.ok];exact Nat.le_refl _,fun x hx=>by
 obtain ⟨i,hi,rfl⟩:=List.getElem_of_mem hx
 have:=h.o7 i
 rw [show own.getD i 0=own[i] from by simp [List.getD,hi]] at this
 omega⟩
theorem hdI_lt [W0] {own:List Nat} {n1 n2 z:Nat} {rs:List Rl} (h:HdOk own n1 n2 z rs):∀x∈hdI own n1 n2 z rs,x.1 < 2 ^ x.2:=by
 intro x hx
 have b1:=h.n1b
 have b2:=h.n2b
 have b3:=h.zb
 rcases List.mem_append.1 hx with hx|hx
 ·simp only [List.mem_cons] at hx
  rcases hx with rfl|rfl|rfl|hx
  ·simp only;omega
  ·simp only;omega
  ·simp only;omega
  ·exact owI_lt h.o7 _ _ x hx
 ·exact rsI_lt h.ro x hx
theorem dy_at [W0] {d:List UInt8} {own:List Nat} {n1 n2 z:Nat} {rs:List Rl} {s:S6} (hh:HdOk own n1 n2 z rs) (he:s.e=0) (h:Bi d s.t (hdI own n1 n2 z rs)) :
 dyS d s=(⟨s.t+itL (hdI own n1 n2 z rs),s.out,0⟩,rsW rs [],n1):=by
 have b1:=hh.n1a
 have b2:=hh.n1b
 have b3:=hh.n2a
 have b4:=hh.n2b
 have b5:=hh.zb
 have hd2:hdI own n1 n2 z rs=(n1 - 257,5)::(n2 - 1,5)::(((z,4)::owI own (4+z) 0)++rsI own rs):=rfl
 rw [hd2] at h ⊢
 obtain ⟨h1,h⟩:=Bi.cons h (show n1 - 257 < 2 ^ 5 by omega)
 obtain ⟨h2,h⟩:=Bi.cons h (show n2 - 1 < 2 ^ 5 by omega)
 obtain ⟨h3,h4⟩:=Bi.app h (by
  intro x hx
  rcases List.mem_cons.1 hx with rfl|hx
  ·simp only;omega
  ·exact owI_lt hh.o7 _ _ x hx)
 obtain ⟨e1,e2⟩:=tk_at h1
 obtain ⟨e3,e4⟩:=tk_at (s:=⟨s.t+5,s.out,s.e⟩) h2
 have e5:=lc_at (s:=⟨s.t+5+5,s.out,s.e⟩) hh.ol hh.o7 hh.ok hh.zb hh.zz he h3
 simp only at e3 e4 e5
 have e6:=rs_at (m:=n1+n2) hh.own rs (n1+n2) ⟨s.t+5+5+itL ((z,4)::owI own (4+z) 0),s.out,0⟩ [] rfl hh.ro (by rw [hh.rn];simp) (by omega) h4
 have hk:dyK n1 (⟨s.t+5+5+itL ((z,4)::owI own (4+z) 0)+itL (rsI own rs),s.out,0⟩,rsW rs [])=(⟨s.t+5+5+itL ((z,4)::owI own (4+z) 0)+itL (rsI own rs),s.out,0⟩,rsW rs [],n1):=by
  unfold dyK
  rw [if_pos ⟨hh.e256,hh.kl,hh.kd⟩]
 unfold dyS
 rw [e1,e2,if_neg (fun q=>q he),if_neg (show ¬29 < n1 - 257 by omega),e3,e4,if_neg (fun q=>q he),if_neg (show ¬29 < n2 - 1 by omega),show 257+(n1 - 257)=n1 by omega,show 1+(n2 - 1)=n2 by omega]
 unfold dyT
 rw [e5,if_neg (show ¬(0:Nat)≠0 by decide),e6,if_neg (show ¬(0:Nat)≠0 by decide),hk]
 simp only [itL,itL_app,List.cons_append,Nat.add_assoc]
theorem fx_at [W0] {d:List UInt8} {most:Nat} {ts:List Tok} {s:S6} (he:s.e=0) (hf:ts.length≤8 * d.length) (hk:tsOk fxL fxD s.out.length ts) (hm:s.out.length+tsN ts≤most) (h:Bi d s.t (tsI fxL fxD ts++[sc fxL 256])) :
 bkS d most 1 s=⟨s.t+itL (tsI fxL fxD ts++[sc fxL 256]),tsW ts s.out,0⟩:=by
 unfold bkS
 rw [if_neg (by decide),if_pos rfl]
 exact block_at fxL_ok fxD_ok he (by omega) hk (by decide) hm h
theorem kd_le {l:List Nat} (h:kS l=32768∨sgl l=true):kS l≤32768:=by
 have hs:=kS_sum l
 rcases h with h|h
 ·omega
 ·rw [sgl_sum] at h
  have:=of_decide_eq_true h
  omega
theorem dn_at [W0] {d:List UInt8} {most:Nat} {own l dl:List Nat} {n1 n2 z:Nat} {rs:List Rl} {ts:List Tok} {s:S6} (hh:HdOk own n1 n2 z rs) (hl:(rsW rs []).take n1=l) (hdl:(rsW rs []).drop n1=dl) (h15:∀x∈rsW rs [],x≤15) (he:s.e=0) (hf:ts.length≤8 * d.length)
 (hk:tsOk l dl s.out.length ts) (hm:s.out.length+tsN ts≤most) (h:Bi d s.t (hdI own n1 n2 z rs++(tsI l dl ts++[sc l 256]))) :
 bkS d most 2 s=⟨s.t+itL (hdI own n1 n2 z rs++(tsI l dl ts++[sc l 256])),tsW ts s.out,0⟩:=by
 obtain ⟨h1,h2⟩:=Bi.app h (hdI_lt hh)
 have e1:=dy_at hh he h1
 unfold bkS dbS
 rw [if_neg (by decide),if_neg (by decide),e1,if_neg (show ¬(0:Nat)≠0 by decide),hl,hdl]
 have hcl:Cok l:=⟨by rw [←hl,hh.kl];exact Nat.le_refl _,fun x hx=>h15 x (by rw [←hl] at hx;exact List.mem_of_mem_take hx)⟩
 have hcd:Cok dl:=⟨by rw [←hdl];exact kd_le hh.kd,fun x hx=>h15 x (by rw [←hdl] at hx;exact List.mem_of_mem_drop hx)⟩
 have h256:0 < l.getD 256 0:=by
  have:=hh.e256
  have hb:=hh.n1a
  have hg:l.getD 256 0=(rsW rs []).getD 256 0:=by rw [←hl,List.getD_eq_getElem?_getD,List.getD_eq_getElem?_getD,List.getElem?_take,if_pos (by omega)]
  rw [hg];omega
 rw [block_at (s:=⟨s.t+itL (hdI own n1 n2 z rs),s.out,0⟩) hcl hcd rfl (by omega) hk h256 hm h2]
 simp only [itL_app,Nat.add_assoc]
theorem st_at [W0] {d p:List UInt8} {most a:Nat} {s:S6} (he:s.e=0) (ha:a=8 * ((s.t+7) / 8)) (hp:p.length < 65536) (hm:s.out.length+p.length≤most) (h:At d a (p.length+2 ^ 16 * ((65535 - p.length)+2 ^ 16 * val p)) (16+(16+8 * p.length))) :
 bkS d most 0 s=⟨a+32+8 * p.length,s.out++p,0⟩:=by
 obtain ⟨h1,h⟩:=h.split (show p.length < 2 ^ 16 by omega)
 obtain ⟨h2,h3⟩:=h.split (show 65535 - p.length < 2 ^ 16 by omega)
 obtain ⟨e1,e2⟩:=tk_at (s:=⟨a,s.out,s.e⟩) h1
 obtain ⟨e3,e4⟩:=tk_at (s:=⟨a+16,s.out,s.e⟩) h2
 simp only at e1 e2 e3 e4
 unfold bkS
 rw [if_pos rfl]
 unfold stS
 simp only
 rw [←ha,e1,e2,e3,e4,if_pos (show p.length+(65535 - p.length)=65535 by omega)]
 rw [stL_at d most p ⟨a+16+16,s.out,s.e⟩ he hm h3]
theorem rw_at [W0] {d:List UInt8} {most f h ty:Nat} {s s':S6} (he:s.e=0) (hh:h≤1) (ht:ty≤2) (ha:At d s.t (h+2 * ty) 3) (hb:bkS d most ty ⟨s.t+3,s.out,0⟩=s') (he':s'.e=0) :
 rwS d most (f+1) s=if h=1 then s' else rwS d most f s':=by
 obtain ⟨e1,e2⟩:=tk_at ha
 rw [rwS,e1,e2,if_neg (fun q=>q he),if_neg (show ¬5 < h+2 * ty by omega),he,show (h+2 * ty) / 2=ty by omega,hb,if_neg (fun q=>q he')]
 by_cases h1:h=1
 ·rw [if_pos h1,if_pos (by omega)]
 ·rw [if_neg h1,if_neg (by omega)]
theorem bi_all [W0] {a:List (Nat × Nat)} (h:∀x∈a,x.1 < 2 ^ x.2) (x:List UInt8):Bi (leB (itV a) ((itL a+7) / 8)++x) 0 a:=by
 have h0:=at_all h
 obtain ⟨h1,h2⟩:=h0
 have hb:itL a≤8 * (leB (itV a) ((itL a+7) / 8)).length:=by omega
 refine ⟨?_,by rw [List.length_append];omega⟩
 rw [val_append,Nat.pow_zero,Nat.div_one]
 rw [Nat.pow_zero,Nat.div_one] at h1
 obtain ⟨k,hk⟩:∃k,8 * (leB (itV a) ((itL a+7) / 8)).length=itL a+k:=⟨_,(Nat.add_sub_cancel' hb).symm⟩
 rw [hk,Nat.pow_add,Nat.mul_assoc,Nat.add_mul_mod_self_left]
 exact h1
end Go.Df
namespace Go.Vx
open Go Go.WideMaps
variable [W0]
set_option linter.all false
omit [W0] in
def kv3 (l:List UInt8):Value:=.agg (bsv l).toArray
omit [W0] in
class KA (P:Program) (k:Nat) (e:outParam Nat):Prop where
 arr:ArrKey P k e 3
 byte:P.underlying e=some (.int .u8)
 pos:∃m,P.types.size=m+1
omit [W0] in
theorem bsv_inj:∀{a b:List UInt8},bsv a=bsv b→a=b
 |[],[],_=>rfl
 |[],_::_,h=>by simp [bsv] at h
 |_::_,[],h=>by simp [bsv] at h
 |x::a,y::b,h=>by
  simp only [bsv,List.map_cons,List.cons.injEq,Value.int.injEq,true_and] at h
  have h1:x.toNat=y.toNat:=by omega
  rw [UInt8.toNat_inj.1 h1,bsv_inj h.2]
omit [W0] in
theorem kv3_inj {a b:List UInt8} (h:kv3 a=kv3 b):a=b:=by
 unfold kv3 at h
 simp only [Value.agg.injEq] at h
 exact bsv_inj (by simpa using congrArg Array.toList h)
omit [W0] in
theorem byte_wf (x:UInt8):(Lit.int .u8 (x.toNat:Int)).wf=true:=by
 have:=x.toNat_lt
 simp [Lit.wf,IntKind.wrap,IntKind.bits,IntKind.signed,IntKind.min,IntKind.max]
 omega
omit [W0] in
theorem KA.key {P:Program} {k e:Nat} (h:KA P k e) {l:List UInt8} (hl:l.length=3):∃q,keyOf P k (kv3 l)=some q:=by
 match l,hl with
 |[a,b,c],_=>
  obtain ⟨m,hm⟩:=h.pos
  have hk:=h.arr.keyType ⟨m,hm⟩
  have h1:∀(x:UInt8) (D:Nat),P.keyLits (D+1) e [.int .u8 (x.toNat:Int)]=some [.int .u8 (x.toNat:Int)]:=fun x D=>by
   unfold Program.keyLits
   rw [h.byte]
   simp only [byte_wf,and_self,if_true]
  have h2:P.keyLits (P.types.size+1) k [.int .u8 (a.toNat:Int),.int .u8 (b.toNat:Int),.int .u8 (c.toNat:Int)]=some [.int .u8 (a.toNat:Int),.int .u8 (b.toNat:Int),.int .u8 (c.toNat:Int)]:=by
   rw [hm]
   unfold Program.keyLits
   rw [h.arr.hu]
   simp only [h.arr.size,h.arr.one]
   rw [if_pos (by rfl)]
   simp only [List.range_succ,List.range_zero,List.nil_append,List.cons_append,List.mapM_cons,List.mapM_nil,List.drop,List.take,Nat.zero_mul,Nat.one_mul,Nat.mul_one,h1]
   rfl
  unfold keyOf
  rw [h.arr.hu]
  have hf:(kv3 [a,b,c]).formed P k=true:=by
   unfold kv3 Value.formed
   simp only [h.arr.hu,h.arr.size]
   rfl
  have hc:(kv3 [a,b,c]).cells.toList=[.int .u8 (a.toNat:Int),.int .u8 (b.toNat:Int),.int .u8 (c.toNat:Int)]:=by simp [kv3,bsv,Value.cells]
  simp only [hk,hf,hc,h2,Bool.and_self,if_true,Option.map_some]
  exact ⟨_,rfl⟩
omit [W0] in
structure MpR (es:Array MapEntry) (g:List UInt8→Option Nat):Prop where
 ent:∀e∈es.toList,∃l m,l.length=3∧e.key=kv3 l∧e.val=.int .i64 ((m:Nat):Int)∧g l=some m
 has:∀l m,l.length=3→g l=some m→∃e∈es.toList,e.key=kv3 l
 one:∀(i j:Nat) (e f:MapEntry),es[i]? =some e→es[j]? =some f→e.key=f.key→i=j
omit [W0] in
theorem MpR.nil:MpR #[] (fun _=>none):=⟨fun e h=>by simp at h,fun l m _ h=>by simp at h,fun i j e f h=>by simp at h⟩
omit [W0] in
def ups (g:List UInt8→Option Nat) (l:List UInt8) (m:Nat):List UInt8→Option Nat:=fun q=>if q=l then some m else g q
omit [W0] in
theorem MpR.find {P:Program} {k e:Nat} (hk:KA P k e) {es:Array MapEntry} {g:List UInt8→Option Nat} (h:MpR es g) {l:List UInt8} (hl:l.length=3) (w:World) :
 (g l=none∧(Instr.findKey k (kv3 l) es.toList).run P w=.ok none w∧∀x∈es.toList,x.key≠kv3 l)∨
 ∃m j x,g l=some m∧(Instr.findKey k (kv3 l) es.toList).run P w=.ok (some (j,.int .i64 ((m:Nat):Int))) w∧es[j]? =some x∧x.key=kv3 l:=by
 obtain ⟨q,hq⟩:=hk.key hl
 have hall:∀x∈es.toList,∃y,keyOf P k x.key=some y:=fun x hx=>by
  obtain ⟨l',m',h1,h2,_⟩:=h.ent x hx
  rw [h2]
  exact hk.key h1
 rcases hk.arr.law.find w hq es.toList hall with ⟨h1,h2⟩|⟨j,x,h1,h2,h3⟩
 ·left
  refine ⟨?_,h1,h2⟩
  cases hg:g l with
  |none=>rfl
  |some m=>
   obtain ⟨x,hx,hxk⟩:=h.has l m hl hg
   exact absurd hxk (h2 x hx)
 ·right
  have hx:x∈es.toList:=List.mem_of_getElem? h2
  obtain ⟨l',m,g1,g2,g3,g4⟩:=h.ent x hx
  rw [h3] at g2
  have e:=kv3_inj g2
  subst e
  exact ⟨m,j,x,g4,by rw [h1,g3],by simpa using h2,h3⟩
section
variable {P : Program} {n : Nat} {Q : Exit → Act → World → Prop} {M : List (Nat × Value)} {L : List Chunk} {K : List (Nat × Value) → List Chunk → Prop}
variable {d : Nat} {ty : TypeId} {ps : String} {af : Array Edge} {g : Option (Nat × Bool)} {x y z : Operand} {v : Value}
theorem OW_makeMap {t:Nat} (hn:Nat.blt d n=true) (h:∀b,K ((d,.map (some b))::M) ([(b,.map #[] 0)]::L)):OW P n ⟨some d,.makeMap t none,ty,ps,af,g⟩ K M L:=
 OW_newval (f:=fun b=>.map (some b)) rfl hn (fun a w ha hw=>by
  simp only [execOp,Option.map_none,Sem.run_bind,show (Instr.makeMap t none).run P w=.ok (.map (some w.heap.size)) (w.alloc (.map #[] 0)) from rfl,Result.andThen_ok,Sem.run_pure]) h
theorem EV_look3 {mt kt et e b c:Nat} {es:Array MapEntry} {f:List UInt8→Option Nat} {l:List UInt8} (hm:P.underlying mt=some (.map kt et)) [hz:ZV P et (.int .i64 0)] [hk:KA P kt e] (hx:ev M x=some (.map (some b))) (hy:ev M y=some (kv3 l)) (hl:l.length=3)
 (hf:Fnd L b (.map es c)) (hr:MpR es f):EV P n ⟨some d,.lookup mt x y true,ty,ps,af,g⟩ M L d (.tuple #[.int .i64 (((f l).getD 0:Nat):Int),.bool (f l).isSome]):=
 ⟨rfl,fun a w ha hw=>by
   obtain ⟨q,hq⟩:=hk.key hl
   have hb:=hf.get hw
   have hc:=hk.arr.law.check w es.isEmpty hq
   simp only [execOp,ha.eval hx,ha.eval hy,Instr.lookup,Sem.run_bind,run_underlying hm,Go.MapKept.run_getObj_map hb,Result.andThen_ok,Sem.run_pure,hc]
   rcases hr.find hk hl w with ⟨h1,h2,_⟩|⟨m,j,x,h1,h2,_⟩
   ·simp only [h2,h1,Result.andThen_ok,Sem.run_bind,zero_run hz.out,Sem.run_pure]
    rfl
   ·simp only [h2,h1,Result.andThen_ok,Sem.run_bind,Sem.run_pure]
    rfl⟩
omit [W0] in
theorem getMod (es:Array MapEntry) (j:Nat) (f:MapEntry→MapEntry) (i:Nat):(es.modify j f)[i]? =if j=i then (es[i]?).map f else es[i]? :=by
 rw [Array.getElem?_modify]
omit [W0] in
theorem MpR.push {es:Array MapEntry} {f:List UInt8→Option Nat} (h:MpR es f) {l:List UInt8} (hl:l.length=3) (m c:Nat) (hno:∀x∈es.toList,x.key≠kv3 l) :
 MpR (es.push { key:=kv3 l,val:=.int .i64 ((m:Nat):Int),born:=c }) (ups f l m):=by
 refine ⟨fun e he=>?_,fun q r hq hr=>?_,fun i j e e' hi hj hk=>?_⟩
 ·simp only [Array.toList_push,List.mem_append,List.mem_singleton] at he
  rcases he with he|rfl
  ·obtain ⟨l',m',h1,h2,h3,h4⟩:=h.ent e he
   refine ⟨l',m',h1,h2,h3,?_⟩
   unfold ups
   rw [if_neg (fun hh=>hno e he (by rw [h2,hh]))]
   exact h4
  ·exact ⟨l,m,hl,rfl,rfl,by unfold ups;rw [if_pos rfl]⟩
 ·unfold ups at hr
  split at hr
  ·rename_i hh
   exact ⟨_,by simp only [Array.toList_push,List.mem_append,List.mem_singleton];exact .inr rfl,by rw [hh]⟩
  ·obtain ⟨e,he,hk⟩:=h.has q r hq hr
   exact ⟨e,by simp only [Array.toList_push,List.mem_append];exact .inl he,hk⟩
 ·rw [Array.getElem?_push] at hi hj
  have hnew:∀(i:Nat) (e:MapEntry),es[i]? =some e→e.key≠kv3 l:=fun i e hi=>hno e (List.mem_of_getElem? (by simpa using hi))
  split at hi<;>split at hj
  ·omega
  ·cases hi
   exact absurd hk.symm (hnew j e' hj)
  ·cases hj
   exact absurd hk (hnew i e hi)
  ·exact h.one i j e e' hi hj hk
omit [W0] in
def eset (l:List UInt8) (m:Nat) (e:MapEntry):MapEntry:={ e with key:=kv3 l,val:=.int .i64 ((m:Nat):Int) }
omit [W0] in
theorem MpR.mod {es:Array MapEntry} {f:List UInt8→Option Nat} (h:MpR es f) {l:List UInt8} (hl:l.length=3) (m:Nat) {j:Nat} {x:MapEntry} (hj:es[j]? =some x) (hx:x.key=kv3 l) :
 MpR (es.modify j (eset l m)) (ups f l m):=by
 have hg:∀(i:Nat) (e:MapEntry),(es.modify j (eset l m))[i]? =some e→∃e0:MapEntry,es[i]? =some e0∧e.key=e0.key∧((i=j∧e.key=kv3 l∧e.val=.int .i64 ((m:Nat):Int))∨(i≠j∧e=e0)):=by
  intro i e hi
  rw [getMod] at hi
  split at hi
  ·rename_i hh
   subst hh
   rw [hj] at hi
   simp only [Option.map_some,Option.some.injEq] at hi
   subst hi
   exact ⟨x,hj,hx.symm,.inl ⟨rfl,rfl,rfl⟩⟩
  ·exact ⟨e,hi,rfl,.inr ⟨fun hh=>by omega,rfl⟩⟩
 refine ⟨fun e he=>?_,fun q r hq hr=>?_,fun i i' e e' hi hi' hk=>?_⟩
 ·obtain ⟨i,hi⟩:=List.getElem?_of_mem he
  obtain ⟨e0,g1,g2,g3⟩:=hg i e (by rw [←Array.getElem?_toList];exact hi)
  rcases g3 with ⟨rfl,g4,g5⟩|⟨g4,rfl⟩
  ·exact ⟨l,m,hl,g4,g5,by unfold ups;rw [if_pos rfl]⟩
  ·obtain ⟨l',m',h1,h2,h3,h4⟩:=h.ent e (List.mem_of_getElem? (by rw [Array.getElem?_toList];exact g1))
   refine ⟨l',m',h1,h2,h3,?_⟩
   unfold ups
   rw [if_neg (fun hh=>g4 (h.one i j e x g1 hj (by rw [h2,hx,hh])))]
   exact h4
 ·unfold ups at hr
  have hin:∀(i:Nat) (e:MapEntry),es[i]? =some e→∃e'∈(es.modify j (eset l m)).toList,e'.key=e.key:=by
   intro i e hi
   have hgm:=getMod es j (eset l m) i
   by_cases hh:j=i
   ·subst hh
    rw [hj] at hi
    cases hi
    rw [if_pos rfl,hj] at hgm
    exact ⟨eset l m x,List.mem_of_getElem? (i:=j) (by rw [Array.getElem?_toList];exact hgm),hx.symm⟩
   ·rw [if_neg hh,hi] at hgm
    exact ⟨e,List.mem_of_getElem? (i:=i) (by rw [Array.getElem?_toList];exact hgm),rfl⟩
  split at hr
  ·rename_i hh
   obtain ⟨e',h1,h2⟩:=hin j x hj
   exact ⟨e',h1,by rw [h2,hx,hh]⟩
  ·obtain ⟨e,he,hk⟩:=h.has q r hq hr
   obtain ⟨i,hi⟩:=List.getElem?_of_mem he
   obtain ⟨e',h1,h2⟩:=hin i e (by rw [←Array.getElem?_toList];exact hi)
   exact ⟨e',h1,by rw [h2,hk]⟩
 ·obtain ⟨e0,g1,g2,_⟩:=hg i e hi
  obtain ⟨e1,g3,g4,_⟩:=hg i' e' hi'
  exact h.one i i' e0 e1 g1 g3 (by rw [←g2,←g4,hk])
omit [W0] in
def MpD (b:Nat) (f:List UInt8→Option Nat) (C:Chunk):Prop:=∃es c,C=[(b,.map es c)]∧MpR es f
theorem EV_mlook {mt kt et e b:Nat} {f:List UInt8→Option Nat} {l:List UInt8} {C:Chunk} (hm:P.underlying mt=some (.map kt et)) [hz:ZV P et (.int .i64 0)] [hk:KA P kt e] (hx:ev M x=some (.map (some b))) (hy:ev M y=some (kv3 l)) (hl:l.length=3)
 (hr:MpD b f C) (hi:Inc [C] L):EV P n ⟨some d,.lookup mt x y true,ty,ps,af,g⟩ M L d (.tuple #[.int .i64 (((f l).getD 0:Nat):Int),.bool (f l).isSome]):=by
 obtain ⟨es,c,rfl,hr⟩:=hr
 obtain ⟨R,hp⟩:=hi
 exact EV_look3 hm hx hy hl (Fnd.perm .here hp.symm) hr
theorem OW_mapUp {mt kt et e b m:Nat} {f:List UInt8→Option Nat} {l:List UInt8} {C:Chunk} {A B:List Chunk} (hm:P.underlying mt=some (.map kt et)) [hk:KA P kt e] (hx:ev M x=some (.map (some b))) (hy:ev M y=some (kv3 l)) (hl:l.length=3) (hv:ev M z=some (.int .i64 ((m:Nat):Int)))
 (hr:MpD b f C) (hzip:Zip C L A B) (h:∀C',MpD b (ups f l m) C'→K M (A++C'::B)):OW P n ⟨none,.mapUpdate mt x y z,ty,ps,af,g⟩ K M L:=⟨fun a w next Q ha hw hk'=>by
 obtain ⟨es,c,rfl,hr⟩:=hr
 have hL:=hzip.eq
 subst hL
 have hw':=hw.perm List.perm_middle
 have hb:w.heap[b]? =some (.map es c):=(Fnd.here (L:=A++B)).get hw'
 have hlt:b < w.heap.size:=by
  rcases Nat.lt_or_ge b w.heap.size with h'|h'
  ·exact h'
  ·simp [Array.getElem?_eq_none h'] at hb
 obtain ⟨q,hq⟩:=hk.key hl
 have hc:=hk.arr.law.check w false hq
 have hst:=hk.arr.law.stays w hq
 obtain ⟨es',c',hr',hrun⟩:∃es' c',MpR es' (ups f l m)∧(execOp a.eval ⟨none,.mapUpdate mt x y z,ty,ps,af,g⟩).run P w=.ok .skip { w with heap:=w.heap.setIfInBounds b (.map es' c') }:=by
  rcases hr.find hk hl w with ⟨h1,h2,h3⟩|⟨m0,j,e0,h1,h2,h3,h4⟩
  ·refine ⟨_,c+1,hr.push hl m c h3,?_⟩
   simp only [execOp,ha.eval hx,ha.eval hy,ha.eval hv,Instr.mapUpdate,Sem.run_bind,run_underlying hm,Go.MapKept.run_getObj_map hb,Result.andThen_ok,Sem.run_pure,hc,h2,Go.MapKept.run_setObj_map _ hb]
  ·refine ⟨_,c,hr.mod hl m h3 h4,?_⟩
   simp only [execOp,ha.eval hx,ha.eval hy,ha.eval hv,Instr.mapUpdate,Sem.run_bind,run_underlying hm,Go.MapKept.run_getObj_map hb,Result.andThen_ok,Sem.run_pure,hc,h2,h3,Option.map_some,Option.getD_some,h4,hst,Go.MapKept.run_setObj_map _ hb]
   rfl
 unfold Oper.wp
 rw [hrun,Oper.upon_skip]
 refine (hk' _ _ (h [(b,.map es' c')] ⟨es',c',rfl,hr'⟩)).out _ _ ha (Holds.perm (L:=[(b,.map es' c')]::(A++B)) ?_ List.perm_middle.symm)
 refine hw'.upd Upd.front ?_ (fun c2 hc2=>?_) rfl rfl
 ·show (w.heap.setIfInBounds b _)[b]? =_
  rw [Array.getElem?_setIfInBounds_self_of_lt hlt]
 ·show (w.heap.setIfInBounds b _)[c2]? =_
  rw [Array.getElem?_setIfInBounds_ne (fun hh=>hc2 hh.symm)]⟩
theorem EV_toArr {t e len k:Nat} [hs:AR P t e len k] {a0:Addr} {m cap:Nat} (hx:ev M x=some (.slice (some a0) m cap)) (hm:len≤m):EV P n ⟨some d,.sliceToArrayPointer t x,ty,ps,af,g⟩ M L d (.pointer (some a0)):=
 ⟨rfl,fun a w ha _=>by
   obtain ⟨hu,_⟩:=hs.parts
   have:¬m < len:=by omega
   simp [execOp,ha.eval hx,Instr.arrayAt,run_underlying hu,this]⟩
omit [W0] in
theorem rd_take {L:List Chunk} {a:Addr} {xs:List Value} (h:RdAt L a xs) (k:Nat):RdAt L a (xs.take k):=by
 rcases h with h0|⟨b,off,cc,TT,fr,h1,h2,h3⟩
 ·exact .inl (by rw [h0];simp)
 ·refine .inr ⟨b,off,cc,TT,fr,h1,h2,fun j u hj=>?_⟩
  rw [List.getElem?_take] at hj
  split at hj
  ·exact h3 _ _ hj
  ·cases hj
omit [W0] in
structure Rs (L:List Chunk) (k:Nat) (v:Value) (m:Nat) (xs:List Value):Prop where
 sl:Sl L k v m xs
 room:∃a c,v=.slice a m c∧m≤c
theorem Rs.sub {L L':List Chunk} (hs:∀x∈L.flatten,x∈L'.flatten) {k m:Nat} {v:Value} {xs:List Value} (h:Rs L k v m xs):Rs L' k v m xs:=⟨sl_sub hs h.sl,h.room⟩
theorem Rs.there {L:List Chunk} {C:Chunk} {k m:Nat} {v:Value} {xs:List Value} (h:Rs L k v m xs):Rs (C::L) k v m xs:=⟨sl_there h.sl,h.room⟩
theorem Rs.ow {e k m:Nat} {v:Value} {xs:List Value} {C:Chunk} {L:List Chunk} (h:Ow e k v m xs C):Rs (C::L) k v m xs:=by
 refine ⟨ow_sl h,?_⟩
 rcases h with ⟨rfl,rfl,_⟩|⟨b,cap,rest,rfl,_,_,_,hmc,_⟩
 ·exact ⟨_,_,rfl,Nat.le_refl _⟩
 ·exact ⟨_,_,rfl,hmc⟩
theorem Rs.one {L:List Chunk} {k m:Nat} {v:Value} {xs:List Value} (h:Rs L k v m xs):v.oneCell'=true:=by obtain ⟨a,c,rfl,_⟩:=h.room;rfl
theorem Rs.nil {L:List Chunk} {k:Nat}:Rs L k (.slice none 0 0) 0 []:=⟨.inl ⟨0,rfl,rfl,rfl⟩,none,0,rfl,Nat.le_refl _⟩
theorem Rs.len {L:List Chunk} {k m:Nat} {v:Value} {xs:List Value} (h:Rs L k v m xs):xs.length=m * k:=by
 rcases h.sl with ⟨c,rfl,rfl,rfl⟩|⟨a,cap,rfl,_,hl⟩
 ·simp
 ·exact hl
theorem EV_sliceRs {P:Program} {T e k by_:Nat} [hs:SL P T e k by_] {v:Value} {m:Nat} {xs:List Value} {L0:List Chunk} (hO:Rs L0 k v m xs) {l h:Nat} (h1:l≤h) (h2:h≤m) :
 ∃r,Rs L0 k r (h - l) ((xs.drop (l * k)).take ((h - l) * k))∧∀{n:Nat} {M:List (Nat × Value)} {L:List Chunk} {d:Nat} {ty:TypeId} {ps:String} {af:Array Edge} {g:Option (Nat × Bool)} {x:Operand} {lo hi:Option Operand},
  ev M x=some v→bnd M lo 0=some (l:Int)→bnd M hi m=some (h:Int)→EV P n ⟨some d,.slice T x lo hi none,ty,ps,af,g⟩ M L d r:=by
 obtain ⟨a,c,rfl,hmc⟩:=hO.room
 have hlen:=hO.len
 refine ⟨.slice (if c=l then a else a.map (·.add (l * k))) (h - l) (c - l),⟨?_,_,_,rfl,by omega⟩,?_⟩
 ·rcases hO.sl with ⟨c',hv,rfl,rfl⟩|⟨a',cap,hv,hr,hl⟩
  ·cases hv
   refine .inl ⟨c - l,?_,by omega,by simp⟩
   rw [show h - l=0 from by omega]
   split<;>rfl
  ·cases hv
   refine .inr ⟨if c=l then a' else a'.add (l * k),c - l,by split<;>rfl,?_,?_⟩
   ·rcases hr with h0|⟨b,off,cc,TT,fr,rfl,hf,hc⟩
    ·subst h0
     exact .inl (by simp)
    ·by_cases hcl:c=l
     ·rw [if_pos hcl]
      refine .inl ?_
      rw [show h - l=0 from by omega,Nat.zero_mul,List.take_zero]
     ·rw [if_neg hcl,addr_add]
      refine .inr ⟨b,off+l * k,cc,TT,fr,rfl,hf,fun j u hj=>?_⟩
      rw [List.getElem?_take] at hj
      split at hj
      ·rw [List.getElem?_drop] at hj
       rw [Nat.add_assoc]
       exact hc _ _ hj
      ·cases hj
   ·rw [List.length_take,List.length_drop,hlen]
    have:(h - l) * k≤m * k - l * k:=by rw [←Nat.sub_mul];exact Nat.mul_le_mul_right k (by omega)
    omega
 ·intro n M L d ty ps af g x lo hi hx hl hh
  exact ⟨rfl,fun a' w ha _=>by
   obtain ⟨hu,i',hi',hk',_,hk0⟩:=hs.parts
   simp [execOp,ha.eval hx,Instr.sliceAt,Instr.slice,underlying,hu,sliceBounds_run ha hl hh h1 (show h≤c by omega),sizeOf,typeInfo,hi',hk']⟩
end
end Go.Vx
namespace Go.Vx
theorem Inc.mem [W0] {S L:List Chunk} (h:Inc S L):∀x∈S.flatten,x∈L.flatten:=by
 obtain ⟨R,hp⟩:=h
 intro x hx
 exact hp.flatten.mem_iff.2 (by rw [List.flatten_append];exact List.mem_append_left _ hx)
theorem iM [W0] {S L:List Chunk} (h:Inc S L:=by exact (by repeat (first|exact Inc.refl|exact Inc.nil|(show Inc (_::_) _;refine Inc.cons (by repeat (first|exact Take.here|apply Take.there)) ?_)|refine Inc.skip ?_))):∀x∈S.flatten,x∈L.flatten:=h.mem
end Go.Vx
namespace Go.Df
open Go.Vx Go.If
set_option linter.all false
def lenB (v:Nat):Nat:=if v=0 then 0 else Nat.log2 v+1
def plF (v st:Nat):Nat:=st * (lenB (v / st) - 1)+v / 2 ^ (lenB (v / st) - 1)
def olN (n:Nat):Nat:=if n=258 then 285 else 257+plF (n - 3) 4
def odN (d:Nat):Nat:=plF (d - 1) 2
theorem lenB_b {v k:Nat} (h1:2 ^ k≤v) (h2:v < 2 ^ (k+1)):lenB v=k+1:=by
 have h0:v≠0:=by have:0 < 2 ^ k:=Nat.pow_pos (by decide);omega
 unfold lenB
 rw [if_neg h0,show Nat.log2 v=k from (Nat.log2_eq_iff h0).2 ⟨h1,h2⟩]
theorem pl_sp {v st:Nat} (hs:1≤st):spF (plF v st) st≤v∧v - spF (plF v st) st < 2 ^ spX (plF v st) st:=by
 by_cases h0:v / st=0
 ·have hv:v < st:=by
   rcases Nat.lt_or_ge v st with h|h
   ·exact h
   ·have:1≤v / st:=(Nat.le_div_iff_mul_le (by omega)).2 (by omega)
    omega
  have e:plF v st=v:=by unfold plF lenB;rw [if_pos h0];simp
  unfold spF spX
  rw [e,if_pos (by omega),if_pos (by omega)]
  simp
 ·obtain ⟨k,hk⟩:∃k,k=Nat.log2 (v / st):=⟨_,rfl⟩
  have hlb:lenB (v / st) - 1=k:=by unfold lenB;rw [if_neg h0,hk];rfl
  have h1:=(Nat.log2_eq_iff h0).1 hk.symm
  have a1:2 ^ k * st≤v:=(Nat.le_div_iff_mul_le (by omega)).1 h1.1
  have a2:v < 2 ^ (k+1) * st:=(Nat.div_lt_iff_lt_mul (by omega)).1 h1.2
  have hp:0 < 2 ^ k:=Nat.pow_pos (by decide)
  have b1:st≤v / 2 ^ k:=(Nat.le_div_iff_mul_le hp).2 (by rw [Nat.mul_comm];exact a1)
  have b2:v / 2 ^ k < 2 * st:=(Nat.div_lt_iff_lt_mul hp).2 (by rw [Nat.pow_succ] at a2;rw [show 2 * st * 2 ^ k=2 ^ k * 2 * st from by rw [Nat.mul_comm (2 * st),Nat.mul_assoc]];exact a2)
  obtain ⟨m,hm⟩:∃m,m=v / 2 ^ k - st:=⟨_,rfl⟩
  have e:plF v st=st * k+(st+m):=by unfold plF;rw [hlb,hm];omega
  have hmod:=Nat.div_add_mod v (2 ^ k)
  have hml:=Nat.mod_lt v hp
  have hvk:v / 2 ^ k=st+m:=by omega
  rw [hvk] at hmod
  unfold spF spX
  rw [e]
  by_cases hk0:k=0
  ·subst hk0
   rw [if_pos (by omega),if_pos (by omega)]
   simp only [Nat.mul_zero,Nat.zero_add,Nat.pow_zero,Nat.one_mul] at hmod hml ⊢
   omega
  ·have h2:¬st * k+(st+m) < 2 * st:=by
    have:st * 1≤st * k:=Nat.mul_le_mul_left _ (by omega)
    omega
   have hmst:m < st:=by omega
   have e1:(st * k+(st+m)) / st=k+1:=by
    rw [show st * k+(st+m)=m+st * (k+1) from by rw [Nat.mul_add,Nat.mul_one];omega,Nat.add_mul_div_left _ _ (by omega),Nat.div_eq_of_lt hmst]
    omega
   have e2:(st * k+(st+m)) % st=m:=by
    rw [show st * k+(st+m)=m+st * (k+1) from by rw [Nat.mul_add,Nat.mul_one];omega,Nat.add_mul_mod_self_left,Nat.mod_eq_of_lt hmst]
   rw [if_neg h2,if_neg h2,e1,e2,show k+1 - 1=k from rfl,Nat.mul_comm]
   omega
theorem plF_mono_b {v st k:Nat} (hs:1≤st) (h:v < 2 ^ k * st) (hk:1≤k):plF v st < st * (k+1):=by
 by_cases h0:v / st=0
 ·have hv:v < st:=by
   rcases Nat.lt_or_ge v st with h|h
   ·exact h
   ·have:1≤v / st:=(Nat.le_div_iff_mul_le (by omega)).2 (by omega)
    omega
  have e:plF v st=v:=by unfold plF lenB;rw [if_pos h0];simp
  rw [e]
  have:st * 1≤st * (k+1):=Nat.mul_le_mul_left _ (by omega)
  omega
 ·obtain ⟨j,hj⟩:∃j,j=Nat.log2 (v / st):=⟨_,rfl⟩
  have hlb:lenB (v / st) - 1=j:=by unfold lenB;rw [if_neg h0,hj];rfl
  have h1:=(Nat.log2_eq_iff h0).1 hj.symm
  have a1:2 ^ j * st≤v:=(Nat.le_div_iff_mul_le (by omega)).1 h1.1
  have a2:v < 2 ^ (j+1) * st:=(Nat.div_lt_iff_lt_mul (by omega)).1 h1.2
  have hp:0 < 2 ^ j:=Nat.pow_pos (by decide)
  have b2:v / 2 ^ j < 2 * st:=(Nat.div_lt_iff_lt_mul hp).2 (by rw [Nat.pow_succ] at a2;rw [show 2 * st * 2 ^ j=2 ^ j * 2 * st from by rw [Nat.mul_comm (2 * st),Nat.mul_assoc]];exact a2)
  have hjk:j < k:=by
   rcases Nat.lt_or_ge j k with h'|h'
   ·exact h'
   ·have:2 ^ k≤2 ^ j:=Nat.pow_le_pow_right (by decide) h'
    have:=Nat.mul_le_mul_right st this
    omega
  have h3:st * j≤st * (k - 1):=Nat.mul_le_mul_left _ (by omega)
  have h4:st * (k+1)=st * (k - 1)+2 * st:=by
   rw [show k+1=(k - 1)+2 from by omega,Nat.mul_add];omega
  unfold plF
  rw [hlb]
  omega
theorem olN_ok {n:Nat} (h3:3≤n) (h:n≤258):257≤olN n∧olN n≤285∧(lnB (olN n)).1≤n∧n - (lnB (olN n)).1 < 2 ^ (lnB (olN n)).2:=by
 have:∀n,n < 259→3≤n→257≤olN n∧olN n≤285∧(lnB (olN n)).1≤n∧n - (lnB (olN n)).1 < 2 ^ (lnB (olN n)).2:=by decide+kernel
 exact this n (by omega) h3
theorem odN_ok {d:Nat} (h1:1≤d) (h:d≤32768):odN d≤29∧baB 1 2 4 (odN d)≤d∧d - baB 1 2 4 (odN d) < 2 ^ exB (odN d) 2 4:=by
 have hb:odN d < 2 * (14+1):=plF_mono_b (v:=d - 1) (st:=2) (k:=14) (by decide) (by omega) (by decide)
 have hp:=pl_sp (v:=d - 1) (st:=2) (by decide)
 have hs:=sp_dst (odN d) (by omega)
 have hp':spF (odN d) 2≤d - 1∧d - 1 - spF (odN d) 2 < 2 ^ spX (odN d) 2:=hp
 rw [hs.2] at hp'
 rw [←hs.1]
 exact ⟨by omega,by omega,by omega⟩
theorem tabQ (s:ByteArray) (h:(List.range 256).all (fun i=>s[i]? == some (UInt8.ofNat (lenB i)))=true) {w:Nat} (hw:w < 256):s[w]? =some (UInt8.ofNat (lenB w)):=by
 rw [List.all_eq_true] at h
 have:=h w (by simpa using hw)
 simpa using this
theorem lenB_le:∀w,w < 256→lenB w≤8:=by decide+kernel
theorem lenB_256 {v:Nat} (h1:256≤v) (h2:v < 65536):lenB v=8+lenB (v / 256):=by
 have h0:v / 256≠0:=by omega
 have h3:=(Nat.log2_eq_iff h0).1 rfl
 obtain ⟨k,hk⟩:∃k,k=Nat.log2 (v / 256):=⟨_,rfl⟩
 rw [←hk] at h3
 have e1:lenB (v / 256)=k+1:=lenB_b h3.1 h3.2
 have a1:2 ^ k * 256≤v:=(Nat.le_div_iff_mul_le (by decide)).1 h3.1
 have a2:v < 2 ^ (k+1) * 256:=(Nat.div_lt_iff_lt_mul (by decide)).1 h3.2
 have e2:lenB v=k+8+1:=lenB_b (by rw [Nat.pow_add];exact a1) (by rw [show k+8+1=(k+1)+8 from by omega,Nat.pow_add];exact a2)
 omega
end Go.Df
namespace Go.Vx
variable [W0] {P : Program} {n : Nat} {M : List (Nat × Value)} {L : List Chunk} {d : Nat} {ty : TypeId} {ps : String} {af : Array Edge} {g : Option (Nat × Bool)} {x y : Operand}
theorem EV_shrN {t u:TypeId} {k k':IntKind} {a s:Nat} (hx:ev M x=some (.int k (a:Int))) (hy:ev M y=some (.int k' (s:Int))) (hs:s≤k.bits) :
 EV P n ⟨some d,.binOp .shr t x y u,ty,ps,af,g⟩ M L d (.int k ((a / 2 ^ s:Nat):Int)):=by
 refine EV_shr hx hy (by omega) ?_
 rw [Int.toNat_natCast,Nat.min_eq_left hs,Int.fdiv_eq_ediv_of_nonneg _ (by exact Int.le_of_lt (Int.pow_pos (by decide)))]
 simp
end Go.Vx
namespace Go.Proofs.YtemdlifojcgplaaGreatDoor
open Go Go.Vx Go.Hf Go.If Go.Df
variable [W0]
set_option maxRecDepth 4000
set_option linter.all false
theorem len64_n (v:Nat) (L:List Chunk) (h:v < 65536):GvP Tryz.prog 211 [.int .u64 (v:Int)].toArray L (.int .i64 ((lenB v:Nat):Int)):=by
 refine Gv.of_body Tryz.func211 rfl rfl ?_
 (repeat' first|refine kW ?_|refine kU fun bk=>?_|refine kV fun hc=>?_|refine kZ (fun hc=>?_) fun hc=>?_|fail)
 ·rw [lenB_256 (by omega) h]
  obtain ⟨w,hw9⟩:∃w,w=v / 256:=⟨_,rfl⟩
  have hw:w < 256:=by omega
  rw [←hw9]
  have hle:=lenB_le w hw
  refine OW_EV (EV_indexStr (j:=w) (u:=UInt8.ofNat (lenB w)) rfl rfl (by rw [wrap_u8];omega) (tabQ _ (by kernel_rfl) hw)) rfl ?_
  rw [show ((UInt8.ofNat (lenB w)).toNat:Int)=((lenB w:Nat):Int) from by rw [UInt8.toNat_ofNat',Nat.mod_eq_of_lt (by omega)]]
  generalize lenB w=z at hle ⊢
  refine jA ?_
  refine OW_EV (EV_convII (r:=(z:Int)) rfl (wrap_i64 (by omega) (by omega))) rfl ?_
  refine kW ?_
  refine kR ?_
  exact ⟨_,iC,by rw [Int.natCast_add];rfl,rfl⟩
 ·have hw:v < 256:=by omega
  have hle:=lenB_le v hw
  refine OW_EV (EV_indexStr (j:=v) (u:=UInt8.ofNat (lenB v)) rfl rfl (by rw [wrap_u8];omega) (tabQ _ (by kernel_rfl) hw)) rfl ?_
  rw [show ((UInt8.ofNat (lenB v)).toNat:Int)=((lenB v:Nat):Int) from by rw [UInt8.toNat_ofNat',Nat.mod_eq_of_lt (by omega)]]
  generalize lenB v=z at hle ⊢
  refine jA ?_
  refine OW_EV (EV_convII (r:=(z:Int)) rfl (wrap_i64 (by omega) (by omega))) rfl ?_
  refine kW ?_
  refine kR ?_
  exact ⟨_,iC,by simp [tupled],rfl⟩
theorem len_n (v:Nat) (L:List Chunk) (h:v < 65536):GvP Tryz.prog 260 [.int .u64 (v:Int)].toArray L (.int .i64 ((lenB v:Nat):Int)):=by
 refine Gv.of_body Tryz.func260 rfl rfl ?_
 have h6:=len64_n v L h
 refine kW ?_
 refine cP rfl rfl h6 ?_
 refine kW ?_
 refine kR ?_
 exact ⟨_,iC,rfl,rfl⟩
theorem place_n (v st:Nat) (L:List Chunk) (hv:v < 65536) (h1:1≤st) (h2:st≤4):GvP Tryz.prog 242 [.int .i64 (v:Int),.int .i64 (st:Int)].toArray L (.int .i64 ((plF v st:Nat):Int)):=by
 refine Gv.of_body Tryz.func242 rfl rfl ?_
 have hq:v / st≤v:=Nat.div_le_self _ _
 have hl:=len_n (v / st) L (by omega)
 have hb:lenB (v / st)≤16:=by
  unfold lenB
  split
  ·omega
  ·rename_i h0
   have:=(Nat.log2_lt h0).2 (show v / st < 2 ^ 16 by omega)
   omega
 unfold plF
 refine kW ?_
 refine OW_EV (EV_quoN v st rfl rfl rfl rfl (by omega) (by omega)) rfl ?_
 generalize v / st=y at hl hb hq ⊢
 refine kW ?_
 refine cP rfl rfl hl ?_
 generalize lenB y=z at hb ⊢
 refine kW ?_
 rw [show max (0:Int) ((z:Int) - 1)=((z - 1:Nat):Int) from by omega]
 obtain ⟨x,hx⟩:∃x,x=z - 1:=⟨_,rfl⟩
 rw [←hx]
 have hst:st * x≤4 * 16:=Nat.mul_le_mul h2 (by omega)
 have hv2:v / 2 ^ x≤v:=Nat.div_le_self _ _
 refine OW_EV (EV_ari64 (r:=((st * x:Nat):Int)) rfl rfl (by simp [ariI]) (by omega)) rfl ?_
 refine kW ?_
 refine OW_EV (EV_shrN (k:=.i64) (a:=v) (s:=x) rfl rfl (by simp only [IntKind.bits];omega)) rfl ?_
 generalize st * x=A at hst ⊢
 generalize v / 2 ^ x=B at hv2 ⊢
 refine kW ?_
 rw [show (A:Int)+(B:Int)=((A+B:Nat):Int) from by omega]
 refine kR ?_
 exact ⟨_,iC,rfl,rfl⟩
theorem olen_n (n:Nat) (L:List Chunk) (h3:3≤n) (h:n≤258):GvP Tryz.prog 229 [.int .i64 (n:Int)].toArray L (.int .i64 ((olN n:Nat):Int)):=by
 refine Gv.of_body Tryz.func229 rfl rfl ?_
 have hp:=place_n (n - 3) 4 L (by omega) (by decide) (by decide)
 have hb:=olN_ok h3 h
 unfold olN at *
 (repeat' first|refine kW ?_|refine kU fun bk=>?_|refine kV fun hc=>?_|refine kZ (fun hc=>?_) fun hc=>?_|fail)
 ·rw [if_pos (show n=258 by omega)]
  refine kR ?_
  exact ⟨_,iC,rfl,rfl⟩
 ·rw [if_neg (show ¬n=258 by omega)] at hb ⊢
  rw [show (n:Int) - 3=((n - 3:Nat):Int) from by omega]
  refine cP rfl rfl hp ?_
  generalize plF (n - 3) 4=z at hb ⊢
  refine kW ?_
  rw [show (257:Int)+(z:Int)=((257+z:Nat):Int) from by omega]
  refine kR ?_
  exact ⟨_,iC,rfl,rfl⟩
theorem odist_n (d:Nat) (L:List Chunk) (h1:1≤d) (h:d≤32768):GvP Tryz.prog 206 [.int .i64 (d:Int)].toArray L (.int .i64 ((odN d:Nat):Int)):=by
 refine Gv.of_body Tryz.func206 rfl rfl ?_
 have hp:=place_n (d - 1) 2 L (by omega) (by decide) (by decide)
 unfold odN
 refine kW ?_
 rw [show (d:Int) - 1=((d - 1:Nat):Int) from by omega]
 refine cP rfl rfl hp ?_
 refine kW ?_
 refine kR ?_
 exact ⟨_,iC,rfl,rfl⟩
end Go.Proofs.YtemdlifojcgplaaGreatDoor
namespace Go.Vx
open Go
set_option linter.all false
def flt {α:Type} (f:α→List Value):List α→List Value
 |[]=>[]
 |x::r=>f x++flt f r
theorem flt_app {α:Type} (f:α→List Value):∀a b,flt f (a++b)=flt f a++flt f b
 |[],b=>rfl
 |x::a,b=>by simp only [List.cons_append,flt,flt_app f a b,List.append_assoc]
theorem flt_ones {α:Type} {f:α→List Value} (h:∀x,ones (f x)=true):∀a,ones (flt f a)=true
 |[]=>rfl
 |x::a=>by
  have h1:=h x
  have h2:=flt_ones h a
  simp only [ones] at h1 h2 ⊢
  simp only [flt,List.all_append,h1,h2,Bool.and_self]
theorem flt_drop {α:Type} {f:α→List Value} {k:Nat} (h:∀x,(f x).length=k):∀(a:List α) (n:Nat),(flt f a).drop (n * k)=flt f (a.drop n)
 |a,0=>by simp
 |[],n+1=>by simp [flt]
 |x::a,n+1=>by
  rw [flt,List.drop_succ_cons,←flt_drop h a n,Nat.succ_mul,List.drop_append,h,show n * k+k - k=n * k from by omega,List.drop_of_length_le (by rw [h];omega),List.nil_append]
theorem flt_take {α:Type} {f:α→List Value} {k:Nat} (h:∀x,(f x).length=k):∀(a:List α) (n:Nat),(flt f a).take (n * k)=flt f (a.take n)
 |a,0=>by simp [flt]
 |[],n+1=>by simp [flt]
 |x::a,n+1=>by
  rw [flt,List.take_succ_cons,flt,←flt_take h a n,Nat.succ_mul,List.take_append,h,show n * k+k - k=n * k from by omega,List.take_of_length_le (by rw [h];omega)]
theorem flt_at {α:Type} {f:α→List Value} {k:Nat} (h:∀x,(f x).length=k) {a:List α} {j:Nat} {x:α} (hj:a[j]? =some x):cut (flt f a) (j * k) k=f x:=by
 unfold cut
 rw [flt_drop h]
 have hlt:j < a.length:=by
  rcases Nat.lt_or_ge j a.length with h'|h'
  ·exact h'
  ·simp [List.getElem?_eq_none h'] at hj
 have hx:a[j]=x:=by rw [List.getElem?_eq_getElem hlt] at hj;simpa using hj
 rw [List.drop_eq_getElem_cons hlt,hx,flt,List.take_append_of_le_length (by rw [h];exact Nat.le_refl _),List.take_of_length_le (by rw [h];exact Nat.le_refl _)]
theorem Rs.elem [W0] {L:List Chunk} {k m:Nat} {v:Value} {xs:List Value} (h:Rs L k v m xs) {j:Nat} (hj:j < m) (hk:0 < k) :
 ∃b off cap,v=.slice (some ⟨b,off,none⟩) m cap∧RdAt L ⟨b,off+j * k,none⟩ (cut xs (j * k) k):=by
 have hlen:=h.len
 have hjk:j * k+k≤m * k:=by rw [←Nat.succ_mul];exact Nat.mul_le_mul_right k hj
 rcases h.sl with ⟨c,rfl,rfl,_⟩|⟨a,cap,rfl,hr,hl⟩
 ·omega
 ·rcases hr with h0|⟨b,off,cc,TT,fr,rfl,hf,hc⟩
  ·rw [h0] at hlen
   simp only [List.length_nil] at hlen
   omega
  ·refine ⟨b,off,cap,rfl,.inr ⟨b,off+j * k,cc,TT,fr,rfl,hf,fun q u hq=>?_⟩⟩
   unfold cut at hq
   rw [List.getElem?_take] at hq
   split at hq
   ·rw [List.getElem?_drop] at hq
    rw [Nat.add_assoc]
    exact hc _ _ hq
   ·cases hq
theorem RdAt.sub [W0] {L L':List Chunk} (hs:∀x∈L.flatten,x∈L'.flatten) {a:Addr} {vs:List Value} (h:RdAt L a vs):RdAt L' a vs:=rd_sub hs h
end Go.Vx
namespace Go.Df
open Go.Vx Go.If Go.Hf
set_option linter.all false
def TkOk (t:Nat × Nat):Prop:=(t.2=0∧t.1 < 256)∨(1≤t.2∧t.2≤32768∧3≤t.1∧t.1≤258)
def tsy (t:Nat × Nat):Nat:=if t.2=0 then t.1 else olN t.1
def tsz (t:Nat × Nat):Nat:=if t.2=0 then 1 else t.1
def tok (t:Nat × Nat):Tok:=if t.2=0 then .lit (UInt8.ofNat t.1) else .mt (olN t.1) (t.1 - (lnB (olN t.1)).1) (odN t.2) (t.2 - baB 1 2 4 (odN t.2))
theorem tsy_lt {t:Nat × Nat} (h:TkOk t):tsy t < 286∧(t.2≠0→257≤tsy t)∧tsy t≠256:=by
 unfold tsy
 rcases h with ⟨h1,h2⟩|⟨h1,h2,h3,h4⟩
 ·rw [if_pos h1];exact ⟨by omega,fun h=>absurd h1 h,by omega⟩
 ·rw [if_neg (by omega)]
  have:=olN_ok h3 h4
  exact ⟨by omega,fun _=>this.1,by omega⟩
theorem tsI_app [W0] {l dl:List Nat}:∀(a b:List Tok),tsI l dl (a++b)=tsI l dl a++tsI l dl b
 |[],b=>rfl
 |x::a,b=>by simp only [List.cons_append,tsI,tsI_app a b,List.append_assoc]
theorem takeSucc {α:Type} {l:List α} {j:Nat} {x:α} (h:l[j]? =some x):l.take (j+1)=l.take j++[x]:=by
 rw [List.take_succ,h];rfl
end Go.Df
namespace Go.Proofs.YtemdlifojcgplaaGreatDoor
open Go Go.Vx Go.Hf Go.If Go.Df
variable [W0]
set_option maxRecDepth 4000
set_option linter.all false
theorem cvW {n:Nat} (h:n < 4294967296):IntKind.u32.wrap (n:Int)=(n:Int):=wrap_nat (k:=.u32) rfl (by simp only [IntKind.bits];omega)
omit [W0] in
def TkV (t:Nat × Nat):List Value:=[.int .i64 (t.1:Int),.int .i64 (t.2:Int)]
omit [W0] in
theorem TkV_len (t:Nat × Nat):(TkV t).length=2:=rfl
structure TkR (L:List Chunk) (v:Value) (ts:List (Nat × Nat)):Prop where
 rs:Rs L 2 v ts.length (flt TkV ts)
 ok:∀t∈ts,TkOk t
theorem TkR.sub {L L':List Chunk} (hs:∀x∈L.flatten,x∈L'.flatten) {v:Value} {ts:List (Nat × Nat)} (h:TkR L v ts):TkR L' v ts:=⟨h.rs.sub hs,h.ok⟩
structure CdR (L:List Chunk) (vl vc:Value) (ls:List Nat):Prop where
 l:Rs L 1 vl ls.length (ivn ls)
 c:Rs L 1 vc ls.length (wnv (cds ls))
 ok:Cok ls
 n:ls.length≤400
theorem CdR.sub {L L':List Chunk} (hs:∀x∈L.flatten,x∈L'.flatten) {vl vc:Value} {ls:List Nat} (h:CdR L vl vc ls):CdR L' vl vc ls:=⟨h.l.sub hs,h.c.sub hs,h.ok,h.n⟩
def WrI (p:Nat) (a:List (Nat × Nat)) (D E:Chunk):Prop:=WrD p (itV a) (itL a) D E
theorem WrI.add {p:Nat} {a:List (Nat × Nat)} {v n:Nat} {D E:Chunk} (h:WrD p (itV a+2 ^ itL a * v) (itL a+n) D E):WrI p (a++[(v,n)]) D E:=by
 unfold WrI
 rw [itV_app,itL_app]
 simp only [itV,itL,Nat.mul_zero,Nat.add_zero]
 exact h
theorem WrI.new (p:Nat):WrI p [] [(p,cl [.slice none 0 0,.int .u64 0,.int .i64 0] 171)] []:=WrD.new p
theorem iput_n (p v n:Nat) (a:List (Nat × Nat)) (D E:Chunk) (L:List Chunk) (h:WrI p a D E) (hn:n≤32) (hv:v < 2 ^ n) (hN:itL a≤1125899906841600) :
 Gv Tryz.prog 114 [.pointer (some ⟨p,0,none⟩),.int .u32 (v:Int),.int .i64 (n:Int)].toArray (D::E::L) (fun r L'=>r=.tuple #[]∧∃D' E',WrI p (a++[(v,n)]) D' E'∧L'=D'::E'::L):=by
 have hp:=put_n p (itV a) (itL a) v (n:Int) D E L h (Nat.lt_of_lt_of_le hv (Nat.pow_le_pow_right (by decide) hn)) hN
 refine hp.mono fun r L' hq=>?_
 obtain ⟨rfl,D',E',hw,rfl⟩:=hq
 rw [clp_nat hn,Nat.mod_eq_of_lt hv] at hw
 exact ⟨rfl,D',E',WrI.add hw,rfl⟩
theorem tsym_n (t:Nat × Nat) (L:List Chunk) (h:TkOk t):GvP Tryz.prog 194 [.agg (TkV t).toArray].toArray L (.int .i64 ((tsy t:Nat):Int)):=by
 refine Gv.of_body Tryz.func194 rfl rfl ?_
 obtain ⟨v,d⟩:=t
 have ho:=fun L=>olen_n v L
 unfold TkV tsy
 unfold TkOk at h
 simp only at h ho ⊢
 (repeat' first|refine kW ?_|refine kU fun bk=>?_|refine kV fun hc=>?_|refine kZ (fun hc=>?_) fun hc=>?_|fail)
 ·rw [if_pos (show d=0 by omega)]
  refine kR ?_
  exact ⟨_,iC,rfl,rfl⟩
 ·rw [if_neg (show ¬d=0 by omega)]
  refine cP rfl rfl (ho _ (by omega) (by omega)) ?_
  refine kW ?_
  refine kR ?_
  exact ⟨_,iC,rfl,rfl⟩
theorem tsize_n (t:Nat × Nat) (L:List Chunk):GvP Tryz.prog 208 [.agg (TkV t).toArray].toArray L (.int .i64 ((tsz t:Nat):Int)):=by
 refine Gv.of_body Tryz.func208 rfl rfl ?_
 obtain ⟨v,d⟩:=t
 unfold TkV tsz
 simp only
 (repeat' first|refine kW ?_|refine kU fun bk=>?_|refine kV fun hc=>?_|refine kZ (fun hc=>?_) fun hc=>?_|fail)
 ·rw [if_pos (show d=0 by omega)]
  refine kR ?_
  exact ⟨_,iC,rfl,rfl⟩
 ·rw [if_neg (show ¬d=0 by omega)]
  refine kR ?_
  exact ⟨_,iC,rfl,rfl⟩
theorem cwrite_n (vl vc:Value) (ls:List Nat) (i p:Nat) (a:List (Nat × Nat)) (D E:Chunk) (L:List Chunk) (hc:CdR L vl vc ls) (hi:i < ls.length) (h:WrI p a D E) (hN:itL a≤1125899906841600) :
 Gv Tryz.prog 195 [.agg #[vl,vc],.int .i64 (i:Int),.pointer (some ⟨p,0,none⟩)].toArray (D::E::L) (fun r L'=>r=.tuple #[]∧∃D' E',WrI p (a++[sc ls i]) D' E'∧L'=D'::E'::L):=by
 refine Gv.of_body Tryz.func195 rfl rfl ?_
 have h15:=hc.ok.at i
 have hcd:cd ls i < 2 ^ 32:=by
  by_cases h0:0 < ls.getD i 0
  ·exact Nat.lt_of_lt_of_le (cdFit hc.ok.k hc.ok.at hi h0) (Nat.pow_le_pow_right (by decide) (by omega))
  ·unfold cd;rw [if_pos (by omega)];decide
 have hcode:=fun B=>code_n p (itV a) (itL a) (cd ls i) ((ls.getD i 0:Nat):Int) D E (B::L) h hcd hN
 have hgl:(ivn ls)[i]? =some (.int .i64 ((ls.getD i 0:Nat):Int)):=ivn_get (by simp [List.getD,hi])
 have hgc:(wnv (cds ls))[i]? =some (.int .u32 ((cd ls i:Nat):Int)):=by simp [wnv,cds,hi]
 obtain ⟨b1,o1,c1,cc1,T1,f1,rfl,hf1,hv1⟩:=sl_at hc.l.sl hgl
 obtain ⟨b2,o2,c2,cc2,T2,f2,rfl,hf2,hv2⟩:=sl_at hc.c.sl hgc
 unfold sc
 generalize ls.getD i 0=n at h15 hcode hv1 ⊢
 generalize cd ls i=x at hcode hcd hv2 ⊢
 (refine kW ?_;refine kU fun bk=>?_;refine kW ?_)
 refine WC_drawAll [11] mixed ?_
 (refine WR_t 0 ?_;refine WR_t 1 ?_;refine WR_t 2 ?_;refine WR_t 3 ?_)
 refine cT 4 rfl rfl (EV_indexAddr (j:=i) rfl rfl rfl hi) ?_
 refine cT 5 rfl rfl (EV_load rfl (.there (.there (.there hf2))) hv2) ?_
 (refine WR_t 6 ?_;refine WR_t 7 ?_;refine WR_t 8 ?_)
 refine cT 9 rfl rfl (EV_indexAddr (j:=i) rfl rfl rfl hi) ?_
 refine cT 10 rfl rfl (EV_load rfl (.there (.there (.there hf1))) hv1) ?_
 refine cL 11 rfl rfl rfl ?_
 refine cC rfl rfl (Gv.holds (hcode _) (fun w h=>iH h)) (fun r L' hp=>?_)
 obtain ⟨rfl,D',E',hw,rfl⟩:=hp
 rw [clp_nat (by omega)] at hw
 refine cD ?_
 skip
 refine kR ?_
 exact ⟨_,iC,rfl,D',E',WrI.add hw,rfl⟩
omit [W0] in
def cdV (vt v1 v2 v3 v4:Value) (size:Nat):List Value:=[vt,v1,v2,v3,v4,.int .i64 (size:Int)]
structure CoR (L:List Chunk) (vt v1 v2 v3 v4:Value) (ts:List (Nat × Nat)) (l dl:List Nat):Prop where
 t:TkR L vt ts
 a:CdR L v1 v2 l
 b:CdR L v3 v4 dl
 ll:286≤l.length
 dd:30≤dl.length
 nt:ts.length≤200000
theorem CoR.sub {L L':List Chunk} (hs:∀x∈L.flatten,x∈L'.flatten) {vt v1 v2 v3 v4:Value} {ts:List (Nat × Nat)} {l dl:List Nat} (h:CoR L vt v1 v2 v3 v4 ts l dl):CoR L' vt v1 v2 v3 v4 ts l dl:=
 ⟨h.t.sub hs,h.a.sub hs,h.b.sub hs,h.ll,h.dd,h.nt⟩
theorem sub_there {L:List Chunk} {C:Chunk}:∀x∈L.flatten,x∈(C::L).flatten:=fun x hx=>by simp [hx]
theorem wdist_n (vt v1 v2 v3 v4:Value) (size d p:Nat) (ts:List (Nat × Nat)) (l dl:List Nat) (a:List (Nat × Nat)) (D E:Chunk) (L:List Chunk) (hc:CoR L vt v1 v2 v3 v4 ts l dl) (h1:1≤d) (h2:d≤32768) (h:WrI p a D E) (hN:itL a≤1125899906841500) :
 Gv Tryz.prog 197 [.agg (cdV vt v1 v2 v3 v4 size).toArray,.int .i64 (d:Int),.pointer (some ⟨p,0,none⟩)].toArray (D::E::L) (fun r L'=>r=.tuple #[]∧∃D' E',WrI p (a++[sc dl (odN d),(d - baB 1 2 4 (odN d),exB (odN d) 2 4)]) D' E'∧L'=D'::E'::L):=by
 refine Gv.of_body Tryz.func197 rfl rfl ?_
 have hod:=fun L=>odist_n d L h1 h2
 obtain ⟨k1,k2,k3⟩:=odN_ok h1 h2
 have hb:=dsB_b (odN d) (by omega)
 have hsd:=fun L=>sdistance_n (odN d) L (by omega)
 have hcw:=fun B=>cwrite_n v3 v4 dl (odN d) p a D E (B::L) (hc.b.sub sub_there) (by have:=hc.dd;omega) h (by omega)
 have hsl:(sc dl (odN d)).2≤15:=hc.b.ok.at _
 have hpu:=fun D' E' B hw=>iput_n p (d - baB 1 2 4 (odN d)) (exB (odN d) 2 4) (a++[sc dl (odN d)]) D' E' (B::L) hw (by omega) k3 (by rw [itL_app];simp only [itL];omega)
 rw [List.append_assoc] at hpu
 generalize sc dl (odN d)=it at hcw hpu ⊢
 generalize baB 1 2 4 (odN d)=z at k2 k3 hsd hpu hb ⊢
 generalize exB (odN d) 2 4=e at k3 hsd hpu hb ⊢
 generalize odN d=t at *
 unfold cdV
 (refine kW ?_;refine kU fun bk=>?_;refine kW ?_)
 refine cP rfl rfl (hod _) ?_
 refine kW ?_
 refine cC rfl rfl (Gv.holds (hcw _) (fun w h=>iH h)) (fun r L' hp=>?_)
 obtain ⟨rfl,D',E',hw,rfl⟩:=hp
 have hpu:=fun B=>hpu D' E' B hw
 refine kW ?_
 refine cP rfl rfl (hsd _) ?_
 refine kW ?_
 rw [show (d:Int) - (z:Int)=((d - z:Nat):Int) from by omega]
 rw [cvW (show d - z < 4294967296 by omega)]
 refine cC rfl rfl (Gv.holds (hpu _) (fun w h=>iH h)) (fun r L' hp=>?_)
 obtain ⟨rfl,D2,E2,hw2,rfl⟩:=hp
 refine kW ?_
 refine kR ?_
 exact ⟨_,iC,rfl,D2,E2,hw2,rfl⟩
end Go.Proofs.YtemdlifojcgplaaGreatDoor
namespace Go.Df
open Go.Vx Go.If Go.Hf
set_option linter.all false
theorem tkI_le [W0] {l dl:List Nat} (hl:Cok l) (hd:Cok dl) {t:Nat × Nat} (h:TkOk t):itL (tkI l dl (tok t))≤48:=by
 unfold tok
 have h1:=hl.at
 have h2:=hd.at
 rcases h with ⟨h0,h3⟩|⟨h3,h4,h5,h6⟩
 ·rw [if_pos h0]
  simp only [tkI,itL,sc]
  have:=h1 (UInt8.ofNat t.1).toNat
  omega
 ·rw [if_neg (by omega)]
  have k1:=olN_ok h5 h6
  have k2:=odN_ok h3 h4
  have k3:=lnB_b (olN t.1) (by omega) (by omega)
  have k4:=dsB_b (odN t.2) (by omega)
  simp only [tkI,itL,sc]
  have:=h1 (olN t.1)
  have:=h2 (odN t.2)
  omega
theorem tsI_le [W0] {l dl:List Nat} (hl:Cok l) (hd:Cok dl):∀{ts:List (Nat × Nat)},(∀t∈ts,TkOk t)→itL (tsI l dl (ts.map tok))≤48 * ts.length
 |[],_=>by simp [tsI,itL]
 |t::r,h=>by
  have h1:=tkI_le hl hd (h t (by simp))
  have h2:=tsI_le hl hd (ts:=r) (fun x hx=>h x (by simp [hx]))
  rw [List.map_cons,tsI,itL_app,List.length_cons]
  omega
theorem tkI_lit [W0] {l dl:List Nat} {t:Nat × Nat} (h:TkOk t) (h0:t.2=0):tkI l dl (tok t)=[sc l (tsy t)]:=by
 unfold tok tsy
 rw [if_pos h0,if_pos h0]
 simp only [tkI]
 have hlt:t.1 < 256:=by rcases h with ⟨_,h⟩|⟨h,_⟩;exact h;omega
 rw [UInt8.toNat_ofNat',Nat.mod_eq_of_lt hlt]
theorem tkI_mt [W0] {l dl:List Nat} {t:Nat × Nat} (h0:t.2≠0):tkI l dl (tok t)=[sc l (tsy t)]++([(t.1 - (lnB (tsy t)).1,(lnB (tsy t)).2)]++[sc dl (odN t.2),(t.2 - baB 1 2 4 (odN t.2),exB (odN t.2) 2 4)]):=by
 unfold tok tsy
 rw [if_neg h0,if_neg h0]
 rfl
end Go.Df
namespace Go.Proofs.YtemdlifojcgplaaGreatDoor
open Go Go.Vx Go.Hf Go.If Go.Df
variable [W0]
set_option maxRecDepth 4000
set_option linter.all false
def coI (l dl:List Nat) (ts:List (Nat × Nat)):List (Nat × Nat):=tsI l dl (ts.map tok)++[sc l 256]
theorem cowrite_n (vt v1 v2 v3 v4:Value) (size p:Nat) (ts:List (Nat × Nat)) (l dl:List Nat) (a:List (Nat × Nat)) (D E:Chunk) (L:List Chunk) (hK:CoR L vt v1 v2 v3 v4 ts l dl) (h:WrI p a D E) (hN:itL a≤1125890000000000) :
 Gv Tryz.prog 152 [.agg (cdV vt v1 v2 v3 v4 size).toArray,.pointer (some ⟨p,0,none⟩)].toArray (D::E::L) (fun r L'=>r=.tuple #[]∧∃D' E',WrI p (a++coI l dl ts) D' E'∧L'=D'::E'::L):=by
 refine Gv.of_body Tryz.func152 rfl rfl ?_
 obtain ⟨ta,tc,hvt9⟩:∃ta tc,vt=.slice ta ts.length tc:=by obtain ⟨a,c,h,_⟩:=hK.t.rs.room;exact ⟨a,c,h⟩
 subst hvt9
 have hnt:=hK.nt
 have hle:=fun j=>tsI_le hK.a.ok hK.b.ok (ts:=ts.take j) (fun t ht=>hK.t.ok t (List.mem_of_mem_take ht))
 unfold cdV
 (refine kW ?_;refine kU fun bk=>?_;refine kW ?_)
 refine WC_loop (X:=Nat × Chunk × Chunk) (fun x=>[(1,.pointer (some ⟨p,0,none⟩)),(2,.pointer (some ⟨bk,0,none⟩)),(10,.slice ta ts.length tc),(11,.int .i64 (ts.length:Int)),(12,.int .i64 (x.1:Int))]) (fun x=>[(bk,cl [.slice ta ts.length tc,v1,v2,v3,v4,.int .i64 (size:Int)] 184)]::x.2.1::x.2.2::L)
  (fun x=>x.1≤ts.length∧WrI p (a++tsI l dl ((ts.take x.1).map tok)) x.2.1 x.2.2) (fun x=>ts.length - x.1) (0,D,E) ⟨Nat.zero_le _,by simpa [tsI] using h⟩ iS (fun w h=>h) ?_
 clear h D E
 rintro ⟨j,D,E⟩ ⟨hj,h⟩
 simp only at hj h ⊢
 have hlj:=hle j
 rw [List.length_take,Nat.min_eq_left hj] at hlj
 generalize hA:a++tsI l dl ((ts.take j).map tok)=A at h
 have hAL:itL A≤1125890000000000+48 * j:=by rw [←hA,itL_app];omega
 (repeat' first|refine kW ?_|refine kU fun bk=>?_|refine kV fun hc=>?_|refine kZ (fun hc=>?_) fun hc=>?_|fail)
 ·have hjl:j < ts.length:=by omega
  obtain ⟨t,ht⟩:∃t,ts[j]? =some t:=⟨ts[j],List.getElem?_eq_getElem hjl⟩
  have hto:=hK.t.ok t (List.mem_of_getElem? ht)
  have hsy:=tsy_lt hto
  obtain ⟨tb,toff,tcap,hv9,hrd⟩:=hK.t.rs.elem hjl (by decide)
  injection hv9 with q1 q2 q3
  subst q1 q3
  clear q2
  rw [flt_at TkV_len ht] at hrd
  refine OW_EV (EV_indexAddr (j:=j) rfl rfl rfl hjl) rfl ?_
  refine kW ?_
  refine OW_EV (EV_loadAgg rfl (rd_there (rd_there (rd_there hrd))) rfl) rfl ?_
  unfold TkV
  (refine kW ?_;refine kU fun bk=>?_;refine kW ?_)
  refine cP rfl rfl (tsym_n t _ hto) ?_
  have hcw:=fun B1 B2=>cwrite_n v1 v2 l (tsy t) p A D E (B1::B2::L) ((hK.a.sub sub_there).sub sub_there) (by have:=hK.ll;omega) h (by omega)
  refine kW ?_
  refine cC rfl rfl (Gv.holds (hcw _ _) (fun w h=>iH h)) (fun r L' hp=>?_)
  obtain ⟨rfl,D1,E1,hw1,rfl⟩:=hp
  (repeat' first|refine kW ?_|refine kU fun bk=>?_|refine kV fun hc=>?_|refine kZ (fun hc=>?_) fun hc=>?_|fail)
  ·have h0:t.2≠0:=by omega
   have hmt:1≤t.2∧t.2≤32768∧3≤t.1∧t.1≤258:=by rcases hto with ⟨h1,_⟩|h1;omega;exact h1
   have h257:=hsy.2.1 h0
   have hlb:=lnB_b (tsy t) hsy.1 h257
   have hol:=olN_ok hmt.2.2.1 hmt.2.2.2
   have hty:tsy t=olN t.1:=by unfold tsy;rw [if_neg h0]
   rw [←hty] at hol
   have hs1:=hK.a.ok.at (tsy t)
   have hs2:(sc l (tsy t)).2≤15:=hs1
   have hsl:=fun L=>slength_n (tsy t) L h257 (by omega)
   have hpu:=fun B1 B2=>iput_n p (t.1 - (lnB (tsy t)).1) (lnB (tsy t)).2 (A++[sc l (tsy t)]) D1 E1 (B1::B2::L) hw1 (by omega) hol.2.2.2 (by rw [itL_app];simp only [itL];omega)
   have hAL2:itL ((A++[sc l (tsy t)])++[(t.1 - (lnB (tsy t)).1,(lnB (tsy t)).2)])≤1125890000000000+48 * j+20:=by rw [itL_app,itL_app];simp only [itL];omega
   have hwd:=fun B1 B2 D2 E2 hw2=>wdist_n (.slice (some ⟨tb,toff,none⟩) ts.length tc) v1 v2 v3 v4 size t.2 p ts l dl ((A++[sc l (tsy t)])++[(t.1 - (lnB (tsy t)).1,(lnB (tsy t)).2)]) D2 E2 (B1::B2::L) ((hK.sub sub_there).sub sub_there) hmt.1 hmt.2.1 hw2 (by omega)
   have hitems:((A++[sc l (tsy t)])++[(t.1 - (lnB (tsy t)).1,(lnB (tsy t)).2)])++[sc dl (odN t.2),(t.2 - baB 1 2 4 (odN t.2),exB (odN t.2) 2 4)]=a++tsI l dl ((ts.take (j+1)).map tok):=by
    rw [takeSucc ht,List.map_append,tsI_app,←List.append_assoc,hA]
    simp only [List.map_cons,List.map_nil,tsI,List.append_nil]
    rw [tkI_mt h0]
    simp only [List.append_assoc]
   rw [hitems] at hwd
   clear hitems hAL2
   unfold cdV at hwd
   generalize lnB (tsy t)=lb at hol hlb hsl hpu hwd
   refine cP rfl rfl (hsl _) ?_
   refine kW ?_
   rw [show (t.1:Int) - (lb.1:Int)=((t.1 - lb.1:Nat):Int) from by omega,cvW (show t.1 - lb.1 < 4294967296 by omega)]
   refine cC rfl rfl (Gv.holds (hpu _ _) (fun w h=>iH h)) (fun r L' hp=>?_)
   obtain ⟨rfl,D2,E2,hw2,rfl⟩:=hp
   have hwd:=fun B1 B2=>hwd B1 B2 D2 E2 hw2
   refine kW ?_
   refine cC rfl rfl (Gv.holds (hwd _ _) (fun w h=>iH h)) (fun r L' hp=>?_)
   obtain ⟨rfl,D3,E3,hw3,rfl⟩:=hp
   refine kW ?_
   refine WQ_round (X:=Nat × Chunk × Chunk) (μ:=fun x=>ts.length - x.1) (x:=(j,D,E)) (j+1,D3,E3) (by simp only;omega) ⟨by simp only;omega,hw3⟩ iS (fun w h=>iH h)
  ·have h0:t.2=0:=by omega
   have hitems:A++[sc l (tsy t)]=a++tsI l dl ((ts.take (j+1)).map tok):=by
    rw [takeSucc ht,List.map_append,tsI_app,←List.append_assoc,hA]
    simp only [List.map_cons,List.map_nil,tsI,List.append_nil]
    rw [tkI_lit hto h0]
   rw [hitems] at hw1
   refine WQ_round (X:=Nat × Chunk × Chunk) (μ:=fun x=>ts.length - x.1) (x:=(j,D,E)) (j+1,D1,E1) (by simp only;omega) ⟨by simp only;omega,hw1⟩ iS (fun w h=>iH h)
 ·obtain rfl:j=ts.length:=by omega
  rw [List.take_length] at hA
  have hcw:=fun B1=>cwrite_n v1 v2 l 256 p A D E (B1::L) (hK.a.sub sub_there) (by have:=hK.ll;omega) h (by omega)
  skip
  refine cC rfl rfl (Gv.holds (hcw _) (fun w h=>iH h)) (fun r L' hp=>?_)
  obtain ⟨rfl,D1,E1,hw1,rfl⟩:=hp
  rw [←hA,List.append_assoc] at hw1
  refine kW ?_
  refine kR ?_
  exact ⟨_,iC,rfl,D1,E1,hw1,rfl⟩
end Go.Proofs.YtemdlifojcgplaaGreatDoor
namespace Go.Df
open Go.Vx Go.If Go.Hf
set_option linter.all false
def rnI [W0] (own:List Nat):List (Nat × Nat)→List (Nat × Nat)
 |[]=>[]
 |r::q=>sc own r.1::(r.2,rpB r.1)::rnI own q
theorem rnI_app [W0] {own:List Nat}:∀a b,rnI own (a++b)=rnI own a++rnI own b
 |[],b=>rfl
 |x::a,b=>by simp only [List.cons_append,rnI,rnI_app a b]
def orI (o:List Nat):List (Nat × Nat):=o.map fun n=>(n,3)
theorem orI_L:∀o,itL (orI o)=3 * o.length
 |[]=>rfl
 |x::o=>by
  have:=orI_L o
  simp only [orI] at this
  simp only [orI,List.map_cons,itL,List.length_cons,this];omega
def hwI [W0] (n1 n2:Nat) (o own:List Nat) (rs:List (Nat × Nat)):List (Nat × Nat):=[(n1 - 257,5),(n2 - 1,5),(o.length - 4,4)]++(orI o++rnI own rs)
theorem rnI_le [W0] {own:List Nat} (ho:Cok own):∀rs:List (Nat × Nat),itL (rnI own rs)≤22 * rs.length
 |[]=>Nat.le_refl _
 |r::q=>by
  have h1:=rnI_le ho q
  have h2:=ho.at r.1
  have h3:rpB r.1≤7:=by unfold rpB;split<;>(try split)<;>(try split)<;>omega
  simp only [rnI,itL,sc,List.length_cons]
  omega
end Go.Df
namespace Go.Proofs.YtemdlifojcgplaaGreatDoor
open Go Go.Vx Go.Hf Go.If Go.Df
variable [W0]
set_option maxRecDepth 4000
set_option linter.all false
omit [W0] in
def hdV (n1 n2:Nat) (vo v1 v2 vr:Value):List Value:=[.int .i64 (n1:Int),.int .i64 (n2:Int),vo,v1,v2,vr]
structure HdR (L:List Chunk) (vo v1 v2 vr:Value) (n1 n2:Nat) (o own:List Nat) (rs:List (Nat × Nat)):Prop where
 ord:Rs L 1 vo o.length (ivn o)
 c:CdR L v1 v2 own
 run:Rs L 2 vr rs.length (flt TkV rs)
 b1:257≤n1∧n1≤286
 b2:1≤n2∧n2≤30
 ol:4≤o.length∧o.length≤19
 o7:∀x∈o,x < 8
 o19:own.length=19
 rn:rs.length≤400
 ro:∀x∈rs,x.1 < 19∧x.2 < 2 ^ rpB x.1
theorem HdR.sub {L L':List Chunk} (hs:∀x∈L.flatten,x∈L'.flatten) {vo v1 v2 vr:Value} {n1 n2:Nat} {o own:List Nat} {rs:List (Nat × Nat)} (h:HdR L vo v1 v2 vr n1 n2 o own rs):HdR L' vo v1 v2 vr n1 n2 o own rs:=
 ⟨h.ord.sub hs,h.c.sub hs,h.run.sub hs,h.b1,h.b2,h.ol,h.o7,h.o19,h.rn,h.ro⟩
theorem hdwrite_n (vo v1 v2 vr:Value) (n1 n2 p:Nat) (o own:List Nat) (rs a:List (Nat × Nat)) (D E:Chunk) (L:List Chunk) (hK:HdR L vo v1 v2 vr n1 n2 o own rs) (h:WrI p a D E) (hN:itL a≤1125890000000000) :
 Gv Tryz.prog 153 [.agg (hdV n1 n2 vo v1 v2 vr).toArray,.pointer (some ⟨p,0,none⟩)].toArray (D::E::L) (fun r L'=>r=.tuple #[]∧∃D' E',WrI p (a++hwI n1 n2 o own rs) D' E'∧L'=D'::E'::L):=by
 refine Gv.of_body Tryz.func153 rfl rfl ?_
 obtain ⟨oa,oc,hvo9⟩:∃ta tc,vo=.slice ta o.length tc:=by obtain ⟨a,c,h,_⟩:=hK.ord.room;exact ⟨a,c,h⟩
 obtain ⟨ra,rc,hvr9⟩:∃ta tc,vr=.slice ta rs.length tc:=by obtain ⟨a,c,h,_⟩:=hK.run.room;exact ⟨a,c,h⟩
 subst hvo9 hvr9
 have hn1:=hK.b1
 have hn2:=hK.b2
 have hol:=hK.ol
 have hrn:=hK.rn
 unfold hdV
 (refine kW ?_;refine kU fun bk=>?_;refine kW ?_)
 rw [show (n1:Int) - 257=((n1 - 257:Nat):Int) from by omega,cvW (show n1 - 257 < 4294967296 by omega)]
 refine cC rfl rfl (Gv.holds (iput_n p (n1 - 257) 5 a D E ([(bk,cl (hdV n1 n2 (.slice oa o.length oc) v1 v2 (.slice ra rs.length rc)) 226)]::L) h (by decide) (by omega) (by omega)) (fun w h=>iH h)) (fun r L' hp=>?_)
 obtain ⟨rfl,D1,E1,hw1,rfl⟩:=hp
 unfold hdV
 refine kW ?_
 rw [show (n2:Int) - 1=((n2 - 1:Nat):Int) from by omega,cvW (show n2 - 1 < 4294967296 by omega)]
 refine cC rfl rfl (iput_n p (n2 - 1) 5 _ D1 E1 _ hw1 (by decide) (by omega) (by rw [itL_app];simp only [itL];omega)) (fun r L' hp=>?_)
 obtain ⟨rfl,D2,E2,hw2,rfl⟩:=hp
 refine kW ?_
 rw [show (o.length:Int) - 4=((o.length - 4:Nat):Int) from by omega,cvW (show o.length - 4 < 4294967296 by omega)]
 refine cC rfl rfl (iput_n p (o.length - 4) 4 _ D2 E2 _ hw2 (by decide) (by omega) (by rw [itL_app,itL_app];simp only [itL];omega)) (fun r L' hp=>?_)
 obtain ⟨rfl,D3,E3,hw3,rfl⟩:=hp
 rw [show a++[(n1 - 257,5)]++[(n2 - 1,5)]++[(o.length - 4,4)]=a++[(n1 - 257,5),(n2 - 1,5),(o.length - 4,4)] from by simp] at hw3
 generalize hA:a++[(n1 - 257,5),(n2 - 1,5),(o.length - 4,4)]=A at hw3
 have hAL:itL A≤1125890000000014:=by rw [←hA,itL_app];simp only [itL];omega
 refine kW ?_
 refine WC_loop (X:=Nat × Chunk × Chunk) (fun x=>[(1,.pointer (some ⟨p,0,none⟩)),(2,.pointer (some ⟨bk,0,none⟩)),(30,.slice oa o.length oc),(31,.int .i64 (o.length:Int)),(32,.int .i64 (x.1:Int))])
  (fun x=>x.2.1::x.2.2::[(bk,cl [.int .i64 (n1:Int),.int .i64 (n2:Int),.slice oa o.length oc,v1,v2,.slice ra rs.length rc] 226)]::L)
  (fun x=>x.1≤o.length∧WrI p (A++orI (o.take x.1)) x.2.1 x.2.2) (fun x=>o.length - x.1) (0,D3,E3) ⟨Nat.zero_le _,by simpa [orI] using hw3⟩ iS (fun w h=>iH h) ?_
 clear hw1 hw2 hw3 D1 D2 D3 E1 E2 E3 h D E
 rintro ⟨j,D,E⟩ ⟨hj,h⟩
 simp only at hj h ⊢
 have hlj:=orI_L (o.take j)
 rw [List.length_take,Nat.min_eq_left hj] at hlj
 (repeat' first|refine kW ?_|refine kU fun bk=>?_|refine kV fun hc=>?_|refine kZ (fun hc=>?_) fun hc=>?_|fail)
 ·have hjl:j < o.length:=by omega
  obtain ⟨x,hx⟩:∃x,o[j]? =some x:=⟨o[j],List.getElem?_eq_getElem hjl⟩
  have hx8:=hK.o7 x (List.mem_of_getElem? hx)
  obtain ⟨b1,o1,c1,cc1,T1,f1,hv9,hf1,hv1⟩:=sl_at hK.ord.sl (ivn_get hx)
  injection hv9 with q1 q2 q3
  subst q1 q3
  clear q2
  refine OW_EV (EV_indexAddr (j:=j) rfl rfl rfl hjl) rfl ?_
  refine kW ?_
  refine OW_EV (EV_load rfl (.there (.there (.there hf1))) hv1) rfl ?_
  refine kW ?_
  rw [cvW (show x < 4294967296 by omega)]
  refine cC rfl rfl (iput_n p x 3 _ D E _ h (by decide) (by omega) (by rw [itL_app];omega)) (fun r L' hp=>?_)
  obtain ⟨rfl,D1,E1,hw1,rfl⟩:=hp
  have hitems:A++orI (o.take j)++[(x,3)]=A++orI (o.take (j+1)):=by rw [takeSucc hx,List.append_assoc];simp [orI]
  rw [hitems] at hw1
  refine kW ?_
  refine WQ_round (X:=Nat × Chunk × Chunk) (μ:=fun x=>o.length - x.1) (x:=(j,D,E)) (j+1,D1,E1) (by simp only;omega) ⟨by simp only;omega,hw1⟩ iS (fun w h=>iH h)
 obtain rfl:j=o.length:=by omega
 rw [List.take_length] at h
 generalize hB:A++orI o=B at h
 have hBL:itL B≤1125890000000100:=by rw [←hB,itL_app,orI_L];omega
 skip
 refine WC_loop (X:=Nat × Chunk × Chunk) (fun x=>[(1,.pointer (some ⟨p,0,none⟩)),(2,.pointer (some ⟨bk,0,none⟩)),(42,.slice ra rs.length rc),(43,.int .i64 (rs.length:Int)),(44,.int .i64 (x.1:Int))])
  (fun x=>x.2.1::x.2.2::[(bk,cl [.int .i64 (n1:Int),.int .i64 (n2:Int),.slice oa o.length oc,v1,v2,.slice ra rs.length rc] 226)]::L)
  (fun x=>x.1≤rs.length∧WrI p (B++rnI own (rs.take x.1)) x.2.1 x.2.2) (fun x=>rs.length - x.1) (0,D,E) ⟨Nat.zero_le _,by simpa [rnI] using h⟩ iS (fun w h=>iH h) ?_
 clear hj hlj h D E
 rintro ⟨j,D,E⟩ ⟨hj,h⟩
 simp only at hj h ⊢
 have hlj:=rnI_le hK.c.ok (rs.take j)
 rw [List.length_take,Nat.min_eq_left hj] at hlj
 (repeat' first|refine kW ?_|refine kU fun bk=>?_|refine kV fun hc=>?_|refine kZ (fun hc=>?_) fun hc=>?_|fail)
 ·have hjl:j < rs.length:=by omega
  obtain ⟨x,hx⟩:∃x,rs[j]? =some x:=⟨rs[j],List.getElem?_eq_getElem hjl⟩
  have hxo:=hK.ro x (List.mem_of_getElem? hx)
  have hx7:rpB x.1≤7:=by unfold rpB;split<;>(try split)<;>(try split)<;>omega
  have hx2:x.2 < 2 ^ 7:=Nat.lt_of_lt_of_le hxo.2 (Nat.pow_le_pow_right (by decide) hx7)
  obtain ⟨tb,toff,tcap,hv9,hrd⟩:=hK.run.elem hjl (by decide)
  injection hv9 with q1 q2 q3
  subst q1 q3
  clear q2
  rw [flt_at TkV_len hx] at hrd
  refine OW_EV (EV_indexAddr (j:=j) rfl rfl rfl hjl) rfl ?_
  refine kW ?_
  refine OW_EV (EV_loadAgg rfl (rd_there (rd_there (rd_there hrd))) rfl) rfl ?_
  unfold TkV
  (refine kW ?_;refine kU fun bk=>?_;refine kW ?_)
  have hcw:=fun B1 B2=>cwrite_n v1 v2 own x.1 p _ D E (B1::B2::L) ((hK.c.sub sub_there).sub sub_there) (by have:=hK.o19;omega) h (by rw [itL_app];omega)
  refine cC rfl rfl (Gv.holds (hcw _ _) (fun w h=>iH h)) (fun r L' hp=>?_)
  obtain ⟨rfl,D1,E1,hw1,rfl⟩:=hp
  refine kW ?_
  refine cP rfl rfl (srun_n x.1 _ (by omega)) ?_
  have hs2:(sc own x.1).2≤15:=hK.c.ok.at _
  have hpu:=fun B1 B2=>iput_n p x.2 (rpB x.1) _ D1 E1 (B1::B2::L) hw1 (by omega) hxo.2 (by rw [itL_app,itL_app];simp only [itL];omega)
  have hitems:B++rnI own (rs.take j)++[sc own x.1]++[(x.2,rpB x.1)]=B++rnI own (rs.take (j+1)):=by rw [takeSucc hx,rnI_app];simp [rnI]
  rw [hitems] at hpu
  refine kW ?_
  rw [cvW (show x.2 < 4294967296 by omega)]
  refine cC rfl rfl (Gv.holds (hpu _ _) (fun w h=>iH h)) (fun r L' hp=>?_)
  obtain ⟨rfl,D2,E2,hw2,rfl⟩:=hp
  refine kW ?_
  refine WQ_round (X:=Nat × Chunk × Chunk) (μ:=fun x=>rs.length - x.1) (x:=(j,D,E)) (j+1,D2,E2) (by simp only;omega) ⟨by simp only;omega,hw2⟩ iS (fun w h=>iH h)
 ·obtain rfl:j=rs.length:=by omega
  rw [List.take_length,←hB,←hA] at h
  refine kR ?_
  exact ⟨_,iC,rfl,D,E,by unfold hwI;simpa [List.append_assoc] using h,rfl⟩
end Go.Proofs.YtemdlifojcgplaaGreatDoor
namespace Go.Df
open Go.Vx Go.If Go.Hf
set_option linter.all false
inductive Blk
 |st (t:List UInt8)
 |fx (ts:List (Nat × Nat))
 |dn (ts:List (Nat × Nat)) (l dl:List Nat) (n1 n2:Nat) (o own:List Nat) (rs:List (Nat × Nat))
def raI (b:List UInt8):List (Nat × Nat):=b.map fun c=>(c.toNat,8)
theorem raI_L:∀b,itL (raI b)=8 * b.length
 |[]=>rfl
 |x::b=>by
  have:=raI_L b
  simp only [raI] at this
  simp only [raI,List.map_cons,itL,List.length_cons,this];omega
theorem raI_V:∀b,itV (raI b)=val b
 |[]=>rfl
 |x::b=>by
  have:=raI_V b
  simp only [raI] at this
  simp only [raI,List.map_cons,itV,this,val]
theorem hwI_le [W0] {own o:List Nat} (ho:Cok own) (hl:o.length≤19) (rs:List (Nat × Nat)) (n1 n2:Nat):itL (hwI n1 n2 o own rs)≤100+22 * rs.length:=by
 have:=rnI_le ho rs
 unfold hwI
 rw [itL_app,itL_app,orI_L]
 simp only [itL]
 omega
def blI [W0] (n:Nat):Blk→List (Nat × Nat)
 |.st t=>[(0,2),(0,8 * ((n+2+7) / 8) - (n+2)),(t.length,16),(65535 - t.length,16)]++raI t
 |.fx ts=>(1,2)::(tsI fxL fxD (ts.map tok)++[sc fxL 256])
 |.dn ts l dl n1 n2 o own rs=>(2,2)::(hwI n1 n2 o own rs++(tsI l dl (ts.map tok)++[sc l 256]))
end Go.Df
namespace Go.Vx
variable [W0] {P : Program} {n : Nat} {M : List (Nat × Value)} {L : List Chunk} {d : Nat} {ty : TypeId} {ps : String} {af : Array Edge} {g : Option (Nat × Bool)} {x y : Operand}
theorem EV_nnot {t:TypeId} {m:Nat} (hx:ev M x=some (.int .u32 (m:Int))) (hm:m < 4294967296) :
 EV P n ⟨some d,.unOp .xor t x,ty,ps,af,g⟩ M L d (.int .u32 ((4294967295 - m:Nat):Int)):=by
 have:=EV_wnot (P:=P) (n:=n) (L:=L) (d:=d) (ty:=ty) (ps:=ps) (af:=af) (g:=g) (t:=t) hx (ha':=(⟨by rw [BitVec.ofInt_natCast]⟩:WI (m:Int) (BitVec.ofNat 32 m)))
 rw [BitVec.toNat_not,BitVec.toNat_ofNat,Nat.mod_eq_of_lt (show m < 2 ^ 32 by omega)] at this
 exact this
end Go.Vx
namespace Go.Proofs.YtemdlifojcgplaaGreatDoor
open Go Go.Vx Go.Hf Go.If Go.Df
variable [W0]
set_option maxRecDepth 4000
set_option linter.all false
def BlkR (L:List Chunk) (v:Value):Blk→Prop
 |.st t=>∃vt,v=.iface 220 (.agg #[vt])∧Rs L 1 vt t.length (bsv t)∧t.length≤65535
 |.fx ts=>∃vt v1 v2 v3 v4,v=.iface 186 (.agg (cdV vt v1 v2 v3 v4 (itL (coI fxL fxD ts))).toArray)∧CoR L vt v1 v2 v3 v4 ts fxL fxD
 |.dn ts l dl n1 n2 o own rs=>∃vt v1 v2 v3 v4 vo v5 v6 vr,v=.iface 228 (.agg (cdV vt v1 v2 v3 v4 (itL (coI l dl ts))++hdV n1 n2 vo v5 v6 vr).toArray)∧CoR L vt v1 v2 v3 v4 ts l dl∧HdR L vo v5 v6 vr n1 n2 o own rs
theorem BlkR.sub {L L':List Chunk} (hs:∀x∈L.flatten,x∈L'.flatten) {v:Value} {B:Blk} (h:BlkR L v B):BlkR L' v B:=by
 cases B with
 |st t=>obtain ⟨vt,h1,h2,h3⟩:=h;exact ⟨vt,h1,h2.sub hs,h3⟩
 |fx ts=>obtain ⟨vt,v1,v2,v3,v4,h1,h2⟩:=h;exact ⟨vt,v1,v2,v3,v4,h1,h2.sub hs⟩
 |dn ts l dl n1 n2 o own rs=>obtain ⟨vt,v1,v2,v3,v4,vo,v5,v6,vr,h1,h2,h3⟩:=h;exact ⟨vt,v1,v2,v3,v4,vo,v5,v6,vr,h1,h2.sub hs,h3.sub hs⟩
theorem swrite_n (vt:Value) (t:List UInt8) (p:Nat) (a:List (Nat × Nat)) (D E:Chunk) (L:List Chunk) (hK:Rs L 1 vt t.length (bsv t)) (ht:t.length≤65535) (h:WrI p a D E) (hN:itL a≤1125890000000000) :
 Gv Tryz.prog 151 [.agg #[vt],.pointer (some ⟨p,0,none⟩)].toArray (D::E::L) (fun r L'=>r=.tuple #[]∧∃D' E',WrI p (a++([(0,8 * ((itL a+7) / 8) - itL a),(t.length,16),(65535 - t.length,16)]++raI t)) D' E'∧L'=D'::E'::L):=by
 refine Gv.of_body (args:=[.agg #[vt],.pointer (some ⟨p,0,none⟩)]) Tryz.func151 rfl rfl ?_
 obtain ⟨ta,tc,hvt9⟩:∃ta tc,vt=.slice ta t.length tc:=by obtain ⟨a,c,h,_⟩:=hK.room;exact ⟨a,c,h⟩
 subst hvt9
 have hal:=fun B=>walign_n p (itV a) (itL a) D E (B::L) h (by omega)
 (refine kW ?_;refine kU fun bk=>?_;refine kW ?_)
 refine cC rfl rfl (Gv.holds (hal _) (fun w h=>iH h)) (fun r L' hp=>?_)
 obtain ⟨rfl,D1,E1,hw1,rfl⟩:=hp
 have hA1:WrI p (a++[(0,8 * ((itL a+7) / 8) - itL a)]) D1 E1:=by
  refine WrI.add ?_
  rw [Nat.mul_zero,Nat.add_zero,show itL a+(8 * ((itL a+7) / 8) - itL a)=8 * ((itL a+7) / 8) from by omega]
  exact hw1
 have hL1:itL (a++[(0,8 * ((itL a+7) / 8) - itL a)])=8 * ((itL a+7) / 8):=by rw [itL_app];simp only [itL];omega
 refine kW ?_
 rw [cvW (show t.length < 4294967296 by omega)]
 have hpu:=fun B=>iput_n p t.length 16 _ D1 E1 (B::L) hA1 (by decide) (by omega) (by rw [hL1];omega)
 refine cC rfl rfl (Gv.holds (hpu _) (fun w h=>iH h)) (fun r L' hp=>?_)
 obtain ⟨rfl,D2,E2,hw2,rfl⟩:=hp
 have hL2:itL (a++[(0,8 * ((itL a+7) / 8) - itL a)]++[(t.length,16)])=8 * ((itL a+7) / 8)+16:=by rw [itL_app,hL1];simp only [itL]
 refine kW ?_
 refine OW_EV (EV_nnot rfl (by omega)) rfl ?_
 refine kW ?_
 have hpv:=fun B=>put_n p _ _ (4294967295 - t.length) ((16:Nat):Int) D2 E2 (B::L) hw2 (by omega) (by rw [hL2];omega)
 refine cC rfl rfl (Gv.holds (hpv _) (fun w h=>iH h)) (fun r L' hp=>?_)
 obtain ⟨rfl,D3,E3,hw3,rfl⟩:=hp
 rw [clp_nat (by decide),show (4294967295 - t.length) % 2 ^ 16=65535 - t.length from by omega] at hw3
 have hw3:=WrI.add hw3
 have hL3:itL (a++[(0,8 * ((itL a+7) / 8) - itL a)]++[(t.length,16)]++[(65535 - t.length,16)])=8 * ((itL a+7) / 8+4):=by rw [itL_app,hL2];simp only [itL];omega
 refine kW ?_
 have hra:=fun B=>raw_n p _ _ t (.slice ta t.length tc) D3 E3 (B::L) hw3 (by rw [hL3];omega) (sl_there hK.sl) (by rw [hL3];omega)
 refine cC rfl rfl (Gv.holds (hra _) (fun w h=>iH h)) (fun r L' hp=>?_)
 obtain ⟨rfl,D4,E4,hw4,rfl⟩:=hp
 rw [hL3,show (8 * ((itL a+7) / 8+4)+7) / 8=(itL a+7) / 8+4 from by omega] at hw4
 refine kW ?_
 refine kR ?_
 refine ⟨_,iC,rfl,D4,E4,?_,rfl⟩
 have e1:a++([(0,8 * ((itL a+7) / 8) - itL a),(t.length,16),(65535 - t.length,16)]++raI t)=(a++[(0,8 * ((itL a+7) / 8) - itL a)]++[(t.length,16)]++[(65535 - t.length,16)])++raI t:=by simp
 rw [e1]
 generalize a++[(0,8 * ((itL a+7) / 8) - itL a)]++[(t.length,16)]++[(65535 - t.length,16)]=A at hw4 hL3 ⊢
 unfold WrI
 rw [itV_app,itL_app,raI_V,raI_L,hL3]
 exact WrD.cast hw4 (by omega)
theorem bwrite_n (v:Value) (B:Blk) (p:Nat) (a:List (Nat × Nat)) (D E:Chunk) (L:List Chunk) (hK:BlkR L v B) (h:WrI p a D E) (hN:itL a≤1125880000000000) :
 Gv Tryz.prog 115 [v,.pointer (some ⟨p,0,none⟩)].toArray (D::E::L) (fun r L'=>r=.tuple #[]∧∃D' E',WrI p (a++blI (itL a) B) D' E'∧L'=D'::E'::L):=by
 cases B with
 |st t=>
  obtain ⟨vt,rfl,hrs,ht⟩:=hK
  obtain ⟨ta,tc,rfl,_⟩:=hrs.room
  refine Gv.of_body (args:=[.iface 220 (.agg #[.slice ta t.length tc]),.pointer (some ⟨p,0,none⟩)]) Tryz.func115 rfl rfl ?_
  (refine kW ?_;refine kU fun bk=>?_;refine kW ?_)
  refine cC rfl rfl (Gv.holds (iput_n p 0 2 a D E ([(bk,cl [.slice ta t.length tc] 220)]::L) h (by decide) (by decide) (by omega)) (fun w h=>iH h)) (fun r L' hp=>?_)
  obtain ⟨rfl,D1,E1,hw1,rfl⟩:=hp
  have hL1:itL (a++[(0,2)])=itL a+2:=by rw [itL_app];rfl
  have hsw:=swrite_n (.slice ta t.length tc) t p _ D1 E1 ([(bk,cl [.slice ta t.length tc] 220)]::L) hrs.there ht hw1 (by rw [hL1];omega)
  rw [hL1] at hsw
  refine kW ?_
  refine cC rfl rfl (Gv.holds hsw (fun w h=>iH h)) (fun r L' hp=>?_)
  obtain ⟨rfl,D2,E2,hw2,rfl⟩:=hp
  refine kW ?_
  refine kR ?_
  refine ⟨_,iC,rfl,D2,E2,?_,rfl⟩
  simpa [blI] using hw2
 |fx ts=>
  obtain ⟨vt,v1,v2,v3,v4,rfl,hco⟩:=hK
  generalize itL (coI fxL fxD ts)=size
  obtain ⟨ta,tc,rfl,_⟩:=hco.t.rs.room
  obtain ⟨a1,c1,rfl,_⟩:=hco.a.l.room
  obtain ⟨a2,c2,rfl,_⟩:=hco.a.c.room
  obtain ⟨a3,c3,rfl,_⟩:=hco.b.l.room
  obtain ⟨a4,c4,rfl,_⟩:=hco.b.c.room
  unfold cdV
  refine Gv.of_body (args:=[.iface 186 (.agg #[.slice ta ts.length tc,.slice a1 fxL.length c1,.slice a2 fxL.length c2,.slice a3 fxD.length c3,.slice a4 fxD.length c4,.int .i64 (size:Int)]),.pointer (some ⟨p,0,none⟩)]) Tryz.func115 rfl rfl ?_
  (refine kW ?_;refine kU fun bk=>?_;refine kW ?_;refine kU fun bk=>?_;refine kW ?_)
  have hpu:=fun B1 B2=>iput_n p 1 2 a D E (B1::B2::L) h (by decide) (by decide) (by omega)
  refine cC rfl rfl (Gv.holds (hpu _ _) (fun w h=>iH h)) (fun r L' hp=>?_)
  obtain ⟨rfl,D1,E1,hw1,rfl⟩:=hp
  have hL1:itL (a++[(1,2)])=itL a+2:=by rw [itL_app];rfl
  have hsw:=fun B1 B2=>cowrite_n (.slice ta ts.length tc) (.slice a1 fxL.length c1) (.slice a2 fxL.length c2) (.slice a3 fxD.length c3) (.slice a4 fxD.length c4) size p ts fxL fxD _ D1 E1 (B1::B2::L) ((hco.sub sub_there).sub sub_there) hw1 (by rw [hL1];omega)
  unfold cdV at hsw
  refine kW ?_
  refine cC rfl rfl (Gv.holds (hsw _ _) (fun w h=>iH h)) (fun r L' hp=>?_)
  obtain ⟨rfl,D2,E2,hw2,rfl⟩:=hp
  refine kW ?_
  refine kR ?_
  refine ⟨_,iC,rfl,D2,E2,?_,rfl⟩
  simpa [blI,coI] using hw2
 |dn ts l dl n1 n2 o own rs=>
  obtain ⟨vt,v1,v2,v3,v4,vo,v5,v6,vr,rfl,hco,hhd⟩:=hK
  have hcl:=hwI_le hhd.c.ok hhd.ol.2 rs n1 n2
  have hrn:=hhd.rn
  generalize itL (coI l dl ts)=size
  obtain ⟨ta,tc,rfl,_⟩:=hco.t.rs.room
  obtain ⟨a1,c1,rfl,_⟩:=hco.a.l.room
  obtain ⟨a2,c2,rfl,_⟩:=hco.a.c.room
  obtain ⟨a3,c3,rfl,_⟩:=hco.b.l.room
  obtain ⟨a4,c4,rfl,_⟩:=hco.b.c.room
  obtain ⟨ao,co,rfl,_⟩:=hhd.ord.room
  obtain ⟨a5,c5,rfl,_⟩:=hhd.c.l.room
  obtain ⟨a6,c6,rfl,_⟩:=hhd.c.c.room
  obtain ⟨ar,cr,rfl,_⟩:=hhd.run.room
  unfold cdV hdV
  refine Gv.of_body (args:=[.iface 228 (.agg #[.slice ta ts.length tc,.slice a1 l.length c1,.slice a2 l.length c2,.slice a3 dl.length c3,.slice a4 dl.length c4,.int .i64 (size:Int),.int .i64 (n1:Int),.int .i64 (n2:Int),.slice ao o.length co,.slice a5 own.length c5,.slice a6 own.length c6,.slice ar rs.length cr]),.pointer (some ⟨p,0,none⟩)]) Tryz.func115 rfl rfl ?_
  (refine kW ?_;refine kU fun bk=>?_;refine kW ?_;refine kU fun bk=>?_;refine kW ?_;refine kU fun bk=>?_;refine kW ?_)
  have hpu:=fun B1 B2 B3=>iput_n p 2 2 a D E (B1::B2::B3::L) h (by decide) (by decide) (by omega)
  refine cC rfl rfl (Gv.holds (hpu _ _ _) (fun w h=>iH h)) (fun r L' hp=>?_)
  obtain ⟨rfl,D1,E1,hw1,rfl⟩:=hp
  have hL1:itL (a++[(2,2)])=itL a+2:=by rw [itL_app];rfl
  have hhw:=fun B1 B2 B3=>hdwrite_n (.slice ao o.length co) (.slice a5 own.length c5) (.slice a6 own.length c6) (.slice ar rs.length cr) n1 n2 p o own rs _ D1 E1 (B1::B2::B3::L) (((hhd.sub sub_there).sub sub_there).sub sub_there) hw1 (by rw [hL1];omega)
  unfold hdV at hhw
  refine kW ?_
  refine cC rfl rfl (Gv.holds (hhw _ _ _) (fun w h=>iH h)) (fun r L' hp=>?_)
  obtain ⟨rfl,D2,E2,hw2,rfl⟩:=hp
  have hsw:=fun B1 B2 B3=>cowrite_n (.slice ta ts.length tc) (.slice a1 l.length c1) (.slice a2 l.length c2) (.slice a3 dl.length c3) (.slice a4 dl.length c4) size p ts l dl _ D2 E2 (B1::B2::B3::L) (((hco.sub sub_there).sub sub_there).sub sub_there) hw2 (by rw [itL_app,hL1];omega)
  unfold cdV at hsw
  refine kW ?_
  refine cC rfl rfl (Gv.holds (hsw _ _ _) (fun w h=>iH h)) (fun r L' hp=>?_)
  obtain ⟨rfl,D3,E3,hw3,rfl⟩:=hp
  refine kW ?_
  refine kR ?_
  refine ⟨_,iC,rfl,D3,E3,?_,rfl⟩
  simpa [blI,coI] using hw3
end Go.Proofs.YtemdlifojcgplaaGreatDoor
namespace Go.Df
open Go.Vx Go.If Go.Hf
set_option linter.all false
def bsI [W0] (a:List (Nat × Nat)):List Blk→List (Nat × Nat)
 |[]=>a
 |B::r=>bsI ((a++[(0,1)])++blI (itL a+1) B) r
theorem bsI_app [W0] (B:Blk):∀(x:List Blk) (a:List (Nat × Nat)),bsI a (x++[B])=(bsI a x++[(0,1)])++blI (itL (bsI a x)+1) B
 |[],a=>rfl
 |C::x,a=>by rw [List.cons_append,bsI,bsI,bsI_app B x]
def wrI [W0] (x:List Blk) (q:Blk):List (Nat × Nat):=(bsI [] x++[(1,1)])++blI (itL (bsI [] x)+1) q
end Go.Df
namespace Go.Proofs.YtemdlifojcgplaaGreatDoor
open Go Go.Vx Go.Hf Go.If Go.Df
variable [W0]
set_option maxRecDepth 4000
set_option linter.all false
theorem BlkR.le {L:List Chunk} {v:Value} {B:Blk} (h:BlkR L v B) (n:Nat):itL (blI n B)≤10000000:=by
 cases B with
 |st t=>
  obtain ⟨vt,_,_,h3⟩:=h
  simp only [blI]
  rw [itL_app,raI_L]
  simp only [itL]
  omega
 |fx ts=>
  obtain ⟨vt,v1,v2,v3,v4,_,hc⟩:=h
  have h1:=tsI_le hc.a.ok hc.b.ok hc.t.ok
  have h2:(sc fxL 256).2≤15:=hc.a.ok.at 256
  have h3:=hc.nt
  simp only [blI,itL]
  rw [itL_app]
  simp only [itL]
  omega
 |dn ts l dl n1 n2 o own rs=>
  obtain ⟨vt,v1,v2,v3,v4,vo,v5,v6,vr,_,hc,hh⟩:=h
  have h1:=tsI_le hc.a.ok hc.b.ok hc.t.ok
  have h2:(sc l 256).2≤15:=hc.a.ok.at 256
  have h3:=hc.nt
  have h4:=hwI_le hh.c.ok hh.ol.2 rs n1 n2
  have h5:=hh.rn
  simp only [blI,itL]
  rw [itL_app,itL_app]
  simp only [itL]
  omega
structure BlsR (L:List Chunk) (v:Value) (bs:List Blk):Prop where
 ex:∃vs:List Value,Rs L 1 v bs.length vs∧ones vs=true∧∀(i:Nat) (B:Blk),bs[i]? =some B→∃u,vs[i]? =some u∧BlkR L u B
theorem BlsR.sub {L L':List Chunk} (hs:∀x∈L.flatten,x∈L'.flatten) {v:Value} {bs:List Blk} (h:BlsR L v bs):BlsR L' v bs:=by
 obtain ⟨vs,h1,h2,h3⟩:=h.ex
 exact ⟨vs,h1.sub hs,h2,fun i B hi=>by obtain ⟨u,h4,h5⟩:=h3 i B hi;exact ⟨u,h4,h5.sub hs⟩⟩
theorem bsI_le {L:List Chunk} {v:Value} {bs:List Blk} (h:BlsR L v bs) (j:Nat) (hj:j≤bs.length):itL (bsI [] (bs.take j))≤10000001 * j:=by
 obtain ⟨vs,_,_,h3⟩:=h.ex
 induction j with
 |zero=>simp [bsI,itL]
 |succ j ih=>
  have hjl:j < bs.length:=hj
  obtain ⟨B,hB⟩:∃B,bs[j]? =some B:=⟨bs[j],List.getElem?_eq_getElem hjl⟩
  obtain ⟨u,_,hu⟩:=h3 j B hB
  have h4:=hu.le (itL (bsI [] (bs.take j))+1)
  have h5:=ih (by omega)
  rw [takeSucc hB,bsI_app,itL_app,itL_app]
  simp only [itL]
  omega
theorem written_n (v:Value) (bs:List Blk) (q:Blk) (L:List Chunk) (hK:BlsR L v (bs++[q])) (hn:bs.length≤1000) :
 Gv Tryz.prog 74 [v].toArray L (fun r L'=>∃C,Ow 5 1 r ((itL (wrI bs q)+7) / 8) (bsv (leB (itV (wrI bs q)) ((itL (wrI bs q)+7) / 8))) C∧L'=C::L):=by
 refine Gv.of_body (args:=[v]) Tryz.func74 rfl rfl ?_
 obtain ⟨vs,hrs,hon,hbl⟩:=hK.ex
 rw [List.length_append,List.length_singleton] at hrs
 obtain ⟨r,hr,hev⟩:=EV_sliceRs (P:=Tryz.prog) (T:=113) hrs (l:=0) (h:=bs.length) (by omega) (by omega)
 obtain ⟨va,vc,rfl,_⟩:=hrs.room
 rw [Nat.zero_mul,List.drop_zero,Nat.sub_zero,Nat.mul_one] at hr
 obtain ⟨ra,rc,rfl,_⟩:=hr.room
 (refine kW ?_;refine kU fun bk=>?_;refine kW ?_)
 rw [show ((bs.length+1:Nat):Int) - 1=(bs.length:Int) from by omega]
 refine OW_EV (hev rfl rfl rfl) rfl ?_
 have hall:∀j,j≤bs.length→itL (bsI [] (bs.take j))≤10000001 * j:=fun j hj=>by
  have:=bsI_le hK j (by simp;omega)
  rwa [List.take_append_of_le_length hj] at this
 refine kW ?_
 refine WC_loop (X:=Nat × Chunk × Chunk) (fun x=>[(0,.slice va (bs.length+1) vc),(3,.pointer (some ⟨bk,0,none⟩)),(12,.slice ra (bs.length - 0) rc),(13,.int .i64 ((bs.length - 0:Nat):Int)),(14,.int .i64 (x.1:Int))]) (fun x=>x.2.1::x.2.2::L)
  (fun x=>x.1≤bs.length∧WrI bk (bsI [] (bs.take x.1)) x.2.1 x.2.2) (fun x=>bs.length - x.1) (0,_,[]) ⟨Nat.zero_le _,WrI.new bk⟩ iS (fun w h=>Holds.gap.2 h) ?_
 rintro ⟨j,D,E⟩ ⟨hj,h⟩
 simp only at hj h ⊢
 have hlj:=hall j hj
 (repeat' first|refine kW ?_|refine kU fun bk=>?_|refine kV fun hc=>?_|refine kZ (fun hc=>?_) fun hc=>?_|fail)
 ·have hjl:j < bs.length:=by omega
  obtain ⟨B,hB⟩:∃B,bs[j]? =some B:=⟨bs[j],List.getElem?_eq_getElem hjl⟩
  obtain ⟨u,hu,hbu⟩:=hbl j B (by rw [List.getElem?_append_left hjl];exact hB)
  obtain ⟨b1,o1,c1,cc1,T1,f1,hv9,hf1,hv1⟩:=sl_at hr.sl (k:=j) (u:=u) (by rw [List.getElem?_take,if_pos (by omega)];exact hu)
  injection hv9 with q1 q2 q3
  subst q1 q3
  clear q2
  refine OW_EV (EV_indexAddr (j:=j) rfl rfl rfl (by omega)) rfl ?_
  refine kW ?_
  refine OW_EV (EV_load rfl (.there (.there hf1)) hv1) rfl ?_
  refine kW ?_
  refine cC rfl rfl (iput_n bk 0 1 _ D E L h (by decide) (by decide) (by omega)) (fun r L' hp=>?_)
  obtain ⟨rfl,D1,E1,hw1,rfl⟩:=hp
  have hL1:itL (bsI [] (bs.take j)++[(0,1)])=itL (bsI [] (bs.take j))+1:=by rw [itL_app];rfl
  have hbw:=bwrite_n u B bk _ D1 E1 L hbu hw1 (by rw [hL1];omega)
  rw [hL1,←bsI_app,←takeSucc hB] at hbw
  refine kW ?_
  refine cC rfl rfl hbw (fun r L' hp=>?_)
  obtain ⟨rfl,D2,E2,hw2,rfl⟩:=hp
  refine kW ?_
  refine WQ_round (X:=Nat × Chunk × Chunk) (μ:=fun x=>bs.length - x.1) (x:=(j,D,E)) (j+1,D2,E2) (by simp only;omega) ⟨by simp only;omega,hw2⟩ iS (fun w h=>iH h)
 ·obtain rfl:j=bs.length:=by omega
  rw [List.take_length] at h hlj
  obtain ⟨u,hu,hbu⟩:=hbl bs.length q (by simp)
  obtain ⟨b1,o1,c1,cc1,T1,f1,hv9,hf1,hv1⟩:=sl_at hrs.sl hu
  injection hv9 with q1 q2 q3
  subst q1 q3
  clear q2
  refine cC rfl rfl (iput_n bk 1 1 _ D E L h (by decide) (by decide) (by omega)) (fun r L' hp=>?_)
  obtain ⟨rfl,D1,E1,hw1,rfl⟩:=hp
  have hL1:itL (bsI [] bs++[(1,1)])=itL (bsI [] bs)+1:=by rw [itL_app];rfl
  have hle:=hbu.le (itL (bsI [] bs)+1)
  have hbw:=bwrite_n u q bk _ D1 E1 L hbu hw1 (by rw [hL1];omega)
  rw [hL1] at hbw
  have hwI:itL (wrI bs q)≤1125880000000000:=by unfold wrI;rw [itL_app,hL1];omega
  refine kW ?_
  rw [show ((bs.length+1:Nat):Int) - 1=(bs.length:Int) from by omega]
  refine OW_EV (EV_indexAddr (j:=bs.length) rfl rfl rfl (by omega)) rfl ?_
  refine kW ?_
  refine OW_EV (EV_load rfl (.there (.there hf1)) hv1) rfl ?_
  refine kW ?_
  refine cC rfl rfl hbw (fun r L' hp=>?_)
  obtain ⟨rfl,D2,E2,hw2,rfl⟩:=hp
  refine kW ?_
  refine cC rfl rfl (wbytes_n bk _ _ D2 E2 L hw2 (by show itL (wrI bs q)≤_;omega)) (fun r L' hp=>?_)
  obtain ⟨C,rfl,ho⟩:=hp
  refine kW ?_
  refine kR ?_
  exact ⟨_,iC,C,ho,rfl⟩
end Go.Proofs.YtemdlifojcgplaaGreatDoor
namespace Go.Df
open Go.Vx Go.If Go.Hf
set_option linter.all false
def stF:Nat→List UInt8→List Blk
 |0,b=>[.st b]
 |f+1,b=>if 65535 < b.length then .st (b.take 65535)::stF f (b.drop 65535) else [.st b]
def stB (b:List UInt8):List Blk:=stF b.length b
theorem stF_stop {b:List UInt8} (h:¬65535 < b.length):∀f,stF f b=[.st b]
 |0=>rfl
 |f+1=>by rw [stF,if_neg h]
end Go.Df
namespace Go.Proofs.YtemdlifojcgplaaGreatDoor
open Go Go.Vx Go.Hf Go.If Go.Df
variable [W0]
set_option maxRecDepth 4000
set_option linter.all false
structure BlsO (L:List Chunk) (v:Value) (bs:List Blk) (C:Chunk):Prop where
 ex:∃vs:List Value,Ow 173 1 v bs.length vs C∧ones vs=true∧∀(i:Nat) (B:Blk),bs[i]? =some B→∃u,vs[i]? =some u∧BlkR L u B
theorem BlsO.r {L:List Chunk} {v:Value} {bs:List Blk} {C:Chunk} (h:BlsO L v bs C):BlsR (C::L) v bs:=by
 obtain ⟨vs,h1,h2,h3⟩:=h.ex
 exact ⟨vs,Rs.ow h1,h2,fun i B hi=>by obtain ⟨u,h4,h5⟩:=h3 i B hi;exact ⟨u,h4,h5.sub sub_there⟩⟩
theorem BlsO.nil (L:List Chunk):BlsO L (.slice none 0 0) [] []:=⟨[],.inl ⟨rfl,rfl,rfl,rfl⟩,rfl,fun i B h=>by simp at h⟩
theorem BlsO.push {L:List Chunk} {v' u:Value} {bs:List Blk} {B:Blk} {C':Chunk} {vs:List Value} (h2:ones vs=true) (h3:∀(i:Nat) (B:Blk),bs[i]? =some B→∃u,vs[i]? =some u∧BlkR L u B) (hl:vs.length=bs.length)
 (ho:Ow 173 1 v' (bs.length+1) (vs++[u]) C') (h1:u.oneCell'=true) (hB:BlkR L u B):BlsO L v' (bs++[B]) C':=by
 refine ⟨vs++[u],by simpa using ho,?_,fun i B' hi=>?_⟩
 ·simp only [ones,List.all_append,List.all_cons,List.all_nil,Bool.and_true,h1] at h2 ⊢
  exact h2
 ·rcases Nat.lt_or_ge i bs.length with hlt|hge
  ·rw [List.getElem?_append_left hlt] at hi
   obtain ⟨u',h4,h5⟩:=h3 i B' hi
   exact ⟨u',by rw [List.getElem?_append_left (by omega)];exact h4,h5⟩
  ·rw [List.getElem?_append_right hge] at hi
   have h0:i - bs.length=0:=by
    rcases Nat.eq_zero_or_pos (i - bs.length) with h|h
    ·exact h
    ·rw [List.getElem?_eq_none (show [B].length≤i - bs.length from h)] at hi
     cases hi
   rw [h0] at hi
   simp only [List.getElem?_cons_zero,Option.some.injEq] at hi
   subst hi
   exact ⟨u,by rw [List.getElem?_append_right (by omega),show i - vs.length=0 from by omega];rfl,hB⟩
theorem flags_n (level:Int) (L:List Chunk):GvP Tryz.prog 45 [.int .i64 level].toArray L (.int .u8 (if level≤0 then 1 else if level=1 then 94 else 156)):=by
 refine Gv.of_body Tryz.func45 rfl rfl ?_
 (repeat' first|refine kW ?_|refine kU fun bk=>?_|refine kV fun hc=>?_|refine kZ (fun hc=>?_) fun hc=>?_|fail)
 ·rw [if_pos (by omega)]
  refine kR ?_
  exact ⟨_,iC,rfl,rfl⟩
 ·rw [if_neg (by omega),if_pos (by omega)]
  refine kR ?_
  exact ⟨_,iC,rfl,rfl⟩
 ·rw [if_neg (by omega),if_neg (by omega)]
  refine kR ?_
  exact ⟨_,iC,rfl,rfl⟩
theorem storedOf_n (v:Value) (b:List UInt8) (S L:List Chunk) (ht:Rs S 1 v b.length (bsv b)) (hb:b.length≤200000) :
 Gv Tryz.prog 117 [v].toArray L (fun r L'=>∃C,BlsO S r (stB b) C∧L'=C::L):=by
 refine Gv.of_body (args:=[v]) Tryz.func117 rfl rfl ?_
 refine kW ?_
 refine WC_loop (X:=Nat × List UInt8 × Value × List Blk × Value × Chunk) (fun x=>[(0,x.2.2.1),(3,x.2.2.2.2.1)]) (fun x=>x.2.2.2.2.2::L)
  (fun x=>Rs S 1 x.2.2.1 x.2.1.length (bsv x.2.1)∧x.2.1.length≤x.1∧x.1≤200000∧BlsO S x.2.2.2.2.1 x.2.2.2.1 x.2.2.2.2.2∧x.2.2.2.1.length+x.1≤200000∧x.2.2.2.1++stF x.1 x.2.1=stB b) (fun x=>x.1) (b.length,b,v,[],.slice none 0 0,[])
  ⟨ht,Nat.le_refl _,hb,BlsO.nil S,by simpa using hb,rfl⟩ iS (fun w h=>Holds.nil.2 h) ?_
 clear ht v
 rintro ⟨f,t,v,bs,vl,Cl⟩ ⟨ht,htf,hf2,hbl,hbn,hst⟩
 simp only at ht htf hf2 hbl hbn hst ⊢
 obtain ⟨va,vc,rfl,hroom⟩:=ht.room
 obtain ⟨vs,hov,hon,hex⟩:=hbl.ex
 have hvl:vs.length=bs.length:=by rcases hov with ⟨_,h0,rfl,_⟩|⟨_,_,_,_,_,h,_⟩;simpa using h0.symm;omega
 (repeat' first|refine kW ?_|refine kU fun bk=>?_|refine kV fun hc=>?_|refine kZ (fun hc=>?_) fun hc=>?_|fail)
 ·have hlt:65535 < t.length:=by omega
  obtain ⟨g,rfl⟩:∃g,f=g+1:=⟨f - 1,by omega⟩
  rw [stF,if_pos hlt] at hst
  obtain ⟨r1,hr1,hev1⟩:=EV_sliceRs (P:=Tryz.prog) (T:=22) ht (l:=0) (h:=65535) (by omega) (by omega)
  obtain ⟨r2,hr2,hev2⟩:=EV_sliceRs (P:=Tryz.prog) (T:=22) ht (l:=65535) (h:=t.length) (by omega) (by omega)
  have e1:(((bsv t).drop (0 * 1)).take ((65535 - 0) * 1))=bsv (t.take 65535):=by simp [bsv,List.map_take]
  have e2:(((bsv t).drop (65535 * 1)).take ((t.length - 65535) * 1))=bsv (t.drop 65535):=by
   rw [Nat.mul_one,Nat.mul_one,List.take_of_length_le (by rw [List.length_drop,bsv_length];exact Nat.le_refl _)]
   simp [bsv,List.map_drop]
  rw [e1] at hr1
  rw [e2] at hr2
  refine OW_EV (hev1 rfl rfl rfl) rfl ?_
  obtain ⟨ra,rc,rfl,_⟩:=hr1.room
  refine kW ?_
  refine OW_buildSlice (cs:=[.iface 220 (.agg #[.slice ra (65535 - 0) rc])]) rfl (by rfl) (by first|(simp [fillL,patch,Value.cells,zeros];done)|(simp [fillL,patch,Value.cells,zeros];rfl)) (by omega) rfl rfl (fun bn=>?_)
  refine kW ?_
  refine OW_append rfl rfl hov (sl_cells (k:=1) (c:=#[.iface 220 (.agg #[.slice ra (65535 - 0) rc])]) (xs:=[.iface 220 (.agg #[.slice ra (65535 - 0) rc])]) (m:=1) Fnd.here rfl (by simp)) (by repeat (first|exact Zip.here _|apply Zip.there)) rfl (by rfl) (by omega) (by simp [maxLen];omega) rfl (fun v' C' ho' _ _=>?_)
  have hbl':=BlsO.push (B:=.st (t.take 65535)) hon hex hvl ho' rfl ⟨_,rfl,by rw [List.length_take,Nat.min_eq_left (by omega)];exact hr1,by rw [List.length_take];omega⟩
  refine kW ?_
  refine OW_EV (hev2 rfl rfl rfl) rfl ?_
  refine kW ?_
  refine WQ_round (X:=Nat × List UInt8 × Value × List Blk × Value × Chunk) (μ:=fun x=>x.1) (x:=(g+1,t,.slice va t.length vc,bs,vl,Cl)) (g,t.drop 65535,r2,bs++[.st (t.take 65535)],v',C') (by simp only;omega) ⟨by simp only;rw [List.length_drop];exact hr2,by simp only [List.length_drop];omega,by simp only;omega,hbl',by simp only [List.length_append,List.length_singleton];omega,by simp only;rw [List.append_assoc];exact hst⟩ iS (fun w h=>iH h)
 ·rw [stF_stop (by omega)] at hst
  refine OW_buildSlice (cs:=[.iface 220 (.agg #[.slice va t.length vc])]) rfl (by rfl) (by first|(simp [fillL,patch,Value.cells,zeros];done)|(simp [fillL,patch,Value.cells,zeros];rfl)) (by omega) rfl rfl (fun bn=>?_)
  refine kW ?_
  refine OW_append rfl rfl hov (sl_cells (k:=1) (c:=#[.iface 220 (.agg #[.slice va t.length vc])]) (xs:=[.iface 220 (.agg #[.slice va t.length vc])]) (m:=1) Fnd.here rfl (by simp)) (by repeat (first|exact Zip.here _|apply Zip.there)) rfl (by rfl) (by omega) (by simp [maxLen];omega) rfl (fun v' C' ho' _ _=>?_)
  have hbl':=BlsO.push (B:=.st t) hon hex hvl ho' rfl ⟨_,rfl,ht,by omega⟩
  rw [hst] at hbl'
  refine kW ?_
  refine kR ?_
  exact ⟨_,iC,C',hbl',rfl⟩
end Go.Proofs.YtemdlifojcgplaaGreatDoor
namespace Go.Df
open Go.Vx Go.If Go.Hf
set_option linter.all false
def be4 (n:Nat):List UInt8:=[UInt8.ofNat (n / 16777216),UInt8.ofNat (n / 65536),UInt8.ofNat (n / 256),UInt8.ofNat n]
def flB (level:Int):UInt8:=if level≤0 then 1 else if level=1 then 94 else 156
def wrB [W0] (x:List Blk) (q:Blk):List UInt8:=leB (itV (wrI x q)) ((itL (wrI x q)+7) / 8)
theorem u8w [W0] (m:Nat):IntKind.u8.wrap (m:Int)=((UInt8.ofNat m).toNat:Int):=by rw [wrap_u8,UInt8.toNat_ofNat'];omega
end Go.Df
namespace Go.Proofs.YtemdlifojcgplaaGreatDoor
open Go Go.Vx Go.Hf Go.If Go.Df
variable [W0]
set_option maxRecDepth 4000
set_option linter.all false
theorem zlib_n (v:Value) (level:Int) (b o:List UInt8) (L:List Chunk) (Q:List UInt8→Prop) (R:List Chunk→Prop) (hRC:∀C L',R L'→R (C::L')) (hR:R L) (ht:Rs L 1 v b.length (bsv b)) (hb:b.length≤200000)
 (hraw:∀L',R L'→Rs L' 1 v b.length (bsv b)→Gv Tryz.prog 46 [v,.int .i64 level].toArray L' (fun r L2=>∃C o,Q o∧o.length≤1000000000∧Ow 5 1 r o.length (bsv o) C∧L2=C::L')) :
 Gv Tryz.prog 21 [v,.int .i64 level].toArray L (fun r L'=>∃C o,Q o∧o.length≤1000000000∧Ow 5 1 r (2+o.length+4) (bsv ([120,flB level]++o++be4 (adlV (adlN (1#32,0#32) b)).toNat)) C∧L'=C::L):=by
 refine Gv.of_body (args:=[v,.int .i64 level]) Tryz.func21 rfl rfl ?_
 have had:=fun L' (h:Rs L' 1 v b.length (bsv b))=>adler_n b v L' (by omega) ⟨h.sl,h.room⟩
 obtain ⟨n,hn⟩:∃n,n=(adlV (adlN (1#32,0#32) b)).toNat:=⟨_,rfl⟩
 have hn2:n < 4294967296:=by rw [hn];exact (adlV (adlN (1#32,0#32) b)).isLt
 unfold w32 at had
 rw [←hn] at had ⊢
 have hfl:(if level≤0 then (1:Int) else if level=1 then 94 else 156)=((flB level).toNat:Int):=by
  unfold flB
  split
  ·rfl
  ·split<;>rfl
 have hfn:=fun L=>flags_n level L
 rw [hfl] at hfn
 refine kW ?_
 refine cP rfl rfl (hfn _) ?_
 refine kW ?_
 refine OW_buildSlice (cs:=bsv [120,flB level]) rfl (by rfl) (by first|(simp [fillL,patch,Value.cells,zeros];done)|(simp [fillL,patch,Value.cells,zeros];rfl)) (by omega) rfl rfl (fun bn=>?_)
 refine kW ?_
 refine cC rfl rfl (hraw _ (hRC _ _ hR) ht.there) (fun r L' hp=>?_)
 obtain ⟨C,o,hQ,hol,ho,rfl⟩:=hp
 refine kW ?_
 have hb2:Ow 5 1 (.slice (some ⟨bn,0,none⟩) 2 2) 2 (bsv [120,flB level]) [(bn,cl (bsv [120,flB level]) 5)]:=.inr ⟨bn,2,[],rfl,by rw [List.append_nil],rfl,rfl,Nat.le_refl _,by simp [maxLen]⟩
 refine OW_append rfl rfl hb2 (ow_sl ho) (by repeat (first|exact Zip.here _|apply Zip.there)) rfl bsv_ones (by omega) (by simp [maxLen];omega) rfl (fun v' C' ho' _ _=>?_)
 rw [←bsv_append] at ho'
 refine kW ?_
 refine cP rfl rfl (had _ ht.there.there) ?_
 refine kW ?_
 rw [show (n:Int) / 16777216=((n / 16777216:Nat):Int) from by omega,show (n:Int) / 65536=((n / 65536:Nat):Int) from by omega,show (n:Int) / 256=((n / 256:Nat):Int) from by omega,u8w,u8w,u8w,u8w]
 refine OW_buildSlice (cs:=bsv (be4 n)) rfl (by rfl) (by first|(simp [fillL,patch,Value.cells,zeros];done)|(simp [fillL,patch,Value.cells,zeros];rfl)) (by omega) rfl rfl (fun b4=>?_)
 refine jA ?_
 refine OW_append rfl rfl ho' (sl_cells (k:=1) (c:=(bsv (be4 n)).toArray) (xs:=bsv (be4 n)) (m:=4) Fnd.here rfl (by simp)) (by repeat (first|exact Zip.here _|apply Zip.there)) rfl bsv_ones (by omega) (by simp [maxLen];omega) rfl (fun v2 C2 ho2 _ _=>?_)
 rw [←bsv_append] at ho2
 refine kW ?_
 refine kR ?_
 exact ⟨_,iC,C2,o,hQ,hol,ho2,rfl⟩
end Go.Proofs.YtemdlifojcgplaaGreatDoor
namespace Go.Df
open Go.Vx
set_option linter.all false
def tr (b:List UInt8) (i:Nat):List UInt8:=(b.drop i).take 3
theorem tr_len {b:List UInt8} {i:Nat} (h:i+3≤b.length):(tr b i).length=3:=by unfold tr;rw [List.length_take,List.length_drop];omega
def lastP (b:List UInt8):Nat→List UInt8→Option Nat
 |0,_=>none
 |p+1,l=>if p+3≤b.length∧tr b p=l then some p else lastP b p l
theorem lastP_some {b:List UInt8}:∀{p:Nat} {l:List UInt8} {q:Nat},lastP b p l=some q→q < p∧q+3≤b.length∧tr b q=l
 |0,l,q,h=>by cases h
 |p+1,l,q,h=>by
  rw [lastP] at h
  split at h
  ·cases h;exact ⟨by omega,by assumption⟩
  ·have:=lastP_some h;exact ⟨by omega,this.2⟩
def nr (b:List UInt8) (i:Nat):Option Nat:=if i+3≤b.length then lastP b i (tr b i) else none
theorem nr_some {b:List UInt8} {i q:Nat} (h:nr b i=some q):q < i∧i+3≤b.length∧tr b q=tr b i:=by
 unfold nr at h
 split at h
 ·have:=lastP_some h;exact ⟨this.1,by assumption,this.2.2⟩
 ·cases h
def encP:Option Nat→Int
 |none=> -1
 |some q=>(q:Int)
def cmF (b:List UInt8) (p i:Nat):Nat→Nat→Nat
 |0,n=>n
 |f+1,n=>if b.getD (p+n) 0=b.getD (i+n) 0 then cmF b p i f (n+1) else n
theorem cmF_le (b:List UInt8) (p i:Nat):∀f n,n≤cmF b p i f n∧cmF b p i f n≤n+f
 |0,n=>by rw [cmF];omega
 |f+1,n=>by
  rw [cmF]
  split
  ·have:=cmF_le b p i f (n+1);omega
  ·omega
theorem cmF_eq (b:List UInt8) (p i:Nat):∀f n k,n≤k→k < cmF b p i f n→b.getD (p+k) 0=b.getD (i+k) 0
 |0,n,k,h1,h2=>by rw [cmF] at h2;omega
 |f+1,n,k,h1,h2=>by
  rw [cmF] at h2
  split at h2
  ·rcases Nat.eq_or_lt_of_le h1 with rfl|h1
   ·assumption
   ·exact cmF_eq b p i f (n+1) k h1 h2
  ·omega
theorem cmF_ge (b:List UInt8) (p i:Nat):∀f n m,m≤n+f→(∀k,n≤k→k < m→b.getD (p+k) 0=b.getD (i+k) 0)→m≤cmF b p i f n
 |0,n,m,h1,h2=>by rw [cmF];omega
 |f+1,n,m,h1,h2=>by
  rw [cmF]
  split
  ·exact cmF_ge b p i f (n+1) m (by omega) fun k h3 h4=>h2 k (by omega) h4
  ·rename_i hh
   rcases Nat.lt_or_ge n m with h3|h3
   ·exact absurd (h2 n (Nat.le_refl _) h3) hh
   ·exact h3
def cm (b:List UInt8) (p i most:Nat):Nat:=cmF b p i most 0
def mostL (b:List UInt8) (i:Nat):Nat:=min 258 (b.length - i)
def lgF (b:List UInt8) (reach:Int) (i:Nat):Nat→Option Nat→Nat × Nat→Nat × Nat
 |0,_,m=>m
 |f+1,none,m=>m
 |f+1,some q,m=>if m.1 < mostL b i∧(i:Int) - (q:Int)≤reach then lgF b reach i f (nr b q) (if m.1 < cm b q i (mostL b i) then (cm b q i (mostL b i),i - q) else m) else m
def lg (b:List UInt8) (reach:Int) (i:Nat):Nat × Nat:=lgF b reach i 256 (nr b i) (0,0)
structure MOk (b:List UInt8) (reach:Int) (i n d:Nat):Prop where
 n3:3≤n
 nm:n≤258
 fit:i+n≤b.length
 d1:1≤d
 dr:(d:Int)≤reach
 di:d≤i
 eq:∀k,k < n→b.getD (i+k) 0=b.getD (i+k - d) 0
theorem tr_get {b:List UInt8} {p i:Nat} (h:tr b p=tr b i):∀k,k < 3→b.getD (p+k) 0=b.getD (i+k) 0:=by
 intro k hk
 have h2:=congrArg (fun l=>l[k]?) h
 simp only [tr,List.getElem?_take,hk,if_true,List.getElem?_drop] at h2
 simp only [List.getD_eq_getElem?_getD,h2]
theorem lgF_ok {b:List UInt8} {reach:Int} {i:Nat} (hi:i+3≤b.length):∀(f:Nat) (p:Option Nat) (m:Nat × Nat),(∀q,p=some q→q < i∧tr b q=tr b i)→(m.1=0∨MOk b reach i m.1 m.2)→
 (lgF b reach i f p m).1=0∨MOk b reach i (lgF b reach i f p m).1 (lgF b reach i f p m).2
 |0,p,m,hp,hm=>by rw [lgF];exact hm
 |f+1,none,m,hp,hm=>by rw [lgF];exact hm
 |f+1,some q,m,hp,hm=>by
  rw [lgF]
  split
  ·rename_i hc
   obtain ⟨q1,q2⟩:=hp q rfl
   refine lgF_ok hi f _ _ (fun q' hq'=>?_) ?_
   ·have:=nr_some hq'
    exact ⟨by omega,by rw [this.2.2,q2]⟩
   ·split
    ·right
     have hc3:3≤cm b q i (mostL b i):=cmF_ge b q i _ 0 3 (by unfold mostL;omega) fun k _ h=>tr_get q2 k h
     have hcl:=(cmF_le b q i (mostL b i) 0).2
     have hcl':cm b q i (mostL b i)≤mostL b i:=by unfold cm;omega
     unfold mostL at hcl'
     unfold mostL at hc3
     exact ⟨hc3,by unfold mostL;omega,by unfold mostL;omega,by simp only;omega,by simp only;omega,by simp only;omega,fun k hk=>by
      have:=cmF_eq b q i _ 0 k (Nat.zero_le _) hk
      rw [show i+k - (i - q)=q+k from by omega,this]⟩
    ·exact hm
  ·exact hm
theorem lg_ok (b:List UInt8) (reach:Int) (i:Nat):(lg b reach i).1=0∨MOk b reach i (lg b reach i).1 (lg b reach i).2:=by
 unfold lg
 by_cases hi:i+3≤b.length
 ·exact lgF_ok hi 256 _ _ (fun q hq=>⟨(nr_some hq).1,(nr_some hq).2.2⟩) (.inl rfl)
 ·left
  unfold nr
  rw [if_neg hi]
  rfl
def msF (b:List UInt8) (reach:Int):Nat→Nat→List (Nat × Nat × Nat)
 |0,_=>[]
 |f+1,i=>if i < b.length then (if 0 < (lg b reach i).1 then [(i,lg b reach i)] else [])++msF b reach f (i+max (lg b reach i).1 1) else []
def msR (b:List UInt8) (reach:Int):List (Nat × Nat × Nat):=msF b (min reach 32768) b.length 0
def MsOk (b:List UInt8) (reach:Int):Nat→List (Nat × Nat × Nat)→Prop
 |_,[]=>True
 |i,m::r=>i≤m.1∧MOk b reach m.1 m.2.1 m.2.2∧MsOk b reach (m.1+m.2.1) r
theorem MsOk.mono {b:List UInt8} {reach:Int}:∀{i j:Nat} {l:List (Nat × Nat × Nat)},i≤j→MsOk b reach j l→MsOk b reach i l
 |_,_,[],_,_=>trivial
 |_,_,m::r,h,hm=>⟨Nat.le_trans h hm.1,hm.2⟩
theorem msF_ok (b:List UInt8) (reach:Int):∀f i,MsOk b reach i (msF b reach f i)
 |0,i=>trivial
 |f+1,i=>by
  rw [msF]
  split
  ·split
   ·rename_i h
    have hm:=(lg_ok b reach i).resolve_left (by omega)
    refine ⟨Nat.le_refl _,hm,?_⟩
    have:=msF_ok b reach f (i+max (lg b reach i).1 1)
    exact this.mono (by simp only;omega)
   ·exact (msF_ok b reach f _).mono (by omega)
  ·trivial
theorem msR_ok (b:List UInt8) (reach:Int):MsOk b (min reach 32768) 0 (msR b reach):=msF_ok b _ _ _
theorem msF_fuel (b:List UInt8) (reach:Int):∀f i g,b.length - i≤f→f≤g→msF b reach g i=msF b reach f i
 |0,i,0,_,_=>rfl
 |0,i,g+1,h1,_=>by rw [msF,msF,if_neg (by omega)]
 |f+1,i,g+1,h1,h2=>by
  rw [msF,msF]
  split
  ·rw [msF_fuel b reach f _ g (by omega) (by omega)]
  ·rfl
end Go.Df
namespace Go.Proofs.YtemdlifojcgplaaGreatDoor
open Go Go.Vx Go.Df
set_option maxRecDepth 4000
set_option linter.all false
theorem mapTy:Tryz.prog.underlying 280=some (.map 305 3):=by kernel_rfl
instance:KA Tryz.prog 305 5:=⟨⟨by kernel_rfl,by kernel_rfl,by kernel_rfl,by kernel_rfl⟩,by kernel_rfl,⟨Tryz.prog.types.size - 1,by kernel_rfl⟩⟩
variable [W0]
omit [W0] in
def fnV (v:Value) (reach:Int) (mb:Nat) (ve:Value):List Value:=[v,.int .i64 reach,.map (some mb),ve]
omit [W0] in
def fnO (v:Value) (reach:Int) (mb:Nat) (ve:Value):Obj:=cl (fnV v reach mb ve) 282
theorem slb {L:List Chunk} {v:Value} {m:Nat} {t:List UInt8} (h:Sl L 1 v m (bsv t)) (hm:0 < m) :
 ∃bb off cap c T fr,v=.slice (some ⟨bb,off,none⟩) m cap∧Fnd L bb (.cells c T fr)∧∀k,k < m→c[off+k * 1]? =some (.int .u8 ((t.getD k 0).toNat:Int)):=by
 rcases h with ⟨c,rfl,rfl,h0⟩|⟨a,cap,rfl,hr,hl⟩
 ·omega
 ·rw [bsv_length,Nat.mul_one] at hl
  rcases hr with h0|⟨b,off,c,T,fr,rfl,h1,h2⟩
  ·have h9:(bsv t).length=0:=by rw [h0];rfl
   rw [bsv_length] at h9
   omega
  ·exact ⟨b,off,cap,c,T,fr,rfl,h1,fun k hk=>by rw [Nat.mul_one];exact h2 _ _ (bsv_get (by simp [List.getD,show k < t.length by omega]))⟩
theorem begins_n (p mb:Nat) (v ve:Value) (reach:Int) (b:List UInt8) (i:Nat) (L:List Chunk) (ht:Sl L 1 v b.length (bsv b)) (hf:Fnd L p (fnO v reach mb ve)) (hb:b.length≤200000) (hi:i≤200000) :
 GvP Tryz.prog 235 [.pointer (some ⟨p,0,none⟩),.int .i64 (i:Int)].toArray L (.bool (decide (i+3≤b.length))):=by
 refine Gv.of_body Tryz.func235 rfl rfl ?_
 obtain ⟨va,vc,rfl⟩:=sl_slice ht
 unfold fnO fnV at hf
 refine kW ?_
 refine kR ?_
 exact ⟨_,iC,congrArg Value.bool (by rw [Bool.eq_iff_iff];simp only [decide_eq_true_eq];omega),rfl⟩
theorem common_n (p mb:Nat) (v ve:Value) (reach:Int) (b:List UInt8) (q i most:Nat) (L:List Chunk) (ht:Sl L 1 v b.length (bsv b)) (hf:Fnd L p (fnO v reach mb ve)) (hb:b.length≤200000) (hi:i+most≤b.length) (hq:q≤i) (h0:i < b.length) :
 GvP Tryz.prog 234 [.pointer (some ⟨p,0,none⟩),.int .i64 (q:Int),.int .i64 (i:Int),.int .i64 (most:Int)].toArray L (.int .i64 ((cm b q i most:Nat):Int)):=by
 refine Gv.of_body Tryz.func234 rfl rfl ?_
 obtain ⟨bb,off,cap,cc,T,fr,rfl,hfn,hcs⟩:=slb ht (by omega)
 unfold fnO fnV at hf
 refine kW ?_
 refine WC_loop (X:=Nat) (fun x=>[(0,.pointer (some ⟨p,0,none⟩)),(1,.int .i64 (q:Int)),(2,.int .i64 (i:Int)),(3,.int .i64 (most:Int)),(9,.int .i64 (x:Int))]) (fun x=>L)
  (fun x=>x≤most∧cmF b q i (most - x) x=cm b q i most) (fun x=>most - x) 0 ⟨Nat.zero_le _,rfl⟩ iS (fun w h=>h) ?_
 rintro k ⟨hk,hm⟩
 refine kW ?_
 by_cases hkm:k < most
 ·obtain ⟨f,hf2⟩:∃f,most - k=f+1:=⟨most - k - 1,by omega⟩
  rw [hf2,cmF] at hm
  have hc1:=hcs (q+k) (by omega)
  have hc2:=hcs (i+k) (by omega)
  generalize b.getD (q+k) 0=x at hm hc1
  generalize b.getD (i+k) 0=y at hm hc2
  refine WC_drawAll [] mixed ?_
  (refine WR_t 0 ?_;refine WR_t 1 ?_;refine WR_t 2 ?_;refine WR_t 3 ?_)
  rw [show decide ((k:Int) < (most:Int))=true from by simp;omega]
  (refine WR_u 4 ?_;refine WR_u 5 ?_;refine WR_u 6 ?_;refine WR_u 7 ?_;refine WR_u 8 ?_;refine WR_u 9 ?_;refine WR_u 10 ?_)
  refine cO 11 rfl rfl rfl (EV_indexAddr (j:=q+k) (len:=b.length) rfl rfl (by omega) (by omega)) ?_
  refine cO 12 rfl rfl rfl (EV_load rfl hfn hc1) ?_
  (refine WR_u 13 ?_;refine WR_u 14 ?_;refine WR_u 15 ?_;refine WR_u 16 ?_;refine WR_u 17 ?_;refine WR_u 18 ?_;refine WR_u 19 ?_)
  refine cO 20 rfl rfl rfl (EV_indexAddr (j:=i+k) (len:=b.length) rfl rfl (by omega) (by omega)) ?_
  refine cO 21 rfl rfl rfl (EV_load rfl hfn hc2) ?_
  (refine WR_u 22 ?_)
  (refine WR_t 23 ?_)
  refine cD ?_
  (repeat' first|refine kW ?_|refine kU fun bk=>?_|refine kV fun hc=>?_|refine kZ (fun hc=>?_) fun hc=>?_|fail)
  ·have hxy:x=y:=UInt8.toNat_inj.1 (by omega)
   rw [if_pos hxy] at hm
   refine WQ_round (X:=Nat) (μ:=fun x=>most - x) (x:=k) (k+1) (by show most - (k+1) < most - k;omega) ⟨by omega,by rw [show most - (k+1)=f from by omega];exact hm⟩ iS (fun w h=>h)
  ·have hxy:¬x=y:=fun hh=>hc (by rw [hh])
   rw [if_neg hxy] at hm
   rw [←hm]
   refine kR ?_
   exact ⟨_,iC,rfl,rfl⟩
 ·obtain rfl:k=most:=by omega
  rw [show k - k=0 from by omega,cmF] at hm
  refine WC_drawAll [] mixed ?_
  (refine WR_t 0 ?_;refine WR_t 1 ?_;refine WR_t 2 ?_;refine WR_t 3 ?_)
  rw [show decide ((k:Int) < (k:Int))=false from by simp]
  (refine WR_v 4 ?_;refine WR_v 5 ?_;refine WR_v 6 ?_;refine WR_v 7 ?_;refine WR_v 8 ?_;refine WR_v 9 ?_;refine WR_v 10 ?_;refine WR_v 11 ?_;refine WR_v 12 ?_;refine WR_v 13 ?_;refine WR_v 14 ?_;refine WR_v 15 ?_;refine WR_v 16 ?_;refine WR_v 17 ?_;refine WR_v 18 ?_;refine WR_v 19 ?_;refine WR_v 20 ?_;refine WR_v 21 ?_;refine WR_v 22 ?_)
  (refine WR_t 23 ?_)
  refine cD ?_
  refine kW ?_
  rw [←hm]
  refine kR ?_
  exact ⟨_,iC,rfl,rfl⟩
theorem triple_n (p mb:Nat) (v ve:Value) (reach:Int) (b:List UInt8) (i:Nat) (L:List Chunk) (ht:Rs L 1 v b.length (bsv b)) (hf:Fnd L p (fnO v reach mb ve)) (hb:b.length≤200000) (hi:i+3≤b.length) :
 GvP Tryz.prog 236 [.pointer (some ⟨p,0,none⟩),.int .i64 (i:Int)].toArray L (kv3 (tr b i)):=by
 refine Gv.of_body Tryz.func236 rfl rfl ?_
 obtain ⟨r,hr,hev⟩:=EV_sliceRs (P:=Tryz.prog) (T:=22) ht (l:=i) (h:=b.length) (by omega) (Nat.le_refl _)
 obtain ⟨va,vc,rfl,_⟩:=ht.room
 unfold fnO fnV at hf
 have hl3:(bsv (tr b i)).length=3:=by rw [bsv_length,tr_len hi]
 have htr:(((bsv b).drop (i * 1)).take ((b.length - i) * 1)).take 3=bsv (tr b i):=by
  rw [Nat.mul_one,Nat.mul_one,List.take_take,show min 3 (b.length - i)=3 from by omega]
  simp [bsv,tr,List.map_take,List.map_drop]
 rcases hr.sl with ⟨c0,_,h0,_⟩|⟨a0,cap0,rfl,hrd,hlen⟩
 ·omega
 have hrd:=rd_take hrd 3
 rw [htr] at hrd
 (refine kW ?_;refine kU fun bk=>?_;refine kW ?_)
 refine OW_EV (hev rfl rfl rfl) rfl ?_
 refine kW ?_
 refine OW_EV (EV_toArr rfl (by omega)) rfl ?_
 refine kW ?_
 refine OW_EV (EV_loadAgg rfl (rd_there hrd) hl3) rfl ?_
 refine kW ?_
 refine OW_storeAggTo (l:=[.int .u8 0,.int .u8 0,.int .u8 0]) (bsv (tr b i)) rfl rfl hl3 bsv_ones (by
  match bsv (tr b i),hl3 with
  |[x,y,z],_=>rfl) iU (by simp [hl3]) ?_
 refine kW ?_
 have hrc:RdAt ([(bk,cl (bsv (tr b i)) 305)]::L) ⟨bk,0,none⟩ (bsv (tr b i)):=RdAt.cl' Fnd.here (by unfold cut;rw [List.drop_zero,List.take_length])
 first
  |(refine WQ_retC (vs:=[kv3 (tr b i)]) rfl (.agg ⟨by kernel_rfl,by kernel_rfl⟩ rfl hrc hl3 .nil) ?_
    exact ⟨_,fun w h=>h.drop,rfl,rfl⟩)
  |(refine WQ_endC (vs:=[kv3 (tr b i)]) rfl (.agg ⟨by kernel_rfl,by kernel_rfl⟩ rfl hrc hl3 .nil) ?_
    exact ⟨_,fun w h=>h.drop,rfl,rfl⟩)
theorem nearest_n (p mb:Nat) (v ve:Value) (reach:Int) (b:List UInt8) (i:Nat) (C:Chunk) (L:List Chunk) (ht:Rs L 1 v b.length (bsv b)) (hf:Fnd L p (fnO v reach mb ve)) (hb:b.length≤200000) (hi:i≤200000) (hm:MpD mb (lastP b i) C) (hin:Inc [C] L) :
 GvP Tryz.prog 233 [.pointer (some ⟨p,0,none⟩),.int .i64 (i:Int)].toArray L (.int .i64 (encP (nr b i))):=by
 refine Gv.of_body Tryz.func233 rfl rfl ?_
 have h1:=begins_n p mb v ve reach b i L ht.sl hf hb hi
 have hf':=hf
 unfold fnO fnV at hf'
 unfold nr
 refine kW ?_
 refine cP rfl rfl h1 ?_
 (repeat' first|refine kW ?_|refine kU fun bk=>?_|refine kV fun hc=>?_|refine kZ (fun hc=>?_) fun hc=>?_|fail)
 ·rw [if_pos hc]
  have h2:=triple_n p mb v ve reach b i L ht hf hb hc
  refine WC_drawAll [] mixed ?_
  (refine WR_t 0 ?_;refine WR_t 1 ?_;refine WR_t 2 ?_;refine WR_t 3 ?_;refine WR_t 4 ?_;refine WR_t 5 ?_)
  refine cI 6 rfl rfl ?_
  refine cP rfl rfl h2 ?_
  refine ⟨iC,?_⟩
  refine cT 7 rfl rfl (EV_mlook mapTy rfl rfl (tr_len hc) hm hin) ?_
  (refine WR_t 8 ?_;refine WR_t 9 ?_;refine WR_t 10 ?_;refine WR_t 11 ?_;refine WR_t 12 ?_)
  refine cD ?_
  cases hg:lastP b i (tr b i) with
  |none=>
   simp only [Option.getD_none,Option.isSome_none]
   refine kW ?_
   refine kR ?_
   exact ⟨_,iC,rfl,rfl⟩
  |some q=>
   simp only [Option.getD_some,Option.isSome_some]
   refine kW ?_
   refine kR ?_
   exact ⟨_,iC,rfl,rfl⟩
 ·rw [if_neg hc]
  refine kR ?_
  exact ⟨_,iC,rfl,rfl⟩
end Go.Proofs.YtemdlifojcgplaaGreatDoor
namespace Go.Df
open Go.Vx
set_option linter.all false
theorem lastP_up {b:List UInt8} {t:Nat} (h:t+3≤b.length):ups (lastP b t) (tr b t) t=lastP b (t+1):=by
 funext l
 unfold ups
 rw [lastP]
 by_cases hl:l=tr b t
 ·rw [if_pos hl,if_pos ⟨h,hl.symm⟩]
 ·rw [if_neg hl,if_neg (fun hh=>hl hh.2.symm)]
theorem lastP_no {b:List UInt8} {t:Nat} (h:¬t+3≤b.length):lastP b t=lastP b (t+1):=by
 funext l
 rw [lastP,if_neg (fun hh=>h hh.1)]
def ers (b:List UInt8) (t:Nat):List Value:=(List.range t).map fun q=>.int .i64 (encP (nr b q))
theorem ers_succ (b:List UInt8) (t:Nat):ers b (t+1)=ers b t++[.int .i64 (encP (nr b t))]:=by simp [ers,List.range_succ]
theorem ers_get {b:List UInt8} {t q:Nat} (h:q < t):(ers b t)[q]? =some (.int .i64 (encP (nr b q))):=by simp [ers,h]
end Go.Df
namespace Go.Proofs.YtemdlifojcgplaaGreatDoor
open Go Go.Vx Go.Df
set_option maxRecDepth 4000
set_option linter.all false
variable [W0]
theorem pass_n (p mb:Nat) (v ve:Value) (reach:Int) (b:List UInt8) (t k:Nat) (C1 C2:Chunk) (L:List Chunk) (ht:Rs L 1 v b.length (bsv b)) (hb:b.length≤200000) (hk:t+k≤b.length) (hm:MpD mb (lastP b t) C1) (ho:Ow 3 1 ve t (ers b t) C2) :
 Gv Tryz.prog 200 [.pointer (some ⟨p,0,none⟩),.int .i64 (k:Int)].toArray ([(p,fnO v reach mb ve)]::C1::C2::L) (fun r L'=>r=.tuple #[]∧∃ve' C1' C2',MpD mb (lastP b (t+k)) C1'∧Ow 3 1 ve' (t+k) (ers b (t+k)) C2'∧L'=[(p,fnO v reach mb ve')]::C1'::C2'::L):=by
 refine Gv.of_body Tryz.func200 rfl rfl ?_
 refine kW ?_
 refine WC_loop (X:=Nat × Value × Chunk × Chunk) (fun x=>[(0,.pointer (some ⟨p,0,none⟩)),(5,.int .i64 (k:Int)),(6,.int .i64 (x.1:Int))]) (fun x=>[(p,fnO v reach mb x.2.1)]::x.2.2.1::x.2.2.2::L)
  (fun x=>x.1≤k∧MpD mb (lastP b (t+x.1)) x.2.2.1∧Ow 3 1 x.2.1 (t+x.1) (ers b (t+x.1)) x.2.2.2) (fun x=>k - x.1) (0,ve,C1,C2) ⟨Nat.zero_le _,hm,ho⟩ iS (fun w h=>h) ?_
 clear hm ho ve C1 C2
 rintro ⟨j,ve,C1,C2⟩ ⟨hj,hm,ho⟩
 simp only at hj hm ho ⊢
 obtain ⟨va,vc,rfl⟩:=ow_slc ho
 unfold fnO fnV
 (repeat' first|refine kW ?_|refine kU fun bk=>?_|refine kV fun hc=>?_|refine kZ (fun hc=>?_) fun hc=>?_|fail)
 ·have hnr:=nearest_n p mb v (.slice va (t+j) vc) reach b (t+j) C1 ([(p,fnO v reach mb (.slice va (t+j) vc))]::C1::C2::L) ht.there.there.there Fnd.here hb (by omega) hm iC
  unfold fnO fnV at hnr
  refine WC_draw [[(p,cl [v,.int .i64 reach,.map (some mb),.slice va (t+j) vc] 282)]] [12] mixed ?_
  (refine WR_t 0 ?_;refine WR_t 1 ?_;refine WR_t 2 ?_;refine WR_t 3 ?_;refine WR_t 4 ?_;refine WR_t 5 ?_;refine WR_t 6 ?_)
  refine cI 7 rfl rfl ?_
  refine cP rfl rfl hnr ?_
  refine ⟨iC,?_⟩
  refine cI 8 rfl rfl ?_
  refine OW_buildSlice (cs:=[.int .i64 (encP (nr b (t+j)))]) rfl (by rfl) (by first|(simp [fillL,patch,Value.cells,zeros];done)|(simp [fillL,patch,Value.cells,zeros];rfl)) (by omega) rfl rfl (fun bn=>?_)
  refine ⟨iC,?_⟩
  refine cI 9 rfl rfl ?_
  refine OW_append rfl rfl ho (sl_cells (k:=1) (c:=#[.int .i64 (encP (nr b (t+j)))]) (xs:=[.int .i64 (encP (nr b (t+j)))]) (m:=1) Fnd.here rfl (by simp)) (by repeat (first|exact Zip.here _|apply Zip.there)) rfl (by rfl) (by omega) (by simp [maxLen];omega) rfl (fun ve' C2' ho' _ _=>?_)
  rw [←ers_succ] at ho'
  refine ⟨iC,?_⟩
  (refine WR_t 10 ?_;refine WR_t 11 ?_)
  refine cL 12 rfl rfl rfl ?_
  refine OW_storeTo [v,.int .i64 reach,.map (some mb),ve'] rfl rfl (ow_one ho') rfl iU (by simp) ?_
  refine cD ?_
  have hbg:=begins_n p mb v ve' reach b (t+j) ([(bn,cl [.int .i64 (encP (nr b (t+j)))] 3)]::[(p,fnO v reach mb ve')]::C1::C2'::L) ht.there.there.there.there.sl (.there .here) hb (by omega)
  unfold fnO fnV at hbg
  refine kW ?_
  refine cP rfl rfl hbg ?_
  (repeat' first|refine kW ?_|refine kU fun bk=>?_|refine kV fun hc=>?_|refine kZ (fun hc=>?_) fun hc=>?_|fail)
  ·have htr:=triple_n p mb v ve' reach b (t+j) ([(bn,cl [.int .i64 (encP (nr b (t+j)))] 3)]::[(p,fnO v reach mb ve')]::C1::C2'::L) ht.there.there.there.there (.there .here) hb hc
   unfold fnO fnV at htr
   refine WC_draw [[(p,cl [v,.int .i64 reach,.map (some mb),ve'] 282)]] [8] mixed ?_
   (refine WR_t 0 ?_;refine WR_t 1 ?_;refine WR_t 2 ?_;refine WR_t 3 ?_;refine WR_t 4 ?_;refine WR_t 5 ?_;refine WR_t 7 ?_)
   refine cI 6 rfl rfl ?_
   refine cP rfl rfl htr ?_
   refine ⟨iC,?_⟩
   refine cL 8 rfl rfl rfl ?_
   refine OW_mapUp (m:=t+j) mapTy rfl rfl (tr_len hc) rfl hm (by repeat (first|exact Zip.here _|apply Zip.there)) (fun C1' hm'=>?_)
   rw [lastP_up hc] at hm'
   refine cD ?_
   refine kW ?_
   refine WQ_round (X:=Nat × Value × Chunk × Chunk) (μ:=fun x=>k - x.1) (x:=(j,.slice va (t+j) vc,C1,C2)) (j+1,ve',C1',C2') (by simp only;omega) ⟨by simp only;omega,hm',ho'⟩ iS (fun w h=>iH h)
  ·rw [lastP_no hc] at hm
   refine WQ_round (X:=Nat × Value × Chunk × Chunk) (μ:=fun x=>k - x.1) (x:=(j,.slice va (t+j) vc,C1,C2)) (j+1,ve',C1,C2') (by simp only;omega) ⟨by simp only;omega,hm,ho'⟩ iS (fun w h=>iH h)
 ·obtain rfl:j=k:=by omega
  refine kR ?_
  exact ⟨_,iC,rfl,_,_,_,hm,ho,rfl⟩
end Go.Proofs.YtemdlifojcgplaaGreatDoor
namespace Go.Df
open Go.Vx
set_option linter.all false
theorem lgF_stop {b:List UInt8} {reach:Int} {i f n d:Nat} {p:Option Nat} (h:f=0∨∀q,p=some q→¬(n < mostL b i∧(i:Int) - (q:Int)≤reach)):lgF b reach i f p (n,d)=(n,d):=by
 cases f with
 |zero=>rfl
 |succ f=>
  have h:=h.resolve_left (by omega)
  cases p with
  |none=>rfl
  |some q=>rw [lgF,if_neg (h q rfl)]
end Go.Df
namespace Go.Proofs.YtemdlifojcgplaaGreatDoor
open Go Go.Vx Go.Df
set_option maxRecDepth 4000
set_option linter.all false
variable [W0]
theorem longest_n (p mb:Nat) (v ve:Value) (reach:Int) (b:List UInt8) (i:Nat) (C:Chunk) (L:List Chunk) (ht:Rs L 1 v b.length (bsv b)) (hf:Fnd L p (fnO v reach mb ve)) (hb:b.length≤200000) (hi:i < b.length) (hm:MpD mb (lastP b i) C) (hin:Inc [C] L)
 (hve:Sl L 1 ve i (ers b i)) (hreach: -9223372036854775808≤reach∧reach≤32768) :
 Gv Tryz.prog 199 [.pointer (some ⟨p,0,none⟩),.int .i64 (i:Int)].toArray L (fun r L'=>(∃a:Nat,r=.agg #[.int .i64 (a:Int),.int .i64 ((lg b reach i).1:Int),.int .i64 ((lg b reach i).2:Int)]∧((lg b reach i).1≠0→a=i))∧L'=L):=by
 refine Gv.of_body Tryz.func199 rfl rfl ?_
 obtain ⟨va,vc,hv9⟩:∃va vc,v=.slice va b.length vc:=by obtain ⟨a,c,h,_⟩:=ht.room;exact ⟨a,c,h⟩
 subst hv9
 have hf':=hf
 unfold fnO fnV at hf'
 (refine kW ?_;refine kU fun bk=>?_;refine kW ?_;refine kU fun bk=>?_;refine kW ?_)
 rename_i bk4
 obtain ⟨bk5,hbk5⟩:∃x,x=bk:=⟨_,rfl⟩
 subst hbk5
 have hnr:=nearest_n p mb (.slice va b.length vc) ve reach b i C ([(bk5,cl [.int .i64 0,.int .i64 0,.int .i64 0] 233)]::[(bk4,cl [.int .i64 0,.int .i64 0,.int .i64 0] 233)]::L) ht.there.there (.there (.there hf)) hb (by omega) hm (by
  obtain ⟨R,hp⟩:=hin
  exact (Inc.skip (Inc.skip ⟨R,hp⟩)))
 refine cP rfl rfl hnr ?_
 refine kW ?_
 have hmost:min (258:Int) ((b.length:Int) - (i:Int))=((mostL b i:Nat):Int):=by unfold mostL;omega
 try rw [hmost]
 refine WC_loop (X:=Nat × Option Nat × Nat × Nat × Nat) (fun x=>[(0,.pointer (some ⟨p,0,none⟩)),(1,.int .i64 (i:Int)),(4,.pointer (some ⟨bk4,0,none⟩)),(5,.pointer (some ⟨bk5,0,none⟩)),(6,.int .i64 ((mostL b i:Nat):Int)),(7,.int .i64 (encP x.2.1)),(8,.int .i64 (x.1:Int))])
  (fun x=>[(bk5,cl [.int .i64 (x.2.2.1:Int),.int .i64 (x.2.2.2.1:Int),.int .i64 (x.2.2.2.2:Int)] 233)]::[(bk4,cl [.int .i64 0,.int .i64 0,.int .i64 0] 233)]::L)
  (fun x=>x.1≤256∧(∀q,x.2.1=some q→q < i)∧(x.2.2.2.1≠0→x.2.2.1=i)∧x.2.2.1≤200000∧x.2.2.2.1≤258∧lgF b reach i (256 - x.1) x.2.1 (x.2.2.2.1,x.2.2.2.2)=lg b reach i) (fun x=>256 - x.1) (0,nr b i,0,0,0)
  ⟨by simp only;omega,fun q hq=>(nr_some hq).1,fun h=>absurd rfl h,by simp only;omega,by simp only;omega,rfl⟩ iS (fun w h=>h) ?_
 rintro ⟨j,q0,a,n,d⟩ ⟨hj,hq,ha,ha2,hn2,hlg⟩
 simp only at hj hq ha ha2 hn2 hlg ⊢
 have fin:lgF b reach i (256 - j) q0 (n,d)=(n,d)→(lg b reach i).1=n∧(lg b reach i).2=d:=fun h=>by rw [←hlg,h];exact ⟨rfl,rfl⟩
 have hst:patch [Value.int .i64 0,Value.int .i64 0,Value.int .i64 0] 0 [Value.int .i64 (a:Int),Value.int .i64 (n:Int),Value.int .i64 (d:Int)]=[Value.int .i64 (a:Int),Value.int .i64 (n:Int),Value.int .i64 (d:Int)]:=rfl
 cases q0 with
 |none=>
  obtain ⟨f1,f2⟩:=fin (lgF_stop (.inr fun q h=>by cases h))
  rw [f1,f2]
  simp only [encP]
  (repeat' first|refine kW ?_|refine kU fun bk=>?_|refine kV fun hc=>?_|refine kZ (fun hc=>?_) fun hc=>?_|fail)
  all_goals
   first
    |(refine WQ_retC (vs:=[.agg #[.int .i64 (a:Int),.int .i64 (n:Int),.int .i64 (d:Int)]]) rfl (.agg ⟨by kernel_rfl,by kernel_rfl⟩ rfl (RdAt.cl' (vs:=[.int .i64 (a:Int),.int .i64 (n:Int),.int .i64 (d:Int)]) (by repeat (first|assumption|exact Fnd.here|refine Fnd.there ?_)) rfl) rfl .nil) ?_
      exact ⟨_,fun w h=>h.drop.drop,⟨a,rfl,ha⟩,rfl⟩)
    |(refine WQ_endC (vs:=[.agg #[.int .i64 (a:Int),.int .i64 (n:Int),.int .i64 (d:Int)]]) rfl (.agg ⟨by kernel_rfl,by kernel_rfl⟩ rfl (RdAt.cl' (vs:=[.int .i64 (a:Int),.int .i64 (n:Int),.int .i64 (d:Int)]) (by repeat (first|assumption|exact Fnd.here|refine Fnd.there ?_)) rfl) rfl .nil) ?_
      exact ⟨_,fun w h=>h.drop.drop,⟨a,rfl,ha⟩,rfl⟩)
 |some q=>
  have hqi:=hq q rfl
  simp only [encP]
  by_cases hgo:j < 256∧n < mostL b i∧(i:Int) - (q:Int)≤reach
  ·obtain ⟨g1,g2,g3⟩:=hgo
   obtain ⟨f,hf2⟩:∃f,256 - j=f+1:=⟨256 - j - 1,by omega⟩
   rw [hf2,lgF,if_pos ⟨g2,g3⟩] at hlg
   have hcm:=common_n p mb (.slice va b.length vc) ve reach b q i (mostL b i) ([(bk5,cl [.int .i64 (a:Int),.int .i64 (n:Int),.int .i64 (d:Int)] 233)]::[(bk4,cl [.int .i64 0,.int .i64 0,.int .i64 0] 233)]::L) ht.there.there.sl (.there (.there hf)) hb (by unfold mostL;omega) (by omega) hi
   have hcl:cm b q i (mostL b i)≤mostL b i:=by have:=(cmF_le b q i (mostL b i) 0).2;unfold cm;omega
   have hml:mostL b i≤258:=by unfold mostL;omega
   obtain ⟨be,oe,ce,cc,TT,fr,rfl,hfe,hce⟩:=sl_at hve (ers_get hqi)
   (refine kW ?_;refine kV fun hc=>?_;refine kW ?_;refine kV fun hc=>?_;refine kW ?_;refine kV fun hc=>?_;refine kW ?_)
   refine cP rfl rfl hcm ?_
   generalize cm b q i (mostL b i)=n' at hlg hcl
   (repeat' first|refine kW ?_|refine kU fun bk=>?_|refine kV fun hc=>?_|refine kZ (fun hc=>?_) fun hc=>?_|fail)
   ·rw [if_pos (show n < n' by omega)] at hlg
    refine OW_EV (EV_indexAddr (j:=q) rfl rfl rfl hqi) rfl ?_
    refine kW ?_
    refine OW_EV (EV_load rfl (.there (.there hfe)) hce) rfl ?_
    refine kW ?_
    refine WQ_round (X:=Nat × Option Nat × Nat × Nat × Nat) (μ:=fun x=>256 - x.1) (x:=(j,some q,a,n,d)) (j+1,nr b q,i,n',i - q) (by simp only;omega) ⟨by simp only;omega,fun q' hq'=>by have:=(nr_some hq').1;omega,fun _=>rfl,by simp only;omega,by simp only;omega,by simp only;rw [show 256 - (j+1)=f from by omega];exact hlg⟩ iS (fun w h=>by
     rw [show ((i - q:Nat):Int)=(i:Int) - (q:Int) from by omega]
     exact h)
   ·rw [if_neg (show ¬n < n' by omega)] at hlg
    refine OW_EV (EV_indexAddr (j:=q) rfl rfl rfl hqi) rfl ?_
    refine kW ?_
    refine OW_EV (EV_load rfl (.there (.there hfe)) hce) rfl ?_
    refine kW ?_
    refine WQ_round (X:=Nat × Option Nat × Nat × Nat × Nat) (μ:=fun x=>256 - x.1) (x:=(j,some q,a,n,d)) (j+1,nr b q,a,n,d) (by simp only;omega) ⟨by simp only;omega,fun q' hq'=>by have:=(nr_some hq').1;omega,ha,by simp only;omega,by simp only;omega,by simp only;rw [show 256 - (j+1)=f from by omega];exact hlg⟩ iS (fun w h=>h)
  ·obtain ⟨f1,f2⟩:=fin (lgF_stop (by
    by_cases hj2:j < 256
    ·exact .inr fun q' h=>by cases h;exact fun hh=>hgo ⟨hj2,hh⟩
    ·exact .inl (by omega)))
   rw [f1,f2]
   (repeat' first|refine kW ?_|refine kU fun bk=>?_|refine kV fun hc=>?_|refine kZ (fun hc=>?_) fun hc=>?_|fail)
   all_goals
    first
     |(exfalso;exact hgo ⟨by omega,by omega,by omega⟩)
     |(refine WQ_retC (vs:=[.agg #[.int .i64 (a:Int),.int .i64 (n:Int),.int .i64 (d:Int)]]) rfl (.agg ⟨by kernel_rfl,by kernel_rfl⟩ rfl (RdAt.cl' (vs:=[.int .i64 (a:Int),.int .i64 (n:Int),.int .i64 (d:Int)]) (by repeat (first|assumption|exact Fnd.here|refine Fnd.there ?_)) rfl) rfl .nil) ?_
       exact ⟨_,fun w h=>h.drop.drop,⟨a,rfl,ha⟩,rfl⟩)
     |(refine WQ_endC (vs:=[.agg #[.int .i64 (a:Int),.int .i64 (n:Int),.int .i64 (d:Int)]]) rfl (.agg ⟨by kernel_rfl,by kernel_rfl⟩ rfl (RdAt.cl' (vs:=[.int .i64 (a:Int),.int .i64 (n:Int),.int .i64 (d:Int)]) (by repeat (first|assumption|exact Fnd.here|refine Fnd.there ?_)) rfl) rfl .nil) ?_
       exact ⟨_,fun w h=>h.drop.drop,⟨a,rfl,ha⟩,rfl⟩)
omit [W0] in
def mtc:List (Nat × Nat × Nat)→List Value
 |[]=>[]
 |m::r=>.int .i64 (m.1:Int)::.int .i64 (m.2.1:Int)::.int .i64 (m.2.2:Int)::mtc r
omit [W0] in
theorem mtc_app:∀(a b:List (Nat × Nat × Nat)),mtc (a++b)=mtc a++mtc b
 |[],b=>rfl
 |m::r,b=>by simp only [List.cons_append,mtc,mtc_app r b]
theorem matches_n (v:Value) (reach:Int) (b:List UInt8) (L:List Chunk) (ht:Rs L 1 v b.length (bsv b)) (hb:b.length≤200000) (hreach: -9223372036854775808≤reach∧reach≤9223372036854775807) :
 Gv Tryz.prog 154 [v,.int .i64 reach].toArray L (fun r L'=>∃C,Ow 233 3 r (msR b reach).length (mtc (msR b reach)) C∧L'=C::L):=by
 refine Gv.of_body Tryz.func154 rfl rfl ?_
 obtain ⟨va,vc,hv9⟩:∃va vc,v=.slice va b.length vc:=by obtain ⟨a,c,h,_⟩:=ht.room;exact ⟨a,c,h⟩
 subst hv9
 refine kW ?_
 refine OW_makeMap rfl (fun mb=>?_)
 (refine kW ?_;refine kU fun bk=>?_;refine kW ?_)
 obtain ⟨p,hp9⟩:∃x,x=bk:=⟨_,rfl⟩
 subst hp9
 obtain ⟨R,hR⟩:∃R:Int,R=min reach 32768:=⟨_,rfl⟩
 have hR2: -9223372036854775808≤R∧R≤32768:=by omega
 have hms:msR b reach=msF b R b.length 0:=by rw [hR];rfl
 rw [hms,←hR]
 clear hR hms hreach
 refine WC_loop (X:=Nat × Value × Chunk × Chunk × Value × Chunk × List (Nat × Nat × Nat)) (fun x=>[(0,.slice va b.length vc),(5,.pointer (some ⟨p,0,none⟩)),(6,x.2.2.2.2.1),(7,.int .i64 (x.1:Int))])
  (fun x=>[(p,fnO (.slice va b.length vc) R mb x.2.1)]::x.2.2.1::x.2.2.2.1::x.2.2.2.2.2.1::L)
  (fun x=>x.1≤b.length∧MpD mb (lastP b x.1) x.2.2.1∧Ow 3 1 x.2.1 x.1 (ers b x.1) x.2.2.2.1∧Ow 233 3 x.2.2.2.2.1 x.2.2.2.2.2.2.length (mtc x.2.2.2.2.2.2) x.2.2.2.2.2.1∧x.2.2.2.2.2.2.length≤x.1∧x.2.2.2.2.2.2++msF b R (b.length - x.1) x.1=msF b R b.length 0) (fun x=>b.length - x.1)
  (0,.slice none 0 0,[(mb,.map #[] 0)],[],.slice none 0 0,[],[]) ⟨Nat.zero_le _,⟨#[],0,rfl,MpR.nil⟩,.inl ⟨rfl,rfl,rfl,rfl⟩,.inl ⟨rfl,rfl,rfl,rfl⟩,Nat.le_refl _,rfl⟩ iS (fun w h=>by
    have h2:Holds w ([(p,fnO (.slice va b.length vc) R mb (.slice none 0 0))]::[(mb,.map #[] 0)]::[]::[]::L):=(Holds.perm (L:=[]::[]::[(p,fnO (.slice va b.length vc) R mb (.slice none 0 0))]::[(mb,.map #[] 0)]::L) (Holds.nil.2 (Holds.nil.2 h)) (by
     refine (List.Perm.cons _ (List.Perm.swap _ _ _)).trans ?_
     refine (List.Perm.swap _ _ _).trans ?_
     refine List.Perm.cons _ ?_
     refine (List.Perm.cons _ (List.Perm.swap _ _ _)).trans ?_
     exact List.Perm.swap _ _ _))
    exact h2) ?_
 rintro ⟨i,ve,C1,C2,vl,Cl,ms⟩ ⟨hi,hm,ho,hl,hml,hms⟩
 simp only at hi hm ho hl hml hms ⊢
 obtain ⟨vea,vec,rfl⟩:=ow_slc ho
 (repeat' first|refine kW ?_|refine kU fun bk=>?_|refine kV fun hc=>?_|refine kZ (fun hc=>?_) fun hc=>?_|fail)
 ·have hib:i < b.length:=by omega
  obtain ⟨f,hf2⟩:∃f,b.length - i=f+1:=⟨b.length - i - 1,by omega⟩
  rw [hf2,msF,if_pos hib] at hms
  have hlg:=longest_n p mb (.slice va b.length vc) (.slice vea i vec) R b i C1 ([(p,fnO (.slice va b.length vc) R mb (.slice vea i vec))]::C1::C2::Cl::L) ht.there.there.there.there .here hb hib hm iC (sl_there (sl_there (ow_sl ho))) hR2
  have hok:=lg_ok b R i
  refine cC rfl rfl hlg (fun r L' hp=>?_)
  obtain ⟨⟨a,rfl,ha⟩,rfl⟩:=hp
  have hmx:max (lg b R i).1 1≤b.length - i:=by
   rcases hok with h|h
   ·omega
   ·have:=h.fit;have:=h.n3;omega
  have hpass:=fun (D:Chunk)=>pass_n p mb (.slice va b.length vc) (.slice vea i vec) R b i (max (lg b R i).1 1) C1 C2 (D::L) ht.there hb (by omega) hm ho
  have hfu:=msF_fuel b R (b.length - (i+max (lg b R i).1 1)) (i+max (lg b R i).1 1) f (by omega) (by omega)
  rw [hfu] at hms
  generalize lg b R i=m at ha hok hmx hpass hms
  obtain ⟨n,d⟩:=m
  simp only at ha hok hmx hpass hms ⊢
  have hn5:n≤258:=by rcases hok with h|h;omega;exact h.nm
  have hpx:((max n 1:Nat):Int)=max (n:Int) 1:=by omega
  simp only [hpx] at hpass
  (repeat' first|refine kW ?_|refine kU fun bk=>?_|refine kV fun hc=>?_|refine kZ (fun hc=>?_) fun hc=>?_|fail)
  ·have hn0:0 < n:=by omega
   obtain rfl:a=i:=ha (by omega)
   rw [if_pos hn0] at hms
   refine OW_buildSlice (cs:=[.int .i64 (a:Int),.int .i64 (n:Int),.int .i64 (d:Int)]) rfl (by rfl) (by first|(simp [fillL,patch,Value.cells,zeros];done)|(simp [fillL,patch,Value.cells,zeros];rfl)) (by omega) rfl rfl (fun bn=>?_)
   refine kW ?_
   refine OW_append rfl rfl hl (sl_cells (k:=3) (c:=#[.int .i64 (a:Int),.int .i64 (n:Int),.int .i64 (d:Int)]) (xs:=[.int .i64 (a:Int),.int .i64 (n:Int),.int .i64 (d:Int)]) (m:=1) Fnd.here rfl (by simp)) (by repeat (first|exact Zip.here _|apply Zip.there)) rfl (by rfl) (by omega) (by simp [maxLen];omega) rfl (fun vl' Cl' hl' _ _=>?_)
   rw [show mtc ms++[Value.int .i64 (a:Int),.int .i64 (n:Int),.int .i64 (d:Int)]=mtc (ms++[(a,n,d)]) from by rw [mtc_app];rfl,show ms.length+1=(ms++[(a,n,d)]).length from by simp] at hl'
   refine kW ?_
   refine cC rfl rfl (Gv.holds (hpass Cl') (fun w h=>iH h)) (fun r L' hp=>?_)
   obtain ⟨rfl,ve',C1',C2',hm',ho',rfl⟩:=hp
   refine kW ?_
   obtain ⟨va2,vc2,rfl⟩:=ow_slc ho'
   unfold fnO fnV
   refine kW ?_
   refine WQ_round (X:=Nat × Value × Chunk × Chunk × Value × Chunk × List (Nat × Nat × Nat)) (μ:=fun x=>b.length - x.1) (x:=(a,.slice vea a vec,C1,C2,vl,Cl,ms)) (a+max n 1,.slice va2 (a+max n 1) vc2,C1',C2',vl',Cl',ms++[(a,n,d)]) (by simp only;omega) ⟨by simp only;omega,hm',ho',hl',by simp;omega,by simp only;rw [List.append_assoc];exact hms⟩ iS (fun w h=>iH h)
  ·have hn0:¬0 < n:=by omega
   rw [if_neg hn0,List.nil_append] at hms
   refine cC rfl rfl (Gv.holds (hpass Cl) (fun w h=>iH h)) (fun r L' hp=>?_)
   obtain ⟨rfl,ve',C1',C2',hm',ho',rfl⟩:=hp
   obtain ⟨va2,vc2,rfl⟩:=ow_slc ho'
   unfold fnO fnV
   refine kW ?_
   refine WQ_round (X:=Nat × Value × Chunk × Chunk × Value × Chunk × List (Nat × Nat × Nat)) (μ:=fun x=>b.length - x.1) (x:=(i,.slice vea i vec,C1,C2,vl,Cl,ms)) (i+max n 1,.slice va2 (i+max n 1) vc2,C1',C2',vl,Cl,ms) (by simp only;omega) ⟨by simp only;omega,hm',ho',hl,by simp only;omega,hms⟩ iS (fun w h=>iH h)
 ·obtain rfl:i=b.length:=by omega
  rw [show b.length - b.length=0 from by omega,msF,List.append_nil] at hms
  rw [←hms]
  refine kR ?_
  refine ⟨_,iC,Cl,hl,rfl⟩
omit [W0] in
def MtV (m:Nat × Nat × Nat):List Value:=[.int .i64 (m.1:Int),.int .i64 (m.2.1:Int),.int .i64 (m.2.2:Int)]
omit [W0] in
theorem mtc_flt:∀l,mtc l=flt MtV l
 |[]=>rfl
 |m::r=>by rw [mtc,flt,mtc_flt r];rfl
end Go.Proofs.YtemdlifojcgplaaGreatDoor
namespace Go.Df
open Go.Vx Go.If Go.Hf
set_option linter.all false
def lits (b:List UInt8):List (Nat × Nat):=b.map fun c=>(c.toNat,0)
theorem lits_app (a b:List UInt8):lits (a++b)=lits a++lits b:=by simp [lits]
theorem lits_len (a:List UInt8):(lits a).length=a.length:=by simp [lits]
theorem lits_ok {b:List UInt8}:∀t∈lits b,TkOk t:=by
 intro t ht
 obtain ⟨c,_,rfl⟩:=List.mem_map.1 ht
 exact .inl ⟨rfl,c.toNat_lt⟩
def pcF (b:List UInt8):Nat→List (Nat × Nat × Nat)→List (Nat × Nat)
 |i,[]=>lits (b.drop i)
 |i,m::r=>lits ((b.drop i).take (m.1 - i))++((m.2.1,m.2.2)::pcF b (m.1+m.2.1) r)
def pcT (b:List UInt8):List (Nat × Nat):=pcF b 0 (msR b 32768)
theorem pcF_ok {b:List UInt8}:∀{i:Nat} {ms:List (Nat × Nat × Nat)},MsOk b 32768 i ms→(∀t∈pcF b i ms,TkOk t)∧(pcF b i ms).length≤b.length - i
 |i,[],_=>⟨lits_ok,by rw [pcF,lits_len,List.length_drop];exact Nat.le_refl _⟩
 |i,m::r,h=>by
  obtain ⟨h1,h2,h3⟩:=h
  obtain ⟨g1,g2⟩:=pcF_ok h3
  have a1:=h2.n3
  have a2:=h2.nm
  have a3:=h2.fit
  have a4:=h2.d1
  have a5:=h2.dr
  refine ⟨fun t ht=>?_,?_⟩
  ·rw [pcF] at ht
   rcases List.mem_append.1 ht with ht|ht
   ·exact lits_ok t ht
   ·rcases List.mem_cons.1 ht with rfl|ht
    ·exact .inr ⟨by simp only;omega,by simp only;omega,by simp only;omega,by simp only;omega⟩
    ·exact g1 t ht
  ·rw [pcF,List.length_append,lits_len,List.length_cons,List.length_take,List.length_drop]
   omega
theorem pcT_ok (b:List UInt8):(∀t∈pcT b,TkOk t)∧(pcT b).length≤b.length:=by
 have:=pcF_ok (msR_ok b 32768)
 exact this
def Tks (b:List UInt8):Nat→List (Nat × Nat)→Nat→Prop
 |i,[],j=>i=j
 |i,t::r,j=>TkOk t∧i+tsz t≤b.length∧(t.2=0→b.getD i 0=UInt8.ofNat t.1)∧(t.2≠0→t.2≤i∧∀k,k < t.1→b.getD (i+k) 0=b.getD (i+k - t.2) 0)∧Tks b (i+tsz t) r j
theorem Tks.app {b:List UInt8}:∀{i j k:Nat} {x y:List (Nat × Nat)},Tks b i x j→Tks b j y k→Tks b i (x++y) k
 |i,j,k,[],y,h1,h2=>by
  have:i=j:=h1
  subst this;exact h2
 |i,j,k,t::x,y,h1,h2=>⟨h1.1,h1.2.1,h1.2.2.1,h1.2.2.2.1,Tks.app h1.2.2.2.2 h2⟩
theorem Tks.le {b:List UInt8}:∀{i j:Nat} {x:List (Nat × Nat)},Tks b i x j→i≤j∧(i≤b.length→j≤b.length)
 |i,j,[],h=>by
  have:i=j:=h
  subst this;exact ⟨Nat.le_refl _,fun h=>h⟩
 |i,j,t::x,h=>by
  have:=h.2.2.2.2.le
  have h2:=h.2.1
  exact ⟨by omega,fun _=>this.2 h2⟩
theorem lits_tks {b:List UInt8}:∀(n i:Nat),i+n≤b.length→Tks b i (lits ((b.drop i).take n)) (i+n)
 |0,i,h=>by rw [List.take_zero];exact rfl
 |n+1,i,h=>by
  have hi:i < b.length:=by omega
  rw [List.drop_eq_getElem_cons hi,List.take_succ_cons]
  have hg:=lits_tks (b:=b) n (i+1) (by omega)
  refine ⟨.inl ⟨rfl,(b[i]).toNat_lt⟩,by simp only [tsz,if_true];omega,fun _=>?_,fun h=>absurd rfl h,?_⟩
  ·simp [List.getD,hi]
  ·simp only [tsz,if_true]
   rw [show i+(n+1)=i+1+n from by omega]
   exact hg
theorem pcF_tks {b:List UInt8}:∀{i:Nat} {ms:List (Nat × Nat × Nat)},i≤b.length→MsOk b 32768 i ms→Tks b i (pcF b i ms) b.length
 |i,[],hi,_=>by
  have:=lits_tks (b:=b) (b.length - i) i (by omega)
  rw [List.take_of_length_le (by rw [List.length_drop];exact Nat.le_refl _),show i+(b.length - i)=b.length from by omega] at this
  exact this
 |i,m::r,hi,h=>by
  obtain ⟨h1,h2,h3⟩:=h
  have a1:=h2.n3
  have a2:=h2.nm
  have a3:=h2.fit
  have a4:=h2.d1
  have a5:=h2.dr
  have g:=pcF_tks (by omega) h3
  have gl:=lits_tks (b:=b) (m.1 - i) i (by omega)
  rw [show i+(m.1 - i)=m.1 from by omega] at gl
  rw [pcF]
  refine gl.app ?_
  have hz:tsz (m.2.1,m.2.2)=m.2.1:=by unfold tsz;rw [if_neg (by simp only;omega)]
  refine ⟨.inr ⟨by simp only;omega,by simp only;omega,by simp only;omega,by simp only;omega⟩,by rw [hz];exact a3,fun h=>by simp only at h;omega,fun _=>⟨h2.di,h2.eq⟩,by rw [hz];exact g⟩
theorem pcT_tks (b:List UInt8):Tks b 0 (pcT b) b.length:=pcF_tks (Nat.zero_le _) (msR_ok b 32768)
theorem take_succ_getD {b:List UInt8} {i:Nat} (h:i < b.length):b.take (i+1)=b.take i++[b.getD i 0]:=by
 rw [List.take_succ,List.getElem?_eq_getElem h]
 simp [List.getD,h]
theorem cpW_tks {b:List UInt8} {d:Nat}:∀(n i:Nat),1≤d→d≤i→i+n≤b.length→(∀k,k < n→b.getD (i+k) 0=b.getD (i+k - d) 0)→cpW d n (b.take i)=b.take (i+n)
 |0,i,_,_,_,_=>rfl
 |n+1,i,h1,h2,h3,h4=>by
  have e0:=h4 0 (by omega)
  have hl:(b.take i).length=i:=by rw [List.length_take];omega
  rw [cpW,hl]
  have hg:(b.take i).getD (i - d) 0=b.getD (i - d) 0:=by simp only [List.getD_eq_getElem?_getD,List.getElem?_take,if_pos (show i - d < i by omega)]
  rw [hg,←show b.getD (i+0) 0=b.getD (i - d) 0 from e0,Nat.add_zero,←take_succ_getD (by omega)]
  rw [cpW_tks n (i+1) h1 (by omega) (by omega) (fun k hk=>by have:=h4 (k+1) (by omega);rw [show i+1+k=i+(k+1) from by omega];exact this),show i+1+n=i+(n+1) from by omega]
theorem tks_W {b:List UInt8}:∀{ts:List (Nat × Nat)} {i j:Nat},i≤b.length→Tks b i ts j→tsW (ts.map tok) (b.take i)=b.take j
 |[],i,j,_,h=>by
  have:i=j:=h
  subst this;rfl
 |t::r,i,j,hi,h=>by
  obtain ⟨h1,h2,h3,h4,h5⟩:=h
  rw [List.map_cons,tsW]
  have hk:tkW (tok t) (b.take i)=b.take (i+tsz t):=by
   rcases h1 with ⟨g1,g2⟩|⟨g1,g2,g3,g4⟩
   ·have hz:tsz t=1:=if_pos g1
    have ht:tok t=.lit (UInt8.ofNat t.1):=if_pos g1
    rw [hz,ht]
    simp only [tkW]
    rw [hz] at h2
    rw [take_succ_getD (show i < b.length by omega),h3 g1]
   ·have g0:t.2≠0:=by omega
    have hz:tsz t=t.1:=if_neg g0
    have ht:tok t=.mt (olN t.1) (t.1 - (lnB (olN t.1)).1) (odN t.2) (t.2 - baB 1 2 4 (odN t.2)):=if_neg g0
    rw [hz,ht]
    rw [hz] at h2
    simp only [tkW]
    have k1:=olN_ok g3 g4
    have k2:=odN_ok g1 g2
    obtain ⟨h6,h7⟩:=h4 g0
    unfold dsT lnT
    rw [show baB 1 2 4 (odN t.2)+(t.2 - baB 1 2 4 (odN t.2))=t.2 from by omega,show (lnB (olN t.1)).1+(t.1 - (lnB (olN t.1)).1)=t.1 from by omega]
    exact cpW_tks _ _ g1 h6 h2 h7
  rw [hk]
  exact tks_W (by omega) h5
theorem tks_ok {b:List UInt8} {l dl:List Nat}:∀{ts:List (Nat × Nat)} {i j:Nat},Tks b i ts j→(∀t∈ts,0 < l.getD (tsy t) 0∧(t.2≠0→0 < dl.getD (odN t.2) 0))→tsOk l dl i (ts.map tok)∧i+tsN (ts.map tok)=j
 |[],i,j,h,_=>by
  have:i=j:=h
  subst this;exact ⟨trivial,rfl⟩
 |t::r,i,j,h,hs=>by
  obtain ⟨h1,h2,h3,h4,h5⟩:=h
  have hst:=hs t (by simp)
  have hN:tkN (tok t)=tsz t:=by
   unfold tok tsz
   rcases h1 with ⟨g1,g2⟩|⟨g1,g2,g3,g4⟩
   ·rw [if_pos g1,if_pos g1];rfl
   ·rw [if_neg (by omega),if_neg (by omega)]
    have k1:=olN_ok g3 g4
    simp only [tkN,lnT]
    omega
  obtain ⟨g1,g2⟩:=tks_ok (l:=l) (dl:=dl) h5 (fun t' ht'=>hs t' (by simp [ht']))
  refine ⟨⟨?_,by rw [hN];exact g1⟩,by rw [List.map_cons,tsN,hN];omega⟩
  unfold tok
  unfold tsy at hst
  rcases h1 with ⟨k1,k2⟩|⟨k1,k2,k3,k4⟩
  ·rw [if_pos k1] at hst ⊢
   simp only [tkOk]
   rw [UInt8.toNat_ofNat',Nat.mod_eq_of_lt k2]
   exact hst.1
  ·have k0:t.2≠0:=by omega
   rw [if_neg k0] at hst ⊢
   have q1:=olN_ok k3 k4
   have q2:=odN_ok k1 k2
   obtain ⟨h6,_⟩:=h4 k0
   simp only [tkOk,dsT]
   exact ⟨q1.1,q1.2.1,hst.1,q1.2.2.2,q2.1,hst.2 k0,q2.2.2,by omega⟩
end Go.Df
namespace Go.Proofs.YtemdlifojcgplaaGreatDoor
open Go Go.Vx Go.Hf Go.If Go.Df
variable [W0]
set_option maxRecDepth 4000
set_option linter.all false
omit [W0] in
theorem TkV_ones (t:Nat × Nat):ones (TkV t)=true:=rfl
theorem literals_n (v:Value) (b:List UInt8) (L:List Chunk) (ht:Sl L 1 v b.length (bsv b)) (hb:b.length≤200000) :
 Gv Tryz.prog 155 [v].toArray L (fun r L'=>∃C,Ow 236 2 r (lits b).length (flt TkV (lits b)) C∧L'=C::L):=by
 refine Gv.of_body (args:=[v]) Tryz.func155 rfl rfl ?_
 obtain ⟨va,vc,rfl⟩:=sl_slice ht
 refine kW ?_
 refine WC_loop (X:=Nat × Value × Chunk) (fun x=>[(3,x.2.1),(6,.slice va b.length vc),(7,.int .i64 (b.length:Int)),(8,.int .i64 (x.1:Int))]) (fun x=>x.2.2::L)
  (fun x=>x.1≤b.length∧Ow 236 2 x.2.1 x.1 (flt TkV (lits (b.take x.1))) x.2.2) (fun x=>b.length - x.1) (0,.slice none 0 0,[]) ⟨Nat.zero_le _,.inl ⟨rfl,rfl,rfl,rfl⟩⟩ iS (fun w h=>Holds.nil.2 h) ?_
 rintro ⟨j,vl,Cl⟩ ⟨hj,ho⟩
 simp only at hj ho ⊢
 (repeat' first|refine kW ?_|refine kU fun bk=>?_|refine kV fun hc=>?_|refine kZ (fun hc=>?_) fun hc=>?_|fail)
 ·have hjl:j < b.length:=by omega
  obtain ⟨c,hc9⟩:∃c,b[j]? =some c:=⟨b[j],List.getElem?_eq_getElem hjl⟩
  obtain ⟨b1,o1,c1,cc1,T1,f1,hv9,hf1,hv1⟩:=sl_at ht (bsv_get hc9)
  injection hv9 with q1 q2 q3
  subst q1 q3
  clear q2
  have hcl:=c.toNat_lt
  refine OW_EV (EV_indexAddr (j:=j) rfl rfl rfl hjl) rfl ?_
  refine kW ?_
  refine OW_EV (EV_load rfl (.there hf1) hv1) rfl ?_
  refine kW ?_
  refine OW_buildSlice (cs:=TkV (c.toNat,0)) rfl (by rfl) (by first|(simp [fillL,patch,Value.cells,zeros];done)|(simp [fillL,patch,Value.cells,zeros];rfl)) (by omega) rfl rfl (fun bn=>?_)
  refine kW ?_
  refine OW_append rfl rfl ho (sl_cells (k:=2) (c:=(TkV (c.toNat,0)).toArray) (xs:=TkV (c.toNat,0)) (m:=1) Fnd.here rfl (by simp)) (by repeat (first|exact Zip.here _|apply Zip.there)) rfl (by rfl) (by omega) (by simp [maxLen];omega) rfl (fun vl' Cl' ho' _ _=>?_)
  rw [show flt TkV (lits (b.take j))++TkV (c.toNat,0)=flt TkV (lits (b.take (j+1))) from by rw [takeSucc hc9,lits_app,flt_app];simp [lits,flt]] at ho'
  refine kW ?_
  refine WQ_round (X:=Nat × Value × Chunk) (μ:=fun x=>b.length - x.1) (x:=(j,vl,Cl)) (j+1,vl',Cl') (by simp only;omega) ⟨by simp only;omega,ho'⟩ iS (fun w h=>iH h)
 ·obtain rfl:j=b.length:=by omega
  rw [List.take_length] at ho
  refine kR ?_
  exact ⟨_,iC,Cl,by rw [lits_len];exact ho,rfl⟩
structure PcR (L:List Chunk) (v vt:Value) (b:List UInt8) (ts:List (Nat × Nat)):Prop where
 x:Rs L 1 v b.length (bsv b)
 t:TkR L vt ts
 nb:b.length≤200000
 nt:ts.length≤200000
theorem PcR.sub {L L':List Chunk} (hs:∀x∈L.flatten,x∈L'.flatten) {v vt:Value} {b:List UInt8} {ts:List (Nat × Nat)} (h:PcR L v vt b ts):PcR L' v vt b ts:=⟨h.x.sub hs,h.t.sub hs,h.nb,h.nt⟩
theorem pieceOf_n (v:Value) (b:List UInt8) (S L:List Chunk) (hi9:Inc S L) (hts:Rs S 1 v b.length (bsv b)) (hb:b.length≤200000) :
 Gv Tryz.prog 118 [v].toArray L (fun r L'=>∃vt C,r=.agg #[v,vt]∧PcR (C::S) v vt b (pcT b)∧L'=C::L):=by
 refine Gv.of_body (args:=[v]) Tryz.func118 rfl rfl ?_
 have ht:=hts.sub hi9.mem
 obtain ⟨va,vc,rfl,hroom⟩:=ht.room
 have hok:=pcT_ok b
 have hmt:=fun B=>matches_n (.slice va b.length vc) 32768 b (B::L) ht.there hb (by omega)
 have hms:=msR_ok b 32768
 unfold pcT at *
 rw [show (min 32768 32768:Int)=32768 from rfl] at hms
 generalize msR b 32768=ms at hmt hok hms ⊢
 (refine kW ?_;refine kU fun bk=>?_;refine kW ?_)
 refine cC rfl rfl (hmt _) (fun r L' hp=>?_)
 obtain ⟨C,ho,rfl⟩:=hp
 rw [mtc_flt] at ho
 have hml:ms.length≤9223372036854775807:=by
  rcases ho with ⟨_,h0,_⟩|⟨_,cap,_,_,_,_,_,h1,h2⟩
  ·omega
  ·unfold maxLen at h2;omega
 have hrs:=fun L=>Rs.ow (L:=L) ho
 obtain ⟨ra,rc,rfl,_⟩:=(hrs []).room
 refine kW ?_
 have hpl:(pcF b 0 ms).length≤200000:=by omega
 refine WC_loop (X:=Nat × Nat × List (Nat × Nat) × Value × Chunk) (fun x=>[(0,.slice va b.length vc),(2,.pointer (some ⟨bk,0,none⟩)),(3,x.2.2.2.1),(4,.int .i64 (x.2.1:Int)),(8,.slice ra ms.length rc),(9,.int .i64 (ms.length:Int)),(10,.int .i64 (x.1:Int))])
  (fun x=>x.2.2.2.2::C::[(bk,cl [.slice none 0 0,.slice none 0 0] 179)]::L)
  (fun x=>x.1≤ms.length∧x.2.1≤b.length∧MsOk b 32768 x.2.1 (ms.drop x.1)∧x.2.2.1++pcF b x.2.1 (ms.drop x.1)=pcF b 0 ms∧Ow 236 2 x.2.2.2.1 x.2.2.1.length (flt TkV x.2.2.1) x.2.2.2.2) (fun x=>ms.length - x.1) (0,0,[],.slice none 0 0,[])
  ⟨Nat.zero_le _,Nat.zero_le _,hms,rfl,.inl ⟨rfl,rfl,rfl,rfl⟩⟩ iS (fun w h=>Holds.nil.2 h) ?_
 rintro ⟨j,i,dn,vl,Cl⟩ ⟨hj,hi,hmo,hdn,hov⟩
 simp only at hj hi hmo hdn hov ⊢
 have hdl:dn.length≤200000:=by rw [←hdn,List.length_append] at hpl;omega
 (repeat' first|refine kW ?_|refine kU fun bk=>?_|refine kV fun hc=>?_|refine kZ (fun hc=>?_) fun hc=>?_|fail)
 ·have hjl:j < ms.length:=by omega
  obtain ⟨m,hm⟩:∃m,ms[j]? =some m:=⟨ms[j],List.getElem?_eq_getElem hjl⟩
  have hdr:ms.drop j=m::ms.drop (j+1):=by
   have hx:ms[j]=m:=by rw [List.getElem?_eq_getElem hjl] at hm;simpa using hm
   rw [List.drop_eq_getElem_cons hjl,hx]
  rw [hdr] at hmo hdn
  obtain ⟨m1,m2,m3⟩:=hmo
  have g1:=m2.n3
  have g2:=m2.nm
  have g3:=m2.fit
  have g5:=m2.dr
  obtain ⟨tb,toff,tcap,hv9,hrd⟩:=(hrs ([(bk,cl [.slice none 0 0,.slice none 0 0] 179)]::L)).elem hjl (by decide)
  injection hv9 with q1 q2 q3
  subst q1 q3
  clear q2
  rw [flt_at (k:=3) (fun _=>rfl) hm] at hrd
  rw [pcF] at hdn
  obtain ⟨at9,n,d⟩:=m
  simp only at m1 m2 m3 g1 g2 g3 g5 hdn
  have hrd:RdAt (C::[(bk,cl [.slice none 0 0,.slice none 0 0] 179)]::L) ⟨tb,toff+j * 3,none⟩ [.int .i64 (at9:Int),.int .i64 (n:Int),.int .i64 (d:Int)]:=hrd
  refine OW_EV (EV_indexAddr (j:=j) rfl rfl rfl hjl) rfl ?_
  refine kW ?_
  refine OW_EV (EV_loadAgg rfl (rd_there hrd) rfl) rfl ?_
  (refine kW ?_;refine kU fun bk=>?_;refine kW ?_)
  obtain ⟨r1,hr1,hev1⟩:=EV_sliceRs (P:=Tryz.prog) (T:=22) ht (l:=i) (h:=at9) m1 (by omega)
  refine OW_EV (hev1 rfl rfl rfl) rfl ?_
  have hpiece:((bsv b).drop (i * 1)).take ((at9 - i) * 1)=bsv ((b.drop i).take (at9 - i)):=by simp [bsv,List.map_take,List.map_drop]
  rw [hpiece] at hr1
  have hlen1:((b.drop i).take (at9 - i)).length=at9 - i:=by rw [List.length_take,List.length_drop];omega
  have hli:=fun B1 B2 B3 B4=>literals_n r1 ((b.drop i).take (at9 - i)) (B1::B2::B3::B4::L) (by rw [hlen1];exact hr1.there.there.there.there.sl) (by omega)
  generalize lits ((b.drop i).take (at9 - i))=li at hli hdn
  have hlil:li.length+dn.length≤200000:=by rw [←hdn,List.length_append,List.length_append] at hpl;omega
  refine kW ?_
  refine cC rfl rfl (hli _ _ _ _) (fun r L' hp=>?_)
  obtain ⟨C2,ho2,rfl⟩:=hp
  refine kW ?_
  refine OW_append rfl rfl hov (ow_sl ho2) (by repeat (first|exact Zip.here _|apply Zip.there)) rfl (flt_ones TkV_ones _) (by omega) (by simp [maxLen];omega) rfl (fun vl2 Cl2 hov2 _ _=>?_)
  rw [←flt_app,←List.length_append] at hov2
  refine kW ?_
  refine OW_buildSlice (cs:=TkV (n,d)) rfl (by rfl) (by first|(simp [fillL,patch,Value.cells,zeros];done)|(simp [fillL,patch,Value.cells,zeros];rfl)) (by omega) rfl rfl (fun bn=>?_)
  refine kW ?_
  refine OW_append rfl rfl hov2 (sl_cells (k:=2) (c:=(TkV (n,d)).toArray) (xs:=TkV (n,d)) (m:=1) Fnd.here rfl (by simp)) (by repeat (first|exact Zip.here _|apply Zip.there)) rfl (by rfl) (by rw [List.length_append];omega) (by rw [List.length_append];simp [maxLen];omega) rfl (fun vl3 Cl3 hov3 _ _=>?_)
  rw [show flt TkV (dn++li)++TkV (n,d)=flt TkV ((dn++li)++[(n,d)]) from by rw [flt_app TkV (dn++li)];simp [flt],show (dn++li).length+1=((dn++li)++[(n,d)]).length from by simp [Nat.add_assoc]] at hov3
  refine kW ?_
  refine WQ_round (X:=Nat × Nat × List (Nat × Nat) × Value × Chunk) (μ:=fun x=>ms.length - x.1) (x:=(j,i,dn,vl,Cl)) (j+1,at9+n,(dn++li)++[(n,d)],vl3,Cl3) (by simp only;omega) ⟨by simp only;omega,by simp only;omega,m3,by simp only;rw [←hdn];simp,hov3⟩ iS (fun w h=>iH h)
 ·obtain rfl:j=ms.length:=by omega
  rw [List.drop_length,pcF] at hdn
  obtain ⟨r1,hr1,hev1⟩:=EV_sliceRs (P:=Tryz.prog) (T:=22) ht (l:=i) (h:=b.length) hi (Nat.le_refl _)
  refine OW_EV (hev1 rfl rfl rfl) rfl ?_
  have hpiece:((bsv b).drop (i * 1)).take ((b.length - i) * 1)=bsv (b.drop i):=by
   rw [Nat.mul_one,Nat.mul_one,List.take_of_length_le (by rw [List.length_drop,bsv_length];exact Nat.le_refl _)]
   simp [bsv,List.map_drop]
  rw [hpiece] at hr1
  have hli:=fun B1 B2 B3=>literals_n r1 (b.drop i) (B1::B2::B3::L) (by rw [List.length_drop];exact hr1.there.there.there.sl) (by rw [List.length_drop];omega)
  generalize lits (b.drop i)=li at hli hdn
  have hlil:li.length+dn.length≤200000:=by rw [←hdn,List.length_append] at hpl;omega
  refine kW ?_
  refine cC rfl rfl (hli _ _ _) (fun r L' hp=>?_)
  obtain ⟨C2,ho2,rfl⟩:=hp
  refine kW ?_
  refine OW_append rfl rfl hov (ow_sl ho2) (by repeat (first|exact Zip.here _|apply Zip.there)) rfl (flt_ones TkV_ones _) (by omega) (by simp [maxLen];omega) rfl (fun vl2 Cl2 hov2 _ _=>?_)
  rw [←flt_app,←List.length_append,hdn] at hov2
  refine kW ?_
  obtain ⟨a2,c2,rfl⟩:=ow_slc hov2
  refine kW ?_
  have hrl:RdAt ([C2]++Cl2::C::[(bk,cl [.slice va b.length vc,.slice a2 (pcF b 0 ms).length c2] 179)]::L) ⟨bk,0,none⟩ [.slice va b.length vc,.slice a2 (pcF b 0 ms).length c2]:=RdAt.cl' (.there (.there (.there .here))) rfl
  have hfin:PcR (Cl2::S) (.slice va b.length vc) (.slice a2 (pcF b 0 ms).length c2) b (pcF b 0 ms):=⟨hts.there,⟨Rs.ow hov2,hok.1⟩,hb,hpl⟩
  first
   |(refine WQ_retC (vs:=[.agg #[.slice va b.length vc,.slice a2 (pcF b 0 ms).length c2]]) rfl (.agg ⟨by kernel_rfl,by kernel_rfl⟩ rfl hrl rfl .nil) ?_
     exact ⟨Cl2::L,fun w h=>iH h,_,Cl2,rfl,hfin,rfl⟩)
   |(refine WQ_endC (vs:=[.agg #[.slice va b.length vc,.slice a2 (pcF b 0 ms).length c2]]) rfl (.agg ⟨by kernel_rfl,by kernel_rfl⟩ rfl hrl rfl .nil) ?_
     exact ⟨Cl2::L,fun w h=>iH h,_,Cl2,rfl,hfin,rfl⟩)
end Go.Proofs.YtemdlifojcgplaaGreatDoor
namespace Go.Df
open Go.Vx Go.If Go.Hf
set_option linter.all false
def inc (l:List Nat) (i:Nat):List Nat:=l.set i (l.getD i 0+1)
theorem inc_len (l:List Nat) (i:Nat):(inc l i).length=l.length:=by simp [inc]
theorem inc_get {l:List Nat} {i:Nat} (h:i < l.length) (j:Nat):(inc l i).getD j 0=l.getD j 0+if j=i then 1 else 0:=by
 unfold inc
 by_cases hj:j=i
 ·subst hj
  rw [if_pos rfl]
  simp [List.getD,h]
 ·rw [if_neg hj]
  simp [List.getD,List.getElem?_set_ne (Ne.symm hj)]
def sS (f:Nat→Nat) (n:Nat) (cs:List Nat):Nat:=Go.Pm.sumTo (fun i=>cs.getD i 0 * f i) n
theorem sS_succ (f:Nat→Nat) (n:Nat) (cs:List Nat):sS f (n+1) cs=sS f n cs+cs.getD n 0 * f n:=rfl
theorem sS_inc {f:Nat→Nat} {cs:List Nat} {i:Nat} (h:i < cs.length):∀n,sS f n (inc cs i)=sS f n cs+if i < n then f i else 0
 |0=>by simp [sS,Go.Pm.sumTo]
 |n+1=>by
  rw [sS_succ,sS_succ,sS_inc h n,inc_get h]
  by_cases h1:i=n
  ·subst h1
   rw [if_neg (by omega),if_pos rfl,if_pos (by omega),Nat.add_mul,Nat.one_mul]
   omega
  ·rw [if_neg (fun hh:n=i=>h1 hh.symm),Nat.add_zero]
   by_cases h2:i < n
   ·rw [if_pos h2,if_pos (show i < n+1 by omega)];omega
   ·rw [if_neg h2,if_neg (show ¬i < n+1 by omega)];omega
theorem sS_le {f:Nat→Nat} {cs:List Nat} {B F:Nat} (h1:∀i,cs.getD i 0≤B) (h2:∀i,f i≤F):∀n,sS f n cs≤n * (B * F)
 |0=>by simp [sS,Go.Pm.sumTo]
 |n+1=>by
  have:=sS_le h1 h2 n
  have:=Nat.mul_le_mul (h1 n) (h2 n)
  rw [sS_succ,Nat.succ_mul]
  omega
theorem rep_get (n i:Nat):(List.replicate n 0).getD i 0=0:=by
 simp only [List.getD_eq_getElem?_getD,List.getElem?_replicate]
 split<;>rfl
theorem sS_zero (f:Nat→Nat) (m:Nat):∀n,sS f n (List.replicate m 0)=0
 |0=>rfl
 |n+1=>by rw [sS_succ,sS_zero f m n,rep_get];simp
def cA (ts:List (Nat × Nat)):List Nat:=ts.foldl (fun l t=>inc l (tsy t)) (List.replicate 286 0)
def cD (ts:List (Nat × Nat)):List Nat:=ts.foldl (fun l t=>if t.2=0 then l else inc l (odN t.2)) (List.replicate 30 0)
theorem cA_app (a:List (Nat × Nat)) (t:Nat × Nat):cA (a++[t])=inc (cA a) (tsy t):=by unfold cA;rw [List.foldl_append];rfl
theorem cD_app (a:List (Nat × Nat)) (t:Nat × Nat):cD (a++[t])=if t.2=0 then cD a else inc (cD a) (odN t.2):=by unfold cD;rw [List.foldl_append];rfl
theorem snoc_ind {α:Type} {P:List α→Prop} (h0:P []) (h1:∀a t,P a→P (a++[t])) (l:List α):P l:=by
 have:∀n (l:List α),l.length=n→P l:=by
  intro n
  induction n with
  |zero=>intro l hl;rw [List.length_eq_zero_iff.1 hl];exact h0
  |succ n ih=>
   intro l hl
   have hne:l≠[]:=fun h=>by rw [h] at hl;cases hl
   rw [←List.dropLast_concat_getLast hne]
   exact h1 _ _ (ih _ (by rw [List.length_dropLast];omega))
 exact this _ l rfl
theorem cA_len (ts:List (Nat × Nat)):(cA ts).length=286:=by
 induction ts using snoc_ind with
 |h0=>exact List.length_replicate
 |h1 a t ih=>rw [cA_app,inc_len,ih]
theorem cD_len (ts:List (Nat × Nat)):(cD ts).length=30:=by
 induction ts using snoc_ind with
 |h0=>exact List.length_replicate
 |h1 a t ih=>
  rw [cD_app]
  split
  ·exact ih
  ·rw [inc_len,ih]
theorem cA_le {ts:List (Nat × Nat)} (h:∀t∈ts,TkOk t) (i:Nat):(cA ts).getD i 0≤ts.length:=by
 induction ts using snoc_ind with
 |h0=>rw [show cA []=List.replicate 286 0 from rfl,rep_get];exact Nat.zero_le _
 |h1 a t ih=>
  have ht:=tsy_lt (h t (by simp))
  rw [cA_app,inc_get (by rw [cA_len];exact ht.1),List.length_append,List.length_singleton]
  have:=ih (fun x hx=>h x (by simp [hx]))
  split<;>omega
theorem cD_le {ts:List (Nat × Nat)} (h:∀t∈ts,TkOk t) (i:Nat):(cD ts).getD i 0≤ts.length:=by
 induction ts using snoc_ind with
 |h0=>rw [show cD []=List.replicate 30 0 from rfl,rep_get];exact Nat.zero_le _
 |h1 a t ih=>
  have:=ih (fun x hx=>h x (by simp [hx]))
  rw [cD_app,List.length_append,List.length_singleton]
  split
  ·omega
  ·rename_i h0
   have hto:=h t (by simp)
   have:odN t.2≤29:=by rcases hto with ⟨g,_⟩|⟨g1,g2,_⟩;exact absurd g h0;exact (odN_ok g1 g2).1
   rw [inc_get (by rw [cD_len];omega)]
   split<;>omega
def fxA (i:Nat):Nat:=if 257≤i then (lnB i).2 else 0
theorem co_size [W0] {l dl:List Nat} {ts:List (Nat × Nat)} (h:∀t∈ts,TkOk t) :
 itL (tsI l dl (ts.map tok))=sS (fun i=>l.getD i 0) 286 (cA ts)+sS (fun i=>dl.getD i 0) 30 (cD ts)+(sS fxA 286 (cA ts)+sS (fun i=>exB i 2 4) 30 (cD ts)):=by
 induction ts using snoc_ind with
 |h0=>
  rw [show cA []=List.replicate 286 0 from rfl,show cD []=List.replicate 30 0 from rfl,sS_zero,sS_zero,sS_zero,sS_zero]
  rfl
 |h1 a t ih=>
  have hto:=h t (by simp)
  have hty:=tsy_lt hto
  rw [List.map_append,tsI_app,itL_app,ih (fun x hx=>h x (by simp [hx])),cA_app,sS_inc (by rw [cA_len];exact hty.1),sS_inc (by rw [cA_len];exact hty.1),if_pos hty.1,if_pos hty.1,cD_app]
  simp only [List.map_cons,List.map_nil,tsI,List.append_nil]
  by_cases h0:t.2=0
  ·rw [if_pos h0,tkI_lit hto h0]
   have:fxA (tsy t)=0:=by
    unfold fxA tsy
    rw [if_pos h0,if_neg]
    rcases hto with ⟨_,g⟩|⟨g,_⟩<;>omega
   rw [this]
   simp only [itL,sc]
   omega
  ·have hod:odN t.2≤29:=by rcases hto with ⟨g,_⟩|⟨g1,g2,_⟩;exact absurd g h0;exact (odN_ok g1 g2).1
   rw [if_neg h0,tkI_mt h0,sS_inc (by rw [cD_len];omega),sS_inc (by rw [cD_len];omega),if_pos (by omega),if_pos (by omega)]
   have:fxA (tsy t)=(lnB (tsy t)).2:=by unfold fxA;rw [if_pos (hty.2.1 h0)]
   rw [this]
   simp only [itL,itL_app,sc]
   omega
end Go.Df
namespace Go.Vx
open Go
set_option linter.all false
variable [W0]
theorem WR_any {P:Program} {n:Nat} {ops:List Oper} {Q:Exit→Act→World→Prop} {S:List Chunk} {T:List Nat} {fuel:Nat} {listed:Array Bool} {M:List (Nat × Value)} {L:List Chunk} (js:List Nat) (hr:Region.ready .any ops.toArray listed=js) (hne:js≠[])
 (h:∀j,j∈js→∃o,ops[j]? =some o∧o.guard=none∧OW P n o (WRk P n ops Q S T fuel (listed.setIfInBounds j true)) M L):WR P n ops Q S T (fuel+1) listed M L:=⟨fun a w ha hw=>by
 refine ⟨fun h0=>absurd (hr▸h0) hne,fun j hj=>?_⟩
 rw [hr] at hj
 obtain ⟨o,hi,hg,ho⟩:=h j hj
 unfold wpOp
 simp only [List.getElem?_toArray,hi]
 rw [if_pos (by simp [Region.wanted,hg])]
 exact .inl (ho.out a w _ Q ha hw fun M' L' hk=>⟨fun a' w' ha' hw'=>⟨fun _=>hk.inc.holds hw',hk.out.out a' w' ha' hw'⟩⟩)⟩
end Go.Vx
namespace Go.Proofs.YtemdlifojcgplaaGreatDoor
open Go Go.Vx Go.Hf Go.If Go.Df
variable [W0]
set_option maxRecDepth 4000
set_option linter.all false
theorem codeOf_n (v:Value) (ls:List Nat) (L:List Chunk) (h:Rs L 1 v ls.length (ivn ls)) (hk:Cok ls) (hn:ls.length≤400) :
 Gv Tryz.prog 158 [v].toArray L (fun r L'=>∃u C,r=.agg #[v,u]∧Rs [C] 1 u ls.length (wnv (cds ls))∧L'=C::L):=by
 refine Gv.of_body (args:=[v]) Tryz.func158 rfl rfl ?_
 obtain ⟨va,vc,rfl,hroom⟩:=h.room
 have hc:=fun B=>hcodes_n va vc (icn ls) (B::L) (by rw [icn_length,intsN_icn];exact sl_there h.sl) (by rw [icn_length];omega)
 have he:=cdE_zero (ls:=icn ls) (by rw [icn_length];exact hn) (okL_icn hk.le) (by rw [nl_icn];exact hk.k)
 rw [nl_icn] at he
 rw [icn_length,he.1,he.2] at hc
 (refine kW ?_;refine kU fun bk=>?_;refine kW ?_)
 refine cC rfl rfl (hc _) (fun r L' hp=>?_)
 obtain ⟨u,C,rfl,rfl,ho⟩:=hp
 obtain ⟨ua,uc,rfl⟩:=ow_slc ho
 rw [show (cds ls).length=ls.length from by simp [cds]] at ho ⊢
 refine kW ?_
 have hrl:RdAt (C::[(bk,cl [.slice va ls.length vc,.slice ua ls.length uc] 182)]::L) ⟨bk,0,none⟩ [.slice va ls.length vc,.slice ua ls.length uc]:=RdAt.cl' (.there .here) rfl
 have hfin:Rs [C] 1 (.slice ua ls.length uc) ls.length (wnv (cds ls)):=Rs.ow ho
 first
  |(refine WQ_retC (vs:=[.agg #[.slice va ls.length vc,.slice ua ls.length uc]]) rfl (.agg ⟨by kernel_rfl,by kernel_rfl⟩ rfl hrl rfl .nil) ?_
    exact ⟨C::L,fun w h=>iH h,_,C,rfl,hfin,rfl⟩)
  |(refine WQ_endC (vs:=[.agg #[.slice va ls.length vc,.slice ua ls.length uc]]) rfl (.agg ⟨by kernel_rfl,by kernel_rfl⟩ rfl hrl rfl .nil) ?_
    exact ⟨C::L,fun w h=>iH h,_,C,rfl,hfin,rfl⟩)
theorem countsOf_n (vt:Value) (ts:List (Nat × Nat)) (L:List Chunk) (h:TkR L vt ts) (hn:ts.length≤200000) :
 Gv Tryz.prog 159 [vt].toArray L (fun r L'=>∃v1 v2 C,r=.agg #[v1,v2]∧Rs [C] 1 v1 286 (ivn (inc (cA ts) 256))∧Rs [C] 1 v2 30 (ivn (cD ts))∧L'=C::L):=by
 refine Gv.of_body (args:=[vt]) Tryz.func159 rfl rfl ?_
 obtain ⟨ta,tc,rfl,hroom⟩:=h.rs.room
 refine WC_seq ?_
 (repeat' first|refine kY ?_|refine kU fun bk=>?_|refine kV fun hc=>?_|refine kZ (fun hc=>?_) fun hc=>?_|fail)
 refine WC_cut (X:=Nat × Nat × Nat) (fun z=>[(0,.slice ta ts.length tc),(2,.pointer (some ⟨bk,0,none⟩)),(3,.pointer (some ⟨z.2.2,0,none⟩))])
  (fun z=>[(z.2.2,cl [.slice (some ⟨z.1,0,none⟩) 286 286,.slice (some ⟨z.2.1,0,none⟩) 30 30] 240)]::[(z.1,cl (ivn (cA [])) 3)]::[(z.2.1,cl (ivn (cD [])) 3)]::[(bk,cl [.slice none 0 0,.slice none 0 0] 240)]::L) (fun _=>True) ?_ (fun z _=>?_)
 ·refine WC_drawAll [4] mixed ?_
  refine WR_any (js:=[0,1,3]) (by kernel_rfl) (by simp) (fun j hj=>?_)
  simp only [List.mem_cons,List.not_mem_nil,or_false] at hj
  rcases hj with rfl|rfl|rfl
  ·refine ⟨_,rfl,rfl,?_⟩
   refine OW_makeSlice (m:=286) (c:=286) rfl rfl (by rfl) (by omega) (by omega) (by omega) rfl (fun q0=>?_)
   rw [zeros_int]
   refine ⟨iC,?_⟩
   refine WR_any (js:=[1,3]) (by kernel_rfl) (by simp) (fun j hj=>?_)
   simp only [List.mem_cons,List.not_mem_nil,or_false] at hj
   rcases hj with rfl|rfl
   ·refine ⟨_,rfl,rfl,?_⟩
    refine OW_makeSlice (m:=30) (c:=30) rfl rfl (by rfl) (by omega) (by omega) (by omega) rfl (fun q1=>?_)
    rw [zeros_int]
    refine ⟨iC,?_⟩
    (refine WR_t 2 ?_)
    refine cI 3 rfl rfl ?_
    refine OW_alloc rfl (fun q3=>?_)
    refine ⟨iC,?_⟩
    refine cL 4 rfl rfl rfl ?_
    refine OW_storeAggTo (l:=[.slice none 0 0,.slice none 0 0]) [.slice (some ⟨q0,0,none⟩) 286 286,.slice (some ⟨q1,0,none⟩) 30 30] rfl rfl rfl rfl rfl iU (by simp) ?_
    refine cD ?_
    refine kW ?_
    refine WQ_cut (q0,q1,q3) trivial iS (fun w h=>iH h)
   ·refine ⟨_,rfl,rfl,?_⟩
    refine OW_alloc rfl (fun q3=>?_)
    refine ⟨iC,?_⟩
    refine cI 1 rfl rfl ?_
    refine OW_makeSlice (m:=30) (c:=30) rfl rfl (by rfl) (by omega) (by omega) (by omega) rfl (fun q1=>?_)
    rw [zeros_int]
    refine ⟨iC,?_⟩
    (refine WR_t 2 ?_)
    refine cL 4 rfl rfl rfl ?_
    refine OW_storeAggTo (l:=[.slice none 0 0,.slice none 0 0]) [.slice (some ⟨q0,0,none⟩) 286 286,.slice (some ⟨q1,0,none⟩) 30 30] rfl rfl rfl rfl rfl iU (by simp) ?_
    refine cD ?_
    refine kW ?_
    refine WQ_cut (q0,q1,q3) trivial iS (fun w h=>iH h)
  ·refine ⟨_,rfl,rfl,?_⟩
   refine OW_makeSlice (m:=30) (c:=30) rfl rfl (by rfl) (by omega) (by omega) (by omega) rfl (fun q1=>?_)
   rw [zeros_int]
   refine ⟨iC,?_⟩
   refine WR_any (js:=[0,3]) (by kernel_rfl) (by simp) (fun j hj=>?_)
   simp only [List.mem_cons,List.not_mem_nil,or_false] at hj
   rcases hj with rfl|rfl
   ·refine ⟨_,rfl,rfl,?_⟩
    refine OW_makeSlice (m:=286) (c:=286) rfl rfl (by rfl) (by omega) (by omega) (by omega) rfl (fun q0=>?_)
    rw [zeros_int]
    refine ⟨iC,?_⟩
    (refine WR_t 2 ?_)
    refine cI 3 rfl rfl ?_
    refine OW_alloc rfl (fun q3=>?_)
    refine ⟨iC,?_⟩
    refine cL 4 rfl rfl rfl ?_
    refine OW_storeAggTo (l:=[.slice none 0 0,.slice none 0 0]) [.slice (some ⟨q0,0,none⟩) 286 286,.slice (some ⟨q1,0,none⟩) 30 30] rfl rfl rfl rfl rfl iU (by simp) ?_
    refine cD ?_
    refine kW ?_
    refine WQ_cut (q0,q1,q3) trivial iS (fun w h=>iH h)
   ·refine ⟨_,rfl,rfl,?_⟩
    refine OW_alloc rfl (fun q3=>?_)
    refine ⟨iC,?_⟩
    refine cI 0 rfl rfl ?_
    refine OW_makeSlice (m:=286) (c:=286) rfl rfl (by rfl) (by omega) (by omega) (by omega) rfl (fun q0=>?_)
    rw [zeros_int]
    refine ⟨iC,?_⟩
    (refine WR_t 2 ?_)
    refine cL 4 rfl rfl rfl ?_
    refine OW_storeAggTo (l:=[.slice none 0 0,.slice none 0 0]) [.slice (some ⟨q0,0,none⟩) 286 286,.slice (some ⟨q1,0,none⟩) 30 30] rfl rfl rfl rfl rfl iU (by simp) ?_
    refine cD ?_
    refine kW ?_
    refine WQ_cut (q0,q1,q3) trivial iS (fun w h=>iH h)
  ·refine ⟨_,rfl,rfl,?_⟩
   refine OW_alloc rfl (fun q3=>?_)
   refine ⟨iC,?_⟩
   refine WR_any (js:=[0,1]) (by kernel_rfl) (by simp) (fun j hj=>?_)
   simp only [List.mem_cons,List.not_mem_nil,or_false] at hj
   rcases hj with rfl|rfl
   ·refine ⟨_,rfl,rfl,?_⟩
    refine OW_makeSlice (m:=286) (c:=286) rfl rfl (by rfl) (by omega) (by omega) (by omega) rfl (fun q0=>?_)
    rw [zeros_int]
    refine ⟨iC,?_⟩
    refine cI 1 rfl rfl ?_
    refine OW_makeSlice (m:=30) (c:=30) rfl rfl (by rfl) (by omega) (by omega) (by omega) rfl (fun q1=>?_)
    rw [zeros_int]
    refine ⟨iC,?_⟩
    (refine WR_t 2 ?_)
    refine cL 4 rfl rfl rfl ?_
    refine OW_storeAggTo (l:=[.slice none 0 0,.slice none 0 0]) [.slice (some ⟨q0,0,none⟩) 286 286,.slice (some ⟨q1,0,none⟩) 30 30] rfl rfl rfl rfl rfl iU (by simp) ?_
    refine cD ?_
    refine kW ?_
    refine WQ_cut (q0,q1,q3) trivial iS (fun w h=>iH h)
   ·refine ⟨_,rfl,rfl,?_⟩
    refine OW_makeSlice (m:=30) (c:=30) rfl rfl (by rfl) (by omega) (by omega) (by omega) rfl (fun q1=>?_)
    rw [zeros_int]
    refine ⟨iC,?_⟩
    refine cI 0 rfl rfl ?_
    refine OW_makeSlice (m:=286) (c:=286) rfl rfl (by rfl) (by omega) (by omega) (by omega) rfl (fun q0=>?_)
    rw [zeros_int]
    refine ⟨iC,?_⟩
    (refine WR_t 2 ?_)
    refine cL 4 rfl rfl rfl ?_
    refine OW_storeAggTo (l:=[.slice none 0 0,.slice none 0 0]) [.slice (some ⟨q0,0,none⟩) 286 286,.slice (some ⟨q1,0,none⟩) 30 30] rfl rfl rfl rfl rfl iU (by simp) ?_
    refine cD ?_
    refine kW ?_
    refine WQ_cut (q0,q1,q3) trivial iS (fun w h=>iH h)
 ·obtain ⟨b1,b2,b3⟩:=z
  simp only
  refine kW ?_
  refine WC_loop (X:=Nat) (fun x=>[(2,.pointer (some ⟨bk,0,none⟩)),(3,.pointer (some ⟨b3,0,none⟩)),(9,.slice ta ts.length tc),(10,.int .i64 (ts.length:Int)),(11,.int .i64 (x:Int))])
   (fun x=>[(b3,cl [.slice (some ⟨b1,0,none⟩) 286 286,.slice (some ⟨b2,0,none⟩) 30 30] 240)]::[(b1,cl (ivn (cA (ts.take x))) 3)]::[(b2,cl (ivn (cD (ts.take x))) 3)]::[(bk,cl [.slice none 0 0,.slice none 0 0] 240)]::L)
   (fun x=>x≤ts.length) (fun x=>ts.length - x) 0 (Nat.zero_le _) iS (fun w h=>h) ?_
  intro j hj9
  have hj:j≤ts.length:=hj9
  have hla:=cA_len (ts.take j)
  have hld:=cD_len (ts.take j)
  have hga:=fun i=>cA_le (ts:=ts.take j) (fun t ht=>h.ok t (List.mem_of_mem_take ht)) i
  have hgd:=fun i=>cD_le (ts:=ts.take j) (fun t ht=>h.ok t (List.mem_of_mem_take ht)) i
  rw [List.length_take,Nat.min_eq_left hj] at hga hgd
  (repeat' first|refine kW ?_|refine kU fun bk=>?_|refine kV fun hc=>?_|refine kZ (fun hc=>?_) fun hc=>?_|fail)
  ·have hjl:j < ts.length:=by omega
   obtain ⟨t,ht⟩:∃t,ts[j]? =some t:=⟨ts[j],List.getElem?_eq_getElem hjl⟩
   have hto:=h.ok t (List.mem_of_getElem? ht)
   have hsy:=tsy_lt hto
   have hsA:=cA_app (ts.take j) t
   have hsD:=cD_app (ts.take j) t
   rw [←takeSucc ht] at hsA hsD
   obtain ⟨tb,toff,tcap,hv9,hrd⟩:=h.rs.elem hjl (by decide)
   injection hv9 with q1 q2 q3
   subst q1 q3
   clear q2
   rw [flt_at TkV_len ht] at hrd
   refine OW_EV (EV_indexAddr (j:=j) rfl rfl rfl hjl) rfl ?_
   refine kW ?_
   refine OW_EV (EV_loadAgg rfl (rd_there (rd_there (rd_there (rd_there hrd)))) rfl) rfl ?_
   unfold TkV
   (refine kW ?_;refine kU fun bk=>?_;refine kW ?_)
   rename_i bk9
   have hsym:=fun L=>tsym_n t L hto
   unfold TkV at hsym
   have h1:=hga (tsy t)
   obtain ⟨n1,hn1⟩:∃n1,n1=(cA (ts.take j)).getD (tsy t) 0:=⟨_,rfl⟩
   have hget1:(ivn (cA (ts.take j)))[tsy t]? =some (.int .i64 (n1:Int)):=ivn_get (by rw [hn1];simp [List.getD,show tsy t < (cA (ts.take j)).length by omega])
   have hset1:(ivn (cA (ts.take j))).set (tsy t * 1) (.int .i64 ((n1+1:Nat):Int))=ivn (cA (ts.take (j+1))):=by
    rw [hsA];unfold inc;rw [←hn1];simp [ivn,List.map_set]
   rw [←hn1] at h1
   refine WC_draw [[(b3,cl [.slice (some ⟨b1,0,none⟩) 286 286,.slice (some ⟨b2,0,none⟩) 30 30] 240)],[(bk,cl (patch (Value.agg #[.int .i64 0,.int .i64 0]).cells.toList 0 [.int .i64 (t.1:Int),.int .i64 (t.2:Int)]) 236)],[(b1,cl (ivn (cA (ts.take j))) 3)]] [8] mixed ?_
   (refine WR_t 0 ?_;refine WR_t 1 ?_;refine WR_t 2 ?_)
   refine cI 3 rfl rfl ?_
   refine cP rfl rfl (hsym _) ?_
   refine ⟨iC,?_⟩
   refine cT 4 rfl rfl (EV_indexAddr0 (j:=tsy t) (len:=286) rfl rfl rfl hsy.1) ?_
   refine cT 5 rfl rfl (EV_loadc rfl (.there (.there .here)) (by rw [nth_eq,Nat.mul_one];exact hget1)) ?_
   (refine WR_t 6 ?_)
   refine cT 7 rfl rfl (EV_indexAddr0 (j:=tsy t) (len:=286) rfl rfl rfl hsy.1) ?_
   refine cL 8 rfl rfl rfl ?_
   rw [show (n1:Int)+1=((n1+1:Nat):Int) from by omega]
   refine OW_storeTo (ivn (cA (ts.take (j+1)))) rfl rfl rfl hset1 iU (by rw [ivn_length];omega) ?_
   refine cD ?_
   (repeat' first|refine kW ?_|refine kU fun bk=>?_|refine kV fun hc=>?_|refine kZ (fun hc=>?_) fun hc=>?_|fail)
   ·have h0:t.2≠0:=by omega
    rw [if_neg h0] at hsD
    have hmt:1≤t.2∧t.2≤32768:=by rcases hto with ⟨g,_⟩|⟨g1,g2,_⟩;exact absurd g h0;exact ⟨g1,g2⟩
    have hod:=(odN_ok hmt.1 hmt.2).1
    have hodn:=fun L=>odist_n t.2 L hmt.1 hmt.2
    have h2:=hgd (odN t.2)
    obtain ⟨n2,hn2⟩:∃n2,n2=(cD (ts.take j)).getD (odN t.2) 0:=⟨_,rfl⟩
    have hget2:(ivn (cD (ts.take j)))[odN t.2]? =some (.int .i64 (n2:Int)):=ivn_get (by rw [hn2];simp [List.getD,show odN t.2 < (cD (ts.take j)).length by omega])
    have hset2:(ivn (cD (ts.take j))).set (odN t.2 * 1) (.int .i64 ((n2+1:Nat):Int))=ivn (cD (ts.take (j+1))):=by
     rw [hsD];unfold inc;rw [←hn2];simp [ivn,List.map_set]
    rw [←hn2] at h2
    refine WC_draw [[(b3,cl [.slice (some ⟨b1,0,none⟩) 286 286,.slice (some ⟨b2,0,none⟩) 30 30] 240)],[(bk,cl (patch (Value.agg #[.int .i64 0,.int .i64 0]).cells.toList 0 [.int .i64 (t.1:Int),.int .i64 (t.2:Int)]) 236)],[(b2,cl (ivn (cD (ts.take j))) 3)]] [9] mixed ?_
    (refine WR_t 0 ?_;refine WR_t 1 ?_;refine WR_t 2 ?_;refine WR_t 3 ?_)
    refine cI 4 rfl rfl ?_
    refine cP rfl rfl (hodn _) ?_
    refine ⟨iC,?_⟩
    refine cT 5 rfl rfl (EV_indexAddr0 (j:=odN t.2) (len:=30) rfl rfl rfl (by omega)) ?_
    refine cT 6 rfl rfl (EV_loadc rfl (.there (.there .here)) (by rw [nth_eq,Nat.mul_one];exact hget2)) ?_
    (refine WR_t 7 ?_)
    refine cT 8 rfl rfl (EV_indexAddr0 (j:=odN t.2) (len:=30) rfl rfl rfl (by omega)) ?_
    refine cL 9 rfl rfl rfl ?_
    rw [show (n2:Int)+1=((n2+1:Nat):Int) from by omega]
    refine OW_storeTo (ivn (cD (ts.take (j+1)))) rfl rfl rfl hset2 iU (by rw [ivn_length];omega) ?_
    refine cD ?_
    refine kW ?_
    refine WQ_round (X:=Nat) (μ:=fun x=>ts.length - x) (x:=j) (j+1) (by show ts.length - (j+1) < ts.length - j;omega) (by show j+1≤ts.length;omega) iS (fun w h=>iH h)
   ·have h0:t.2=0:=by omega
    rw [if_pos h0] at hsD
    rw [←hsD]
    refine WQ_round (X:=Nat) (μ:=fun x=>ts.length - x) (x:=j) (j+1) (by show ts.length - (j+1) < ts.length - j;omega) (by show j+1≤ts.length;omega) iS (fun w h=>iH h)
  ·obtain rfl:j=ts.length:=by omega
   rw [List.take_length] at hla hld hga ⊢
   have h1:=hga 256
   obtain ⟨n1,hn1⟩:∃n1,n1=(cA ts).getD 256 0:=⟨_,rfl⟩
   have hget1:(ivn (cA ts))[256]? =some (.int .i64 (n1:Int)):=ivn_get (by rw [hn1];simp [List.getD,show 256 < (cA ts).length by omega])
   have hset1:(ivn (cA ts)).set (256 * 1) (.int .i64 ((n1+1:Nat):Int))=ivn (inc (cA ts) 256):=by
    unfold inc;rw [←hn1];simp [ivn,List.map_set]
   rw [←hn1] at h1
   refine OW_EV (EV_indexAddr0 (j:=256) (len:=286) rfl rfl rfl (by decide)) rfl ?_
   refine kW ?_
   refine OW_EV (EV_loadc rfl (.there .here) (by rw [nth_eq,Nat.mul_one];exact hget1)) rfl ?_
   refine kW ?_
   refine OW_EV (EV_indexAddr0 (j:=256) (len:=286) rfl rfl rfl (by decide)) rfl ?_
   refine kW ?_
   rw [show (n1:Int)+1=((n1+1:Nat):Int) from by omega]
   refine OW_storeTo (ivn (inc (cA ts) 256)) rfl rfl rfl hset1 iU (by rw [ivn_length];omega) ?_
   refine kW ?_
   have hrl:RdAt ([(b3,cl [.slice (some ⟨b1,0,none⟩) 286 286,.slice (some ⟨b2,0,none⟩) 30 30] 240)]::[(b1,cl (ivn (inc (cA ts) 256)) 3)]::[(b2,cl (ivn (cD ts)) 3)]::[(bk,cl [.slice (some ⟨b1,0,none⟩) 286 286,.slice (some ⟨b2,0,none⟩) 30 30] 240)]::L) ⟨bk,0,none⟩ [.slice (some ⟨b1,0,none⟩) 286 286,.slice (some ⟨b2,0,none⟩) 30 30]:=RdAt.cl' (.there (.there (.there .here))) rfl
   have hf1:Rs (([(b1,cl (ivn (inc (cA ts) 256)) 3)]++[(b2,cl (ivn (cD ts)) 3)])::[]) 1 (.slice (some ⟨b1,0,none⟩) 286 286) 286 (ivn (inc (cA ts) 256)):=⟨sl_cells (c:=(ivn (inc (cA ts) 256)).toArray) (.mem (List.mem_append_left _ (List.mem_singleton.2 rfl))) (by rw [ivn_length,inc_len,hla]) (by simp),_,_,rfl,Nat.le_refl _⟩
   have hf2:Rs (([(b1,cl (ivn (inc (cA ts) 256)) 3)]++[(b2,cl (ivn (cD ts)) 3)])::[]) 1 (.slice (some ⟨b2,0,none⟩) 30 30) 30 (ivn (cD ts)):=⟨sl_cells (c:=(ivn (cD ts)).toArray) (.mem (List.mem_append_right _ (List.mem_singleton.2 rfl))) (by rw [ivn_length,hld]) (by simp),_,_,rfl,Nat.le_refl _⟩
   first
    |(refine WQ_retC (vs:=[.agg #[.slice (some ⟨b1,0,none⟩) 286 286,.slice (some ⟨b2,0,none⟩) 30 30]]) rfl (.agg ⟨by kernel_rfl,by kernel_rfl⟩ rfl hrl rfl .nil) ?_
      exact ⟨_,fun w h=>two.2 (iH h),_,_,_,rfl,hf1,hf2,rfl⟩)
    |(refine WQ_endC (vs:=[.agg #[.slice (some ⟨b1,0,none⟩) 286 286,.slice (some ⟨b2,0,none⟩) 30 30]]) rfl (.agg ⟨by kernel_rfl,by kernel_rfl⟩ rfl hrl rfl .nil) ?_
      exact ⟨_,fun w h=>two.2 (iH h),_,_,_,rfl,hf1,hf2,rfl⟩)
end Go.Proofs.YtemdlifojcgplaaGreatDoor
namespace Go.Df
open Go.Vx Go.If Go.Hf
set_option linter.all false
theorem sS_none {f:Nat→Nat} (cs:List Nat):∀n,(∀i,i < n→f i=0)→sS f n cs=0
 |0,_=>rfl
 |n+1,h=>by rw [sS_succ,sS_none cs n (fun i hi=>h i (by omega)),h n (by omega)];simp
theorem sS_leN {f:Nat→Nat} {cs:List Nat} {B F:Nat} (h1:∀i,cs.getD i 0≤B):∀n,(∀i,i < n→f i≤F)→sS f n cs≤n * (B * F)
 |0,_=>by simp [sS,Go.Pm.sumTo]
 |n+1,h2=>by
  have:=sS_leN h1 n (fun i hi=>h2 i (by omega))
  have:=Nat.mul_le_mul (h1 n) (h2 n (by omega))
  rw [sS_succ,Nat.succ_mul]
  omega
theorem fxA_le (i:Nat) (h:i < 286):fxA i≤5:=by
 unfold fxA
 split
 ·exact (lnB_b i h (by assumption)).2
 ·omega
end Go.Df
namespace Go.Proofs.YtemdlifojcgplaaGreatDoor
open Go Go.Vx Go.Hf Go.If Go.Df
variable [W0]
set_option maxRecDepth 4000
set_option linter.all false
theorem ccost_n (v1 v2 v3:Value) (ls cs:List Nat) (L:List Chunk) (h:Rs L 1 v1 ls.length (ivn ls)) (hc:Rs L 1 v3 cs.length (ivn cs)) (hn:cs.length≤1000) (hcB:∀i,cs.getD i 0≤2147483648) (hsB:∀i,ls.getD i 0≤1048576) :
 GvP Tryz.prog 203 [.agg #[v1,v2],v3].toArray L (.int .i64 ((sS (fun i=>ls.getD i 0) (min cs.length ls.length) cs:Nat):Int)):=by
 refine Gv.of_body (args:=[.agg #[v1,v2],v3]) Tryz.func203 rfl rfl ?_
 obtain ⟨a1,c1,rfl,_⟩:=h.room
 obtain ⟨a3,c3,rfl,_⟩:=hc.room
 have hco:=fun B=>hcost_n a3 a1 c3 c1 cs ls (B::L) (by rw [intsN_icn];exact sl_there hc.sl) (by rw [intsN_icn];exact sl_there h.sl) hn hcB hsB
 rw [show costN cs ls (min cs.length ls.length)=sS (fun i=>ls.getD i 0) (min cs.length ls.length) cs from rfl] at hco
 (refine kW ?_;refine kU fun bk=>?_;refine kW ?_)
 refine cP rfl rfl (hco _) ?_
 refine kW ?_
 refine kR ?_
 exact ⟨_,iC,rfl,rfl⟩
theorem extra_n (v1 v2:Value) (ca cd:List Nat) (L:List Chunk) (h1:Rs L 1 v1 286 (ivn ca)) (h2:Rs L 1 v2 30 (ivn cd)) (hb1:∀i,ca.getD i 0≤1000000) (hb2:∀i,cd.getD i 0≤1000000) :
 GvP Tryz.prog 204 [.agg #[v1,v2]].toArray L (.int .i64 ((sS fxA 286 ca+sS (fun i=>exB i 2 4) 30 cd:Nat):Int)):=by
 refine Gv.of_body (args:=[.agg #[v1,v2]]) Tryz.func204 rfl rfl ?_
 obtain ⟨a1,c1,rfl,_⟩:=h1.room
 obtain ⟨a2,c2,rfl,_⟩:=h2.room
 have hl1:ca.length=286:=by have:=h1.len;rw [ivn_length] at this;omega
 have hl2:cd.length=30:=by have:=h2.len;rw [ivn_length] at this;omega
 (refine kW ?_;refine kU fun bk=>?_;refine kW ?_)
 refine WC_loop (X:=Nat) (fun x=>[(1,.pointer (some ⟨bk,0,none⟩)),(3,.int .i64 ((sS fxA x ca:Nat):Int)),(4,.int .i64 (x:Int))]) (fun x=>[(bk,cl [.slice a1 286 c1,.slice a2 30 c2] 240)]::L)
  (fun x=>257≤x∧x≤286∧sS fxA x ca≤x * 5000000) (fun x=>286 - x) 257 ⟨Nat.le_refl _,by decide,by rw [sS_none ca 257 (fun i hi=>by unfold fxA;rw [if_neg (by omega)])];omega⟩ (by
    rw [sS_none ca 257 (fun i hi=>by unfold fxA;rw [if_neg (by omega)])]
    exact iS) (fun w h=>h) ?_
 intro x hx9
 have hx:257≤x∧x≤286∧sS fxA x ca≤x * 5000000:=hx9
 have hfx:fxA x=(lnB x).2:=by unfold fxA;rw [if_pos hx.1]
 have hss:=sS_succ fxA x ca
 have hcx:=hb1 x
 rw [hfx] at hss
 obtain ⟨s,hs9⟩:∃s,s=sS fxA x ca:=⟨_,rfl⟩
 rw [←hs9] at hx hss ⊢
 (repeat' first|refine kW ?_|refine kU fun bk=>?_|refine kV fun hc=>?_|refine kZ (fun hc=>?_) fun hc=>?_|fail)
 ·have hxl:x < 286:=by omega
  have hlb:=lnB_b x hxl hx.1
  have hsl:=fun L=>slength_n x L hx.1 (by omega)
  have hget:(ivn ca)[x]? =some (.int .i64 ((ca.getD x 0:Nat):Int)):=ivn_get (by simp [List.getD,show x < ca.length by omega])
  obtain ⟨tb,toff,tcap,tcc,T1,f1,hv9,hf1,hv1⟩:=sl_at h1.sl hget
  injection hv9 with q1 q2 q3
  subst q1 q3
  clear q2
  generalize ca.getD x 0=n at hss hcx hv1
  generalize lnB x=lb at hlb hsl hss
  refine cP rfl rfl (hsl _) ?_
  refine kW ?_
  refine OW_EV (EV_indexAddr (j:=x) rfl rfl rfl hxl) rfl ?_
  refine kW ?_
  refine OW_EV (EV_load rfl (.there hf1) hv1) rfl ?_
  refine kW ?_
  have hml:n * lb.2≤1000000 * 5:=Nat.mul_le_mul hcx hlb.2
  refine OW_EV (EV_ari64 (r:=((n * lb.2:Nat):Int)) rfl rfl (by simp [ariI]) (by omega)) rfl ?_
  generalize n * lb.2=z at hml hss
  refine kW ?_
  rw [show (s:Int)+(z:Int)=((sS fxA (x+1) ca:Nat):Int) from by omega]
  refine WQ_round (X:=Nat) (μ:=fun x=>286 - x) (x:=x) (x+1) (by show 286 - (x+1) < 286 - x;omega) (by show 257≤x+1∧x+1≤286∧sS fxA (x+1) ca≤(x+1) * 5000000;omega) iS (fun w h=>h)
 obtain rfl:x=286:=by omega
 rw [←hs9]
 clear hss hcx hfx
 refine WC_loop (X:=Nat) (fun x=>[(1,.pointer (some ⟨bk,0,none⟩)),(3,.int .i64 ((s+sS (fun i=>exB i 2 4) x cd:Nat):Int)),(30,.slice a2 30 c2),(31,.int .i64 30),(32,.int .i64 (x:Int))]) (fun x=>[(bk,cl [.slice a1 286 c1,.slice a2 30 c2] 240)]::L)
  (fun x=>x≤30∧sS (fun i=>exB i 2 4) x cd≤x * 13000000) (fun x=>30 - x) 0 ⟨by decide,by simp [sS,Go.Pm.sumTo]⟩ (by
    rw [show sS (fun i=>exB i 2 4) 0 cd=0 from rfl,Nat.add_zero]
    exact iS) (fun w h=>h) ?_
 intro y hy9
 have hy:y≤30∧sS (fun i=>exB i 2 4) y cd≤y * 13000000:=hy9
 have hss:=sS_succ (fun i=>exB i 2 4) y cd
 have hcx:=hb2 y
 obtain ⟨u,hu9⟩:∃u,u=sS (fun i=>exB i 2 4) y cd:=⟨_,rfl⟩
 rw [←hu9] at hy hss ⊢
 (repeat' first|refine kW ?_|refine kU fun bk=>?_|refine kV fun hc=>?_|refine kZ (fun hc=>?_) fun hc=>?_|fail)
 ·have hyl:y < 30:=by omega
  have hlb:=dsB_b y hyl
  have hsl:=fun L=>sdistance_n y L hyl
  have hget:(ivn cd)[y]? =some (.int .i64 ((cd.getD y 0:Nat):Int)):=ivn_get (by simp [List.getD,show y < cd.length by omega])
  obtain ⟨tb,toff,tcap,tcc,T1,f1,hv9,hf1,hv1⟩:=sl_at h2.sl hget
  injection hv9 with q1 q2 q3
  subst q1 q3
  clear q2
  generalize cd.getD y 0=n at hss hcx hv1
  generalize exB y 2 4=e at hlb hsl hss
  refine OW_EV (EV_indexAddr (j:=y) rfl rfl rfl hyl) rfl ?_
  refine kW ?_
  refine OW_EV (EV_load rfl (.there hf1) hv1) rfl ?_
  refine kW ?_
  refine cP rfl rfl (hsl _) ?_
  refine kW ?_
  have hml:n * e≤1000000 * 13:=Nat.mul_le_mul hcx hlb.2
  refine OW_EV (EV_ari64 (r:=((n * e:Nat):Int)) rfl rfl (by simp [ariI]) (by omega)) rfl ?_
  generalize n * e=z at hml hss
  refine kW ?_
  rw [show ((s+u:Nat):Int)+(z:Int)=((s+sS (fun i=>exB i 2 4) (y+1) cd:Nat):Int) from by omega]
  refine WQ_round (X:=Nat) (μ:=fun x=>30 - x) (x:=y) (y+1) (by show 30 - (y+1) < 30 - y;omega) (by show y+1≤30∧sS (fun i=>exB i 2 4) (y+1) cd≤(y+1) * 13000000;omega) iS (fun w h=>h)
 ·obtain rfl:y=30:=by omega
  rw [←hu9]
  refine kR ?_
  exact ⟨_,iC,rfl,rfl⟩
end Go.Proofs.YtemdlifojcgplaaGreatDoor
namespace Go.Df
open Go.Vx Go.If Go.Hf
set_option linter.all false
theorem co_cost [W0] {l dl:List Nat} {ts:List (Nat × Nat)} (h:∀t∈ts,TkOk t) :
 itL (tsI l dl (ts.map tok)++[sc l 256])=sS (fun i=>l.getD i 0) 286 (inc (cA ts) 256)+sS (fun i=>dl.getD i 0) 30 (cD ts)+(sS fxA 286 (inc (cA ts) 256)+sS (fun i=>exB i 2 4) 30 (cD ts)):=by
 have h1:256 < (cA ts).length:=by rw [cA_len];decide
 rw [itL_app,co_size h,sS_inc h1,sS_inc h1,if_pos (by decide),if_pos (by decide),show fxA 256=0 from rfl]
 simp only [itL,sc]
 omega
end Go.Df
namespace Go.Proofs.YtemdlifojcgplaaGreatDoor
open Go Go.Vx Go.Hf Go.If Go.Df
variable [W0]
set_option maxRecDepth 4000
set_option linter.all false
theorem codedBy_n (v1 v2 v3 v4 vt c1 c2:Value) (l dl:List Nat) (ts:List (Nat × Nat)) (L:List Chunk) (ha:CdR L v1 v2 l) (hb:CdR L v3 v4 dl) (ht:TkR L vt ts) (hn:ts.length≤200000) (hl:286≤l.length) (hd:30≤dl.length)
 (h1:Rs L 1 c1 286 (ivn (inc (cA ts) 256))) (h2:Rs L 1 c2 30 (ivn (cD ts))) :
 GvP Tryz.prog 157 [.agg #[v1,v2],.agg #[v3,v4],vt,.agg #[c1,c2]].toArray L (.agg (cdV vt v1 v2 v3 v4 (itL (coI l dl ts))).toArray):=by
 refine Gv.of_body (args:=[.agg #[v1,v2],.agg #[v3,v4],vt,.agg #[c1,c2]]) Tryz.func157 rfl rfl ?_
 have hla:(inc (cA ts) 256).length=286:=by rw [inc_len,cA_len]
 have hld:=cD_len ts
 have hca:∀i,(inc (cA ts) 256).getD i 0≤200001:=fun i=>by
  have:=cA_le ht.ok i
  rw [inc_get (by rw [cA_len];decide)]
  split<;>omega
 have hcd:∀i,(cD ts).getD i 0≤200000:=fun i=>by have:=cD_le ht.ok i;omega
 have hsz:itL (coI l dl ts)=_:=co_cost (l:=l) (dl:=dl) ht.ok
 have b1:=sS_le (cs:=inc (cA ts) 256) (f:=fun i=>l.getD i 0) hca (fun i=>ha.ok.at i) 286
 have b2:=sS_le (cs:=cD ts) (f:=fun i=>dl.getD i 0) hcd (fun i=>hb.ok.at i) 30
 have b3:=sS_leN (f:=fun i=>exB i 2 4) (F:=13) hcd 30 (fun i hi=>(dsB_b i hi).2)
 have b4:=sS_leN (f:=fxA) (F:=5) hca 286 fxA_le
 rw [hsz]
 generalize inc (cA ts) 256=ca at *
 generalize cD ts=cd at *
 obtain ⟨ta,tc,rfl,_⟩:=ht.rs.room
 obtain ⟨a1,e1,rfl,_⟩:=ha.l.room
 obtain ⟨a2,e2,rfl,_⟩:=ha.c.room
 obtain ⟨a3,e3,rfl,_⟩:=hb.l.room
 obtain ⟨a4,e4,rfl,_⟩:=hb.c.room
 obtain ⟨a5,e5,rfl,_⟩:=h1.room
 obtain ⟨a6,e6,rfl,_⟩:=h2.room
 (refine kW ?_;refine kU fun bk=>?_;refine kW ?_;refine kU fun bk=>?_;refine kW ?_;refine kU fun bk=>?_;refine kW ?_;refine kU fun bk=>?_;refine kW ?_)
 rename_i q4 q5 q7
 have hm1:min ca.length l.length=286:=by omega
 have hm2:min cd.length dl.length=30:=by omega
 have hc1:=fun B1 B2 B3 B4=>ccost_n (.slice a1 l.length e1) (.slice a2 l.length e2) (.slice a5 286 e5) l ca (B1::B2::B3::B4::L) ha.l.there.there.there.there (by rw [hla];exact h1.there.there.there.there) (by omega) (fun i=>by have:=hca i;omega) (fun i=>by have:=ha.ok.at i;omega)
 have hc2:=fun B1 B2 B3 B4=>ccost_n (.slice a3 dl.length e3) (.slice a4 dl.length e4) (.slice a6 30 e6) dl cd (B1::B2::B3::B4::L) hb.l.there.there.there.there (by rw [hld];exact h2.there.there.there.there) (by omega) (fun i=>by have:=hcd i;omega) (fun i=>by have:=hb.ok.at i;omega)
 have hc3:=fun B1 B2 B3 B4=>extra_n (.slice a5 286 e5) (.slice a6 30 e6) ca cd (B1::B2::B3::B4::L) h1.there.there.there.there h2.there.there.there.there (fun i=>by have:=hca i;omega) (fun i=>by have:=hcd i;omega)
 rw [hm1] at hc1
 rw [hm2] at hc2
 clear hsz
 generalize sS (fun i=>l.getD i 0) 286 ca=z1 at *
 generalize sS (fun i=>dl.getD i 0) 30 cd=z2 at *
 generalize sS fxA 286 ca=z3 at *
 generalize sS (fun i=>exB i 2 4) 30 cd=z4 at *
 refine WC_drawAll [16] mixed ?_
 (refine WR_t 0 ?_;refine WR_t 1 ?_;refine WR_t 2 ?_;refine WR_t 3 ?_;refine WR_t 4 ?_;refine WR_t 5 ?_;refine WR_t 7 ?_;refine WR_t 8 ?_;refine WR_t 9 ?_;refine WR_t 12 ?_)
 refine cI 6 rfl rfl ?_
 refine cP rfl rfl (hc1 _ _ _ _) ?_
 refine ⟨iC,?_⟩
 refine cI 10 rfl rfl ?_
 refine cP rfl rfl (hc2 _ _ _ _) ?_
 refine ⟨iC,?_⟩
 (refine WR_t 11 ?_)
 refine cI 13 rfl rfl ?_
 refine cP rfl rfl (hc3 _ _ _ _) ?_
 refine ⟨iC,?_⟩
 (refine WR_t 14 ?_;refine WR_t 15 ?_)
 refine cL 16 rfl rfl rfl ?_
 rw [show (z1:Int)+(z2:Int)+((z3+z4:Nat):Int)=((z1+z2+(z3+z4):Nat):Int) from by omega]
 refine OW_storeAggTo (l:=[.slice none 0 0,.slice none 0 0,.slice none 0 0,.slice none 0 0,.slice none 0 0,.int .i64 0]) (cdV (.slice ta ts.length tc) (.slice a1 l.length e1) (.slice a2 l.length e2) (.slice a3 dl.length e3) (.slice a4 dl.length e4) (z1+z2+(z3+z4))) rfl rfl rfl rfl rfl iU (by simp [cdV]) ?_
 refine cD ?_
 refine kW ?_
 have hrl:RdAt ([(bk,cl (cdV (.slice ta ts.length tc) (.slice a1 l.length e1) (.slice a2 l.length e2) (.slice a3 dl.length e3) (.slice a4 dl.length e4) (z1+z2+(z3+z4))) 184)]::[(q7,cl [.slice a5 286 e5,.slice a6 30 e6] 240)]::[(q5,cl [.slice a3 dl.length e3,.slice a4 dl.length e4] 182)]::[(q4,cl [.slice a1 l.length e1,.slice a2 l.length e2] 182)]::L) ⟨bk,0,none⟩ (cdV (.slice ta ts.length tc) (.slice a1 l.length e1) (.slice a2 l.length e2) (.slice a3 dl.length e3) (.slice a4 dl.length e4) (z1+z2+(z3+z4))):=RdAt.cl' .here rfl
 first
  |(refine WQ_retC (vs:=[.agg (cdV (.slice ta ts.length tc) (.slice a1 l.length e1) (.slice a2 l.length e2) (.slice a3 dl.length e3) (.slice a4 dl.length e4) (z1+z2+(z3+z4))).toArray]) rfl (.agg ⟨by kernel_rfl,by kernel_rfl⟩ rfl hrl rfl .nil) ?_
    exact ⟨_,fun w h=>h.drop.drop.drop.drop,rfl,rfl⟩)
  |(refine WQ_endC (vs:=[.agg (cdV (.slice ta ts.length tc) (.slice a1 l.length e1) (.slice a2 l.length e2) (.slice a3 dl.length e3) (.slice a4 dl.length e4) (z1+z2+(z3+z4))).toArray]) rfl (.agg ⟨by kernel_rfl,by kernel_rfl⟩ rfl hrl rfl .nil) ?_
    exact ⟨_,fun w h=>h.drop.drop.drop.drop,rfl,rfl⟩)
theorem fixedOf_n (v vt:Value) (b:List UInt8) (ts:List (Nat × Nat)) (S L:List Chunk) (hi:Inc S L) (h:PcR S v vt b ts) :
 Gv Tryz.prog 119 [.agg #[v,vt]].toArray L (fun r L'=>∃v1 v2 v3 v4 C,r=.agg (cdV vt v1 v2 v3 v4 (itL (coI fxL fxD ts))).toArray∧CoR (C::S) vt v1 v2 v3 v4 ts fxL fxD∧L'=C::L):=by
 refine Gv.of_body (args:=[.agg #[v,vt]]) Tryz.func119 rfl rfl ?_
 obtain ⟨va,vc,rfl,_⟩:=h.x.room
 obtain ⟨ta,tc,rfl,_⟩:=h.t.rs.room
 have hL:=h.sub hi.mem
 (refine kW ?_;refine kU fun bk=>?_;refine kW ?_;refine kU fun bk=>?_;refine kW ?_)
 rename_i q1
 refine cC rfl rfl (fixedLengths_n _) (fun r L' hp=>?_)
 obtain ⟨u,w,C1,C2,rfl,rfl,ho1,ho2⟩:=hp
 have hu:=Rs.ow (L:=[]) ho1
 have hw:=Rs.ow (L:=[]) ho2
 obtain ⟨ua,uc,rfl⟩:=ow_slc ho1
 obtain ⟨wa,wc,rfl⟩:=ow_slc ho2
 refine kW ?_
 refine WC_drawAll [11] mixed ?_
 (refine WR_t 0 ?_;refine WR_t 2 ?_;refine WR_t 4 ?_;refine WR_t 5 ?_;refine WR_t 6 ?_;refine WR_t 7 ?_)
 refine cI 1 rfl rfl ?_
 refine cC rfl rfl (codeOf_n (.slice ua 288 uc) fxL _ (hu.sub iM) fxL_ok (by decide)) (fun r L' hp=>?_)
 obtain ⟨u2,C3,rfl,hca,rfl⟩:=hp
 refine ⟨iC,?_⟩
 refine cI 3 rfl rfl ?_
 refine cC rfl rfl (codeOf_n (.slice wa 32 wc) fxD _ (hw.sub iM) fxD_ok (by decide)) (fun r L' hp=>?_)
 obtain ⟨w2,C4,rfl,hcb,rfl⟩:=hp
 refine ⟨iC,?_⟩
 refine cI 8 rfl rfl ?_
 refine cC rfl rfl (countsOf_n (.slice ta ts.length tc) ts _ (hL.t.sub iM) h.nt) (fun r L' hp=>?_)
 obtain ⟨x1,x2,C5,rfl,hx1,hx2,rfl⟩:=hp
 refine ⟨iC,?_⟩
 have hA:CdR (C4::C3::C2::C1::S) (.slice ua 288 uc) u2 fxL:=⟨hu.sub iM,hca.sub iM,fxL_ok,by decide⟩
 have hB:CdR (C4::C3::C2::C1::S) (.slice wa 32 wc) w2 fxD:=⟨hw.sub iM,hcb.sub iM,fxD_ok,by decide⟩
 have hA2:CdR (C4::C3::C2::C1::L) (.slice ua 288 uc) u2 fxL:=⟨hu.sub iM,hca.sub iM,fxL_ok,by decide⟩
 have hB2:CdR (C4::C3::C2::C1::L) (.slice wa 32 wc) w2 fxD:=⟨hw.sub iM,hcb.sub iM,fxD_ok,by decide⟩
 have hfin:CoR ((C4++(C3++(C2++C1)))::S) (.slice ta ts.length tc) (.slice ua 288 uc) u2 (.slice wa 32 wc) w2 ts fxL fxD:=by
  refine CoR.sub (L:=C4::C3::C2::C1::S) (fun x hx=>by simpa [List.append_assoc] using hx) ⟨h.t.sub iM,hA,hB,by decide,by decide,h.nt⟩
 refine cI 9 rfl rfl ?_
 refine cP rfl rfl (codedBy_n (.slice ua 288 uc) u2 (.slice wa 32 wc) w2 (.slice ta ts.length tc) x1 x2 fxL fxD ts _ (hA2.sub iM) (hB2.sub iM) (hL.t.sub iM) h.nt (by decide) (by decide) (hx1.sub iM) (hx2.sub iM)) ?_
 refine ⟨iC,?_⟩
 generalize itL (coI fxL fxD ts)=size at *
 obtain ⟨u2a,u2c,rfl,_⟩:=hca.room
 obtain ⟨w2a,w2c,rfl,_⟩:=hcb.room
 unfold cdV
 (refine WR_t 10 ?_)
 refine cL 11 rfl rfl rfl ?_
 refine OW_storeAggTo (l:=[.slice none 0 0,.slice none 0 0,.slice none 0 0,.slice none 0 0,.slice none 0 0,.int .i64 0]) [.slice ta ts.length tc,.slice ua 288 uc,.slice u2a 288 u2c,.slice wa 32 wc,.slice w2a 32 w2c,.int .i64 (size:Int)] rfl rfl rfl rfl rfl iU (by simp) ?_
 refine cD ?_
 refine kW ?_
 (first|refine WQ_retC (vs:=[.agg ([.slice ta ts.length tc,.slice ua 288 uc,.slice u2a 288 u2c,.slice wa 32 wc,.slice w2a 32 w2c,.int .i64 (size:Int)]).toArray]) rfl (.agg ⟨by kernel_rfl,by kernel_rfl⟩ rfl (RdAt.cl' (vs:=[.slice ta ts.length tc,.slice ua 288 uc,.slice u2a 288 u2c,.slice wa 32 wc,.slice w2a 32 w2c,.int .i64 (size:Int)]) (by repeat (first|assumption|exact Fnd.here|refine Fnd.there ?_)) rfl) rfl .nil) ?_|refine WQ_endC (vs:=[.agg ([.slice ta ts.length tc,.slice ua 288 uc,.slice u2a 288 u2c,.slice wa 32 wc,.slice w2a 32 w2c,.int .i64 (size:Int)]).toArray]) rfl (.agg ⟨by kernel_rfl,by kernel_rfl⟩ rfl (RdAt.cl' (vs:=[.slice ta ts.length tc,.slice ua 288 uc,.slice u2a 288 u2c,.slice wa 32 wc,.slice w2a 32 w2c,.int .i64 (size:Int)]) (by repeat (first|assumption|exact Fnd.here|refine Fnd.there ?_)) rfl) rfl .nil) ?_)
 refine ⟨(C4++(C3++(C2++C1)))::L,fun w h=>four.2 (iH h),_,_,_,_,_,rfl,hfin,rfl⟩
end Go.Proofs.YtemdlifojcgplaaGreatDoor
namespace Go.Df
open Go.Vx Go.If Go.Hf
set_option linter.all false
def sfN (x n:Nat) (bf:Bool):Nat:=if x=0∧11≤n then 18 else if x=0∧3≤n then 17 else if 0 < x∧bf=true∧3≤n then 16 else x
def smN (x n:Nat) (bf:Bool):Nat:=min n (rpA (sfN x n bf)+2 ^ rpB (sfN x n bf) - 1)
def oneF (x:Nat):Nat→Nat→Bool→List (Nat × Nat)
 |0,_,_=>[]
 |f+1,n,bf=>if n=0 then [] else (sfN x n bf,smN x n bf - rpA (sfN x n bf))::oneF x f (n - smN x n bf) true
def eqN:List Nat→Nat
 |[]=>0
 |x::r=>1+(r.takeWhile fun y=>decide (y=x)).length
def rnF:Nat→List Nat→List (Nat × Nat)
 |0,_=>[]
 |f+1,l=>if l=[] then [] else oneF (l.getD 0 0) (eqN l) (eqN l) false++rnF f (l.drop (eqN l))
def rnS (l:List Nat):List (Nat × Nat):=rnF l.length l
theorem sfN_le {x n:Nat} (h:x≤15) (bf:Bool):sfN x n bf≤18:=by unfold sfN;split<;>(try split)<;>(try split)<;>omega
theorem sfN_fit {x n:Nat} (h:x≤15) (hn:1≤n) (bf:Bool):rpA (sfN x n bf)≤n∧1≤rpA (sfN x n bf)∧rpA (sfN x n bf)≤11∧rpB (sfN x n bf)≤7:=by
 unfold sfN
 split
 ·exact ⟨by show 11≤n;omega,by decide,by decide,by decide⟩
 ·split
  ·exact ⟨by show 3≤n;omega,by decide,by decide,by decide⟩
  ·split
   ·exact ⟨by show 3≤n;omega,by decide,by decide,by decide⟩
   ·have e1:rpA x=1:=by unfold rpA;rw [if_neg (by omega),if_neg (by omega),if_neg (by omega)]
    have e2:rpB x=0:=by unfold rpB;rw [if_neg (by omega),if_neg (by omega),if_neg (by omega)]
    rw [e1,e2];omega
theorem smN_b {x n:Nat} (h:x≤15) (hn:1≤n) (bf:Bool):rpA (sfN x n bf)≤smN x n bf∧smN x n bf≤n∧1≤smN x n bf∧smN x n bf - rpA (sfN x n bf) < 2 ^ rpB (sfN x n bf):=by
 have:=sfN_fit h hn bf
 have hp:0 < 2 ^ rpB (sfN x n bf):=Nat.pow_pos (by decide)
 unfold smN
 omega
theorem oneF_len (x:Nat) (hx:x≤15):∀f n bf,(oneF x f n bf).length≤n
 |0,n,bf=>Nat.zero_le _
 |f+1,n,bf=>by
  rw [oneF]
  split
  ·exact Nat.zero_le _
  ·have:=smN_b hx (n:=n) (by omega) bf
   have:=oneF_len x hx f (n - smN x n bf) true
   rw [List.length_cons];omega
theorem eqN_b {l:List Nat} (h:l≠[]):1≤eqN l∧eqN l≤l.length:=by
 cases l with
 |nil=>exact absurd rfl h
 |cons x r=>
  have:=(List.takeWhile_sublist (fun y=>decide (y=x)) (l:=r)).length_le
  simp only [eqN,List.length_cons]
  omega
theorem eqN_step {l:List Nat} {k:Nat} (h0:1≤k) (hk:k≤eqN l):(k < l.length∧l.getD k 0=l.getD 0 0→k+1≤eqN l)∧(¬(k < l.length∧l.getD k 0=l.getD 0 0)→eqN l≤k):=by
 cases l with
 |nil=>simp only [eqN] at hk;omega
 |cons x r=>
  obtain ⟨j,rfl⟩:∃j,k=j+1:=⟨k - 1,by omega⟩
  simp only [eqN,List.getD_cons_succ,List.getD_cons_zero,List.length_cons] at hk ⊢
  have key:∀(r:List Nat) (j:Nat),j≤(r.takeWhile fun y=>decide (y=x)).length→(j < r.length∧r.getD j 0=x→j+1≤(r.takeWhile fun y=>decide (y=x)).length)∧(¬(j < r.length∧r.getD j 0=x)→(r.takeWhile fun y=>decide (y=x)).length≤j):=by
   intro r
   induction r with
   |nil=>intro j _;exact ⟨fun h=>by simp at h,fun _=>by simp⟩
   |cons y r ih=>
    intro j hj
    by_cases hy:y=x
    ·rw [List.takeWhile_cons_of_pos (by simpa using hy)] at hj ⊢
     simp only [List.length_cons] at hj ⊢
     cases j with
     |zero=>exact ⟨fun _=>by omega,fun h=>absurd ⟨by simp,by simpa using hy⟩ h⟩
     |succ j=>
      have:=ih j (by omega)
      simp only [List.getD_cons_succ]
      exact ⟨fun h=>by have:=this.1 ⟨by omega,h.2⟩;omega,fun h=>by have:=this.2 (fun hh=>h ⟨by omega,hh.2⟩);omega⟩
    ·rw [List.takeWhile_cons_of_neg (by simpa using hy),List.length_nil] at hj ⊢
     obtain rfl:j=0:=by omega
     exact ⟨fun h=>absurd (by simpa using h.2) hy,fun _=>Nat.le_refl _⟩
  have:=key r j (by omega)
  exact ⟨fun h=>by have:=this.1 ⟨by omega,h.2⟩;omega,fun h=>by have:=this.2 (fun hh=>h ⟨by omega,hh.2⟩);omega⟩
end Go.Df
namespace Go.Proofs.YtemdlifojcgplaaGreatDoor
open Go Go.Vx Go.Hf Go.If Go.Df
variable [W0]
set_option maxRecDepth 4000
set_option linter.all false
theorem fits_n (k n:Nat) (L:List Chunk) (hk:k≤18) (hn:n≤1000):GvP Tryz.prog 296 [.int .i64 (k:Int),.int .i64 (n:Int)].toArray L (.bool (decide (rpA k≤n))):=by
 refine Gv.of_body Tryz.func296 rfl rfl ?_
 have hr:=srun_n k L (by omega)
 generalize rpA k=a at hr ⊢
 generalize rpB k=b at hr
 refine kW ?_
 refine cP rfl rfl hr ?_
 refine kW ?_
 refine kR ?_
 exact ⟨_,iC,congrArg Value.bool (by rw [Bool.eq_iff_iff];simp only [decide_eq_true_eq];omega),rfl⟩
theorem symbolFor_n (x n:Nat) (bf:Bool) (L:List Chunk) (hx:x≤15) (hn:n≤1000):GvP Tryz.prog 291 [.int .i64 (x:Int),.int .i64 (n:Int),.bool bf].toArray L (.int .i64 ((sfN x n bf:Nat):Int)):=by
 refine Gv.of_body Tryz.func291 rfl rfl ?_
 have h18:=fun L=>fits_n 18 n L (by decide) hn
 have h17:=fun L=>fits_n 17 n L (by decide) hn
 have h16:=fun L=>fits_n 16 n L (by decide) hn
 rw [show rpA 18=11 from rfl] at h18
 rw [show rpA 17=3 from rfl] at h17
 rw [show rpA 16=3 from rfl] at h16
 unfold sfN
 by_cases h0:x=0
 ·subst h0
  refine kW ?_
  refine cP rfl rfl (h18 _) ?_
  (repeat' first|refine kW ?_|refine kU fun bk=>?_|refine kV fun hc=>?_|refine kZ (fun hc=>?_) fun hc=>?_|fail)
  ·rw [if_pos ⟨rfl,by omega⟩]
   refine kR ?_
   exact ⟨_,iC,rfl,rfl⟩
  refine cP rfl rfl (h17 _) ?_
  (repeat' first|refine kW ?_|refine kU fun bk=>?_|refine kV fun hc=>?_|refine kZ (fun hc=>?_) fun hc=>?_|fail)
  ·rw [if_neg (by omega),if_pos ⟨rfl,by omega⟩]
   refine kR ?_
   exact ⟨_,iC,rfl,rfl⟩
  ·rw [if_neg (by omega),if_neg (by omega),if_neg (by omega)]
   refine kR ?_
   exact ⟨_,iC,rfl,rfl⟩
 ·cases bf with
  |false=>
   (refine kW ?_;refine kV fun hc=>?_;refine kW ?_;refine kV fun hc=>?_;refine kW ?_;refine kV fun hc=>?_;refine kW ?_)
   rw [if_neg (by omega),if_neg (by omega),if_neg (fun h=>by cases h.2.1)]
   refine kR ?_
   exact ⟨_,iC,rfl,rfl⟩
  |true=>
   (refine kW ?_;refine kV fun hc=>?_;refine kW ?_;refine kV fun hc=>?_;refine kW ?_;refine kV fun hc=>?_;refine kW ?_)
   refine cP rfl rfl (h16 _) ?_
   (repeat' first|refine kW ?_|refine kU fun bk=>?_|refine kV fun hc=>?_|refine kZ (fun hc=>?_) fun hc=>?_|fail)
   ·rw [if_neg (by omega),if_neg (by omega),if_pos ⟨by omega,rfl,by omega⟩]
    refine kR ?_
    exact ⟨_,iC,rfl,rfl⟩
   ·rw [if_neg (by omega),if_neg (by omega),if_neg (by omega)]
    refine kR ?_
    exact ⟨_,iC,rfl,rfl⟩
theorem runsOfOne_n (x n:Nat) (L:List Chunk) (hx:x≤15) (hn:n≤1000) :
 Gv Tryz.prog 282 [.int .i64 (x:Int),.int .i64 (n:Int)].toArray L (fun r L'=>∃C,Ow 278 2 r (oneF x n n false).length (flt TkV (oneF x n n false)) C∧L'=C::L):=by
 refine Gv.of_body Tryz.func282 rfl rfl ?_
 have hlen:=oneF_len x hx n n false
 refine kW ?_
 refine WC_loop (X:=Nat × Nat × List (Nat × Nat) × Value × Chunk) (fun z=>[(0,.int .i64 (x:Int)),(1,.int .i64 (z.2.1:Int)),(5,z.2.2.2.1)]) (fun z=>z.2.2.2.2::L)
  (fun z=>z.2.1≤z.1∧z.1≤n∧z.2.2.1++oneF x z.1 z.2.1 (decide (0 < z.2.2.1.length))=oneF x n n false∧Ow 278 2 z.2.2.2.1 z.2.2.1.length (flt TkV z.2.2.1) z.2.2.2.2) (fun z=>z.1) (n,n,[],.slice none 0 0,[])
  ⟨Nat.le_refl _,Nat.le_refl _,rfl,.inl ⟨rfl,rfl,rfl,rfl⟩⟩ iS (fun w h=>Holds.nil.2 h) ?_
 rintro ⟨f,m,dn,vl,Cl⟩ ⟨hmf,hfn,hdn,hov⟩
 simp only at hmf hfn hdn hov ⊢
 have hdl:dn.length≤1000:=by
  have:=congrArg List.length hdn
  rw [List.length_append] at this
  omega
 obtain ⟨va,vc,rfl⟩:=ow_slc hov
 (repeat' first|refine kW ?_|refine kU fun bk=>?_|refine kV fun hc=>?_|refine kZ (fun hc=>?_) fun hc=>?_|fail)
 ·have hm0:1≤m:=by omega
  obtain ⟨g,rfl⟩:∃g,f=g+1:=⟨f - 1,by omega⟩
  rw [oneF,if_neg (by omega)] at hdn
  have hsb:=smN_b hx hm0 (decide (0 < dn.length))
  have hsf:=sfN_fit hx hm0 (decide (0 < dn.length))
  have hs18:=sfN_le (n:=m) hx (decide (0 < dn.length))
  have hsy:=fun L=>symbolFor_n x m (decide (0 < dn.length)) L hx (by omega)
  have hsm:smN x m (decide (0 < dn.length))=min m (rpA (sfN x m (decide (0 < dn.length)))+2 ^ rpB (sfN x m (decide (0 < dn.length))) - 1):=rfl
  have hru:=fun L=>srun_n (sfN x m (decide (0 < dn.length))) L (by omega)
  have hpw:2 ^ rpB (sfN x m (decide (0 < dn.length)))≤2 ^ 7:=Nat.pow_le_pow_right (by decide) hsf.2.2.2
  have hdz:decide ((dn.length:Int) > 0)=decide (0 < dn.length):=by rw [Bool.eq_iff_iff];simp only [decide_eq_true_eq];omega
  rw [hdz]
  refine cP rfl rfl (hsy _) ?_
  generalize smN x m (decide (0 < dn.length))=sm at hsb hsm hdn
  generalize sfN x m (decide (0 < dn.length))=sf at hsb hsf hs18 hsm hru hpw hdn ⊢
  refine kW ?_
  refine cP rfl rfl (hru _) ?_
  obtain ⟨e,he⟩:∃e,e=2 ^ rpB sf:=⟨_,rfl⟩
  rw [←he] at hsm hpw hsb
  refine kW ?_
  refine OW_EV (EV_shl64 1 (rpB sf) rfl rfl rfl rfl (by omega) (by rw [←he];omega)) rfl ?_
  rw [Nat.one_mul,←he]
  refine kW ?_
  rw [show min (m:Int) ((rpA sf:Int)+(e:Int) - 1)=(sm:Int) from by omega]
  rw [show (sm:Int) - (rpA sf:Int)=((sm - rpA sf:Nat):Int) from by omega]
  refine OW_buildSlice (cs:=TkV (sf,sm - rpA sf)) rfl (by rfl) (by first|(simp [fillL,patch,Value.cells,zeros];done)|(simp [fillL,patch,Value.cells,zeros];rfl)) (by omega) rfl rfl (fun bn=>?_)
  refine kW ?_
  refine OW_append rfl rfl hov (sl_cells (k:=2) (c:=(TkV (sf,sm - rpA sf)).toArray) (xs:=TkV (sf,sm - rpA sf)) (m:=1) Fnd.here rfl (by simp)) (by repeat (first|exact Zip.here _|apply Zip.there)) rfl (by rfl) (by omega) (by simp [maxLen];omega) rfl (fun vl2 Cl2 hov2 _ _=>?_)
  rw [show flt TkV dn++TkV (sf,sm - rpA sf)=flt TkV (dn++[(sf,sm - rpA sf)]) from by rw [flt_app TkV dn];simp [flt],show dn.length+1=(dn++[(sf,sm - rpA sf)]).length from by simp] at hov2
  refine kW ?_
  rw [show (m:Int) - (sm:Int)=((m - sm:Nat):Int) from by omega]
  refine WQ_round (X:=Nat × Nat × List (Nat × Nat) × Value × Chunk) (μ:=fun z=>z.1) (x:=(g+1,m,dn,.slice va dn.length vc,Cl)) (g,m - sm,dn++[(sf,sm - rpA sf)],vl2,Cl2) (by simp only;omega) ⟨by simp only;omega,by simp only;omega,by
   simp only
   rw [show decide (0 < (dn++[(sf,sm - rpA sf)]).length)=true from by simp,List.append_assoc]
   exact hdn,hov2⟩ iS (fun w h=>iH h)
 ·obtain rfl:m=0:=by omega
  have hz:oneF x f 0 (decide (0 < dn.length))=[]:=by cases f<;>rfl
  rw [hz,List.append_nil] at hdn
  rw [←hdn]
  refine kR ?_
  exact ⟨_,iC,Cl,hov,rfl⟩
theorem equal_n (v:Value) (l:List Nat) (L:List Chunk) (h:Rs L 1 v l.length (ivn l)) (hl:l≠[]) (hn:l.length≤1000):GvP Tryz.prog 281 [v].toArray L (.int .i64 ((eqN l:Nat):Int)):=by
 refine Gv.of_body (args:=[v]) Tryz.func281 rfl rfl ?_
 have he:=eqN_b hl
 obtain ⟨x0,hx0⟩:∃x,l[0]? =some x:=⟨l[0],List.getElem?_eq_getElem (by omega)⟩
 obtain ⟨b,off,cap,cc,T,fr,rfl,hfn,hv0⟩:=sl_at h.sl (ivn_get hx0)
 have hg0:l.getD 0 0=x0:=by simp [List.getD,hx0]
 refine kW ?_
 refine WC_loop (X:=Nat) (fun x=>[(0,.slice (some ⟨b,off,none⟩) l.length cap),(3,.int .i64 (x:Int))]) (fun _=>L) (fun x=>1≤x∧x≤eqN l) (fun x=>l.length - x) 1 ⟨Nat.le_refl _,he.1⟩ iS (fun w h=>h) ?_
 intro k hk9
 have hk:1≤k∧k≤eqN l:=hk9
 have hst:=eqN_step hk.1 hk.2
 rw [hg0] at hst
 refine kW ?_
 by_cases hkl:k < l.length
 ·obtain ⟨xk,hxk⟩:∃x,l[k]? =some x:=⟨l[k],List.getElem?_eq_getElem hkl⟩
  obtain ⟨b',off',cap',cc',T',fr',hv9,hfk,hvk⟩:=sl_at h.sl (ivn_get hxk)
  injection hv9 with q1 q2 q3
  injection q1 with q1
  injection q1 with q4 q5 q6
  subst q4 q5 q3
  clear q2 q6
  have hgk:l.getD k 0=xk:=by simp [List.getD,hxk]
  rw [hgk] at hst
  refine WC_drawAll [] mixed ?_
  (refine WR_t 0 ?_;refine WR_t 1 ?_;refine WR_t 2 ?_;refine WR_t 3 ?_;refine WR_t 4 ?_)
  rw [show decide ((k:Int) < (l.length:Int))=true from by simp;omega]
  (refine WR_u 5 ?_;refine WR_u 6 ?_)
  refine cO 7 rfl rfl rfl (EV_indexAddr (j:=k) (len:=l.length) rfl rfl rfl hkl) ?_
  refine cO 8 rfl rfl rfl (EV_load rfl hfk hvk) ?_
  (refine WR_u 9 ?_)
  refine cO 10 rfl rfl rfl (EV_indexAddr (j:=0) (len:=l.length) rfl rfl rfl (by omega)) ?_
  refine cO 11 rfl rfl rfl (EV_load rfl hfn hv0) ?_
  (refine WR_u 12 ?_)
  (refine WR_t 13 ?_)
  refine cD ?_
  (repeat' first|refine kW ?_|refine kU fun bk=>?_|refine kV fun hc=>?_|refine kZ (fun hc=>?_) fun hc=>?_|fail)
  ·have:=hst.1 ⟨hkl,by omega⟩
   refine WQ_round (X:=Nat) (μ:=fun x=>l.length - x) (x:=k) (k+1) (by show l.length - (k+1) < l.length - k;omega) ⟨by omega,this⟩ iS (fun w h=>h)
  ·have:=hst.2 (fun hh=>by omega)
   have e:k=eqN l:=by omega
   refine kR ?_
   exact ⟨_,iC,by rw [e];rfl,rfl⟩
 ·have:=hst.2 (fun hh=>hkl hh.1)
  have e:k=eqN l:=by omega
  refine WC_drawAll [] mixed ?_
  (refine WR_t 0 ?_;refine WR_t 1 ?_;refine WR_t 2 ?_;refine WR_t 3 ?_;refine WR_t 4 ?_)
  rw [show decide ((k:Int) < (l.length:Int))=false from by simp;omega]
  (refine WR_v 5 ?_;refine WR_v 6 ?_;refine WR_v 7 ?_;refine WR_v 8 ?_;refine WR_v 9 ?_;refine WR_v 10 ?_;refine WR_v 11 ?_;refine WR_v 12 ?_)
  (refine WR_t 13 ?_)
  refine cD ?_
  refine kW ?_
  refine kR ?_
  exact ⟨_,iC,by rw [e];rfl,rfl⟩
end Go.Proofs.YtemdlifojcgplaaGreatDoor
namespace Go.Df
open Go.Vx Go.If Go.Hf
set_option linter.all false
theorem rnF_len:∀(f:Nat) (l:List Nat),(∀x∈l,x≤15)→(rnF f l).length≤l.length
 |0,l,_=>Nat.zero_le _
 |f+1,l,h=>by
  rw [rnF]
  split
  ·exact Nat.zero_le _
  ·rename_i hl
   have he:=eqN_b hl
   have hx:l.getD 0 0≤15:=by
    cases l with
    |nil=>exact absurd rfl hl
    |cons y r=>exact h y (by simp)
   have h1:=oneF_len (l.getD 0 0) hx (eqN l) (eqN l) false
   have h2:=rnF_len f (l.drop (eqN l)) (fun x hx=>h x (List.mem_of_mem_drop hx))
   rw [List.length_append]
   rw [List.length_drop] at h2
   omega
theorem rnF_nil (f:Nat):rnF f []=[]:=by cases f<;>rfl
def trN (l:List Nat) (least:Nat):Nat→Nat
 |0=>0
 |n+1=>if least < n+1∧l.getD n 0=0 then trN l least n else n+1
theorem trN_b {l:List Nat} {least:Nat}:∀n,least≤n→least≤trN l least n∧trN l least n≤n∧∀i,trN l least n≤i→i < n→l.getD i 0=0
 |0,h=>⟨by rw [trN];exact h,Nat.le_refl _,fun i h1 h2=>by omega⟩
 |n+1,h=>by
  rw [trN]
  split
  ·rename_i hc
   obtain ⟨h1,h2,h3⟩:=trN_b (l:=l) (least:=least) n (by omega)
   exact ⟨h1,by omega,fun i h4 h5=>by
    by_cases hi:i=n
    ·rw [hi];exact hc.2
    ·exact h3 i h4 (by omega)⟩
  ·exact ⟨h,Nat.le_refl _,fun i h1 h2=>by omega⟩
def cR (rs:List (Nat × Nat)):List Nat:=rs.foldl (fun l r=>inc l r.1) (List.replicate 19 0)
theorem cR_app (a:List (Nat × Nat)) (t:Nat × Nat):cR (a++[t])=inc (cR a) t.1:=by unfold cR;rw [List.foldl_append];rfl
theorem cR_len (rs:List (Nat × Nat)):(cR rs).length=19:=by
 induction rs using snoc_ind with
 |h0=>exact List.length_replicate
 |h1 a t ih=>rw [cR_app,inc_len,ih]
theorem cR_le {rs:List (Nat × Nat)} (h:∀r∈rs,r.1 < 19) (i:Nat):(cR rs).getD i 0≤rs.length:=by
 induction rs using snoc_ind with
 |h0=>rw [show cR []=List.replicate 19 0 from rfl,rep_get];exact Nat.zero_le _
 |h1 a t ih=>
  have:=ih (fun x hx=>h x (by simp [hx]))
  rw [cR_app,inc_get (by rw [cR_len];exact h t (by simp)),List.length_append,List.length_singleton]
  split<;>omega
def orN (own:List Nat):List Nat:=(List.range 19).map fun i=>own.getD (ordL.getD i 0) 0
end Go.Df
namespace Go.Proofs.YtemdlifojcgplaaGreatDoor
open Go Go.Vx Go.Hf Go.If Go.Df
variable [W0]
set_option maxRecDepth 4000
set_option linter.all false
theorem trimmed_n (v:Value) (l:List Nat) (least:Nat) (S L:List Chunk) (hi:Inc S L) (h:Rs S 1 v l.length (ivn l)) (hl:least≤l.length) (hn:l.length≤1000) :
 Gv Tryz.prog 262 [v,.int .i64 (least:Int)].toArray L (fun r L'=>Rs S 1 r (trN l least l.length) (ivn (l.take (trN l least l.length)))∧L'=L):=by
 refine Gv.of_body (args:=[v,.int .i64 (least:Int)]) Tryz.func262 rfl rfl ?_
 have hL:=h.sub hi.mem
 obtain ⟨va,vc,rfl,_⟩:=h.room
 have hb:=trN_b (l:=l) l.length hl
 refine kW ?_
 refine WC_loop (X:=Nat) (fun x=>[(0,.slice va l.length vc),(1,.int .i64 (least:Int)),(5,.int .i64 (x:Int))]) (fun _=>L) (fun x=>least≤x∧x≤l.length∧trN l least x=trN l least l.length) (fun x=>x) l.length ⟨hl,Nat.le_refl _,rfl⟩ iS (fun w h=>h) ?_
 intro n hn9
 have hn1:least≤n∧n≤l.length∧trN l least n=trN l least l.length:=hn9
 generalize trN l least l.length=R at *
 have hfin:n=R→∃r,Rs S 1 r R (ivn (l.take R))∧∀{n:Nat} {M:List (Nat × Value)} {L:List Chunk} {d:Nat} {ty:TypeId} {ps:String} {af:Array Edge} {g:Option (Nat × Bool)} {x:Operand} {lo hi:Option Operand},
  ev M x=some (.slice va l.length vc)→bnd M lo 0=some ((0:Nat):Int)→bnd M hi l.length=some (R:Int)→EV Tryz.prog n ⟨some d,.slice 154 x lo hi none,ty,ps,af,g⟩ M L d r:=by
  intro hR
  obtain ⟨r,hr,hev⟩:=EV_sliceRs (P:=Tryz.prog) (T:=154) h (l:=0) (h:=R) (by omega) (by omega)
  rw [Nat.zero_mul,List.drop_zero,Nat.sub_zero,Nat.mul_one] at hr
  exact ⟨r,by rw [show ivn (l.take R)=(ivn l).take R from by simp [ivn,List.map_take]];exact hr,hev⟩
 by_cases hgo:least < n
 ·obtain ⟨k,rfl⟩:∃k,n=k+1:=⟨n - 1,by omega⟩
  have hkl:k < l.length:=by omega
  obtain ⟨x,hx⟩:∃x,l[k]? =some x:=⟨l[k],List.getElem?_eq_getElem hkl⟩
  obtain ⟨b,off,cap,cc,T,fr,hv9,hfn,hcell⟩:=sl_at hL.sl (ivn_get hx)
  injection hv9 with q1 q2 q3
  subst q1 q3
  clear q2
  have hgk:l.getD k 0=x:=by simp [List.getD,hx]
  have hst:=hn1.2.2
  rw [trN,hgk] at hst
  (refine kW ?_;refine kV fun hc=>?_;refine kW ?_)
  refine OW_EV (EV_indexAddr (j:=k) rfl rfl (by omega) hkl) rfl ?_
  refine kW ?_
  refine OW_EV (EV_load rfl hfn hcell) rfl ?_
  (repeat' first|refine kW ?_|refine kU fun bk=>?_|refine kV fun hc=>?_|refine kZ (fun hc=>?_) fun hc=>?_|fail)
  ·rw [if_pos ⟨hgo,by omega⟩] at hst
   refine WQ_round (X:=Nat) (μ:=fun x=>x) (x:=k+1) k (by show k < k+1;omega) ⟨by omega,by omega,hst⟩ iS (fun w h=>h)
  ·rw [if_neg (fun hh=>by omega)] at hst
   obtain ⟨r,hr,hev⟩:=hfin hst
   refine OW_EV (hev rfl rfl (by rw [←hst];rfl)) rfl ?_
   refine kW ?_
   refine kR ?_
   exact ⟨_,iC,hr,rfl⟩
 ·have hst:=hn1.2.2
  have hnR:n=R:=by
   cases n with
   |zero=>exact hst
   |succ n=>rw [trN,if_neg (fun hh=>by omega)] at hst;exact hst
  obtain ⟨r,hr,hev⟩:=hfin hnR
  (refine kW ?_;refine kV fun hc=>?_;refine kW ?_)
  refine OW_EV (hev rfl rfl (by rw [←hnR];rfl)) rfl ?_
  refine kW ?_
  refine kR ?_
  exact ⟨_,iC,hr,rfl⟩
theorem runsOf_n (v:Value) (l:List Nat) (L:List Chunk) (h:Rs L 1 v l.length (ivn l)) (hx:∀x∈l,x≤15) (hn:l.length≤1000) :
 Gv Tryz.prog 263 [v].toArray L (fun r L'=>∃C,Ow 278 2 r (rnS l).length (flt TkV (rnS l)) C∧L'=C::L):=by
 refine Gv.of_body (args:=[v]) Tryz.func263 rfl rfl ?_
 have hlen:=rnF_len l.length l hx
 unfold rnS
 refine kW ?_
 refine WC_loop (X:=Nat × List Nat × Value × List (Nat × Nat) × Value × Chunk) (fun z=>[(0,z.2.2.1),(3,z.2.2.2.2.1)]) (fun z=>z.2.2.2.2.2::L)
  (fun z=>Rs L 1 z.2.2.1 z.2.1.length (ivn z.2.1)∧z.2.1.length≤z.1∧(∀x∈z.2.1,x≤15)∧z.2.1.length≤1000∧z.2.2.2.1++rnF z.1 z.2.1=rnF l.length l∧Ow 278 2 z.2.2.2.2.1 z.2.2.2.1.length (flt TkV z.2.2.2.1) z.2.2.2.2.2) (fun z=>z.1) (l.length,l,v,[],.slice none 0 0,[])
  ⟨h,Nat.le_refl _,hx,hn,rfl,.inl ⟨rfl,rfl,rfl,rfl⟩⟩ iS (fun w h=>Holds.nil.2 h) ?_
 clear h hx v
 rintro ⟨f,t,v,dn,vl,Cl⟩ ⟨h,htf,hx,htn,hdn,hov⟩
 simp only at h htf hx htn hdn hov ⊢
 have hdl:dn.length+(rnF f t).length≤1000:=by
  have:=congrArg List.length hdn
  rw [List.length_append] at this
  omega
 obtain ⟨va,vc,rfl,_⟩:=h.room
 (repeat' first|refine kW ?_|refine kU fun bk=>?_|refine kV fun hc=>?_|refine kZ (fun hc=>?_) fun hc=>?_|fail)
 ·have ht0:t≠[]:=fun hh=>by rw [hh] at hc;simp at hc
  have he:=eqN_b ht0
  obtain ⟨g,rfl⟩:∃g,f=g+1:=⟨f - 1,by omega⟩
  rw [rnF,if_neg ht0] at hdn hdl
  rw [List.length_append] at hdl
  obtain ⟨x0,hx0⟩:∃x,t[0]? =some x:=⟨t[0],List.getElem?_eq_getElem (by omega)⟩
  have hg0:t.getD 0 0=x0:=by simp [List.getD,hx0]
  rw [hg0] at hdn hdl
  have hx15:x0≤15:=hx x0 (List.mem_of_getElem? hx0)
  obtain ⟨r,hr,hev⟩:=EV_sliceRs (P:=Tryz.prog) (T:=154) h (l:=eqN t) (h:=t.length) he.2 (Nat.le_refl _)
  rw [Nat.mul_one,Nat.mul_one,List.take_of_length_le (by rw [List.length_drop,ivn_length];exact Nat.le_refl _),show (ivn t).drop (eqN t)=ivn (t.drop (eqN t)) from by simp [ivn,List.map_drop],←List.length_drop] at hr
  obtain ⟨b,off,cap,cc,T,fr,hv9,hfn,hcell⟩:=sl_at h.sl (ivn_get hx0)
  injection hv9 with q1 q2 q3
  subst q1 q3
  clear q2
  have heq:=equal_n _ t (Cl::L) h.there ht0 htn
  refine cP rfl rfl heq ?_
  have hone:=fun L=>runsOfOne_n x0 (eqN t) L hx15 (by omega)
  generalize oneF x0 (eqN t) (eqN t) false=one at hone hdn hdl
  refine kW ?_
  refine OW_EV (EV_indexAddr (j:=0) rfl rfl rfl (by omega)) rfl ?_
  refine kW ?_
  refine OW_EV (EV_load rfl (.there hfn) hcell) rfl ?_
  refine kW ?_
  refine cC rfl rfl (hone _) (fun r2 L' hp=>?_)
  obtain ⟨C2,ho2,rfl⟩:=hp
  refine kW ?_
  refine OW_append rfl rfl hov (ow_sl ho2) (by repeat (first|exact Zip.here _|apply Zip.there)) rfl (flt_ones TkV_ones _) (by omega) (by simp [maxLen];omega) rfl (fun vl2 Cl2 hov2 _ _=>?_)
  rw [←flt_app,←List.length_append] at hov2
  refine kW ?_
  refine OW_EV (hev rfl rfl rfl) rfl ?_
  refine kW ?_
  refine WQ_round (X:=Nat × List Nat × Value × List (Nat × Nat) × Value × Chunk) (μ:=fun z=>z.1) (x:=(g+1,t,.slice (some ⟨b,off,none⟩) t.length vc,dn,vl,Cl)) (g,t.drop (eqN t),r,dn++one,vl2,Cl2) (by simp only;omega) ⟨hr,by simp only [List.length_drop];omega,fun x hx'=>hx x (List.mem_of_mem_drop hx'),by simp only [List.length_drop];omega,by simp only;rw [List.append_assoc];exact hdn,hov2⟩ iS (fun w h=>iH h)
 ·have ht0:t=[]:=List.length_eq_zero_iff.1 (by omega)
  subst ht0
  rw [rnF_nil,List.append_nil] at hdn
  rw [←hdn]
  refine kR ?_
  exact ⟨_,iC,Cl,hov,rfl⟩
end Go.Proofs.YtemdlifojcgplaaGreatDoor
namespace Go.So
set_option linter.all false
variable {α : Type}
def swp (f:Nat→α) (i j:Nat):Nat→α:=fun k=>if k=i then f j else if k=j then f i else f k
def upd (f:Nat→α) (i:Nat) (y:α):Nat→α:=fun k=>if k=i then y else f k
theorem upd_swp (f:Nat→α) (i j:Nat):upd (upd f i (f j)) j (f i)=swp f i j:=by
 funext k
 simp only [upd,swp]
 by_cases h1:k=j
 ·by_cases h2:k=i
  ·subst h1;subst h2;simp
  ·rw [if_pos h1,if_neg h2,if_pos h1]
 ·rw [if_neg h1]
  by_cases h2:k=i
  ·rw [if_pos h2,if_pos h2]
  ·rw [if_neg h2,if_neg h2,if_neg h1]
inductive Mv (a b:Nat):(Nat→α)→(Nat→α)→Prop
 |refl (f):Mv a b f f
 |step {f g i j}:Mv a b f g→a≤i→i < b→a≤j→j < b→Mv a b f (swp g i j)
theorem Mv.one {a b i j:Nat} (f:Nat→α) (h1:a≤i) (h2:i < b) (h3:a≤j) (h4:j < b):Mv a b f (swp f i j):=.step (.refl f) h1 h2 h3 h4
theorem Mv.trans {a b:Nat} {f g h:Nat→α} (h1:Mv a b f g) (h2:Mv a b g h):Mv a b f h:=by
 induction h2 with
 |refl=>exact h1
 |step _ p q r s ih=>exact ih.step p q r s
theorem Mv.mono {a b c d:Nat} {f g:Nat→α} (h:Mv a b f g) (h1:c≤a) (h2:b≤d):Mv c d f g:=by
 induction h with
 |refl=>exact .refl _
 |step _ p q r s ih=>exact ih.step (by omega) (by omega) (by omega) (by omega)
theorem Mv.out {a b:Nat} {f g:Nat→α} (h:Mv a b f g) {k:Nat} (hk:k < a∨b≤k):g k=f k:=by
 induction h with
 |refl=>rfl
 |step _ p q r s ih=>
  simp only [swp]
  rw [if_neg (by omega),if_neg (by omega)]
  exact ih
theorem Mv.all {a b:Nat} {f g:Nat→α} (h:Mv a b f g) {p:α→Prop} (hp:∀k,a≤k→k < b→p (f k)):∀k,a≤k→k < b→p (g k):=by
 induction h with
 |refl=>exact hp
 |@step g i j _ h1 h2 h3 h4 ih=>
  intro k hk1 hk2
  simp only [swp]
  split
  ·exact ih j h3 h4
  ·split
   ·exact ih i h1 h2
   ·exact ih k hk1 hk2
theorem swp_perm (f:Nat→α) {i j n:Nat} (hi:i < n) (hj:j < n):((List.range n).map (swp f i j)).Perm ((List.range n).map f):=by
 have e:swp f i j=fun k=>f (swp id i j k):=by
  funext k
  simp only [swp,id]
  split
  ·rfl
  ·split<;>rfl
 have hs:((List.range n).map (swp id i j)).Perm (List.range n):=by
  refine (List.perm_ext_iff_of_nodup ?_ List.nodup_range).2 fun x=>?_
  ·refine List.Pairwise.map _ (fun a b hab=>?_) List.nodup_range
   intro he
   apply hab
   simp only [swp,id] at he
   split at he<;>split at he<;>(try split at he)<;>(try split at he)<;>omega
  ·simp only [List.mem_map,List.mem_range]
   constructor
   ·rintro ⟨k,hk,rfl⟩
    simp only [swp,id]
    split
    ·exact hj
    ·split
     ·exact hi
     ·exact hk
   ·intro hx
    refine ⟨swp id i j x,?_,?_⟩
    ·simp only [swp,id]
     split
     ·exact hj
     ·split
      ·exact hi
      ·exact hx
    ·simp only [swp,id]
     split<;>(try split)<;>(try split)<;>(try split)<;>omega
 have e2:(List.range n).map (fun k=>f (swp id i j k))=((List.range n).map (swp id i j)).map f:=by rw [List.map_map];rfl
 rw [e,e2]
 exact hs.map f
theorem Mv.perm {a b n:Nat} {f g:Nat→α} (h:Mv a b f g) (hb:b≤n):((List.range n).map g).Perm ((List.range n).map f):=by
 induction h with
 |refl=>exact .refl _
 |step _ p q r s ih=>exact (swp_perm _ (by omega) (by omega)).trans ih
def swr (f:Nat→α) (a b:Nat):Nat→Nat→α
 |0=>f
 |n+1=>swp (swr f a b n) (a+n) (b+n)
theorem swr_mv (f:Nat→α) {a b c d:Nat}:∀n,c≤a→c≤b→a+n≤d→b+n≤d→Mv c d f (swr f a b n)
 |0,_,_,_,_=>.refl f
 |n+1,h1,h2,h3,h4=>(swr_mv f n h1 h2 (by omega) (by omega)).step (by omega) (by omega) (by omega) (by omega)
theorem swr_at (f:Nat→α) {a b:Nat}:∀n,a+n≤b→∀k,swr f a b n k=if a≤k∧k < a+n then f (k - a+b) else if b≤k∧k < b+n then f (k - b+a) else f k
 |0,_,k=>by
  simp only [swr]
  rw [if_neg (by omega),if_neg (by omega)]
 |n+1,h,k=>by
  simp only [swr,swp]
  by_cases h1:k=a+n
  ·rw [if_pos h1,swr_at f n (by omega),if_neg (by omega),if_neg (by omega),if_pos (by omega)]
   congr 1;omega
  ·rw [if_neg h1]
   by_cases h2:k=b+n
   ·rw [if_pos h2,swr_at f n (by omega),if_neg (by omega),if_neg (by omega),if_neg (by omega),if_pos (by omega)]
    congr 1;omega
   ·rw [if_neg h2,swr_at f n (by omega)]
    have eA:(a≤k∧k < a+n)=(a≤k∧k < a+(n+1)):=by apply propext;omega
    have eB:(b≤k∧k < b+n)=(b≤k∧k < b+(n+1)):=by apply propext;omega
    simp only [eA,eB]
def rot (f:Nat→α) (a m b:Nat):Nat→α:=fun k=>if a≤k∧k < a+(b - m) then f (k - a+m) else if a+(b - m)≤k∧k < b then f (k - (b - m)) else f k
theorem rot_more (f:Nat→α) {m i j:Nat} (hj:j < i) (hi:i≤m) (h0:0 < j):rot (swr f (m - i) m j) (m - (i - j)) m (m+j)=rot f (m - i) m (m+j):=by
 funext k
 simp only [rot]
 have hs:=swr_at f (a:=m - i) (b:=m) j (by omega)
 by_cases c1:k < m - i
 ·rw [if_neg (by omega),if_neg (by omega),hs,if_neg (by omega),if_neg (by omega),if_neg (by omega),if_neg (by omega)]
 by_cases c2:k < m - i+j
 ·rw [if_neg (by omega),if_neg (by omega),hs,if_pos (by omega),if_pos (by omega)]
 by_cases c3:k < m - i+j+j
 ·rw [if_pos (by omega),hs,if_neg (by omega),if_pos (by omega),if_neg (by omega),if_pos (by omega)]
  congr 1;omega
 by_cases c4:k < m+j
 ·rw [if_neg (by omega),if_pos (by omega),hs,if_neg (by omega),if_neg (by omega),if_neg (by omega),if_pos (by omega)]
 ·rw [if_neg (by omega),if_neg (by omega),hs,if_neg (by omega),if_neg (by omega),if_neg (by omega),if_neg (by omega)]
theorem rot_less (f:Nat→α) {m i j:Nat} (hj:i < j) (hi:i≤m) (h0:0 < i):rot (swr f (m - i) (m+j - i) i) (m - i) m (m+(j - i))=rot f (m - i) m (m+j):=by
 funext k
 simp only [rot]
 have hs:=swr_at f (a:=m - i) (b:=m+j - i) i (by omega)
 by_cases c1:k < m - i
 ·rw [if_neg (by omega),if_neg (by omega),hs,if_neg (by omega),if_neg (by omega),if_neg (by omega),if_neg (by omega)]
 by_cases c2:k < m - i+(j - i)
 ·rw [if_pos (by omega),hs,if_neg (by omega),if_neg (by omega),if_pos (by omega)]
 by_cases c3:k < m+(j - i)
 ·rw [if_neg (by omega),if_pos (by omega),hs,if_pos (by omega),if_pos (by omega)]
  congr 1;omega
 by_cases c4:k < m+j
 ·rw [if_neg (by omega),if_neg (by omega),hs,if_neg (by omega),if_pos (by omega),if_neg (by omega),if_pos (by omega)]
  congr 1;omega
 ·rw [if_neg (by omega),if_neg (by omega),hs,if_neg (by omega),if_neg (by omega),if_neg (by omega),if_neg (by omega)]
theorem rot_same (f:Nat→α) {m i:Nat} (hi:i≤m):swr f (m - i) m i=rot f (m - i) m (m+i):=by
 funext k
 simp only [rot]
 have e:m+i - m=i:=by omega
 rw [swr_at f i (by omega),e]
 repeat' split
 all_goals first
  |rfl
  |(exfalso;omega)
  |(congr 1;omega)
def Srt (key:α→Nat) (a b:Nat) (f:Nat→α):Prop:=∀i j,a≤i→i≤j→j < b→key (f i)≤key (f j)
theorem Srt.sub {key:α→Nat} {a b c d:Nat} {f:Nat→α} (h:Srt key a b f) (h1:a≤c) (h2:d≤b):Srt key c d f:=fun i j p q r=>h i j (by omega) q (by omega)
theorem Srt.join {key:α→Nat} {a m b:Nat} {f:Nat→α} (h1:Srt key a m f) (h2:Srt key m b f) (h3:∀i j,a≤i→i < m→m≤j→j < b→key (f i)≤key (f j)):Srt key a b f:=by
 intro i j hi hij hj
 by_cases c:j < m
 ·exact h1 i j hi hij c
 by_cases c':i < m
 ·exact h3 i j hi c' (by omega) hj
 ·exact h2 i j (by omega) hij hj
theorem Srt.congr {key:α→Nat} {a b:Nat} {f g:Nat→α} (h:Srt key a b f) (he:∀k,a≤k→k < b→g k=f k):Srt key a b g:=fun i j p q r=>by
 rw [he i p (by omega),he j (by omega) r];exact h i j p q r
end Go.So
namespace Go.Vx
open Go Go.So
set_option linter.all false
variable [W0]
omit [W0] in
def cv (x:Nat × Nat):List Value:=[.int .i64 (x.1:Int),.int .i64 (x.2:Int)]
omit [W0] in
def cvs (f:Nat→Nat × Nat):Nat→List Value
 |0=>[]
 |n+1=>cvs f n++cv (f n)
theorem cvs_length (f:Nat→Nat × Nat):∀n,(cvs f n).length=n * 2
 |0=>rfl
 |n+1=>by rw [cvs,List.length_append,cvs_length f n];simp [cv];omega
theorem cvs_congr {f g:Nat→Nat × Nat}:∀{n:Nat},(∀k,k < n→f k=g k)→cvs f n=cvs g n
 |0,_=>rfl
 |n+1,h=>by rw [cvs,cvs,cvs_congr (fun k hk=>h k (by omega)),h n (by omega)]
theorem cvs_split (f:Nat→Nat × Nat):∀{n j:Nat},j < n→∃A B,cvs f n=A++(cv (f j)++B)∧A.length=j * 2∧∀y,cvs (upd f j y) n=A++(cv y++B)
 |0,j,h=>by omega
 |n+1,j,h=>by
  by_cases he:j=n
  ·subst he
   refine ⟨cvs f j,[],by simp [cvs],cvs_length f j,fun y=>?_⟩
   rw [cvs,cvs_congr (g:=f) (fun k hk=>by simp only [upd];rw [if_neg (by omega)])]
   simp [upd]
  ·obtain ⟨A,B,h1,h2,h3⟩:=cvs_split f (n:=n) (j:=j) (by omega)
   refine ⟨A,B++cv (f n),by rw [cvs,h1];simp,h2,fun y=>?_⟩
   rw [cvs,h3]
   simp only [upd]
   rw [if_neg (by omega)]
   simp
theorem cv_rd {f:Nat→Nat × Nat} {n j b:Nat} {rest:List Value} {T:TypeId} {L:List Chunk} (hj:j < n) (hf:Fnd L b (cl (cvs f n++rest) T)):RdAt L ⟨b,j * 2,none⟩ (cv (f j)):=by
 obtain ⟨A,B,h1,h2,_⟩:=cvs_split f hj
 refine RdAt.cl' hf ?_
 have hl:(cv (f j)).length=2:=rfl
 rw [h1,cut,List.append_assoc,←h2,List.drop_left,List.append_assoc,List.take_left' rfl]
theorem cv_patch {f:Nat→Nat × Nat} {n j:Nat} {rest:List Value} {y:Nat × Nat} (hj:j < n):patch (cvs f n++rest) (j * 2) (cv y)=cvs (upd f j y) n++rest:=by
 obtain ⟨A,B,h1,h2,h3⟩:=cvs_split f hj
 rw [h1,h3,patch,←h2]
 have hl:A.length+(cv y).length=(A++cv (f j)).length:=by simp [cv]
 have e1:A++(cv (f j)++B)++rest=A++(cv (f j)++(B++rest)):=by simp
 have e2:A++(cv (f j)++B)++rest=(A++cv (f j))++(B++rest):=by simp
 have t1:(A++(cv (f j)++B)++rest).take A.length=A:=by rw [e1,List.take_left]
 have t2:(A++(cv (f j)++B)++rest).drop (A.length+(cv y).length)=B++rest:=by rw [hl,e2,List.drop_left]
 rw [t1,t2]
 simp
end Go.Vx
namespace Go.Proofs.YtemdlifojcgplaaGreatDoor
open Go Go.Vx Go.So
variable [W0]
set_option maxRecDepth 4000
set_option linter.all false
theorem isnan_n (x:Int) (L:List Chunk):GvP Tryz.prog 207 [.int .i64 x].toArray L (.bool false):=by
 refine Gv.of_body Tryz.func207 rfl rfl ?_
 refine kW ?_
 refine kR ?_
 refine ⟨L,iC,?_,rfl⟩
 simp [tupled]
omit [W0] in
def cmpZ (x y:Int):Int:=if x < y then -1 else if x > y then 1 else 0
theorem compare_n (x y:Int) (L:List Chunk):GvP Tryz.prog 162 [.int .i64 x,.int .i64 y].toArray L (.int .i64 (cmpZ x y)):=by
 refine Gv.of_body Tryz.func162 rfl rfl ?_
 refine kW ?_
 refine cP rfl rfl (isnan_n x L) ?_
 refine kW ?_
 refine cP rfl rfl (isnan_n y L) ?_
 (repeat' first|refine kW ?_|refine kU fun bk=>?_|refine kV fun hc=>?_|refine kZ (fun hc=>?_) fun hc=>?_|fail)
 ·refine kR ?_
  exact ⟨L,iC,by unfold cmpZ;rw [if_pos (by assumption)];rfl,rfl⟩
 ·refine kR ?_
  exact ⟨L,iC,by unfold cmpZ;rw [if_neg (by assumption),if_pos (by assumption)];rfl,rfl⟩
 ·refine kR ?_
  exact ⟨L,iC,by unfold cmpZ;rw [if_neg (by assumption),if_neg (by assumption)];rfl,rfl⟩
theorem ccmp_n (x y:Nat × Nat) (L:List Chunk):GvP Tryz.prog 287 [.agg (cv x).toArray,.agg (cv y).toArray].toArray L (.int .i64 (cmpZ (x.2:Int) (y.2:Int))):=by
 refine Gv.of_body Tryz.func287 rfl rfl ?_
 (refine kW ?_;refine kU fun bk=>?_;refine kW ?_;refine kU fun bk=>?_;refine kW ?_)
 refine cP rfl rfl (compare_n _ _ _) ?_
 refine kW ?_
 refine kR ?_
 exact ⟨L,iC,rfl,rfl⟩
omit [W0] in
def cmpV:Value:=.func (.func 287) #[] #[]
theorem swapr_n (f:Nat→Nat × Nat) (N b0 cap a b n:Nat) (rest:List Value) (L:List Chunk) (hN:N≤1000) (h1:a+n≤N) (h2:b+n≤N) :
 Gv Tryz.prog 302 [.slice (some ⟨b0,0,none⟩) N cap,.int .i64 (a:Int),.int .i64 (b:Int),.int .i64 (n:Int),cmpV].toArray ([(b0,cl (cvs f N++rest) 352)]::L)
  (fun r L'=>r=.tuple #[]∧L'=[(b0,cl (cvs (swr f a b n) N++rest) 352)]::L):=by
 refine Gv.of_body Tryz.func302 rfl rfl ?_
 refine kW ?_
 refine WC_loop (X:=Nat) (fun i=>[(0,.slice (some ⟨b0,0,none⟩) N cap),(1,.int .i64 (a:Int)),(2,.int .i64 (b:Int)),(3,.int .i64 (n:Int)),(10,.int .i64 (i:Int))])
  (fun i=>[(b0,cl (cvs (swr f a b i) N++rest) 352)]::L) (fun i=>i≤n) (fun i=>n - i) 0 (Nat.zero_le _) iS (fun w h=>h) ?_
 intro i hi
 obtain ⟨g,hg⟩:∃g,g=swr f a b i:=⟨_,rfl⟩
 have hst:swr f a b (i+1)=swp g (a+i) (b+i):=by rw [hg];rfl
 rw [←hg]
 (repeat' first|refine kW ?_|refine kU fun bk=>?_|refine kV fun hc=>?_|refine kZ (fun hc=>?_) fun hc=>?_|fail)
 ·have hlt:i < n:=by omega
  refine WC_drawAll [4,5,6,7,21,22,23] mixed ?_
  (refine WR_f 4 ?_;refine WR_f 5 ?_;refine WR_f 6 ?_;refine WR_f 7 ?_)
  (refine WR_t2 0 ?_;refine WR_t2 1 ?_;refine WR_t2 2 ?_;refine WR_t2 3 ?_;refine WR_t2 8 ?_;refine WR_t2 9 ?_;refine WR_t2 10 ?_;refine WR_t2 11 ?_)
  (refine WR_take2 12 rfl rfl (by kernel_rfl) iP iC (EV_indexAddr0 (j:=b+i) rfl rfl (by omega) (by omega)) (by rfl) ?_)
  (refine WR_take2 13 rfl rfl (by kernel_rfl) iP iC (EV_loadAgg rfl (cv_rd (f:=g) (n:=N) (j:=b+i) (rest:=rest) (by omega) (by repeat (first|assumption|exact Fnd.here|refine Fnd.there ?_))) rfl) (by rfl) ?_)
  (refine WR_t2 14 ?_;refine WR_t2 15 ?_;refine WR_t2 16 ?_;refine WR_t2 17 ?_)
  (refine WR_take2 18 rfl rfl (by kernel_rfl) iP iC (EV_indexAddr0 (j:=a+i) rfl rfl (by omega) (by omega)) (by rfl) ?_)
  (refine WR_take2 19 rfl rfl (by kernel_rfl) iP iC (EV_loadAgg rfl (cv_rd (f:=g) (n:=N) (j:=a+i) (rest:=rest) (by omega) (by repeat (first|assumption|exact Fnd.here|refine Fnd.there ?_))) rfl) (by rfl) ?_)
  (refine WR_take2 20 rfl rfl (by kernel_rfl) iP iC (EV_indexAddr0 (j:=a+i) rfl rfl (by omega) (by omega)) (by rfl) ?_)
  refine cL 21 rfl rfl rfl ?_
  refine OW_storeAggTo (vs:=cv (g (b+i))) (cvs (upd g (a+i) (g (b+i))) N++rest) rfl rfl rfl rfl (cv_patch (by omega)) iU (by rw [List.length_append,cvs_length];simp [cv];omega) ?_
  refine cL 22 rfl rfl rfl ?_
  refine OW_EV (EV_indexAddr0 (j:=b+i) rfl rfl (by omega) (by omega)) rfl ?_
  refine cL 23 rfl rfl rfl ?_
  refine OW_storeAggTo (l:=cvs (upd g (a+i) (g (b+i))) N++rest) (vs:=cv (g (a+i))) (cvs (swp g (a+i) (b+i)) N++rest) rfl rfl rfl rfl (by rw [cv_patch (n:=N) (rest:=rest) (j:=b+i) (by omega),upd_swp]) iU (by rw [List.length_append,cvs_length];simp [cv];omega) ?_
  refine cD ?_
  rw [←hst]
  refine kW ?_
  refine WQ_round (X:=Nat) (μ:=fun i=>n - i) (x:=i) (i+1) (by omega) (by omega) iS (fun w h=>h)
 ·have hin:i=n:=by omega
  rw [hg,hin]
  refine kR ?_
  exact ⟨_,iC,rfl,rfl⟩
theorem rotate_c (f:Nat→Nat × Nat) (N b0 cap a m b:Nat) (rest:List Value) (L:List Chunk) (hN:N≤1000) (h1:a < m) (h2:m < b) (h3:b≤N) :
 Gv Tryz.prog 300 [.slice (some ⟨b0,0,none⟩) N cap,.int .i64 (a:Int),.int .i64 (m:Int),.int .i64 (b:Int),cmpV].toArray ([(b0,cl (cvs f N++rest) 352)]::L)
  (fun r L'=>r=.tuple #[]∧∃g,Mv a b f g∧g=rot f a m b∧L'=[(b0,cl (cvs g N++rest) 352)]::L):=by
 refine Gv.of_body Tryz.func300 rfl rfl ?_
 refine kW ?_
 refine WC_loop (X:=Nat × Nat × (Nat→Nat × Nat)) (fun x=>[(0,.slice (some ⟨b0,0,none⟩) N cap),(2,.int .i64 (m:Int)),(4,cmpV),(10,.int .i64 (x.1:Int)),(11,.int .i64 (x.2.1:Int))])
  (fun x=>[(b0,cl (cvs x.2.2 N++rest) 352)]::L) (fun x=>0 < x.1∧0 < x.2.1∧x.1≤m - a∧m+x.2.1≤b∧Mv a b f x.2.2∧rot x.2.2 (m - x.1) m (m+x.2.1)=rot f a m b) (fun x=>x.1+x.2.1) (m - a,b - m,f)
  ⟨by simp only;omega,by simp only;omega,by simp only;omega,by simp only;omega,.refl f,by simp only;rw [show m - (m - a)=a from by omega,show m+(b - m)=b from by omega]⟩ iS (fun w h=>h) ?_
 rintro ⟨i,j,g⟩ ⟨q1,q2,q3,q4,q5,q6⟩
 simp only at q1 q2 q3 q4 q5 q6 ⊢
 have hmv:∀c d n,a≤c→a≤d→c+n≤b→d+n≤b→Mv a b f (swr g c d n):=fun c d n p1 p2 p3 p4=>q5.trans (swr_mv g n p1 p2 p3 p4)
 (repeat' first|refine kW ?_|refine kU fun bk=>?_|refine kV fun hc=>?_|refine kZ (fun hc=>?_) fun hc=>?_|fail)
 ·rw [show (m:Int) - (i:Int)=((m - i:Nat):Int) from by omega]
  refine cC rfl rfl (swapr_n g N b0 cap (m - i) m j rest L hN (by omega) (by omega)) (fun r L' hp=>?_)
  obtain ⟨rfl,rfl⟩:=hp
  refine kW ?_
  refine WQ_round (X:=Nat × Nat × (Nat→Nat × Nat)) (μ:=fun x=>x.1+x.2.1) (x:=(i,j,g)) (i - j,j,swr g (m - i) m j) (by simp only;omega) ⟨by simp only;omega,q2,by simp only;omega,q4,hmv _ _ _ (by omega) (by omega) (by omega) (by omega),?_⟩ iS (fun w h=>h)
  simp only
  rw [rot_more g (by omega) (by omega) q2]
  exact q6
 ·rw [show (m:Int) - (i:Int)=((m - i:Nat):Int) from by omega,show (m:Int)+(j:Int) - (i:Int)=((m+j - i:Nat):Int) from by omega]
  refine cC rfl rfl (swapr_n g N b0 cap (m - i) (m+j - i) i rest L hN (by omega) (by omega)) (fun r L' hp=>?_)
  obtain ⟨rfl,rfl⟩:=hp
  refine kW ?_
  refine WQ_round (X:=Nat × Nat × (Nat→Nat × Nat)) (μ:=fun x=>x.1+x.2.1) (x:=(i,j,g)) (i,j - i,swr g (m - i) (m+j - i) i) (by simp only;omega) ⟨q1,by simp only;omega,q3,by simp only;omega,hmv _ _ _ (by omega) (by omega) (by omega) (by omega),?_⟩ iS (fun w h=>h)
  simp only
  rw [rot_less g (by omega) (by omega) q1]
  exact q6
 ·have hij:i=j:=by omega
  rw [show (m:Int) - (i:Int)=((m - i:Nat):Int) from by omega]
  refine cC rfl rfl (swapr_n g N b0 cap (m - i) m i rest L hN (by omega) (by omega)) (fun r L' hp=>?_)
  obtain ⟨rfl,rfl⟩:=hp
  refine kW ?_
  refine kR ?_
  refine ⟨_,iC,rfl,swr g (m - i) m i,hmv _ _ _ (by omega) (by omega) (by omega) (by omega),?_,rfl⟩
  rw [rot_same g (by omega)]
  rw [←hij] at q6
  exact q6
theorem cmpZ_lt (x y:Nat):decide (cmpZ (x:Int) (y:Int) < 0)=decide (x < y):=by
 apply decide_eq_decide.2
 unfold cmpZ
 split
 ·omega
 ·split<;>omega
omit [W0] in
def ky:Nat × Nat→Nat:=fun x=>x.2
theorem insert_c (f:Nat→Nat × Nat) (N b0 cap a b:Nat) (rest:List Value) (L:List Chunk) (hN:N≤1000) (h1:a≤b) (h3:b≤N) :
 Gv Tryz.prog 297 [.slice (some ⟨b0,0,none⟩) N cap,.int .i64 (a:Int),.int .i64 (b:Int),cmpV].toArray ([(b0,cl (cvs f N++rest) 352)]::L)
  (fun r L'=>r=.tuple #[]∧∃g,Mv a b f g∧Srt ky a b g∧L'=[(b0,cl (cvs g N++rest) 352)]::L):=by
 refine Gv.of_body Tryz.func297 rfl rfl ?_
 refine kW ?_
 refine WC_loop (X:=Nat × (Nat→Nat × Nat)) (fun x=>[(0,.slice (some ⟨b0,0,none⟩) N cap),(1,.int .i64 (a:Int)),(2,.int .i64 (b:Int)),(3,cmpV),(8,.int .i64 (x.1:Int))])
  (fun x=>[(b0,cl (cvs x.2 N++rest) 352)]::L) (fun x=>a < x.1∧x.1≤b+1∧Mv a b f x.2∧Srt ky a x.1 x.2) (fun x=>b+1 - x.1) (a+1,f)
  ⟨by simp only;omega,by simp only;omega,.refl f,fun i j p q r=>by simp only at r;rw [show i=j from by omega];exact Nat.le_refl _⟩ iS (fun w h=>h) ?_
 rintro ⟨i,g⟩ ⟨q1,q2,q3,q4⟩
 simp only at q1 q2 q3 q4 ⊢
 (repeat' first|refine kW ?_|refine kU fun bk=>?_|refine kV fun hc=>?_|refine kZ (fun hc=>?_) fun hc=>?_|fail)
 ·have hib:i < b:=by omega
  refine WC_loop (X:=Nat × (Nat→Nat × Nat)) (fun x=>[(0,.slice (some ⟨b0,0,none⟩) N cap),(1,.int .i64 (a:Int)),(2,.int .i64 (b:Int)),(3,cmpV),(8,.int .i64 (i:Int)),(9,.int .i64 (x.1:Int))])
   (fun x=>[(b0,cl (cvs x.2 N++rest) 352)]::L) (fun x=>a≤x.1∧x.1≤i∧Mv a b f x.2∧(∀p q,a≤p→p≤q→q≤i→p≠x.1→q≠x.1→ky (x.2 p)≤ky (x.2 q))∧∀q,x.1 < q→q≤i→ky (x.2 x.1)≤ky (x.2 q)) (fun x=>x.1) (i,g)
   ⟨by simp only;omega,Nat.le_refl _,q3,fun p q hp hpq hq hpi hqi=>q4 p q hp hpq (by simp only at hqi;omega),fun q h4 h5=>by simp only at h4;omega⟩ iS (fun w h=>h) ?_
  clear q3 q4 g
  rintro ⟨j,g⟩ ⟨r1,r2,r3,r4,r5⟩
  simp only at r1 r2 r3 r4 r5 ⊢
  have hsrt:(j=a∨¬ky (g j) < ky (g (j - 1)))→Srt ky a (i+1) g:=by
   intro hend p q hp hpq hq
   by_cases e1:p=j
   ·subst e1
    by_cases e2:p=q
    ·rw [e2];exact Nat.le_refl _
    ·exact r5 q (by omega) (by omega)
   ·by_cases e2:q=j
    ·subst e2
     rcases hend with h|h
     ·omega
     ·have:=r4 p (q - 1) hp (by omega) (by omega) e1 (by omega)
      omega
    ·exact r4 p q hp hpq (by omega) e1 e2
  refine kW ?_
  by_cases hja:a < j
  ·refine WC_drawAll [] mixed ?_
   (refine WR_t 0 ?_;refine WR_t 1 ?_;refine WR_t 2 ?_;refine WR_t 3 ?_)
   rw [show decide ((j:Int) > (a:Int))=true from by simp;omega]
   (refine WR_u 4 ?_;refine WR_u 5 ?_;refine WR_u 6 ?_)
   refine cO 7 rfl rfl rfl (EV_indexAddr0 (j:=j) (len:=N) rfl rfl rfl (by omega)) ?_
   refine cO 8 rfl rfl rfl (EV_loadAgg rfl (cv_rd (f:=g) (n:=N) (j:=j) (rest:=rest) (by omega) (by repeat (first|assumption|exact Fnd.here|refine Fnd.there ?_))) rfl) ?_
   (refine WR_u 9 ?_;refine WR_u 10 ?_;refine WR_u 11 ?_)
   refine cO 12 rfl rfl rfl (EV_indexAddr0 (j:=j - 1) (len:=N) rfl rfl (by omega) (by omega)) ?_
   refine cO 13 rfl rfl rfl (EV_loadAgg rfl (cv_rd (f:=g) (n:=N) (j:=j - 1) (rest:=rest) (by omega) (by repeat (first|assumption|exact Fnd.here|refine Fnd.there ?_))) rfl) ?_
   (refine WR_oneOn 14 (by kernel_rfl) rfl rfl rfl ?_)
   refine cP rfl rfl (ccmp_n (g j) (g (j - 1)) _) ?_
   refine ⟨iC,?_⟩
   (refine WR_u 15 ?_)
   rw [cmpZ_lt]
   (refine WR_t 16 ?_)
   refine cD ?_
   (repeat' first|refine kW ?_|refine kU fun bk=>?_|refine kV fun hc=>?_|refine kZ (fun hc=>?_) fun hc=>?_|fail)
   ·have hky:ky (g j) < ky (g (j - 1)):=by assumption
    refine WC_drawAll [2,3,4,15,16,17] mixed ?_
    (refine WR_f 2 ?_;refine WR_f 3 ?_;refine WR_f 4 ?_)
    (refine WR_t2 0 ?_;refine WR_t2 1 ?_;refine WR_t2 5 ?_;refine WR_t2 6 ?_;refine WR_t2 7 ?_)
    (refine WR_take2 8 rfl rfl (by kernel_rfl) iP iC (EV_indexAddr0 (j:=j - 1) (len:=N) rfl rfl (by omega) (by omega)) (by rfl) ?_)
    (refine WR_take2 9 rfl rfl (by kernel_rfl) iP iC (EV_loadAgg rfl (cv_rd (f:=g) (n:=N) (j:=j - 1) (rest:=rest) (by omega) (by repeat (first|assumption|exact Fnd.here|refine Fnd.there ?_))) rfl) (by rfl) ?_)
    (refine WR_t2 10 ?_;refine WR_t2 11 ?_)
    (refine WR_take2 12 rfl rfl (by kernel_rfl) iP iC (EV_indexAddr0 (j:=j) (len:=N) rfl rfl rfl (by omega)) (by rfl) ?_)
    (refine WR_take2 13 rfl rfl (by kernel_rfl) iP iC (EV_loadAgg rfl (cv_rd (f:=g) (n:=N) (j:=j) (rest:=rest) (by omega) (by repeat (first|assumption|exact Fnd.here|refine Fnd.there ?_))) rfl) (by rfl) ?_)
    (refine WR_take2 14 rfl rfl (by kernel_rfl) iP iC (EV_indexAddr0 (j:=j) (len:=N) rfl rfl rfl (by omega)) (by rfl) ?_)
    refine cL 15 rfl rfl rfl ?_
    refine OW_storeAggTo (vs:=cv (g (j - 1))) (cvs (upd g j (g (j - 1))) N++rest) rfl rfl rfl rfl (cv_patch (by omega)) iU (by rw [List.length_append,cvs_length];simp [cv];omega) ?_
    refine cL 16 rfl rfl rfl ?_
    refine OW_EV (EV_indexAddr0 (j:=j - 1) (len:=N) rfl rfl (by omega) (by omega)) rfl ?_
    refine cL 17 rfl rfl rfl ?_
    refine OW_storeAggTo (l:=cvs (upd g j (g (j - 1))) N++rest) (vs:=cv (g j)) (cvs (swp g j (j - 1)) N++rest) rfl rfl rfl rfl (by rw [cv_patch (n:=N) (rest:=rest) (j:=j - 1) (by omega),upd_swp]) iU (by rw [List.length_append,cvs_length];simp [cv];omega) ?_
    refine cD ?_
    refine kW ?_
    have ea:swp g j (j - 1) j=g (j - 1):=by simp [swp]
    have eb:swp g j (j - 1) (j - 1)=g j:=by unfold swp;rw [if_neg (by omega),if_pos rfl]
    have ec:∀k,k≠j→k≠j - 1→swp g j (j - 1) k=g k:=fun k k1 k2=>by simp only [swp];rw [if_neg k1,if_neg k2]
    refine WQ_round (X:=Nat × (Nat→Nat × Nat)) (μ:=fun x=>x.1) (x:=(j,g)) (j - 1,swp g j (j - 1)) (by simp only;omega) ⟨by simp only;omega,by simp only;omega,r3.step (by omega) (by omega) (by omega) (by omega),?_,?_⟩ iS (fun w h=>h)
    ·intro p q hp hpq hq hpj hqj
     simp only at hpj hqj ⊢
     by_cases e1:p=j
     ·subst e1
      by_cases e2:q=p
      ·rw [e2];exact Nat.le_refl _
      ·rw [ea,ec q e2 hqj];exact r4 (p - 1) q (by omega) (by omega) hq (by omega) e2
     ·rw [ec p e1 hpj]
      by_cases e2:q=j
      ·subst e2
       rw [ea]
       exact r4 p (q - 1) hp (by omega) (by omega) e1 (by omega)
      ·rw [ec q e2 hqj];exact r4 p q hp hpq hq e1 e2
    ·intro q hq1 hq2
     simp only at hq1 ⊢
     rw [eb]
     by_cases e2:q=j
     ·subst e2;rw [ea];exact Nat.le_of_lt hky
     ·rw [ec q e2 (by omega)];exact r5 q (by omega) hq2
   ·have hky:¬ky (g j) < ky (g (j - 1)):=by assumption
    refine WQ_round (X:=Nat × (Nat→Nat × Nat)) (μ:=fun x=>b+1 - x.1) (x:=(i,g)) (i+1,g) (by simp only;omega) ⟨by simp only;omega,by simp only;omega,r3,hsrt (.inr hky)⟩ iS (fun w h=>h)
  ·refine WC_drawAll [] mixed ?_
   (refine WR_t 0 ?_;refine WR_t 1 ?_;refine WR_t 2 ?_;refine WR_t 3 ?_)
   rw [show decide ((j:Int) > (a:Int))=false from by simp;omega]
   (refine WR_v 4 ?_;refine WR_v 5 ?_;refine WR_v 6 ?_;refine WR_v 7 ?_;refine WR_v 8 ?_;refine WR_v 9 ?_;refine WR_v 10 ?_;refine WR_v 11 ?_;refine WR_v 12 ?_;refine WR_v 13 ?_;refine WR_v 14 ?_;refine WR_v 15 ?_)
   (refine WR_t 16 ?_)
   refine cD ?_
   refine kW ?_
   refine WQ_round (X:=Nat × (Nat→Nat × Nat)) (μ:=fun x=>b+1 - x.1) (x:=(i,g)) (i+1,g) (by simp only;omega) ⟨by simp only;omega,by simp only;omega,r3,hsrt (.inl (by omega))⟩ iS (fun w h=>h)
 ·refine kR ?_
  exact ⟨_,iC,rfl,g,q3,q4.sub (Nat.le_refl _) (by omega),rfl⟩
end Go.Proofs.YtemdlifojcgplaaGreatDoor
