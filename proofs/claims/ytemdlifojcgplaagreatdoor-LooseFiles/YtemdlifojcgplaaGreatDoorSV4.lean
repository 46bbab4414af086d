/- Contracts and facts on the way to the top. It proves no statement by itself. No conditions. -/
import Derived.Test.YtemdlifojcgplaaGreatDoorSV3
set_option maxHeartbeats 16000000
namespace Go.Proofs.YtemdlifojcgplaaGreatDoor
open Go Go.Vx Go.Hf Go.If
variable [W0]
set_option maxRecDepth 4000
set_option linter.all false
theorem zaq (l:List Nat):yg (icn l)=ivn l:=by simp [yg,icn,ivn]
omit [W0] in
def lpC (lp:Nat) (lv:Value):Chunk:=[(lp,cl [lv] 154)]
theorem ziu (p q lp most m:Nat) (v lv:Value) (a:Option Addr) (c:Nat) (own l:List Nat) (fa:Option Addr) (fc:Nat) (d:List UInt8) (s:S6) (Cl:Chunk) (L:List Chunk) (h:Sl L 1 (.slice a own.length c) own.length (yg (icn own))) (hok:cdE (icn own)=0) (hol:own.length=19)
 (hv:Sl L 1 (.slice fa d.length fc) d.length (bsv d)) (hl:d.length≤1000000) (ht:s.t≤8 * d.length) (he:s.e=0) (hlv:Ow 3 1 lv l.length (ivn l) Cl) (hlm:l.length≤m) (hm:m≤400) :
 Gv Tryz.prog 141 [.pointer (some ⟨p,0,none⟩),.slice a own.length c,.pointer (some ⟨lp,0,none⟩),.int .i64 (m:Int)].toArray (wkC p q v most s.e::biC q fa d.length fc s.t::lpC lp lv::Cl::L) (fun r L'=>
  ∃lv' Cl',r=.tuple #[]∧Ow 3 1 lv' (if (rpS d own m s l).e=0 then rpL d own s l else l).length (ivn (if (rpS d own m s l).e=0 then rpL d own s l else l)) Cl'∧L'=wkC p q v most (rpS d own m s l).e::biC q fa d.length fc (rpS d own m s l).t::lpC lp lv'::Cl'::L∧(rpS d own m s l).t≤8 * d.length):=by
 refine Gv.of_body Tryz.func141 rfl rfl ?_
 have hw1:∀v e (L:List Chunk),wkC p q v most e::L=[(p,cl [.pointer (some ⟨q,0,none⟩),v,.int .i64 (most:Int),.int .i64 (e:Int)] 153)]::L:=fun _ _ _=>rfl
 have hsy:=zgk p q most v a c (icn own) fa fc d s (lpC lp lv::Cl::L) (by rw [zL];exact zm (zm h)) hok (zm (zm hv)) (by omega) ht
 rw [zL,Zi] at hsy
 have hk19:=zlO d s (l:=own) (by omega)
 have hso:=zbu d s own
 unfold rpS rpL
 generalize sv d s own=k at hsy hk19 ⊢
 generalize sy d s own=s1 at hsy hso ⊢
 obtain ⟨la,lc,rfl⟩:=zM hlv
 refine kW ?_
 refine cC rfl rfl hsy (fun r L' hp=>?_)
 obtain ⟨rfl,rfl,hb1⟩:=hp
 rw [hw1]
 (repeat' first|refine kY ?_|refine kU fun bk=>?_|refine kV fun hc=>?_|refine kZ (fun hc=>?_) fun hc=>?_|fail)
 refine vg ?_
 refine vg ?_
 (repeat' first|refine kY ?_|refine kU fun bk=>?_|refine kV fun hc=>?_|refine kZ (fun hc=>?_) fun hc=>?_|fail)
 ·have h1:s1.e≠0:=by omega
  rw [if_pos h1,if_neg h1]
  refine kR ?_
  exact ⟨_,iC,_,Cl,rfl,hlv,rfl,hb1⟩
 have h1:s1.e=0:=by omega
 rw [if_neg (show ¬s1.e≠0 by omega)]
 refine vg ?_
 (repeat' first|refine kY ?_|refine kU fun bk=>?_|refine kV fun hc=>?_|refine kZ (fun hc=>?_) fun hc=>?_|fail)
 refine vg ?_
 (repeat' first|refine kY ?_|refine kU fun bk=>?_|refine kV fun hc=>?_|refine kZ (fun hc=>?_) fun hc=>?_|fail)
 have htk:=fun n hn=>wY p q most n v fa fc d s1 (lpC lp (.slice la l.length lc)::Cl::L) (zm (zm hv)) (by omega) hb1 hn
 have hpw:2 ^ rpB k≤2 ^ 7:=Nat.pow_le_pow_right (by decide) (zll k)
 have htv:=wU d s1 (rpB k)
 have hra:=zdw k
 have hto:=yw d s1 (rpB k)
 obtain ⟨n,hn⟩:∃n,n=rpA k+tv d s1 (rpB k):=⟨_,rfl⟩
 rw [←hn]
 obtain ⟨s2,hs2⟩:∃s2,s2=tk d s1 (rpB k):=⟨_,rfl⟩
 rw [←hs2] at hto ⊢
 obtain ⟨s3,hs3⟩:∃s3,s3=if s2.e=0∧k=16∧l=[] then fl s2 3 else s2:=⟨_,rfl⟩
 have h3t:s3.t=s2.t:=by rw [hs3];split;exact vU _ _;rfl
 have h3e:s3.e=if s2.e=0∧k=16∧l=[] then 3 else s2.e:=by
  rw [hs3]
  split
  ·rename_i h;rw [ZF,if_pos h.1]
  ·rfl
 refine Zy (X:=Nat) (fun x=>[(0,.pointer (some ⟨p,0,none⟩)),(2,.pointer (some ⟨lp,0,none⟩)),(3,.int .i64 (m:Int)),(9,.int .i64 (x:Int)),(10,.int .i64 (n:Int))]) (fun _=>wkC p q v most s3.e::biC q fa d.length fc s3.t::lpC lp (.slice la l.length lc)::Cl::L) (fun x=>s3.t≤8 * d.length∧(s3.e=0→x=rpV k l)) ?_ ?_
 ·unfold lpC
  unfold lpC at htk
  (repeat' first|refine kW ?_|refine kU fun bk=>?_|refine kV fun hc=>?_|refine kZ (fun hc=>?_) fun hc=>?_|fail)
  ·obtain rfl:k=16:=by omega
   rw [show rpB 16=2 from rfl] at hs2 hn htv
   rw [show rpA 16=3 from rfl] at hn
   have ht2:=htk 2 (by decide)
   rw [←hs2] at ht2
   clear htk
   generalize tv d s1 2=z at ht2 hn htv
   refine cC rfl rfl (Gv.holds ht2 (fun w h=>iH h)) (fun r L' hp=>?_)
   obtain ⟨rfl,rfl,hb2⟩:=hp
   rw [hw1 v s2.e]
   (repeat' first|refine kW ?_|refine kU fun bk=>?_|refine kV fun hc=>?_|refine kZ (fun hc=>?_) fun hc=>?_|fail)
   ·have h2:s2.e=0:=by omega
    have hl0:l=[]:=List.length_eq_zero_iff.1 (by omega)
    have hf:=wO p q most 3 s2.e v (biC q fa d.length fc s2.t::[(lp,cl [.slice la l.length lc] 154)]::Cl::L)
    rw [if_pos h2] at hf
    rw [if_pos ⟨h2,rfl,hl0⟩] at h3e
    refine cC rfl rfl hf (fun r L' hp=>?_)
    obtain ⟨rfl,rfl⟩:=hp
    rw [hw1 v 3]
    refine kW ?_
    exact yA 16 ⟨by omega,fun hh=>by omega⟩ iS (fun w h=>by rw [h3e,h3t];exact h)
   ·have h2:s2.e=0:=by omega
    have hl0:¬l.length=0:=by omega
    rw [if_neg (fun hh=>hl0 (by rw [hh.2.2];rfl))] at hs3
    subst hs3
    have hov2:=hlv
    rcases hov2 with ⟨_,h0,_⟩|⟨b,cap,rest,hve,rfl,hxl,hrl,hmc,hcm⟩
    ·omega
    injection hve with q1 q2 q3
    subst q1 q3
    clear q2
    have hcell:(ivn l++rest).toArray[(l.length - 1) * 1]? =some (.int .i64 (l.getD (l.length - 1) 0:Int)):=by
     rw [Nat.mul_one]
     simpa using z8 (r:=rest) (yC (l:=l) (i:=l.length - 1) (n:=l.getD (l.length - 1) 0) (by simp [List.getD,show l.length - 1 < l.length from by omega]))
    refine zk [] mixed ?_
    (refine za 0 ?_;refine za 1 ?_;refine za 2 ?_;refine za 3 ?_;refine za 4 ?_;refine za 5 ?_;refine za 6 ?_;refine za 7 ?_)
    rw [show (l.length:Int) - 1=((l.length - 1:Nat):Int) from by omega]
    refine cT 8 rfl rfl (zh (j:=l.length - 1) (len:=l.length) rfl rfl rfl (by omega)) ?_
    refine cT 9 rfl rfl (zq rfl (by exact Fnd.there (Fnd.there (Fnd.there Fnd.here))) hcell) ?_
    (refine za 10 ?_)
    refine cD ?_
    refine kW ?_
    exact yA (l.getD (l.length - 1) 0) ⟨hb2,fun _=>by unfold rpV;rw [if_pos rfl]⟩ iS (fun w h=>h)
   ·have h2:¬s2.e=0:=by omega
    rw [if_neg (fun hh=>h2 hh.1)] at hs3
    subst hs3
    exact yA 16 ⟨hb2,fun hh=>absurd hh h2⟩ iS (fun w h=>h)
  ·obtain rfl:k=17:=by omega
   rw [show rpB 17=3 from rfl] at hs2 hn htv
   rw [show rpA 17=3 from rfl] at hn
   have ht2:=htk 3 (by decide)
   rw [←hs2] at ht2
   rw [if_neg (fun hh=>by omega)] at hs3
   subst hs3
   generalize tv d s1 3=z at ht2 hn htv
   refine cC rfl rfl (Gv.holds ht2 (fun w h=>iH h)) (fun r L' hp=>?_)
   obtain ⟨rfl,rfl,hb2⟩:=hp
   refine kW ?_
   exact yA 0 ⟨hb2,fun _=>rfl⟩ iS (fun w h=>h)
  ·obtain rfl:k=18:=by omega
   rw [show rpB 18=7 from rfl] at hs2 hn htv
   rw [show rpA 18=11 from rfl] at hn
   have ht2:=htk 7 (by decide)
   rw [←hs2] at ht2
   rw [if_neg (fun hh=>by omega)] at hs3
   subst hs3
   generalize tv d s1 7=z at ht2 hn htv
   refine cC rfl rfl (Gv.holds ht2 (fun w h=>iH h)) (fun r L' hp=>?_)
   obtain ⟨rfl,rfl,hb2⟩:=hp
   refine kW ?_
   exact yA 0 ⟨hb2,fun _=>rfl⟩ iS (fun w h=>h)
  ·have e1:rpB k=0:=by unfold rpB;rw [if_neg (by omega),if_neg (by omega),if_neg (by omega)]
   have e2:rpA k=1:=by unfold rpA;rw [if_neg (by omega),if_neg (by omega),if_neg (by omega)]
   rw [e1,zob hb1] at hs2
   rw [e1,e2,zoc] at hn
   rw [if_neg (fun hh=>by omega)] at hs3
   subst hs3 hs2 hn
   exact yA k ⟨hb1,fun _=>by unfold rpV;rw [if_neg (by omega),if_neg (by omega)]⟩ iS (fun w h=>h)
 ·rintro x ⟨hb3,hx⟩
  clear htk hs2 htv hsy
  obtain ⟨s4,hs4⟩:∃s4,s4=if s3.e=0∧m < l.length+n then fl s3 3 else s3:=⟨_,rfl⟩
  have h4t:s4.t=s3.t:=by rw [hs4];split;exact vU _ _;rfl
  have h4e:s4.e=if s3.e=0∧m < l.length+n then 3 else s3.e:=by
   rw [hs4]
   split
   ·rename_i h;rw [ZF,if_pos h.1]
   ·rfl
  have hR:(if s2.e≠0 then s2 else if k=16∧l=[]∨m < l.length+n then fl s2 3 else s2)=s4:=by
   by_cases h2:s2.e=0
   ·by_cases h16:k=16∧l=[]
    ·have e3:s3=fl s2 3:=by rw [hs3,if_pos ⟨h2,h16⟩]
     have e4:s3.e=3:=by rw [e3,ZF,if_pos h2]
     rw [hs4,if_neg (show ¬(s3.e=0∧m < l.length+n) from fun hh=>by omega),if_neg (show ¬s2.e≠0 from fun hh=>hh h2),if_pos (Or.inl h16),e3]
    ·have e3:s3=s2:=by rw [hs3,if_neg (fun hh=>h16 hh.2)]
     rw [hs4,e3,if_neg (show ¬s2.e≠0 from fun hh=>hh h2)]
     by_cases hm:m < l.length+n
     ·rw [if_pos (Or.inr hm),if_pos ⟨h2,hm⟩]
     ·rw [if_neg (show ¬(k=16∧l=[]∨m < l.length+n) from fun hh=>hh.elim (fun h=>h16 h) (fun h=>hm h)),if_neg (show ¬(s2.e=0∧m < l.length+n) from fun hh=>hm hh.2)]
   ·have e3:s3=s2:=by rw [hs3,if_neg (fun hh=>h2 hh.1)]
    rw [hs4,e3,if_pos h2,if_neg (show ¬(s2.e=0∧m < l.length+n) from fun hh=>h2 hh.1)]
  rw [hR]
  have h4x:s4.e=0→x=rpV k l∧l.length+n≤m:=by
   intro h0
   rw [h4e] at h0
   split at h0
   ·cases h0
   ·exact ⟨hx h0,by omega⟩
  clear hR hs3 hx h3e h3t hs4
  unfold lpC
  have hb4:s4.t≤8 * d.length:=by omega
  have hw2:wkC p q v most s3.e=[(p,cl [.pointer (some ⟨q,0,none⟩),v,.int .i64 (most:Int),.int .i64 (s3.e:Int)] 153)]:=rfl
  refine Zy (X:=Unit) (fun _=>[(0,.pointer (some ⟨p,0,none⟩)),(2,.pointer (some ⟨lp,0,none⟩)),(9,.int .i64 (x:Int)),(10,.int .i64 (n:Int))]) (fun _=>wkC p q v most s4.e::biC q fa d.length fc s4.t::[(lp,cl [.slice la l.length lc] 154)]::Cl::L) (fun _=>True) ?_ ?_
  ·have hf:=wO p q most 3 s3.e v (biC q fa d.length fc s3.t::[(lp,cl [.slice la l.length lc] 154)]::Cl::L)
   rw [h4t,h4e]
   rw [hw2]
   (repeat' first|refine kW ?_|refine kU fun bk=>?_|refine kV fun hc=>?_|refine kZ (fun hc=>?_) fun hc=>?_|fail)
   ·have h3:s3.e=0:=by omega
    rw [if_pos (show s3.e=0∧m < l.length+n by omega)]
    rw [if_pos h3] at hf
    refine cC rfl rfl hf (fun r L' hp=>?_)
    obtain ⟨rfl,rfl⟩:=hp
    refine kW ?_
    exact yA () trivial iS (fun w h=>h)
   ·rw [if_neg (show ¬(s3.e=0∧m < l.length+n) by omega)]
    exact yA () trivial iS (fun w h=>h)
   ·rw [if_neg (show ¬(s3.e=0∧m < l.length+n) by omega)]
    exact yA () trivial iS (fun w h=>h)
  intro _ _
  refine kW ?_
  refine zn (X:=Nat × Value × Chunk) (fun y=>[(0,.pointer (some ⟨p,0,none⟩)),(2,.pointer (some ⟨lp,0,none⟩)),(9,.int .i64 (x:Int)),(10,.int .i64 (n:Int)),(11,.int .i64 (y.1:Int))]) (fun y=>wkC p q v most s4.e::biC q fa d.length fc s4.t::[(lp,cl [y.2.1] 154)]::y.2.2::L)
   (fun y=>y.1≤n∧(s4.e≠0→y.1=0)∧Ow 3 1 y.2.1 (l.length+y.1) (ivn (l++List.replicate y.1 x)) y.2.2) (fun y=>n - y.1) (0,.slice la l.length lc,Cl) ⟨Nat.zero_le _,fun _=>rfl,by simpa using hlv⟩ iS (fun w h=>h) ?_
  rintro ⟨i,v1,C1⟩ ⟨hi,hz,hov⟩
  simp only at hi hz hov ⊢
  obtain ⟨wa,wc,rfl⟩:=zM hov
  unfold wkC
  (repeat' first|refine kW ?_|refine kU fun bk=>?_|refine kV fun hc=>?_|refine kZ (fun hc=>?_) fun hc=>?_|fail)
  ·have h4:s4.e=0:=by omega
   have hmx:=(h4x h4).2
   refine zl (cs:=[.int .i64 (x:Int)]) rfl (by rfl) (by first|(simp [zA,patch,Value.cells,zeros];done)|(simp [zA,patch,Value.cells,zeros];rfl)) (by omega) rfl rfl (fun bn=>?_)
   refine kW ?_
   refine zu rfl rfl hov (zF (k:=1) (c:=#[.int .i64 (x:Int)]) (xs:=[.int .i64 (x:Int)]) (m:=1) Fnd.here rfl (by simp)) (by repeat (first|exact Zip.here _|apply Zip.there)) rfl (by rfl) (by omega) (by simp [maxLen];omega) rfl (fun v' C' ho' _ _=>?_)
   refine kW ?_
   refine zG [v'] rfl rfl (by rcases ho' with ⟨rfl,_⟩|⟨_,_,_,rfl,_⟩<;>rfl) rfl iU (by simp) ?_
   refine kW ?_
   refine zf (X:=Nat × Value × Chunk) (μ:=fun y=>n - y.1) (x:=(i,.slice wa (l.length+i) wc,C1)) (i+1,v',C') (by simp only;omega) ⟨by simp only;omega,fun hh=>absurd h4 hh,?_⟩ iS (fun w h=>iH h)
   rw [List.replicate_succ',←List.append_assoc,X4 (l++List.replicate i x) [x]]
   exact ho'
  ·have h4:¬s4.e=0:=by omega
   obtain rfl:i=0:=hz h4
   rw [if_neg h4]
   refine kR ?_
   exact ⟨_,iC,_,C1,rfl,by simpa using hov,rfl,hb4⟩
  ·obtain rfl:i=n:=by omega
   refine kR ?_
   refine ⟨_,iC,_,C1,rfl,?_,rfl,hb4⟩
   by_cases h4:s4.e=0
   ·rw [if_pos h4,←(h4x h4).1]
    simpa using hov
   ·rw [if_neg h4]
    obtain rfl:i=0:=hz h4
    simpa using hov
end Go.Proofs.YtemdlifojcgplaaGreatDoor
namespace Go.If
open Go.Vx Go.Hf
set_option linter.all false
theorem zl3 [W0] {d:List UInt8} {s:S6} {n:Nat} (he:s.e=0) (h:(tk d s n).e≠0):tv d s n=0:=by
 unfold tv
 split
 ·rename_i hh
  unfold tk at h
  rw [if_pos hh] at h
  exact absurd he h
 ·rfl
theorem zln [W0] {d:List UInt8} {own:List Nat} {m:Nat} {s:S6} {l:List Nat} (hol:own.length=19) (h15:∀x∈l,x≤15) (h:(rpS d own m s l).e=0) :
 l.length < (rpL d own s l).length∧(rpL d own s l).length≤m∧∀x∈rpL d own s l,x≤15:=by
 have hk:=zlO d s (l:=own) (by omega)
 unfold rpS at h
 unfold rpL
 generalize sv d s own=k at *
 generalize sy d s own=s1 at *
 have hra:=zdw k
 split at h
 ·exact absurd h (by assumption)
 ·split at h
  ·exact absurd h (by assumption)
  ·rename_i h1 h2
   split at h
   ·rw [ZF,if_pos (by omega)] at h;cases h
   ·rename_i h3
    refine ⟨by simp;omega,by simp;omega,fun x hx=>?_⟩
    rcases List.mem_append.1 hx with hx|hx
    ·exact h15 x hx
    ·rw [List.eq_of_mem_replicate hx];exact zlm (by omega) h15
end Go.If
namespace Go.Proofs.YtemdlifojcgplaaGreatDoor
open Go Go.Vx Go.Hf Go.If
variable [W0]
set_option maxRecDepth 4000
set_option linter.all false
theorem iD {S L:List Chunk} (h:Inc S L:=by exact (by repeat (first|exact Inc.refl|exact Inc.nil|(show Inc (_::_) _;refine Inc.cons (by repeat (first|exact Take.here|apply Take.there)) ?_)|refine Inc.skip ?_))):Inc S L:=h
omit [W0] in
structure SlA (C:Chunk) (v:Value) (m:Nat) (xs:List Value):Prop where
 all:∀L,Sl (C::L) 1 v m xs
theorem zgj (p q most:Nat) (v:Value) (fa:Option Addr) (fc:Nat) (d:List UInt8) (s:S6) (L:List Chunk)
 (hv:Sl L 1 (.slice fa d.length fc) d.length (bsv d)) (hl:d.length≤1000000) (ht:s.t≤8 * d.length) (he:s.e=0) :
 Gv Tryz.prog 103 [.pointer (some ⟨p,0,none⟩)].toArray (wkC p q v most s.e::biC q fa d.length fc s.t::L) (fun r L'=>
  (dyS d s).1.t≤8 * d.length∧(((dyS d s).1.e≠0∧∃x y,r=.tuple #[x,y]∧L'=wkC p q v most (dyS d s).1.e::biC q fa d.length fc (dyS d s).1.t::L)∨
  ((dyS d s).1.e=0∧∃a1 c1 a2 c2 l dl Cl,r=.tuple #[.slice a1 l.length c1,.slice a2 dl.length c2]∧l=(dyS d s).2.1.take (dyS d s).2.2∧dl=(dyS d s).2.1.drop (dyS d s).2.2∧SlA Cl (.slice a1 l.length c1) l.length (yg (icn l))∧SlA Cl (.slice a2 dl.length c2) dl.length (yg (icn dl))∧cdE (icn l)=0∧cdE (icn dl)=0∧l.length≤400∧
    L'=wkC p q v most (dyS d s).1.e::biC q fa d.length fc (dyS d s).1.t::Cl::L))):=by
 refine Gv.of_body Tryz.func103 rfl rfl ?_
 have hw1:∀v e (L:List Chunk),wkC p q v most e::L=[(p,cl [.pointer (some ⟨q,0,none⟩),v,.int .i64 (most:Int),.int .i64 (e:Int)] 153)]::L:=fun _ _ _=>rfl
 have ht1:=wY p q most 5 v fa fc d s L hv (by omega) ht (by omega)
 have htv:=wU d s 5
 have hte:=zl3 (d:=d) (n:=5) he
 unfold dyS
 generalize tv d s 5=z1 at ht1 htv hte ⊢
 generalize tk d s 5=s1 at ht1 hte ⊢
 refine kW ?_
 refine cC rfl rfl ht1 (fun r L' hp=>?_)
 obtain ⟨rfl,rfl,hb1⟩:=hp
 by_cases h29:29 < z1
 ·have h1:s1.e=0:=by
   by_cases h0:s1.e=0
   ·exact h0
   ·have:=hte h0;omega
  rw [if_neg (show ¬s1.e≠0 by omega),if_pos h29]
  have hf:=wO p q most 3 s1.e v (biC q fa d.length fc s1.t::L)
  rw [if_pos h1] at hf
  (refine kW ?_;refine kV fun hc=>?_;refine kW ?_)
  refine cC rfl rfl hf (fun r L' hp=>?_)
  obtain ⟨rfl,rfl⟩:=hp
  rw [hw1]
  refine kW ?_
  simp only [fl3 h1,vU]
  refine kR ?_
  exact ⟨wkC p q v most 3::biC q fa d.length fc s1.t::L,iD,hb1,.inl ⟨by decide,_,_,rfl,rfl⟩⟩
 by_cases h1:s1.e≠0
 ·rw [if_pos h1,hw1]
  (refine kW ?_;refine kV fun hc=>?_;refine kW ?_;refine kV fun hc=>?_;refine kW ?_;refine kV fun hc=>?_;refine kW ?_)
  refine kR ?_
  exact ⟨wkC p q v most s1.e::biC q fa d.length fc s1.t::L,iD,hb1,.inl ⟨h1,_,_,rfl,rfl⟩⟩
 rw [if_neg h1,if_neg h29]
 have h1:s1.e=0:=by omega
 have ht2:=wY p q most 5 v fa fc d s1 L hv (by omega) hb1 (by omega)
 have htv2:=wU d s1 5
 have hte2:=zl3 (d:=d) (n:=5) h1
 generalize tv d s1 5=z2 at ht2 htv2 hte2 ⊢
 generalize tk d s1 5=s2 at ht2 hte2 ⊢
 rw [hw1 v s1.e]
 (refine kW ?_;refine kV fun hc=>?_;refine kW ?_;refine kV fun hc=>?_;refine kW ?_)
 refine cC rfl rfl (Gv.holds ht2 (fun w h=>h)) (fun r L' hp=>?_)
 obtain ⟨rfl,rfl,hb2⟩:=hp
 by_cases h29b:29 < z2
 ·have h2:s2.e=0:=by
   by_cases h0:s2.e=0
   ·exact h0
   ·have:=hte2 h0;omega
  rw [if_neg (show ¬s2.e≠0 by omega),if_pos h29b]
  have hf:=wO p q most 3 s2.e v (biC q fa d.length fc s2.t::L)
  rw [if_pos h2] at hf
  (refine kW ?_;refine kV fun hc=>?_;refine kW ?_)
  refine cC rfl rfl hf (fun r L' hp=>?_)
  obtain ⟨rfl,rfl⟩:=hp
  rw [hw1]
  refine kW ?_
  simp only [fl3 h2,vU]
  refine kR ?_
  exact ⟨wkC p q v most 3::biC q fa d.length fc s2.t::L,iD,hb2,.inl ⟨by decide,_,_,rfl,rfl⟩⟩
 by_cases h2:s2.e≠0
 ·rw [if_pos h2,hw1]
  (refine kW ?_;refine kV fun hc=>?_;refine kW ?_;refine kV fun hc=>?_;refine kW ?_)
  refine kR ?_
  exact ⟨wkC p q v most s2.e::biC q fa d.length fc s2.t::L,iD,hb2,.inl ⟨h2,_,_,rfl,rfl⟩⟩
 rw [if_neg h2,if_neg h29b,zc1]
 have h2:s2.e=0:=by omega
 obtain ⟨n1,hn1⟩:∃n1,n1=257+z1:=⟨_,rfl⟩
 obtain ⟨n2,hn2⟩:∃n2,n2=1+z2:=⟨_,rfl⟩
 rw [←hn1,←hn2]
 rw [hw1 v s2.e]
 (refine kW ?_;refine kV fun hc=>?_;refine kW ?_;refine kV fun hc=>?_;refine kW ?_)
 refine zl (cs:=ivn yY) rfl (by rfl) (by kernel_rfl) (by omega) rfl rfl (fun bo=>?_)
 refine kW ?_
 refine zJ (m:=19) (c:=19) rfl rfl (by rfl) (by omega) (by omega) (by omega) rfl (fun b=>?_)
 rw [yN]
 generalize hOL:ivn yY=OL
 obtain ⟨o0,ho0⟩:∃o0,o0=List.replicate 19 0:=⟨_,rfl⟩
 rw [←ho0]
 have ho0l:o0.length=19:=by rw [ho0];simp
 have ho07:∀y∈o0,y≤7:=by rw [ho0];simp
 refine kW ?_
 have ht3:=wY p q most 4 v fa fc d s2 ([(b,cl (ivn o0) 3)]::[(bo,cl OL 3)]::L) (zm (zm hv)) (by omega) hb2 (by omega)
 have htv3:=wU d s2 4
 obtain ⟨LC,hLC⟩:∃LC,LC=lcS d s2:=⟨_,rfl⟩
 have hlg:lgS d (n1+n2) s2=if LC.1.e≠0 then (LC.1,[]) else lpS d LC.2 (n1+n2) (n1+n2) LC.1 []:=by rw [hLC];rfl
 rw [hlg]
 clear hlg
 obtain ⟨LG,hLG⟩:∃LG,LG=if LC.1.e≠0 then (LC.1,[]) else lpS d LC.2 (n1+n2) (n1+n2) LC.1 []:=⟨_,rfl⟩
 rw [←hLG]
 obtain ⟨Y,hY⟩:∃Y,Y=if LG.1.e≠0 then (LG.1,[],0) else dyK n1 LG:=⟨_,rfl⟩
 rw [←hY]
 unfold lcS at hLC
 rw [←ho0] at hLC
 clear ho0
 generalize tv d s2 4=z at ht3 htv3 hLC
 generalize tk d s2 4=s3 at ht3 hLC
 refine cC rfl rfl (Gv.holds ht3 (fun w h=>iH h)) (fun r L' hp=>?_)
 obtain ⟨rfl,rfl,hb3⟩:=hp
 rw [hw1 v s3.e]
 refine kW ?_
 refine zn (X:=Nat × S6 × List Nat) (fun x=>[(0,.pointer (some ⟨p,0,none⟩)),(4,.int .i64 (n1:Int)),(5,.int .i64 (n2:Int)),(6,.slice (some ⟨bo,0,none⟩) 19 19),(7,.slice (some ⟨b,0,none⟩) 19 19),(8,.int .i64 ((4+z:Nat):Int)),(9,.int .i64 (x.1:Int))])
  (fun x=>wkC p q v most x.2.1.e::biC q fa d.length fc x.2.1.t::[(b,cl (ivn x.2.2) 3)]::[(bo,cl OL 3)]::L)
  (fun x=>x.1≤4+z∧x.2.1.t≤8 * d.length∧x.2.2.length=19∧(∀y∈x.2.2,y≤7)∧(x.2.1.e=0→s3.e=0∧owS d (4+z - x.1) x.1 x.2.1 x.2.2=owS d (4+z) 0 s3 o0)∧(x.2.1.e≠0→LC.1=x.2.1)) (fun x=>4+z - x.1) (0,s3,o0)
  ⟨Nat.zero_le _,hb3,ho0l,ho07,fun h=>⟨h,rfl⟩,fun h=>by rw [hLC,if_pos h]⟩ iS (fun w h=>iH h) ?_
 rintro ⟨i,s5,o⟩ ⟨hi,hb5,hol,ho7,hs5,he5⟩
 simp only at hi hb5 hol ho7 hs5 he5 ⊢
 rw [hw1 v s5.e]
 (repeat' first|refine kW ?_|refine kU fun bk=>?_|refine kV fun hc=>?_|refine kZ (fun hc=>?_) fun hc=>?_|fail)
 ·have h5:s5.e=0:=by omega
  obtain ⟨h3,hs5⟩:=hs5 h5
  obtain ⟨k2,hk2⟩:∃k2,4+z - i=k2+1:=⟨4+z - i - 1,by omega⟩
  have hk3:4+z - (i+1)=k2:=by omega
  rw [hk2,owS] at hs5
  have ht6:=wY p q most 3 v fa fc d s5 ([(b,cl (ivn o) 3)]::[(bo,cl OL 3)]::L) (zm (zm hv)) (by omega) hb5 (by omega)
  have htv6:=wU d s5 3
  generalize tv d s5 3=z6 at ht6 htv6 hs5
  generalize tk d s5 3=s6 at ht6 hs5
  have ho19:yY.getD i 0 < 19:=by
   have:∀j,j < 19→yY.getD j 0 < 19:=by decide
   exact this i (by omega)
  have hcell:OL.toArray[i * 1]? =some (.int .i64 (yY.getD i 0:Int)):=by
   rw [Nat.mul_one,←hOL]
   simpa using yC (l:=yY) (i:=i) (n:=yY.getD i 0) (by simp [List.getD,show i < yY.length from by show i < 19;omega])
  generalize yY.getD i 0=oi at hs5 ho19 hcell
  refine yO [[(bo,cl OL 3)]] [8] mixed ?_
  (refine za 0 ?_;refine za 1 ?_;refine za 2 ?_)
  refine cT 3 rfl rfl (zh (j:=i) (len:=19) rfl rfl rfl (by omega)) ?_
  refine cT 4 rfl rfl (zq rfl (by exact Fnd.here) hcell) ?_
  (refine za 5 ?_)
  refine cI 6 rfl rfl ?_
  refine cC rfl rfl (Gv.holds ht6 (fun w h=>iH h)) (fun r L' hp=>?_)
  obtain ⟨rfl,rfl,hb6⟩:=hp
  refine ⟨iC,?_⟩
  refine cT 7 rfl rfl (zh (j:=oi) (len:=19) rfl rfl rfl (by omega)) ?_
  refine cL 8 rfl rfl rfl ?_
  have hse:(ivn o).set (oi * 1) (.int .i64 (z6:Int))=ivn (o.set oi z6):=by simp [ivn,List.map_set]
  refine zG (ivn (o.set oi z6)) rfl rfl rfl hse iU (by rw [zC];omega) ?_
  refine cD ?_
  refine kW ?_
  refine zf (X:=Nat × S6 × List Nat) (μ:=fun x=>4+z - x.1) (x:=(i,s5,o)) (i+1,s6,o.set oi z6) (by simp only;omega) ⟨by simp only;omega,hb6,by simp only [List.length_set];exact hol,fun y hy=>?_,fun h6=>⟨h3,?_⟩,fun h6=>?_⟩ iS (fun w h=>iH h)
  ·rcases List.mem_or_eq_of_mem_set hy with h|rfl
   ·exact ho7 y h
   ·omega
  ·simp only at h6 ⊢
   rw [hk3]
   rw [if_neg (show ¬s6.e≠0 from fun hh=>hh h6)] at hs5
   exact hs5
  ·simp only at h6 ⊢
   rw [if_pos h6] at hs5
   rw [hLC,if_neg (show ¬s3.e≠0 from fun hh=>hh h3),←hs5,if_pos (by exact h6)]
 ·have h5:s5.e≠0:=by omega
  have hL:=he5 h5
  rw [hL,if_pos h5] at hLG
  rw [hLG,if_pos (by exact h5)] at hY
  subst hY
  refine kR ?_
  exact ⟨wkC p q v most s5.e::biC q fa d.length fc s5.t::L,iD,hb5,.inl ⟨h5,_,_,rfl,rfl⟩⟩
 ·have h5:s5.e≠0:=by omega
  have hL:=he5 h5
  rw [hL,if_pos h5] at hLG
  rw [hLG,if_pos (by exact h5)] at hY
  subst hY
  refine kR ?_
  exact ⟨wkC p q v most s5.e::biC q fa d.length fc s5.t::L,iD,hb5,.inl ⟨h5,_,_,rfl,rfl⟩⟩
 have h5:s5.e=0:=by omega
 obtain ⟨h3,hs5⟩:=hs5 h5
 obtain rfl:i=4+z:=by omega
 rw [show 4+z - (4+z)=0 from by omega,owS] at hs5
 rw [if_neg (show ¬s3.e≠0 from fun hh=>hh h3),←hs5,if_neg (show ¬(s5,o).1.e≠0 from fun hh=>hh h5)] at hLC
 simp only at hLC
 clear he5 hs5 ht3
 have ho15:∀x∈o,x≤15:=fun x hx=>by have:=ho7 x hx;omega
 have hcc:=Xq (some ⟨b,0,none⟩) 19 (icn o) (wkC p q v most s5.e::biC q fa d.length fc s5.t::[(b,cl (ivn o) 3)]::[(bo,cl OL 3)]::L) (by rw [zL,hol,zaq];exact zm (zm (zF (c:=(ivn o).toArray) Fnd.here (by rw [zC,hol]) (by simp)))) (by rw [zL];omega)
 rw [zL,hol,zaz ho15] at hcc
 have hBd:((kS o:Int) == 32768)=decide (kS o=32768):=by
  by_cases h:kS o=32768
  ·rw [h];rfl
  ·rw [decide_eq_false h];simp;omega
 rw [hBd] at hcc
 by_cases hk:kS o=32768
 ·rw [if_pos hk] at hLC
  rw [decide_eq_true hk] at hcc
  refine cP rfl rfl hcc ?_
  (refine kW ?_;refine kU fun bk=>?_;refine kW ?_)
  obtain ⟨lp,hlp⟩:∃lp,lp=bk:=⟨_,rfl⟩
  rw [←hlp]
  clear hlp
  rw [hLC,if_neg (show ¬(s5,o).1.e≠0 from fun hh=>hh h5)] at hLG
  simp only at hLG
  have hcd:=ZW ho15 (by omega) (show kS o≤32768 by omega)
  refine zn (X:=Nat × S6 × List Nat × Value × Chunk) (fun x=>[(0,.pointer (some ⟨p,0,none⟩)),(4,.int .i64 (n1:Int)),(5,.int .i64 (n2:Int)),(7,.slice (some ⟨b,0,none⟩) 19 19),(10,.pointer (some ⟨lp,0,none⟩))])
   (fun x=>wkC p q v most x.2.1.e::biC q fa d.length fc x.2.1.t::lpC lp x.2.2.2.1::x.2.2.2.2::[(b,cl (ivn o) 3)]::L)
   (fun x=>x.2.1.t≤8 * d.length∧x.2.2.1.length≤n1+n2∧Ow 3 1 x.2.2.2.1 x.2.2.1.length (ivn x.2.2.1) x.2.2.2.2∧(x.2.1.e=0→n1+n2≤x.1+x.2.2.1.length∧(∀y∈x.2.2.1,y≤15)∧lpS d o (n1+n2) x.1 x.2.1 x.2.2.1=LG)∧(x.2.1.e≠0→LG.1=x.2.1)) (fun x=>x.1) (n1+n2,s5,[],.slice none 0 0,[])
   ⟨hb5,Nat.zero_le _,.inl ⟨rfl,rfl,rfl,rfl⟩,fun _=>⟨by simp,by simp,hLG.symm⟩,fun h=>absurd h5 h⟩ iS (fun w h=>?_) ?_
  ·show Holds w ([(p,cl [.pointer (some ⟨q,0,none⟩),v,.int .i64 (most:Int),.int .i64 (s5.e:Int)] 153)]::biC q fa d.length fc s5.t::[(lp,cl [.slice none 0 0] 154)]::[]::[(b,cl (ivn o) 3)]::L)
   have h':Holds w ([(p,cl [.pointer (some ⟨q,0,none⟩),v,.int .i64 (most:Int),.int .i64 (s5.e:Int)] 153)]::biC q fa d.length fc s5.t::[(lp,cl [.slice none 0 0] 154)]::[(b,cl (ivn o) 3)]::L):=iH h
   simpa only [Holds,List.flatten_cons,List.nil_append] using h'
  clear h5 hb5 hcc hLC hLG
  rintro ⟨f,s7,l,lv,Cl⟩ ⟨hb7,hlm,hov,hs7,he7⟩
  simp only at hb7 hlm hov hs7 he7 ⊢
  obtain ⟨la,lc,rfl⟩:=zM hov
  unfold lpC
  rw [hw1 v s7.e]
  (repeat' first|refine kW ?_|refine kU fun bk=>?_|refine kV fun hc=>?_|refine kZ (fun hc=>?_) fun hc=>?_|fail)
  ·have h7:s7.e=0:=by omega
   obtain ⟨hf7,h15,hlp7⟩:=hs7 h7
   obtain ⟨g,rfl⟩:∃g,f=g+1:=⟨f - 1,by omega⟩
   rw [lpS,if_pos ⟨h7,by omega⟩] at hlp7
   have hr:=ziu p q lp most (n1+n2) v (.slice la l.length lc) (some ⟨b,0,none⟩) 19 o l fa fc d s7 Cl ([(b,cl (ivn o) 3)]::L) (by rw [hol,zaq];exact zF (c:=(ivn o).toArray) Fnd.here (by rw [zC,hol]) (by simp)) hcd hol (zm hv) hl hb7 h7 hov hlm (by omega)
   rw [hol] at hr
   have hfa:=zln (d:=d) (s:=s7) (own:=o) (m:=n1+n2) hol h15
   generalize rpS d o (n1+n2) s7 l=s8 at hr hlp7 hfa
   generalize rpL d o s7 l=l8 at hr hlp7 hfa
   unfold lpC at hr
   rw [←Int.natCast_add]
   refine cC rfl rfl (Gv.holds hr (fun w h=>iH h)) (fun r L' hp=>?_)
   obtain ⟨lv8,Cl8,rfl,ho8,rfl,hb8⟩:=hp
   refine kW ?_
   by_cases h8:s8.e=0
   ·rw [if_pos h8] at hlp7 ho8
    obtain ⟨hx1,hx2,hx3⟩:=hfa h8
    refine zf (X:=Nat × S6 × List Nat × Value × Chunk) (μ:=fun x=>x.1) (x:=(g+1,s7,l,.slice la l.length lc,Cl)) (g,s8,l8,lv8,Cl8) (by simp only;omega) ⟨hb8,hx2,ho8,fun _=>⟨by simp only;omega,hx3,hlp7⟩,fun hh=>absurd h8 hh⟩ iS (fun w h=>iH h)
   ·rw [if_neg h8] at hlp7 ho8
    refine zf (X:=Nat × S6 × List Nat × Value × Chunk) (μ:=fun x=>x.1) (x:=(g+1,s7,l,.slice la l.length lc,Cl)) (g,s8,l,lv8,Cl8) (by simp only;omega) ⟨hb8,hlm,ho8,fun hh=>absurd hh h8,fun _=>by rw [←hlp7]⟩ iS (fun w h=>iH h)
  ·have h7:s7.e=0:=by omega
   obtain ⟨hf7,h15,hlp7⟩:=hs7 h7
   have hlm:l.length=n1+n2:=by omega
   have hq:lpS d o (n1+n2) f s7 l=(s7,l):=by
    cases f with
    |zero=>rfl
    |succ f=>rw [lpS,if_neg (fun hh=>by omega)]
   rw [hq] at hlp7
   rw [←hlp7,if_neg (show ¬(s7,l).1.e≠0 from fun hh=>hh h7)] at hY
   unfold dyK at hY
   simp only at hY
   have hov2:=hov
   rcases hov2 with ⟨_,h0,_⟩|⟨b2,cap,rest,hve,rfl,hxl,hrl,hmc,hcm⟩
   ·omega
   injection hve with q1 q2 q3
   subst q1 q3
   clear q2
   have hl4:∀x∈l.take n1,x≤15:=fun x hx=>h15 x (List.mem_of_mem_take hx)
   have hd4:∀x∈l.drop n1,x≤15:=fun x hx=>h15 x (List.mem_of_mem_drop hx)
   have hln:(l.take n1).length=n1:=by simp;omega
   have hdn:(l.drop n1).length=n2:=by simp;omega
   obtain ⟨x,hx⟩:∃x,l[256]? =some x:=⟨l[256],List.getElem?_eq_getElem (by omega)⟩
   have hcell:(ivn l++rest).toArray[0+256 * 1]? =some (.int .i64 (x:Int)):=by
    have h5:=yC hx
    have h6:=(List.getElem?_eq_some_iff.1 h5).1
    rw [List.getElem?_toArray,List.getElem?_append_left (by simpa using h6)]
    simpa using h5
   rw [show l.getD 256 0=x from by simp [List.getD,hx]] at hY
   rw [hlm] at hmc
   rw [hlm]
   refine ze (qE (h:=n1) rfl rfl rfl (by omega)) rfl ?_
   refine kW ?_
   refine ze (yx (l:=n1) (h:=n1+n2) rfl rfl rfl (by omega) (by omega) (by omega)) rfl ?_
   rw [show n1+n2 - n1=n2 from by omega]
   refine kW ?_
   obtain ⟨K,hK⟩:∃K,K=[(p,cl [.pointer (some ⟨q,0,none⟩),v,.int .i64 (most:Int),.int .i64 (s7.e:Int)] 153)]::biC q fa d.length fc s7.t::[(lp,cl [.slice (some ⟨b2,0,none⟩) (n1+n2) lc] 154)]::[(b2,cl (ivn l++rest) 3)]::[(b,cl (ivn o) 3)]::L:=⟨_,rfl⟩
   have hS1:∀L,Sl ([(b2,cl (ivn l++rest) 3)]::L) 1 (.slice (some ⟨b2,0,none⟩) (l.take n1).length lc) (l.take n1).length (yg (icn (l.take n1))):=fun L=>by
    rw [zaq]
    exact .inr ⟨_,_,rfl,zK.cl' (l:=ivn l++rest) Fnd.here (by
     rw [zC];unfold cut ivn
     rw [List.drop_zero,List.take_append_of_le_length (by simp;omega),List.map_take,List.length_take,Nat.min_eq_left (by omega)]),by rw [zC];simp⟩
   have hS2:∀L,Sl ([(b2,cl (ivn l++rest) 3)]::L) 1 (.slice (some ⟨b2,n1 * 1,none⟩) (l.drop n1).length (lc - n1)) (l.drop n1).length (yg (icn (l.drop n1))):=fun L=>by
    rw [zaq]
    exact .inr ⟨_,_,rfl,zK.cl' (l:=ivn l++rest) Fnd.here (by
     rw [zC,hdn];unfold cut ivn
     rw [List.drop_append_of_le_length (by simp;omega),List.take_append_of_le_length (by simp;omega),Nat.mul_one,←List.map_drop,←List.map_take,List.take_of_length_le (by omega)]),by rw [zC];simp⟩
   have hBd:∀o:List Nat,((kS o:Int) == 32768)=decide (kS o=32768):=fun o=>by
    by_cases h:kS o=32768
    ·rw [h];rfl
    ·rw [decide_eq_false h];simp;omega
   have hS1K:Sl K 1 (.slice (some ⟨b2,0,none⟩) (l.take n1).length lc) (l.take n1).length (yg (icn (l.take n1))):=by rw [hK];exact zm (zm (zm (hS1 _)))
   have hS2K:Sl K 1 (.slice (some ⟨b2,n1 * 1,none⟩) (l.drop n1).length (lc - n1)) (l.drop n1).length (yg (icn (l.drop n1))):=by rw [hK];exact zm (zm (zm (hS2 _)))
   have hc1:=Xq _ _ (icn (l.take n1)) K (by rw [zL];exact hS1K) (by rw [zL];omega)
   have hc2:=Xq _ _ (icn (l.drop n1)) K (by rw [zL];exact hS2K) (by rw [zL];omega)
   have hsg:=zlC _ _ (l.drop n1) K hS2K (by omega)
   rw [zL,zaz hl4,hBd,hln] at hc1
   rw [zL,zaz hd4,hBd,hdn] at hc2
   rw [hdn] at hsg
   have hf:=wO p q most 3 s7.e v (biC q fa d.length fc s7.t::[(lp,cl [.slice (some ⟨b2,0,none⟩) (n1+n2) lc] 154)]::[(b2,cl (ivn l++rest) 3)]::[(b,cl (ivn o) 3)]::L)
   rw [if_pos h7] at hf
   have hbad:¬(x≠0∧kS (l.take n1)=32768∧(kS (l.drop n1)=32768∨sgl (l.drop n1)=true))→Y=(fl s7 3,[],0):=fun h=>by rw [hY,if_neg h]
   refine ze (zi (j:=256) rfl rfl rfl (by omega)) rfl ?_
   refine kW ?_
   refine ze (zq rfl (by exact Fnd.there (Fnd.there (Fnd.there Fnd.here))) hcell) rfl ?_
   rw [←hK]
   (repeat' first|refine kW ?_|refine kU fun bk=>?_|refine kV fun hc=>?_|refine kZ (fun hc=>?_) fun hc=>?_|fail)
   ·rw [hbad (fun hh=>hh.1 (by omega))]
    simp only [fl3 h7,vU]
    rw [hK]
    refine cC rfl rfl (Gv.holds hf (fun w h=>iH h)) (fun r L' hp=>?_)
    obtain ⟨rfl,rfl⟩:=hp
    refine kW ?_
    refine kR ?_
    exact ⟨wkC p q v most 3::biC q fa d.length fc s7.t::L,iD,hb7,.inl ⟨by decide,_,_,rfl,rfl⟩⟩
   by_cases hk1:kS (l.take n1)=32768
   ·rw [decide_eq_true hk1] at hc1
    refine cP rfl rfl hc1 ?_
    refine kW ?_
    by_cases hk2:kS (l.drop n1)=32768
    ·rw [decide_eq_true hk2] at hc2
     refine cP rfl rfl hc2 ?_
     refine kW ?_
     have hYo:Y=(s7,l,n1):=by rw [hY,if_pos ⟨show x≠0 by omega,hk1,.inl hk2⟩]
     rw [hYo,hK]
     have hks:=Qr (l.drop n1)
     have hkd:kS (l.drop n1)≤32768:=by
      rcases (.inl hk2:kS (l.drop n1)=32768∨sgl (l.drop n1)=true) with h|h
      ·omega
      ·rw [uU] at h
       have:=of_decide_eq_true h
       omega
     refine kR ?_
     exact ⟨wkC p q v most s7.e::biC q fa d.length fc s7.t::[(b2,cl (ivn l++rest) 3)]::L,iD,hb7,.inr ⟨h7,some ⟨b2,0,none⟩,lc,some ⟨b2,n1 * 1,none⟩,lc - n1,l.take n1,l.drop n1,_,by rw [hln,hdn];rfl,rfl,rfl,⟨hS1⟩,⟨hS2⟩,ZW hl4 (by omega) (by omega),ZW hd4 (by omega) hkd,by omega,rfl⟩⟩
    ·rw [decide_eq_false hk2] at hc2
     refine cP rfl rfl hc2 ?_
     refine kW ?_
     cases hsb:sgl (l.drop n1) with
     |false=>
      rw [hsb] at hsg
      refine cP rfl rfl hsg ?_
      refine kW ?_
      rw [hbad (fun hh=>by rcases hh.2.2 with h|h;exact hk2 h;rw [hsb] at h;cases h)]
      simp only [fl3 h7,vU]
      rw [hK]
      refine cC rfl rfl (Gv.holds hf (fun w h=>iH h)) (fun r L' hp=>?_)
      obtain ⟨rfl,rfl⟩:=hp
      refine kW ?_
      refine kR ?_
      exact ⟨wkC p q v most 3::biC q fa d.length fc s7.t::L,iD,hb7,.inl ⟨by decide,_,_,rfl,rfl⟩⟩
     |true=>
      rw [hsb] at hsg
      refine cP rfl rfl hsg ?_
      refine kW ?_
      have hYo:Y=(s7,l,n1):=by rw [hY,if_pos ⟨show x≠0 by omega,hk1,.inr hsb⟩]
      rw [hYo,hK]
      have hks:=Qr (l.drop n1)
      have hkd:kS (l.drop n1)≤32768:=by
       rcases (.inr hsb:kS (l.drop n1)=32768∨sgl (l.drop n1)=true) with h|h
       ·omega
       ·rw [uU] at h
        have:=of_decide_eq_true h
        omega
      refine kR ?_
      exact ⟨wkC p q v most s7.e::biC q fa d.length fc s7.t::[(b2,cl (ivn l++rest) 3)]::L,iD,hb7,.inr ⟨h7,some ⟨b2,0,none⟩,lc,some ⟨b2,n1 * 1,none⟩,lc - n1,l.take n1,l.drop n1,_,by rw [hln,hdn];rfl,rfl,rfl,⟨hS1⟩,⟨hS2⟩,ZW hl4 (by omega) (by omega),ZW hd4 (by omega) hkd,by omega,rfl⟩⟩
   ·rw [decide_eq_false hk1] at hc1
    refine cP rfl rfl hc1 ?_
    refine kW ?_
    rw [hbad (fun hh=>hk1 hh.2.1)]
    simp only [fl3 h7,vU]
    rw [hK]
    refine cC rfl rfl (Gv.holds hf (fun w h=>iH h)) (fun r L' hp=>?_)
    obtain ⟨rfl,rfl⟩:=hp
    refine kW ?_
    refine kR ?_
    exact ⟨wkC p q v most 3::biC q fa d.length fc s7.t::L,iD,hb7,.inl ⟨by decide,_,_,rfl,rfl⟩⟩
  ·have h7:s7.e≠0:=by omega
   have hL:=he7 h7
   rw [hL,if_pos h7] at hY
   subst hY
   refine kR ?_
   exact ⟨wkC p q v most s7.e::biC q fa d.length fc s7.t::L,iD,hb7,.inl ⟨h7,_,_,rfl,rfl⟩⟩
 ·rw [if_neg hk] at hLC
  rw [decide_eq_false hk] at hcc
  refine cP rfl rfl hcc ?_
  have hf:=wO p q most 3 s5.e v (biC q fa d.length fc s5.t::[(b,cl (ivn o) 3)]::[(bo,cl OL 3)]::L)
  rw [if_pos h5] at hf
  rw [hLC,if_pos (by rw [fl3 h5];decide)] at hLG
  rw [hLG,if_pos (by rw [fl3 h5];decide)] at hY
  subst hY
  simp only [fl3 h5,vU]
  refine kW ?_
  refine cC rfl rfl hf (fun r L' hp=>?_)
  obtain ⟨rfl,rfl⟩:=hp
  rw [hw1 v 3]
  (refine kW ?_;refine kU fun bk=>?_;refine kW ?_)
  refine zn (X:=Unit) (fun _=>[(0,.pointer (some ⟨p,0,none⟩))]) (fun _=>wkC p q v most 3::biC q fa d.length fc s5.t::L) (fun _=>True) (fun _=>0) () trivial iS (fun w h=>iH h) ?_
  intro _ _
  rw [hw1 v 3]
  refine kW ?_
  refine kR ?_
  exact ⟨wkC p q v most 3::biC q fa d.length fc s5.t::L,iD,hb5,.inl ⟨by decide,_,_,rfl,rfl⟩⟩
end Go.Proofs.YtemdlifojcgplaaGreatDoor
namespace Go.If
open Go.Vx Go.Hf
set_option linter.all false
theorem zhp [W0] (d:List UInt8) (own:List Nat) (m:Nat) (s:S6) (l:List Nat):(rpS d own m s l).out=s.out:=by
 unfold rpS
 repeat' split
 all_goals simp only [ql,yw,zlT]
theorem zg0 [W0] (d:List UInt8) (own:List Nat) (m:Nat):∀f s l,(lpS d own m f s l).1.out=s.out
 |0,s,l=>rfl
 |f+1,s,l=>by
  rw [lpS]
  split
  ·split
   ·rw [zg0 d own m f,zhp]
   ·exact zhp _ _ _ _ _
  ·rfl
theorem zhi [W0] (d:List UInt8):∀k i s o,(owS d k i s o).1.out=s.out
 |0,i,s,o=>rfl
 |k+1,i,s,o=>by
  rw [owS]
  split
  ·exact yw _ _ _
  ·rw [zhi d k,yw]
theorem znp [W0] (d:List UInt8) (s:S6):(lcS d s).1.out=s.out:=by
 unfold lcS
 repeat' split
 all_goals simp only [ql,yw,zhi]
theorem znt [W0] (d:List UInt8) (m:Nat) (s:S6):(lgS d m s).1.out=s.out:=by
 unfold lgS
 repeat' split
 all_goals simp only [zg0,znp]
theorem zm4 [W0] (d:List UInt8) (n1 n2:Nat) (s:S6):(dyT d n1 n2 s).1.out=s.out:=by
 rw [zc1]
 unfold dyK
 repeat' split
 all_goals simp only [ql,znt]
theorem zc0 [W0] (d:List UInt8) (s:S6):(dyS d s).1.out=s.out:=by
 unfold dyS
 repeat' split
 all_goals simp only [ql,yw,zm4]
end Go.If
namespace Go.Proofs.YtemdlifojcgplaaGreatDoor
open Go Go.Vx Go.Hf Go.If
variable [W0]
set_option maxRecDepth 4000
set_option linter.all false
theorem Xu:fxL.length=288:=by simp [fxL]
theorem za1:fxD.length=32:=by simp [fxD]
theorem zqo (a:Option Addr) (c:Nat) (d:List UInt8) (mo:Int) (most:Nat) (L:List Chunk) (hv:Sl L 1 (.slice a d.length c) d.length (bsv d)) (hl:d.length≤1000000) (hm1:max mo 0=(most:Int)) (hm:most≤1000000) :
 Gv Tryz.prog 64 [.slice a d.length c,.int .i64 mo].toArray L (fun r L'=>
  ((yZ d most).e≠0∧r=.agg #[.slice none 0 0,.int .i64 0,.int .i64 ((yZ d most).e:Int)]∧L'=L)∨
  ((yZ d most).e=0∧∃v C,r=.agg #[v,.int .i64 (((yZ d most).t+7) / 8:Nat),.int .i64 0]∧Ow 5 1 v (yZ d most).out.length (bsv (yZ d most).out) C∧(yZ d most).t≤8 * d.length∧L'=C::L)):=by
 refine Gv.of_body Tryz.func64 rfl rfl ?_
 unfold yZ
 generalize hR:rwS d most (8 * d.length+1) ⟨0,[],0⟩=R
 (refine kW ?_;refine kU fun bk=>?_;refine kW ?_;refine kU fun bk=>?_;refine kW ?_;refine kU fun bk=>?_;refine kW ?_)
 rename_i g q
 obtain ⟨p,hp⟩:∃p,p=bk:=⟨_,rfl⟩
 rw [←hp,hm1]
 clear hp
 have hw1:∀v e (L:List Chunk),wkC p q v most e::L=[(p,cl [.pointer (some ⟨q,0,none⟩),v,.int .i64 (most:Int),.int .i64 (e:Int)] 153)]::L:=fun _ _ _=>rfl
 refine zn (X:=Nat × S6 × Nat × Value × Chunk) (fun x=>[(4,.pointer (some ⟨g,0,none⟩)),(5,.pointer (some ⟨p,0,none⟩)),(6,.int .i64 (x.2.2.1:Int))])
  (fun x=>wkC p q x.2.2.2.1 most x.2.1.e::biC q a d.length c x.2.1.t::x.2.2.2.2::[(g,cl [.slice none 0 0,.int .i64 0,.int .i64 0] 76)]::L)
  (fun x=>x.2.1.t≤8 * d.length∧Ow 5 1 x.2.2.2.1 x.2.1.out.length (bsv x.2.1.out) x.2.2.2.2∧(x.2.1.e=0→x.2.2.1=0→8 * d.length < x.1+x.2.1.t∧rwS d most x.1 x.2.1=R)∧((x.2.1.e≠0∨x.2.2.1≠0)→x.2.1=R)) (fun x=>x.1)
  (8 * d.length+1,⟨0,[],0⟩,0,.slice none 0 0,[]) ⟨Nat.zero_le _,.inl ⟨rfl,rfl,rfl,rfl⟩,fun _ _=>⟨by simp,hR⟩,fun h=>by simp at h⟩ iS (fun w h=>?_) ?_
 ·show Holds w ([(p,cl [.pointer (some ⟨q,0,none⟩),.slice none 0 0,.int .i64 (most:Int),.int .i64 (0:Int)] 153)]::[(q,cl [.slice a d.length c,.int .i64 (0:Int)] 151)]::[]::[(g,cl [.slice none 0 0,.int .i64 0,.int .i64 0] 76)]::L)
  have h':Holds w ([(p,cl [.pointer (some ⟨q,0,none⟩),.slice none 0 0,.int .i64 (most:Int),.int .i64 (0:Int)] 153)]::[(q,cl [.slice a d.length c,.int .i64 (0:Int)] 151)]::[(g,cl [.slice none 0 0,.int .i64 0,.int .i64 0] 76)]::L):=h
  simpa only [Holds,List.flatten_cons,List.nil_append] using h'
 clear hR
 rintro ⟨f,s1,la,v1,C1⟩ ⟨hb1,ho1,hf1,hf2⟩
 simp only at hb1 ho1 hf1 hf2 ⊢
 rw [hw1 v1 s1.e]
 (repeat' first|refine kW ?_|refine kU fun bk=>?_|refine kV fun hc=>?_|refine kZ (fun hc=>?_) fun hc=>?_|fail)
 ·have h1:s1.e=0:=by omega
  obtain ⟨hf3,hsl⟩:=hf1 h1 (by omega)
  clear hf1 hf2
  obtain ⟨f,rfl⟩:∃g,f=g+1:=⟨f - 1,by omega⟩
  rw [rwS] at hsl
  have htk:=wY p q most 3 v1 a c d s1 (C1::[(g,cl [.slice none 0 0,.int .i64 0,.int .i64 0] 76)]::L) (zm (zm hv)) (by omega) hb1 (by decide)
  have htv:=wU d s1 3
  have hto:=yw d s1 3
  have htt:(tk d s1 3).e=0→(tk d s1 3).t=s1.t+3:=fun h0=>by
   by_cases hc:s1.t+3≤8 * d.length
   ·rw [zhB hc]
   ·rw [Go.If.zbz hc h1] at h0;cases h0
  generalize tv d s1 3=z at htk htv hsl
  generalize tk d s1 3=s2 at htk hto htt hsl
  rw [←hto] at ho1
  refine cC rfl rfl (Gv.holds htk (fun w h=>h)) (fun r L' hp=>?_)
  obtain ⟨rfl,rfl,hb2⟩:=hp
  rw [hw1 v1 s2.e]
  have hround:∀s3,s3=bkS d most (z / 2) s2→z≤5→s2.e=0→(s3.e=0→z % 2=0→8 * d.length < f+s3.t∧rwS d most f s3=R)∧((s3.e≠0∨z % 2≠0)→s3=R):=by
   intro s3 h3 hz h2
   have hle:=zi4 d most (z / 2) s2
   rw [←h3] at hle hsl
   have hlt:=hle.t
   have htt:=htt h2
   rw [if_neg (show ¬s2.e≠0 from fun hh=>hh h2),if_neg (show ¬5 < z by omega)] at hsl
   refine ⟨fun h0 h1=>⟨by omega,?_⟩,fun h0=>?_⟩
   ·rw [if_neg (show ¬s3.e≠0 from fun hh=>hh h0),if_neg (show ¬z % 2=1 by omega)] at hsl
    exact hsl
   ·by_cases h4:s3.e≠0
    ·rw [if_pos h4] at hsl;exact hsl
    ·rw [if_neg h4,if_pos (by rcases h0 with h|h;exact absurd h h4;omega)] at hsl;exact hsl
  refine kW ?_
  refine ze (wZ rfl rfl (Qm (a:=z) (b:=1) (by omega) (by decide))) rfl ?_
  rw [Nat.and_one_is_mod]
  (repeat' first|refine kW ?_|refine kU fun bk=>?_|refine kV fun hc=>?_|refine kZ (fun hc=>?_) fun hc=>?_|fail)
  ·have h2:s2.e≠0:=by omega
   rw [if_pos h2] at hsl
   refine zf (X:=Nat × S6 × Nat × Value × Chunk) (μ:=fun x=>x.1) (x:=(f+1,s1,la,v1,C1)) (f,s2,z % 2,v1,C1) (by simp only;omega) ⟨hb2,ho1,fun hh=>absurd hh h2,fun _=>hsl⟩ iS (fun w h=>iH h)
  ·have h2:s2.e=0:=by omega
   have hJ:=hround (stS d most s2) (by unfold bkS;rw [if_pos (by omega)]) (by omega) h2
   have hst:=ziw p q most v1 a c d s2 C1 ([(g,cl [.slice none 0 0,.int .i64 0,.int .i64 0] 76)]::L) (zm hv) hl hb2 hm ho1
   generalize stS d most s2=s3 at hst hJ
   refine cC rfl rfl (Gv.holds hst (fun w h=>h)) (fun r L' hp=>?_)
   obtain ⟨v3,C3,rfl,ho3,rfl,hb3⟩:=hp
   refine kW ?_
   refine zf (X:=Nat × S6 × Nat × Value × Chunk) (μ:=fun x=>x.1) (x:=(f+1,s1,la,v1,C1)) (f,s3,z % 2,v3,C3) (by simp only;omega) ⟨hb3,ho3,hJ.1,hJ.2⟩ iS (fun w h=>iH h)
  ·have h2:s2.e=0:=by omega
   have hJ:=hround (cdC d most fxL fxD (8 * d.length+1) s2) (by unfold bkS;rw [if_neg (by omega),if_pos (by omega)]) (by omega) h2
   have hfx:=znb ([(p,cl [.pointer (some ⟨q,0,none⟩),v1,.int .i64 (most:Int),.int .i64 (s2.e:Int)] 153)]::biC q a d.length c s2.t::C1::[(g,cl [.slice none 0 0,.int .i64 0,.int .i64 0] 76)]::L)
   refine cC rfl rfl hfx (fun r L' hp=>?_)
   obtain ⟨u,w2,Cf,Df,rfl,rfl,hof,hod⟩:=hp
   obtain ⟨ua,uc,rfl⟩:=zM hof
   obtain ⟨wa,wc,rfl⟩:=zM hod
   refine kW ?_
   have hco:=ze5 p q most v1 ua wa uc wc fxL fxD a c d s2 C1 (Df::Cf::[(g,cl [.slice none 0 0,.int .i64 0,.int .i64 0] 76)]::L) (by rw [Xu];exact zm (qz hof)) (by decide+kernel) (by rw [Xu];omega) (by rw [za1];exact qz hod) (by decide+kernel) (zm (zm (zm hv))) hl hb2 hm ho1
   rw [Xu,za1] at hco
   generalize cdC d most fxL fxD (8 * d.length+1) s2=s3 at hco hJ
   refine cC rfl rfl (Gv.holds hco (fun w h=>iH h)) (fun r L' hp=>?_)
   obtain ⟨v3,C3,rfl,ho3,rfl,hb3⟩:=hp
   refine kW ?_
   refine zf (X:=Nat × S6 × Nat × Value × Chunk) (μ:=fun x=>x.1) (x:=(f+1,s1,la,v1,C1)) (f,s3,z % 2,v3,C3) (by simp only;omega) ⟨hb3,ho3,hJ.1,hJ.2⟩ iS (fun w h=>iH h)
  ·have h2:s2.e=0:=by omega
   have hJ:=hround (dbS d most s2) (by unfold bkS;rw [if_neg (by omega),if_neg (by omega)]) (by omega) h2
   have hle:=zgj p q most v1 a c d s2 (C1::[(g,cl [.slice none 0 0,.int .i64 0,.int .i64 0] 76)]::L) (zm (zm hv)) hl hb2 h2
   have hdo:=zc0 d s2
   unfold dbS at hJ
   generalize dyS d s2=Y at hle hJ hdo
   obtain ⟨s4,ly,ny⟩:=Y
   simp only at hle hJ hdo
   refine cC rfl rfl (Gv.holds hle (fun w h=>h)) (fun r L' hp=>?_)
   obtain ⟨hb4,⟨h4,x,y,rfl,rfl⟩|⟨h4,a1,c1,a2,c2,l,dl,Cl,rfl,rfl,rfl,hS1,hS2,hd1,hd2,hll,rfl⟩⟩:=hp
   ·rw [if_pos h4] at hJ
    rw [hw1 v1 s4.e]
    (refine kW ?_;refine kV fun hc=>?_;refine kW ?_)
    rw [←hdo] at ho1
    refine zf (X:=Nat × S6 × Nat × Value × Chunk) (μ:=fun x=>x.1) (x:=(f+1,s1,la,v1,C1)) (f,s4,z % 2,v1,C1) (by simp only;omega) ⟨hb4,ho1,hJ.1,hJ.2⟩ iS (fun w h=>iH h)
   ·rw [if_neg (show ¬s4.e≠0 by omega)] at hJ
    rw [hw1 v1 s4.e]
    (refine kW ?_;refine kV fun hc=>?_;refine kW ?_)
    rw [←hdo] at ho1
    have hco:=ze5 p q most v1 a1 a2 c1 c2 (ly.take ny) (ly.drop ny) a c d s4 C1 (Cl::[(g,cl [.slice none 0 0,.int .i64 0,.int .i64 0] 76)]::L) (hS1.all _) hd1 hll (hS2.all _) hd2 (zm (zm hv)) hl hb4 hm ho1
    generalize cdC d most (ly.take ny) (ly.drop ny) (8 * d.length+1) s4=s3 at hco hJ
    refine cC rfl rfl (Gv.holds hco (fun w h=>iH h)) (fun r L' hp=>?_)
    obtain ⟨v3,C3,rfl,ho3,rfl,hb3⟩:=hp
    refine kW ?_
    refine zf (X:=Nat × S6 × Nat × Value × Chunk) (μ:=fun x=>x.1) (x:=(f+1,s1,la,v1,C1)) (f,s3,z % 2,v3,C3) (by simp only;omega) ⟨hb3,ho3,hJ.1,hJ.2⟩ iS (fun w h=>iH h)
  ·have h2:s2.e=0:=by omega
   rw [if_neg (show ¬s2.e≠0 by omega),if_pos (show 5 < z by omega)] at hsl
   have hf:=wO p q most 3 s2.e v1 (biC q a d.length c s2.t::C1::[(g,cl [.slice none 0 0,.int .i64 0,.int .i64 0] 76)]::L)
   rw [if_pos h2] at hf
   refine cC rfl rfl hf (fun r L' hp=>?_)
   obtain ⟨rfl,rfl⟩:=hp
   refine kW ?_
   refine zf (X:=Nat × S6 × Nat × Value × Chunk) (μ:=fun x=>x.1) (x:=(f+1,s1,la,v1,C1)) (f,fl s2 3,z % 2,v1,C1) (by simp only;omega) ⟨by simp only [vU];exact hb2,by simp only [ql];exact ho1,fun hh=>absurd hh (by show ¬(fl s2 3).e=0;rw [fl3 h2];decide),fun _=>hsl⟩ iS (fun w h=>?_)
   simp only [vU,fl3 h2]
   exact iH h
 ·have h1:s1.e≠0:=by omega
  obtain rfl:s1=R:=hf2 (.inl h1)
  first
   |(refine zX (vs:=[.agg #[.slice none 0 0,.int .i64 0,.int .i64 (s1.e:Int)]]) rfl (.agg ⟨by kernel_rfl,by kernel_rfl⟩ rfl (zK.cl' (vs:=[.slice none 0 0,.int .i64 0,.int .i64 (s1.e:Int)]) (by repeat (first|assumption|exact Fnd.here|refine Fnd.there ?_)) rfl) rfl .nil) ?_
     exact ⟨L,fun w h=>iH h,.inl ⟨h1,rfl,rfl⟩⟩)
   |(refine yF (vs:=[.agg #[.slice none 0 0,.int .i64 0,.int .i64 (s1.e:Int)]]) rfl (.agg ⟨by kernel_rfl,by kernel_rfl⟩ rfl (zK.cl' (vs:=[.slice none 0 0,.int .i64 0,.int .i64 (s1.e:Int)]) (by repeat (first|assumption|exact Fnd.here|refine Fnd.there ?_)) rfl) rfl .nil) ?_
     exact ⟨L,fun w h=>iH h,.inl ⟨h1,rfl,rfl⟩⟩)
 ·have h1:s1.e≠0:=by omega
  obtain rfl:s1=R:=hf2 (.inl h1)
  first
   |(refine zX (vs:=[.agg #[.slice none 0 0,.int .i64 0,.int .i64 (s1.e:Int)]]) rfl (.agg ⟨by kernel_rfl,by kernel_rfl⟩ rfl (zK.cl' (vs:=[.slice none 0 0,.int .i64 0,.int .i64 (s1.e:Int)]) (by repeat (first|assumption|exact Fnd.here|refine Fnd.there ?_)) rfl) rfl .nil) ?_
     exact ⟨L,fun w h=>iH h,.inl ⟨h1,rfl,rfl⟩⟩)
   |(refine yF (vs:=[.agg #[.slice none 0 0,.int .i64 0,.int .i64 (s1.e:Int)]]) rfl (.agg ⟨by kernel_rfl,by kernel_rfl⟩ rfl (zK.cl' (vs:=[.slice none 0 0,.int .i64 0,.int .i64 (s1.e:Int)]) (by repeat (first|assumption|exact Fnd.here|refine Fnd.there ?_)) rfl) rfl .nil) ?_
     exact ⟨L,fun w h=>iH h,.inl ⟨h1,rfl,rfl⟩⟩)
 ·have h1:s1.e=0:=by omega
  obtain rfl:s1=R:=hf2 (.inr (by omega))
  have hus:=zmH q s1.t (.slice a d.length c) 151 ([(p,cl [.pointer (some ⟨q,0,none⟩),v1,.int .i64 (most:Int),.int .i64 (s1.e:Int)] 153)]::biC q a d.length c s1.t::C1::[(g,cl [.slice none 0 0,.int .i64 0,.int .i64 0] 76)]::L) (by exact Fnd.there Fnd.here) (by omega)
  generalize hn:(s1.t+7) / 8=n at hus ⊢
  obtain ⟨va,vc,rfl⟩:=zM ho1
  refine yO [[(p,cl [.pointer (some ⟨q,0,none⟩),.slice va s1.out.length vc,.int .i64 (most:Int),.int .i64 (s1.e:Int)] 153)]] [10] mixed ?_
  (refine za 0 ?_;refine za 1 ?_;refine za 2 ?_;refine za 3 ?_;refine za 4 ?_;refine za 5 ?_;refine za 6 ?_;refine za 7 ?_)
  refine cI 8 rfl rfl ?_
  refine cP rfl rfl hus ?_
  refine ⟨iC,?_⟩
  (refine za 9 ?_)
  refine cL 10 rfl rfl rfl ?_
  refine zo (l:=[.slice none 0 0,.int .i64 0,.int .i64 0]) (vs:=[.slice va s1.out.length vc,.int .i64 (n:Int),.int .i64 0]) [.slice va s1.out.length vc,.int .i64 (n:Int),.int .i64 0] rfl rfl (by rfl) (by rfl) (by rfl) iU (by simp) ?_
  refine cD ?_
  refine kW ?_
  first
   |(refine zX (vs:=[.agg #[.slice va s1.out.length vc,.int .i64 (n:Int),.int .i64 0]]) rfl (.agg ⟨by kernel_rfl,by kernel_rfl⟩ rfl (zK.cl' (vs:=[.slice va s1.out.length vc,.int .i64 (n:Int),.int .i64 0]) (by repeat (first|assumption|exact Fnd.here|refine Fnd.there ?_)) rfl) rfl .nil) ?_
     exact ⟨C1::L,fun w h=>iH h,.inr ⟨h1,_,C1,rfl,ho1,hb1,rfl⟩⟩)
   |(refine yF (vs:=[.agg #[.slice va s1.out.length vc,.int .i64 (n:Int),.int .i64 0]]) rfl (.agg ⟨by kernel_rfl,by kernel_rfl⟩ rfl (zK.cl' (vs:=[.slice va s1.out.length vc,.int .i64 (n:Int),.int .i64 0]) (by repeat (first|assumption|exact Fnd.here|refine Fnd.there ?_)) rfl) rfl .nil) ?_
     exact ⟨C1::L,fun w h=>iH h,.inr ⟨h1,_,C1,rfl,ho1,hb1,rfl⟩⟩)
end Go.Proofs.YtemdlifojcgplaaGreatDoor
namespace Go.If
open Go.Vx Go.Hf
set_option linter.all false
def hdK (x y:Nat):Bool:=x % 16 == 8&&decide (x / 16≤7)&&(x * 256+y) % 31 == 0&&(y&&&32) == 0
def wdN (b0 b1 b2 b3:Nat):Nat:=((b0 * 256+b1) * 256+b2) * 256+b3
end Go.If
namespace Go.Proofs.YtemdlifojcgplaaGreatDoor
open Go Go.Vx Go.Hf Go.If
variable [W0]
set_option maxRecDepth 4000
set_option linter.all false
theorem zdU {a b:Nat} (ha:a < 256) (hb:b < 256):zcN .and .u8 (a:Int) (b:Int)=some ((a&&&b:Nat):Int):=by
 have h1:a&&&b≤a:=Nat.and_le_left
 have e:((BitVec.ofInt 8 (a:Int)&&&BitVec.ofInt 8 (b:Int)).toNat)=a&&&b:=by
  rw [BitVec.toNat_and,BitVec.ofInt_natCast,BitVec.ofInt_natCast,BitVec.toNat_ofNat,BitVec.toNat_ofNat,Nat.mod_eq_of_lt (by omega),Nat.mod_eq_of_lt (by omega)]
 show some (IntKind.u8.wrap (((BitVec.ofInt 8 (a:Int)&&&BitVec.ofInt 8 (b:Int)).toNat:Nat):Int))=_
 rw [e]
 congr 1
 exact yX rfl (by simp [IntKind.bits];omega)
theorem zi3 {a b:Nat} (ha:a < 256) (hb:b < 256):zcN .or .i64 ((a * 256:Nat):Int) (b:Int)=some ((a * 256+b:Nat):Int):=by
 have e0:a * 256|||b=a * 256+b:=by
  have:=Nat.two_pow_add_eq_or_of_lt (i:=8) (b:=b) (by omega) a
  rw [Nat.mul_comm a 256]
  exact this.symm
 have e:((BitVec.ofInt 64 ((a * 256:Nat):Int)|||BitVec.ofInt 64 (b:Int)).toNat)=a * 256+b:=by
  rw [BitVec.toNat_or,BitVec.ofInt_natCast,BitVec.ofInt_natCast,BitVec.toNat_ofNat,BitVec.toNat_ofNat,Nat.mod_eq_of_lt (by omega),Nat.mod_eq_of_lt (by omega),e0]
 show some (IntKind.i64.wrap (((BitVec.ofInt 64 ((a * 256:Nat):Int)|||BitVec.ofInt 64 (b:Int)).toNat:Nat):Int))=_
 rw [e]
 congr 1
 exact QF (by omega)
theorem zkh (x y:UInt8) (L:List Chunk):GvP Tryz.prog 57 [.int .u8 (x.toNat:Int),.int .u8 (y.toNat:Int)].toArray L (.bool (hdK x.toNat y.toNat)):=by
 refine Gv.of_body Tryz.func57 rfl rfl ?_
 have hx:=x.toNat_lt
 have hy:=y.toNat_lt
 generalize x.toNat=a at hx ⊢
 generalize y.toNat=b at hy ⊢
 unfold hdK
 refine kW ?_
 refine ze (uM (k:=.u8) a 4 rfl rfl rfl rfl rfl (by simp only [IntKind.bits];omega) (by decide)) rfl ?_
 have hno:∀(c1:Bool),c1=false→Value.bool false=.bool c1:=fun c1 h=>by rw [h]
 have hno2:¬(a % 16=8∧a / 16≤7∧(a * 256+b) % 31=0)→(a % 16 == 8&&decide (a / 16≤7)&&(a * 256+b) % 31 == 0&&(b&&&32) == 0)=false:=by
  intro h
  cases hh:(a % 16 == 8&&decide (a / 16≤7)&&(a * 256+b) % 31 == 0&&(b&&&32) == 0)
  ·rfl
  ·exfalso
   simp only [Bool.and_eq_true,beq_iff_eq,decide_eq_true_eq] at hh
   exact h ⟨hh.1.1.1,hh.1.1.2,hh.1.2⟩
 (repeat' first|refine kW ?_|refine kU fun bk=>?_|refine kV fun hc=>?_|refine kZ (fun hc=>?_) fun hc=>?_|fail)
 ·refine ze (uq a 8 rfl rfl rfl rfl (by decide) (by omega)) rfl ?_
  rw [show a * 2 ^ 8=a * 256 from rfl]
  refine kW ?_
  refine ze (wZ rfl rfl (zi3 (a:=a) (b:=b) hx hy)) rfl ?_
  refine kW ?_
  refine ze (XC (a * 256+b) 31 rfl rfl rfl rfl (by decide)) rfl ?_
  (repeat' first|refine kW ?_|refine kU fun bk=>?_|refine kV fun hc=>?_|refine kZ (fun hc=>?_) fun hc=>?_|fail)
  ·refine ze (wZ rfl rfl (zdU (a:=b) (b:=32) hy (by decide))) rfl ?_
   generalize hz:b&&&32=z
   refine kW ?_
   refine kR ?_
   refine ⟨_,iC,?_,rfl⟩
   refine congrArg Value.bool ?_
   rw [show (a % 16 == 8)=true from by simp;omega,show decide (a / 16≤7)=true from by simp;omega,show ((a * 256+b) % 31 == 0)=true from by simp;omega]
   simp only [Bool.true_and]
   by_cases h0:z=0
   ·subst h0;rfl
   ·rw [show (z == 0)=false from by simpa using h0];simp;omega
  ·refine kR ?_
   exact ⟨_,iC,hno _ (hno2 (by omega)),rfl⟩
 ·refine kR ?_
  exact ⟨_,iC,hno _ (hno2 (by omega)),rfl⟩
 ·refine kR ?_
  exact ⟨_,iC,hno _ (hno2 (by omega)),rfl⟩
theorem zbo {L:List Chunk} {v:Value} {m:Nat} {t:List UInt8} (h:Sl L 1 v m (bsv t)) (hm:0 < m) :
 ∃bb off cap c T fr,v=.slice (some ⟨bb,off,none⟩) m cap∧Fnd L bb (.cells c T fr)∧∀k,k < m→c[off+k * 1]? =some (.int .u8 ((t.getD k 0).toNat:Int)):=by
 rcases h with ⟨c,rfl,rfl,h0⟩|⟨a,cap,rfl,hr,hl⟩
 ·omega
 ·rw [zH,Nat.mul_one] at hl
  rcases hr with h0|⟨b,off,c,T,fr,rfl,h1,h2⟩
  ·have h9:(bsv t).length=0:=by rw [h0];rfl
   rw [zH] at h9
   omega
  ·exact ⟨b,off,cap,c,T,fr,rfl,h1,fun k hk=>by rw [Nat.mul_one];exact h2 _ _ (wW (by simp [List.getD,show k < t.length by omega]))⟩
theorem zqm (v:Value) (m:Nat) (t:List UInt8) (L:List Chunk) (h:Sl L 1 v m (bsv t)) (hm:4≤m) :
 GvP Tryz.prog 59 [v].toArray L (.int .u32 ((wdN (t.getD 0 0).toNat (t.getD 1 0).toNat (t.getD 2 0).toNat (t.getD 3 0).toNat:Nat):Int)):=by
 refine Gv.of_body Tryz.func59 rfl rfl ?_
 obtain ⟨bb,off,cap,cc,T,fr,rfl,hfn,hcs⟩:=zbo h (by omega)
 have hc0:=hcs 0 (by omega)
 have hc1:=hcs 1 (by omega)
 have hc2:=hcs 2 (by omega)
 have hc3:=hcs 3 (by omega)
 have h0:=(t.getD 0 0).toNat_lt
 have h1:=(t.getD 1 0).toNat_lt
 have h2:=(t.getD 2 0).toNat_lt
 have h3:=(t.getD 3 0).toNat_lt
 clear h hcs
 generalize (t.getD 0 0).toNat=b0 at *
 generalize (t.getD 1 0).toNat=b1 at *
 generalize (t.getD 2 0).toNat=b2 at *
 generalize (t.getD 3 0).toNat=b3 at *
 refine kW ?_
 refine zk [] mixed ?_
 (refine za 0 ?_)
 refine cT 1 rfl rfl (zi (j:=0) rfl rfl rfl (by omega)) ?_
 refine cT 2 rfl rfl (zq rfl hfn hc0) ?_
 refine cT 3 rfl rfl (vG b0 rfl rfl rfl (by simp only [IntKind.bits];omega)) ?_
 refine cT 4 rfl rfl (vH b0 24 rfl rfl rfl rfl rfl (by simp only [IntKind.bits];omega)) ?_
 (refine za 5 ?_)
 refine cT 6 rfl rfl (zi (j:=1) rfl rfl rfl (by omega)) ?_
 refine cT 7 rfl rfl (zq rfl hfn hc1) ?_
 refine cT 8 rfl rfl (vG b1 rfl rfl rfl (by simp only [IntKind.bits];omega)) ?_
 refine cT 9 rfl rfl (vH b1 16 rfl rfl rfl rfl rfl (by simp only [IntKind.bits];omega)) ?_
 refine cT 10 rfl rfl (YT (k:=.u32) (b1 * 2 ^ 16) b0 24 rfl rfl rfl rfl rfl (by omega) (by simp only [IntKind.bits];omega)) ?_
 rw [show b1 * 2 ^ 16+b0 * 2 ^ 24=(b1+b0 * 256) * 2 ^ 16 from by omega]
 (refine za 11 ?_)
 refine cT 12 rfl rfl (zi (j:=2) rfl rfl rfl (by omega)) ?_
 refine cT 13 rfl rfl (zq rfl hfn hc2) ?_
 refine cT 14 rfl rfl (vG b2 rfl rfl rfl (by simp only [IntKind.bits];omega)) ?_
 refine cT 15 rfl rfl (vH b2 8 rfl rfl rfl rfl rfl (by simp only [IntKind.bits];omega)) ?_
 refine cT 16 rfl rfl (YT (k:=.u32) (b2 * 2 ^ 8) (b1+b0 * 256) 16 rfl rfl rfl rfl rfl (by omega) (by simp only [IntKind.bits];omega)) ?_
 rw [show b2 * 2 ^ 8+(b1+b0 * 256) * 2 ^ 16=(b2+(b1+b0 * 256) * 256) * 2 ^ 8 from by omega]
 (refine za 17 ?_)
 refine cT 18 rfl rfl (zi (j:=3) rfl rfl rfl (by omega)) ?_
 refine cT 19 rfl rfl (zq rfl hfn hc3) ?_
 refine cT 20 rfl rfl (vG b3 rfl rfl rfl (by simp only [IntKind.bits];omega)) ?_
 refine cT 21 rfl rfl (YT (k:=.u32) b3 (b2+(b1+b0 * 256) * 256) 8 rfl rfl rfl rfl rfl (by omega) (by simp only [IntKind.bits];omega)) ?_
 rw [show b3+(b2+(b1+b0 * 256) * 256) * 2 ^ 8=wdN b0 b1 b2 b3 from by unfold wdN;omega]
 (refine za 22 ?_)
 refine cD ?_
 refine kW ?_
 exact kE
end Go.Proofs.YtemdlifojcgplaaGreatDoor
namespace Go.If
open Go.Vx Go.Hf
set_option linter.all false
def byt (d:List UInt8) (k:Nat):Nat:=(d.getD k 0).toNat
def usd [W0] (d:List UInt8) (m:Nat):Nat:=((yZ (d.drop 2) m).t+7) / 8
end Go.If
namespace Go.Proofs.YtemdlifojcgplaaGreatDoor
open Go Go.Vx Go.Hf Go.If
variable [W0]
set_option maxRecDepth 4000
set_option linter.all false
def adS (d:List UInt8) (m:Nat):Nat:=(Ql (uO (1#32,0#32) (yZ (d.drop 2) m).out)).toNat
def zlE (d:List UInt8) (m:Nat):Nat:=
 if d.length < 2 then 4
 else if hdK (byt d 0) (byt d 1)=false then 3
 else if (yZ (d.drop 2) m).e≠0 then (yZ (d.drop 2) m).e
 else if d.length < 2+usd d m+4 then 4
 else if wdN (byt d (2+usd d m)) (byt d (2+usd d m+1)) (byt d (2+usd d m+2)) (byt d (2+usd d m+3))≠adS d m then 6
 else 0
theorem znQ (a:Option Addr) (c:Nat) (d:List UInt8) (most:Int) (m:Nat) (L:List Chunk) (hv:Sl L 1 (.slice a d.length c) d.length (bsv d)) (hl:d.length≤140737488355328) (hcap:d.length≤c) (hm1:max most 0=(m:Int)) (hm:m≤1000000) (hor:qQ L) :
 Gv Tryz.prog 31 [.slice a d.length c,.int .i64 most].toArray L (fun r L'=>
  (zlE d m≠0∧r=.tuple #[.slice none 0 0,.int .i64 0,.int .i64 (zlE d m:Int)]∧L'=L)∨
  (zlE d m=0∧∃v C,r=.tuple #[v,.int .i64 ((2+usd d m+4:Nat):Int),.int .i64 0]∧Ow 5 1 v (yZ (d.drop 2) m).out.length (bsv (yZ (d.drop 2) m).out) C∧(yZ (d.drop 2) m).out.length≤m∧L'=C::L)):=by
 refine Gv.of_body Tryz.func31 rfl rfl ?_
 by_cases h2:d.length < 2
 ·have hz:zlE d m=4:=by unfold zlE;rw [if_pos h2]
  rw [hz]
  (refine kW ?_;refine kV fun hc=>?_;refine kW ?_)
  refine zT (rs:=[.tmp 4,.tmp 5,.tmp 6]) (vs:=[.slice none 0 0,.int .i64 0,.int .i64 4]) rfl rfl ?_
  exact ⟨_,iC,.inl ⟨by decide,rfl,rfl⟩⟩
 have hz:zlE d m=if hdK (byt d 0) (byt d 1)=false then 3 else if (yZ (d.drop 2) m).e≠0 then (yZ (d.drop 2) m).e else if d.length < 2+usd d m+4 then 4 else if wdN (byt d (2+usd d m)) (byt d (2+usd d m+1)) (byt d (2+usd d m+2)) (byt d (2+usd d m+3))≠adS d m then 6 else 0:=by
  unfold zlE;rw [if_neg h2]
 rw [hz]
 clear hz
 obtain ⟨bb,off,cap,cc,T,fr,hve,hfn,hcs⟩:=zbo hv (by omega)
 injection hve with q1 q2 q3
 subst q1 q3
 clear q2
 have hhd:=zkh (d.getD 0 0) (d.getD 1 0) L
 change GvP _ _ _ L (.bool (hdK (byt d 0) (byt d 1))) at hhd
 generalize hK:hdK (byt d 0) (byt d 1)=K at hhd ⊢
 (refine kW ?_;refine kV fun hc=>?_;refine kW ?_)
 refine zk [] mixed ?_
 (refine za 0 ?_)
 refine cT 1 rfl rfl (zi (j:=0) rfl rfl rfl (by omega)) ?_
 refine cT 2 rfl rfl (zq rfl hfn (hcs 0 (by omega))) ?_
 (refine za 3 ?_)
 refine cT 4 rfl rfl (zi (j:=1) rfl rfl rfl (by omega)) ?_
 refine cT 5 rfl rfl (zq rfl hfn (hcs 1 (by omega))) ?_
 refine cI 6 rfl rfl ?_
 refine cP rfl rfl hhd ?_
 refine ⟨iC,?_⟩
 (refine za 7 ?_)
 refine cD ?_
 cases K with
 |false=>
  rw [if_pos rfl]
  refine kW ?_
  refine zT (rs:=[.tmp 4,.tmp 5,.tmp 6]) (vs:=[.slice none 0 0,.int .i64 0,.int .i64 3]) rfl rfl ?_
  exact ⟨_,iC,.inl ⟨by decide,rfl,rfl⟩⟩
 |true=>
  rw [if_neg (by decide)]
  have hsub:∀k,k≤d.length→Sl L 1 (.slice (some ⟨bb,if c=k then off else off+k * 1,none⟩) (d.length - k) (c - k)) (d.length - k) (bsv (d.drop k)):=by
   intro k hk
   refine .inr ⟨_,_,rfl,?_,by rw [zH,List.length_drop,Nat.mul_one]⟩
   by_cases h0:d.length=k
   ·refine .inl ?_
    rw [List.drop_of_length_le (by omega)];rfl
   ·rw [if_neg (by omega)]
    refine .inr ⟨bb,_,cc,T,fr,rfl,hfn,fun j u hj=>?_⟩
    have hjl:j < (d.drop k).length:=by
     have:=(List.getElem?_eq_some_iff.1 hj).1
     rwa [zH] at this
    have hj2:u=.int .u8 ((d.getD (k+j) 0).toNat:Int):=by
     have h3:=wW (l:=d.drop k) (i:=j) (b:=d.getD (k+j) 0) (by rw [List.length_drop] at hjl;simp [List.getD,show k+j < d.length by omega])
     rw [h3] at hj
     injection hj with hj
     exact hj.symm
    rw [hj2,show off+k * 1+j=off+(k+j) * 1 from by omega]
    rw [List.length_drop] at hjl
    exact hcs (k+j) (by omega)
  have hra:=zpU (some ⟨bb,if c=2 then off else off+2 * 1,none⟩) (c - 2) (d.drop 2) most m L (by rw [List.length_drop];exact hsub 2 (by omega)) (by rw [List.length_drop];omega) hm1 hm hor
  rw [List.length_drop] at hra
  have hus:usd d m=((yZ (d.drop 2) m).t+7) / 8:=rfl
  have had:adS d m=(Ql (uO (1#32,0#32) (yZ (d.drop 2) m).out)).toNat:=rfl
  generalize yZ (d.drop 2) m=R at hra hus had ⊢
  rw [←hus] at hra
  generalize usd d m=n at hra hus ⊢
  generalize adS d m=ad at had ⊢
  refine kW ?_
  refine ze (yS (l:=2) (h:=d.length) rfl rfl rfl (by omega) hcap) rfl ?_
  refine kW ?_
  refine cC rfl rfl hra (fun r L' hp=>?_)
  rcases hp with ⟨h3,rfl,rfl⟩|⟨h3,v1,C1,rfl,ho1,hl1,ht1,rfl⟩
  ·rw [if_pos h3]
   (refine kW ?_;refine kV fun hc=>?_;refine kW ?_)
   refine zT (rs:=[.tmp 4,.tmp 5,.tmp 6]) (vs:=[.slice none 0 0,.int .i64 0,.int .i64 (R.e:Int)]) rfl rfl ?_
   exact ⟨_,iC,.inl ⟨h3,rfl,rfl⟩⟩
  rw [if_neg (show ¬R.e≠0 by omega)]
  have hn2:2+n≤d.length:=by omega
  refine kW ?_
  rw [show (2:Int)+(n:Int)=((2+n:Nat):Int) from by omega]
  refine ze (yS (l:=2+n) (h:=d.length) rfl rfl rfl hn2 hcap) rfl ?_
  (repeat' first|refine kW ?_|refine kU fun bk=>?_|refine kV fun hc=>?_|refine kZ (fun hc=>?_) fun hc=>?_|fail)
  ·rw [if_pos (show d.length < 2+n+4 by omega)]
   refine zT (rs:=[.tmp 4,.tmp 5,.tmp 6]) (vs:=[.slice none 0 0,.int .i64 0,.int .i64 4]) rfl rfl ?_
   exact ⟨_,iC,.inl ⟨by decide,rfl,rfl⟩⟩
  rw [if_neg (show ¬d.length < 2+n+4 by omega)]
  have hw:=zqm _ _ (d.drop (2+n)) (C1::L) (zm (hsub (2+n) hn2)) (by omega)
  have hgd:∀j,((d.drop (2+n)).getD j 0).toNat=byt d (2+n+j):=fun j=>by simp [byt,List.getD]
  rw [hgd,hgd,hgd,hgd,Nat.add_zero] at hw
  refine cP rfl rfl hw ?_
  generalize wdN (byt d (2+n)) (byt d (2+n+1)) (byt d (2+n+2)) (byt d (2+n+3))=wd
  refine kW ?_
  have hadl:GvP Tryz.prog 47 [v1].toArray (C1::L) (.int .u32 (ad:Int)):=by rw [had];exact zgs R.out v1 (C1::L) (by omega) (SlC.ow ho1)
  refine cP rfl rfl hadl ?_
  (repeat' first|refine kW ?_|refine kU fun bk=>?_|refine kV fun hc=>?_|refine kZ (fun hc=>?_) fun hc=>?_|fail)
  ·rw [if_pos (show wd≠ad by omega)]
   refine zT (rs:=[.tmp 4,.tmp 5,.tmp 6]) (vs:=[.slice none 0 0,.int .i64 0,.int .i64 6]) rfl rfl ?_
   exact ⟨_,iC,.inl ⟨by decide,rfl,rfl⟩⟩
  ·rw [if_neg (show ¬wd≠ad by omega)]
   refine kR ?_
   exact ⟨_,iC,.inr ⟨rfl,v1,C1,by rw [show ((2+n+4:Nat):Int)=2+(n:Int)+4 from by omega];rfl,ho1,hl1,rfl⟩⟩
end Go.Proofs.YtemdlifojcgplaaGreatDoor
namespace Go.If
open Go.Vx Go.Hf
set_option linter.all false
theorem zpX {most:Nat} {s:S6} {c:UInt8} (h:s.out.length≤most):(pt most s c).out.length≤most:=by
 unfold pt
 split
 ·rw [ql];exact h
 ·simp;omega
theorem zou {most far:Nat}:∀{n:Nat} {s:S6},s.out.length≤most→(cpL most far n s).out.length≤most
 |0,s,h=>h
 |n+1,s,h=>by
  rw [cpL]
  split
  ·exact zou (zpX h)
  ·exact h
theorem zqT [W0] {d:List UInt8} {most k:Nat} {dl:List Nat} {s:S6} (h:s.out.length≤most):(mtS d most k dl s).out.length≤most:=by
 unfold mtS mtD
 repeat' split
 all_goals first
  |(refine zou ?_;simp only [ql,yw,zlT];exact h)
  |(simp only [ql,yw,zlT];exact h)
theorem zgy [W0] {d:List UInt8} {most:Nat} {l dl:List Nat}:∀{f:Nat} {s:S6},s.out.length≤most→(cdC d most l dl f s).out.length≤most
 |0,s,h=>h
 |f+1,s,h=>by
  have hs:(sy d s l).out.length≤most:=by rw [zlT];exact h
  rw [cdC]
  split
  ·exact h
  ·split
   ·exact hs
   ·split
    ·exact zgy (zpX hs)
    ·split
     ·exact hs
     ·exact zgy (zqT hs)
theorem zoN [W0] {d:List UInt8} {most:Nat}:∀{k:Nat} {s:S6},s.out.length≤most→(stL d most k s).out.length≤most
 |0,s,h=>h
 |k+1,s,h=>by
  have hs:(tk d s 8).out.length≤most:=by rw [yw];exact h
  rw [stL]
  split
  ·refine zoN ?_
   split
   ·exact zpX hs
   ·exact hs
  ·exact h
theorem zqt [W0] {d:List UInt8} {most k:Nat} {s:S6} (h:s.out.length≤most):(bkS d most k s).out.length≤most:=by
 unfold bkS stS dbS
 split
 ·refine zoN ?_
  split<;>simp only [ql,yw]<;>exact h
 ·split
  ·exact zgy h
  ·split
   ·rw [zc0];exact h
   ·exact zgy (by rw [zc0];exact h)
theorem zoK [W0] {d:List UInt8} {most:Nat}:∀{f:Nat} {s:S6},s.out.length≤most→(rwS d most f s).out.length≤most
 |0,s,h=>h
 |f+1,s,h=>by
  have hs:(tk d s 3).out.length≤most:=by rw [yw];exact h
  have hb:=zqt (d:=d) (k:=tv d s 3 / 2) hs
  rw [rwS]
  split
  ·exact hs
  ·split
   ·rw [ql];exact hs
   ·split
    ·exact hb
    ·split
     ·exact hb
     ·exact zoK hb
theorem zdq [W0] (d:List UInt8) (most:Nat):(yZ d most).out.length≤most:=zoK (Nat.zero_le _)
end Go.If
namespace Go.Proofs.YtemdlifojcgplaaGreatDoor
open Go Go.Vx Go.Hf Go.If
variable [W0]
set_option maxRecDepth 4000
set_option linter.all false
omit [W0] in
def gtN (t:List UInt8):Nat:=t.foldl (fun n x=>n * 256+x.toNat) 0
theorem zj5 (t:List UInt8) (x:UInt8):gtN (t++[x])=gtN t * 256+x.toNat:=by simp [gtN]
theorem zj4 (t:List UInt8) (h:t.length=4):gtN t=wdN (t.getD 0 0).toNat (t.getD 1 0).toNat (t.getD 2 0).toNat (t.getD 3 0).toNat:=by
 match t,h with
 |[a,b,c,d],_=>simp [gtN,wdN]
theorem zk7 (a:Option Addr) (c:Nat) (t:List UInt8) (L:List Chunk) (hv:Sl L 1 (.slice a t.length c) t.length (bsv t)) (hl:t.length≤7) :
 GvP Tryz.prog 65 [.slice a t.length c].toArray L (.int .u64 ((gtN t:Nat):Int)):=by
 refine Gv.of_body Tryz.func65 rfl rfl ?_
 (refine kW ?_)
 refine zn (X:=Nat) (fun k=>[(0,.slice a t.length c),(3,.int .u64 ((gtN (t.take k):Nat):Int)),(4,.int .i64 (k:Int))]) (fun _=>L)
  (fun k=>k≤t.length∧gtN (t.take k) < 256 ^ k) (fun k=>t.length - k) 0 ⟨Nat.zero_le _,by simp [gtN]⟩ iS (fun w h=>h) ?_
 rintro k ⟨hk,hb⟩
 ((repeat' first|refine kW ?_|refine kU fun bk=>?_|refine kV fun hc=>?_|refine kZ (fun hc=>?_) fun hc=>?_|fail)<;>try exact absurd trivial hc)
 ·have hlt:k < t.length:=by omega
  obtain ⟨bb,off,cap,cc,bT,bfr,hve,hfn,hcell⟩:=Qe hv hlt
  injection hve with e1 e2 e3
  subst e1 e3
  clear e2
  have h8:=(t.getD k 0).toNat_lt
  have hs:gtN (t.take (k+1))=gtN (t.take k) * 256+(t.getD k 0).toNat:=by rw [take_succ 0 hlt,zj5]
  have hp:256 ^ (k+1)=256 ^ k * 256:=Nat.pow_succ ..
  have hp7:256 ^ (k+1)≤256 ^ 7:=Nat.pow_le_pow_right (by decide) (by omega)
  generalize gtN (t.take k)=g at hb hs ⊢
  generalize (t.getD k 0).toNat=x at hcell h8 hs
  refine ze (qj (r:=256 * (g:Int)) rfl rfl rfl) rfl ?_
  rw [show 256 * (g:Int)=((256 * g:Nat):Int) from by omega,yX (k:=.u64) rfl (by simp only [IntKind.bits];omega)]
  (refine kW ?_)
  refine ze (zi (j:=k) rfl rfl rfl hlt) rfl ?_
  (refine kW ?_)
  refine ze (zq rfl hfn hcell) rfl ?_
  (refine kW ?_)
  refine ze (qj (r:=((256 * g:Nat):Int)+(x:Int)) rfl rfl rfl) rfl ?_
  rw [show ((256 * g:Nat):Int)+(x:Int)=((256 * g+x:Nat):Int) from by omega,yX (k:=.u64) rfl (by simp only [IntKind.bits];omega)]
  (refine kW ?_)
  rw [show 256 * g+x=gtN (t.take (k+1)) by omega]
  refine zf (X:=Nat) (μ:=fun k=>t.length - k) (x:=k) (k+1) (by omega) ⟨by omega,by omega⟩ iS (fun w h=>h)
 ·have hk:k=t.length:=by omega
  subst hk
  rw [List.take_length]
  refine kR ?_
  exact ⟨L,iC,rfl,rfl⟩
theorem zol (a:Option Addr) (c:Nat) (d:List UInt8) (mo:Int) (m:Nat) (L:List Chunk) (hv:Sl L 1 (.slice a d.length c) d.length (bsv d)) (hl:d.length≤1000000) (hcap:d.length≤c) (hm1:max mo 0=(m:Int)) (hm:m≤1000000) :
 Gv Tryz.prog 34 [.slice a d.length c,.int .i64 mo].toArray L (fun r L'=>
  (zlE d m≠0∧r=.agg #[.slice none 0 0,.int .i64 0,.int .i64 (zlE d m:Int)]∧L'=L)∨
  (zlE d m=0∧∃v C,r=.agg #[v,.int .i64 ((2+usd d m+4:Nat):Int),.int .i64 0]∧Ow 5 1 v (yZ (d.drop 2) m).out.length (bsv (yZ (d.drop 2) m).out) C∧L'=C::L)):=by
 refine Gv.of_body Tryz.func34 rfl rfl ?_
 ((repeat' first|refine kW ?_|refine kU fun bk=>?_|refine kV fun hc=>?_|refine kZ (fun hc=>?_) fun hc=>?_|fail)<;>try exact absurd trivial hc)
 ·have hz:zlE d m=4:=by unfold zlE;rw [if_pos (show d.length < 2 by omega)]
  rw [hz]
  first
   |(refine zX (vs:=[.agg #[.slice none 0 0,.int .i64 0,.int .i64 4]]) rfl (.agg ⟨by kernel_rfl,by kernel_rfl⟩ rfl (zK.cl' (vs:=[.slice none 0 0,.int .i64 0,.int .i64 4]) (by repeat (first|assumption|exact Fnd.here|refine Fnd.there ?_)) rfl) rfl .nil) ?_
     exact ⟨L,fun w h=>iH h,.inl ⟨by first|decide|assumption,rfl,rfl⟩⟩)
   |(refine yF (vs:=[.agg #[.slice none 0 0,.int .i64 0,.int .i64 4]]) rfl (.agg ⟨by kernel_rfl,by kernel_rfl⟩ rfl (zK.cl' (vs:=[.slice none 0 0,.int .i64 0,.int .i64 4]) (by repeat (first|assumption|exact Fnd.here|refine Fnd.there ?_)) rfl) rfl .nil) ?_
     exact ⟨L,fun w h=>iH h,.inl ⟨by first|decide|assumption,rfl,rfl⟩⟩)
 have h2:¬d.length < 2:=by omega
 have hz:zlE d m=if hdK (byt d 0) (byt d 1)=false then 3 else if (yZ (d.drop 2) m).e≠0 then (yZ (d.drop 2) m).e else if d.length < 2+usd d m+4 then 4 else if wdN (byt d (2+usd d m)) (byt d (2+usd d m+1)) (byt d (2+usd d m+2)) (byt d (2+usd d m+3))≠adS d m then 6 else 0:=by
  unfold zlE;rw [if_neg h2]
 rw [hz]
 clear hz
 obtain ⟨bb,off,cap,cc,T,fr,hve,hfn,hcs⟩:=zbo hv (by omega)
 injection hve with q1 q2 q3
 subst q1 q3
 clear q2
 have hx:=(d.getD 0 0).toNat_lt
 have hy:=(d.getD 1 0).toNat_lt
 have hc0:=hcs 0 (by omega)
 have hc1:=hcs 1 (by omega)
 generalize hKd:hdK (byt d 0) (byt d 1)=K
 have hdf:¬(byt d 0 % 16=8∧byt d 0 / 16≤7∧(byt d 0 * 256+byt d 1) % 31=0∧byt d 1&&&32=0)→hdK (byt d 0) (byt d 1)=false:=by
  intro h
  cases hh:hdK (byt d 0) (byt d 1)
  ·rfl
  ·exfalso
   unfold hdK at hh
   simp only [Bool.and_eq_true,beq_iff_eq,decide_eq_true_eq] at hh
   exact h ⟨hh.1.1.1,hh.1.1.2,hh.1.2,hh.2⟩
 have hdt:byt d 0 % 16=8∧byt d 0 / 16≤7∧(byt d 0 * 256+byt d 1) % 31=0∧byt d 1&&&32=0→hdK (byt d 0) (byt d 1)=true:=by
  rintro ⟨h1,h2,h3,h4⟩
  unfold hdK
  rw [h1,h3,h4,decide_eq_true h2]
  rfl
 change byt d 0 < 256 at hx
 change byt d 1 < 256 at hy
 change cc[off+0 * 1]? =some (Value.int .u8 (byt d 0:Int)) at hc0
 change cc[off+1 * 1]? =some (Value.int .u8 (byt d 1:Int)) at hc1
 generalize byt d 0=x at hx hc0 hdf hdt hKd
 generalize byt d 1=y at hy hc1 hdf hdt hKd
 refine zk [] mixed ?_
 (refine za 0 ?_)
 refine cT 1 rfl rfl (zi (j:=0) rfl rfl rfl (by omega)) ?_
 refine cT 2 rfl rfl (zq rfl hfn.there hc0) ?_
 refine cT 3 rfl rfl (uM (k:=.u8) x 4 rfl rfl rfl rfl rfl (by simp only [IntKind.bits];omega) (by decide)) ?_
 (refine za 4 ?_;refine za 5 ?_)
 by_cases c1:x % 16=8
 rotate_left
 ·rw [show (((x % 2 ^ 4:Nat):Int) != 8)=true from by simp;omega]
  (refine zD 6 ?_;refine zD 7 ?_;refine zD 8 ?_;refine zD 9 ?_;refine zD 10 ?_)
  (refine za 11 ?_;refine za 12 ?_)
  (refine zD 13 ?_;refine zD 14 ?_;refine zD 15 ?_;refine zD 16 ?_;refine zD 17 ?_;refine zD 18 ?_;refine zD 19 ?_;refine zD 20 ?_;refine zD 21 ?_;refine zD 22 ?_;refine zD 23 ?_;refine zD 24 ?_)
  (refine za 25 ?_;refine za 26 ?_)
  (refine zD 27 ?_;refine zD 28 ?_;refine zD 29 ?_;refine zD 30 ?_;refine zD 31 ?_)
  (refine za 32 ?_)
  have hK:K=false:=by rw [←hKd];exact hdf (fun h=>c1 h.1)
  rw [if_pos hK]
  refine cD ?_
  (refine kW ?_)
  first
   |(refine zX (vs:=[.agg #[.slice none 0 0,.int .i64 0,.int .i64 3]]) rfl (.agg ⟨by kernel_rfl,by kernel_rfl⟩ rfl (zK.cl' (vs:=[.slice none 0 0,.int .i64 0,.int .i64 3]) (by repeat (first|assumption|exact Fnd.here|refine Fnd.there ?_)) rfl) rfl .nil) ?_
     exact ⟨L,fun w h=>iH h,.inl ⟨by first|decide|assumption,rfl,rfl⟩⟩)
   |(refine yF (vs:=[.agg #[.slice none 0 0,.int .i64 0,.int .i64 3]]) rfl (.agg ⟨by kernel_rfl,by kernel_rfl⟩ rfl (zK.cl' (vs:=[.slice none 0 0,.int .i64 0,.int .i64 3]) (by repeat (first|assumption|exact Fnd.here|refine Fnd.there ?_)) rfl) rfl .nil) ?_
     exact ⟨L,fun w h=>iH h,.inl ⟨by first|decide|assumption,rfl,rfl⟩⟩)
 rw [show (((x % 2 ^ 4:Nat):Int) != 8)=false from by simp;omega]
 (refine zN 6 ?_)
 refine cO 7 rfl rfl rfl (zi (j:=0) rfl rfl rfl (by omega)) ?_
 refine cO 8 rfl rfl rfl (zq rfl hfn.there hc0) ?_
 refine cO 9 rfl rfl rfl (Zq (k:=.u8) x 4 rfl rfl rfl rfl (by simp only [IntKind.bits];omega)) ?_
 (refine zN 10 ?_)
 (refine za 11 ?_;refine za 12 ?_)
 by_cases c2:x / 16≤7
 rotate_left
 ·rw [show decide (((x / 2 ^ 4:Nat):Int) > 7)=true from by simp;omega]
  (refine zD 13 ?_;refine zD 14 ?_;refine zD 15 ?_;refine zD 16 ?_;refine zD 17 ?_;refine zD 18 ?_;refine zD 19 ?_;refine zD 20 ?_;refine zD 21 ?_;refine zD 22 ?_;refine zD 23 ?_;refine zD 24 ?_)
  (refine za 25 ?_;refine za 26 ?_)
  (refine zD 27 ?_;refine zD 28 ?_;refine zD 29 ?_;refine zD 30 ?_;refine zD 31 ?_)
  (refine za 32 ?_)
  have hK:K=false:=by rw [←hKd];exact hdf (fun h=>c2 h.2.1)
  rw [if_pos hK]
  refine cD ?_
  (refine kW ?_)
  first
   |(refine zX (vs:=[.agg #[.slice none 0 0,.int .i64 0,.int .i64 3]]) rfl (.agg ⟨by kernel_rfl,by kernel_rfl⟩ rfl (zK.cl' (vs:=[.slice none 0 0,.int .i64 0,.int .i64 3]) (by repeat (first|assumption|exact Fnd.here|refine Fnd.there ?_)) rfl) rfl .nil) ?_
     exact ⟨L,fun w h=>iH h,.inl ⟨by first|decide|assumption,rfl,rfl⟩⟩)
   |(refine yF (vs:=[.agg #[.slice none 0 0,.int .i64 0,.int .i64 3]]) rfl (.agg ⟨by kernel_rfl,by kernel_rfl⟩ rfl (zK.cl' (vs:=[.slice none 0 0,.int .i64 0,.int .i64 3]) (by repeat (first|assumption|exact Fnd.here|refine Fnd.there ?_)) rfl) rfl .nil) ?_
     exact ⟨L,fun w h=>iH h,.inl ⟨by first|decide|assumption,rfl,rfl⟩⟩)
 rw [show decide (((x / 2 ^ 4:Nat):Int) > 7)=false from by simp;omega]
 (refine zN 13 ?_)
 refine cO 14 rfl rfl rfl (zi (j:=0) rfl rfl rfl (by omega)) ?_
 refine cO 15 rfl rfl rfl (zq rfl hfn.there hc0) ?_
 (refine zN 16 ?_;refine zN 17 ?_;refine zN 18 ?_)
 refine cO 19 rfl rfl rfl (zi (j:=1) rfl rfl rfl (by omega)) ?_
 refine cO 20 rfl rfl rfl (zq rfl hfn.there hc1) ?_
 (refine zN 21 ?_;refine zN 22 ?_)
 refine cO 23 rfl rfl rfl (XC (x * 256+y) 31 rfl rfl (by omega) rfl (by decide)) ?_
 (refine zN 24 ?_)
 (refine za 25 ?_;refine za 26 ?_)
 by_cases c3:(x * 256+y) % 31=0
 rotate_left
 ·rw [show ((((x * 256+y) % 31:Nat):Int) != 0)=true from by simp;omega]
  (refine zD 27 ?_;refine zD 28 ?_;refine zD 29 ?_;refine zD 30 ?_;refine zD 31 ?_)
  (refine za 32 ?_)
  have hK:K=false:=by rw [←hKd];exact hdf (fun h=>c3 h.2.2.1)
  rw [if_pos hK]
  refine cD ?_
  (refine kW ?_)
  first
   |(refine zX (vs:=[.agg #[.slice none 0 0,.int .i64 0,.int .i64 3]]) rfl (.agg ⟨by kernel_rfl,by kernel_rfl⟩ rfl (zK.cl' (vs:=[.slice none 0 0,.int .i64 0,.int .i64 3]) (by repeat (first|assumption|exact Fnd.here|refine Fnd.there ?_)) rfl) rfl .nil) ?_
     exact ⟨L,fun w h=>iH h,.inl ⟨by first|decide|assumption,rfl,rfl⟩⟩)
   |(refine yF (vs:=[.agg #[.slice none 0 0,.int .i64 0,.int .i64 3]]) rfl (.agg ⟨by kernel_rfl,by kernel_rfl⟩ rfl (zK.cl' (vs:=[.slice none 0 0,.int .i64 0,.int .i64 3]) (by repeat (first|assumption|exact Fnd.here|refine Fnd.there ?_)) rfl) rfl .nil) ?_
     exact ⟨L,fun w h=>iH h,.inl ⟨by first|decide|assumption,rfl,rfl⟩⟩)
 rw [show ((((x * 256+y) % 31:Nat):Int) != 0)=false from by simp;omega]
 (refine zN 27 ?_)
 refine cO 28 rfl rfl rfl (zi (j:=1) rfl rfl rfl (by omega)) ?_
 refine cO 29 rfl rfl rfl (zq rfl hfn.there hc1) ?_
 refine cO 30 rfl rfl rfl (wZ rfl rfl (zdU (a:=y) (b:=32) hy (by decide))) ?_
 (refine zN 31 ?_)
 (refine za 32 ?_)
 by_cases c4:y&&&32=0
 rotate_left
 ·rw [show (((y&&&32:Nat):Int) != 0)=true from by simp;omega]
  have hK:K=false:=by rw [←hKd];exact hdf (fun h=>c4 h.2.2.2)
  rw [if_pos hK]
  refine cD ?_
  (refine kW ?_)
  first
   |(refine zX (vs:=[.agg #[.slice none 0 0,.int .i64 0,.int .i64 3]]) rfl (.agg ⟨by kernel_rfl,by kernel_rfl⟩ rfl (zK.cl' (vs:=[.slice none 0 0,.int .i64 0,.int .i64 3]) (by repeat (first|assumption|exact Fnd.here|refine Fnd.there ?_)) rfl) rfl .nil) ?_
     exact ⟨L,fun w h=>iH h,.inl ⟨by first|decide|assumption,rfl,rfl⟩⟩)
   |(refine yF (vs:=[.agg #[.slice none 0 0,.int .i64 0,.int .i64 3]]) rfl (.agg ⟨by kernel_rfl,by kernel_rfl⟩ rfl (zK.cl' (vs:=[.slice none 0 0,.int .i64 0,.int .i64 3]) (by repeat (first|assumption|exact Fnd.here|refine Fnd.there ?_)) rfl) rfl .nil) ?_
     exact ⟨L,fun w h=>iH h,.inl ⟨by first|decide|assumption,rfl,rfl⟩⟩)
 rw [show (((y&&&32:Nat):Int) != 0)=false from by simp;omega]
 have hK:K=true:=by rw [←hKd];exact hdt ⟨c1,c2,c3,c4⟩
 rw [if_neg (show ¬K=false from by rw [hK];decide)]
 refine cD ?_
 (refine kW ?_)
 clear hKd hdf hdt hx hy hc0 hc1
 have hsub:∀k,k≤d.length→Sl L 1 (.slice (some ⟨bb,if c=k then off else off+k * 1,none⟩) (d.length - k) (c - k)) (d.length - k) (bsv (d.drop k)):=by
  intro k hk
  refine .inr ⟨_,_,rfl,?_,by rw [zH,List.length_drop,Nat.mul_one]⟩
  by_cases h0:d.length=k
  ·refine .inl ?_
   rw [List.drop_of_length_le (by omega)];rfl
  ·rw [if_neg (by omega)]
   refine .inr ⟨bb,_,cc,T,fr,rfl,hfn,fun j u hj=>?_⟩
   have hjl:j < (d.drop k).length:=by
    have:=(List.getElem?_eq_some_iff.1 hj).1
    rwa [zH] at this
   have hj2:u=.int .u8 ((d.getD (k+j) 0).toNat:Int):=by
    have h3:=wW (l:=d.drop k) (i:=j) (b:=d.getD (k+j) 0) (by rw [List.length_drop] at hjl;simp [List.getD,show k+j < d.length by omega])
    rw [h3] at hj
    injection hj with hj
    exact hj.symm
   rw [hj2,show off+k * 1+j=off+(k+j) * 1 from by omega]
   rw [List.length_drop] at hjl
   exact hcs (k+j) (by omega)
 obtain ⟨gr,hgr⟩:∃gr,gr=bk:=⟨_,rfl⟩
 rw [←hgr]
 clear hgr
 refine yD (L':=[(gr,cl [.slice none 0 0,.int .i64 0,.int .i64 0] 76)]::L) (fun w h=>h) ?_
 have hra:=zqo (some ⟨bb,if c=2 then off else off+2 * 1,none⟩) (c - 2) (d.drop 2) mo m ([(gr,cl [.slice none 0 0,.int .i64 0,.int .i64 0] 76)]::L) (by rw [List.length_drop];exact zm (hsub 2 (by omega))) (by rw [List.length_drop];omega) hm1 hm
 rw [List.length_drop] at hra
 have hus:usd d m=((yZ (d.drop 2) m).t+7) / 8:=rfl
 have had:adS d m=(Ql (uO (1#32,0#32) (yZ (d.drop 2) m).out)).toNat:=rfl
 have hrm:=zdq (d.drop 2) m
 generalize yZ (d.drop 2) m=R at hra hus had hrm ⊢
 rw [←hus] at hra
 generalize usd d m=n at hra hus ⊢
 generalize adS d m=ad at had ⊢
 refine ze (yS (l:=2) (h:=d.length) rfl rfl rfl (by omega) hcap) rfl ?_
 (refine kW ?_)
 refine cC rfl rfl hra (fun r L' hp=>?_)
 rcases hp with ⟨h3,rfl,rfl⟩|⟨h3,v1,C1,rfl,ho1,ht1,rfl⟩
 ·rw [if_pos h3]
  ((refine kW ?_;refine kU fun bk=>?_;refine kW ?_;refine kV fun hc=>?_;refine kW ?_))
  first
   |(refine zX (vs:=[.agg #[.slice none 0 0,.int .i64 0,.int .i64 (R.e:Int)]]) rfl (.agg ⟨by kernel_rfl,by kernel_rfl⟩ rfl (zK.cl' (vs:=[.slice none 0 0,.int .i64 0,.int .i64 (R.e:Int)]) (by repeat (first|assumption|exact Fnd.here|refine Fnd.there ?_)) rfl) rfl .nil) ?_
     exact ⟨L,fun w h=>iH h,.inl ⟨by first|decide|assumption,rfl,rfl⟩⟩)
   |(refine yF (vs:=[.agg #[.slice none 0 0,.int .i64 0,.int .i64 (R.e:Int)]]) rfl (.agg ⟨by kernel_rfl,by kernel_rfl⟩ rfl (zK.cl' (vs:=[.slice none 0 0,.int .i64 0,.int .i64 (R.e:Int)]) (by repeat (first|assumption|exact Fnd.here|refine Fnd.there ?_)) rfl) rfl .nil) ?_
     exact ⟨L,fun w h=>iH h,.inl ⟨by first|decide|assumption,rfl,rfl⟩⟩)
 rw [if_neg (show ¬R.e≠0 by omega)]
 have hn2:2+n≤d.length:=by omega
 obtain ⟨v1a,v1c,rfl⟩:=zM ho1
 ((repeat' first|refine kW ?_|refine kU fun bk=>?_|refine kV fun hc=>?_|refine kZ (fun hc=>?_) fun hc=>?_|fail)<;>try exact absurd trivial hc)
 ·rw [if_pos (show d.length < 2+n+4 by omega)]
  first
   |(refine zX (vs:=[.agg #[.slice none 0 0,.int .i64 0,.int .i64 4]]) rfl (.agg ⟨by kernel_rfl,by kernel_rfl⟩ rfl (zK.cl' (vs:=[.slice none 0 0,.int .i64 0,.int .i64 4]) (by repeat (first|assumption|exact Fnd.here|refine Fnd.there ?_)) rfl) rfl .nil) ?_
     exact ⟨L,fun w h=>iH h,.inl ⟨by first|decide|assumption,rfl,rfl⟩⟩)
   |(refine yF (vs:=[.agg #[.slice none 0 0,.int .i64 0,.int .i64 4]]) rfl (.agg ⟨by kernel_rfl,by kernel_rfl⟩ rfl (zK.cl' (vs:=[.slice none 0 0,.int .i64 0,.int .i64 4]) (by repeat (first|assumption|exact Fnd.here|refine Fnd.there ?_)) rfl) rfl .nil) ?_
     exact ⟨L,fun w h=>iH h,.inl ⟨by first|decide|assumption,rfl,rfl⟩⟩)
 rw [if_neg (show ¬d.length < 2+n+4 by omega)]
 have hS4:Sl L 1 (.slice (some ⟨bb,off+(2+n) * 1,none⟩) 4 (c - (2+n))) 4 (bsv ((d.drop (2+n)).take 4)):=by
  refine .inr ⟨_,_,rfl,.inr ⟨bb,_,cc,T,fr,rfl,hfn,fun j u hj=>?_⟩,by rw [zH,List.length_take,List.length_drop];omega⟩
  have hjl:j < ((d.drop (2+n)).take 4).length:=by
   have:=(List.getElem?_eq_some_iff.1 hj).1
   rwa [zH] at this
  rw [List.length_take,List.length_drop] at hjl
  have h3:=wW (l:=(d.drop (2+n)).take 4) (i:=j) (b:=d.getD (2+n+j) 0) (by rw [List.getElem?_take,if_pos (by omega),List.getElem?_drop];simp [List.getD,show 2+n+j < d.length by omega])
  rw [h3] at hj
  injection hj with hj
  rw [←hj,show off+(2+n) * 1+j=off+(2+n+j) * 1 from by omega]
  exact hcs (2+n+j) (by omega)
 have hl4:((d.drop (2+n)).take 4).length=4:=by rw [List.length_take,List.length_drop];omega
 have hwd:gtN ((d.drop (2+n)).take 4)=wdN (byt d (2+n)) (byt d (2+n+1)) (byt d (2+n+2)) (byt d (2+n+3)):=by
  have hg:∀j,j < 4→(((d.drop (2+n)).take 4).getD j 0).toNat=byt d (2+n+j):=fun j hj=>by simp [byt,List.getD,List.getElem?_take,hj]
  rw [zj4 _ hl4,hg 0 (by decide),hg 1 (by decide),hg 2 (by decide),hg 3 (by decide)]
  rfl
 have hgt:=fun L (h:Sl L 1 (.slice (some ⟨bb,off+(2+n) * 1,none⟩) 4 (c - (2+n))) 4 (bsv ((d.drop (2+n)).take 4)))=>zk7 (some ⟨bb,off+(2+n) * 1,none⟩) (c - (2+n)) ((d.drop (2+n)).take 4) L (by rw [hl4];exact h) (by omega)
 rw [hwd,hl4] at hgt
 generalize wdN (byt d (2+n)) (byt d (2+n+1)) (byt d (2+n+2)) (byt d (2+n+3))=wd at hgt ⊢
 have hadl:∀L,GvP Tryz.prog 66 [.string (str R.out)].toArray L (.int .u32 (ad:Int)):=fun L=>by rw [had];exact zfY R.out L (by omega)
 have hadb:ad < 2 ^ 32:=by rw [had];exact BitVec.isLt _
 rw [show (2:Int)+(n:Int)=((2+n:Nat):Int) from by omega]
 obtain ⟨go,hgo⟩:∃go,go=bk:=⟨_,rfl⟩
 rw [←hgo]
 clear hgo
 refine qP (L':=[(go,cl [.slice v1a R.out.length v1c,.int .i64 (n:Int),.int .i64 0] 76)]::C1::[(gr,cl [.slice none 0 0,.int .i64 0,.int .i64 0] 76)]::L) (fun w h=>h) ?_
 refine yO [[(go,cl [.slice v1a R.out.length v1c,.int .i64 (n:Int),.int .i64 0] 76)],C1] [] mixed ?_
 (refine za 0 ?_;refine za 1 ?_;refine za 2 ?_;refine za 3 ?_)
 refine cT 4 rfl rfl (yS (l:=2+n) (h:=2+n+4) rfl rfl rfl (by omega) (by omega)) ?_
 rw [if_neg (show ¬c=2+n by omega),show 2+n+4 - (2+n)=4 from by omega]
 (refine za 6 ?_;refine za 7 ?_)
 refine cT 8 rfl rfl (qD (m:=R.out.length) (b:=R.out) rfl (by exact zm (qz ho1))) ?_
 refine cI 5 rfl rfl ?_
 refine cP rfl rfl (hgt _ (by repeat (first|exact hS4|apply zm))) ?_
 refine ⟨iC,?_⟩
 refine cI 9 rfl rfl ?_
 refine cP rfl rfl (hadl _) ?_
 refine ⟨iC,?_⟩
 refine cT 10 rfl rfl (vG ad rfl rfl rfl (by simp only [IntKind.bits];omega)) ?_
 (refine za 11 ?_)
 refine cD ?_
 ((repeat' first|refine kW ?_|refine kU fun bk=>?_|refine kV fun hc=>?_|refine kZ (fun hc=>?_) fun hc=>?_|fail)<;>try exact absurd trivial hc)
 ·rw [if_pos (show wd≠ad by omega)]
  first
   |(refine zX (vs:=[.agg #[.slice none 0 0,.int .i64 0,.int .i64 6]]) rfl (.agg ⟨by kernel_rfl,by kernel_rfl⟩ rfl (zK.cl' (vs:=[.slice none 0 0,.int .i64 0,.int .i64 6]) (by repeat (first|assumption|exact Fnd.here|refine Fnd.there ?_)) rfl) rfl .nil) ?_
     exact ⟨L,fun w h=>iH h,.inl ⟨by first|decide|assumption,rfl,rfl⟩⟩)
   |(refine yF (vs:=[.agg #[.slice none 0 0,.int .i64 0,.int .i64 6]]) rfl (.agg ⟨by kernel_rfl,by kernel_rfl⟩ rfl (zK.cl' (vs:=[.slice none 0 0,.int .i64 0,.int .i64 6]) (by repeat (first|assumption|exact Fnd.here|refine Fnd.there ?_)) rfl) rfl .nil) ?_
     exact ⟨L,fun w h=>iH h,.inl ⟨by first|decide|assumption,rfl,rfl⟩⟩)
 ·rw [if_neg (show ¬wd≠ad by omega)]
  rw [show (2:Int)+(n:Int)+4=((2+n+4:Nat):Int) from by omega]
  first
   |(refine zX (vs:=[.agg #[.slice v1a R.out.length v1c,.int .i64 ((2+n+4:Nat):Int),.int .i64 0]]) rfl (.agg ⟨by kernel_rfl,by kernel_rfl⟩ rfl (zK.cl' (vs:=[.slice v1a R.out.length v1c,.int .i64 ((2+n+4:Nat):Int),.int .i64 0]) (by repeat (first|assumption|exact Fnd.here|refine Fnd.there ?_)) rfl) rfl .nil) ?_
     exact ⟨C1::L,fun w h=>iH h,.inr ⟨rfl,_,C1,rfl,ho1,rfl⟩⟩)
   |(refine yF (vs:=[.agg #[.slice v1a R.out.length v1c,.int .i64 ((2+n+4:Nat):Int),.int .i64 0]]) rfl (.agg ⟨by kernel_rfl,by kernel_rfl⟩ rfl (zK.cl' (vs:=[.slice v1a R.out.length v1c,.int .i64 ((2+n+4:Nat):Int),.int .i64 0]) (by repeat (first|assumption|exact Fnd.here|refine Fnd.there ?_)) rfl) rfl .nil) ?_
     exact ⟨C1::L,fun w h=>iH h,.inr ⟨rfl,_,C1,rfl,ho1,rfl⟩⟩)
end Go.Proofs.YtemdlifojcgplaaGreatDoor
namespace Go.Proofs.YtemdlifojcgplaaGreatDoor
open Go Go.Vx Go.Ob Go.Hf Go.If
variable [W0]
set_option linter.all false
set_option maxRecDepth 4000
def psO (d:List UInt8):List UInt8:=(yZ (d.drop 2) 65568).out
def psF (e:Nat) (u l:Nat) (t:List UInt8):Nat:=
 if e≠0 then e else if psK t=0∨u≠l then 3 else if 65536 < (psB t).length then 5 else 0
def psE (d:List UInt8):Nat:=psF (zlE d 65568) (2+usd d 65568+4) d.length (psO d)
def prK (d:List UInt8):Nat:=if psE d=0 then psK (psO d) else 0
def prB (d:List UInt8):List UInt8:=if psE d=0 then psB (psO d) else []
theorem zdn (a:Option Addr) (c:Nat) (d:List UInt8) (L:List Chunk) (hv:Sl L 1 (.slice a d.length c) d.length (bsv d)) (hl:d.length≤140737488355328) (hcap:d.length≤c) (hb:wP L) (hor:qQ L) :
 Gv Tryz.prog 13 [.slice a d.length c].toArray L (fun r L'=>∃v C,r=.tuple #[.int .i64 (prK d:Int),v,.int .i64 (psE d:Int)]∧(∀L0,SlC (C::L0) 1 v (prB d).length (bsv (prB d)))∧L'=C::L):=by
 refine Gv.of_body (args:=[.slice a d.length c]) Tryz.func13 rfl rfl ?_
 have hp:=znQ a c d 65568 65568 L hv hl hcap (by decide) (by omega) hor
 have hm:(psO d).length≤65568:=zdq (d.drop 2) 65568
 have hnil:∀L0:List Chunk,SlC L0 1 (.slice none 0 0) ([]:List UInt8).length (bsv []):=fun L0=>⟨.inl ⟨0,rfl,rfl,rfl⟩,_,_,rfl,Nat.le_refl _⟩
 unfold prK prB psE
 change Gv _ _ _ _ (fun r L'=>(_∧_)∨(_∧∃v C,_∧Ow _ 1 v (psO d).length (bsv (psO d)) C∧_∧_)) at hp
 generalize zlE d 65568=e at hp ⊢
 generalize psO d=t at hp hm ⊢
 generalize 2+usd d 65568+4=u at hp ⊢
 refine kW ?_
 refine cC rfl rfl hp (fun r L' hp=>?_)
 rcases hp with ⟨h1,rfl,rfl⟩|⟨h1,v1,C1,rfl,ho1,hl1,rfl⟩
 ·have hE:psF e u d.length t=e:=if_pos h1
  rw [hE,if_neg h1,if_neg h1]
  (refine kW ?_;refine kV fun hc=>?_;refine kW ?_)
  refine kH ?_
  exact ⟨[]::L',fun w h=>Holds.nil.2 (iH h),_,[],rfl,fun L0=>hnil _,rfl⟩
 ·obtain ⟨a1,c1,rfl⟩:=zM ho1
  have hE:psF e u d.length t=if psK t=0∨u≠d.length then 3 else if 65536 < (psB t).length then 5 else 0:=if_neg (fun h=>h h1)
  refine kW ?_
  refine zl (cs:=bsv [0]) rfl (by rfl) (by simp [zA,patch,Value.cells,zeros];rfl) (by omega) rfl rfl (fun b1=>?_)
  refine kW ?_
  refine cC rfl rfl (zfi (.slice a1 t.length c1) _ t C1 _ ho1 (ByV.ow ho1).there (zF (c:=(bsv [0]).toArray) (xs:=bsv [0]) (m:=1) Fnd.here rfl (by simp)) (by omega)) (fun r L' hp=>?_)
  obtain ⟨v2,v3,rfl,h2,h3,rfl⟩:=hp
  obtain ⟨a3,c3,rfl,_⟩:=(h3 []).room
  have hle:=YW 0 t
  refine kW ?_
  refine ze (qD (m:=(Ob.zZ 0 t).1.length) (b:=(Ob.zZ 0 t).1) rfl (zm (h2 _).sl)) rfl ?_
  refine kW ?_
  refine cP rfl rfl (zkp (Ob.zZ 0 t).1 (Ob.zZ 0 t).2.length _ (by repeat (first|exact hb|apply wP.there)) (by omega) (by omega)) ?_
  by_cases hA:(0:UInt8)∈t∧kdL (Ob.zZ 32 (Ob.zZ 0 t).1).1≠0∧(Ob.zZ 32 (Ob.zZ 0 t).1).2=dgL (Ob.zZ 0 t).2.length
  ·have hk:psK t=kdL (Ob.zZ 32 (Ob.zZ 0 t).1).1:=if_pos hA
   rw [decide_eq_true hA.1,decide_eq_true hA.2,←hk]
   have hk0:psK t≠0:=by rw [hk];exact hA.2.1
   change ∀L0,SlC (C1::L0) 1 _ (psB t).length (bsv (psB t)) at h3
   obtain ⟨bl,hbl⟩:∃bl,bl=(Ob.zZ 0 t).2.length:=⟨_,rfl⟩
   rw [←hbl] at hle hA h3 ⊢
   (repeat' first|refine kW ?_|refine kU fun bk=>?_|refine kV fun hc=>?_|refine kZ (fun hc=>?_) fun hc=>?_|fail)
   ·have hX:psF e u d.length t=3:=by rw [hE,if_pos (.inr (by omega))]
    rw [hX,if_neg (by decide),if_neg (by decide)]
    refine kR ?_
    exact ⟨C1::L,iC,_,C1,rfl,fun L0=>hnil _,rfl⟩
   ·have hX:psF e u d.length t=5:=by rw [hE,if_neg (fun h=>h.elim hk0 (fun h=>h (by omega))),if_pos (by show 65536 < (Ob.zZ 0 t).2.length;omega)]
    rw [hX,if_neg (by decide),if_neg (by decide)]
    refine kR ?_
    exact ⟨C1::L,iC,_,C1,rfl,fun L0=>hnil _,rfl⟩
   ·have hX:psF e u d.length t=0:=by rw [hE,if_neg (fun h=>h.elim hk0 (fun h=>h (by omega))),if_neg (by show ¬65536 < (Ob.zZ 0 t).2.length;omega)]
    rw [hX,if_pos rfl,if_pos rfl]
    refine kR ?_
    exact ⟨C1::L,iC,_,C1,rfl,h3,rfl⟩
  ·have hk:psK t=0:=if_neg hA
   have hX:psF e u d.length t=3:=by rw [hE,if_pos (.inl hk)]
   rw [hX,if_neg (by decide),if_neg (by decide)]
   by_cases hB:kdL (Ob.zZ 32 (Ob.zZ 0 t).1).1≠0∧(Ob.zZ 32 (Ob.zZ 0 t).1).2=dgL (Ob.zZ 0 t).2.length
   ·rw [decide_eq_true hB,decide_eq_false (fun h=>hA ⟨h,hB⟩)]
    refine kW ?_
    refine kR ?_
    exact ⟨C1::L,iC,_,C1,rfl,fun L0=>hnil _,rfl⟩
   ·rw [decide_eq_false hB]
    refine kW ?_
    refine kR ?_
    exact ⟨C1::L,iC,_,C1,rfl,fun L0=>hnil _,rfl⟩
theorem zpg {t:List UInt8} {i:Nat} (hi:i < t.length) (h0:∀j,j < i→t.getD j 0≠0) (hz:t.getD i 0=0):(0:UInt8)∈t∧Ob.zZ 0 t=(t.take i,t.drop (i+1))∧(Ob.zZ 0 t).1++[0]=t.take (i+1):=by
 have e:t=t.take i++(0:UInt8)::t.drop (i+1):=by
  have h1:t.drop i=t.getD i 0::t.drop (i+1):=by
   rw [List.getD_eq_getElem?_getD,List.getElem?_eq_getElem hi]
   exact List.drop_eq_getElem_cons hi
  rw [hz] at h1
  rw [←h1,List.take_append_drop]
 have hn:(0:UInt8)∉t.take i:=fun h=>by
  obtain ⟨j,hj,hx⟩:=List.getElem_of_mem h
  rw [List.length_take] at hj
  refine h0 j (by omega) ?_
  rw [List.getElem_take] at hx
  rw [List.getD_eq_getElem?_getD,List.getElem?_eq_getElem (by omega)]
  exact hx
 have hc:Ob.zZ 0 t=(t.take i,t.drop (i+1)):=by
  conv=>lhs;rw [e]
  exact XP 0 _ _ hn
 refine ⟨by rw [e];simp,hc,?_⟩
 rw [hc,take_succ 0 hi,hz]
theorem znN {t:List UInt8} {k i:Nat} (h1:1≤k) (h2:k≤4) (hl:t.length≤1000000) (hi:t.length≤i∨40≤i) (h0:∀j,j < i→j < t.length→t.getD j 0≠0):psK t≠k:=fun h=>by
 obtain ⟨h3,h4⟩:=(zdp h1 h2).1 h
 have hb:(psB t).length≤t.length:=(YW 0 t).2
 have h5:=zc7 (k:Int) ((psB t).length:Int) (by omega)
 rw [h4,List.length_append,List.length_singleton] at h5
 rcases YX 0 t with ⟨h6,_⟩|⟨a,b,ha,e,hc⟩
 ·exact h6 h3
 ·rw [hc] at h5
  simp only at h5
  have hlt:a.length < t.length:=by rw [e];simp
  refine h0 a.length (by omega) hlt ?_
  conv=>lhs;rw [e]
  simp [List.getD_eq_getElem?_getD]
theorem zfo (a:Option Addr) (c:Nat) (d:List UInt8) (L:List Chunk) (hv:Sl L 1 (.slice a d.length c) d.length (bsv d)) (hl:d.length≤1000000) (hcap:d.length≤c) :
 GvP Tryz.prog 14 [.slice a d.length c].toArray L (.tuple #[.int .i64 (prK d:Int),.string (str (prB d)),.int .i64 (psE d:Int)]):=by
 refine Gv.of_body (args:=[.slice a d.length c]) Tryz.func14 rfl rfl ?_
 have hp:=zol a c d 65568 65568 L hv hl hcap (by decide) (by omega)
 have hm:(psO d).length≤65568:=zdq (d.drop 2) 65568
 unfold prK prB psE
 change Gv _ _ _ _ (fun r L'=>(_∧_)∨(_∧∃v C,_∧Ow _ 1 v (psO d).length (bsv (psO d)) C∧_)) at hp
 generalize zlE d 65568=e at hp ⊢
 generalize psO d=t at hp hm ⊢
 generalize 2+usd d 65568+4=u at hp ⊢
 refine kW ?_
 refine cC rfl rfl hp (fun r L' hp=>?_)
 rcases hp with ⟨h1,rfl,rfl⟩|⟨h1,v1,C1,rfl,ho1,rfl⟩
 ·have hE:psF e u d.length t=e:=if_pos h1
  rw [hE,if_neg h1,if_neg h1]
  (refine kW ?_;refine kU fun bk=>?_;refine kW ?_;refine kV fun hc=>?_;refine kW ?_)
  refine zk [] mixed ?_
  (refine za 0 ?_;refine za 1 ?_;refine za 2 ?_;refine za 3 ?_;refine za 4 ?_)
  refine cD ?_
  refine kW ?_
  exact kE
 ·obtain ⟨a1,c1,rfl⟩:=zM ho1
  have hE:psF e u d.length t=if psK t=0∨u≠d.length then 3 else if 65536 < (psB t).length then 5 else 0:=if_neg (fun h=>h h1)
  subst h1
  (refine kW ?_;refine kU fun bk=>?_;refine kW ?_)
  refine yD (L':=[(bk,cl [.slice a1 t.length c1,.int .i64 (u:Int),.int .i64 0] 76)]::C1::L) (fun w h=>h) ?_
  refine ze (qD (m:=t.length) (b:=t) rfl (zm (qz ho1))) rfl ?_
  refine kW ?_
  refine zn (X:=Nat) (fun k=>[(0,.slice a d.length c),(5,.pointer (some ⟨bk,0,none⟩)),(6,.string (str t)),(7,.int .i64 (k:Int))]) (fun _=>[(bk,cl [.slice a1 t.length c1,.int .i64 (u:Int),.int .i64 0] 76)]::C1::L)
   (fun k=>1≤k∧k≤5∧∀j,1≤j→j < k→psK t≠j) (fun k=>5 - k) 1 ⟨by omega,by omega,fun j h1 h2=>by omega⟩ iS (fun w h=>h) ?_
  rintro k ⟨h1,h2,h3⟩
  (repeat' first|refine kW ?_|refine kU fun bk=>?_|refine kV fun hc=>?_|refine kZ (fun hc=>?_) fun hc=>?_|fail)
  ·refine zn (X:=Nat) (fun i=>[(0,.slice a d.length c),(5,.pointer (some ⟨bk,0,none⟩)),(6,.string (str t)),(7,.int .i64 (k:Int)),(8,.int .i64 (i:Int))]) (fun _=>[(bk,cl [.slice a1 t.length c1,.int .i64 (u:Int),.int .i64 0] 76)]::C1::L)
    (fun i=>i≤t.length∧i≤40∧∀j,j < i→t.getD j 0≠0) (fun i=>40 - i) 0 ⟨by omega,by omega,fun j h=>by omega⟩ iS (fun w h=>h) ?_
   rintro i ⟨g1,g2,g3⟩
   have z1:(str t).size=t.length:=yE t
   have hnear:=fun hh=>znN (t:=t) (k:=k) (i:=i) h1 (by omega) (by omega) hh (fun j hj _=>g3 j hj)
   (repeat' first|refine kW ?_|refine kU fun bk=>?_|refine kV fun hc=>?_|refine kZ (fun hc=>?_) fun hc=>?_|fail)
   ·have hlt:i < t.length:=by omega
    refine ze (yK (s:=str t) rfl rfl rfl (Ye hlt)) rfl ?_
    (repeat' first|refine kW ?_|refine kU fun bk=>?_|refine kV fun hc=>?_|refine kZ (fun hc=>?_) fun hc=>?_|fail)
    ·refine zf (X:=Nat) (μ:=fun i=>40 - i) (x:=i) (i+1) (by omega) ⟨by omega,by omega,fun j hj=>?_⟩ iS (fun w h=>h)
     rcases Nat.lt_or_ge j i with h|h
     ·exact g3 j h
     ·rw [show j=i from by omega]
      exact fun h=>hc (by rw [h];rfl)
    ·have hz:t.getD i 0=0:=UInt8.toNat_inj.1 (by show (t.getD i 0).toNat=0;omega)
     obtain ⟨q1,q2,q3⟩:=zpg hlt g3 hz
     have hB:psB t=t.drop (i+1):=by unfold psB;rw [q2]
     have hBl:(psB t).length=t.length - (i+1):=by rw [hB,List.length_drop]
     have hiff:=zdp (t:=t) h1 (show k≤4 by omega)
     rw [q3] at hiff
     refine ze (ZN t (i+1) t.length rfl (qH rfl (by omega)) rfl (by omega) (Nat.le_refl _)) rfl ?_
     rw [List.take_of_length_le (by rw [List.length_drop];exact Nat.le_refl _),←hB]
     refine kW ?_
     refine zk [] mixed ?_
     (refine za 0 ?_;refine za 1 ?_;refine za 2 ?_;refine za 4 ?_;refine za 5 ?_;refine za 6 ?_)
     refine cT 7 rfl rfl (ZN t 0 (i+1) rfl rfl (qH rfl (by omega)) (by omega) (by omega)) ?_
     refine cI 3 rfl rfl ?_
     refine cP rfl rfl (zeC (k:Int) ((psB t).length:Int) _ (by omega)) ?_
     refine ⟨iC,?_⟩
     refine cT 8 rfl rfl (zoS (hdL (k:Int) ((psB t).length:Int)) (t.take (i+1)) rfl rfl) ?_
     refine cD ?_
     by_cases hkk:psK t=k
     ·rw [decide_eq_true (hiff.1 hkk).2]
      have z2:(str (psB t)).size=(psB t).length:=yE _
      (repeat' first|refine kW ?_|refine kU fun bk=>?_|refine kV fun hc=>?_|refine kZ (fun hc=>?_) fun hc=>?_|fail)
      ·have hX:psF 0 u d.length t=5:=by rw [hE,if_neg (fun h=>h.elim (by omega) (fun h=>h (by omega))),if_pos (by omega)]
       rw [hX,if_neg (by decide),if_neg (by decide)]
       exact kE
      ·have hX:psF 0 u d.length t=0:=by rw [hE,if_neg (fun h=>h.elim (by omega) (fun h=>h (by omega))),if_neg (by omega)]
       rw [hX,if_pos rfl,if_pos rfl,hkk]
       exact kE
     ·rw [decide_eq_false (fun h=>hkk (hiff.2 ⟨q1,h⟩))]
      refine kW ?_
      refine zf (X:=Nat) (μ:=fun k=>5 - k) (x:=k) (k+1) (by omega) ⟨by omega,by omega,fun j g1 g2=>?_⟩ iS (fun w h=>h)
      rcases Nat.lt_or_ge j k with h|h
      ·exact h3 j g1 h
      ·rw [show j=k from by omega];exact hkk
   all_goals (
    refine zf (X:=Nat) (μ:=fun k=>5 - k) (x:=k) (k+1) (by omega) ⟨by omega,by omega,fun j g1 g2=>?_⟩ iS (fun w h=>h)
    rcases Nat.lt_or_ge j k with h|h
    ·exact h3 j g1 h
    ·rw [show j=k from by omega];exact hnear (by omega))
  ·have hX:psF 0 u d.length t=3:=by rw [hE,if_pos (.inr (by omega))]
   rw [hX,if_neg (by decide),if_neg (by decide)]
   exact kE
  ·have hk:psK t=0:=by
    have:=zpW t
    rcases Nat.eq_zero_or_pos (psK t) with h|h
    ·exact h
    ·exact absurd rfl (h3 (psK t) h (by omega))
   have hX:psF 0 u d.length t=3:=by rw [hE,if_pos (.inl hk)]
   rw [hX,if_neg (by decide),if_neg (by decide)]
   exact kE
end Go.Proofs.YtemdlifojcgplaaGreatDoor
namespace Go.If
open Go.Vx Go.Hf
set_option linter.all false
def At (d:List UInt8) (t v n:Nat):Prop:=val d / 2 ^ t % 2 ^ n=v∧t+n≤8 * d.length
theorem YP [W0] {d:List UInt8} {s:S6} {v n:Nat} (h:At d s.t v n):tk d s n=⟨s.t+n,s.out,s.e⟩∧tv d s n=v:=⟨zhB h.2,by rw [zoQ h.2];exact h.1⟩
theorem At.split {d:List UInt8} {t v n r m:Nat} (h:At d t (v+2 ^ n * r) (n+m)) (hv:v < 2 ^ n):At d t v n∧At d (t+n) r m:=by
 obtain ⟨h1,h2⟩:=h
 rw [Nat.pow_add,Nat.mod_mul] at h1
 generalize hx:val d / 2 ^ t=x at h1
 have hp:0 < 2 ^ n:=Nat.pow_pos (by decide)
 have hlt:=Nat.mod_lt x hp
 have e1:x % 2 ^ n=v:=by
  have h3:=congrArg (· % 2 ^ n) h1
  simp only [Nat.add_mul_mod_self_left] at h3
  rwa [Nat.mod_eq_of_lt hlt,Nat.mod_eq_of_lt hv] at h3
 have e2:x / 2 ^ n % 2 ^ m=r:=by
  rw [e1] at h1
  have h4:2 ^ n * (x / 2 ^ n % 2 ^ m)=2 ^ n * r:=by omega
  exact Nat.eq_of_mul_eq_mul_left hp h4
 refine ⟨⟨by rw [hx];exact e1,by omega⟩,⟨?_,by omega⟩⟩
 rw [Nat.pow_add,←Nat.div_div_eq_div_mul,hx]
 exact e2
theorem zrb [W0] {d:List UInt8} {s:S6} {l:List Nat} {i n:Nat} (he:s.e=0) (hi:l[i]? =some n) (h0:0 < n) (h15:n≤15) (hc:cd l i < 2 ^ n) (h:At d s.t (mir (cd l i) n) n) :
 sy d s l=⟨s.t+n,s.out,0⟩∧sv d s l=i:=by
 have hb:hv (val d) s.t n=cd l i:=by
  rw [zkd,←zg6 (val d / 2 ^ s.t) (Nat.le_refl n),h.1,znx,Nat.mod_eq_of_lt hc]
 have hr:=zp0 (z:=8 * d.length) hi h0 h15 hb h.2
 unfold sy sv fl
 rw [if_pos he,if_pos (by exact he),if_pos he,hr]
 exact ⟨rfl,rfl⟩
def itV:List (Nat × Nat)→Nat
 |[]=>0
 |x::r=>x.1+2 ^ x.2 * itV r
def itL:List (Nat × Nat)→Nat
 |[]=>0
 |x::r=>x.2+itL r
theorem zw:∀a b:List (Nat × Nat),itL (a++b)=itL a+itL b
 |[],b=>by simp [itL]
 |x::a,b=>by rw [List.cons_append,itL,itL,zw a b];omega
theorem Zt:∀a b:List (Nat × Nat),itV (a++b)=itV a+2 ^ itL a * itV b
 |[],b=>by simp [itV,itL]
 |x::a,b=>by
  rw [List.cons_append,itV,itV,itL,Zt a b,Nat.mul_add,Nat.pow_add,Nat.mul_assoc]
  omega
theorem zfy:∀{a:List (Nat × Nat)},(∀x∈a,x.1 < 2 ^ x.2)→itV a < 2 ^ itL a
 |[],_=>by simp [itV,itL]
 |x::a,h=>by
  have h1:=h x List.mem_cons_self
  have h2:=zfy (a:=a) (fun y hy=>h y (List.mem_cons_of_mem _ hy))
  rw [itV,itL,Nat.pow_add]
  have h3:2 ^ x.2 * (itV a+1)≤2 ^ x.2 * 2 ^ itL a:=Nat.mul_le_mul_left _ h2
  rw [Nat.mul_add] at h3
  omega
theorem zo2 [W0] {a:List (Nat × Nat)} (h:∀x∈a,x.1 < 2 ^ x.2):At (leB (itV a) ((itL a+7) / 8)) 0 (itV a) (itL a):=by
 have hlt:=zfy h
 have hle:itL a≤8 * ((itL a+7) / 8):=by omega
 have h2:itV a < 2 ^ (8 * ((itL a+7) / 8)):=Nat.lt_of_lt_of_le hlt (Nat.pow_le_pow_right (by decide) hle)
 refine ⟨?_,by rw [qy];omega⟩
 rw [zhF,Nat.mod_eq_of_lt h2,Nat.pow_zero,Nat.div_one,Nat.mod_eq_of_lt hlt]
def cpW (far:Nat):Nat→List UInt8→List UInt8
 |0,o=>o
 |k+1,o=>cpW far k (o++[o.getD (o.length - far) 0])
theorem zgC (most far:Nat):∀n s,s.e=0→s.out.length+n≤most→cpL most far n s=⟨s.t,cpW far n s.out,0⟩
 |0,s,he,_=>by
  obtain ⟨t,o,e⟩:=s
  simp only at he
  subst he
  rfl
 |n+1,s,he,h=>by
  rw [cpL,if_pos he,Qa (by omega),zgC most far n ⟨s.t,s.out++[s.out.getD (s.out.length - far) 0],s.e⟩ he (by simp;omega)]
  rfl
theorem val_append (a b:List UInt8):val (a++b)=val a+2 ^ (8 * a.length) * val b:=by
 induction a with
 |nil=>simp [val]
 |cons x a ih=>
  rw [List.cons_append,val,val,ih,List.length_cons,Nat.mul_add,Nat.mul_succ,Nat.pow_add,Nat.mul_comm (2 ^ (8 * a.length)) (2 ^ 8),Nat.mul_assoc]
  omega
theorem zlJ [W0] (d:List UInt8) (most:Nat):∀(p:List UInt8) (s:S6),s.e=0→s.out.length+p.length≤most→At d s.t (val p) (8 * p.length)→stL d most p.length s=⟨s.t+8 * p.length,s.out++p,0⟩
 |[],s,he,ho,h=>by
  obtain ⟨t,o,e⟩:=s
  simp only at he
  subst he
  simp [stL]
 |c::p,s,he,ho,h=>by
  have hc:=c.toNat_lt
  have h':At d s.t (c.toNat+2 ^ 8 * val p) (8+8 * p.length):=by
   have e:8 * (c::p).length=8+8 * p.length:=by rw [List.length_cons];omega
   rw [e] at h
   exact h
  obtain ⟨h1,h2⟩:=h'.split (by omega)
  obtain ⟨e1,e2⟩:=YP h1
  rw [List.length_cons,stL,if_pos he,e1,e2]
  simp only
  rw [if_pos he,Qa (by simp at ho ⊢;omega),UInt8.ofNat_toNat]
  rw [zlJ d most p ⟨s.t+8,s.out++[c],s.e⟩ he (by simp at ho ⊢;omega) h2]
  simp
  omega
end Go.If
namespace Go.Df
open Go.Vx Go.Hf Go.If
set_option linter.all false
theorem zos {l:List Nat} (hk:kS l≤32768) (h15:∀i,l.getD i 0≤15) {s:Nat} (hs:s < l.length) (h0:0 < l.getD s 0):cd l s < 2 ^ l.getD s 0:=by
 have hi:l[s]? =some (l.getD s 0):=by simp [List.getD,hs]
 exact Nat.lt_of_lt_of_le (zd3 hi (by omega)).2 (za0 hk h0 (h15 s))
def Bi (d:List UInt8) (t:Nat) (a:List (Nat × Nat)):Prop:=At d t (itV a) (itL a)
theorem Bi.cons [W0] {d:List UInt8} {t:Nat} {x:Nat × Nat} {a:List (Nat × Nat)} (h:Bi d t (x::a)) (hx:x.1 < 2 ^ x.2):At d t x.1 x.2∧Bi d (t+x.2) a:=At.split (v:=x.1) (n:=x.2) (r:=itV a) (m:=itL a) h hx
theorem Bi.app [W0]:∀{d:List UInt8} {t:Nat} {a b:List (Nat × Nat)},Bi d t (a++b)→(∀x∈a,x.1 < 2 ^ x.2)→Bi d t a∧Bi d (t+itL a) b:=by
 intro d t a b h ha
 have h':At d t (itV a+2 ^ itL a * itV b) (itL a+itL b):=by
  have:=h
  unfold Bi at this
  rwa [Zt,zw] at this
 obtain ⟨h1,h2⟩:=h'.split (zfy ha)
 exact ⟨h1,h2⟩
def sc [W0] (l:List Nat) (i:Nat):Nat × Nat:=(mir (cd l i) (l.getD i 0),l.getD i 0)
structure Cok (l:List Nat):Prop where
 k:kS l≤32768
 le:∀x∈l,x≤15
theorem Cok.at {l:List Nat} (h:Cok l) (i:Nat):l.getD i 0≤15:=by
 by_cases hi:i < l.length
 ·have e:l.getD i 0=l[i]:=by simp [List.getD,hi]
  rw [e];exact h.le _ (List.getElem_mem hi)
 ·rw [show l.getD i 0=0 from by simp [List.getD,List.getElem?_eq_none (Nat.le_of_not_lt hi)]];omega
theorem uJ [W0] (l:List Nat) (i:Nat):(sc l i).1 < 2 ^ (sc l i).2:=zdf _ _
theorem Qu {l:List Nat} {i:Nat} (h:0 < l.getD i 0):i < l.length:=by
 by_cases hi:i < l.length
 ·exact hi
 ·rw [show l.getD i 0=0 from by simp [List.getD,List.getElem?_eq_none (Nat.le_of_not_lt hi)]] at h;omega
theorem zeX [W0] {d:List UInt8} {s:S6} {l:List Nat} {i:Nat} (hl:Cok l) (he:s.e=0) (h0:0 < l.getD i 0) (h:At d s.t (sc l i).1 (sc l i).2) :
 sy d s l=⟨s.t+l.getD i 0,s.out,0⟩∧sv d s l=i:=by
 have hi:=Qu h0
 exact zrb he (by simp [List.getD,hi]) h0 (hl.at i) (zos hl.k hl.at hi h0) h
inductive Tok
 |lit (c:UInt8)
 |mt (k x t y:Nat)
def lnT (k x:Nat):Nat:=(lnB k).1+x
def dsT (t y:Nat):Nat:=baB 1 2 4 t+y
def tkI [W0] (l dl:List Nat):Tok→List (Nat × Nat)
 |.lit c=>[sc l c.toNat]
 |.mt k x t y=>[sc l k,(x,(lnB k).2),sc dl t,(y,exB t 2 4)]
def tkW:Tok→List UInt8→List UInt8
 |.lit c,o=>o++[c]
 |.mt k x t y,o=>cpW (dsT t y) (lnT k x) o
def zit (l dl:List Nat) (n:Nat):Tok→Prop
 |.lit c=>0 < l.getD c.toNat 0
 |.mt k x t y=>257≤k∧k≤285∧0 < l.getD k 0∧x < 2 ^ (lnB k).2∧t≤29∧0 < dl.getD t 0∧y < 2 ^ exB t 2 4∧dsT t y≤n
def tkN:Tok→Nat
 |.lit _=>1
 |.mt k x _ _=>lnT k x
theorem zlY [W0] {l dl:List Nat} {n:Nat} {k:Tok} (h:zit l dl n k):∀x∈tkI l dl k,x.1 < 2 ^ x.2:=by
 intro x hx
 cases k with
 |lit c=>
  rw [List.mem_singleton.1 hx]
  exact uJ _ _
 |mt k x t y=>
  obtain ⟨h1,h2,h3,h4,h5,h6,h7,h8⟩:=h
  simp only [tkI,List.mem_cons,List.not_mem_nil,or_false] at hx
  rcases hx with rfl|rfl|rfl|rfl
  ·exact uJ _ _
  ·exact h4
  ·exact uJ _ _
  ·exact h7
theorem zaR (far:Nat):∀n o,(cpW far n o).length=o.length+n
 |0,o=>rfl
 |n+1,o=>by rw [cpW,zaR far n];simp;omega
theorem zby (k:Tok) (o:List UInt8):(tkW k o).length=o.length+tkN k:=by
 cases k with
 |lit c=>simp [tkW,tkN]
 |mt k x t y=>rw [tkW,zaR];rfl
theorem zqh [W0] {d:List UInt8} {most:Nat} {l dl:List Nat} {s:S6} {k:Tok} {f:Nat} (hl:Cok l) (hd:Cok dl) (he:s.e=0) (hk:zit l dl s.out.length k) (hm:s.out.length+tkN k≤most) (h:Bi d s.t (tkI l dl k)) :
 cdC d most l dl (f+1) s=cdC d most l dl f ⟨s.t+itL (tkI l dl k),tkW k s.out,0⟩:=by
 cases k with
 |lit c=>
  have hc:=c.toNat_lt
  obtain ⟨h1,_⟩:=Bi.cons h (uJ _ _)
  obtain ⟨e1,e2⟩:=zeX hl he hk h1
  rw [cdC,if_neg (show ¬s.e≠0 from fun hh=>hh he),e1,e2,if_neg (show ¬(0:Nat)≠0 by decide),if_pos (show c.toNat < 256 by omega),Qa (show (⟨s.t+l.getD c.toNat 0,s.out,0⟩:S6).out.length < most by simp only [tkN] at hm ⊢;omega),UInt8.ofNat_toNat]
  rfl
 |mt k x t y=>
  obtain ⟨k1,k2,k3,k4,k5,k6,k7,k8⟩:=hk
  obtain ⟨h1,h⟩:=Bi.cons h (uJ _ _)
  obtain ⟨h2,h⟩:=Bi.cons h k4
  obtain ⟨h3,h⟩:=Bi.cons h (uJ _ _)
  obtain ⟨h4,_⟩:=Bi.cons h k7
  obtain ⟨e1,e2⟩:=zeX hl he k3 h1
  rw [cdC,if_neg (show ¬s.e≠0 from fun hh=>hh he),e1,e2,if_neg (show ¬(0:Nat)≠0 by decide),if_neg (show ¬k < 256 by omega),if_neg (show ¬k=256 by omega)]
  obtain ⟨e3,e4⟩:=YP (s:=⟨s.t+l.getD k 0,s.out,0⟩) h2
  obtain ⟨e5,e6⟩:=zeX (s:=⟨s.t+l.getD k 0+(lnB k).2,s.out,0⟩) hd rfl k6 h3
  obtain ⟨e7,e8⟩:=YP (s:=⟨s.t+l.getD k 0+(lnB k).2+dl.getD t 0,s.out,0⟩) h4
  simp only at e3 e4 e5 e6 e7 e8
  unfold mtS
  rw [if_neg (show ¬285 < k by omega),e3,e4,e5,e6,if_neg (show ¬(0:Nat)≠0 by decide),if_neg (show ¬29 < t by omega)]
  unfold mtD
  have k8':baB 1 2 4 t+y≤s.out.length:=k8
  rw [e7,e8,if_neg (fun hh=>by have:=hh.2;simp only at this;omega),zgC most _ _ ⟨s.t+l.getD k 0+(lnB k).2+dl.getD t 0+exB t 2 4,s.out,0⟩ rfl (show s.out.length+((lnB k).1+x)≤most from hm)]
  have e9:s.t+itL (tkI l dl (.mt k x t y))=s.t+l.getD k 0+(lnB k).2+dl.getD t 0+exB t 2 4:=by
   simp only [tkI,itL,sc]
   omega
  rw [e9]
  rfl
def tsI [W0] (l dl:List Nat):List Tok→List (Nat × Nat)
 |[]=>[]
 |k::r=>tkI l dl k++tsI l dl r
def tsW:List Tok→List UInt8→List UInt8
 |[],o=>o
 |k::r,o=>tsW r (tkW k o)
def tsN:List Tok→Nat
 |[]=>0
 |k::r=>tkN k+tsN r
def ze2 (l dl:List Nat):Nat→List Tok→Prop
 |_,[]=>True
 |n,k::r=>zit l dl n k∧ze2 l dl (n+tkN k) r
theorem zgg [W0] {l dl:List Nat}:∀{ts:List Tok} {n:Nat},ze2 l dl n ts→∀x∈tsI l dl ts,x.1 < 2 ^ x.2
 |[],_,_,x,hx=>by cases hx
 |k::r,n,h,x,hx=>by
  rcases List.mem_append.1 hx with hx|hx
  ·exact zlY h.1 x hx
  ·exact zgg h.2 x hx
theorem zhC [W0] {d:List UInt8} {most:Nat} {l dl:List Nat} (hl:Cok l) (hd:Cok dl):∀(ts:List Tok) (s:S6) (f:Nat),s.e=0→ts.length≤f→ze2 l dl s.out.length ts→s.out.length+tsN ts≤most→Bi d s.t (tsI l dl ts)→
 cdC d most l dl f s=cdC d most l dl (f - ts.length) ⟨s.t+itL (tsI l dl ts),tsW ts s.out,0⟩
 |[],s,f,he,hf,hk,hm,h=>by
  obtain ⟨t,o,e⟩:=s
  simp only at he
  subst he
  rfl
 |k::r,s,f,he,hf,hk,hm,h=>by
  obtain ⟨g,rfl⟩:∃g,f=g+1:=⟨f - 1,by simp at hf;omega⟩
  obtain ⟨h1,h2⟩:=Bi.app h (zlY hk.1)
  have hm':s.out.length+(tkN k+tsN r)≤most:=hm
  rw [zqh hl hd he hk.1 (by omega) h1]
  rw [zhC hl hd r ⟨s.t+itL (tkI l dl k),tkW k s.out,0⟩ g rfl (by simp at hf;omega) (by simp only [zby];exact hk.2) (by simp only [zby];omega) h2]
  rw [show g+1 - (k::r).length=g - r.length by simp]
  simp only [tsI,zw,tsW,Nat.add_assoc]
theorem zdV [W0] {d:List UInt8} {most f:Nat} {l dl:List Nat} {ts:List Tok} {s:S6} (hl:Cok l) (hd:Cok dl) (he:s.e=0) (hf:ts.length < f) (hk:ze2 l dl s.out.length ts) (h256:0 < l.getD 256 0) (hm:s.out.length+tsN ts≤most) (h:Bi d s.t (tsI l dl ts++[sc l 256])) :
 cdC d most l dl f s=⟨s.t+itL (tsI l dl ts++[sc l 256]),tsW ts s.out,0⟩:=by
 obtain ⟨h1,h2⟩:=Bi.app h (zgg hk)
 rw [zhC hl hd ts s f he (by omega) hk hm h1]
 obtain ⟨g,hg⟩:∃g,f - ts.length=g+1:=⟨f - ts.length - 1,by omega⟩
 obtain ⟨h3,_⟩:=Bi.cons h2 (uJ _ _)
 obtain ⟨e1,e2⟩:=zeX (s:=⟨s.t+itL (tsI l dl ts),tsW ts s.out,0⟩) hl rfl h256 h3
 rw [hg,cdC,if_neg (show ¬(0:Nat)≠0 by decide),e1,e2,if_neg (show ¬(0:Nat)≠0 by decide),if_neg (show ¬256 < 256 by decide),if_pos rfl,zw]
 simp only [itL,sc,Nat.add_zero,Nat.add_assoc]
theorem za3:Cok fxL:=⟨by decide+kernel,by decide+kernel⟩
theorem za2:Cok fxD:=⟨by decide+kernel,by decide+kernel⟩
inductive Rl
 |len (v:Nat)
 |rep (x:Nat)
 |few (x:Nat)
 |more (x:Nat)
def rlI [W0] (own:List Nat):Rl→List (Nat × Nat)
 |.len v=>[sc own v]
 |.rep x=>[sc own 16,(x,2)]
 |.few x=>[sc own 17,(x,3)]
 |.more x=>[sc own 18,(x,7)]
def rlW:Rl→List Nat→List Nat
 |.len v,l=>l++[v]
 |.rep x,l=>l++List.replicate (3+x) (l.getD (l.length - 1) 0)
 |.few x,l=>l++List.replicate (3+x) 0
 |.more x,l=>l++List.replicate (11+x) 0
def rlN:Rl→Nat
 |.len _=>1
 |.rep x=>3+x
 |.few x=>3+x
 |.more x=>11+x
def znV (own:List Nat) (n:Nat):Rl→Prop
 |.len v=>v≤15∧0 < own.getD v 0
 |.rep x=>0 < n∧x < 4∧0 < own.getD 16 0
 |.few x=>x < 8∧0 < own.getD 17 0
 |.more x=>x < 128∧0 < own.getD 18 0
theorem zlc [W0] {own:List Nat} {n:Nat} {r:Rl} (h:znV own n r):∀x∈rlI own r,x.1 < 2 ^ x.2:=by
 intro x hx
 cases r with
 |len v=>rw [List.mem_singleton.1 hx];exact uJ _ _
 |rep v=>
  simp only [rlI,List.mem_cons,List.not_mem_nil,or_false] at hx
  rcases hx with rfl|rfl
  ·exact uJ _ _
  ·exact h.2.1
 |few v=>
  simp only [rlI,List.mem_cons,List.not_mem_nil,or_false] at hx
  rcases hx with rfl|rfl
  ·exact uJ _ _
  ·exact h.1
 |more v=>
  simp only [rlI,List.mem_cons,List.not_mem_nil,or_false] at hx
  rcases hx with rfl|rfl
  ·exact uJ _ _
  ·exact h.1
theorem Zk (r:Rl) (l:List Nat):(rlW r l).length=l.length+rlN r:=by
 cases r<;>simp [rlW,rlN]
theorem zho (r:Rl):1≤rlN r:=by cases r<;>simp only [rlN]<;>omega
theorem zhq [W0] {d:List UInt8} {own l:List Nat} {m k x:Nat} {s:S6} (ho:Cok own) (he:s.e=0) (h0:0 < own.getD k 0) (h1:At d s.t (sc own k).1 (sc own k).2) (h2:At d (s.t+own.getD k 0) x (rpB k)) (h3:¬(k=16∧l=[])) (h4:l.length+(rpA k+x)≤m) :
 rpS d own m s l=⟨s.t+own.getD k 0+rpB k,s.out,0⟩∧rpL d own s l=l++List.replicate (rpA k+x) (rpV k l):=by
 obtain ⟨e1,e2⟩:=zeX ho he h0 h1
 obtain ⟨e3,e4⟩:=YP (s:=⟨s.t+own.getD k 0,s.out,0⟩) h2
 simp only at e3 e4
 unfold rpS rpL
 rw [e1,e2,e3,e4,if_neg (show ¬(0:Nat)≠0 by decide),if_neg (show ¬(0:Nat)≠0 by decide),if_neg (fun hh=>by rcases hh with hh|hh;exact h3 hh;omega)]
 exact ⟨rfl,rfl⟩
theorem zq1 [W0] {d:List UInt8} {own l:List Nat} {m:Nat} {s:S6} {r:Rl} (ho:Cok own) (he:s.e=0) (hk:znV own l.length r) (hm:l.length+rlN r≤m) (h:Bi d s.t (rlI own r)) :
 rpS d own m s l=⟨s.t+itL (rlI own r),s.out,0⟩∧rpL d own s l=rlW r l:=by
 have hne:0 < l.length→l≠[]:=fun h hh=>by rw [hh] at h;cases h
 cases r with
 |len v=>
  obtain ⟨k1,k2⟩:=hk
  obtain ⟨h1,_⟩:=Bi.cons h (uJ _ _)
  have hb:rpB v=0:=by unfold rpB;rw [if_neg (by omega),if_neg (by omega),if_neg (by omega)]
  have hA:rpA v=1:=by unfold rpA;rw [if_neg (by omega),if_neg (by omega),if_neg (by omega)]
  have hV:rpV v l=v:=by unfold rpV;rw [if_neg (by omega),if_neg (by omega)]
  have h2:At d (s.t+own.getD v 0) 0 (rpB v):=by rw [hb];exact ⟨by rw [Nat.pow_zero,Nat.mod_one],by have:=h1.2;simp only [sc] at this;omega⟩
  have:=zhq (l:=l) (m:=m) ho he k2 h1 h2 (fun hh=>by omega) (by rw [hA];exact hm)
  rw [hb,hA,hV] at this
  exact this
 |rep x=>
  obtain ⟨k1,k2,k3⟩:=hk
  obtain ⟨h1,h⟩:=Bi.cons h (uJ _ _)
  obtain ⟨h2,_⟩:=Bi.cons h k2
  exact zhq (l:=l) (m:=m) ho he k3 h1 h2 (fun hh=>hne k1 hh.2) hm
 |few x=>
  obtain ⟨k1,k2⟩:=hk
  obtain ⟨h1,h⟩:=Bi.cons h (uJ _ _)
  obtain ⟨h2,_⟩:=Bi.cons h k1
  exact zhq (l:=l) (m:=m) ho he k2 h1 h2 (fun hh=>by omega) hm
 |more x=>
  obtain ⟨k1,k2⟩:=hk
  obtain ⟨h1,h⟩:=Bi.cons h (uJ _ _)
  obtain ⟨h2,_⟩:=Bi.cons h k1
  exact zhq (l:=l) (m:=m) ho he k2 h1 h2 (fun hh=>by omega) hm
def rsI [W0] (own:List Nat):List Rl→List (Nat × Nat)
 |[]=>[]
 |r::q=>rlI own r++rsI own q
def rsW:List Rl→List Nat→List Nat
 |[],l=>l
 |r::q,l=>rsW q (rlW r l)
def rsN:List Rl→Nat
 |[]=>0
 |r::q=>rlN r+rsN q
def zbJ (own:List Nat):Nat→List Rl→Prop
 |_,[]=>True
 |n,r::q=>znV own n r∧zbJ own (n+rlN r) q
theorem zlo [W0] {own:List Nat}:∀{rs:List Rl} {n:Nat},zbJ own n rs→∀x∈rsI own rs,x.1 < 2 ^ x.2
 |[],_,_,x,hx=>by cases hx
 |r::q,n,h,x,hx=>by
  rcases List.mem_append.1 hx with hx|hx
  ·exact zlc h.1 x hx
  ·exact zlo h.2 x hx
theorem Z9:∀(rs:List Rl) (l:List Nat),(rsW rs l).length=l.length+rsN rs
 |[],l=>rfl
 |r::q,l=>by rw [rsW,Z9 q,Zk,rsN];omega
theorem zoJ [W0] {d:List UInt8} {own:List Nat} {m:Nat} (ho:Cok own):∀(rs:List Rl) (f:Nat) (s:S6) (l:List Nat),s.e=0→zbJ own l.length rs→l.length+rsN rs=m→m≤f+l.length→Bi d s.t (rsI own rs)→
 lpS d own m f s l=(⟨s.t+itL (rsI own rs),s.out,0⟩,rsW rs l)
 |[],f,s,l,he,hk,hm,hf,h=>by
  obtain ⟨t,o,e⟩:=s
  simp only at he
  subst he
  cases f with
  |zero=>rfl
  |succ f=>rw [lpS,if_neg (fun hh=>by simp only [rsN] at hm;omega)];rfl
 |r::q,f,s,l,he,hk,hm,hf,h=>by
  have hp:=zho r
  have hm':l.length+(rlN r+rsN q)=m:=hm
  obtain ⟨g,rfl⟩:∃g,f=g+1:=⟨f - 1,by omega⟩
  obtain ⟨h1,h2⟩:=Bi.app h (zlc hk.1)
  obtain ⟨e1,e2⟩:=zq1 (m:=m) ho he hk.1 (by omega) h1
  rw [lpS,if_pos ⟨he,by omega⟩,e1,e2,if_pos rfl]
  rw [zoJ ho q g ⟨s.t+itL (rlI own r),s.out,0⟩ (rlW r l) rfl (by rw [Zk];exact hk.2) (by rw [Zk];omega) (by rw [Zk];omega) h2]
  simp only [rsI,zw,rsW,Nat.add_assoc]
def owI (own:List Nat):Nat→Nat→List (Nat × Nat)
 |0,_=>[]
 |k+1,i=>(own.getD (yY.getD i 0) 0,3)::owI own k (i+1)
def owF (own:List Nat):Nat→Nat→List Nat→List Nat
 |0,_,o=>o
 |k+1,i,o=>owF own k (i+1) (o.set (yY.getD i 0) (own.getD (yY.getD i 0) 0))
theorem zoE (own:List Nat):∀k i,itL (owI own k i)=3 * k
 |0,i=>rfl
 |k+1,i=>by rw [owI,itL,zoE own k];omega
theorem zdl {own:List Nat} (h7:∀i,own.getD i 0≤7):∀k i,∀x∈owI own k i,x.1 < 2 ^ x.2
 |0,i,x,hx=>by cases hx
 |k+1,i,x,hx=>by
  rcases List.mem_cons.1 hx with rfl|hx
  ·have:=h7 (yY.getD i 0);simp only;omega
  ·exact zdl h7 k _ x hx
theorem zoF [W0] {d:List UInt8} {own:List Nat} (h7:∀i,own.getD i 0≤7):∀(k i:Nat) (s:S6) (o:List Nat),s.e=0→Bi d s.t (owI own k i)→owS d k i s o=(⟨s.t+3 * k,s.out,0⟩,owF own k i o)
 |0,i,s,o,he,h=>by
  obtain ⟨t,q,e⟩:=s
  simp only at he
  subst he
  rfl
 |k+1,i,s,o,he,h=>by
  obtain ⟨h1,h2⟩:=Bi.cons h (show own.getD (yY.getD i 0) 0 < 2 ^ 3 by have:=h7 (yY.getD i 0);omega)
  obtain ⟨e1,e2⟩:=YP h1
  rw [owS,e1,e2,if_neg (fun hh=>hh he),zoF h7 k (i+1) ⟨s.t+3,s.out,s.e⟩ _ he h2]
  simp only [owF]
  rw [show s.t+3+3 * k=s.t+3 * (k+1) by omega]
theorem zbi (own:List Nat):∀k i o,(owF own k i o).length=o.length
 |0,i,o=>rfl
 |k+1,i,o=>by rw [owF,zbi own k,List.length_set]
theorem zhh {own:List Nat}:∀(k i:Nat) (o:List Nat) (j:Nat),j < o.length→
 (∀q,i≤q→q < i+k→yY.getD q 0=j→(owF own k i o).getD j 0=own.getD j 0)∧((∀q,i≤q→q < i+k→yY.getD q 0≠j)→(owF own k i o).getD j 0=o.getD j 0)
 |0,i,o,j,hj=>⟨fun q h1 h2=>by omega,fun _=>rfl⟩
 |k+1,i,o,j,hj=>by
  obtain ⟨g1,g2⟩:=zhh k (i+1) (o.set (yY.getD i 0) (own.getD (yY.getD i 0) 0)) j (by rw [List.length_set];exact hj)
  rw [owF]
  by_cases h2:yY.getD i 0=j
  ·have hv:(owF own k (i+1) (o.set (yY.getD i 0) (own.getD (yY.getD i 0) 0))).getD j 0=own.getD j 0:=by
    by_cases hq:∃q,i+1≤q∧q < i+1+k∧yY.getD q 0=j
    ·obtain ⟨q,q1,q2,q3⟩:=hq
     exact g1 q q1 q2 q3
    ·rw [g2 (fun q q1 q2 q3=>hq ⟨q,q1,q2,q3⟩),h2]
     simp [List.getD,hj]
   exact ⟨fun q _ _ _=>hv,fun h=>absurd h2 (h i (by omega) (by omega))⟩
  ·refine ⟨fun q q1 q2 q3=>?_,fun h=>?_⟩
   ·have hne:q≠i:=fun hh=>h2 (by rw [←hh];exact q3)
    exact g1 q (by omega) (by omega) q3
   ·rw [g2 (fun q q1 q2=>h q (by omega) (by omega))]
    generalize yY.getD i 0=oi at h2 ⊢
    simp only [List.getD_eq_getElem?_getD]
    rw [List.getElem?_set_ne h2]
theorem znF:∀j,j < 19→∃q,q < 19∧yY.getD q 0=j:=by decide
theorem znG {own:List Nat} {n:Nat} (hl:own.length=19) (hn:n≤19) (hz:∀i,n≤i→i < 19→own.getD (yY.getD i 0) 0=0):owF own n 0 (List.replicate 19 0)=own:=by
 refine List.ext_getElem (by rw [zbi,hl];simp) fun j h1 h2=>?_
 obtain ⟨g1,g2⟩:=zhh (own:=own) n 0 (List.replicate 19 0) j (by rw [List.length_replicate];omega)
 have e1:(owF own n 0 (List.replicate 19 0)).getD j 0=(owF own n 0 (List.replicate 19 0))[j]:=by rw [List.getD_eq_getElem?_getD,List.getElem?_eq_getElem h1];rfl
 have e2:own.getD j 0=own[j]:=by simp [List.getD,h2]
 rw [←e1,←e2]
 obtain ⟨q,q1,q2⟩:=znF j (by omega)
 by_cases hq:q < n
 ·exact g1 q (Nat.zero_le _) (by omega) q2
 ·by_cases hh:∃q',0≤q'∧q' < 0+n∧yY.getD q' 0=j
  ·obtain ⟨q',r1,r2,r3⟩:=hh
   exact g1 q' r1 r2 r3
  ·rw [g2 (fun q' r1 r2 r3=>hh ⟨q',r1,r2,r3⟩)]
   have:=hz q (by omega) q1
   rw [q2] at this
   rw [this]
   have hj19:j < 19:=by omega
   rw [List.getD_eq_getElem?_getD,List.getElem?_replicate,if_pos hj19]
   rfl
theorem zqP [W0] {d:List UInt8} {own:List Nat} {z:Nat} {s:S6} (hl:own.length=19) (h7:∀i,own.getD i 0≤7) (hk:kS own=32768) (hzz:z≤15) (hz:∀i,4+z≤i→i < 19→own.getD (yY.getD i 0) 0=0) (he:s.e=0) (h:Bi d s.t ((z,4)::owI own (4+z) 0)) :
 lcS d s=(⟨s.t+itL ((z,4)::owI own (4+z) 0),s.out,0⟩,own):=by
 obtain ⟨h1,h2⟩:=Bi.cons h (show z < 2 ^ 4 by omega)
 obtain ⟨e1,e2⟩:=YP h1
 have e3:=zoF (d:=d) h7 (4+z) 0 ⟨s.t+4,s.out,s.e⟩ (List.replicate 19 0) he h2
 rw [znG hl (by omega) hz] at e3
 unfold lcS
 rw [e1,e2,if_neg (fun hh=>hh he),e3,if_neg (show ¬(0:Nat)≠0 by decide),if_pos hk]
 rw [itL,zoE]
 simp only [Nat.add_assoc]
def hdI [W0] (own:List Nat) (n1 n2 z:Nat) (rs:List Rl):List (Nat × Nat):=(n1 - 257,5)::(n2 - 1,5)::((z,4)::owI own (4+z) 0)++rsI own rs
structure zhL (own:List Nat) (n1 n2 z:Nat) (rs:List Rl):Prop where
 n1a:257≤n1
 n1b:n1≤286
 n2a:1≤n2
 n2b:n2≤30
 ol:own.length=19
 o7:∀i,own.getD i 0≤7
 ok:kS own=32768
 zb:z≤15
 zz:∀i,4+z≤i→i < 19→own.getD (yY.getD i 0) 0=0
 ro:zbJ own 0 rs
 rn:rsN rs=n1+n2
 e256:(rsW rs []).getD 256 0≠0
 kl:kS ((rsW rs []).take n1)=32768
 kd:kS ((rsW rs []).drop n1)=32768∨sgl ((rsW rs []).drop n1)=true
theorem zhL.own {own:List Nat} {n1 n2 z:Nat} {rs:List Rl} (h:zhL own n1 n2 z rs):Cok own:=⟨by rw [h.ok];exact Nat.le_refl _,fun x hx=>by
 obtain ⟨i,hi,rfl⟩:=List.getElem_of_mem hx
 have:=h.o7 i
 rw [show own.getD i 0=own[i] from by simp [List.getD,hi]] at this
 omega⟩
theorem zpu [W0] {own:List Nat} {n1 n2 z:Nat} {rs:List Rl} (h:zhL own n1 n2 z rs):∀x∈hdI own n1 n2 z rs,x.1 < 2 ^ x.2:=by
 intro x hx
 have b1:=h.n1b
 have b2:=h.n2b
 have b3:=h.zb
 rcases List.mem_append.1 hx with hx|hx
 ·simp only [List.mem_cons] at hx
  rcases hx with rfl|rfl|rfl|hx
  ·simp only;omega
  ·simp only;omega
  ·simp only;omega
  ·exact zdl h.o7 _ _ x hx
 ·exact zlo h.ro x hx
theorem zqC [W0] {d:List UInt8} {own:List Nat} {n1 n2 z:Nat} {rs:List Rl} {s:S6} (hh:zhL own n1 n2 z rs) (he:s.e=0) (h:Bi d s.t (hdI own n1 n2 z rs)) :
 dyS d s=(⟨s.t+itL (hdI own n1 n2 z rs),s.out,0⟩,rsW rs [],n1):=by
 have b1:=hh.n1a
 have b2:=hh.n1b
 have b3:=hh.n2a
 have b4:=hh.n2b
 have b5:=hh.zb
 have hd2:hdI own n1 n2 z rs=(n1 - 257,5)::(n2 - 1,5)::(((z,4)::owI own (4+z) 0)++rsI own rs):=rfl
 rw [hd2] at h ⊢
 obtain ⟨h1,h⟩:=Bi.cons h (show n1 - 257 < 2 ^ 5 by omega)
 obtain ⟨h2,h⟩:=Bi.cons h (show n2 - 1 < 2 ^ 5 by omega)
 obtain ⟨h3,h4⟩:=Bi.app h (by
  intro x hx
  rcases List.mem_cons.1 hx with rfl|hx
  ·simp only;omega
  ·exact zdl hh.o7 _ _ x hx)
 obtain ⟨e1,e2⟩:=YP h1
 obtain ⟨e3,e4⟩:=YP (s:=⟨s.t+5,s.out,s.e⟩) h2
 have e5:=zqP (s:=⟨s.t+5+5,s.out,s.e⟩) hh.ol hh.o7 hh.ok hh.zb hh.zz he h3
 simp only at e3 e4 e5
 have e6:=zoJ (m:=n1+n2) hh.own rs (n1+n2) ⟨s.t+5+5+itL ((z,4)::owI own (4+z) 0),s.out,0⟩ [] rfl hh.ro (by rw [hh.rn];simp) (by omega) h4
 have hk:dyK n1 (⟨s.t+5+5+itL ((z,4)::owI own (4+z) 0)+itL (rsI own rs),s.out,0⟩,rsW rs [])=(⟨s.t+5+5+itL ((z,4)::owI own (4+z) 0)+itL (rsI own rs),s.out,0⟩,rsW rs [],n1):=by
  unfold dyK
  rw [if_pos ⟨hh.e256,hh.kl,hh.kd⟩]
 unfold dyS
 rw [e1,e2,if_neg (fun q=>q he),if_neg (show ¬29 < n1 - 257 by omega),e3,e4,if_neg (fun q=>q he),if_neg (show ¬29 < n2 - 1 by omega),show 257+(n1 - 257)=n1 by omega,show 1+(n2 - 1)=n2 by omega]
 unfold dyT
 rw [e5,if_neg (show ¬(0:Nat)≠0 by decide),e6,if_neg (show ¬(0:Nat)≠0 by decide),hk]
 simp only [itL,zw,List.cons_append,Nat.add_assoc]
theorem zqL [W0] {d:List UInt8} {most:Nat} {ts:List Tok} {s:S6} (he:s.e=0) (hf:ts.length≤8 * d.length) (hk:ze2 fxL fxD s.out.length ts) (hm:s.out.length+tsN ts≤most) (h:Bi d s.t (tsI fxL fxD ts++[sc fxL 256])) :
 bkS d most 1 s=⟨s.t+itL (tsI fxL fxD ts++[sc fxL 256]),tsW ts s.out,0⟩:=by
 unfold bkS
 rw [if_neg (by decide),if_pos rfl]
 exact zdV za3 za2 he (by omega) hk (by decide) hm h
theorem zoA {l:List Nat} (h:kS l=32768∨sgl l=true):kS l≤32768:=by
 have hs:=Qr l
 rcases h with h|h
 ·omega
 ·rw [uU] at h
  have:=of_decide_eq_true h
  omega
theorem zqB [W0] {d:List UInt8} {most:Nat} {own l dl:List Nat} {n1 n2 z:Nat} {rs:List Rl} {ts:List Tok} {s:S6} (hh:zhL own n1 n2 z rs) (hl:(rsW rs []).take n1=l) (hdl:(rsW rs []).drop n1=dl) (h15:∀x∈rsW rs [],x≤15) (he:s.e=0) (hf:ts.length≤8 * d.length)
 (hk:ze2 l dl s.out.length ts) (hm:s.out.length+tsN ts≤most) (h:Bi d s.t (hdI own n1 n2 z rs++(tsI l dl ts++[sc l 256]))) :
 bkS d most 2 s=⟨s.t+itL (hdI own n1 n2 z rs++(tsI l dl ts++[sc l 256])),tsW ts s.out,0⟩:=by
 obtain ⟨h1,h2⟩:=Bi.app h (zpu hh)
 have e1:=zqC hh he h1
 unfold bkS dbS
 rw [if_neg (by decide),if_neg (by decide),e1,if_neg (show ¬(0:Nat)≠0 by decide),hl,hdl]
 have hcl:Cok l:=⟨by rw [←hl,hh.kl];exact Nat.le_refl _,fun x hx=>h15 x (by rw [←hl] at hx;exact List.mem_of_mem_take hx)⟩
 have hcd:Cok dl:=⟨by rw [←hdl];exact zoA hh.kd,fun x hx=>h15 x (by rw [←hdl] at hx;exact List.mem_of_mem_drop hx)⟩
 have h256:0 < l.getD 256 0:=by
  have:=hh.e256
  have hb:=hh.n1a
  have hg:l.getD 256 0=(rsW rs []).getD 256 0:=by rw [←hl,List.getD_eq_getElem?_getD,List.getD_eq_getElem?_getD,List.getElem?_take,if_pos (by omega)]
  rw [hg];omega
 rw [zdV (s:=⟨s.t+itL (hdI own n1 n2 z rs),s.out,0⟩) hcl hcd rfl (by omega) hk h256 hm h2]
 simp only [zw,Nat.add_assoc]
theorem zq9 [W0] {d p:List UInt8} {most a:Nat} {s:S6} (he:s.e=0) (ha:a=8 * ((s.t+7) / 8)) (hp:p.length < 65536) (hm:s.out.length+p.length≤most) (h:At d a (p.length+2 ^ 16 * ((65535 - p.length)+2 ^ 16 * val p)) (16+(16+8 * p.length))) :
 bkS d most 0 s=⟨a+32+8 * p.length,s.out++p,0⟩:=by
 obtain ⟨h1,h⟩:=h.split (show p.length < 2 ^ 16 by omega)
 obtain ⟨h2,h3⟩:=h.split (show 65535 - p.length < 2 ^ 16 by omega)
 obtain ⟨e1,e2⟩:=YP (s:=⟨a,s.out,s.e⟩) h1
 obtain ⟨e3,e4⟩:=YP (s:=⟨a+16,s.out,s.e⟩) h2
 simp only at e1 e2 e3 e4
 unfold bkS
 rw [if_pos rfl]
 unfold stS
 simp only
 rw [←ha,e1,e2,e3,e4,if_pos (show p.length+(65535 - p.length)=65535 by omega)]
 rw [zlJ d most p ⟨a+16+16,s.out,s.e⟩ he hm h3]
theorem zlr [W0] {d:List UInt8} {most f h ty:Nat} {s s':S6} (he:s.e=0) (hh:h≤1) (ht:ty≤2) (ha:At d s.t (h+2 * ty) 3) (hb:bkS d most ty ⟨s.t+3,s.out,0⟩=s') (he':s'.e=0) :
 rwS d most (f+1) s=if h=1 then s' else rwS d most f s':=by
 obtain ⟨e1,e2⟩:=YP ha
 rw [rwS,e1,e2,if_neg (fun q=>q he),if_neg (show ¬5 < h+2 * ty by omega),he,show (h+2 * ty) / 2=ty by omega,hb,if_neg (fun q=>q he')]
 by_cases h1:h=1
 ·rw [if_pos h1,if_pos (by omega)]
 ·rw [if_neg h1,if_neg (by omega)]
theorem zo5 [W0] {a:List (Nat × Nat)} (h:∀x∈a,x.1 < 2 ^ x.2) (x:List UInt8):Bi (leB (itV a) ((itL a+7) / 8)++x) 0 a:=by
 have h0:=zo2 h
 obtain ⟨h1,h2⟩:=h0
 have hb:itL a≤8 * (leB (itV a) ((itL a+7) / 8)).length:=by omega
 refine ⟨?_,by rw [List.length_append];omega⟩
 rw [val_append,Nat.pow_zero,Nat.div_one]
 rw [Nat.pow_zero,Nat.div_one] at h1
 obtain ⟨k,hk⟩:∃k,8 * (leB (itV a) ((itL a+7) / 8)).length=itL a+k:=⟨_,(Nat.add_sub_cancel' hb).symm⟩
 rw [hk,Nat.pow_add,Nat.mul_assoc,Nat.add_mul_mod_self_left]
 exact h1
end Go.Df
namespace Go.Vx
open Go Go.WideMaps
variable [W0]
set_option linter.all false
omit [W0] in
def kv3 (l:List UInt8):Value:=.agg (bsv l).toArray
omit [W0] in
class KA (P:Program) (k:Nat) (e:outParam Nat):Prop where
 arr:ArrKey P k e 3
 byte:P.underlying e=some (.int .u8)
 pos:∃m,P.types.size=m+1
omit [W0] in
theorem zgw:∀{a b:List UInt8},bsv a=bsv b→a=b
 |[],[],_=>rfl
 |[],_::_,h=>by simp [bsv] at h
 |_::_,[],h=>by simp [bsv] at h
 |x::a,y::b,h=>by
  simp only [bsv,List.map_cons,List.cons.injEq,Value.int.injEq,true_and] at h
  have h1:x.toNat=y.toNat:=by omega
  rw [UInt8.toNat_inj.1 h1,zgw h.2]
omit [W0] in
theorem zno {a b:List UInt8} (h:kv3 a=kv3 b):a=b:=by
 unfold kv3 at h
 simp only [Value.agg.injEq] at h
 exact zgw (by simpa using congrArg Array.toList h)
omit [W0] in
theorem byte_wf (x:UInt8):(Lit.int .u8 (x.toNat:Int)).wf=true:=by
 have:=x.toNat_lt
 simp [Lit.wf,IntKind.wrap,IntKind.bits,IntKind.signed,IntKind.min,IntKind.max]
 omega
omit [W0] in
theorem KA.key {P:Program} {k e:Nat} (h:KA P k e) {l:List UInt8} (hl:l.length=3):∃q,keyOf P k (kv3 l)=some q:=by
 match l,hl with
 |[a,b,c],_=>
  obtain ⟨m,hm⟩:=h.pos
  have hk:=h.arr.keyType ⟨m,hm⟩
  have h1:∀(x:UInt8) (D:Nat),P.keyLits (D+1) e [.int .u8 (x.toNat:Int)]=some [.int .u8 (x.toNat:Int)]:=fun x D=>by
   unfold Program.keyLits
   rw [h.byte]
   simp only [byte_wf,and_self,if_true]
  have h2:P.keyLits (P.types.size+1) k [.int .u8 (a.toNat:Int),.int .u8 (b.toNat:Int),.int .u8 (c.toNat:Int)]=some [.int .u8 (a.toNat:Int),.int .u8 (b.toNat:Int),.int .u8 (c.toNat:Int)]:=by
   rw [hm]
   unfold Program.keyLits
   rw [h.arr.hu]
   simp only [h.arr.size,h.arr.one]
   rw [if_pos (by rfl)]
   simp only [List.range_succ,List.range_zero,List.nil_append,List.cons_append,List.mapM_cons,List.mapM_nil,List.drop,List.take,Nat.zero_mul,Nat.one_mul,Nat.mul_one,h1]
   rfl
  unfold keyOf
  rw [h.arr.hu]
  have hf:(kv3 [a,b,c]).formed P k=true:=by
   unfold kv3 Value.formed
   simp only [h.arr.hu,h.arr.size]
   rfl
  have hc:(kv3 [a,b,c]).cells.toList=[.int .u8 (a.toNat:Int),.int .u8 (b.toNat:Int),.int .u8 (c.toNat:Int)]:=by simp [kv3,bsv,Value.cells]
  simp only [hk,hf,hc,h2,Bool.and_self,if_true,Option.map_some]
  exact ⟨_,rfl⟩
omit [W0] in
structure MpR (es:Array MapEntry) (g:List UInt8→Option Nat):Prop where
 ent:∀e∈es.toList,∃l m,l.length=3∧e.key=kv3 l∧e.val=.int .i64 ((m:Nat):Int)∧g l=some m
 has:∀l m,l.length=3→g l=some m→∃e∈es.toList,e.key=kv3 l
 one:∀(i j:Nat) (e f:MapEntry),es[i]? =some e→es[j]? =some f→e.key=f.key→i=j
omit [W0] in
theorem MpR.nil:MpR #[] (fun _=>none):=⟨fun e h=>by simp at h,fun l m _ h=>by simp at h,fun i j e f h=>by simp at h⟩
omit [W0] in
def ups (g:List UInt8→Option Nat) (l:List UInt8) (m:Nat):List UInt8→Option Nat:=fun q=>if q=l then some m else g q
omit [W0] in
theorem MpR.find {P:Program} {k e:Nat} (hk:KA P k e) {es:Array MapEntry} {g:List UInt8→Option Nat} (h:MpR es g) {l:List UInt8} (hl:l.length=3) (w:World) :
 (g l=none∧(Instr.findKey k (kv3 l) es.toList).run P w=.ok none w∧∀x∈es.toList,x.key≠kv3 l)∨
 ∃m j x,g l=some m∧(Instr.findKey k (kv3 l) es.toList).run P w=.ok (some (j,.int .i64 ((m:Nat):Int))) w∧es[j]? =some x∧x.key=kv3 l:=by
 obtain ⟨q,hq⟩:=hk.key hl
 have hall:∀x∈es.toList,∃y,keyOf P k x.key=some y:=fun x hx=>by
  obtain ⟨l',m',h1,h2,_⟩:=h.ent x hx
  rw [h2]
  exact hk.key h1
 rcases hk.arr.law.find w hq es.toList hall with ⟨h1,h2⟩|⟨j,x,h1,h2,h3⟩
 ·left
  refine ⟨?_,h1,h2⟩
  cases hg:g l with
  |none=>rfl
  |some m=>
   obtain ⟨x,hx,hxk⟩:=h.has l m hl hg
   exact absurd hxk (h2 x hx)
 ·right
  have hx:x∈es.toList:=List.mem_of_getElem? h2
  obtain ⟨l',m,g1,g2,g3,g4⟩:=h.ent x hx
  rw [h3] at g2
  have e:=zno g2
  subst e
  exact ⟨m,j,x,g4,by rw [h1,g3],by simpa using h2,h3⟩
section
variable {P : Program} {n : Nat} {Q : Exit → Act → World → Prop} {M : List (Nat × Value)} {L : List Chunk} {K : List (Nat × Value) → List Chunk → Prop}
variable {d : Nat} {ty : TypeId} {ps : String} {af : Array Edge} {g : Option (Nat × Bool)} {x y z : Operand} {v : Value}
theorem zfe {t:Nat} (hn:Nat.blt d n=true) (h:∀b,K ((d,.map (some b))::M) ([(b,.map #[] 0)]::L)):OW P n ⟨some d,.makeMap t none,ty,ps,af,g⟩ K M L:=
 uX (f:=fun b=>.map (some b)) rfl hn (fun a w ha hw=>by
  simp only [execOp,Option.map_none,Sem.run_bind,show (Instr.makeMap t none).run P w=.ok (.map (some w.heap.size)) (w.alloc (.map #[] 0)) from rfl,Result.andThen_ok,Sem.run_pure]) h
theorem ziz {mt kt et e b c:Nat} {es:Array MapEntry} {f:List UInt8→Option Nat} {l:List UInt8} (hm:P.underlying mt=some (.map kt et)) [hz:ZV P et (.int .i64 0)] [hk:KA P kt e] (hx:ev M x=some (.map (some b))) (hy:ev M y=some (kv3 l)) (hl:l.length=3)
 (hf:Fnd L b (.map es c)) (hr:MpR es f):EV P n ⟨some d,.lookup mt x y true,ty,ps,af,g⟩ M L d (.tuple #[.int .i64 (((f l).getD 0:Nat):Int),.bool (f l).isSome]):=
 ⟨rfl,fun a w ha hw=>by
   obtain ⟨q,hq⟩:=hk.key hl
   have hb:=hf.get hw
   have hc:=hk.arr.law.check w es.isEmpty hq
   simp only [execOp,ha.eval hx,ha.eval hy,Instr.lookup,Sem.run_bind,run_underlying hm,Go.MapKept.run_getObj_map hb,Result.andThen_ok,Sem.run_pure,hc]
   rcases hr.find hk hl w with ⟨h1,h2,_⟩|⟨m,j,x,h1,h2,_⟩
   ·simp only [h2,h1,Result.andThen_ok,Sem.run_bind,vN hz.out,Sem.run_pure]
    rfl
   ·simp only [h2,h1,Result.andThen_ok,Sem.run_bind,Sem.run_pure]
    rfl⟩
omit [W0] in
theorem zj1 (es:Array MapEntry) (j:Nat) (f:MapEntry→MapEntry) (i:Nat):(es.modify j f)[i]? =if j=i then (es[i]?).map f else es[i]? :=by
 rw [Array.getElem?_modify]
omit [W0] in
theorem MpR.push {es:Array MapEntry} {f:List UInt8→Option Nat} (h:MpR es f) {l:List UInt8} (hl:l.length=3) (m c:Nat) (hno:∀x∈es.toList,x.key≠kv3 l) :
 MpR (es.push { key:=kv3 l,val:=.int .i64 ((m:Nat):Int),born:=c }) (ups f l m):=by
 refine ⟨fun e he=>?_,fun q r hq hr=>?_,fun i j e e' hi hj hk=>?_⟩
 ·simp only [Array.toList_push,List.mem_append,List.mem_singleton] at he
  rcases he with he|rfl
  ·obtain ⟨l',m',h1,h2,h3,h4⟩:=h.ent e he
   refine ⟨l',m',h1,h2,h3,?_⟩
   unfold ups
   rw [if_neg (fun hh=>hno e he (by rw [h2,hh]))]
   exact h4
  ·exact ⟨l,m,hl,rfl,rfl,by unfold ups;rw [if_pos rfl]⟩
 ·unfold ups at hr
  split at hr
  ·rename_i hh
   exact ⟨_,by simp only [Array.toList_push,List.mem_append,List.mem_singleton];exact .inr rfl,by rw [hh]⟩
  ·obtain ⟨e,he,hk⟩:=h.has q r hq hr
   exact ⟨e,by simp only [Array.toList_push,List.mem_append];exact .inl he,hk⟩
 ·rw [Array.getElem?_push] at hi hj
  have hnew:∀(i:Nat) (e:MapEntry),es[i]? =some e→e.key≠kv3 l:=fun i e hi=>hno e (List.mem_of_getElem? (by simpa using hi))
  split at hi<;>split at hj
  ·omega
  ·cases hi
   exact absurd hk.symm (hnew j e' hj)
  ·cases hj
   exact absurd hk (hnew i e hi)
  ·exact h.one i j e e' hi hj hk
omit [W0] in
def zjK (l:List UInt8) (m:Nat) (e:MapEntry):MapEntry:={ e with key:=kv3 l,val:=.int .i64 ((m:Nat):Int) }
omit [W0] in
theorem MpR.mod {es:Array MapEntry} {f:List UInt8→Option Nat} (h:MpR es f) {l:List UInt8} (hl:l.length=3) (m:Nat) {j:Nat} {x:MapEntry} (hj:es[j]? =some x) (hx:x.key=kv3 l) :
 MpR (es.modify j (zjK l m)) (ups f l m):=by
 have hg:∀(i:Nat) (e:MapEntry),(es.modify j (zjK l m))[i]? =some e→∃e0:MapEntry,es[i]? =some e0∧e.key=e0.key∧((i=j∧e.key=kv3 l∧e.val=.int .i64 ((m:Nat):Int))∨(i≠j∧e=e0)):=by
  intro i e hi
  rw [zj1] at hi
  split at hi
  ·rename_i hh
   subst hh
   rw [hj] at hi
   simp only [Option.map_some,Option.some.injEq] at hi
   subst hi
   exact ⟨x,hj,hx.symm,.inl ⟨rfl,rfl,rfl⟩⟩
  ·exact ⟨e,hi,rfl,.inr ⟨fun hh=>by omega,rfl⟩⟩
 refine ⟨fun e he=>?_,fun q r hq hr=>?_,fun i i' e e' hi hi' hk=>?_⟩
 ·obtain ⟨i,hi⟩:=List.getElem?_of_mem he
  obtain ⟨e0,g1,g2,g3⟩:=hg i e (by rw [←Array.getElem?_toList];exact hi)
  rcases g3 with ⟨rfl,g4,g5⟩|⟨g4,rfl⟩
  ·exact ⟨l,m,hl,g4,g5,by unfold ups;rw [if_pos rfl]⟩
  ·obtain ⟨l',m',h1,h2,h3,h4⟩:=h.ent e (List.mem_of_getElem? (by rw [Array.getElem?_toList];exact g1))
   refine ⟨l',m',h1,h2,h3,?_⟩
   unfold ups
   rw [if_neg (fun hh=>g4 (h.one i j e x g1 hj (by rw [h2,hx,hh])))]
   exact h4
 ·unfold ups at hr
  have hin:∀(i:Nat) (e:MapEntry),es[i]? =some e→∃e'∈(es.modify j (zjK l m)).toList,e'.key=e.key:=by
   intro i e hi
   have hgm:=zj1 es j (zjK l m) i
   by_cases hh:j=i
   ·subst hh
    rw [hj] at hi
    cases hi
    rw [if_pos rfl,hj] at hgm
    exact ⟨zjK l m x,List.mem_of_getElem? (i:=j) (by rw [Array.getElem?_toList];exact hgm),hx.symm⟩
   ·rw [if_neg hh,hi] at hgm
    exact ⟨e,List.mem_of_getElem? (i:=i) (by rw [Array.getElem?_toList];exact hgm),rfl⟩
  split at hr
  ·rename_i hh
   obtain ⟨e',h1,h2⟩:=hin j x hj
   exact ⟨e',h1,by rw [h2,hx,hh]⟩
  ·obtain ⟨e,he,hk⟩:=h.has q r hq hr
   obtain ⟨i,hi⟩:=List.getElem?_of_mem he
   obtain ⟨e',h1,h2⟩:=hin i e (by rw [←Array.getElem?_toList];exact hi)
   exact ⟨e',h1,by rw [h2,hk]⟩
 ·obtain ⟨e0,g1,g2,_⟩:=hg i e hi
  obtain ⟨e1,g3,g4,_⟩:=hg i' e' hi'
  exact h.one i i' e0 e1 g1 g3 (by rw [←g2,←g4,hk])
omit [W0] in
def MpD (b:Nat) (f:List UInt8→Option Nat) (C:Chunk):Prop:=∃es c,C=[(b,.map es c)]∧MpR es f
theorem ziA {mt kt et e b:Nat} {f:List UInt8→Option Nat} {l:List UInt8} {C:Chunk} (hm:P.underlying mt=some (.map kt et)) [hz:ZV P et (.int .i64 0)] [hk:KA P kt e] (hx:ev M x=some (.map (some b))) (hy:ev M y=some (kv3 l)) (hl:l.length=3)
 (hr:MpD b f C) (hi:Inc [C] L):EV P n ⟨some d,.lookup mt x y true,ty,ps,af,g⟩ M L d (.tuple #[.int .i64 (((f l).getD 0:Nat):Int),.bool (f l).isSome]):=by
 obtain ⟨es,c,rfl,hr⟩:=hr
 obtain ⟨R,hp⟩:=hi
 exact ziz hm hx hy hl (Fnd.perm .here hp.symm) hr
theorem ziJ {mt kt et e b m:Nat} {f:List UInt8→Option Nat} {l:List UInt8} {C:Chunk} {A B:List Chunk} (hm:P.underlying mt=some (.map kt et)) [hk:KA P kt e] (hx:ev M x=some (.map (some b))) (hy:ev M y=some (kv3 l)) (hl:l.length=3) (hv:ev M z=some (.int .i64 ((m:Nat):Int)))
 (hr:MpD b f C) (hzip:Zip C L A B) (h:∀C',MpD b (ups f l m) C'→K M (A++C'::B)):OW P n ⟨none,.mapUpdate mt x y z,ty,ps,af,g⟩ K M L:=⟨fun a w next Q ha hw hk'=>by
 obtain ⟨es,c,rfl,hr⟩:=hr
 have hL:=hzip.eq
 subst hL
 have hw':=hw.perm List.perm_middle
 have hb:w.heap[b]? =some (.map es c):=(Fnd.here (L:=A++B)).get hw'
 have hlt:b < w.heap.size:=by
  rcases Nat.lt_or_ge b w.heap.size with h'|h'
  ·exact h'
  ·simp [Array.getElem?_eq_none h'] at hb
 obtain ⟨q,hq⟩:=hk.key hl
 have hc:=hk.arr.law.check w false hq
 have hst:=hk.arr.law.stays w hq
 obtain ⟨es',c',hr',hrun⟩:∃es' c',MpR es' (ups f l m)∧(execOp a.eval ⟨none,.mapUpdate mt x y z,ty,ps,af,g⟩).run P w=.ok .skip { w with heap:=w.heap.setIfInBounds b (.map es' c') }:=by
  rcases hr.find hk hl w with ⟨h1,h2,h3⟩|⟨m0,j,e0,h1,h2,h3,h4⟩
  ·refine ⟨_,c+1,hr.push hl m c h3,?_⟩
   simp only [execOp,ha.eval hx,ha.eval hy,ha.eval hv,Instr.mapUpdate,Sem.run_bind,run_underlying hm,Go.MapKept.run_getObj_map hb,Result.andThen_ok,Sem.run_pure,hc,h2,Go.MapKept.run_setObj_map _ hb]
  ·refine ⟨_,c,hr.mod hl m h3 h4,?_⟩
   simp only [execOp,ha.eval hx,ha.eval hy,ha.eval hv,Instr.mapUpdate,Sem.run_bind,run_underlying hm,Go.MapKept.run_getObj_map hb,Result.andThen_ok,Sem.run_pure,hc,h2,h3,Option.map_some,Option.getD_some,h4,hst,Go.MapKept.run_setObj_map _ hb]
   rfl
 unfold Oper.wp
 rw [hrun,Oper.upon_skip]
 refine (hk' _ _ (h [(b,.map es' c')] ⟨es',c',rfl,hr'⟩)).out _ _ ha (Holds.perm (L:=[(b,.map es' c')]::(A++B)) ?_ List.perm_middle.symm)
 refine hw'.upd Upd.front ?_ (fun c2 hc2=>?_) rfl rfl
 ·show (w.heap.setIfInBounds b _)[b]? =_
  rw [Array.getElem?_setIfInBounds_self_of_lt hlt]
 ·show (w.heap.setIfInBounds b _)[c2]? =_
  rw [Array.getElem?_setIfInBounds_ne (fun hh=>hc2 hh.symm)]⟩
theorem ziD {t e len k:Nat} [hs:AR P t e len k] {a0:Addr} {m cap:Nat} (hx:ev M x=some (.slice (some a0) m cap)) (hm:len≤m):EV P n ⟨some d,.sliceToArrayPointer t x,ty,ps,af,g⟩ M L d (.pointer (some a0)):=
 ⟨rfl,fun a w ha _=>by
   obtain ⟨hu,_⟩:=hs.parts
   have:¬m < len:=by omega
   simp [execOp,ha.eval hx,Instr.arrayAt,run_underlying hu,this]⟩
omit [W0] in
theorem znU {L:List Chunk} {a:Addr} {xs:List Value} (h:zK L a xs) (k:Nat):zK L a (xs.take k):=by
 rcases h with h0|⟨b,off,cc,TT,fr,h1,h2,h3⟩
 ·exact .inl (by rw [h0];simp)
 ·refine .inr ⟨b,off,cc,TT,fr,h1,h2,fun j u hj=>?_⟩
  rw [List.getElem?_take] at hj
  split at hj
  ·exact h3 _ _ hj
  ·cases hj
omit [W0] in
structure Rs (L:List Chunk) (k:Nat) (v:Value) (m:Nat) (xs:List Value):Prop where
 sl:Sl L k v m xs
 room:∃a c,v=.slice a m c∧m≤c
theorem Rs.sub {L L':List Chunk} (hs:∀x∈L.flatten,x∈L'.flatten) {k m:Nat} {v:Value} {xs:List Value} (h:Rs L k v m xs):Rs L' k v m xs:=⟨zlG hs h.sl,h.room⟩
theorem Rs.there {L:List Chunk} {C:Chunk} {k m:Nat} {v:Value} {xs:List Value} (h:Rs L k v m xs):Rs (C::L) k v m xs:=⟨zm h.sl,h.room⟩
theorem Rs.ow {e k m:Nat} {v:Value} {xs:List Value} {C:Chunk} {L:List Chunk} (h:Ow e k v m xs C):Rs (C::L) k v m xs:=by
 refine ⟨qz h,?_⟩
 rcases h with ⟨rfl,rfl,_⟩|⟨b,cap,rest,rfl,_,_,_,hmc,_⟩
 ·exact ⟨_,_,rfl,Nat.le_refl _⟩
 ·exact ⟨_,_,rfl,hmc⟩
theorem Rs.one {L:List Chunk} {k m:Nat} {v:Value} {xs:List Value} (h:Rs L k v m xs):v.oneCell'=true:=by obtain ⟨a,c,rfl,_⟩:=h.room;rfl
theorem Rs.nil {L:List Chunk} {k:Nat}:Rs L k (.slice none 0 0) 0 []:=⟨.inl ⟨0,rfl,rfl,rfl⟩,none,0,rfl,Nat.le_refl _⟩
theorem Rs.len {L:List Chunk} {k m:Nat} {v:Value} {xs:List Value} (h:Rs L k v m xs):xs.length=m * k:=by
 rcases h.sl with ⟨c,rfl,rfl,rfl⟩|⟨a,cap,rfl,_,hl⟩
 ·simp
 ·exact hl
theorem yR {P:Program} {T e k by_:Nat} [hs:SL P T e k by_] {v:Value} {m:Nat} {xs:List Value} {L0:List Chunk} (hO:Rs L0 k v m xs) {l h:Nat} (h1:l≤h) (h2:h≤m) :
 ∃r,Rs L0 k r (h - l) ((xs.drop (l * k)).take ((h - l) * k))∧∀{n:Nat} {M:List (Nat × Value)} {L:List Chunk} {d:Nat} {ty:TypeId} {ps:String} {af:Array Edge} {g:Option (Nat × Bool)} {x:Operand} {lo hi:Option Operand},
  ev M x=some v→bnd M lo 0=some (l:Int)→bnd M hi m=some (h:Int)→EV P n ⟨some d,.slice T x lo hi none,ty,ps,af,g⟩ M L d r:=by
 obtain ⟨a,c,rfl,hmc⟩:=hO.room
 have hlen:=hO.len
 refine ⟨.slice (if c=l then a else a.map (·.add (l * k))) (h - l) (c - l),⟨?_,_,_,rfl,by omega⟩,?_⟩
 ·rcases hO.sl with ⟨c',hv,rfl,rfl⟩|⟨a',cap,hv,hr,hl⟩
  ·cases hv
   refine .inl ⟨c - l,?_,by omega,by simp⟩
   rw [show h - l=0 from by omega]
   split<;>rfl
  ·cases hv
   refine .inr ⟨if c=l then a' else a'.add (l * k),c - l,by split<;>rfl,?_,?_⟩
   ·rcases hr with h0|⟨b,off,cc,TT,fr,rfl,hf,hc⟩
    ·subst h0
     exact .inl (by simp)
    ·by_cases hcl:c=l
     ·rw [if_pos hcl]
      refine .inl ?_
      rw [show h - l=0 from by omega,Nat.zero_mul,List.take_zero]
     ·rw [if_neg hcl,addr_add]
      refine .inr ⟨b,off+l * k,cc,TT,fr,rfl,hf,fun j u hj=>?_⟩
      rw [List.getElem?_take] at hj
      split at hj
      ·rw [List.getElem?_drop] at hj
       rw [Nat.add_assoc]
       exact hc _ _ hj
      ·cases hj
   ·rw [List.length_take,List.length_drop,hlen]
    have:(h - l) * k≤m * k - l * k:=by rw [←Nat.sub_mul];exact Nat.mul_le_mul_right k (by omega)
    omega
 ·intro n M L d ty ps af g x lo hi hx hl hh
  exact ⟨rfl,fun a' w ha _=>by
   obtain ⟨hu,i',hi',hk',_,hk0⟩:=hs.parts
   simp [execOp,ha.eval hx,Instr.sliceAt,Instr.slice,underlying,hu,qO ha hl hh h1 (show h≤c by omega),sizeOf,typeInfo,hi',hk']⟩
end
end Go.Vx
namespace Go.Vx
theorem Inc.mem [W0] {S L:List Chunk} (h:Inc S L):∀x∈S.flatten,x∈L.flatten:=by
 obtain ⟨R,hp⟩:=h
 intro x hx
 exact hp.flatten.mem_iff.2 (by rw [List.flatten_append];exact List.mem_append_left _ hx)
theorem iM [W0] {S L:List Chunk} (h:Inc S L:=by exact (by repeat (first|exact Inc.refl|exact Inc.nil|(show Inc (_::_) _;refine Inc.cons (by repeat (first|exact Take.here|apply Take.there)) ?_)|refine Inc.skip ?_))):∀x∈S.flatten,x∈L.flatten:=h.mem
end Go.Vx
namespace Go.Df
open Go.Vx Go.If
set_option linter.all false
def vF (v:Nat):Nat:=if v=0 then 0 else Nat.log2 v+1
def plF (v st:Nat):Nat:=st * (vF (v / st) - 1)+v / 2 ^ (vF (v / st) - 1)
def olN (n:Nat):Nat:=if n=258 then 285 else 257+plF (n - 3) 4
def odN (d:Nat):Nat:=plF (d - 1) 2
theorem zkw {v k:Nat} (h1:2 ^ k≤v) (h2:v < 2 ^ (k+1)):vF v=k+1:=by
 have h0:v≠0:=by have:0 < 2 ^ k:=Nat.pow_pos (by decide);omega
 unfold vF
 rw [if_neg h0,show Nat.log2 v=k from (Nat.log2_eq_iff h0).2 ⟨h1,h2⟩]
theorem zqW {v st:Nat} (hs:1≤st):spF (plF v st) st≤v∧v - spF (plF v st) st < 2 ^ spX (plF v st) st:=by
 by_cases h0:v / st=0
 ·have hv:v < st:=by
   rcases Nat.lt_or_ge v st with h|h
   ·exact h
   ·have:1≤v / st:=(Nat.le_div_iff_mul_le (by omega)).2 (by omega)
    omega
  have e:plF v st=v:=by unfold plF vF;rw [if_pos h0];simp
  unfold spF spX
  rw [e,if_pos (by omega),if_pos (by omega)]
  simp
 ·obtain ⟨k,hk⟩:∃k,k=Nat.log2 (v / st):=⟨_,rfl⟩
  have hlb:vF (v / st) - 1=k:=by unfold vF;rw [if_neg h0,hk];rfl
  have h1:=(Nat.log2_eq_iff h0).1 hk.symm
  have a1:2 ^ k * st≤v:=(Nat.le_div_iff_mul_le (by omega)).1 h1.1
  have a2:v < 2 ^ (k+1) * st:=(Nat.div_lt_iff_lt_mul (by omega)).1 h1.2
  have hp:0 < 2 ^ k:=Nat.pow_pos (by decide)
  have b1:st≤v / 2 ^ k:=(Nat.le_div_iff_mul_le hp).2 (by rw [Nat.mul_comm];exact a1)
  have b2:v / 2 ^ k < 2 * st:=(Nat.div_lt_iff_lt_mul hp).2 (by rw [Nat.pow_succ] at a2;rw [show 2 * st * 2 ^ k=2 ^ k * 2 * st from by rw [Nat.mul_comm (2 * st),Nat.mul_assoc]];exact a2)
  obtain ⟨m,hm⟩:∃m,m=v / 2 ^ k - st:=⟨_,rfl⟩
  have e:plF v st=st * k+(st+m):=by unfold plF;rw [hlb,hm];omega
  have hmod:=Nat.div_add_mod v (2 ^ k)
  have hml:=Nat.mod_lt v hp
  have hvk:v / 2 ^ k=st+m:=by omega
  rw [hvk] at hmod
  unfold spF spX
  rw [e]
  by_cases hk0:k=0
  ·subst hk0
   rw [if_pos (by omega),if_pos (by omega)]
   simp only [Nat.mul_zero,Nat.zero_add,Nat.pow_zero,Nat.one_mul] at hmod hml ⊢
   omega
  ·have h2:¬st * k+(st+m) < 2 * st:=by
    have:st * 1≤st * k:=Nat.mul_le_mul_left _ (by omega)
    omega
   have hmst:m < st:=by omega
   have e1:(st * k+(st+m)) / st=k+1:=by
    rw [show st * k+(st+m)=m+st * (k+1) from by rw [Nat.mul_add,Nat.mul_one];omega,Nat.add_mul_div_left _ _ (by omega),Nat.div_eq_of_lt hmst]
    omega
   have e2:(st * k+(st+m)) % st=m:=by
    rw [show st * k+(st+m)=m+st * (k+1) from by rw [Nat.mul_add,Nat.mul_one];omega,Nat.add_mul_mod_self_left,Nat.mod_eq_of_lt hmst]
   rw [if_neg h2,if_neg h2,e1,e2,show k+1 - 1=k from rfl,Nat.mul_comm]
   omega
theorem zfT {v st k:Nat} (hs:1≤st) (h:v < 2 ^ k * st) (hk:1≤k):plF v st < st * (k+1):=by
 by_cases h0:v / st=0
 ·have hv:v < st:=by
   rcases Nat.lt_or_ge v st with h|h
   ·exact h
   ·have:1≤v / st:=(Nat.le_div_iff_mul_le (by omega)).2 (by omega)
    omega
  have e:plF v st=v:=by unfold plF vF;rw [if_pos h0];simp
  rw [e]
  have:st * 1≤st * (k+1):=Nat.mul_le_mul_left _ (by omega)
  omega
 ·obtain ⟨j,hj⟩:∃j,j=Nat.log2 (v / st):=⟨_,rfl⟩
  have hlb:vF (v / st) - 1=j:=by unfold vF;rw [if_neg h0,hj];rfl
  have h1:=(Nat.log2_eq_iff h0).1 hj.symm
  have a1:2 ^ j * st≤v:=(Nat.le_div_iff_mul_le (by omega)).1 h1.1
  have a2:v < 2 ^ (j+1) * st:=(Nat.div_lt_iff_lt_mul (by omega)).1 h1.2
  have hp:0 < 2 ^ j:=Nat.pow_pos (by decide)
  have b2:v / 2 ^ j < 2 * st:=(Nat.div_lt_iff_lt_mul hp).2 (by rw [Nat.pow_succ] at a2;rw [show 2 * st * 2 ^ j=2 ^ j * 2 * st from by rw [Nat.mul_comm (2 * st),Nat.mul_assoc]];exact a2)
  have hjk:j < k:=by
   rcases Nat.lt_or_ge j k with h'|h'
   ·exact h'
   ·have:2 ^ k≤2 ^ j:=Nat.pow_le_pow_right (by decide) h'
    have:=Nat.mul_le_mul_right st this
    omega
  have h3:st * j≤st * (k - 1):=Nat.mul_le_mul_left _ (by omega)
  have h4:st * (k+1)=st * (k - 1)+2 * st:=by
   rw [show k+1=(k - 1)+2 from by omega,Nat.mul_add];omega
  unfold plF
  rw [hlb]
  omega
theorem Xx {n:Nat} (h3:3≤n) (h:n≤258):257≤olN n∧olN n≤285∧(lnB (olN n)).1≤n∧n - (lnB (olN n)).1 < 2 ^ (lnB (olN n)).2:=by
 have:∀n,n < 259→3≤n→257≤olN n∧olN n≤285∧(lnB (olN n)).1≤n∧n - (lnB (olN n)).1 < 2 ^ (lnB (olN n)).2:=by decide+kernel
 exact this n (by omega) h3
theorem Zj {d:Nat} (h1:1≤d) (h:d≤32768):odN d≤29∧baB 1 2 4 (odN d)≤d∧d - baB 1 2 4 (odN d) < 2 ^ exB (odN d) 2 4:=by
 have hb:odN d < 2 * (14+1):=zfT (v:=d - 1) (st:=2) (k:=14) (by decide) (by omega) (by decide)
 have hp:=zqW (v:=d - 1) (st:=2) (by decide)
 have hs:=zga (odN d) (by omega)
 have hp':spF (odN d) 2≤d - 1∧d - 1 - spF (odN d) 2 < 2 ^ spX (odN d) 2:=hp
 rw [hs.2] at hp'
 rw [←hs.1]
 exact ⟨by omega,by omega,by omega⟩
theorem zrj (s:ByteArray) (h:(List.range 256).all (fun i=>s[i]? == some (UInt8.ofNat (vF i)))=true) {w:Nat} (hw:w < 256):s[w]? =some (UInt8.ofNat (vF w)):=by
 rw [List.all_eq_true] at h
 have:=h w (by simpa using hw)
 simpa using this
theorem zgW:∀w,w < 256→vF w≤8:=by decide+kernel
theorem zkv {v:Nat} (h1:256≤v) (h2:v < 65536):vF v=8+vF (v / 256):=by
 have h0:v / 256≠0:=by omega
 have h3:=(Nat.log2_eq_iff h0).1 rfl
 obtain ⟨k,hk⟩:∃k,k=Nat.log2 (v / 256):=⟨_,rfl⟩
 rw [←hk] at h3
 have e1:vF (v / 256)=k+1:=zkw h3.1 h3.2
 have a1:2 ^ k * 256≤v:=(Nat.le_div_iff_mul_le (by decide)).1 h3.1
 have a2:v < 2 ^ (k+1) * 256:=(Nat.div_lt_iff_lt_mul (by decide)).1 h3.2
 have e2:vF v=k+8+1:=zkw (by rw [Nat.pow_add];exact a1) (by rw [show k+8+1=(k+1)+8 from by omega,Nat.pow_add];exact a2)
 omega
end Go.Df
namespace Go.Vx
variable [W0] {P : Program} {n : Nat} {M : List (Nat × Value)} {L : List Chunk} {d : Nat} {ty : TypeId} {ps : String} {af : Array Edge} {g : Option (Nat × Bool)} {x y : Operand}
theorem zmm {t u:TypeId} {k k':IntKind} {a s:Nat} (hx:ev M x=some (.int k (a:Int))) (hy:ev M y=some (.int k' (s:Int))) (hs:s≤k.bits) :
 EV P n ⟨some d,.binOp .shr t x y u,ty,ps,af,g⟩ M L d (.int k ((a / 2 ^ s:Nat):Int)):=by
 refine ZQ hx hy (by omega) ?_
 rw [Int.toNat_natCast,Nat.min_eq_left hs,Int.fdiv_eq_ediv_of_nonneg _ (by exact Int.le_of_lt (Int.pow_pos (by decide)))]
 simp
end Go.Vx
namespace Go.Proofs.YtemdlifojcgplaaGreatDoor
open Go Go.Vx Go.Hf Go.If Go.Df
variable [W0]
set_option maxRecDepth 4000
set_option linter.all false
theorem zns (v:Nat) (L:List Chunk) (h:v < 65536):GvP Tryz.prog 211 [.int .u64 (v:Int)].toArray L (.int .i64 ((vF v:Nat):Int)):=by
 refine Gv.of_body Tryz.func211 rfl rfl ?_
 (repeat' first|refine kW ?_|refine kU fun bk=>?_|refine kV fun hc=>?_|refine kZ (fun hc=>?_) fun hc=>?_|fail)
 ·rw [zkv (by omega) h]
  obtain ⟨w,hw9⟩:∃w,w=v / 256:=⟨_,rfl⟩
  have hw:w < 256:=by omega
  rw [←hw9]
  have hle:=zgW w hw
  refine ze (yK (j:=w) (u:=UInt8.ofNat (vF w)) rfl rfl (by rw [wrap_u8];omega) (zrj _ (by kernel_rfl) hw)) rfl ?_
  rw [show ((UInt8.ofNat (vF w)).toNat:Int)=((vF w:Nat):Int) from by rw [UInt8.toNat_ofNat',Nat.mod_eq_of_lt (by omega)]]
  generalize vF w=z at hle ⊢
  refine jA ?_
  refine ze (zO (r:=(z:Int)) rfl (wrap_i64 (by omega) (by omega))) rfl ?_
  refine kW ?_
  refine kR ?_
  exact ⟨_,iC,by rw [Int.natCast_add];rfl,rfl⟩
 ·have hw:v < 256:=by omega
  have hle:=zgW v hw
  refine ze (yK (j:=v) (u:=UInt8.ofNat (vF v)) rfl rfl (by rw [wrap_u8];omega) (zrj _ (by kernel_rfl) hw)) rfl ?_
  rw [show ((UInt8.ofNat (vF v)).toNat:Int)=((vF v:Nat):Int) from by rw [UInt8.toNat_ofNat',Nat.mod_eq_of_lt (by omega)]]
  generalize vF v=z at hle ⊢
  refine jA ?_
  refine ze (zO (r:=(z:Int)) rfl (wrap_i64 (by omega) (by omega))) rfl ?_
  refine kW ?_
  refine kR ?_
  exact ⟨_,iC,by simp [zV],rfl⟩
theorem zqQ (v:Nat) (L:List Chunk) (h:v < 65536):GvP Tryz.prog 260 [.int .u64 (v:Int)].toArray L (.int .i64 ((vF v:Nat):Int)):=by
 refine Gv.of_body Tryz.func260 rfl rfl ?_
 have h6:=zns v L h
 refine kW ?_
 refine cP rfl rfl h6 ?_
 refine kW ?_
 refine kR ?_
 exact ⟨_,iC,rfl,rfl⟩
theorem zhk (v st:Nat) (L:List Chunk) (hv:v < 65536) (h1:1≤st) (h2:st≤4):GvP Tryz.prog 242 [.int .i64 (v:Int),.int .i64 (st:Int)].toArray L (.int .i64 ((plF v st:Nat):Int)):=by
 refine Gv.of_body Tryz.func242 rfl rfl ?_
 have hq:v / st≤v:=Nat.div_le_self _ _
 have hl:=zqQ (v / st) L (by omega)
 have hb:vF (v / st)≤16:=by
  unfold vF
  split
  ·omega
  ·rename_i h0
   have:=(Nat.log2_lt h0).2 (show v / st < 2 ^ 16 by omega)
   omega
 unfold plF
 refine kW ?_
 refine ze (uN v st rfl rfl rfl rfl (by omega) (by omega)) rfl ?_
 generalize v / st=y at hl hb hq ⊢
 refine kW ?_
 refine cP rfl rfl hl ?_
 generalize vF y=z at hb ⊢
 refine kW ?_
 rw [show max (0:Int) ((z:Int) - 1)=((z - 1:Nat):Int) from by omega]
 obtain ⟨x,hx⟩:∃x,x=z - 1:=⟨_,rfl⟩
 rw [←hx]
 have hst:st * x≤4 * 16:=Nat.mul_le_mul h2 (by omega)
 have hv2:v / 2 ^ x≤v:=Nat.div_le_self _ _
 refine ze (qU (r:=((st * x:Nat):Int)) rfl rfl (by simp [zdQ]) (by omega)) rfl ?_
 refine kW ?_
 refine ze (zmm (k:=.i64) (a:=v) (s:=x) rfl rfl (by simp only [IntKind.bits];omega)) rfl ?_
 generalize st * x=A at hst ⊢
 generalize v / 2 ^ x=B at hv2 ⊢
 refine kW ?_
 rw [show (A:Int)+(B:Int)=((A+B:Nat):Int) from by omega]
 refine kR ?_
 exact ⟨_,iC,rfl,rfl⟩
theorem zpO (n:Nat) (L:List Chunk) (h3:3≤n) (h:n≤258):GvP Tryz.prog 229 [.int .i64 (n:Int)].toArray L (.int .i64 ((olN n:Nat):Int)):=by
 refine Gv.of_body Tryz.func229 rfl rfl ?_
 have hp:=zhk (n - 3) 4 L (by omega) (by decide) (by decide)
 have hb:=Xx h3 h
 unfold olN at *
 (repeat' first|refine kW ?_|refine kU fun bk=>?_|refine kV fun hc=>?_|refine kZ (fun hc=>?_) fun hc=>?_|fail)
 ·rw [if_pos (show n=258 by omega)]
  refine kR ?_
  exact ⟨_,iC,rfl,rfl⟩
 ·rw [if_neg (show ¬n=258 by omega)] at hb ⊢
  rw [show (n:Int) - 3=((n - 3:Nat):Int) from by omega]
  refine cP rfl rfl hp ?_
  generalize plF (n - 3) 4=z at hb ⊢
  refine kW ?_
  rw [show (257:Int)+(z:Int)=((257+z:Nat):Int) from by omega]
  refine kR ?_
  exact ⟨_,iC,rfl,rfl⟩
theorem zhc (d:Nat) (L:List Chunk) (h1:1≤d) (h:d≤32768):GvP Tryz.prog 206 [.int .i64 (d:Int)].toArray L (.int .i64 ((odN d:Nat):Int)):=by
 refine Gv.of_body Tryz.func206 rfl rfl ?_
 have hp:=zhk (d - 1) 2 L (by omega) (by decide) (by decide)
 unfold odN
 refine kW ?_
 rw [show (d:Int) - 1=((d - 1:Nat):Int) from by omega]
 refine cP rfl rfl hp ?_
 refine kW ?_
 refine kR ?_
 exact ⟨_,iC,rfl,rfl⟩
end Go.Proofs.YtemdlifojcgplaaGreatDoor
namespace Go.Vx
open Go
set_option linter.all false
def flt {α:Type} (f:α→List Value):List α→List Value
 |[]=>[]
 |x::r=>f x++flt f r
theorem uR {α:Type} (f:α→List Value):∀a b,flt f (a++b)=flt f a++flt f b
 |[],b=>rfl
 |x::a,b=>by simp only [List.cons_append,flt,uR f a b,List.append_assoc]
theorem XZ {α:Type} {f:α→List Value} (h:∀x,ones (f x)=true):∀a,ones (flt f a)=true
 |[]=>rfl
 |x::a=>by
  have h1:=h x
  have h2:=XZ h a
  simp only [ones] at h1 h2 ⊢
  simp only [flt,List.all_append,h1,h2,Bool.and_self]
theorem XY {α:Type} {f:α→List Value} {k:Nat} (h:∀x,(f x).length=k):∀(a:List α) (n:Nat),(flt f a).drop (n * k)=flt f (a.drop n)
 |a,0=>by simp
 |[],n+1=>by simp [flt]
 |x::a,n+1=>by
  rw [flt,List.drop_succ_cons,←XY h a n,Nat.succ_mul,List.drop_append,h,show n * k+k - k=n * k from by omega,List.drop_of_length_le (by rw [h];omega),List.nil_append]
theorem zaZ {α:Type} {f:α→List Value} {k:Nat} (h:∀x,(f x).length=k):∀(a:List α) (n:Nat),(flt f a).take (n * k)=flt f (a.take n)
 |a,0=>by simp [flt]
 |[],n+1=>by simp [flt]
 |x::a,n+1=>by
  rw [flt,List.take_succ_cons,flt,←zaZ h a n,Nat.succ_mul,List.take_append,h,show n * k+k - k=n * k from by omega,List.take_of_length_le (by rw [h];omega)]
theorem Yv {α:Type} {f:α→List Value} {k:Nat} (h:∀x,(f x).length=k) {a:List α} {j:Nat} {x:α} (hj:a[j]? =some x):cut (flt f a) (j * k) k=f x:=by
 unfold cut
 rw [XY h]
 have hlt:j < a.length:=by
  rcases Nat.lt_or_ge j a.length with h'|h'
  ·exact h'
  ·simp [List.getElem?_eq_none h'] at hj
 have hx:a[j]=x:=by rw [List.getElem?_eq_getElem hlt] at hj;simpa using hj
 rw [List.drop_eq_getElem_cons hlt,hx,flt,List.take_append_of_le_length (by rw [h];exact Nat.le_refl _),List.take_of_length_le (by rw [h];exact Nat.le_refl _)]
theorem Rs.elem [W0] {L:List Chunk} {k m:Nat} {v:Value} {xs:List Value} (h:Rs L k v m xs) {j:Nat} (hj:j < m) (hk:0 < k) :
 ∃b off cap,v=.slice (some ⟨b,off,none⟩) m cap∧zK L ⟨b,off+j * k,none⟩ (cut xs (j * k) k):=by
 have hlen:=h.len
 have hjk:j * k+k≤m * k:=by rw [←Nat.succ_mul];exact Nat.mul_le_mul_right k hj
 rcases h.sl with ⟨c,rfl,rfl,_⟩|⟨a,cap,rfl,hr,hl⟩
 ·omega
 ·rcases hr with h0|⟨b,off,cc,TT,fr,rfl,hf,hc⟩
  ·rw [h0] at hlen
   simp only [List.length_nil] at hlen
   omega
  ·refine ⟨b,off,cap,rfl,.inr ⟨b,off+j * k,cc,TT,fr,rfl,hf,fun q u hq=>?_⟩⟩
   unfold cut at hq
   rw [List.getElem?_take] at hq
   split at hq
   ·rw [List.getElem?_drop] at hq
    rw [Nat.add_assoc]
    exact hc _ _ hq
   ·cases hq
theorem zK.sub [W0] {L L':List Chunk} (hs:∀x∈L.flatten,x∈L'.flatten) {a:Addr} {vs:List Value} (h:zK L a vs):zK L' a vs:=zfX hs h
end Go.Vx
namespace Go.Df
open Go.Vx Go.If Go.Hf
set_option linter.all false
def Zm (t:Nat × Nat):Prop:=(t.2=0∧t.1 < 256)∨(1≤t.2∧t.2≤32768∧3≤t.1∧t.1≤258)
def tsy (t:Nat × Nat):Nat:=if t.2=0 then t.1 else olN t.1
def tsz (t:Nat × Nat):Nat:=if t.2=0 then 1 else t.1
def tok (t:Nat × Nat):Tok:=if t.2=0 then .lit (UInt8.ofNat t.1) else .mt (olN t.1) (t.1 - (lnB (olN t.1)).1) (odN t.2) (t.2 - baB 1 2 4 (odN t.2))
theorem YR {t:Nat × Nat} (h:Zm t):tsy t < 286∧(t.2≠0→257≤tsy t)∧tsy t≠256:=by
 unfold tsy
 rcases h with ⟨h1,h2⟩|⟨h1,h2,h3,h4⟩
 ·rw [if_pos h1];exact ⟨by omega,fun h=>absurd h1 h,by omega⟩
 ·rw [if_neg (by omega)]
  have:=Xx h3 h4
  exact ⟨by omega,fun _=>this.1,by omega⟩
theorem zav [W0] {l dl:List Nat}:∀(a b:List Tok),tsI l dl (a++b)=tsI l dl a++tsI l dl b
 |[],b=>rfl
 |x::a,b=>by simp only [List.cons_append,tsI,zav a b,List.append_assoc]
theorem qd {α:Type} {l:List α} {j:Nat} {x:α} (h:l[j]? =some x):l.take (j+1)=l.take j++[x]:=by
 rw [List.take_succ,h];rfl
end Go.Df
namespace Go.Proofs.YtemdlifojcgplaaGreatDoor
open Go Go.Vx Go.Hf Go.If Go.Df
variable [W0]
set_option maxRecDepth 4000
set_option linter.all false
theorem cvW {n:Nat} (h:n < 4294967296):IntKind.u32.wrap (n:Int)=(n:Int):=yX (k:=.u32) rfl (by simp only [IntKind.bits];omega)
omit [W0] in
def TkV (t:Nat × Nat):List Value:=[.int .i64 (t.1:Int),.int .i64 (t.2:Int)]
omit [W0] in
theorem uj (t:Nat × Nat):(TkV t).length=2:=rfl
structure TkR (L:List Chunk) (v:Value) (ts:List (Nat × Nat)):Prop where
 rs:Rs L 2 v ts.length (flt TkV ts)
 ok:∀t∈ts,Zm t
theorem TkR.sub {L L':List Chunk} (hs:∀x∈L.flatten,x∈L'.flatten) {v:Value} {ts:List (Nat × Nat)} (h:TkR L v ts):TkR L' v ts:=⟨h.rs.sub hs,h.ok⟩
structure CdR (L:List Chunk) (vl vc:Value) (ls:List Nat):Prop where
 l:Rs L 1 vl ls.length (ivn ls)
 c:Rs L 1 vc ls.length (wnv (cds ls))
 ok:Cok ls
 n:ls.length≤400
theorem CdR.sub {L L':List Chunk} (hs:∀x∈L.flatten,x∈L'.flatten) {vl vc:Value} {ls:List Nat} (h:CdR L vl vc ls):CdR L' vl vc ls:=⟨h.l.sub hs,h.c.sub hs,h.ok,h.n⟩
def WrI (p:Nat) (a:List (Nat × Nat)) (D E:Chunk):Prop:=WrD p (itV a) (itL a) D E
theorem WrI.add {p:Nat} {a:List (Nat × Nat)} {v n:Nat} {D E:Chunk} (h:WrD p (itV a+2 ^ itL a * v) (itL a+n) D E):WrI p (a++[(v,n)]) D E:=by
 unfold WrI
 rw [Zt,zw]
 simp only [itV,itL,Nat.mul_zero,Nat.add_zero]
 exact h
theorem WrI.new (p:Nat):WrI p [] [(p,cl [.slice none 0 0,.int .u64 0,.int .i64 0] 171)] []:=WrD.new p
theorem vX (p v n:Nat) (a:List (Nat × Nat)) (D E:Chunk) (L:List Chunk) (h:WrI p a D E) (hn:n≤32) (hv:v < 2 ^ n) (hN:itL a≤1125899906841600) :
 Gv Tryz.prog 114 [.pointer (some ⟨p,0,none⟩),.int .u32 (v:Int),.int .i64 (n:Int)].toArray (D::E::L) (fun r L'=>r=.tuple #[]∧∃D' E',WrI p (a++[(v,n)]) D' E'∧L'=D'::E'::L):=by
 have hp:=zhm p (itV a) (itL a) v (n:Int) D E L h (Nat.lt_of_lt_of_le hv (Nat.pow_le_pow_right (by decide) hn)) hN
 refine hp.mono fun r L' hq=>?_
 obtain ⟨rfl,D',E',hw,rfl⟩:=hq
 rw [XL hn,Nat.mod_eq_of_lt hv] at hw
 exact ⟨rfl,D',E',WrI.add hw,rfl⟩
theorem zl2 (t:Nat × Nat) (L:List Chunk) (h:Zm t):GvP Tryz.prog 194 [.agg (TkV t).toArray].toArray L (.int .i64 ((tsy t:Nat):Int)):=by
 refine Gv.of_body Tryz.func194 rfl rfl ?_
 obtain ⟨v,d⟩:=t
 have ho:=fun L=>zpO v L
 unfold TkV tsy
 unfold Zm at h
 simp only at h ho ⊢
 (repeat' first|refine kW ?_|refine kU fun bk=>?_|refine kV fun hc=>?_|refine kZ (fun hc=>?_) fun hc=>?_|fail)
 ·rw [if_pos (show d=0 by omega)]
  refine kR ?_
  exact ⟨_,iC,rfl,rfl⟩
 ·rw [if_neg (show ¬d=0 by omega)]
  refine cP rfl rfl (ho _ (by omega) (by omega)) ?_
  refine kW ?_
  refine kR ?_
  exact ⟨_,iC,rfl,rfl⟩
theorem zdD (t:Nat × Nat) (L:List Chunk):GvP Tryz.prog 208 [.agg (TkV t).toArray].toArray L (.int .i64 ((tsz t:Nat):Int)):=by
 refine Gv.of_body Tryz.func208 rfl rfl ?_
 obtain ⟨v,d⟩:=t
 unfold TkV tsz
 simp only
 (repeat' first|refine kW ?_|refine kU fun bk=>?_|refine kV fun hc=>?_|refine kZ (fun hc=>?_) fun hc=>?_|fail)
 ·rw [if_pos (show d=0 by omega)]
  refine kR ?_
  exact ⟨_,iC,rfl,rfl⟩
 ·rw [if_neg (show ¬d=0 by omega)]
  refine kR ?_
  exact ⟨_,iC,rfl,rfl⟩
theorem XQ (vl vc:Value) (ls:List Nat) (i p:Nat) (a:List (Nat × Nat)) (D E:Chunk) (L:List Chunk) (hc:CdR L vl vc ls) (hi:i < ls.length) (h:WrI p a D E) (hN:itL a≤1125899906841600) :
 Gv Tryz.prog 195 [.agg #[vl,vc],.int .i64 (i:Int),.pointer (some ⟨p,0,none⟩)].toArray (D::E::L) (fun r L'=>r=.tuple #[]∧∃D' E',WrI p (a++[sc ls i]) D' E'∧L'=D'::E'::L):=by
 refine Gv.of_body Tryz.func195 rfl rfl ?_
 have h15:=hc.ok.at i
 have hcd:cd ls i < 2 ^ 32:=by
  by_cases h0:0 < ls.getD i 0
  ·exact Nat.lt_of_lt_of_le (zos hc.ok.k hc.ok.at hi h0) (Nat.pow_le_pow_right (by decide) (by omega))
  ·unfold cd;rw [if_pos (by omega)];decide
 have hcode:=fun B=>zpf p (itV a) (itL a) (cd ls i) ((ls.getD i 0:Nat):Int) D E (B::L) h hcd hN
 have hgl:(ivn ls)[i]? =some (.int .i64 ((ls.getD i 0:Nat):Int)):=yC (by simp [List.getD,hi])
 have hgc:(wnv (cds ls))[i]? =some (.int .u32 ((cd ls i:Nat):Int)):=by simp [wnv,cds,hi]
 obtain ⟨b1,o1,c1,cc1,T1,f1,rfl,hf1,hv1⟩:=yV hc.l.sl hgl
 obtain ⟨b2,o2,c2,cc2,T2,f2,rfl,hf2,hv2⟩:=yV hc.c.sl hgc
 unfold sc
 generalize ls.getD i 0=n at h15 hcode hv1 ⊢
 generalize cd ls i=x at hcode hcd hv2 ⊢
 (refine kW ?_;refine kU fun bk=>?_;refine kW ?_)
 refine zk [11] mixed ?_
 (refine za 0 ?_;refine za 1 ?_;refine za 2 ?_;refine za 3 ?_)
 refine cT 4 rfl rfl (zi (j:=i) rfl rfl rfl hi) ?_
 refine cT 5 rfl rfl (zq rfl (.there (.there (.there hf2))) hv2) ?_
 (refine za 6 ?_;refine za 7 ?_;refine za 8 ?_)
 refine cT 9 rfl rfl (zi (j:=i) rfl rfl rfl hi) ?_
 refine cT 10 rfl rfl (zq rfl (.there (.there (.there hf1))) hv1) ?_
 refine cL 11 rfl rfl rfl ?_
 refine cC rfl rfl (Gv.holds (hcode _) (fun w h=>iH h)) (fun r L' hp=>?_)
 obtain ⟨rfl,D',E',hw,rfl⟩:=hp
 rw [XL (by omega)] at hw
 refine cD ?_
 skip
 refine kR ?_
 exact ⟨_,iC,rfl,D',E',WrI.add hw,rfl⟩
omit [W0] in
def cdV (vt v1 v2 v3 v4:Value) (size:Nat):List Value:=[vt,v1,v2,v3,v4,.int .i64 (size:Int)]
structure CoR (L:List Chunk) (vt v1 v2 v3 v4:Value) (ts:List (Nat × Nat)) (l dl:List Nat):Prop where
 t:TkR L vt ts
 a:CdR L v1 v2 l
 b:CdR L v3 v4 dl
 ll:286≤l.length
 dd:30≤dl.length
 nt:ts.length≤200000
theorem CoR.sub {L L':List Chunk} (hs:∀x∈L.flatten,x∈L'.flatten) {vt v1 v2 v3 v4:Value} {ts:List (Nat × Nat)} {l dl:List Nat} (h:CoR L vt v1 v2 v3 v4 ts l dl):CoR L' vt v1 v2 v3 v4 ts l dl:=
 ⟨h.t.sub hs,h.a.sub hs,h.b.sub hs,h.ll,h.dd,h.nt⟩
theorem yh {L:List Chunk} {C:Chunk}:∀x∈L.flatten,x∈(C::L).flatten:=fun x hx=>by simp [hx]
theorem zoi (vt v1 v2 v3 v4:Value) (size d p:Nat) (ts:List (Nat × Nat)) (l dl:List Nat) (a:List (Nat × Nat)) (D E:Chunk) (L:List Chunk) (hc:CoR L vt v1 v2 v3 v4 ts l dl) (h1:1≤d) (h2:d≤32768) (h:WrI p a D E) (hN:itL a≤1125899906841500) :
 Gv Tryz.prog 197 [.agg (cdV vt v1 v2 v3 v4 size).toArray,.int .i64 (d:Int),.pointer (some ⟨p,0,none⟩)].toArray (D::E::L) (fun r L'=>r=.tuple #[]∧∃D' E',WrI p (a++[sc dl (odN d),(d - baB 1 2 4 (odN d),exB (odN d) 2 4)]) D' E'∧L'=D'::E'::L):=by
 refine Gv.of_body Tryz.func197 rfl rfl ?_
 have hod:=fun L=>zhc d L h1 h2
 obtain ⟨k1,k2,k3⟩:=Zj h1 h2
 have hb:=zb4 (odN d) (by omega)
 have hsd:=fun L=>YE (odN d) L (by omega)
 have hcw:=fun B=>XQ v3 v4 dl (odN d) p a D E (B::L) (hc.b.sub yh) (by have:=hc.dd;omega) h (by omega)
 have hsl:(sc dl (odN d)).2≤15:=hc.b.ok.at _
 have hpu:=fun D' E' B hw=>vX p (d - baB 1 2 4 (odN d)) (exB (odN d) 2 4) (a++[sc dl (odN d)]) D' E' (B::L) hw (by omega) k3 (by rw [zw];simp only [itL];omega)
 rw [List.append_assoc] at hpu
 generalize sc dl (odN d)=it at hcw hpu ⊢
 generalize baB 1 2 4 (odN d)=z at k2 k3 hsd hpu hb ⊢
 generalize exB (odN d) 2 4=e at k3 hsd hpu hb ⊢
 generalize odN d=t at *
 unfold cdV
 (refine kW ?_;refine kU fun bk=>?_;refine kW ?_)
 refine cP rfl rfl (hod _) ?_
 refine kW ?_
 refine cC rfl rfl (Gv.holds (hcw _) (fun w h=>iH h)) (fun r L' hp=>?_)
 obtain ⟨rfl,D',E',hw,rfl⟩:=hp
 have hpu:=fun B=>hpu D' E' B hw
 refine kW ?_
 refine cP rfl rfl (hsd _) ?_
 refine kW ?_
 rw [show (d:Int) - (z:Int)=((d - z:Nat):Int) from by omega]
 rw [cvW (show d - z < 4294967296 by omega)]
 refine cC rfl rfl (Gv.holds (hpu _) (fun w h=>iH h)) (fun r L' hp=>?_)
 obtain ⟨rfl,D2,E2,hw2,rfl⟩:=hp
 refine kW ?_
 refine kR ?_
 exact ⟨_,iC,rfl,D2,E2,hw2,rfl⟩
end Go.Proofs.YtemdlifojcgplaaGreatDoor
namespace Go.Df
open Go.Vx Go.If Go.Hf
set_option linter.all false
theorem zqe [W0] {l dl:List Nat} (hl:Cok l) (hd:Cok dl) {t:Nat × Nat} (h:Zm t):itL (tkI l dl (tok t))≤48:=by
 unfold tok
 have h1:=hl.at
 have h2:=hd.at
 rcases h with ⟨h0,h3⟩|⟨h3,h4,h5,h6⟩
 ·rw [if_pos h0]
  simp only [tkI,itL,sc]
  have:=h1 (UInt8.ofNat t.1).toNat
  omega
 ·rw [if_neg (by omega)]
  have k1:=Xx h5 h6
  have k2:=Zj h3 h4
  have k3:=zce (olN t.1) (by omega) (by omega)
  have k4:=zb4 (odN t.2) (by omega)
  simp only [tkI,itL,sc]
  have:=h1 (olN t.1)
  have:=h2 (odN t.2)
  omega
theorem zbA [W0] {l dl:List Nat} (hl:Cok l) (hd:Cok dl):∀{ts:List (Nat × Nat)},(∀t∈ts,Zm t)→itL (tsI l dl (ts.map tok))≤48 * ts.length
 |[],_=>by simp [tsI,itL]
 |t::r,h=>by
  have h1:=zqe hl hd (h t (by simp))
  have h2:=zbA hl hd (ts:=r) (fun x hx=>h x (by simp [hx]))
  rw [List.map_cons,tsI,zw,List.length_cons]
  omega
theorem zhA [W0] {l dl:List Nat} {t:Nat × Nat} (h:Zm t) (h0:t.2=0):tkI l dl (tok t)=[sc l (tsy t)]:=by
 unfold tok tsy
 rw [if_pos h0,if_pos h0]
 simp only [tkI]
 have hlt:t.1 < 256:=by rcases h with ⟨_,h⟩|⟨h,_⟩;exact h;omega
 rw [UInt8.toNat_ofNat',Nat.mod_eq_of_lt hlt]
theorem zlZ [W0] {l dl:List Nat} {t:Nat × Nat} (h0:t.2≠0):tkI l dl (tok t)=[sc l (tsy t)]++([(t.1 - (lnB (tsy t)).1,(lnB (tsy t)).2)]++[sc dl (odN t.2),(t.2 - baB 1 2 4 (odN t.2),exB (odN t.2) 2 4)]):=by
 unfold tok tsy
 rw [if_neg h0,if_neg h0]
 rfl
end Go.Df
namespace Go.Proofs.YtemdlifojcgplaaGreatDoor
open Go Go.Vx Go.Hf Go.If Go.Df
variable [W0]
set_option maxRecDepth 4000
set_option linter.all false
def coI (l dl:List Nat) (ts:List (Nat × Nat)):List (Nat × Nat):=tsI l dl (ts.map tok)++[sc l 256]
theorem zb2 (vt v1 v2 v3 v4:Value) (size p:Nat) (ts:List (Nat × Nat)) (l dl:List Nat) (a:List (Nat × Nat)) (D E:Chunk) (L:List Chunk) (hK:CoR L vt v1 v2 v3 v4 ts l dl) (h:WrI p a D E) (hN:itL a≤1125890000000000) :
 Gv Tryz.prog 152 [.agg (cdV vt v1 v2 v3 v4 size).toArray,.pointer (some ⟨p,0,none⟩)].toArray (D::E::L) (fun r L'=>r=.tuple #[]∧∃D' E',WrI p (a++coI l dl ts) D' E'∧L'=D'::E'::L):=by
 refine Gv.of_body Tryz.func152 rfl rfl ?_
 obtain ⟨ta,tc,hvt9⟩:∃ta tc,vt=.slice ta ts.length tc:=by obtain ⟨a,c,h,_⟩:=hK.t.rs.room;exact ⟨a,c,h⟩
 subst hvt9
 have hnt:=hK.nt
 have hle:=fun j=>zbA hK.a.ok hK.b.ok (ts:=ts.take j) (fun t ht=>hK.t.ok t (List.mem_of_mem_take ht))
 unfold cdV
 (refine kW ?_;refine kU fun bk=>?_;refine kW ?_)
 refine zn (X:=Nat × Chunk × Chunk) (fun x=>[(1,.pointer (some ⟨p,0,none⟩)),(2,.pointer (some ⟨bk,0,none⟩)),(10,.slice ta ts.length tc),(11,.int .i64 (ts.length:Int)),(12,.int .i64 (x.1:Int))]) (fun x=>[(bk,cl [.slice ta ts.length tc,v1,v2,v3,v4,.int .i64 (size:Int)] 184)]::x.2.1::x.2.2::L)
  (fun x=>x.1≤ts.length∧WrI p (a++tsI l dl ((ts.take x.1).map tok)) x.2.1 x.2.2) (fun x=>ts.length - x.1) (0,D,E) ⟨Nat.zero_le _,by simpa [tsI] using h⟩ iS (fun w h=>h) ?_
 clear h D E
 rintro ⟨j,D,E⟩ ⟨hj,h⟩
 simp only at hj h ⊢
 have hlj:=hle j
 rw [List.length_take,Nat.min_eq_left hj] at hlj
 generalize hA:a++tsI l dl ((ts.take j).map tok)=A at h
 have hAL:itL A≤1125890000000000+48 * j:=by rw [←hA,zw];omega
 (repeat' first|refine kW ?_|refine kU fun bk=>?_|refine kV fun hc=>?_|refine kZ (fun hc=>?_) fun hc=>?_|fail)
 ·have hjl:j < ts.length:=by omega
  obtain ⟨t,ht⟩:∃t,ts[j]? =some t:=⟨ts[j],List.getElem?_eq_getElem hjl⟩
  have hto:=hK.t.ok t (List.mem_of_getElem? ht)
  have hsy:=YR hto
  obtain ⟨tb,toff,tcap,hv9,hrd⟩:=hK.t.rs.elem hjl (by decide)
  injection hv9 with q1 q2 q3
  subst q1 q3
  clear q2
  rw [Yv uj ht] at hrd
  refine ze (zi (j:=j) rfl rfl rfl hjl) rfl ?_
  refine kW ?_
  refine ze (zB rfl (y9 (y9 (y9 hrd))) rfl) rfl ?_
  unfold TkV
  (refine kW ?_;refine kU fun bk=>?_;refine kW ?_)
  refine cP rfl rfl (zl2 t _ hto) ?_
  have hcw:=fun B1 B2=>XQ v1 v2 l (tsy t) p A D E (B1::B2::L) ((hK.a.sub yh).sub yh) (by have:=hK.ll;omega) h (by omega)
  refine kW ?_
  refine cC rfl rfl (Gv.holds (hcw _ _) (fun w h=>iH h)) (fun r L' hp=>?_)
  obtain ⟨rfl,D1,E1,hw1,rfl⟩:=hp
  (repeat' first|refine kW ?_|refine kU fun bk=>?_|refine kV fun hc=>?_|refine kZ (fun hc=>?_) fun hc=>?_|fail)
  ·have h0:t.2≠0:=by omega
   have hmt:1≤t.2∧t.2≤32768∧3≤t.1∧t.1≤258:=by rcases hto with ⟨h1,_⟩|h1;omega;exact h1
   have h257:=hsy.2.1 h0
   have hlb:=zce (tsy t) hsy.1 h257
   have hol:=Xx hmt.2.2.1 hmt.2.2.2
   have hty:tsy t=olN t.1:=by unfold tsy;rw [if_neg h0]
   rw [←hty] at hol
   have hs1:=hK.a.ok.at (tsy t)
   have hs2:(sc l (tsy t)).2≤15:=hs1
   have hsl:=fun L=>QA (tsy t) L h257 (by omega)
   have hpu:=fun B1 B2=>vX p (t.1 - (lnB (tsy t)).1) (lnB (tsy t)).2 (A++[sc l (tsy t)]) D1 E1 (B1::B2::L) hw1 (by omega) hol.2.2.2 (by rw [zw];simp only [itL];omega)
   have hAL2:itL ((A++[sc l (tsy t)])++[(t.1 - (lnB (tsy t)).1,(lnB (tsy t)).2)])≤1125890000000000+48 * j+20:=by rw [zw,zw];simp only [itL];omega
   have hwd:=fun B1 B2 D2 E2 hw2=>zoi (.slice (some ⟨tb,toff,none⟩) ts.length tc) v1 v2 v3 v4 size t.2 p ts l dl ((A++[sc l (tsy t)])++[(t.1 - (lnB (tsy t)).1,(lnB (tsy t)).2)]) D2 E2 (B1::B2::L) ((hK.sub yh).sub yh) hmt.1 hmt.2.1 hw2 (by omega)
   have hitems:((A++[sc l (tsy t)])++[(t.1 - (lnB (tsy t)).1,(lnB (tsy t)).2)])++[sc dl (odN t.2),(t.2 - baB 1 2 4 (odN t.2),exB (odN t.2) 2 4)]=a++tsI l dl ((ts.take (j+1)).map tok):=by
    rw [qd ht,List.map_append,zav,←List.append_assoc,hA]
    simp only [List.map_cons,List.map_nil,tsI,List.append_nil]
    rw [zlZ h0]
    simp only [List.append_assoc]
   rw [hitems] at hwd
   clear hitems hAL2
   unfold cdV at hwd
   generalize lnB (tsy t)=lb at hol hlb hsl hpu hwd
   refine cP rfl rfl (hsl _) ?_
   refine kW ?_
   rw [show (t.1:Int) - (lb.1:Int)=((t.1 - lb.1:Nat):Int) from by omega,cvW (show t.1 - lb.1 < 4294967296 by omega)]
   refine cC rfl rfl (Gv.holds (hpu _ _) (fun w h=>iH h)) (fun r L' hp=>?_)
   obtain ⟨rfl,D2,E2,hw2,rfl⟩:=hp
   have hwd:=fun B1 B2=>hwd B1 B2 D2 E2 hw2
   refine kW ?_
   refine cC rfl rfl (Gv.holds (hwd _ _) (fun w h=>iH h)) (fun r L' hp=>?_)
   obtain ⟨rfl,D3,E3,hw3,rfl⟩:=hp
   refine kW ?_
   refine zf (X:=Nat × Chunk × Chunk) (μ:=fun x=>ts.length - x.1) (x:=(j,D,E)) (j+1,D3,E3) (by simp only;omega) ⟨by simp only;omega,hw3⟩ iS (fun w h=>iH h)
  ·have h0:t.2=0:=by omega
   have hitems:A++[sc l (tsy t)]=a++tsI l dl ((ts.take (j+1)).map tok):=by
    rw [qd ht,List.map_append,zav,←List.append_assoc,hA]
    simp only [List.map_cons,List.map_nil,tsI,List.append_nil]
    rw [zhA hto h0]
   rw [hitems] at hw1
   refine zf (X:=Nat × Chunk × Chunk) (μ:=fun x=>ts.length - x.1) (x:=(j,D,E)) (j+1,D1,E1) (by simp only;omega) ⟨by simp only;omega,hw1⟩ iS (fun w h=>iH h)
 ·obtain rfl:j=ts.length:=by omega
  rw [List.take_length] at hA
  have hcw:=fun B1=>XQ v1 v2 l 256 p A D E (B1::L) (hK.a.sub yh) (by have:=hK.ll;omega) h (by omega)
  skip
  refine cC rfl rfl (Gv.holds (hcw _) (fun w h=>iH h)) (fun r L' hp=>?_)
  obtain ⟨rfl,D1,E1,hw1,rfl⟩:=hp
  rw [←hA,List.append_assoc] at hw1
  refine kW ?_
  refine kR ?_
  exact ⟨_,iC,rfl,D1,E1,hw1,rfl⟩
end Go.Proofs.YtemdlifojcgplaaGreatDoor
namespace Go.Df
open Go.Vx Go.If Go.Hf
set_option linter.all false
def rnI [W0] (own:List Nat):List (Nat × Nat)→List (Nat × Nat)
 |[]=>[]
 |r::q=>sc own r.1::(r.2,rpB r.1)::rnI own q
theorem zdv [W0] {own:List Nat}:∀a b,rnI own (a++b)=rnI own a++rnI own b
 |[],b=>rfl
 |x::a,b=>by simp only [List.cons_append,rnI,zdv a b]
def orI (o:List Nat):List (Nat × Nat):=o.map fun n=>(n,3)
theorem zev:∀o,itL (orI o)=3 * o.length
 |[]=>rfl
 |x::o=>by
  have:=zev o
  simp only [orI] at this
  simp only [orI,List.map_cons,itL,List.length_cons,this];omega
def hwI [W0] (n1 n2:Nat) (o own:List Nat) (rs:List (Nat × Nat)):List (Nat × Nat):=[(n1 - 257,5),(n2 - 1,5),(o.length - 4,4)]++(orI o++rnI own rs)
theorem zf2 [W0] {own:List Nat} (ho:Cok own):∀rs:List (Nat × Nat),itL (rnI own rs)≤22 * rs.length
 |[]=>Nat.le_refl _
 |r::q=>by
  have h1:=zf2 ho q
  have h2:=ho.at r.1
  have h3:rpB r.1≤7:=by unfold rpB;split<;>(try split)<;>(try split)<;>omega
  simp only [rnI,itL,sc,List.length_cons]
  omega
end Go.Df
namespace Go.Proofs.YtemdlifojcgplaaGreatDoor
open Go Go.Vx Go.Hf Go.If Go.Df
variable [W0]
set_option maxRecDepth 4000
set_option linter.all false
omit [W0] in
def hdV (n1 n2:Nat) (vo v1 v2 vr:Value):List Value:=[.int .i64 (n1:Int),.int .i64 (n2:Int),vo,v1,v2,vr]
structure HdR (L:List Chunk) (vo v1 v2 vr:Value) (n1 n2:Nat) (o own:List Nat) (rs:List (Nat × Nat)):Prop where
 ord:Rs L 1 vo o.length (ivn o)
 c:CdR L v1 v2 own
 run:Rs L 2 vr rs.length (flt TkV rs)
 b1:257≤n1∧n1≤286
 b2:1≤n2∧n2≤30
 ol:4≤o.length∧o.length≤19
 o7:∀x∈o,x < 8
 o19:own.length=19
 rn:rs.length≤400
 ro:∀x∈rs,x.1 < 19∧x.2 < 2 ^ rpB x.1
theorem HdR.sub {L L':List Chunk} (hs:∀x∈L.flatten,x∈L'.flatten) {vo v1 v2 vr:Value} {n1 n2:Nat} {o own:List Nat} {rs:List (Nat × Nat)} (h:HdR L vo v1 v2 vr n1 n2 o own rs):HdR L' vo v1 v2 vr n1 n2 o own rs:=
 ⟨h.ord.sub hs,h.c.sub hs,h.run.sub hs,h.b1,h.b2,h.ol,h.o7,h.o19,h.rn,h.ro⟩
theorem zh3 (vo v1 v2 vr:Value) (n1 n2 p:Nat) (o own:List Nat) (rs a:List (Nat × Nat)) (D E:Chunk) (L:List Chunk) (hK:HdR L vo v1 v2 vr n1 n2 o own rs) (h:WrI p a D E) (hN:itL a≤1125890000000000) :
 Gv Tryz.prog 153 [.agg (hdV n1 n2 vo v1 v2 vr).toArray,.pointer (some ⟨p,0,none⟩)].toArray (D::E::L) (fun r L'=>r=.tuple #[]∧∃D' E',WrI p (a++hwI n1 n2 o own rs) D' E'∧L'=D'::E'::L):=by
 refine Gv.of_body Tryz.func153 rfl rfl ?_
 obtain ⟨oa,oc,hvo9⟩:∃ta tc,vo=.slice ta o.length tc:=by obtain ⟨a,c,h,_⟩:=hK.ord.room;exact ⟨a,c,h⟩
 obtain ⟨ra,rc,hvr9⟩:∃ta tc,vr=.slice ta rs.length tc:=by obtain ⟨a,c,h,_⟩:=hK.run.room;exact ⟨a,c,h⟩
 subst hvo9 hvr9
 have hn1:=hK.b1
 have hn2:=hK.b2
 have hol:=hK.ol
 have hrn:=hK.rn
 unfold hdV
 (refine kW ?_;refine kU fun bk=>?_;refine kW ?_)
 rw [show (n1:Int) - 257=((n1 - 257:Nat):Int) from by omega,cvW (show n1 - 257 < 4294967296 by omega)]
 refine cC rfl rfl (Gv.holds (vX p (n1 - 257) 5 a D E ([(bk,cl (hdV n1 n2 (.slice oa o.length oc) v1 v2 (.slice ra rs.length rc)) 226)]::L) h (by decide) (by omega) (by omega)) (fun w h=>iH h)) (fun r L' hp=>?_)
 obtain ⟨rfl,D1,E1,hw1,rfl⟩:=hp
 unfold hdV
 refine kW ?_
 rw [show (n2:Int) - 1=((n2 - 1:Nat):Int) from by omega,cvW (show n2 - 1 < 4294967296 by omega)]
 refine cC rfl rfl (vX p (n2 - 1) 5 _ D1 E1 _ hw1 (by decide) (by omega) (by rw [zw];simp only [itL];omega)) (fun r L' hp=>?_)
 obtain ⟨rfl,D2,E2,hw2,rfl⟩:=hp
 refine kW ?_
 rw [show (o.length:Int) - 4=((o.length - 4:Nat):Int) from by omega,cvW (show o.length - 4 < 4294967296 by omega)]
 refine cC rfl rfl (vX p (o.length - 4) 4 _ D2 E2 _ hw2 (by decide) (by omega) (by rw [zw,zw];simp only [itL];omega)) (fun r L' hp=>?_)
 obtain ⟨rfl,D3,E3,hw3,rfl⟩:=hp
 rw [show a++[(n1 - 257,5)]++[(n2 - 1,5)]++[(o.length - 4,4)]=a++[(n1 - 257,5),(n2 - 1,5),(o.length - 4,4)] from by simp] at hw3
 generalize hA:a++[(n1 - 257,5),(n2 - 1,5),(o.length - 4,4)]=A at hw3
 have hAL:itL A≤1125890000000014:=by rw [←hA,zw];simp only [itL];omega
 refine kW ?_
 refine zn (X:=Nat × Chunk × Chunk) (fun x=>[(1,.pointer (some ⟨p,0,none⟩)),(2,.pointer (some ⟨bk,0,none⟩)),(30,.slice oa o.length oc),(31,.int .i64 (o.length:Int)),(32,.int .i64 (x.1:Int))])
  (fun x=>x.2.1::x.2.2::[(bk,cl [.int .i64 (n1:Int),.int .i64 (n2:Int),.slice oa o.length oc,v1,v2,.slice ra rs.length rc] 226)]::L)
  (fun x=>x.1≤o.length∧WrI p (A++orI (o.take x.1)) x.2.1 x.2.2) (fun x=>o.length - x.1) (0,D3,E3) ⟨Nat.zero_le _,by simpa [orI] using hw3⟩ iS (fun w h=>iH h) ?_
 clear hw1 hw2 hw3 D1 D2 D3 E1 E2 E3 h D E
 rintro ⟨j,D,E⟩ ⟨hj,h⟩
 simp only at hj h ⊢
 have hlj:=zev (o.take j)
 rw [List.length_take,Nat.min_eq_left hj] at hlj
 (repeat' first|refine kW ?_|refine kU fun bk=>?_|refine kV fun hc=>?_|refine kZ (fun hc=>?_) fun hc=>?_|fail)
 ·have hjl:j < o.length:=by omega
  obtain ⟨x,hx⟩:∃x,o[j]? =some x:=⟨o[j],List.getElem?_eq_getElem hjl⟩
  have hx8:=hK.o7 x (List.mem_of_getElem? hx)
  obtain ⟨b1,o1,c1,cc1,T1,f1,hv9,hf1,hv1⟩:=yV hK.ord.sl (yC hx)
  injection hv9 with q1 q2 q3
  subst q1 q3
  clear q2
  refine ze (zi (j:=j) rfl rfl rfl hjl) rfl ?_
  refine kW ?_
  refine ze (zq rfl (.there (.there (.there hf1))) hv1) rfl ?_
  refine kW ?_
  rw [cvW (show x < 4294967296 by omega)]
  refine cC rfl rfl (vX p x 3 _ D E _ h (by decide) (by omega) (by rw [zw];omega)) (fun r L' hp=>?_)
  obtain ⟨rfl,D1,E1,hw1,rfl⟩:=hp
  have hitems:A++orI (o.take j)++[(x,3)]=A++orI (o.take (j+1)):=by rw [qd hx,List.append_assoc];simp [orI]
  rw [hitems] at hw1
  refine kW ?_
  refine zf (X:=Nat × Chunk × Chunk) (μ:=fun x=>o.length - x.1) (x:=(j,D,E)) (j+1,D1,E1) (by simp only;omega) ⟨by simp only;omega,hw1⟩ iS (fun w h=>iH h)
 obtain rfl:j=o.length:=by omega
 rw [List.take_length] at h
 generalize hB:A++orI o=B at h
 have hBL:itL B≤1125890000000100:=by rw [←hB,zw,zev];omega
 skip
 refine zn (X:=Nat × Chunk × Chunk) (fun x=>[(1,.pointer (some ⟨p,0,none⟩)),(2,.pointer (some ⟨bk,0,none⟩)),(42,.slice ra rs.length rc),(43,.int .i64 (rs.length:Int)),(44,.int .i64 (x.1:Int))])
  (fun x=>x.2.1::x.2.2::[(bk,cl [.int .i64 (n1:Int),.int .i64 (n2:Int),.slice oa o.length oc,v1,v2,.slice ra rs.length rc] 226)]::L)
  (fun x=>x.1≤rs.length∧WrI p (B++rnI own (rs.take x.1)) x.2.1 x.2.2) (fun x=>rs.length - x.1) (0,D,E) ⟨Nat.zero_le _,by simpa [rnI] using h⟩ iS (fun w h=>iH h) ?_
 clear hj hlj h D E
 rintro ⟨j,D,E⟩ ⟨hj,h⟩
 simp only at hj h ⊢
 have hlj:=zf2 hK.c.ok (rs.take j)
 rw [List.length_take,Nat.min_eq_left hj] at hlj
 (repeat' first|refine kW ?_|refine kU fun bk=>?_|refine kV fun hc=>?_|refine kZ (fun hc=>?_) fun hc=>?_|fail)
 ·have hjl:j < rs.length:=by omega
  obtain ⟨x,hx⟩:∃x,rs[j]? =some x:=⟨rs[j],List.getElem?_eq_getElem hjl⟩
  have hxo:=hK.ro x (List.mem_of_getElem? hx)
  have hx7:rpB x.1≤7:=by unfold rpB;split<;>(try split)<;>(try split)<;>omega
  have hx2:x.2 < 2 ^ 7:=Nat.lt_of_lt_of_le hxo.2 (Nat.pow_le_pow_right (by decide) hx7)
  obtain ⟨tb,toff,tcap,hv9,hrd⟩:=hK.run.elem hjl (by decide)
  injection hv9 with q1 q2 q3
  subst q1 q3
  clear q2
  rw [Yv uj hx] at hrd
  refine ze (zi (j:=j) rfl rfl rfl hjl) rfl ?_
  refine kW ?_
  refine ze (zB rfl (y9 (y9 (y9 hrd))) rfl) rfl ?_
  unfold TkV
  (refine kW ?_;refine kU fun bk=>?_;refine kW ?_)
  have hcw:=fun B1 B2=>XQ v1 v2 own x.1 p _ D E (B1::B2::L) ((hK.c.sub yh).sub yh) (by have:=hK.o19;omega) h (by rw [zw];omega)
  refine cC rfl rfl (Gv.holds (hcw _ _) (fun w h=>iH h)) (fun r L' hp=>?_)
  obtain ⟨rfl,D1,E1,hw1,rfl⟩:=hp
  refine kW ?_
  refine cP rfl rfl (zbq x.1 _ (by omega)) ?_
  have hs2:(sc own x.1).2≤15:=hK.c.ok.at _
  have hpu:=fun B1 B2=>vX p x.2 (rpB x.1) _ D1 E1 (B1::B2::L) hw1 (by omega) hxo.2 (by rw [zw,zw];simp only [itL];omega)
  have hitems:B++rnI own (rs.take j)++[sc own x.1]++[(x.2,rpB x.1)]=B++rnI own (rs.take (j+1)):=by rw [qd hx,zdv];simp [rnI]
  rw [hitems] at hpu
  refine kW ?_
  rw [cvW (show x.2 < 4294967296 by omega)]
  refine cC rfl rfl (Gv.holds (hpu _ _) (fun w h=>iH h)) (fun r L' hp=>?_)
  obtain ⟨rfl,D2,E2,hw2,rfl⟩:=hp
  refine kW ?_
  refine zf (X:=Nat × Chunk × Chunk) (μ:=fun x=>rs.length - x.1) (x:=(j,D,E)) (j+1,D2,E2) (by simp only;omega) ⟨by simp only;omega,hw2⟩ iS (fun w h=>iH h)
 ·obtain rfl:j=rs.length:=by omega
  rw [List.take_length,←hB,←hA] at h
  refine kR ?_
  exact ⟨_,iC,rfl,D,E,by unfold hwI;simpa [List.append_assoc] using h,rfl⟩
end Go.Proofs.YtemdlifojcgplaaGreatDoor
namespace Go.Df
open Go.Vx Go.If Go.Hf
set_option linter.all false
inductive Blk
 |st (t:List UInt8)
 |fx (ts:List (Nat × Nat))
 |dn (ts:List (Nat × Nat)) (l dl:List Nat) (n1 n2:Nat) (o own:List Nat) (rs:List (Nat × Nat))
def raI (b:List UInt8):List (Nat × Nat):=b.map fun c=>(c.toNat,8)
theorem zbj:∀b,itL (raI b)=8 * b.length
 |[]=>rfl
 |x::b=>by
  have:=zbj b
  simp only [raI] at this
  simp only [raI,List.map_cons,itL,List.length_cons,this];omega
theorem zk5:∀b,itV (raI b)=val b
 |[]=>rfl
 |x::b=>by
  have:=zk5 b
  simp only [raI] at this
  simp only [raI,List.map_cons,itV,this,val]
theorem zc9 [W0] {own o:List Nat} (ho:Cok own) (hl:o.length≤19) (rs:List (Nat × Nat)) (n1 n2:Nat):itL (hwI n1 n2 o own rs)≤100+22 * rs.length:=by
 have:=zf2 ho rs
 unfold hwI
 rw [zw,zw,zev]
 simp only [itL]
 omega
def blI [W0] (n:Nat):Blk→List (Nat × Nat)
 |.st t=>[(0,2),(0,8 * ((n+2+7) / 8) - (n+2)),(t.length,16),(65535 - t.length,16)]++raI t
 |.fx ts=>(1,2)::(tsI fxL fxD (ts.map tok)++[sc fxL 256])
 |.dn ts l dl n1 n2 o own rs=>(2,2)::(hwI n1 n2 o own rs++(tsI l dl (ts.map tok)++[sc l 256]))
end Go.Df
namespace Go.Vx
variable [W0] {P : Program} {n : Nat} {M : List (Nat × Value)} {L : List Chunk} {d : Nat} {ty : TypeId} {ps : String} {af : Array Edge} {g : Option (Nat × Bool)} {x y : Operand}
theorem zmk {t:TypeId} {m:Nat} (hx:ev M x=some (.int .u32 (m:Int))) (hm:m < 4294967296) :
 EV P n ⟨some d,.unOp .xor t x,ty,ps,af,g⟩ M L d (.int .u32 ((4294967295 - m:Nat):Int)):=by
 have:=zcy (P:=P) (n:=n) (L:=L) (d:=d) (ty:=ty) (ps:=ps) (af:=af) (g:=g) (t:=t) hx (ha':=(⟨by rw [BitVec.ofInt_natCast]⟩:WI (m:Int) (BitVec.ofNat 32 m)))
 rw [BitVec.toNat_not,BitVec.toNat_ofNat,Nat.mod_eq_of_lt (show m < 2 ^ 32 by omega)] at this
 exact this
end Go.Vx
namespace Go.Proofs.YtemdlifojcgplaaGreatDoor
open Go Go.Vx Go.Hf Go.If Go.Df
variable [W0]
set_option maxRecDepth 4000
set_option linter.all false
def Zw (L:List Chunk) (v:Value):Blk→Prop
 |.st t=>∃vt,v=.iface 220 (.agg #[vt])∧Rs L 1 vt t.length (bsv t)∧t.length≤65535
 |.fx ts=>∃vt v1 v2 v3 v4,v=.iface 186 (.agg (cdV vt v1 v2 v3 v4 (itL (coI fxL fxD ts))).toArray)∧CoR L vt v1 v2 v3 v4 ts fxL fxD
 |.dn ts l dl n1 n2 o own rs=>∃vt v1 v2 v3 v4 vo v5 v6 vr,v=.iface 228 (.agg (cdV vt v1 v2 v3 v4 (itL (coI l dl ts))++hdV n1 n2 vo v5 v6 vr).toArray)∧CoR L vt v1 v2 v3 v4 ts l dl∧HdR L vo v5 v6 vr n1 n2 o own rs
theorem Zw.sub {L L':List Chunk} (hs:∀x∈L.flatten,x∈L'.flatten) {v:Value} {B:Blk} (h:Zw L v B):Zw L' v B:=by
 cases B with
 |st t=>obtain ⟨vt,h1,h2,h3⟩:=h;exact ⟨vt,h1,h2.sub hs,h3⟩
 |fx ts=>obtain ⟨vt,v1,v2,v3,v4,h1,h2⟩:=h;exact ⟨vt,v1,v2,v3,v4,h1,h2.sub hs⟩
 |dn ts l dl n1 n2 o own rs=>obtain ⟨vt,v1,v2,v3,v4,vo,v5,v6,vr,h1,h2,h3⟩:=h;exact ⟨vt,v1,v2,v3,v4,vo,v5,v6,vr,h1,h2.sub hs,h3.sub hs⟩
theorem zlR (vt:Value) (t:List UInt8) (p:Nat) (a:List (Nat × Nat)) (D E:Chunk) (L:List Chunk) (hK:Rs L 1 vt t.length (bsv t)) (ht:t.length≤65535) (h:WrI p a D E) (hN:itL a≤1125890000000000) :
 Gv Tryz.prog 151 [.agg #[vt],.pointer (some ⟨p,0,none⟩)].toArray (D::E::L) (fun r L'=>r=.tuple #[]∧∃D' E',WrI p (a++([(0,8 * ((itL a+7) / 8) - itL a),(t.length,16),(65535 - t.length,16)]++raI t)) D' E'∧L'=D'::E'::L):=by
 refine Gv.of_body (args:=[.agg #[vt],.pointer (some ⟨p,0,none⟩)]) Tryz.func151 rfl rfl ?_
 obtain ⟨ta,tc,hvt9⟩:∃ta tc,vt=.slice ta t.length tc:=by obtain ⟨a,c,h,_⟩:=hK.room;exact ⟨a,c,h⟩
 subst hvt9
 have hal:=fun B=>ze4 p (itV a) (itL a) D E (B::L) h (by omega)
 (refine kW ?_;refine kU fun bk=>?_;refine kW ?_)
 refine cC rfl rfl (Gv.holds (hal _) (fun w h=>iH h)) (fun r L' hp=>?_)
 obtain ⟨rfl,D1,E1,hw1,rfl⟩:=hp
 have hA1:WrI p (a++[(0,8 * ((itL a+7) / 8) - itL a)]) D1 E1:=by
  refine WrI.add ?_
  rw [Nat.mul_zero,Nat.add_zero,show itL a+(8 * ((itL a+7) / 8) - itL a)=8 * ((itL a+7) / 8) from by omega]
  exact hw1
 have hL1:itL (a++[(0,8 * ((itL a+7) / 8) - itL a)])=8 * ((itL a+7) / 8):=by rw [zw];simp only [itL];omega
 refine kW ?_
 rw [cvW (show t.length < 4294967296 by omega)]
 have hpu:=fun B=>vX p t.length 16 _ D1 E1 (B::L) hA1 (by decide) (by omega) (by rw [hL1];omega)
 refine cC rfl rfl (Gv.holds (hpu _) (fun w h=>iH h)) (fun r L' hp=>?_)
 obtain ⟨rfl,D2,E2,hw2,rfl⟩:=hp
 have hL2:itL (a++[(0,8 * ((itL a+7) / 8) - itL a)]++[(t.length,16)])=8 * ((itL a+7) / 8)+16:=by rw [zw,hL1];simp only [itL]
 refine kW ?_
 refine ze (zmk rfl (by omega)) rfl ?_
 refine kW ?_
 have hpv:=fun B=>zhm p _ _ (4294967295 - t.length) ((16:Nat):Int) D2 E2 (B::L) hw2 (by omega) (by rw [hL2];omega)
 refine cC rfl rfl (Gv.holds (hpv _) (fun w h=>iH h)) (fun r L' hp=>?_)
 obtain ⟨rfl,D3,E3,hw3,rfl⟩:=hp
 rw [XL (by decide),show (4294967295 - t.length) % 2 ^ 16=65535 - t.length from by omega] at hw3
 have hw3:=WrI.add hw3
 have hL3:itL (a++[(0,8 * ((itL a+7) / 8) - itL a)]++[(t.length,16)]++[(65535 - t.length,16)])=8 * ((itL a+7) / 8+4):=by rw [zw,hL2];simp only [itL];omega
 refine kW ?_
 have hra:=fun B=>zqZ p _ _ t (.slice ta t.length tc) D3 E3 (B::L) hw3 (by rw [hL3];omega) (zm hK.sl) (by rw [hL3];omega)
 refine cC rfl rfl (Gv.holds (hra _) (fun w h=>iH h)) (fun r L' hp=>?_)
 obtain ⟨rfl,D4,E4,hw4,rfl⟩:=hp
 rw [hL3,show (8 * ((itL a+7) / 8+4)+7) / 8=(itL a+7) / 8+4 from by omega] at hw4
 refine kW ?_
 refine kR ?_
 refine ⟨_,iC,rfl,D4,E4,?_,rfl⟩
 have e1:a++([(0,8 * ((itL a+7) / 8) - itL a),(t.length,16),(65535 - t.length,16)]++raI t)=(a++[(0,8 * ((itL a+7) / 8) - itL a)]++[(t.length,16)]++[(65535 - t.length,16)])++raI t:=by simp
 rw [e1]
 generalize a++[(0,8 * ((itL a+7) / 8) - itL a)]++[(t.length,16)]++[(65535 - t.length,16)]=A at hw4 hL3 ⊢
 unfold WrI
 rw [Zt,zw,zk5,zbj,hL3]
 exact WrD.cast hw4 (by omega)
theorem zdW (v:Value) (B:Blk) (p:Nat) (a:List (Nat × Nat)) (D E:Chunk) (L:List Chunk) (hK:Zw L v B) (h:WrI p a D E) (hN:itL a≤1125880000000000) :
 Gv Tryz.prog 115 [v,.pointer (some ⟨p,0,none⟩)].toArray (D::E::L) (fun r L'=>r=.tuple #[]∧∃D' E',WrI p (a++blI (itL a) B) D' E'∧L'=D'::E'::L):=by
 cases B with
 |st t=>
  obtain ⟨vt,rfl,hrs,ht⟩:=hK
  obtain ⟨ta,tc,rfl,_⟩:=hrs.room
  refine Gv.of_body (args:=[.iface 220 (.agg #[.slice ta t.length tc]),.pointer (some ⟨p,0,none⟩)]) Tryz.func115 rfl rfl ?_
  (refine kW ?_;refine kU fun bk=>?_;refine kW ?_)
  refine cC rfl rfl (Gv.holds (vX p 0 2 a D E ([(bk,cl [.slice ta t.length tc] 220)]::L) h (by decide) (by decide) (by omega)) (fun w h=>iH h)) (fun r L' hp=>?_)
  obtain ⟨rfl,D1,E1,hw1,rfl⟩:=hp
  have hL1:itL (a++[(0,2)])=itL a+2:=by rw [zw];rfl
  have hsw:=zlR (.slice ta t.length tc) t p _ D1 E1 ([(bk,cl [.slice ta t.length tc] 220)]::L) hrs.there ht hw1 (by rw [hL1];omega)
  rw [hL1] at hsw
  refine kW ?_
  refine cC rfl rfl (Gv.holds hsw (fun w h=>iH h)) (fun r L' hp=>?_)
  obtain ⟨rfl,D2,E2,hw2,rfl⟩:=hp
  refine kW ?_
  refine kR ?_
  refine ⟨_,iC,rfl,D2,E2,?_,rfl⟩
  simpa [blI] using hw2
 |fx ts=>
  obtain ⟨vt,v1,v2,v3,v4,rfl,hco⟩:=hK
  generalize itL (coI fxL fxD ts)=size
  obtain ⟨ta,tc,rfl,_⟩:=hco.t.rs.room
  obtain ⟨a1,c1,rfl,_⟩:=hco.a.l.room
  obtain ⟨a2,c2,rfl,_⟩:=hco.a.c.room
  obtain ⟨a3,c3,rfl,_⟩:=hco.b.l.room
  obtain ⟨a4,c4,rfl,_⟩:=hco.b.c.room
  unfold cdV
  refine Gv.of_body (args:=[.iface 186 (.agg #[.slice ta ts.length tc,.slice a1 fxL.length c1,.slice a2 fxL.length c2,.slice a3 fxD.length c3,.slice a4 fxD.length c4,.int .i64 (size:Int)]),.pointer (some ⟨p,0,none⟩)]) Tryz.func115 rfl rfl ?_
  (refine kW ?_;refine kU fun bk=>?_;refine kW ?_;refine kU fun bk=>?_;refine kW ?_)
  have hpu:=fun B1 B2=>vX p 1 2 a D E (B1::B2::L) h (by decide) (by decide) (by omega)
  refine cC rfl rfl (Gv.holds (hpu _ _) (fun w h=>iH h)) (fun r L' hp=>?_)
  obtain ⟨rfl,D1,E1,hw1,rfl⟩:=hp
  have hL1:itL (a++[(1,2)])=itL a+2:=by rw [zw];rfl
  have hsw:=fun B1 B2=>zb2 (.slice ta ts.length tc) (.slice a1 fxL.length c1) (.slice a2 fxL.length c2) (.slice a3 fxD.length c3) (.slice a4 fxD.length c4) size p ts fxL fxD _ D1 E1 (B1::B2::L) ((hco.sub yh).sub yh) hw1 (by rw [hL1];omega)
  unfold cdV at hsw
  refine kW ?_
  refine cC rfl rfl (Gv.holds (hsw _ _) (fun w h=>iH h)) (fun r L' hp=>?_)
  obtain ⟨rfl,D2,E2,hw2,rfl⟩:=hp
  refine kW ?_
  refine kR ?_
  refine ⟨_,iC,rfl,D2,E2,?_,rfl⟩
  simpa [blI,coI] using hw2
 |dn ts l dl n1 n2 o own rs=>
  obtain ⟨vt,v1,v2,v3,v4,vo,v5,v6,vr,rfl,hco,hhd⟩:=hK
  have hcl:=zc9 hhd.c.ok hhd.ol.2 rs n1 n2
  have hrn:=hhd.rn
  generalize itL (coI l dl ts)=size
  obtain ⟨ta,tc,rfl,_⟩:=hco.t.rs.room
  obtain ⟨a1,c1,rfl,_⟩:=hco.a.l.room
  obtain ⟨a2,c2,rfl,_⟩:=hco.a.c.room
  obtain ⟨a3,c3,rfl,_⟩:=hco.b.l.room
  obtain ⟨a4,c4,rfl,_⟩:=hco.b.c.room
  obtain ⟨ao,co,rfl,_⟩:=hhd.ord.room
  obtain ⟨a5,c5,rfl,_⟩:=hhd.c.l.room
  obtain ⟨a6,c6,rfl,_⟩:=hhd.c.c.room
  obtain ⟨ar,cr,rfl,_⟩:=hhd.run.room
  unfold cdV hdV
  refine Gv.of_body (args:=[.iface 228 (.agg #[.slice ta ts.length tc,.slice a1 l.length c1,.slice a2 l.length c2,.slice a3 dl.length c3,.slice a4 dl.length c4,.int .i64 (size:Int),.int .i64 (n1:Int),.int .i64 (n2:Int),.slice ao o.length co,.slice a5 own.length c5,.slice a6 own.length c6,.slice ar rs.length cr]),.pointer (some ⟨p,0,none⟩)]) Tryz.func115 rfl rfl ?_
  (refine kW ?_;refine kU fun bk=>?_;refine kW ?_;refine kU fun bk=>?_;refine kW ?_;refine kU fun bk=>?_;refine kW ?_)
  have hpu:=fun B1 B2 B3=>vX p 2 2 a D E (B1::B2::B3::L) h (by decide) (by decide) (by omega)
  refine cC rfl rfl (Gv.holds (hpu _ _ _) (fun w h=>iH h)) (fun r L' hp=>?_)
  obtain ⟨rfl,D1,E1,hw1,rfl⟩:=hp
  have hL1:itL (a++[(2,2)])=itL a+2:=by rw [zw];rfl
  have hhw:=fun B1 B2 B3=>zh3 (.slice ao o.length co) (.slice a5 own.length c5) (.slice a6 own.length c6) (.slice ar rs.length cr) n1 n2 p o own rs _ D1 E1 (B1::B2::B3::L) (((hhd.sub yh).sub yh).sub yh) hw1 (by rw [hL1];omega)
  unfold hdV at hhw
  refine kW ?_
  refine cC rfl rfl (Gv.holds (hhw _ _ _) (fun w h=>iH h)) (fun r L' hp=>?_)
  obtain ⟨rfl,D2,E2,hw2,rfl⟩:=hp
  have hsw:=fun B1 B2 B3=>zb2 (.slice ta ts.length tc) (.slice a1 l.length c1) (.slice a2 l.length c2) (.slice a3 dl.length c3) (.slice a4 dl.length c4) size p ts l dl _ D2 E2 (B1::B2::B3::L) (((hco.sub yh).sub yh).sub yh) hw2 (by rw [zw,hL1];omega)
  unfold cdV at hsw
  refine kW ?_
  refine cC rfl rfl (Gv.holds (hsw _ _ _) (fun w h=>iH h)) (fun r L' hp=>?_)
  obtain ⟨rfl,D3,E3,hw3,rfl⟩:=hp
  refine kW ?_
  refine kR ?_
  refine ⟨_,iC,rfl,D3,E3,?_,rfl⟩
  simpa [blI,coI] using hw3
end Go.Proofs.YtemdlifojcgplaaGreatDoor
namespace Go.Df
open Go.Vx Go.If Go.Hf
set_option linter.all false
def bsI [W0] (a:List (Nat × Nat)):List Blk→List (Nat × Nat)
 |[]=>a
 |B::r=>bsI ((a++[(0,1)])++blI (itL a+1) B) r
theorem zcO [W0] (B:Blk):∀(x:List Blk) (a:List (Nat × Nat)),bsI a (x++[B])=(bsI a x++[(0,1)])++blI (itL (bsI a x)+1) B
 |[],a=>rfl
 |C::x,a=>by rw [List.cons_append,bsI,bsI,zcO B x]
def wrI [W0] (x:List Blk) (q:Blk):List (Nat × Nat):=(bsI [] x++[(1,1)])++blI (itL (bsI [] x)+1) q
end Go.Df
namespace Go.Proofs.YtemdlifojcgplaaGreatDoor
open Go Go.Vx Go.Hf Go.If Go.Df
variable [W0]
set_option maxRecDepth 4000
set_option linter.all false
theorem Zw.le {L:List Chunk} {v:Value} {B:Blk} (h:Zw L v B) (n:Nat):itL (blI n B)≤10000000:=by
 cases B with
 |st t=>
  obtain ⟨vt,_,_,h3⟩:=h
  simp only [blI]
  rw [zw,zbj]
  simp only [itL]
  omega
 |fx ts=>
  obtain ⟨vt,v1,v2,v3,v4,_,hc⟩:=h
  have h1:=zbA hc.a.ok hc.b.ok hc.t.ok
  have h2:(sc fxL 256).2≤15:=hc.a.ok.at 256
  have h3:=hc.nt
  simp only [blI,itL]
  rw [zw]
  simp only [itL]
  omega
 |dn ts l dl n1 n2 o own rs=>
  obtain ⟨vt,v1,v2,v3,v4,vo,v5,v6,vr,_,hc,hh⟩:=h
  have h1:=zbA hc.a.ok hc.b.ok hc.t.ok
  have h2:(sc l 256).2≤15:=hc.a.ok.at 256
  have h3:=hc.nt
  have h4:=zc9 hh.c.ok hh.ol.2 rs n1 n2
  have h5:=hh.rn
  simp only [blI,itL]
  rw [zw,zw]
  simp only [itL]
  omega
structure Qi (L:List Chunk) (v:Value) (bs:List Blk):Prop where
 ex:∃vs:List Value,Rs L 1 v bs.length vs∧ones vs=true∧∀(i:Nat) (B:Blk),bs[i]? =some B→∃u,vs[i]? =some u∧Zw L u B
theorem Qi.sub {L L':List Chunk} (hs:∀x∈L.flatten,x∈L'.flatten) {v:Value} {bs:List Blk} (h:Qi L v bs):Qi L' v bs:=by
 obtain ⟨vs,h1,h2,h3⟩:=h.ex
 exact ⟨vs,h1.sub hs,h2,fun i B hi=>by obtain ⟨u,h4,h5⟩:=h3 i B hi;exact ⟨u,h4,h5.sub hs⟩⟩
theorem zo9 {L:List Chunk} {v:Value} {bs:List Blk} (h:Qi L v bs) (j:Nat) (hj:j≤bs.length):itL (bsI [] (bs.take j))≤10000001 * j:=by
 obtain ⟨vs,_,_,h3⟩:=h.ex
 induction j with
 |zero=>simp [bsI,itL]
 |succ j ih=>
  have hjl:j < bs.length:=hj
  obtain ⟨B,hB⟩:∃B,bs[j]? =some B:=⟨bs[j],List.getElem?_eq_getElem hjl⟩
  obtain ⟨u,_,hu⟩:=h3 j B hB
  have h4:=hu.le (itL (bsI [] (bs.take j))+1)
  have h5:=ih (by omega)
  rw [qd hB,zcO,zw,zw]
  simp only [itL]
  omega
theorem ziv (v:Value) (bs:List Blk) (q:Blk) (L:List Chunk) (hK:Qi L v (bs++[q])) (hn:bs.length≤1000) :
 Gv Tryz.prog 74 [v].toArray L (fun r L'=>∃C,Ow 5 1 r ((itL (wrI bs q)+7) / 8) (bsv (leB (itV (wrI bs q)) ((itL (wrI bs q)+7) / 8))) C∧L'=C::L):=by
 refine Gv.of_body (args:=[v]) Tryz.func74 rfl rfl ?_
 obtain ⟨vs,hrs,hon,hbl⟩:=hK.ex
 rw [List.length_append,List.length_singleton] at hrs
 obtain ⟨r,hr,hev⟩:=yR (P:=Tryz.prog) (T:=113) hrs (l:=0) (h:=bs.length) (by omega) (by omega)
 obtain ⟨va,vc,rfl,_⟩:=hrs.room
 rw [Nat.zero_mul,List.drop_zero,Nat.sub_zero,Nat.mul_one] at hr
 obtain ⟨ra,rc,rfl,_⟩:=hr.room
 (refine kW ?_;refine kU fun bk=>?_;refine kW ?_)
 rw [show ((bs.length+1:Nat):Int) - 1=(bs.length:Int) from by omega]
 refine ze (hev rfl rfl rfl) rfl ?_
 have hall:∀j,j≤bs.length→itL (bsI [] (bs.take j))≤10000001 * j:=fun j hj=>by
  have:=zo9 hK j (by simp;omega)
  rwa [List.take_append_of_le_length hj] at this
 refine kW ?_
 refine zn (X:=Nat × Chunk × Chunk) (fun x=>[(0,.slice va (bs.length+1) vc),(3,.pointer (some ⟨bk,0,none⟩)),(12,.slice ra (bs.length - 0) rc),(13,.int .i64 ((bs.length - 0:Nat):Int)),(14,.int .i64 (x.1:Int))]) (fun x=>x.2.1::x.2.2::L)
  (fun x=>x.1≤bs.length∧WrI bk (bsI [] (bs.take x.1)) x.2.1 x.2.2) (fun x=>bs.length - x.1) (0,_,[]) ⟨Nat.zero_le _,WrI.new bk⟩ iS (fun w h=>Holds.gap.2 h) ?_
 rintro ⟨j,D,E⟩ ⟨hj,h⟩
 simp only at hj h ⊢
 have hlj:=hall j hj
 (repeat' first|refine kW ?_|refine kU fun bk=>?_|refine kV fun hc=>?_|refine kZ (fun hc=>?_) fun hc=>?_|fail)
 ·have hjl:j < bs.length:=by omega
  obtain ⟨B,hB⟩:∃B,bs[j]? =some B:=⟨bs[j],List.getElem?_eq_getElem hjl⟩
  obtain ⟨u,hu,hbu⟩:=hbl j B (by rw [List.getElem?_append_left hjl];exact hB)
  obtain ⟨b1,o1,c1,cc1,T1,f1,hv9,hf1,hv1⟩:=yV hr.sl (k:=j) (u:=u) (by rw [List.getElem?_take,if_pos (by omega)];exact hu)
  injection hv9 with q1 q2 q3
  subst q1 q3
  clear q2
  refine ze (zi (j:=j) rfl rfl rfl (by omega)) rfl ?_
  refine kW ?_
  refine ze (zq rfl (.there (.there hf1)) hv1) rfl ?_
  refine kW ?_
  refine cC rfl rfl (vX bk 0 1 _ D E L h (by decide) (by decide) (by omega)) (fun r L' hp=>?_)
  obtain ⟨rfl,D1,E1,hw1,rfl⟩:=hp
  have hL1:itL (bsI [] (bs.take j)++[(0,1)])=itL (bsI [] (bs.take j))+1:=by rw [zw];rfl
  have hbw:=zdW u B bk _ D1 E1 L hbu hw1 (by rw [hL1];omega)
  rw [hL1,←zcO,←qd hB] at hbw
  refine kW ?_
  refine cC rfl rfl hbw (fun r L' hp=>?_)
  obtain ⟨rfl,D2,E2,hw2,rfl⟩:=hp
  refine kW ?_
  refine zf (X:=Nat × Chunk × Chunk) (μ:=fun x=>bs.length - x.1) (x:=(j,D,E)) (j+1,D2,E2) (by simp only;omega) ⟨by simp only;omega,hw2⟩ iS (fun w h=>iH h)
 ·obtain rfl:j=bs.length:=by omega
  rw [List.take_length] at h hlj
  obtain ⟨u,hu,hbu⟩:=hbl bs.length q (by simp)
  obtain ⟨b1,o1,c1,cc1,T1,f1,hv9,hf1,hv1⟩:=yV hrs.sl hu
  injection hv9 with q1 q2 q3
  subst q1 q3
  clear q2
  refine cC rfl rfl (vX bk 1 1 _ D E L h (by decide) (by decide) (by omega)) (fun r L' hp=>?_)
  obtain ⟨rfl,D1,E1,hw1,rfl⟩:=hp
  have hL1:itL (bsI [] bs++[(1,1)])=itL (bsI [] bs)+1:=by rw [zw];rfl
  have hle:=hbu.le (itL (bsI [] bs)+1)
  have hbw:=zdW u q bk _ D1 E1 L hbu hw1 (by rw [hL1];omega)
  rw [hL1] at hbw
  have hwI:itL (wrI bs q)≤1125880000000000:=by unfold wrI;rw [zw,hL1];omega
  refine kW ?_
  rw [show ((bs.length+1:Nat):Int) - 1=(bs.length:Int) from by omega]
  refine ze (zi (j:=bs.length) rfl rfl rfl (by omega)) rfl ?_
  refine kW ?_
  refine ze (zq rfl (.there (.there hf1)) hv1) rfl ?_
  refine kW ?_
  refine cC rfl rfl hbw (fun r L' hp=>?_)
  obtain ⟨rfl,D2,E2,hw2,rfl⟩:=hp
  refine kW ?_
  refine cC rfl rfl (zl8 bk _ _ D2 E2 L hw2 (by show itL (wrI bs q)≤_;omega)) (fun r L' hp=>?_)
  obtain ⟨C,rfl,ho⟩:=hp
  refine kW ?_
  refine kR ?_
  exact ⟨_,iC,C,ho,rfl⟩
end Go.Proofs.YtemdlifojcgplaaGreatDoor
namespace Go.Df
open Go.Vx Go.If Go.Hf
set_option linter.all false
def stF:Nat→List UInt8→List Blk
 |0,b=>[.st b]
 |f+1,b=>if 65535 < b.length then .st (b.take 65535)::stF f (b.drop 65535) else [.st b]
def stB (b:List UInt8):List Blk:=stF b.length b
theorem zeT {b:List UInt8} (h:¬65535 < b.length):∀f,stF f b=[.st b]
 |0=>rfl
 |f+1=>by rw [stF,if_neg h]
end Go.Df
namespace Go.Proofs.YtemdlifojcgplaaGreatDoor
open Go Go.Vx Go.Hf Go.If Go.Df
variable [W0]
set_option maxRecDepth 4000
set_option linter.all false
structure ZL (L:List Chunk) (v:Value) (bs:List Blk) (C:Chunk):Prop where
 ex:∃vs:List Value,Ow 173 1 v bs.length vs C∧ones vs=true∧∀(i:Nat) (B:Blk),bs[i]? =some B→∃u,vs[i]? =some u∧Zw L u B
theorem ZL.r {L:List Chunk} {v:Value} {bs:List Blk} {C:Chunk} (h:ZL L v bs C):Qi (C::L) v bs:=by
 obtain ⟨vs,h1,h2,h3⟩:=h.ex
 exact ⟨vs,Rs.ow h1,h2,fun i B hi=>by obtain ⟨u,h4,h5⟩:=h3 i B hi;exact ⟨u,h4,h5.sub yh⟩⟩
theorem ZL.nil (L:List Chunk):ZL L (.slice none 0 0) [] []:=⟨[],.inl ⟨rfl,rfl,rfl,rfl⟩,rfl,fun i B h=>by simp at h⟩
theorem ZL.push {L:List Chunk} {v' u:Value} {bs:List Blk} {B:Blk} {C':Chunk} {vs:List Value} (h2:ones vs=true) (h3:∀(i:Nat) (B:Blk),bs[i]? =some B→∃u,vs[i]? =some u∧Zw L u B) (hl:vs.length=bs.length)
 (ho:Ow 173 1 v' (bs.length+1) (vs++[u]) C') (h1:u.oneCell'=true) (hB:Zw L u B):ZL L v' (bs++[B]) C':=by
 refine ⟨vs++[u],by simpa using ho,?_,fun i B' hi=>?_⟩
 ·simp only [ones,List.all_append,List.all_cons,List.all_nil,Bool.and_true,h1] at h2 ⊢
  exact h2
 ·rcases Nat.lt_or_ge i bs.length with hlt|hge
  ·rw [List.getElem?_append_left hlt] at hi
   obtain ⟨u',h4,h5⟩:=h3 i B' hi
   exact ⟨u',by rw [List.getElem?_append_left (by omega)];exact h4,h5⟩
  ·rw [List.getElem?_append_right hge] at hi
   have h0:i - bs.length=0:=by
    rcases Nat.eq_zero_or_pos (i - bs.length) with h|h
    ·exact h
    ·rw [List.getElem?_eq_none (show [B].length≤i - bs.length from h)] at hi
     cases hi
   rw [h0] at hi
   simp only [List.getElem?_cons_zero,Option.some.injEq] at hi
   subst hi
   exact ⟨u,by rw [List.getElem?_append_right (by omega),show i - vs.length=0 from by omega];rfl,hB⟩
theorem znc (level:Int) (L:List Chunk):GvP Tryz.prog 45 [.int .i64 level].toArray L (.int .u8 (if level≤0 then 1 else if level=1 then 94 else 156)):=by
 refine Gv.of_body Tryz.func45 rfl rfl ?_
 (repeat' first|refine kW ?_|refine kU fun bk=>?_|refine kV fun hc=>?_|refine kZ (fun hc=>?_) fun hc=>?_|fail)
 ·rw [if_pos (by omega)]
  refine kR ?_
  exact ⟨_,iC,rfl,rfl⟩
 ·rw [if_neg (by omega),if_pos (by omega)]
  refine kR ?_
  exact ⟨_,iC,rfl,rfl⟩
 ·rw [if_neg (by omega),if_neg (by omega)]
  refine kR ?_
  exact ⟨_,iC,rfl,rfl⟩
theorem zbs (v:Value) (b:List UInt8) (S L:List Chunk) (ht:Rs S 1 v b.length (bsv b)) (hb:b.length≤200000) :
 Gv Tryz.prog 117 [v].toArray L (fun r L'=>∃C,ZL S r (stB b) C∧L'=C::L):=by
 refine Gv.of_body (args:=[v]) Tryz.func117 rfl rfl ?_
 refine kW ?_
 refine zn (X:=Nat × List UInt8 × Value × List Blk × Value × Chunk) (fun x=>[(0,x.2.2.1),(3,x.2.2.2.2.1)]) (fun x=>x.2.2.2.2.2::L)
  (fun x=>Rs S 1 x.2.2.1 x.2.1.length (bsv x.2.1)∧x.2.1.length≤x.1∧x.1≤200000∧ZL S x.2.2.2.2.1 x.2.2.2.1 x.2.2.2.2.2∧x.2.2.2.1.length+x.1≤200000∧x.2.2.2.1++stF x.1 x.2.1=stB b) (fun x=>x.1) (b.length,b,v,[],.slice none 0 0,[])
  ⟨ht,Nat.le_refl _,hb,ZL.nil S,by simpa using hb,rfl⟩ iS (fun w h=>Holds.nil.2 h) ?_
 clear ht v
 rintro ⟨f,t,v,bs,vl,Cl⟩ ⟨ht,htf,hf2,hbl,hbn,hst⟩
 simp only at ht htf hf2 hbl hbn hst ⊢
 obtain ⟨va,vc,rfl,hroom⟩:=ht.room
 obtain ⟨vs,hov,hon,hex⟩:=hbl.ex
 have hvl:vs.length=bs.length:=by rcases hov with ⟨_,h0,rfl,_⟩|⟨_,_,_,_,_,h,_⟩;simpa using h0.symm;omega
 (repeat' first|refine kW ?_|refine kU fun bk=>?_|refine kV fun hc=>?_|refine kZ (fun hc=>?_) fun hc=>?_|fail)
 ·have hlt:65535 < t.length:=by omega
  obtain ⟨g,rfl⟩:∃g,f=g+1:=⟨f - 1,by omega⟩
  rw [stF,if_pos hlt] at hst
  obtain ⟨r1,hr1,hev1⟩:=yR (P:=Tryz.prog) (T:=22) ht (l:=0) (h:=65535) (by omega) (by omega)
  obtain ⟨r2,hr2,hev2⟩:=yR (P:=Tryz.prog) (T:=22) ht (l:=65535) (h:=t.length) (by omega) (by omega)
  have e1:(((bsv t).drop (0 * 1)).take ((65535 - 0) * 1))=bsv (t.take 65535):=by simp [bsv,List.map_take]
  have e2:(((bsv t).drop (65535 * 1)).take ((t.length - 65535) * 1))=bsv (t.drop 65535):=by
   rw [Nat.mul_one,Nat.mul_one,List.take_of_length_le (by rw [List.length_drop,zH];exact Nat.le_refl _)]
   simp [bsv,List.map_drop]
  rw [e1] at hr1
  rw [e2] at hr2
  refine ze (hev1 rfl rfl rfl) rfl ?_
  obtain ⟨ra,rc,rfl,_⟩:=hr1.room
  refine kW ?_
  refine zl (cs:=[.iface 220 (.agg #[.slice ra (65535 - 0) rc])]) rfl (by rfl) (by first|(simp [zA,patch,Value.cells,zeros];done)|(simp [zA,patch,Value.cells,zeros];rfl)) (by omega) rfl rfl (fun bn=>?_)
  refine kW ?_
  refine zu rfl rfl hov (zF (k:=1) (c:=#[.iface 220 (.agg #[.slice ra (65535 - 0) rc])]) (xs:=[.iface 220 (.agg #[.slice ra (65535 - 0) rc])]) (m:=1) Fnd.here rfl (by simp)) (by repeat (first|exact Zip.here _|apply Zip.there)) rfl (by rfl) (by omega) (by simp [maxLen];omega) rfl (fun v' C' ho' _ _=>?_)
  have hbl':=ZL.push (B:=.st (t.take 65535)) hon hex hvl ho' rfl ⟨_,rfl,by rw [List.length_take,Nat.min_eq_left (by omega)];exact hr1,by rw [List.length_take];omega⟩
  refine kW ?_
  refine ze (hev2 rfl rfl rfl) rfl ?_
  refine kW ?_
  refine zf (X:=Nat × List UInt8 × Value × List Blk × Value × Chunk) (μ:=fun x=>x.1) (x:=(g+1,t,.slice va t.length vc,bs,vl,Cl)) (g,t.drop 65535,r2,bs++[.st (t.take 65535)],v',C') (by simp only;omega) ⟨by simp only;rw [List.length_drop];exact hr2,by simp only [List.length_drop];omega,by simp only;omega,hbl',by simp only [List.length_append,List.length_singleton];omega,by simp only;rw [List.append_assoc];exact hst⟩ iS (fun w h=>iH h)
 ·rw [zeT (by omega)] at hst
  refine zl (cs:=[.iface 220 (.agg #[.slice va t.length vc])]) rfl (by rfl) (by first|(simp [zA,patch,Value.cells,zeros];done)|(simp [zA,patch,Value.cells,zeros];rfl)) (by omega) rfl rfl (fun bn=>?_)
  refine kW ?_
  refine zu rfl rfl hov (zF (k:=1) (c:=#[.iface 220 (.agg #[.slice va t.length vc])]) (xs:=[.iface 220 (.agg #[.slice va t.length vc])]) (m:=1) Fnd.here rfl (by simp)) (by repeat (first|exact Zip.here _|apply Zip.there)) rfl (by rfl) (by omega) (by simp [maxLen];omega) rfl (fun v' C' ho' _ _=>?_)
  have hbl':=ZL.push (B:=.st t) hon hex hvl ho' rfl ⟨_,rfl,ht,by omega⟩
  rw [hst] at hbl'
  refine kW ?_
  refine kR ?_
  exact ⟨_,iC,C',hbl',rfl⟩
end Go.Proofs.YtemdlifojcgplaaGreatDoor
namespace Go.Df
open Go.Vx Go.If Go.Hf
set_option linter.all false
def be4 (n:Nat):List UInt8:=[UInt8.ofNat (n / 16777216),UInt8.ofNat (n / 65536),UInt8.ofNat (n / 256),UInt8.ofNat n]
def flB (level:Int):UInt8:=if level≤0 then 1 else if level=1 then 94 else 156
def wrB [W0] (x:List Blk) (q:Blk):List UInt8:=leB (itV (wrI x q)) ((itL (wrI x q)+7) / 8)
theorem u8w [W0] (m:Nat):IntKind.u8.wrap (m:Int)=((UInt8.ofNat m).toNat:Int):=by rw [wrap_u8,UInt8.toNat_ofNat'];omega
end Go.Df
namespace Go.Proofs.YtemdlifojcgplaaGreatDoor
open Go Go.Vx Go.Hf Go.If Go.Df
variable [W0]
set_option maxRecDepth 4000
set_option linter.all false
theorem zqq (v:Value) (level:Int) (b o:List UInt8) (L:List Chunk) (Q:List UInt8→Prop) (R:List Chunk→Prop) (hRC:∀C L',R L'→R (C::L')) (hR:R L) (ht:Rs L 1 v b.length (bsv b)) (hb:b.length≤200000)
 (hraw:∀L',R L'→Rs L' 1 v b.length (bsv b)→Gv Tryz.prog 46 [v,.int .i64 level].toArray L' (fun r L2=>∃C o,Q o∧o.length≤1000000000∧Ow 5 1 r o.length (bsv o) C∧L2=C::L')) :
 Gv Tryz.prog 21 [v,.int .i64 level].toArray L (fun r L'=>∃C o,Q o∧o.length≤1000000000∧Ow 5 1 r (2+o.length+4) (bsv ([120,flB level]++o++be4 (Ql (uO (1#32,0#32) b)).toNat)) C∧L'=C::L):=by
 refine Gv.of_body (args:=[v,.int .i64 level]) Tryz.func21 rfl rfl ?_
 have had:=fun L' (h:Rs L' 1 v b.length (bsv b))=>zgs b v L' (by omega) ⟨h.sl,h.room⟩
 obtain ⟨n,hn⟩:∃n,n=(Ql (uO (1#32,0#32) b)).toNat:=⟨_,rfl⟩
 have hn2:n < 4294967296:=by rw [hn];exact (Ql (uO (1#32,0#32) b)).isLt
 unfold w32 at had
 rw [←hn] at had ⊢
 have hfl:(if level≤0 then (1:Int) else if level=1 then 94 else 156)=((flB level).toNat:Int):=by
  unfold flB
  split
  ·rfl
  ·split<;>rfl
 have hfn:=fun L=>znc level L
 rw [hfl] at hfn
 refine kW ?_
 refine cP rfl rfl (hfn _) ?_
 refine kW ?_
 refine zl (cs:=bsv [120,flB level]) rfl (by rfl) (by first|(simp [zA,patch,Value.cells,zeros];done)|(simp [zA,patch,Value.cells,zeros];rfl)) (by omega) rfl rfl (fun bn=>?_)
 refine kW ?_
 refine cC rfl rfl (hraw _ (hRC _ _ hR) ht.there) (fun r L' hp=>?_)
 obtain ⟨C,o,hQ,hol,ho,rfl⟩:=hp
 refine kW ?_
 have hb2:Ow 5 1 (.slice (some ⟨bn,0,none⟩) 2 2) 2 (bsv [120,flB level]) [(bn,cl (bsv [120,flB level]) 5)]:=.inr ⟨bn,2,[],rfl,by rw [List.append_nil],rfl,rfl,Nat.le_refl _,by simp [maxLen]⟩
 refine zu rfl rfl hb2 (qz ho) (by repeat (first|exact Zip.here _|apply Zip.there)) rfl yj (by omega) (by simp [maxLen];omega) rfl (fun v' C' ho' _ _=>?_)
 rw [←yt] at ho'
 refine kW ?_
 refine cP rfl rfl (had _ ht.there.there) ?_
 refine kW ?_
 rw [show (n:Int) / 16777216=((n / 16777216:Nat):Int) from by omega,show (n:Int) / 65536=((n / 65536:Nat):Int) from by omega,show (n:Int) / 256=((n / 256:Nat):Int) from by omega,u8w,u8w,u8w,u8w]
 refine zl (cs:=bsv (be4 n)) rfl (by rfl) (by first|(simp [zA,patch,Value.cells,zeros];done)|(simp [zA,patch,Value.cells,zeros];rfl)) (by omega) rfl rfl (fun b4=>?_)
 refine jA ?_
 refine zu rfl rfl ho' (zF (k:=1) (c:=(bsv (be4 n)).toArray) (xs:=bsv (be4 n)) (m:=4) Fnd.here rfl (by simp)) (by repeat (first|exact Zip.here _|apply Zip.there)) rfl yj (by omega) (by simp [maxLen];omega) rfl (fun v2 C2 ho2 _ _=>?_)
 rw [←yt] at ho2
 refine kW ?_
 refine kR ?_
 exact ⟨_,iC,C2,o,hQ,hol,ho2,rfl⟩
end Go.Proofs.YtemdlifojcgplaaGreatDoor
namespace Go.Df
open Go.Vx
set_option linter.all false
def tr (b:List UInt8) (i:Nat):List UInt8:=(b.drop i).take 3
theorem zge {b:List UInt8} {i:Nat} (h:i+3≤b.length):(tr b i).length=3:=by unfold tr;rw [List.length_take,List.length_drop];omega
def uG (b:List UInt8):Nat→List UInt8→Option Nat
 |0,_=>none
 |p+1,l=>if p+3≤b.length∧tr b p=l then some p else uG b p l
theorem za8 {b:List UInt8}:∀{p:Nat} {l:List UInt8} {q:Nat},uG b p l=some q→q < p∧q+3≤b.length∧tr b q=l
 |0,l,q,h=>by cases h
 |p+1,l,q,h=>by
  rw [uG] at h
  split at h
  ·cases h;exact ⟨by omega,by assumption⟩
  ·have:=za8 h;exact ⟨by omega,this.2⟩
def nr (b:List UInt8) (i:Nat):Option Nat:=if i+3≤b.length then uG b i (tr b i) else none
theorem Y4 {b:List UInt8} {i q:Nat} (h:nr b i=some q):q < i∧i+3≤b.length∧tr b q=tr b i:=by
 unfold nr at h
 split at h
 ·have:=za8 h;exact ⟨this.1,by assumption,this.2.2⟩
 ·cases h
def Q9:Option Nat→Int
 |none=> -1
 |some q=>(q:Int)
def cmF (b:List UInt8) (p i:Nat):Nat→Nat→Nat
 |0,n=>n
 |f+1,n=>if b.getD (p+n) 0=b.getD (i+n) 0 then cmF b p i f (n+1) else n
theorem zfk (b:List UInt8) (p i:Nat):∀f n,n≤cmF b p i f n∧cmF b p i f n≤n+f
 |0,n=>by rw [cmF];omega
 |f+1,n=>by
  rw [cmF]
  split
  ·have:=zfk b p i f (n+1);omega
  ·omega
theorem zjo (b:List UInt8) (p i:Nat):∀f n k,n≤k→k < cmF b p i f n→b.getD (p+k) 0=b.getD (i+k) 0
 |0,n,k,h1,h2=>by rw [cmF] at h2;omega
 |f+1,n,k,h1,h2=>by
  rw [cmF] at h2
  split at h2
  ·rcases Nat.eq_or_lt_of_le h1 with rfl|h1
   ·assumption
   ·exact zjo b p i f (n+1) k h1 h2
  ·omega
theorem zjq (b:List UInt8) (p i:Nat):∀f n m,m≤n+f→(∀k,n≤k→k < m→b.getD (p+k) 0=b.getD (i+k) 0)→m≤cmF b p i f n
 |0,n,m,h1,h2=>by rw [cmF];omega
 |f+1,n,m,h1,h2=>by
  rw [cmF]
  split
  ·exact zjq b p i f (n+1) m (by omega) fun k h3 h4=>h2 k (by omega) h4
  ·rename_i hh
   rcases Nat.lt_or_ge n m with h3|h3
   ·exact absurd (h2 n (Nat.le_refl _) h3) hh
   ·exact h3
def cm (b:List UInt8) (p i most:Nat):Nat:=cmF b p i most 0
def qN (b:List UInt8) (i:Nat):Nat:=min 258 (b.length - i)
def lgF (b:List UInt8) (reach:Int) (i:Nat):Nat→Option Nat→Nat × Nat→Nat × Nat
 |0,_,m=>m
 |f+1,none,m=>m
 |f+1,some q,m=>if m.1 < qN b i∧(i:Int) - (q:Int)≤reach then lgF b reach i f (nr b q) (if m.1 < cm b q i (qN b i) then (cm b q i (qN b i),i - q) else m) else m
def lg (b:List UInt8) (reach:Int) (i:Nat):Nat × Nat:=lgF b reach i 256 (nr b i) (0,0)
structure MOk (b:List UInt8) (reach:Int) (i n d:Nat):Prop where
 n3:3≤n
 nm:n≤258
 fit:i+n≤b.length
 d1:1≤d
 dr:(d:Int)≤reach
 di:d≤i
 eq:∀k,k < n→b.getD (i+k) 0=b.getD (i+k - d) 0
theorem zqi {b:List UInt8} {p i:Nat} (h:tr b p=tr b i):∀k,k < 3→b.getD (p+k) 0=b.getD (i+k) 0:=by
 intro k hk
 have h2:=congrArg (fun l=>l[k]?) h
 simp only [tr,List.getElem?_take,hk,if_true,List.getElem?_drop] at h2
 simp only [List.getD_eq_getElem?_getD,h2]
theorem zky {b:List UInt8} {reach:Int} {i:Nat} (hi:i+3≤b.length):∀(f:Nat) (p:Option Nat) (m:Nat × Nat),(∀q,p=some q→q < i∧tr b q=tr b i)→(m.1=0∨MOk b reach i m.1 m.2)→
 (lgF b reach i f p m).1=0∨MOk b reach i (lgF b reach i f p m).1 (lgF b reach i f p m).2
 |0,p,m,hp,hm=>by rw [lgF];exact hm
 |f+1,none,m,hp,hm=>by rw [lgF];exact hm
 |f+1,some q,m,hp,hm=>by
  rw [lgF]
  split
  ·rename_i hc
   obtain ⟨q1,q2⟩:=hp q rfl
   refine zky hi f _ _ (fun q' hq'=>?_) ?_
   ·have:=Y4 hq'
    exact ⟨by omega,by rw [this.2.2,q2]⟩
   ·split
    ·right
     have hc3:3≤cm b q i (qN b i):=zjq b q i _ 0 3 (by unfold qN;omega) fun k _ h=>zqi q2 k h
     have hcl:=(zfk b q i (qN b i) 0).2
     have hcl':cm b q i (qN b i)≤qN b i:=by unfold cm;omega
     unfold qN at hcl'
     unfold qN at hc3
     exact ⟨hc3,by unfold qN;omega,by unfold qN;omega,by simp only;omega,by simp only;omega,by simp only;omega,fun k hk=>by
      have:=zjo b q i _ 0 k (Nat.zero_le _) hk
      rw [show i+k - (i - q)=q+k from by omega,this]⟩
    ·exact hm
  ·exact hm
theorem zoB (b:List UInt8) (reach:Int) (i:Nat):(lg b reach i).1=0∨MOk b reach i (lg b reach i).1 (lg b reach i).2:=by
 unfold lg
 by_cases hi:i+3≤b.length
 ·exact zky hi 256 _ _ (fun q hq=>⟨(Y4 hq).1,(Y4 hq).2.2⟩) (.inl rfl)
 ·left
  unfold nr
  rw [if_neg hi]
  rfl
def msF (b:List UInt8) (reach:Int):Nat→Nat→List (Nat × Nat × Nat)
 |0,_=>[]
 |f+1,i=>if i < b.length then (if 0 < (lg b reach i).1 then [(i,lg b reach i)] else [])++msF b reach f (i+max (lg b reach i).1 1) else []
def msR (b:List UInt8) (reach:Int):List (Nat × Nat × Nat):=msF b (min reach 32768) b.length 0
def zcz (b:List UInt8) (reach:Int):Nat→List (Nat × Nat × Nat)→Prop
 |_,[]=>True
 |i,m::r=>i≤m.1∧MOk b reach m.1 m.2.1 m.2.2∧zcz b reach (m.1+m.2.1) r
theorem zcz.mono {b:List UInt8} {reach:Int}:∀{i j:Nat} {l:List (Nat × Nat × Nat)},i≤j→zcz b reach j l→zcz b reach i l
 |_,_,[],_,_=>trivial
 |_,_,m::r,h,hm=>⟨Nat.le_trans h hm.1,hm.2⟩
theorem zfH (b:List UInt8) (reach:Int):∀f i,zcz b reach i (msF b reach f i)
 |0,i=>trivial
 |f+1,i=>by
  rw [msF]
  split
  ·split
   ·rename_i h
    have hm:=(zoB b reach i).resolve_left (by omega)
    refine ⟨Nat.le_refl _,hm,?_⟩
    have:=zfH b reach f (i+max (lg b reach i).1 1)
    exact this.mono (by simp only;omega)
   ·exact (zfH b reach f _).mono (by omega)
  ·trivial
theorem zfI (b:List UInt8) (reach:Int):zcz b (min reach 32768) 0 (msR b reach):=zfH b _ _ _
theorem zes (b:List UInt8) (reach:Int):∀f i g,b.length - i≤f→f≤g→msF b reach g i=msF b reach f i
 |0,i,0,_,_=>rfl
 |0,i,g+1,h1,_=>by rw [msF,msF,if_neg (by omega)]
 |f+1,i,g+1,h1,h2=>by
  rw [msF,msF]
  split
  ·rw [zes b reach f _ g (by omega) (by omega)]
  ·rfl
end Go.Df
namespace Go.Proofs.YtemdlifojcgplaaGreatDoor
open Go Go.Vx Go.Df
set_option maxRecDepth 4000
set_option linter.all false
theorem zoC:Tryz.prog.underlying 280=some (.map 305 3):=by kernel_rfl
instance:KA Tryz.prog 305 5:=⟨⟨by kernel_rfl,by kernel_rfl,by kernel_rfl,by kernel_rfl⟩,by kernel_rfl,⟨Tryz.prog.types.size - 1,by kernel_rfl⟩⟩
variable [W0]
omit [W0] in
def fnV (v:Value) (reach:Int) (mb:Nat) (ve:Value):List Value:=[v,.int .i64 reach,.map (some mb),ve]
omit [W0] in
def fnO (v:Value) (reach:Int) (mb:Nat) (ve:Value):Obj:=cl (fnV v reach mb ve) 282
theorem slb {L:List Chunk} {v:Value} {m:Nat} {t:List UInt8} (h:Sl L 1 v m (bsv t)) (hm:0 < m) :
 ∃bb off cap c T fr,v=.slice (some ⟨bb,off,none⟩) m cap∧Fnd L bb (.cells c T fr)∧∀k,k < m→c[off+k * 1]? =some (.int .u8 ((t.getD k 0).toNat:Int)):=by
 rcases h with ⟨c,rfl,rfl,h0⟩|⟨a,cap,rfl,hr,hl⟩
 ·omega
 ·rw [zH,Nat.mul_one] at hl
  rcases hr with h0|⟨b,off,c,T,fr,rfl,h1,h2⟩
  ·have h9:(bsv t).length=0:=by rw [h0];rfl
   rw [zH] at h9
   omega
  ·exact ⟨b,off,cap,c,T,fr,rfl,h1,fun k hk=>by rw [Nat.mul_one];exact h2 _ _ (wW (by simp [List.getD,show k < t.length by omega]))⟩
theorem zdT (p mb:Nat) (v ve:Value) (reach:Int) (b:List UInt8) (i:Nat) (L:List Chunk) (ht:Sl L 1 v b.length (bsv b)) (hf:Fnd L p (fnO v reach mb ve)) (hb:b.length≤200000) (hi:i≤200000) :
 GvP Tryz.prog 235 [.pointer (some ⟨p,0,none⟩),.int .i64 (i:Int)].toArray L (.bool (decide (i+3≤b.length))):=by
 refine Gv.of_body Tryz.func235 rfl rfl ?_
 obtain ⟨va,vc,rfl⟩:=YI ht
 unfold fnO fnV at hf
 refine kW ?_
 refine kR ?_
 exact ⟨_,iC,congrArg Value.bool (by rw [Bool.eq_iff_iff];simp only [decide_eq_true_eq];omega),rfl⟩
theorem zjv (p mb:Nat) (v ve:Value) (reach:Int) (b:List UInt8) (q i most:Nat) (L:List Chunk) (ht:Sl L 1 v b.length (bsv b)) (hf:Fnd L p (fnO v reach mb ve)) (hb:b.length≤200000) (hi:i+most≤b.length) (hq:q≤i) (h0:i < b.length) :
 GvP Tryz.prog 234 [.pointer (some ⟨p,0,none⟩),.int .i64 (q:Int),.int .i64 (i:Int),.int .i64 (most:Int)].toArray L (.int .i64 ((cm b q i most:Nat):Int)):=by
 refine Gv.of_body Tryz.func234 rfl rfl ?_
 obtain ⟨bb,off,cap,cc,T,fr,rfl,hfn,hcs⟩:=slb ht (by omega)
 unfold fnO fnV at hf
 refine kW ?_
 refine zn (X:=Nat) (fun x=>[(0,.pointer (some ⟨p,0,none⟩)),(1,.int .i64 (q:Int)),(2,.int .i64 (i:Int)),(3,.int .i64 (most:Int)),(9,.int .i64 (x:Int))]) (fun x=>L)
  (fun x=>x≤most∧cmF b q i (most - x) x=cm b q i most) (fun x=>most - x) 0 ⟨Nat.zero_le _,rfl⟩ iS (fun w h=>h) ?_
 rintro k ⟨hk,hm⟩
 refine kW ?_
 by_cases hkm:k < most
 ·obtain ⟨f,hf2⟩:∃f,most - k=f+1:=⟨most - k - 1,by omega⟩
  rw [hf2,cmF] at hm
  have hc1:=hcs (q+k) (by omega)
  have hc2:=hcs (i+k) (by omega)
  generalize b.getD (q+k) 0=x at hm hc1
  generalize b.getD (i+k) 0=y at hm hc2
  refine zk [] mixed ?_
  (refine za 0 ?_;refine za 1 ?_;refine za 2 ?_;refine za 3 ?_)
  rw [show decide ((k:Int) < (most:Int))=true from by simp;omega]
  (refine zN 4 ?_;refine zN 5 ?_;refine zN 6 ?_;refine zN 7 ?_;refine zN 8 ?_;refine zN 9 ?_;refine zN 10 ?_)
  refine cO 11 rfl rfl rfl (zi (j:=q+k) (len:=b.length) rfl rfl (by omega) (by omega)) ?_
  refine cO 12 rfl rfl rfl (zq rfl hfn hc1) ?_
  (refine zN 13 ?_;refine zN 14 ?_;refine zN 15 ?_;refine zN 16 ?_;refine zN 17 ?_;refine zN 18 ?_;refine zN 19 ?_)
  refine cO 20 rfl rfl rfl (zi (j:=i+k) (len:=b.length) rfl rfl (by omega) (by omega)) ?_
  refine cO 21 rfl rfl rfl (zq rfl hfn hc2) ?_
  (refine zN 22 ?_)
  (refine za 23 ?_)
  refine cD ?_
  (repeat' first|refine kW ?_|refine kU fun bk=>?_|refine kV fun hc=>?_|refine kZ (fun hc=>?_) fun hc=>?_|fail)
  ·have hxy:x=y:=UInt8.toNat_inj.1 (by omega)
   rw [if_pos hxy] at hm
   refine zf (X:=Nat) (μ:=fun x=>most - x) (x:=k) (k+1) (by show most - (k+1) < most - k;omega) ⟨by omega,by rw [show most - (k+1)=f from by omega];exact hm⟩ iS (fun w h=>h)
  ·have hxy:¬x=y:=fun hh=>hc (by rw [hh])
   rw [if_neg hxy] at hm
   rw [←hm]
   refine kR ?_
   exact ⟨_,iC,rfl,rfl⟩
 ·obtain rfl:k=most:=by omega
  rw [show k - k=0 from by omega,cmF] at hm
  refine zk [] mixed ?_
  (refine za 0 ?_;refine za 1 ?_;refine za 2 ?_;refine za 3 ?_)
  rw [show decide ((k:Int) < (k:Int))=false from by simp]
  (refine zD 4 ?_;refine zD 5 ?_;refine zD 6 ?_;refine zD 7 ?_;refine zD 8 ?_;refine zD 9 ?_;refine zD 10 ?_;refine zD 11 ?_;refine zD 12 ?_;refine zD 13 ?_;refine zD 14 ?_;refine zD 15 ?_;refine zD 16 ?_;refine zD 17 ?_;refine zD 18 ?_;refine zD 19 ?_;refine zD 20 ?_;refine zD 21 ?_;refine zD 22 ?_)
  (refine za 23 ?_)
  refine cD ?_
  refine kW ?_
  rw [←hm]
  refine kR ?_
  exact ⟨_,iC,rfl,rfl⟩
theorem ze1 (p mb:Nat) (v ve:Value) (reach:Int) (b:List UInt8) (i:Nat) (L:List Chunk) (ht:Rs L 1 v b.length (bsv b)) (hf:Fnd L p (fnO v reach mb ve)) (hb:b.length≤200000) (hi:i+3≤b.length) :
 GvP Tryz.prog 236 [.pointer (some ⟨p,0,none⟩),.int .i64 (i:Int)].toArray L (kv3 (tr b i)):=by
 refine Gv.of_body Tryz.func236 rfl rfl ?_
 obtain ⟨r,hr,hev⟩:=yR (P:=Tryz.prog) (T:=22) ht (l:=i) (h:=b.length) (by omega) (Nat.le_refl _)
 obtain ⟨va,vc,rfl,_⟩:=ht.room
 unfold fnO fnV at hf
 have hl3:(bsv (tr b i)).length=3:=by rw [zH,zge hi]
 have htr:(((bsv b).drop (i * 1)).take ((b.length - i) * 1)).take 3=bsv (tr b i):=by
  rw [Nat.mul_one,Nat.mul_one,List.take_take,show min 3 (b.length - i)=3 from by omega]
  simp [bsv,tr,List.map_take,List.map_drop]
 rcases hr.sl with ⟨c0,_,h0,_⟩|⟨a0,cap0,rfl,hrd,hlen⟩
 ·omega
 have hrd:=znU hrd 3
 rw [htr] at hrd
 (refine kW ?_;refine kU fun bk=>?_;refine kW ?_)
 refine ze (hev rfl rfl rfl) rfl ?_
 refine kW ?_
 refine ze (ziD rfl (by omega)) rfl ?_
 refine kW ?_
 refine ze (zB rfl (y9 hrd) hl3) rfl ?_
 refine kW ?_
 refine zo (l:=[.int .u8 0,.int .u8 0,.int .u8 0]) (bsv (tr b i)) rfl rfl hl3 yj (by
  match bsv (tr b i),hl3 with
  |[x,y,z],_=>rfl) iU (by simp [hl3]) ?_
 refine kW ?_
 have hrc:zK ([(bk,cl (bsv (tr b i)) 305)]::L) ⟨bk,0,none⟩ (bsv (tr b i)):=zK.cl' Fnd.here (by unfold cut;rw [List.drop_zero,List.take_length])
 first
  |(refine zX (vs:=[kv3 (tr b i)]) rfl (.agg ⟨by kernel_rfl,by kernel_rfl⟩ rfl hrc hl3 .nil) ?_
    exact ⟨_,fun w h=>h.drop,rfl,rfl⟩)
  |(refine yF (vs:=[kv3 (tr b i)]) rfl (.agg ⟨by kernel_rfl,by kernel_rfl⟩ rfl hrc hl3 .nil) ?_
    exact ⟨_,fun w h=>h.drop,rfl,rfl⟩)
theorem zci (p mb:Nat) (v ve:Value) (reach:Int) (b:List UInt8) (i:Nat) (C:Chunk) (L:List Chunk) (ht:Rs L 1 v b.length (bsv b)) (hf:Fnd L p (fnO v reach mb ve)) (hb:b.length≤200000) (hi:i≤200000) (hm:MpD mb (uG b i) C) (hin:Inc [C] L) :
 GvP Tryz.prog 233 [.pointer (some ⟨p,0,none⟩),.int .i64 (i:Int)].toArray L (.int .i64 (Q9 (nr b i))):=by
 refine Gv.of_body Tryz.func233 rfl rfl ?_
 have h1:=zdT p mb v ve reach b i L ht.sl hf hb hi
 have hf':=hf
 unfold fnO fnV at hf'
 unfold nr
 refine kW ?_
 refine cP rfl rfl h1 ?_
 (repeat' first|refine kW ?_|refine kU fun bk=>?_|refine kV fun hc=>?_|refine kZ (fun hc=>?_) fun hc=>?_|fail)
 ·rw [if_pos hc]
  have h2:=ze1 p mb v ve reach b i L ht hf hb hc
  refine zk [] mixed ?_
  (refine za 0 ?_;refine za 1 ?_;refine za 2 ?_;refine za 3 ?_;refine za 4 ?_;refine za 5 ?_)
  refine cI 6 rfl rfl ?_
  refine cP rfl rfl h2 ?_
  refine ⟨iC,?_⟩
  refine cT 7 rfl rfl (ziA zoC rfl rfl (zge hc) hm hin) ?_
  (refine za 8 ?_;refine za 9 ?_;refine za 10 ?_;refine za 11 ?_;refine za 12 ?_)
  refine cD ?_
  cases hg:uG b i (tr b i) with
  |none=>
   simp only [Option.getD_none,Option.isSome_none]
   refine kW ?_
   refine kR ?_
   exact ⟨_,iC,rfl,rfl⟩
  |some q=>
   simp only [Option.getD_some,Option.isSome_some]
   refine kW ?_
   refine kR ?_
   exact ⟨_,iC,rfl,rfl⟩
 ·rw [if_neg hc]
  refine kR ?_
  exact ⟨_,iC,rfl,rfl⟩
end Go.Proofs.YtemdlifojcgplaaGreatDoor
namespace Go.Df
open Go.Vx
set_option linter.all false
theorem zkt {b:List UInt8} {t:Nat} (h:t+3≤b.length):ups (uG b t) (tr b t) t=uG b (t+1):=by
 funext l
 unfold ups
 rw [uG]
 by_cases hl:l=tr b t
 ·rw [if_pos hl,if_pos ⟨h,hl.symm⟩]
 ·rw [if_neg hl,if_neg (fun hh=>hl hh.2.symm)]
theorem zks {b:List UInt8} {t:Nat} (h:¬t+3≤b.length):uG b t=uG b (t+1):=by
 funext l
 rw [uG,if_neg (fun hh=>h hh.1)]
def ers (b:List UInt8) (t:Nat):List Value:=(List.range t).map fun q=>.int .i64 (Q9 (nr b q))
theorem zjJ (b:List UInt8) (t:Nat):ers b (t+1)=ers b t++[.int .i64 (Q9 (nr b t))]:=by simp [ers,List.range_succ]
theorem zm8 {b:List UInt8} {t q:Nat} (h:q < t):(ers b t)[q]? =some (.int .i64 (Q9 (nr b q))):=by simp [ers,h]
end Go.Df
namespace Go.Proofs.YtemdlifojcgplaaGreatDoor
open Go Go.Vx Go.Df
set_option maxRecDepth 4000
set_option linter.all false
variable [W0]
theorem zpS (p mb:Nat) (v ve:Value) (reach:Int) (b:List UInt8) (t k:Nat) (C1 C2:Chunk) (L:List Chunk) (ht:Rs L 1 v b.length (bsv b)) (hb:b.length≤200000) (hk:t+k≤b.length) (hm:MpD mb (uG b t) C1) (ho:Ow 3 1 ve t (ers b t) C2) :
 Gv Tryz.prog 200 [.pointer (some ⟨p,0,none⟩),.int .i64 (k:Int)].toArray ([(p,fnO v reach mb ve)]::C1::C2::L) (fun r L'=>r=.tuple #[]∧∃ve' C1' C2',MpD mb (uG b (t+k)) C1'∧Ow 3 1 ve' (t+k) (ers b (t+k)) C2'∧L'=[(p,fnO v reach mb ve')]::C1'::C2'::L):=by
 refine Gv.of_body Tryz.func200 rfl rfl ?_
 refine kW ?_
 refine zn (X:=Nat × Value × Chunk × Chunk) (fun x=>[(0,.pointer (some ⟨p,0,none⟩)),(5,.int .i64 (k:Int)),(6,.int .i64 (x.1:Int))]) (fun x=>[(p,fnO v reach mb x.2.1)]::x.2.2.1::x.2.2.2::L)
  (fun x=>x.1≤k∧MpD mb (uG b (t+x.1)) x.2.2.1∧Ow 3 1 x.2.1 (t+x.1) (ers b (t+x.1)) x.2.2.2) (fun x=>k - x.1) (0,ve,C1,C2) ⟨Nat.zero_le _,hm,ho⟩ iS (fun w h=>h) ?_
 clear hm ho ve C1 C2
 rintro ⟨j,ve,C1,C2⟩ ⟨hj,hm,ho⟩
 simp only at hj hm ho ⊢
 obtain ⟨va,vc,rfl⟩:=zM ho
 unfold fnO fnV
 (repeat' first|refine kW ?_|refine kU fun bk=>?_|refine kV fun hc=>?_|refine kZ (fun hc=>?_) fun hc=>?_|fail)
 ·have hnr:=zci p mb v (.slice va (t+j) vc) reach b (t+j) C1 ([(p,fnO v reach mb (.slice va (t+j) vc))]::C1::C2::L) ht.there.there.there Fnd.here hb (by omega) hm iC
  unfold fnO fnV at hnr
  refine yO [[(p,cl [v,.int .i64 reach,.map (some mb),.slice va (t+j) vc] 282)]] [12] mixed ?_
  (refine za 0 ?_;refine za 1 ?_;refine za 2 ?_;refine za 3 ?_;refine za 4 ?_;refine za 5 ?_;refine za 6 ?_)
  refine cI 7 rfl rfl ?_
  refine cP rfl rfl hnr ?_
  refine ⟨iC,?_⟩
  refine cI 8 rfl rfl ?_
  refine zl (cs:=[.int .i64 (Q9 (nr b (t+j)))]) rfl (by rfl) (by first|(simp [zA,patch,Value.cells,zeros];done)|(simp [zA,patch,Value.cells,zeros];rfl)) (by omega) rfl rfl (fun bn=>?_)
  refine ⟨iC,?_⟩
  refine cI 9 rfl rfl ?_
  refine zu rfl rfl ho (zF (k:=1) (c:=#[.int .i64 (Q9 (nr b (t+j)))]) (xs:=[.int .i64 (Q9 (nr b (t+j)))]) (m:=1) Fnd.here rfl (by simp)) (by repeat (first|exact Zip.here _|apply Zip.there)) rfl (by rfl) (by omega) (by simp [maxLen];omega) rfl (fun ve' C2' ho' _ _=>?_)
  rw [←zjJ] at ho'
  refine ⟨iC,?_⟩
  (refine za 10 ?_;refine za 11 ?_)
  refine cL 12 rfl rfl rfl ?_
  refine zG [v,.int .i64 reach,.map (some mb),ve'] rfl rfl (uK ho') rfl iU (by simp) ?_
  refine cD ?_
  have hbg:=zdT p mb v ve' reach b (t+j) ([(bn,cl [.int .i64 (Q9 (nr b (t+j)))] 3)]::[(p,fnO v reach mb ve')]::C1::C2'::L) ht.there.there.there.there.sl (.there .here) hb (by omega)
  unfold fnO fnV at hbg
  refine kW ?_
  refine cP rfl rfl hbg ?_
  (repeat' first|refine kW ?_|refine kU fun bk=>?_|refine kV fun hc=>?_|refine kZ (fun hc=>?_) fun hc=>?_|fail)
  ·have htr:=ze1 p mb v ve' reach b (t+j) ([(bn,cl [.int .i64 (Q9 (nr b (t+j)))] 3)]::[(p,fnO v reach mb ve')]::C1::C2'::L) ht.there.there.there.there (.there .here) hb hc
   unfold fnO fnV at htr
   refine yO [[(p,cl [v,.int .i64 reach,.map (some mb),ve'] 282)]] [8] mixed ?_
   (refine za 0 ?_;refine za 1 ?_;refine za 2 ?_;refine za 3 ?_;refine za 4 ?_;refine za 5 ?_;refine za 7 ?_)
   refine cI 6 rfl rfl ?_
   refine cP rfl rfl htr ?_
   refine ⟨iC,?_⟩
   refine cL 8 rfl rfl rfl ?_
   refine ziJ (m:=t+j) zoC rfl rfl (zge hc) rfl hm (by repeat (first|exact Zip.here _|apply Zip.there)) (fun C1' hm'=>?_)
   rw [zkt hc] at hm'
   refine cD ?_
   refine kW ?_
   refine zf (X:=Nat × Value × Chunk × Chunk) (μ:=fun x=>k - x.1) (x:=(j,.slice va (t+j) vc,C1,C2)) (j+1,ve',C1',C2') (by simp only;omega) ⟨by simp only;omega,hm',ho'⟩ iS (fun w h=>iH h)
  ·rw [zks hc] at hm
   refine zf (X:=Nat × Value × Chunk × Chunk) (μ:=fun x=>k - x.1) (x:=(j,.slice va (t+j) vc,C1,C2)) (j+1,ve',C1,C2') (by simp only;omega) ⟨by simp only;omega,hm,ho'⟩ iS (fun w h=>iH h)
 ·obtain rfl:j=k:=by omega
  refine kR ?_
  exact ⟨_,iC,rfl,_,_,_,hm,ho,rfl⟩
end Go.Proofs.YtemdlifojcgplaaGreatDoor
namespace Go.Df
open Go.Vx
set_option linter.all false
theorem zem {b:List UInt8} {reach:Int} {i f n d:Nat} {p:Option Nat} (h:f=0∨∀q,p=some q→¬(n < qN b i∧(i:Int) - (q:Int)≤reach)):lgF b reach i f p (n,d)=(n,d):=by
 cases f with
 |zero=>rfl
 |succ f=>
  have h:=h.resolve_left (by omega)
  cases p with
  |none=>rfl
  |some q=>rw [lgF,if_neg (h q rfl)]
end Go.Df
namespace Go.Proofs.YtemdlifojcgplaaGreatDoor
open Go Go.Vx Go.Df
set_option maxRecDepth 4000
set_option linter.all false
variable [W0]
theorem zh8 (p mb:Nat) (v ve:Value) (reach:Int) (b:List UInt8) (i:Nat) (C:Chunk) (L:List Chunk) (ht:Rs L 1 v b.length (bsv b)) (hf:Fnd L p (fnO v reach mb ve)) (hb:b.length≤200000) (hi:i < b.length) (hm:MpD mb (uG b i) C) (hin:Inc [C] L)
 (hve:Sl L 1 ve i (ers b i)) (hreach: -9223372036854775808≤reach∧reach≤32768) :
 Gv Tryz.prog 199 [.pointer (some ⟨p,0,none⟩),.int .i64 (i:Int)].toArray L (fun r L'=>(∃a:Nat,r=.agg #[.int .i64 (a:Int),.int .i64 ((lg b reach i).1:Int),.int .i64 ((lg b reach i).2:Int)]∧((lg b reach i).1≠0→a=i))∧L'=L):=by
 refine Gv.of_body Tryz.func199 rfl rfl ?_
 obtain ⟨va,vc,hv9⟩:∃va vc,v=.slice va b.length vc:=by obtain ⟨a,c,h,_⟩:=ht.room;exact ⟨a,c,h⟩
 subst hv9
 have hf':=hf
 unfold fnO fnV at hf'
 (refine kW ?_;refine kU fun bk=>?_;refine kW ?_;refine kU fun bk=>?_;refine kW ?_)
 rename_i bk4
 obtain ⟨bk5,hbk5⟩:∃x,x=bk:=⟨_,rfl⟩
 subst hbk5
 have hnr:=zci p mb (.slice va b.length vc) ve reach b i C ([(bk5,cl [.int .i64 0,.int .i64 0,.int .i64 0] 233)]::[(bk4,cl [.int .i64 0,.int .i64 0,.int .i64 0] 233)]::L) ht.there.there (.there (.there hf)) hb (by omega) hm (by
  obtain ⟨R,hp⟩:=hin
  exact (Inc.skip (Inc.skip ⟨R,hp⟩)))
 refine cP rfl rfl hnr ?_
 refine kW ?_
 have hmost:min (258:Int) ((b.length:Int) - (i:Int))=((qN b i:Nat):Int):=by unfold qN;omega
 try rw [hmost]
 refine zn (X:=Nat × Option Nat × Nat × Nat × Nat) (fun x=>[(0,.pointer (some ⟨p,0,none⟩)),(1,.int .i64 (i:Int)),(4,.pointer (some ⟨bk4,0,none⟩)),(5,.pointer (some ⟨bk5,0,none⟩)),(6,.int .i64 ((qN b i:Nat):Int)),(7,.int .i64 (Q9 x.2.1)),(8,.int .i64 (x.1:Int))])
  (fun x=>[(bk5,cl [.int .i64 (x.2.2.1:Int),.int .i64 (x.2.2.2.1:Int),.int .i64 (x.2.2.2.2:Int)] 233)]::[(bk4,cl [.int .i64 0,.int .i64 0,.int .i64 0] 233)]::L)
  (fun x=>x.1≤256∧(∀q,x.2.1=some q→q < i)∧(x.2.2.2.1≠0→x.2.2.1=i)∧x.2.2.1≤200000∧x.2.2.2.1≤258∧lgF b reach i (256 - x.1) x.2.1 (x.2.2.2.1,x.2.2.2.2)=lg b reach i) (fun x=>256 - x.1) (0,nr b i,0,0,0)
  ⟨by simp only;omega,fun q hq=>(Y4 hq).1,fun h=>absurd rfl h,by simp only;omega,by simp only;omega,rfl⟩ iS (fun w h=>h) ?_
 rintro ⟨j,q0,a,n,d⟩ ⟨hj,hq,ha,ha2,hn2,hlg⟩
 simp only at hj hq ha ha2 hn2 hlg ⊢
 have fin:lgF b reach i (256 - j) q0 (n,d)=(n,d)→(lg b reach i).1=n∧(lg b reach i).2=d:=fun h=>by rw [←hlg,h];exact ⟨rfl,rfl⟩
 have hst:patch [Value.int .i64 0,Value.int .i64 0,Value.int .i64 0] 0 [Value.int .i64 (a:Int),Value.int .i64 (n:Int),Value.int .i64 (d:Int)]=[Value.int .i64 (a:Int),Value.int .i64 (n:Int),Value.int .i64 (d:Int)]:=rfl
 cases q0 with
 |none=>
  obtain ⟨f1,f2⟩:=fin (zem (.inr fun q h=>by cases h))
  rw [f1,f2]
  simp only [Q9]
  (repeat' first|refine kW ?_|refine kU fun bk=>?_|refine kV fun hc=>?_|refine kZ (fun hc=>?_) fun hc=>?_|fail)
  all_goals
   first
    |(refine zX (vs:=[.agg #[.int .i64 (a:Int),.int .i64 (n:Int),.int .i64 (d:Int)]]) rfl (.agg ⟨by kernel_rfl,by kernel_rfl⟩ rfl (zK.cl' (vs:=[.int .i64 (a:Int),.int .i64 (n:Int),.int .i64 (d:Int)]) (by repeat (first|assumption|exact Fnd.here|refine Fnd.there ?_)) rfl) rfl .nil) ?_
      exact ⟨_,fun w h=>h.drop.drop,⟨a,rfl,ha⟩,rfl⟩)
    |(refine yF (vs:=[.agg #[.int .i64 (a:Int),.int .i64 (n:Int),.int .i64 (d:Int)]]) rfl (.agg ⟨by kernel_rfl,by kernel_rfl⟩ rfl (zK.cl' (vs:=[.int .i64 (a:Int),.int .i64 (n:Int),.int .i64 (d:Int)]) (by repeat (first|assumption|exact Fnd.here|refine Fnd.there ?_)) rfl) rfl .nil) ?_
      exact ⟨_,fun w h=>h.drop.drop,⟨a,rfl,ha⟩,rfl⟩)
 |some q=>
  have hqi:=hq q rfl
  simp only [Q9]
  by_cases hgo:j < 256∧n < qN b i∧(i:Int) - (q:Int)≤reach
  ·obtain ⟨g1,g2,g3⟩:=hgo
   obtain ⟨f,hf2⟩:∃f,256 - j=f+1:=⟨256 - j - 1,by omega⟩
   rw [hf2,lgF,if_pos ⟨g2,g3⟩] at hlg
   have hcm:=zjv p mb (.slice va b.length vc) ve reach b q i (qN b i) ([(bk5,cl [.int .i64 (a:Int),.int .i64 (n:Int),.int .i64 (d:Int)] 233)]::[(bk4,cl [.int .i64 0,.int .i64 0,.int .i64 0] 233)]::L) ht.there.there.sl (.there (.there hf)) hb (by unfold qN;omega) (by omega) hi
   have hcl:cm b q i (qN b i)≤qN b i:=by have:=(zfk b q i (qN b i) 0).2;unfold cm;omega
   have hml:qN b i≤258:=by unfold qN;omega
   obtain ⟨be,oe,ce,cc,TT,fr,rfl,hfe,hce⟩:=yV hve (zm8 hqi)
   (refine kW ?_;refine kV fun hc=>?_;refine kW ?_;refine kV fun hc=>?_;refine kW ?_;refine kV fun hc=>?_;refine kW ?_)
   refine cP rfl rfl hcm ?_
   generalize cm b q i (qN b i)=n' at hlg hcl
   (repeat' first|refine kW ?_|refine kU fun bk=>?_|refine kV fun hc=>?_|refine kZ (fun hc=>?_) fun hc=>?_|fail)
   ·rw [if_pos (show n < n' by omega)] at hlg
    refine ze (zi (j:=q) rfl rfl rfl hqi) rfl ?_
    refine kW ?_
    refine ze (zq rfl (.there (.there hfe)) hce) rfl ?_
    refine kW ?_
    refine zf (X:=Nat × Option Nat × Nat × Nat × Nat) (μ:=fun x=>256 - x.1) (x:=(j,some q,a,n,d)) (j+1,nr b q,i,n',i - q) (by simp only;omega) ⟨by simp only;omega,fun q' hq'=>by have:=(Y4 hq').1;omega,fun _=>rfl,by simp only;omega,by simp only;omega,by simp only;rw [show 256 - (j+1)=f from by omega];exact hlg⟩ iS (fun w h=>by
     rw [show ((i - q:Nat):Int)=(i:Int) - (q:Int) from by omega]
     exact h)
   ·rw [if_neg (show ¬n < n' by omega)] at hlg
    refine ze (zi (j:=q) rfl rfl rfl hqi) rfl ?_
    refine kW ?_
    refine ze (zq rfl (.there (.there hfe)) hce) rfl ?_
    refine kW ?_
    refine zf (X:=Nat × Option Nat × Nat × Nat × Nat) (μ:=fun x=>256 - x.1) (x:=(j,some q,a,n,d)) (j+1,nr b q,a,n,d) (by simp only;omega) ⟨by simp only;omega,fun q' hq'=>by have:=(Y4 hq').1;omega,ha,by simp only;omega,by simp only;omega,by simp only;rw [show 256 - (j+1)=f from by omega];exact hlg⟩ iS (fun w h=>h)
  ·obtain ⟨f1,f2⟩:=fin (zem (by
    by_cases hj2:j < 256
    ·exact .inr fun q' h=>by cases h;exact fun hh=>hgo ⟨hj2,hh⟩
    ·exact .inl (by omega)))
   rw [f1,f2]
   (repeat' first|refine kW ?_|refine kU fun bk=>?_|refine kV fun hc=>?_|refine kZ (fun hc=>?_) fun hc=>?_|fail)
   all_goals
    first
     |(exfalso;exact hgo ⟨by omega,by omega,by omega⟩)
     |(refine zX (vs:=[.agg #[.int .i64 (a:Int),.int .i64 (n:Int),.int .i64 (d:Int)]]) rfl (.agg ⟨by kernel_rfl,by kernel_rfl⟩ rfl (zK.cl' (vs:=[.int .i64 (a:Int),.int .i64 (n:Int),.int .i64 (d:Int)]) (by repeat (first|assumption|exact Fnd.here|refine Fnd.there ?_)) rfl) rfl .nil) ?_
       exact ⟨_,fun w h=>h.drop.drop,⟨a,rfl,ha⟩,rfl⟩)
     |(refine yF (vs:=[.agg #[.int .i64 (a:Int),.int .i64 (n:Int),.int .i64 (d:Int)]]) rfl (.agg ⟨by kernel_rfl,by kernel_rfl⟩ rfl (zK.cl' (vs:=[.int .i64 (a:Int),.int .i64 (n:Int),.int .i64 (d:Int)]) (by repeat (first|assumption|exact Fnd.here|refine Fnd.there ?_)) rfl) rfl .nil) ?_
       exact ⟨_,fun w h=>h.drop.drop,⟨a,rfl,ha⟩,rfl⟩)
omit [W0] in
def mtc:List (Nat × Nat × Nat)→List Value
 |[]=>[]
 |m::r=>.int .i64 (m.1:Int)::.int .i64 (m.2.1:Int)::.int .i64 (m.2.2:Int)::mtc r
omit [W0] in
theorem zg7:∀(a b:List (Nat × Nat × Nat)),mtc (a++b)=mtc a++mtc b
 |[],b=>rfl
 |m::r,b=>by simp only [List.cons_append,mtc,zg7 r b]
theorem zh9 (v:Value) (reach:Int) (b:List UInt8) (L:List Chunk) (ht:Rs L 1 v b.length (bsv b)) (hb:b.length≤200000) (hreach: -9223372036854775808≤reach∧reach≤9223372036854775807) :
 Gv Tryz.prog 154 [v,.int .i64 reach].toArray L (fun r L'=>∃C,Ow 233 3 r (msR b reach).length (mtc (msR b reach)) C∧L'=C::L):=by
 refine Gv.of_body Tryz.func154 rfl rfl ?_
 obtain ⟨va,vc,hv9⟩:∃va vc,v=.slice va b.length vc:=by obtain ⟨a,c,h,_⟩:=ht.room;exact ⟨a,c,h⟩
 subst hv9
 refine kW ?_
 refine zfe rfl (fun mb=>?_)
 (refine kW ?_;refine kU fun bk=>?_;refine kW ?_)
 obtain ⟨p,hp9⟩:∃x,x=bk:=⟨_,rfl⟩
 subst hp9
 obtain ⟨R,hR⟩:∃R:Int,R=min reach 32768:=⟨_,rfl⟩
 have hR2: -9223372036854775808≤R∧R≤32768:=by omega
 have hms:msR b reach=msF b R b.length 0:=by rw [hR];rfl
 rw [hms,←hR]
 clear hR hms hreach
 refine zn (X:=Nat × Value × Chunk × Chunk × Value × Chunk × List (Nat × Nat × Nat)) (fun x=>[(0,.slice va b.length vc),(5,.pointer (some ⟨p,0,none⟩)),(6,x.2.2.2.2.1),(7,.int .i64 (x.1:Int))])
  (fun x=>[(p,fnO (.slice va b.length vc) R mb x.2.1)]::x.2.2.1::x.2.2.2.1::x.2.2.2.2.2.1::L)
  (fun x=>x.1≤b.length∧MpD mb (uG b x.1) x.2.2.1∧Ow 3 1 x.2.1 x.1 (ers b x.1) x.2.2.2.1∧Ow 233 3 x.2.2.2.2.1 x.2.2.2.2.2.2.length (mtc x.2.2.2.2.2.2) x.2.2.2.2.2.1∧x.2.2.2.2.2.2.length≤x.1∧x.2.2.2.2.2.2++msF b R (b.length - x.1) x.1=msF b R b.length 0) (fun x=>b.length - x.1)
  (0,.slice none 0 0,[(mb,.map #[] 0)],[],.slice none 0 0,[],[]) ⟨Nat.zero_le _,⟨#[],0,rfl,MpR.nil⟩,.inl ⟨rfl,rfl,rfl,rfl⟩,.inl ⟨rfl,rfl,rfl,rfl⟩,Nat.le_refl _,rfl⟩ iS (fun w h=>by
    have h2:Holds w ([(p,fnO (.slice va b.length vc) R mb (.slice none 0 0))]::[(mb,.map #[] 0)]::[]::[]::L):=(Holds.perm (L:=[]::[]::[(p,fnO (.slice va b.length vc) R mb (.slice none 0 0))]::[(mb,.map #[] 0)]::L) (Holds.nil.2 (Holds.nil.2 h)) (by
     refine (List.Perm.cons _ (List.Perm.swap _ _ _)).trans ?_
     refine (List.Perm.swap _ _ _).trans ?_
     refine List.Perm.cons _ ?_
     refine (List.Perm.cons _ (List.Perm.swap _ _ _)).trans ?_
     exact List.Perm.swap _ _ _))
    exact h2) ?_
 rintro ⟨i,ve,C1,C2,vl,Cl,ms⟩ ⟨hi,hm,ho,hl,hml,hms⟩
 simp only at hi hm ho hl hml hms ⊢
 obtain ⟨vea,vec,rfl⟩:=zM ho
 (repeat' first|refine kW ?_|refine kU fun bk=>?_|refine kV fun hc=>?_|refine kZ (fun hc=>?_) fun hc=>?_|fail)
 ·have hib:i < b.length:=by omega
  obtain ⟨f,hf2⟩:∃f,b.length - i=f+1:=⟨b.length - i - 1,by omega⟩
  rw [hf2,msF,if_pos hib] at hms
  have hlg:=zh8 p mb (.slice va b.length vc) (.slice vea i vec) R b i C1 ([(p,fnO (.slice va b.length vc) R mb (.slice vea i vec))]::C1::C2::Cl::L) ht.there.there.there.there .here hb hib hm iC (zm (zm (qz ho))) hR2
  have hok:=zoB b R i
  refine cC rfl rfl hlg (fun r L' hp=>?_)
  obtain ⟨⟨a,rfl,ha⟩,rfl⟩:=hp
  have hmx:max (lg b R i).1 1≤b.length - i:=by
   rcases hok with h|h
   ·omega
   ·have:=h.fit;have:=h.n3;omega
  have hpass:=fun (D:Chunk)=>zpS p mb (.slice va b.length vc) (.slice vea i vec) R b i (max (lg b R i).1 1) C1 C2 (D::L) ht.there hb (by omega) hm ho
  have hfu:=zes b R (b.length - (i+max (lg b R i).1 1)) (i+max (lg b R i).1 1) f (by omega) (by omega)
  rw [hfu] at hms
  generalize lg b R i=m at ha hok hmx hpass hms
  obtain ⟨n,d⟩:=m
  simp only at ha hok hmx hpass hms ⊢
  have hn5:n≤258:=by rcases hok with h|h;omega;exact h.nm
  have hpx:((max n 1:Nat):Int)=max (n:Int) 1:=by omega
  simp only [hpx] at hpass
  (repeat' first|refine kW ?_|refine kU fun bk=>?_|refine kV fun hc=>?_|refine kZ (fun hc=>?_) fun hc=>?_|fail)
  ·have hn0:0 < n:=by omega
   obtain rfl:a=i:=ha (by omega)
   rw [if_pos hn0] at hms
   refine zl (cs:=[.int .i64 (a:Int),.int .i64 (n:Int),.int .i64 (d:Int)]) rfl (by rfl) (by first|(simp [zA,patch,Value.cells,zeros];done)|(simp [zA,patch,Value.cells,zeros];rfl)) (by omega) rfl rfl (fun bn=>?_)
   refine kW ?_
   refine zu rfl rfl hl (zF (k:=3) (c:=#[.int .i64 (a:Int),.int .i64 (n:Int),.int .i64 (d:Int)]) (xs:=[.int .i64 (a:Int),.int .i64 (n:Int),.int .i64 (d:Int)]) (m:=1) Fnd.here rfl (by simp)) (by repeat (first|exact Zip.here _|apply Zip.there)) rfl (by rfl) (by omega) (by simp [maxLen];omega) rfl (fun vl' Cl' hl' _ _=>?_)
   rw [show mtc ms++[Value.int .i64 (a:Int),.int .i64 (n:Int),.int .i64 (d:Int)]=mtc (ms++[(a,n,d)]) from by rw [zg7];rfl,show ms.length+1=(ms++[(a,n,d)]).length from by simp] at hl'
   refine kW ?_
   refine cC rfl rfl (Gv.holds (hpass Cl') (fun w h=>iH h)) (fun r L' hp=>?_)
   obtain ⟨rfl,ve',C1',C2',hm',ho',rfl⟩:=hp
   refine kW ?_
   obtain ⟨va2,vc2,rfl⟩:=zM ho'
   unfold fnO fnV
   refine kW ?_
   refine zf (X:=Nat × Value × Chunk × Chunk × Value × Chunk × List (Nat × Nat × Nat)) (μ:=fun x=>b.length - x.1) (x:=(a,.slice vea a vec,C1,C2,vl,Cl,ms)) (a+max n 1,.slice va2 (a+max n 1) vc2,C1',C2',vl',Cl',ms++[(a,n,d)]) (by simp only;omega) ⟨by simp only;omega,hm',ho',hl',by simp;omega,by simp only;rw [List.append_assoc];exact hms⟩ iS (fun w h=>iH h)
  ·have hn0:¬0 < n:=by omega
   rw [if_neg hn0,List.nil_append] at hms
   refine cC rfl rfl (Gv.holds (hpass Cl) (fun w h=>iH h)) (fun r L' hp=>?_)
   obtain ⟨rfl,ve',C1',C2',hm',ho',rfl⟩:=hp
   obtain ⟨va2,vc2,rfl⟩:=zM ho'
   unfold fnO fnV
   refine kW ?_
   refine zf (X:=Nat × Value × Chunk × Chunk × Value × Chunk × List (Nat × Nat × Nat)) (μ:=fun x=>b.length - x.1) (x:=(i,.slice vea i vec,C1,C2,vl,Cl,ms)) (i+max n 1,.slice va2 (i+max n 1) vc2,C1',C2',vl,Cl,ms) (by simp only;omega) ⟨by simp only;omega,hm',ho',hl,by simp only;omega,hms⟩ iS (fun w h=>iH h)
 ·obtain rfl:i=b.length:=by omega
  rw [show b.length - b.length=0 from by omega,msF,List.append_nil] at hms
  rw [←hms]
  refine kR ?_
  refine ⟨_,iC,Cl,hl,rfl⟩
omit [W0] in
def MtV (m:Nat × Nat × Nat):List Value:=[.int .i64 (m.1:Int),.int .i64 (m.2.1:Int),.int .i64 (m.2.2:Int)]
omit [W0] in
theorem zg8:∀l,mtc l=flt MtV l
 |[]=>rfl
 |m::r=>by rw [mtc,flt,zg8 r];rfl
end Go.Proofs.YtemdlifojcgplaaGreatDoor
namespace Go.Df
open Go.Vx Go.If Go.Hf
set_option linter.all false
def lits (b:List UInt8):List (Nat × Nat):=b.map fun c=>(c.toNat,0)
theorem zkA (a b:List UInt8):lits (a++b)=lits a++lits b:=by simp [lits]
theorem zbc (a:List UInt8):(lits a).length=a.length:=by simp [lits]
theorem zgY {b:List UInt8}:∀t∈lits b,Zm t:=by
 intro t ht
 obtain ⟨c,_,rfl⟩:=List.mem_map.1 ht
 exact .inl ⟨rfl,c.toNat_lt⟩
def pcF (b:List UInt8):Nat→List (Nat × Nat × Nat)→List (Nat × Nat)
 |i,[]=>lits (b.drop i)
 |i,m::r=>lits ((b.drop i).take (m.1 - i))++((m.2.1,m.2.2)::pcF b (m.1+m.2.1) r)
def pcT (b:List UInt8):List (Nat × Nat):=pcF b 0 (msR b 32768)
theorem zk0 {b:List UInt8}:∀{i:Nat} {ms:List (Nat × Nat × Nat)},zcz b 32768 i ms→(∀t∈pcF b i ms,Zm t)∧(pcF b i ms).length≤b.length - i
 |i,[],_=>⟨zgY,by rw [pcF,zbc,List.length_drop];exact Nat.le_refl _⟩
 |i,m::r,h=>by
  obtain ⟨h1,h2,h3⟩:=h
  obtain ⟨g1,g2⟩:=zk0 h3
  have a1:=h2.n3
  have a2:=h2.nm
  have a3:=h2.fit
  have a4:=h2.d1
  have a5:=h2.dr
  refine ⟨fun t ht=>?_,?_⟩
  ·rw [pcF] at ht
   rcases List.mem_append.1 ht with ht|ht
   ·exact zgY t ht
   ·rcases List.mem_cons.1 ht with rfl|ht
    ·exact .inr ⟨by simp only;omega,by simp only;omega,by simp only;omega,by simp only;omega⟩
    ·exact g1 t ht
  ·rw [pcF,List.length_append,zbc,List.length_cons,List.length_take,List.length_drop]
   omega
theorem zpT (b:List UInt8):(∀t∈pcT b,Zm t)∧(pcT b).length≤b.length:=by
 have:=zk0 (zfI b 32768)
 exact this
def Tks (b:List UInt8):Nat→List (Nat × Nat)→Nat→Prop
 |i,[],j=>i=j
 |i,t::r,j=>Zm t∧i+tsz t≤b.length∧(t.2=0→b.getD i 0=UInt8.ofNat t.1)∧(t.2≠0→t.2≤i∧∀k,k < t.1→b.getD (i+k) 0=b.getD (i+k - t.2) 0)∧Tks b (i+tsz t) r j
theorem Tks.app {b:List UInt8}:∀{i j k:Nat} {x y:List (Nat × Nat)},Tks b i x j→Tks b j y k→Tks b i (x++y) k
 |i,j,k,[],y,h1,h2=>by
  have:i=j:=h1
  subst this;exact h2
 |i,j,k,t::x,y,h1,h2=>⟨h1.1,h1.2.1,h1.2.2.1,h1.2.2.2.1,Tks.app h1.2.2.2.2 h2⟩
theorem Tks.le {b:List UInt8}:∀{i j:Nat} {x:List (Nat × Nat)},Tks b i x j→i≤j∧(i≤b.length→j≤b.length)
 |i,j,[],h=>by
  have:i=j:=h
  subst this;exact ⟨Nat.le_refl _,fun h=>h⟩
 |i,j,t::x,h=>by
  have:=h.2.2.2.2.le
  have h2:=h.2.1
  exact ⟨by omega,fun _=>this.2 h2⟩
theorem zbd {b:List UInt8}:∀(n i:Nat),i+n≤b.length→Tks b i (lits ((b.drop i).take n)) (i+n)
 |0,i,h=>by rw [List.take_zero];exact rfl
 |n+1,i,h=>by
  have hi:i < b.length:=by omega
  rw [List.drop_eq_getElem_cons hi,List.take_succ_cons]
  have hg:=zbd (b:=b) n (i+1) (by omega)
  refine ⟨.inl ⟨rfl,(b[i]).toNat_lt⟩,by simp only [tsz,if_true];omega,fun _=>?_,fun h=>absurd rfl h,?_⟩
  ·simp [List.getD,hi]
  ·simp only [tsz,if_true]
   rw [show i+(n+1)=i+1+n from by omega]
   exact hg
theorem zhj {b:List UInt8}:∀{i:Nat} {ms:List (Nat × Nat × Nat)},i≤b.length→zcz b 32768 i ms→Tks b i (pcF b i ms) b.length
 |i,[],hi,_=>by
  have:=zbd (b:=b) (b.length - i) i (by omega)
  rw [List.take_of_length_le (by rw [List.length_drop];exact Nat.le_refl _),show i+(b.length - i)=b.length from by omega] at this
  exact this
 |i,m::r,hi,h=>by
  obtain ⟨h1,h2,h3⟩:=h
  have a1:=h2.n3
  have a2:=h2.nm
  have a3:=h2.fit
  have a4:=h2.d1
  have a5:=h2.dr
  have g:=zhj (by omega) h3
  have gl:=zbd (b:=b) (m.1 - i) i (by omega)
  rw [show i+(m.1 - i)=m.1 from by omega] at gl
  rw [pcF]
  refine gl.app ?_
  have hz:tsz (m.2.1,m.2.2)=m.2.1:=by unfold tsz;rw [if_neg (by simp only;omega)]
  refine ⟨.inr ⟨by simp only;omega,by simp only;omega,by simp only;omega,by simp only;omega⟩,by rw [hz];exact a3,fun h=>by simp only at h;omega,fun _=>⟨h2.di,h2.eq⟩,by rw [hz];exact g⟩
theorem zdo (b:List UInt8):Tks b 0 (pcT b) b.length:=zhj (Nat.zero_le _) (zfI b 32768)
theorem YM {b:List UInt8} {i:Nat} (h:i < b.length):b.take (i+1)=b.take i++[b.getD i 0]:=by
 rw [List.take_succ,List.getElem?_eq_getElem h]
 simp [List.getD,h]
theorem zgD {b:List UInt8} {d:Nat}:∀(n i:Nat),1≤d→d≤i→i+n≤b.length→(∀k,k < n→b.getD (i+k) 0=b.getD (i+k - d) 0)→cpW d n (b.take i)=b.take (i+n)
 |0,i,_,_,_,_=>rfl
 |n+1,i,h1,h2,h3,h4=>by
  have e0:=h4 0 (by omega)
  have hl:(b.take i).length=i:=by rw [List.length_take];omega
  rw [cpW,hl]
  have hg:(b.take i).getD (i - d) 0=b.getD (i - d) 0:=by simp only [List.getD_eq_getElem?_getD,List.getElem?_take,if_pos (show i - d < i by omega)]
  rw [hg,←show b.getD (i+0) 0=b.getD (i - d) 0 from e0,Nat.add_zero,←YM (by omega)]
  rw [zgD n (i+1) h1 (by omega) (by omega) (fun k hk=>by have:=h4 (k+1) (by omega);rw [show i+1+k=i+(k+1) from by omega];exact this),show i+1+n=i+(n+1) from by omega]
theorem zl1 {b:List UInt8}:∀{ts:List (Nat × Nat)} {i j:Nat},i≤b.length→Tks b i ts j→tsW (ts.map tok) (b.take i)=b.take j
 |[],i,j,_,h=>by
  have:i=j:=h
  subst this;rfl
 |t::r,i,j,hi,h=>by
  obtain ⟨h1,h2,h3,h4,h5⟩:=h
  rw [List.map_cons,tsW]
  have hk:tkW (tok t) (b.take i)=b.take (i+tsz t):=by
   rcases h1 with ⟨g1,g2⟩|⟨g1,g2,g3,g4⟩
   ·have hz:tsz t=1:=if_pos g1
    have ht:tok t=.lit (UInt8.ofNat t.1):=if_pos g1
    rw [hz,ht]
    simp only [tkW]
    rw [hz] at h2
    rw [YM (show i < b.length by omega),h3 g1]
   ·have g0:t.2≠0:=by omega
    have hz:tsz t=t.1:=if_neg g0
    have ht:tok t=.mt (olN t.1) (t.1 - (lnB (olN t.1)).1) (odN t.2) (t.2 - baB 1 2 4 (odN t.2)):=if_neg g0
    rw [hz,ht]
    rw [hz] at h2
    simp only [tkW]
    have k1:=Xx g3 g4
    have k2:=Zj g1 g2
    obtain ⟨h6,h7⟩:=h4 g0
    unfold dsT lnT
    rw [show baB 1 2 4 (odN t.2)+(t.2 - baB 1 2 4 (odN t.2))=t.2 from by omega,show (lnB (olN t.1)).1+(t.1 - (lnB (olN t.1)).1)=t.1 from by omega]
    exact zgD _ _ g1 h6 h2 h7
  rw [hk]
  exact zl1 (by omega) h5
theorem zdC {b:List UInt8} {l dl:List Nat}:∀{ts:List (Nat × Nat)} {i j:Nat},Tks b i ts j→(∀t∈ts,0 < l.getD (tsy t) 0∧(t.2≠0→0 < dl.getD (odN t.2) 0))→ze2 l dl i (ts.map tok)∧i+tsN (ts.map tok)=j
 |[],i,j,h,_=>by
  have:i=j:=h
  subst this;exact ⟨trivial,rfl⟩
 |t::r,i,j,h,hs=>by
  obtain ⟨h1,h2,h3,h4,h5⟩:=h
  have hst:=hs t (by simp)
  have hN:tkN (tok t)=tsz t:=by
   unfold tok tsz
   rcases h1 with ⟨g1,g2⟩|⟨g1,g2,g3,g4⟩
   ·rw [if_pos g1,if_pos g1];rfl
   ·rw [if_neg (by omega),if_neg (by omega)]
    have k1:=Xx g3 g4
    simp only [tkN,lnT]
    omega
  obtain ⟨g1,g2⟩:=zdC (l:=l) (dl:=dl) h5 (fun t' ht'=>hs t' (by simp [ht']))
  refine ⟨⟨?_,by rw [hN];exact g1⟩,by rw [List.map_cons,tsN,hN];omega⟩
  unfold tok
  unfold tsy at hst
  rcases h1 with ⟨k1,k2⟩|⟨k1,k2,k3,k4⟩
  ·rw [if_pos k1] at hst ⊢
   simp only [zit]
   rw [UInt8.toNat_ofNat',Nat.mod_eq_of_lt k2]
   exact hst.1
  ·have k0:t.2≠0:=by omega
   rw [if_neg k0] at hst ⊢
   have q1:=Xx k3 k4
   have q2:=Zj k1 k2
   obtain ⟨h6,_⟩:=h4 k0
   simp only [zit,dsT]
   exact ⟨q1.1,q1.2.1,hst.1,q1.2.2.2,q2.1,hst.2 k0,q2.2.2,by omega⟩
end Go.Df
