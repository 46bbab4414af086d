/- Contracts and facts on the way to the top. It proves no statement by itself. No conditions. -/
import Derived.Test.YtfbfcapoobmdpaaGreatDoorPG7
set_option maxHeartbeats 16000000
namespace Go.Proofs.YtfbfcapoobmdpaaGreatDoor
open Go Go.Vx
variable [W0]
set_option maxRecDepth 4000
set_option linter.all false
omit [W0] in
def Yz (S:Fsy) (s:ByteArray):Int × Fsy:=
 if zU S s≠0 then (zU S s,S) else
 if zW S≠0 then (zW S,zQ S) else
 (0,{ zQ S with files:=S.files.set (zP S.names s) ⟨(yG S.files ⟨s,zP S.names s⟩).data,(yG S.files ⟨s,zP S.names s⟩).data.length⟩ })
theorem zca {S:Fsy} {m:Nat} (s:ByteArray) (h:Good S m):Good (Yz S s).2 m:=by
 unfold Yz
 split
 ·exact h
 ·rename_i h0
  split
  ·exact qx h
  ·have h0':zU S s=0:=by simpa using h0
   obtain ⟨_,_,hh⟩:=qV h0'
   have hnow:=h.rp.now
   obtain ⟨g,hg,hfe,hlt⟩:=vL hnow.asc hh
   have hmem:(⟨s,zP S.names s⟩:En)∈S.names:=by rw [hfe];exact List.mem_of_getElem? hg
   have hef:=hnow.inn _ hmem
   have hs:=qx h
   obtain ⟨e1,e2,e3,e4,e5⟩:=y8 S
   refine ⟨?_,?_,?_,h.m,hs.q,hs.left,?_⟩
   ·simp only [List.length_set,e2,e3,e4];exact h.rp
   ·simp;exact h.lf
   ·simp only [e4];exact h.lj
   ·intro f hf
    simp only [e5]
    rcases List.mem_or_eq_of_mem_set hf with hf|hf
    ·exact h.dl f hf
    ·subst hf
     have:=h.dl _ (zfU hef)
     exact ⟨this.1,Nat.le_refl _⟩
theorem zp8 (S:Fsy) (p m:Nat) (s:ByteArray) (C:Chunk) (L:List Chunk) (hA:Zd S p C) (hG:Good S m) :
 Gv Tryz.prog 69 [.pointer (some ⟨p,0,none⟩),.string s].toArray (C::L)
  (fun r L'=>∃C',r=.int .i64 (Yz S s).1∧L'=C'::L∧Zd (Yz S s).2 p C'):=by
 obtain ⟨fv,nv,dv,jv,vs,Cs,Cf,Cn,Cd,Cj,rfl,hf,hr,hn,hd,hj⟩:=hA
 refine Gv.holds (L':=hdr S p fv nv dv jv::Cf::Cn::Cd::Cj::Cs.flatten::L) ?_ (fun w h=>six.1 h)
 refine Gv.of_body Tryz.func69 rfl rfl ?_
 obtain ⟨e1,e2,e3,e4,e5⟩:=y8 S
 refine kW ?_
 have hS:=QG (p:=p) (dv:=dv) (jv:=jv) (Cd:=Cd) (Cj:=Cj) (L:=L) hG hf hr hn
 refine cP rfl rfl (Qz S p fv nv dv jv s _ hS.h hS.n hS.an hS.ln) ?_
 (repeat' first|refine kW ?_|refine kU fun bk=>?_|refine kV fun hc=>?_|refine kZ (fun hc=>?_) fun hc=>?_|fail)
 ·have h0:¬zU S s=0:=by assumption
  have hc:Yz S s=(zU S s,S):=by simp [Yz,h0]
  refine kH ?_
  rw [hc]
  exact ⟨_,fun w h=>six.2 h,_,rfl,rfl,fv,nv,dv,jv,vs,Cs,Cf,Cn,Cd,Cj,rfl,hf,hr,hn,hd,hj⟩
 ·have h0:zU S s=0:=by omega
  obtain ⟨hdead,hok,hhas⟩:=qV h0
  refine cC rfl rfl (Y1 S p fv nv dv jv _ hG.left) (fun r L' hp=>?_)
  obtain ⟨rfl,rfl⟩:=hp
  (repeat' first|refine kW ?_|refine kU fun bk=>?_|refine kV fun hc=>?_|refine kZ (fun hc=>?_) fun hc=>?_|fail)
  ·have h2:¬zW S=0:=by assumption
   have hc:Yz S s=(zW S,zQ S):=by simp [Yz,h0,h2]
   refine kH ?_
   rw [hc]
   exact ⟨_,fun w h=>six.2 h,_,rfl,rfl,fv,nv,dv,jv,vs,Cs,Cf,Cn,Cd,Cj,rfl,by rw [e1];exact hf,by rw [e1];exact hr,by rw [e2];exact hn,by rw [e3];exact hd,by rw [e4];exact hj⟩
  ·have h2:zW S=0:=by omega
   have hpo:Yg S s=zP S.names s:=by simp [Yg,h0]
   rw [hpo]
   obtain ⟨g,hg,hfe,hlt⟩:=vL hS.an hhas
   have hef:zP S.names s < S.files.length:=by rw [hfe];exact hS.inn _ (List.mem_of_getElem? hg)
   have hfi:S.files[zP S.names s]? =some (yG S.files ⟨s,zP S.names s⟩):=by simp [yG,List.getD,List.getElem?_eq_getElem hef]
   obtain ⟨x,Ci,D1,D2,hxi,hxo,hfl,hset⟩:=hr.split hfi
   obtain ⟨xa,xc,rfl⟩:=zM hxo
   rcases hf with ⟨rfl,hf0,_,rfl⟩|⟨fb,fcap,frest,rfl,rfl,hfxl,hfrl,hfmc,hfcm⟩
   ·omega
   ·refine zk [16] mixed ?_
    (refine za 0 ?_;refine za 1 ?_;refine za 2 ?_;refine za 3 ?_;refine za 4 ?_;refine za 5 ?_;refine za 6 ?_;refine za 7 ?_;refine za 8 ?_;refine za 9 ?_)
    refine cT 10 rfl rfl (zh (j:=zP S.names s) rfl rfl rfl hef) ?_
    (refine za 11 ?_)
    refine cT 12 rfl rfl (zx (v:=.slice xa _ xc) rfl (by repeat (first|assumption|exact Fnd.here|refine Fnd.there ?_)) (by rw [yw];exact z8 (Xu hfi hxi).1)) ?_
    (refine za 13 ?_)
    refine cT 14 rfl rfl (zh (j:=zP S.names s) rfl rfl rfl hef) ?_
    (refine za 15 ?_)
    refine cL 16 rfl rfl rfl ?_
    refine zG (fcl (S.files.set (zP S.names s) ⟨(yG S.files ⟨s,zP S.names s⟩).data,(yG S.files ⟨s,zP S.names s⟩).data.length⟩) vs++frest) rfl rfl rfl ?_ iU ?_ ?_
    ·rw [List.set_append_left _ _ (by rw [hfxl];omega),zb1 hfi hr.lv]
    ·rw [List.length_append,hfxl];omega
    refine cD ?_
    refine kW ?_
    obtain ⟨Cs',hr',hfl'⟩:=hset ⟨(yG S.files ⟨s,zP S.names s⟩).data,(yG S.files ⟨s,zP S.names s⟩).data.length⟩ (.slice xa _ xc) Ci hxo
    rw [zkm hxi] at hr'
    have hc:Yz S s=(0,{ zQ S with files:=S.files.set (zP S.names s) ⟨(yG S.files ⟨s,zP S.names s⟩).data,(yG S.files ⟨s,zP S.names s⟩).data.length⟩ }):=by
     simp [Yz,h0,h2]
    refine kH ?_
    rw [hc]
    refine ⟨_,fun w h=>?_,_,rfl,rfl,.slice (some ⟨fb,0,none⟩) S.files.length fcap,nv,dv,jv,vs,Cs',[(fb,cl (fcl (S.files.set (zP S.names s) ⟨(yG S.files ⟨s,zP S.names s⟩).data,(yG S.files ⟨s,zP S.names s⟩).data.length⟩) vs++frest) 61)],Cn,Cd,Cj,rfl,?_,hr',by simpa [e2] using hn,by simpa [e3] using hd,by simpa [e4] using hj⟩
    ·rw [hfl',←hfl]
     simpa [Holds,List.append_assoc,hdr,QA] using h
    ·refine .inr ⟨fb,fcap,frest,by simp,rfl,?_,by simpa using hfrl,by simpa using hfmc,hfcm⟩
     rw [Za (by simp [hr.lv])]
omit [W0] in
def y5 (S:Fsy) (a b:ByteArray):Int × Fsy:=
 if zU S a≠50∧vI b=false then (1,S) else
 if zU S a≠0 then (zU S a,S) else
 if zW S≠0 then (zW S,zQ S) else
 if a=b then (0,zQ S) else
 (0,{ zQ S with names:=w9 S.names (.rn a b),journal:=S.journal++[.rn a b] })
theorem QX {S:Fsy} {m:Nat} (a b:ByteArray) (h:Good S m) (hm:m+1≤90000):Good (y5 S a b).2 (m+1):=by
 have hmono:=h.mono (Nat.le_succ m) hm
 unfold y5
 split
 ·exact hmono
 split
 ·exact hmono
 ·rename_i _ h0
  split
  ·exact qx hmono
  split
  ·exact qx hmono
  ·have h0':zU S a=0:=by simpa using h0
   obtain ⟨_,_,hh⟩:=qV h0'
   have hs:=qx h
   obtain ⟨e1,e2,e3,e4,e5⟩:=y8 S
   refine ⟨?_,by simp only [e1];exact hmono.lf,by simp;exact h.lj,hm,hs.q,hs.left,by simp only [e1,e5];exact h.dl⟩
   simp only [e1,e3]
   exact Rp.snoc (h.rp.mono (Nat.le_refl _) (Nat.le_succ m)) hh (zqV b h.rp.now hh)
theorem zkH (S:Fsy) (p m:Nat) (a b:ByteArray) (C:Chunk) (L:List Chunk) (hA:Zd S p C) (hG:Good S m) :
 Gv Tryz.prog 70 [.pointer (some ⟨p,0,none⟩),.string a,.string b].toArray (C::L)
  (fun r L'=>∃C',r=.int .i64 (y5 S a b).1∧L'=C'::L∧Zd (y5 S a b).2 p C'):=by
 obtain ⟨fv,nv,dv,jv,vs,Cs,Cf,Cn,Cd,Cj,rfl,hf,hr,hn,hd,hj⟩:=hA
 refine Gv.holds (L':=hdr S p fv nv dv jv::Cf::Cn::Cd::Cj::Cs.flatten::L) ?_ (fun w h=>six.1 h)
 refine Gv.of_body Tryz.func70 rfl rfl ?_
 obtain ⟨e1,e2,e3,e4,e5⟩:=y8 S
 refine kW ?_
 have hS:=QG (p:=p) (dv:=dv) (jv:=jv) (Cd:=Cd) (Cj:=Cj) (L:=L) hG hf hr hn
 refine cP rfl rfl (Qz S p fv nv dv jv a _ hS.h hS.n hS.an hS.ln) ?_
 cases hnb:vI b
 all_goals ((repeat' first|refine kW ?_|refine kU fun bk=>?_|refine kV fun hc=>?_|refine kZ (fun hc=>?_) fun hc=>?_|fail))
 all_goals (try (refine cP rfl rfl (zgT b _) ?_;rw [hnb];((repeat' first|refine kW ?_|refine kU fun bk=>?_|refine kV fun hc=>?_|refine kZ (fun hc=>?_) fun hc=>?_|fail))))
 ·have h0:¬zU S a=50:=by assumption
  have hc:y5 S a b=(1,S):=by simp [y5,h0,hnb]
  refine kH ?_
  rw [hc]
  exact ⟨_,fun w h=>six.2 h,_,rfl,rfl,fv,nv,dv,jv,vs,Cs,Cf,Cn,Cd,Cj,rfl,hf,hr,hn,hd,hj⟩
 ·have h0:zU S a=50:=by assumption
  have hc:y5 S a b=(zU S a,S):=by simp [y5,h0]
  refine kH ?_
  rw [hc]
  exact ⟨_,fun w h=>six.2 h,_,rfl,rfl,fv,nv,dv,jv,vs,Cs,Cf,Cn,Cd,Cj,rfl,hf,hr,hn,hd,hj⟩
 ·have h0:¬zU S a=0:=by assumption
  have hc:y5 S a b=(zU S a,S):=by simp [y5,h0,hnb]
  refine kH ?_
  rw [hc]
  exact ⟨_,fun w h=>six.2 h,_,rfl,rfl,fv,nv,dv,jv,vs,Cs,Cf,Cn,Cd,Cj,rfl,hf,hr,hn,hd,hj⟩
 ·have h0:zU S a=0:=by assumption
  obtain ⟨hdead,hok,hhas⟩:=qV h0
  refine cC rfl rfl (Y1 S p fv nv dv jv _ hG.left) (fun r L' hp=>?_)
  obtain ⟨rfl,rfl⟩:=hp
  (repeat' first|refine kW ?_|refine kU fun bk=>?_|refine kV fun hc=>?_|refine kZ (fun hc=>?_) fun hc=>?_|fail)
  ·have h2:¬zW S=0:=by assumption
   have hc:y5 S a b=(zW S,zQ S):=by simp [y5,h0,h2,hnb]
   refine kH ?_
   rw [hc]
   exact ⟨_,fun w h=>six.2 h,_,rfl,rfl,fv,nv,dv,jv,vs,Cs,Cf,Cn,Cd,Cj,rfl,by rw [e1];exact hf,by rw [e1];exact hr,by rw [e2];exact hn,by rw [e3];exact hd,by rw [e4];exact hj⟩
  ·have h2:zW S=0:=by omega
   have hab:¬a=b:=by assumption
   have hc:y5 S a b=(0,{ zQ S with names:=w9 S.names (.rn a b),journal:=S.journal++[.rn a b] }):=by simp [y5,h0,h2,hnb,hab]
   have hsz:=Zp hok
   have hsz2:=Zp hnb
   have hnow:=hG.rp.now
   have hlj:=hG.lj
   have hgm:=hG.m
   refine cP rfl rfl (zar a _ (by omega)) ?_
   refine kW ?_
   refine cP rfl rfl (zar b _ (by omega)) ?_
   refine kW ?_
   refine cC rfl rfl (Gv.holds (zfB (zQ S) p fv nv dv jv (.rn a b) Cn Cj (Cf::Cd::Cs.flatten::L) (by rw [e2];exact hn) (by rw [e4];exact hj) (by rw [e2];exact hnow.asc) (by rw [e2];have:=hnow.len;omega) (by rw [e4];omega) (by rw [e2];exact hhas)) (fun w h=>iH h)) (fun r L' hp=>?_)
   obtain ⟨nv',jv',Cn',Cj',rfl,rfl,hn',hj'⟩:=hp
   refine kW ?_
   refine kH ?_
   rw [hc]
   exact ⟨_,fun w h=>six.2 ((iC:Inc (hdr _ p fv nv' dv jv'::Cf::Cn'::Cd::Cj'::Cs.flatten::L) _).holds h),_,rfl,rfl,fv,nv',dv,jv',vs,Cs,Cf,Cn',Cd,Cj',rfl,by simpa [e1] using hf,by simpa [e1] using hr,by simpa [e2] using hn',by simpa [e3] using hd,by simpa [e4] using hj'⟩
  ·have h2:zW S=0:=by omega
   have hab:a=b:=by assumption
   have hc:y5 S a b=(0,zQ S):=by simp [y5,h0,h2,hnb,hab];intro hx;rw [←hab,h0] at hx;exact absurd rfl hx
   refine kH ?_
   rw [hc]
   exact ⟨_,fun w h=>six.2 h,_,rfl,rfl,fv,nv,dv,jv,vs,Cs,Cf,Cn,Cd,Cj,rfl,by rw [e1];exact hf,by rw [e1];exact hr,by rw [e2];exact hn,by rw [e3];exact hd,by rw [e4];exact hj⟩
 ·have h0:zU S a=50:=by assumption
  have hc:y5 S a b=(zU S a,S):=by simp [y5,h0]
  refine kH ?_
  rw [hc]
  exact ⟨_,fun w h=>six.2 h,_,rfl,rfl,fv,nv,dv,jv,vs,Cs,Cf,Cn,Cd,Cj,rfl,hf,hr,hn,hd,hj⟩
end Go.Proofs.YtfbfcapoobmdpaaGreatDoor
namespace Go.Proofs.YtfbfcapoobmdpaaGreatDoor
open Go Go.Vx Go.Ob Go.Hf Go.If
variable [W0]
set_option linter.all false
set_option maxRecDepth 4000
def rdE (s d:List UInt8):Nat:=if psE d≠0 then psE d else if idL (prK d:Int) (prB d)≠s then 6 else 0
def rdK (s d:List UInt8):Nat:=if rdE s d=0 then prK d else 0
def rdB (s d:List UInt8):List UInt8:=if rdE s d=0 then prB d else []
theorem zn4 (d:List UInt8):(prB d).length≤65568:=by
 unfold prB psB
 split
 ·have h1:(psO d).length≤65568:=zcP (d.drop 2) 65568
  have h2:=(Y5 0 (psO d)).2
  omega
 ·simp
theorem zmQ {s:List UInt8} (h:XM s=true):ptL s=Xa++s.take 2++[47]++s.drop 2:=by unfold ptL;rw [if_pos h]
theorem znB (S:Fsy) (p m:Nat) (s d:List UInt8) (C:Chunk) (L:List Chunk) (hA:Zd S p C) (hG:Good S m) (hh:XM s=true) (ho:zU S (str (ptL s))=0) (hd:(yG S.files ⟨str (ptL s),zP S.names (str (ptL s))⟩).data=d) (hdl:d.length≤1000000) (hb:wT L) (hor:qP L) :
 Gv Tryz.prog 12 [.pointer (some ⟨p,0,none⟩),.string (str s)].toArray (C::L) (fun r L'=>∃v D,r=.tuple #[.int .i64 (rdK s d:Int),v,.int .i64 (rdE s d:Int)]∧(∀L0,SlC (D::L0) 1 v (rdB s d).length (bsv (rdB s d)))∧L'=D::C::L):=by
 refine Gv.of_body (args:=[.pointer (some ⟨p,0,none⟩),.string (str s)]) Tryz.func12 rfl rfl ?_
 have hl:=zds hh
 have hash:=zkQ s (C::L) (by omega)
 rw [hh] at hash
 have hnil:∀L0:List Chunk,SlC L0 1 (.slice none 0 0) ([]:List UInt8).length (bsv []):=fun L0=>⟨.inl ⟨0,rfl,rfl,rfl⟩,_,_,rfl,Nat.le_refl _⟩
 refine kW ?_
 refine cP rfl rfl hash ?_
 refine kW ?_
 refine cP rfl rfl (Qj s _ (by omega)) ?_
 refine kW ?_
 refine cC rfl rfl (zpK S p m (str (ptL s)) C L hA hG) (fun r L' hp=>?_)
 obtain ⟨v1,D1,rfl,rfl,h1,_⟩:=hp
 have h1:=h1 ho
 rw [hd] at h1
 rw [ho]
 obtain ⟨a1,c1,rfl,hc1⟩:=(SlC.ow (L:=[]) h1).room
 have hx:=zn4 d
 refine kW ?_
 refine cC rfl rfl (zdI a1 c1 d _ (qy h1) (by omega) hc1 (by repeat (first|exact hb|apply wT.there)) (by repeat (first|exact hor|apply qP.there))) (fun r L' hp=>?_)
 obtain ⟨v2,D2,rfl,h2,rfl⟩:=hp
 obtain ⟨a2,c2,rfl,hc2⟩:=(h2 []).room
 by_cases he:psE d=0
 ·have hid:=id_n (prK d:Int) (.slice a2 (prB d).length c2) (prB d) (D2::D1::C::L) hb.there.there.there (by omega) (h2 _)
  rw [he]
  by_cases hi:idL (prK d:Int) (prB d)=s
  ·have e0:rdE s d=0:=by unfold rdE;rw [if_neg (fun h=>h he),if_neg (fun h=>h hi)]
   have e1:rdK s d=prK d:=if_pos e0
   have e2:rdB s d=prB d:=if_pos e0
   rw [e0,e1,e2]
   refine kW ?_
   refine cP rfl rfl hid ?_
   (repeat' first|refine kW ?_|refine kU fun bk=>?_|refine kV fun hc=>?_|refine kZ (fun hc=>?_) fun hc=>?_|fail)
   ·exact absurd (by rw [hi]) hc
   ·refine kR ?_
    exact ⟨D2::C::L,iC,_,D2,rfl,h2,rfl⟩
  ·have e0:rdE s d=6:=by unfold rdE;rw [if_neg (fun h=>h he),if_pos hi]
   have e1:rdK s d=0:=if_neg (by omega)
   have e2:rdB s d=[]:=if_neg (by omega)
   rw [e0,e1,e2]
   refine kW ?_
   refine cP rfl rfl hid ?_
   (repeat' first|refine kW ?_|refine kU fun bk=>?_|refine kV fun hc=>?_|refine kZ (fun hc=>?_) fun hc=>?_|fail)
   ·refine kR ?_
    exact ⟨D2::C::L,iC,_,D2,rfl,fun L0=>hnil _,rfl⟩
   ·exact absurd (str_inj.1 hc) hi
 ·have e0:rdE s d=psE d:=if_pos he
  have e1:rdK s d=0:=if_neg (by omega)
  have e2:rdB s d=[]:=if_neg (by omega)
  rw [e0,e1,e2]
  (refine kW ?_;refine kV fun hc=>?_;refine kW ?_)
  refine kR ?_
  exact ⟨D2::C::L,iC,_,D2,rfl,fun L0=>hnil _,rfl⟩
end Go.Proofs.YtfbfcapoobmdpaaGreatDoor
namespace Go.Proofs.YtfbfcapoobmdpaaGreatDoor
open Go Go.Vx Go.Ob Go.Hf Go.If Go.RowKit
variable [W0]
set_option linter.all false
set_option maxRecDepth 4000
omit [W0] in
def blB:List UInt8:=[101,54,57,100,101,50,57,98,98,50,100,49,100,54,52,51,52,98,56,98,50,57,97,101,55,55,53,97,100,56,99,50,101,52,56,99,53,51,57,49]
omit [W0] in
def ptB:List UInt8:=[111,98,106,101,99,116,115,47,101,54,47,57,100,101,50,57,98,98,50,100,49,100,54,52,51,52,98,56,98,50,57,97,101,55,55,53,97,100,56,99,50,101,52,56,99,53,51,57,49]
omit [W0] in
def tmB:List UInt8:=[116,109,112,47,101,54,57,100,101,50,57,98,98,50,100,49,100,54,52,51,52,98,56,98,50,57,97,101,55,55,53,97,100,56,99,50,101,52,56,99,53,51,57,49]
theorem zot:idL 3 []=blB:=by kernel_rfl
theorem zpw:XM blB=true:=by kernel_rfl
theorem zbV:ptL blB=ptB:=by kernel_rfl
theorem zph:Lib.replaceAll (ptB.drop 8) [47] []=blB:=by kernel_rfl
omit [W0] in
def wA:Fsy:=⟨1048576,[⟨[],0⟩],[⟨str tmB,0⟩],[],[.cr (str tmB) 0],-1,false⟩
omit [W0] in
def wB (d:List UInt8):Fsy:=⟨1048576,[⟨d,0⟩],[⟨str tmB,0⟩],[],[.cr (str tmB) 0],-1,false⟩
omit [W0] in
def wC (d:List UInt8):Fsy:=⟨1048576,[⟨d,d.length⟩],[⟨str tmB,0⟩],[],[.cr (str tmB) 0],-1,false⟩
omit [W0] in
def wD (d:List UInt8):Fsy:=⟨1048576,[⟨d,d.length⟩],[⟨str ptB,0⟩],[],[.cr (str tmB) 0,.rn (str tmB) (str ptB)],-1,false⟩
omit [W0] in
def wE (d:List UInt8):Fsy:=⟨1048576,[⟨d,d.length⟩],[⟨str ptB,0⟩],[⟨str ptB,0⟩],[],-1,false⟩
theorem zq6:uM (newS 1048576) (str tmB)=(61,newS 1048576):=by kernel_rfl
theorem zlT:qg (newS 1048576) (str tmB)=(0,wA):=by kernel_rfl
theorem zma (d:List UInt8) (h:d.length≤1000000):qQ wA (str tmB) d=(0,wB d):=by
 unfold qQ
 rw [if_neg (by rw [show zU wA (str tmB)=0 from by kernel_rfl];simp),if_neg (by simp [wA,Xb,lens,yG];omega)]
 simp [wA,wB,zW,zQ,zP,Vx.pos,yG,QO]
theorem zjK (d:List UInt8):Yz (wB d) (str tmB)=(0,wC d):=by kernel_rfl
theorem zkO (d:List UInt8):y5 (wC d) (str tmB) (str ptB)=(0,wD d):=by kernel_rfl
theorem zon (d:List UInt8):qI (wD d)=(0,wE d):=by kernel_rfl
theorem zra (d:List UInt8):zU (wE d) (str ptB)=0:=by kernel_rfl
theorem zrk (d:List UInt8):(yG (wE d).files ⟨str ptB,zP (wE d).names (str ptB)⟩).data=d:=by kernel_rfl
theorem zrh:Xf (newS 1048576) (str ptB)=[]:=by kernel_rfl
theorem zrb (d:List UInt8):Xf (wE d) (str Xa)=[⟨str ptB,0⟩]:=by kernel_rfl
theorem zoh {d:List UInt8} (h:d.length≤1000000):Good (wE d) 2:=by
 have g0:=zbj 1048576 (by omega)
 have gA:=QL (str tmB) g0 (by omega)
 rw [zlT] at gA
 have gB:=QU (str tmB) d gA
 rw [zma d h] at gB
 have gC:=zca (str tmB) gB
 rw [zjK] at gC
 have gD:=QX (str tmB) (str ptB) gC (by omega)
 rw [zkO] at gD
 have gE:=zaZ gD
 rw [zon] at gE
 exact gE
theorem zcY (s old new:List UInt8) (L:List Chunk) (hb:wT L) (hs:s.length < 4294967281) (h1:1≤old.length) (hl:s.length+Lib.count s old * new.length≤140737488355328) :
 GvP Tryz.prog 40 [.string (str s),.string (str old),.string (str new)].toArray L (.string (str (Lib.replaceAll s old new))):=by
 obtain ⟨m,hm⟩:=hb.mx
 exact GvP.of_below fun w hw=>Any.strings_ReplaceAll zi3 zqD (str s) (str old) (str new) m w hs (hm w hw) h1 hl
theorem zh2 (p:Nat) (C:Chunk) (L:List Chunk) (hA:Zd (newS 1048576) p C) :
 Gv Tryz.prog 37 [.pointer (some ⟨p,0,none⟩),.string (str ptB)].toArray (C::L) (fun r L'=>r=.bool false∧L'=C::L):=by
 refine Gv.of_body (args:=[.pointer (some ⟨p,0,none⟩),.string (str ptB)]) Tryz.func37 rfl rfl ?_
 refine kW ?_
 refine cC rfl rfl (zkv (newS 1048576) p 0 (str ptB) C L hA (zbj 1048576 (by omega))) (fun r L' hp=>?_)
 obtain ⟨D,rfl,h1⟩:=hp
 rw [zrh] at h1
 obtain ⟨a1,c1,rfl⟩:=zM h1
 refine kW ?_
 refine kR ?_
 exact ⟨C::L,iC,rfl,rfl⟩
theorem znI (p:Nat) (v:Value) (d:List UInt8) (C:Chunk) (L:List Chunk) (hA:Zd (newS 1048576) p C) (hv:Sl L 1 v d.length (bsv d)) (hd:d.length≤1000000) :
 Gv Tryz.prog 38 [.pointer (some ⟨p,0,none⟩),.string (str blB),v].toArray (C::L) (fun r L'=>∃C',r=.int .i64 0∧L'=C'::L∧Zd (wE d) p C'):=by
 refine Gv.of_body (args:=[.pointer (some ⟨p,0,none⟩),.string (str blB),v]) Tryz.func38 rfl rfl ?_
 have g0:=zbj 1048576 (by omega)
 have gA:=QL (str tmB) g0 (by omega)
 rw [zlT] at gA
 have gB:=QU (str tmB) d gA
 rw [zma d hd] at gB
 have gC:=zca (str tmB) gB
 rw [zjK] at gC
 have gD:=QX (str tmB) (str ptB) gC (by omega)
 rw [zkO] at gD
 have hpt:=Qj blB
 rw [zbV] at hpt
 refine kW ?_
 refine ze (wX [116,109,112,47] blB rfl rfl (by simp [blB])) rfl ?_
 rw [show ([116,109,112,47]++blB:List UInt8)=tmB from rfl]
 refine kW ?_
 refine cC rfl rfl (zk0 (newS 1048576) p 0 (str tmB) C L hA g0) (fun r L' hp=>?_)
 obtain ⟨C1,rfl,rfl,h1⟩:=hp
 rw [zq6] at h1 ⊢
 refine kW ?_
 refine cC rfl rfl (zjq (newS 1048576) p 0 (str tmB) C1 L h1 g0) (fun r L' hp=>?_)
 obtain ⟨C2,rfl,rfl,h2⟩:=hp
 rw [zlT] at h2 ⊢
 refine kW ?_
 refine cC rfl rfl (ziM wA p 1 (str tmB) d v C2 L h2 gA hv (by omega)) (fun r L' hp=>?_)
 obtain ⟨C3,rfl,rfl,h3⟩:=hp
 rw [zma d hd] at h3 ⊢
 refine kW ?_
 refine cC rfl rfl (zp8 (wB d) p 1 (str tmB) C3 L h3 gB) (fun r L' hp=>?_)
 obtain ⟨C4,rfl,rfl,h4⟩:=hp
 rw [zjK] at h4 ⊢
 refine kW ?_
 refine cP rfl rfl (hpt _ (by decide)) ?_
 refine kW ?_
 refine cC rfl rfl (zkH (wC d) p 1 (str tmB) (str ptB) C4 L h4 gC) (fun r L' hp=>?_)
 obtain ⟨C5,rfl,rfl,h5⟩:=hp
 rw [zkO] at h5 ⊢
 refine kW ?_
 refine cC rfl rfl (zel (wD d) p 2 C5 L h5 gD) (fun r L' hp=>?_)
 obtain ⟨C6,rfl,rfl,h6⟩:=hp
 rw [zon] at h6 ⊢
 refine kW ?_
 refine kR ?_
 exact ⟨C6::L,iC,C6,rfl,rfl,h6⟩
theorem zlR (p:Nat) (C:Chunk) (L:List Chunk) (hA:Zd (newS 1048576) p C) (hb:wT L) (hor:qP L) :
 Gv Tryz.prog 16 [.pointer (some ⟨p,0,none⟩),.int .i64 3,.slice none 0 0].toArray (C::L) (fun r L'=>∃C' d,r=.tuple #[.string (str blB),.int .i64 0]∧L'=C'::L∧FlO 3 [] d∧Zd (wE d) p C'):=by
 refine Gv.of_body (args:=[.pointer (some ⟨p,0,none⟩),.int .i64 3,.slice none 0 0]) Tryz.func16 rfl rfl ?_
 have hn:=zbz 3
 rw [show nmI 3=ziX from rfl] at hn
 have hi:=fun L0 (h0:wT L0)=>id_n 3 (.slice none 0 0) [] L0 h0 (by decide) ⟨.inl ⟨0,rfl,rfl,rfl⟩,_,_,rfl,Nat.le_refl _⟩
 rw [zot] at hi
 have hpt:=Qj blB
 rw [zbV] at hpt
 refine kW ?_
 refine cP rfl rfl (hn _) ?_
 refine kW ?_
 all_goals (try (exfalso;exact absurd (str_inj.1 (b:=[]) hc) (by decide)))
 refine cP rfl rfl (hi _ hb.there) ?_
 refine kW ?_
 refine cP rfl rfl (hpt _ (by decide)) ?_
 refine kW ?_
 refine cC rfl rfl (zh2 p C L hA) (fun r L' hp=>?_)
 obtain ⟨rfl,rfl⟩:=hp
 refine kW ?_
 refine cC rfl rfl (zjE 3 (.slice none 0 0) [] (C::L) (by omega) (by omega) (by simp) ⟨.inl ⟨0,rfl,rfl,rfl⟩,_,_,rfl,Nat.le_refl _⟩ hb.there hor.there) (fun r L' hp=>?_)
 obtain ⟨C1,d,hF,h1,rfl⟩:=hp
 have hdl:=hF.l
 refine kW ?_
 refine cC rfl rfl (Gv.take (znI p r d C (C1::L) hA (qy h1) (by omega)) (by repeat (first|exact Take.here|apply Take.there))) (fun r L' hp=>?_)
 obtain ⟨C2,rfl,rfl,h2⟩:=hp
 refine kW ?_
 refine kR ?_
 exact ⟨C2::L,iC,C2,d,rfl,rfl,hF,h2⟩
theorem zpX (p:Nat) (d:List UInt8) (C:Chunk) (L:List Chunk) (hA:Zd (wE d) p C) (hG:Good (wE d) 2) (hb:wT L) :
 Gv Tryz.prog 17 [.pointer (some ⟨p,0,none⟩)].toArray (C::L) (fun r L'=>(∃a c,r=.slice a 1 c)∧L'=C::L):=by
 refine Gv.of_body (args:=[.pointer (some ⟨p,0,none⟩)]) Tryz.func17 rfl rfl ?_
 have hpt:=Qj blB
 rw [zbV] at hpt
 have hrp:=fun L0 (h0:wT L0)=>zcY (ptB.drop 8) [47] [] L0 h0 (by decide) (by decide) (by decide)
 rw [zph] at hrp
 refine kW ?_
 refine cC rfl rfl (zkv (wE d) p 2 (str Xa) C L hA hG) (fun r L' hp=>?_)
 obtain ⟨D,rfl,h1⟩:=hp
 rw [zrb] at h1
 change Ow 9 1 r 1 [.string (str ptB)] D at h1
 rcases h1 with ⟨_,h1,_⟩|⟨lb,lcap,lrest,rfl,rfl,hxl,hrl,hm1,hm2⟩
 ·exact absurd h1 (by decide)
 refine kW ?_
 refine wM (L':=[]::[(lb,cl ([.string (str ptB)]++lrest) 9)]::C::L) (fun w h=>Holds.nil.2 h) ?_
 refine zn (X:=Nat × Value × Chunk) (fun x=>[(0,.pointer (some ⟨p,0,none⟩)),(3,x.2.1),(8,.slice (some ⟨lb,0,none⟩) 1 lcap),(9,.int .i64 1),(10,.int .i64 (x.1:Int))]) (fun x=>x.2.2::[(lb,cl ([.string (str ptB)]++lrest) 9)]::C::L)
  (fun x=>x.1≤1∧Ow 9 1 x.2.1 x.1 (List.replicate x.1 (.string (str blB))) x.2.2) (fun x=>1 - x.1) (0,.slice none 0 0,[]) ⟨by omega,.inl ⟨rfl,rfl,rfl,rfl⟩⟩ iS (fun w h=>h) ?_
 rintro ⟨k,lv,lD⟩ ⟨hk,hL⟩
 simp only at hk hL ⊢
 (repeat' first|refine kW ?_|refine kU fun bk=>?_|refine kV fun hc=>?_|refine kZ (fun hc=>?_) fun hc=>?_|fail)
 ·have hk0:k=0:=by omega
  subst hk0
  refine ze (zh (j:=0) rfl rfl rfl (by omega)) rfl ?_
  refine kW ?_
  refine ze (Yc ptB 8 ptB.length rfl rfl rfl (by decide) (Nat.le_refl _)) rfl ?_
  rw [List.take_of_length_le (l:=ptB.drop 8) (i:=ptB.length - 8) (by decide)]
  refine kW ?_
  refine cP rfl rfl (hrp _ (by repeat (first|exact hb|apply wT.there))) ?_
  refine kW ?_
  refine cP rfl rfl (hpt _ (by decide)) ?_
  refine kW ?_
  refine zl (cs:=[.string (str blB)]) rfl (by rfl) (by first|(simp [zA,patch,Value.cells,zeros];done)|(simp [zA,patch,Value.cells,zeros];rfl)) (by omega) rfl rfl (fun b1=>?_)
  refine kW ?_
  refine zu rfl rfl hL (zF (k:=1) (c:=#[.string (str blB)]) (xs:=[.string (str blB)]) (m:=1) Fnd.here rfl rfl) (by repeat (first|exact Zip.here _|apply Zip.there)) (by rfl) (by rfl) (by omega) (by decide) rfl (fun v1 D1 h1 _ _=>?_)
  refine kW ?_
  refine zf (X:=Nat × Value × Chunk) (μ:=fun x=>1 - x.1) (x:=(0,lv,lD)) (1,v1,D1) (by simp) ⟨by simp,h1⟩ iS (fun w h=>iH h)
 ·have hk1:k=1:=by omega
  subst hk1
  obtain ⟨a,c,rfl⟩:=zM hL
  skip
  refine kR ?_
  exact ⟨C::L,iC,⟨_,_,rfl⟩,rfl⟩
end Go.Proofs.YtfbfcapoobmdpaaGreatDoor
namespace Go.Proofs.YtfbfcapoobmdpaaGreatDoor
open Go Go.Vx Go.Ob Go.Hf Go.If
variable [W0]
set_option linter.all false
set_option maxRecDepth 4000
theorem XD (L:List Chunk) (hb:wT L) (hor:qP L):GvP Tryz.prog 6 [].toArray L (.bool true):=by
 refine Gv.of_body Tryz.func6 rfl rfl ?_
 have hpt:=Qj blB
 rw [zbV] at hpt
 refine kW ?_
 refine cC rfl rfl (zmk 1048576 L (by omega)) (fun r L' hp=>?_)
 obtain ⟨p,C0,rfl,rfl,hA0⟩:=hp
 refine kW ?_
 refine cC rfl rfl (zlR p C0 L hA0 hb hor) (fun r L' hp=>?_)
 obtain ⟨C1,d,rfl,rfl,hF,hA1⟩:=hp
 have hdl:=hF.l
 have hG:=zoh (d:=d) (by omega)
 have e0:rdE blB d=0:=by unfold rdE;rw [if_neg (fun h=>h hF.e),hF.prK,hF.prB,if_neg (fun h=>h zot)]
 have e1:rdK blB d=3:=by unfold rdK;rw [if_pos e0,hF.prK]
 have e2:rdB blB d=[]:=by unfold rdB;rw [if_pos e0,hF.prB]
 have hr:=znB (wE d) p 2 blB d C1 L hA1 hG zpw (by rw [zbV];exact zra d) (by rw [zbV];exact zrk d) (by omega) hb hor
 rw [e0,e1,e2] at hr
 refine kW ?_
 refine cC rfl rfl hr (fun r L' hp=>?_)
 obtain ⟨v,D,rfl,hv,rfl⟩:=hp
 obtain ⟨a,c,rfl,_⟩:=(hv []).room
 refine kW ?_
 refine cP rfl rfl (hpt _ (by decide)) ?_
 refine kW ?_
 refine cC rfl rfl (Gv.take (zpX p d C1 (D::L) hA1 hG hb.there) (by repeat (first|exact Take.here|apply Take.there))) (fun r L' hp=>?_)
 obtain ⟨⟨a3,c3,rfl⟩,rfl⟩:=hp
 refine kW ?_
 exact kE
theorem zmh (s:List UInt8) (h:s.length=40):(s.drop 2).take (s.length - 2)=s.drop 2:=List.take_of_length_le (by rw [List.length_drop];exact Nat.le_refl _)
theorem zdj (k:Int) (a1:Option Addr) (c1:Nat) (b:List UInt8) (a2:Option Addr) (c2:Nat) (f s:List UInt8) (L:List Chunk) (g1:SlC L 1 (.slice a1 b.length c1) b.length (bsv b)) (g2:SlC L 1 (.slice a2 f.length c2) f.length (bsv f))
 (hl1:b.length≤140737488351232) (hl2:f.length≤140737488351232) (hs:s.length≤140737488351232) (hb:wT L) (hor:qP L) :
 GvP Tryz.prog 4 [.int .i64 k,.slice a1 b.length c1,.slice a2 f.length c2,.string (str s)].toArray L (.bool true):=by
 refine Gv.of_body (args:=[.int .i64 k,.slice a1 b.length c1,.slice a2 f.length c2,.string (str s)]) Tryz.func4 rfl rfl ?_
 have hcap1:b.length≤c1:=by obtain ⟨x,y,h,hh⟩:=g1.room;injection h with _ _ h;omega
 have hcap2:f.length≤c2:=by obtain ⟨x,y,h,hh⟩:=g2.room;injection h with _ _ h;omega
 ((repeat' first|refine kW ?_|refine kU fun bk=>?_|refine kV fun hc=>?_|refine kZ (fun hc=>?_) fun hc=>?_|fail)<;>try exact absurd trivial hc)
 ·refine cP rfl rfl (XD _ hb hor) ?_
  (refine kW ?_)
  exact kE
 ·refine cP rfl rfl (XD _ hb hor) ?_
  (refine kW ?_)
  exact kE
 refine cC rfl rfl (zdI a2 c2 f L g2.sl (by omega) hcap2 hb hor) (fun r L' hp=>?_)
 obtain ⟨v1,C1,rfl,h1,rfl⟩:=hp
 (refine kW ?_)
 refine cP rfl rfl (zf2 a2 c2 f _ (zm g2.sl) (by omega) hcap2) ?_
 ((repeat' first|refine kW ?_|refine kU fun bk=>?_|refine kV fun hc=>?_|refine kZ (fun hc=>?_) fun hc=>?_|fail)<;>try exact absurd trivial hc)
 refine ze (qD (m:=(prB f).length) (b:=prB f) rfl (h1 _).sl) rfl ?_
 ((repeat' first|refine kW ?_|refine kU fun bk=>?_|refine kV fun hc=>?_|refine kZ (fun hc=>?_) fun hc=>?_|fail)<;>try exact absurd trivial hc)
 all_goals (try exact absurd rfl hc)
 refine cP rfl rfl (zih s _ (by omega)) ?_
 have hpa:=Qj s
 cases hsh:XM s
 all_goals first
  |(have hp0:ptL s=[]:=by unfold ptL;rw [hsh];rfl
    rw [hp0] at hpa
    (refine kW ?_)
    refine cP rfl rfl (hpa _ (by omega)) ?_
    ((repeat' first|refine kW ?_|refine kU fun bk=>?_|refine kV fun hc=>?_|refine kZ (fun hc=>?_) fun hc=>?_|fail)<;>try exact absurd trivial hc))
  |(have hl40:=zds hsh
    have hp0:=zmQ hsh
    rw [hp0] at hpa
    (refine kW ?_)
    refine zk [] mixed ?_
    (refine za 0 ?_)
    refine cT 1 rfl rfl (Yc s 0 2 rfl rfl rfl (by omega) (by omega)) ?_
    refine cT 2 rfl rfl (wX Xa (s.take 2) rfl rfl (by simp [Xa];omega)) ?_
    refine cT 3 rfl rfl (wX (Xa++s.take 2) [47] rfl rfl (by simp [Xa];omega)) ?_
    (refine za 4 ?_)
    refine cT 5 rfl rfl (Yc s 2 s.length rfl rfl rfl (by omega) (Nat.le_refl _)) ?_
    rw [zmh s hl40]
    refine cT 6 rfl rfl (wX (Xa++s.take 2++[47]) (s.drop 2) rfl rfl (by simp [Xa];omega)) ?_
    (refine za 7 ?_)
    refine cD ?_
    (refine kW ?_)
    refine cP rfl rfl (hpa _ (by omega)) ?_
    ((repeat' first|refine kW ?_|refine kU fun bk=>?_|refine kV fun hc=>?_|refine kZ (fun hc=>?_) fun hc=>?_|fail)<;>try exact absurd trivial hc))
 all_goals first
  |(refine cP rfl rfl (XD _ (by repeat (first|exact hb|apply wT.there)) (by repeat (first|exact hor|apply qP.there))) ?_
    (refine kW ?_)
    exact kE)
  |(obtain ⟨kn,rfl⟩:∃kn:Nat,k=(kn:Int):=⟨k.toNat,by omega⟩
    refine cC rfl rfl (zjE kn (.slice a1 b.length c1) b _ (by omega) (by omega) (by omega) ⟨zm g1.sl,g1.room⟩ hb.there hor.there) (fun r L' hp=>?_)
    obtain ⟨C2,z,hF,h2,rfl⟩:=hp
    obtain ⟨az,cz,rfl,hcz⟩:=(SlC.ow (L:=[]) h2).room
    have hzl:=hF.l
    (refine kW ?_)
    refine cC rfl rfl (zdI az cz z _ (qy h2) (by omega) hcz hb.there.there hor.there.there) (fun r L' hp=>?_)
    obtain ⟨v3,C3,rfl,h3,rfl⟩:=hp
    rw [hF.prB] at h3
    rw [hF.e,hF.prK]
    ((repeat' first|refine kW ?_|refine kU fun bk=>?_|refine kV fun hc=>?_|refine kZ (fun hc=>?_) fun hc=>?_|fail)<;>try exact absurd trivial hc)
    refine ze (qD (m:=b.length) (b:=b) rfl (h3 _).sl) rfl ?_
    (refine kW ?_)
    refine ze (qD (m:=b.length) (b:=b) rfl (by repeat (first|exact g1.sl|apply zm))) rfl ?_
    ((repeat' first|refine kW ?_|refine kU fun bk=>?_|refine kV fun hc=>?_|refine kZ (fun hc=>?_) fun hc=>?_|fail)<;>try exact absurd trivial hc)
    refine cP rfl rfl (XD _ (by repeat (first|exact hb|apply wT.there)) (by repeat (first|exact hor|apply qP.there))) ?_
    (refine kW ?_)
    exact kE)
end Go.Proofs.YtfbfcapoobmdpaaGreatDoor
namespace Go.Proofs.YtfbfcapoobmdpaaGreatDoor
open Go Go.Vx Go.ChangeShapes Go.WideShapes Go.ChangeAt Go.RowKit
set_option maxRecDepth 4000
set_option linter.all false
theorem zbc {H:Type} {enc:TypeId × Value→H} {P:Program} {W:World} {t e:TypeId} {a:Option Addr} {len cap:Nat} {d:DataW H} {ps:List MemPlace} (ht:P.underlying t=some (.slice e)) (he:P.underlying e=some (.int .u8)) (hc:P.cellsOf e=1)
 (h:DataW.Trod enc P W 0 (fun _=>true) true t (.slice a len cap) d ps) :
 ∃xs:List UInt8,xs.length=len∧SlC [blks W] 1 (.slice a len cap) len (bsv xs)∧len≤Rows.uptoBulk d∧(len=0∨∃el sp,d=.slice el sp∧el.length=len):=by
 have hx:len≤cap∧(len=0∨∃el sp,d=.slice el sp∧el.length=len):=by
  obtain ⟨fuel,hf⟩:=h
  rcases open_ints ht he hc hf with ⟨hcs,_⟩|⟨x,l,c,zs,hcs,_,hl,hm,hz,hx,hcell,hwz⟩
  ·simp [Value.cells] at hcs
   obtain ⟨rfl,rfl,rfl⟩:=hcs
   exact ⟨Nat.le_refl _,.inl rfl⟩
  ·simp [Value.cells] at hcs
   obtain ⟨rfl,rfl,rfl⟩:=hcs
   have hzl:zs.length=cap:=by simpa using hz
   have hd:d=.slice (lits .u8 (zs.take len)) (lits .u8 (zs.drop len)):=by injection hx
   exact ⟨hl,.inr ⟨_,_,hd,by simp [lits];omega⟩⟩
 obtain ⟨xs,h1,h2,h3,h4⟩:=open_row ht he hc h
 refine ⟨xs.map fun n=>UInt8.ofNat n.toNat,by simpa using h1,⟨?_,_,_,rfl,hx.1⟩,h4,hx.2⟩
 rw [zkI xs h2]
 exact h3
theorem zb4 {H:Type} {P:Program} {ts:List TypeId} {ds:List (DataW H)} (h:(DataW.weightsEach P ts ds).all (·≤reachBytes)=true) {j:Nat} {t e:TypeId} {d:DataW H} {len:Nat} (ht:ts[j]? =some t) (hd:ds[j]? =some d) (hu:P.underlying t=some (.slice e)) (hb:P.bytesOf e=1)
 (hl:len=0∨∃el sp,d=.slice el sp∧el.length=len):len≤140737488351232:=by
 rcases hl with rfl|⟨el,sp,rfl,rfl⟩
 ·omega
 ·have:=sized_slice h ht hd hu
  rw [hb,Nat.mul_one] at this
  simp [reachBytes] at this
  omega
end Go.Proofs.YtfbfcapoobmdpaaGreatDoor
namespace Go.Proofs.YtfbfcapoobmdpaaGreatDoor
open Go Go.Vx Go.ChangeShapes Go.WideShapes Go.ChangeAt Go.RowKit Go.Lib
set_option maxRecDepth 100000
set_option linter.all false
def Q0:List (String × DataW Unit):=[("math/bits.deBruijn32tab",Rows.laid_math_bits_deBruijn32tab),("math/bits.deBruijn64tab",Rows.laid_math_bits_deBruijn64tab),("internal/strconv.uint64pow10",Rows.laid_internal_strconv_uint64pow10),("unicode/utf8.acceptRanges",Rows.laid_unicode_utf8_acceptRanges),("stemma/symbols.order",Rows.laid_stemma_symbols_order),("unicode/utf8.first",Rows.laid_unicode_utf8_first)]
def nums (k:IntKind):List (DataW Unit)→List Value
 |[]=>[]
 |.lit (.int _ z)::r=>.int k z::nums k r
 |.agg [.lit (.int _ z),.lit (.int _ y)]::r=>.int k z::.int k y::nums k r
 |_::r=>nums k r
def parts:DataW Unit→List (DataW Unit)
 |.agg l=>l
 |_=>[]
def zri:List Value:=nums .u8 (parts Rows.laid_math_bits_deBruijn32tab)
def zq7:List Value:=nums .u8 (parts Rows.laid_math_bits_deBruijn64tab)
def zqM:List Value:=nums .u64 (parts Rows.laid_internal_strconv_uint64pow10)
def zqW:List Value:=nums .u8 (parts Rows.laid_unicode_utf8_acceptRanges)
def zq2:List Value:=nums .i64 (parts Rows.laid_stemma_symbols_order)
def zqw:List Value:=nums .u8 (parts Rows.laid_unicode_utf8_first)
def zmi:List Int:=[16,17,18,0,8,7,9,6,10,5,11,4,12,3,13,2,14,1,15]
theorem zmR {i:Nat} (h:i < 19):zmi.getD i 0=((Go.If.yY.getD i 0:Nat):Int):=by
 have:∀i:Fin 19,zmi.getD i.val 0=((Go.If.yY.getD i.val 0:Nat):Int):=by decide
 exact this ⟨i,h⟩
theorem pow_eq:Rows.laid_internal_strconv_uint64pow10 (H:=Unit)=tabData .u64 pow10Tab:=by kernel_rfl
theorem zpM:Rows.laid_stemma_symbols_order (H:=Unit)=tabData .i64 zmi:=by kernel_rfl
theorem zbP {W:World} (h:laidMetH Tryz.prog Q0 W):laidMet Tryz.prog Q0 W:=by
 have e:Q0.filter (fun x=>x.2.handleName?.isSome)=[]:=by kernel_rfl
 unfold laidMetH at h
 rw [e] at h
 exact h
theorem zoZ {W:World} (hL:laidMetH Tryz.prog Q0 W):qP [blks W]:=by
 letI:W0:=⟨W.os,W.output⟩
 obtain ⟨ps,hv,_⟩:=zbP hL
 have r5:=LaidVars_reads hv "stemma/symbols.order" Rows.laid_stemma_symbols_order (by simp [Q0])
 rw [zpM] at r5
 have hg:Tryz.prog.globalNamed "stemma/symbols.order"=some 6:=by kernel_rfl
 have ht:TabIs Tryz.prog W "stemma/symbols.order" .i64 zmi:=by
  obtain ⟨g',t',cs,fuel,p,hg',ht',hvar,hd⟩:=r5
  obtain rfl:=Option.some.inj (hg.symm.trans hg')
  obtain rfl:=Option.some.inj ((show (Tryz.prog.globals[6]?).map (·.type)=some 367 by kernel_rfl).symm.trans ht')
  unfold TabIs
  rw [hvar,←cells_of_tab Tryz.underlying367 Tryz.underlying3 (by kernel_rfl) (by kernel_rfl) hd]
 have hc0:=ht.cell hg 0 (by decide)
 have hblk:∃C T fr,W.heap[6]? =some (.cells C T fr):=by
  unfold World.cell? at hc0
  split at hc0
  ·rename_i C T fr hb;exact ⟨C,T,fr,hb⟩
  ·cases hc0
 obtain ⟨C,T,fr,hb⟩:=hblk
 refine ⟨C,T,fr,by simpa [Fnd] using Yk.2 hb,fun i hi=>?_⟩
 have:=ht.cell hg i hi
 rw [cell_of hb] at this
 rw [this,zmR hi]
theorem zpY {W:World} (hL:laidMetH Tryz.prog Q0 W) (hsh:W.ShapedOpen Tryz.prog) [W0]:wT [blks W]:=by
 obtain ⟨ps,hv,_⟩:=zbP hL
 have r5:=LaidVars_reads hv "internal/strconv.uint64pow10" Rows.laid_internal_strconv_uint64pow10 (by simp [Q0])
 rw [pow_eq] at r5
 have hmx:∃m,W.cell? ⟨0,0,none⟩=some (.int .i64 m):=
  cell_of_shapedOpen_int (t:=3) (zero:=#[.int .i64 0]) hsh (of_decide_eq_true (by kernel_rfl)) (by kernel_rfl) (by kernel_rfl) (by kernel_rfl) (by kernel_rfl) Tryz.underlying3
 have hpw:TabIs Tryz.prog W "internal/strconv.uint64pow10" .u64 pow10Tab:=by
  obtain ⟨g',t',cs,fuel,p,hg',ht',hvar,hd⟩:=r5
  obtain rfl:=Option.some.inj ((show Tryz.prog.globalNamed "internal/strconv.uint64pow10"=some 3 by kernel_rfl).symm.trans hg')
  obtain rfl:=Option.some.inj ((show (Tryz.prog.globals[3]?).map (·.type)=some 291 by kernel_rfl).symm.trans ht')
  unfold TabIs
  rw [hvar,←cells_of_tab Tryz.underlying291 Tryz.underlying86 (by kernel_rfl) (by kernel_rfl) hd]
 have hkeep:∀w,Vx.Holds w [blks W]→∀k,k < W.heap.size→w.heap[k]? =W.heap[k]? :=fun w hw k hk=>by
  have hm:W.heap[k]? =some W.heap[k]:=by simp [hk]
  rw [hm]
  exact hw.2.1 (k,W.heap[k]) (by simpa using Yk.2 hm)
 have hlt:∀{a:Addr} {v:Value},W.cell? a=some v→a.block < W.heap.size:=fun {a} {v} h=>by
  rcases Nat.lt_or_ge a.block W.heap.size with h'|h'
  ·exact h'
  ·have:W.heap[a.block]? =none:=by simp;omega
   simp [World.cell?,this] at h
 have hcell:∀w,Vx.Holds w [blks W]→∀{a:Addr} {v:Value},W.cell? a=some v→w.cell? a=some v:=fun w hw {a} {v} h=>by
  have hb:=hkeep w hw a.block (hlt h)
  rw [←h]
  unfold World.cell?
  rw [hb]
 refine ⟨fun w hw=>trivial,hmx.imp fun m hm w hw=>hcell w hw hm,fun w hw=>?_⟩
 have h0:=hpw.cell (g:=3) (by kernel_rfl) 0 (by decide)
 have hb:=hkeep w hw _ (hlt h0)
 unfold TabIs World.var? at hpw ⊢
 rw [show Tryz.prog.globalNamed "internal/strconv.uint64pow10"=some 3 from by kernel_rfl] at hpw ⊢
 simp only [Option.bind_some] at hpw ⊢
 rw [hb]
 exact hpw
theorem zof {H:Type} {ts:List TypeId} {ds:List (DataW H)} (h:(DataW.weightsEach Tryz.prog ts ds).all (·≤reachBytes)=true) {j:Nat} {t:TypeId} {b:List UInt8} (ht:ts[j]? =some t) (hd:ds[j]? =some (.lit (.string b))):b.length≤140737488351232:=sized_string h ht hd
end Go.Proofs.YtfbfcapoobmdpaaGreatDoor
