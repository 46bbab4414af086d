/- Contracts and facts on the way to the top. It proves no statement by itself. No conditions. -/
import Derived.Test.YtfbfcapoobmdpaaGreatDoorPG3
set_option maxHeartbeats 16000000
namespace Go.If
open Go.Vx Go.Hf
set_option linter.all false
theorem Yb [W0] {d:List UInt8} {most:Nat} {s:S6} (h:s.e≠0):∀k,stL d most k s=s
 |0=>rfl
 |k+1=>by rw [stL,if_neg h]
theorem zqf {d:List UInt8} {s:S6} {n:Nat} (h:s.e≠0):(tk d s n).e=s.e:=by
 unfold tk
 split
 ·rfl
 ·rw [zfu h]
theorem zq5 [W0] {d:List UInt8} {most:Nat} {s:S6} (h:(tk d ⟨8 * ((s.t+7) / 8),s.out,s.e⟩ 16).e≠0):(stS d most s).e=(tk d ⟨8 * ((s.t+7) / 8),s.out,s.e⟩ 16).e:=by
 unfold stS
 simp only
 generalize tk d ⟨8 * ((s.t+7) / 8),s.out,s.e⟩ 16=s1 at h ⊢
 have h2:=zqf (d:=d) (n:=16) h
 split
 ·rw [Yb (by rw [h2];exact h),h2]
 ·rw [zfu (by rw [h2];exact h),Yb (by rw [h2];exact h),h2]
theorem zq6 [W0] {d:List UInt8} {most:Nat} {s:S6} (h:(tk d (tk d ⟨8 * ((s.t+7) / 8),s.out,s.e⟩ 16) 16).e≠0):(stS d most s).e=(tk d (tk d ⟨8 * ((s.t+7) / 8),s.out,s.e⟩ 16) 16).e:=by
 unfold stS
 simp only
 generalize tk d (tk d ⟨8 * ((s.t+7) / 8),s.out,s.e⟩ 16) 16=s2 at h ⊢
 split
 ·rw [Yb h]
 ·rw [zfu h,Yb h]
theorem zq7 [W0] {d:List UInt8} {most:Nat} {s:S6} (h:(tk d (tk d ⟨8 * ((s.t+7) / 8),s.out,s.e⟩ 16) 16).e=0) (h2:tv d ⟨8 * ((s.t+7) / 8),s.out,s.e⟩ 16+tv d (tk d ⟨8 * ((s.t+7) / 8),s.out,s.e⟩ 16) 16≠65535):(stS d most s).e=3:=by
 unfold stS
 simp only
 rw [if_neg h2]
 have e3:(fl (tk d (tk d ⟨8 * ((s.t+7) / 8),s.out,s.e⟩ 16) 16) 3).e=3:=by rw [ZC,if_pos h]
 rw [Yb (by rw [e3];decide),e3]
theorem zq8 [W0] {d:List UInt8} {most:Nat} {s:S6} (h2:tv d ⟨8 * ((s.t+7) / 8),s.out,s.e⟩ 16+tv d (tk d ⟨8 * ((s.t+7) / 8),s.out,s.e⟩ 16) 16=65535) :
 stS d most s=stL d most (tv d ⟨8 * ((s.t+7) / 8),s.out,s.e⟩ 16) (tk d (tk d ⟨8 * ((s.t+7) / 8),s.out,s.e⟩ 16) 16):=by
 unfold stS
 simp only
 rw [if_pos h2]
theorem zix {n m:Nat} (hn:n < 65536) (hm:m < 65536):n ^^^ m=65535↔n+m=65535:=by
 constructor
 ·intro h
  have e:m=n ^^^ 65535:=by rw [←h,←Nat.xor_assoc,Nat.xor_self,Nat.zero_xor]
  have h2:n ^^^ 65535=65535 - n:=by
   have e2:65535 - n=2 ^ 16 - (n+1):=by omega
   apply Nat.eq_of_testBit_eq
   intro i
   rw [Nat.testBit_xor,e2,Nat.testBit_two_pow_sub_succ (by omega),show (65535:Nat)=2 ^ 16 - 1 from rfl,Nat.testBit_two_pow_sub_one]
   by_cases hi:i < 16
   ·simp [hi]
   ·have:Nat.testBit n i=false:=Nat.testBit_lt_two_pow (Nat.lt_of_lt_of_le hn (Nat.pow_le_pow_right (n:=2) (by decide) (show 16≤i by omega)))
    simp [hi,this]
  omega
 ·intro h
  have e:m=2 ^ 16 - (n+1):=by omega
  apply Nat.eq_of_testBit_eq
  intro i
  rw [Nat.testBit_xor,e,Nat.testBit_two_pow_sub_succ (by omega),show (65535:Nat)=2 ^ 16 - 1 from rfl,Nat.testBit_two_pow_sub_one]
  by_cases hi:i < 16
  ·simp [hi]
  ·have:Nat.testBit n i=false:=Nat.testBit_lt_two_pow (Nat.lt_of_lt_of_le hn (Nat.pow_le_pow_right (n:=2) (by decide) (show 16≤i by omega)))
   simp [hi,this]
end Go.If
namespace Go.Proofs.YtfbfcapoobmdpaaGreatDoor
open Go Go.Vx Go.Hf Go.If
variable [W0]
set_option maxRecDepth 4000
set_option linter.all false
theorem zhT {a b:Nat} (ha:a < 65536) (hb:b < 65536):zcM .xor .i64 (a:Int) (b:Int)=some ((a ^^^ b:Nat):Int):=by
 have h1:a ^^^ b < 2 ^ 16:=Nat.xor_lt_two_pow ha hb
 have e:((BitVec.ofInt 64 (a:Int) ^^^ BitVec.ofInt 64 (b:Int)).toNat)=a ^^^ b:=by
  rw [BitVec.toNat_xor,BitVec.ofInt_natCast,BitVec.ofInt_natCast,BitVec.toNat_ofNat,BitVec.toNat_ofNat,Nat.mod_eq_of_lt (by omega),Nat.mod_eq_of_lt (by omega)]
 show some (IntKind.i64.wrap (((BitVec.ofInt 64 (a:Int) ^^^ BitVec.ofInt 64 (b:Int)).toNat:Nat):Int))=_
 rw [e]
 congr 1
 exact QF (by omega)
theorem zij (p q most:Nat) (v kn:Value) (d:List UInt8) (s:S6) (D E C:Chunk) (L:List Chunk) (h:RdN q d s.t D E) (hl:d.length≤140737488355328) (he:s.e=0) (hm:most≤1000000) (hkn:kn.oneCell'=true)
 (ho:Ow 5 1 v s.out.length (bsv s.out) C) (hom:s.out.length≤most) :
 Gv Tryz.prog 179 [.pointer (some ⟨p,0,none⟩)].toArray (rdR p q v most kn::D::E::C::L) (fun r L'=>
  ((stS d most s).e≠0∧r=.int .i64 ((stS d most s).e:Int)∧L'=L)∨
  ((stS d most s).e=0∧r=.int .i64 0∧∃v' D' C',Ow 5 1 v' (stS d most s).out.length (bsv (stS d most s).out) C'∧(stS d most s).out.length≤most∧RdN q d (stS d most s).t D' E∧L'=rdR p q v' most kn::D'::E::C'::L)):=by
 refine Gv.of_body Tryz.func179 rfl rfl ?_
 have hal:=zk5 q s.t d D E (rdR p q v most kn::C::L) h
 have x1:=zq5 (d:=d) (most:=most) (s:=s)
 have x2:=zq6 (d:=d) (most:=most) (s:=s)
 have x3:=zq7 (d:=d) (most:=most) (s:=s)
 have x4:=zq8 (d:=d) (most:=most) (s:=s)
 generalize stS d most s=R at x1 x2 x3 x4 ⊢
 obtain ⟨s0,hs0⟩:∃s0:S6,s0=⟨8 * ((s.t+7) / 8),s.out,s.e⟩:=⟨_,rfl⟩
 have e0:s0.e=0:=by rw [hs0];exact he
 have o0:s0.out=s.out:=by rw [hs0]
 have t0:8 * ((s.t+7) / 8)=s0.t:=by rw [hs0]
 rw [t0] at hal
 rw [←hs0] at x1 x2 x3 x4
 rw [←o0] at ho hom
 clear hs0 o0 t0 he h
 have htk:=fun D' hr=>Y7 p q most 16 v kn d s0 D' E (C::L) hr hl (by decide) e0
 have hv1:=wU d s0 16
 have ho1:=yw d s0 16
 generalize tv d s0 16=n1 at htk hv1 x3 x4
 generalize tk d s0 16=s1 at htk x1 x2 x3 x4 ho1
 unfold rdR at hal ⊢
 refine kW ?_
 refine cC rfl rfl (Gv.holds hal (fun w h=>iH h)) (fun r L' hp=>?_)
 obtain ⟨rfl,D0,hr0,rfl⟩:=hp
 have htk:=htk D0 hr0
 unfold rdR at htk
 refine kW ?_
 refine cC rfl rfl (Gv.holds htk (fun w h=>iH h)) (fun r L' hp=>?_)
 rcases hp with ⟨h1,rfl,rfl⟩|⟨h1,rfl,D1,hr1,rfl⟩
 ·have q:=x1 h1
  rw [←q] at h1 ⊢
  (refine kW ?_;refine kV fun hc=>?_;refine kW ?_)
  refine kR ?_
  exact ⟨_,iC,.inl ⟨h1,rfl,rfl⟩⟩
 have htk:=Y7 p q most 16 v kn d s1 D1 E (C::L) hr1 hl (by decide) h1
 have hv2:=wU d s1 16
 have ho2:=yw d s1 16
 rw [←ho1,←ho2] at ho hom
 generalize tv d s1 16=n2 at htk hv2 x3 x4
 generalize tk d s1 16=s2 at htk x2 x3 x4 ho2 ho hom
 unfold rdR at htk
 refine kW ?_
 refine cC rfl rfl (Gv.holds htk (fun w h=>iH h)) (fun r L' hp=>?_)
 rcases hp with ⟨h2,rfl,rfl⟩|⟨h2,rfl,D2,hr2,rfl⟩
 ·have q:=x2 h2
  rw [←q] at h2 ⊢
  (refine kW ?_;refine kV fun hc=>?_;refine kW ?_)
  refine kR ?_
  exact ⟨_,iC,.inl ⟨h2,rfl,rfl⟩⟩
 clear x1 x2
 have x3:=x3 h2
 have hxc:=zix hv1 hv2
 refine kW ?_
 refine ze (wZ rfl rfl (zhT hv1 hv2)) rfl ?_
 (repeat' first|refine kW ?_|refine kU fun bk=>?_|refine kV fun hc=>?_|refine kZ (fun hc=>?_) fun hc=>?_|fail)
 ·have x3:=x3 (by omega)
  rw [x3]
  refine kR ?_
  exact ⟨_,iC,.inl ⟨by decide,rfl,rfl⟩⟩
 have x4:=x4 (by omega)
 clear x3 hxc
 obtain ⟨va,vc,rfl⟩:=zM ho
 refine zn (X:=Nat × S6 × Value × Chunk × Chunk) (fun x=>[(0,.pointer (some ⟨p,0,none⟩)),(34,.int .i64 (n1:Int)),(35,.int .i64 (x.1:Int))]) (fun x=>rdR p q x.2.2.1 most kn::x.2.2.2.1::x.2.2.2.2::E::L)
  (fun x=>x.1≤n1∧x.2.1.e=0∧Ow 5 1 x.2.2.1 x.2.1.out.length (bsv x.2.1.out) x.2.2.2.1∧x.2.1.out.length≤most∧RdN q d x.2.1.t x.2.2.2.2 E∧stL d most (n1 - x.1) x.2.1=R) (fun x=>n1 - x.1) (0,s2,.slice va s2.out.length vc,C,D2) ⟨Nat.zero_le _,h2,ho,hom,hr2,x4.symm⟩ iS (fun w h=>iH h) ?_
 rintro ⟨i,s5,v1,C1,D5⟩ ⟨hi,he5,hov,hol,hr5,hsl⟩
 simp only at hi he5 hov hol hr5 hsl ⊢
 (repeat' first|refine kW ?_|refine kU fun bk=>?_|refine kV fun hc=>?_|refine kZ (fun hc=>?_) fun hc=>?_|fail)
 ·obtain ⟨k2,hk2⟩:∃k2,n1 - i=k2+1:=⟨n1 - i - 1,by omega⟩
  have hk3:n1 - (i+1)=k2:=by omega
  rw [hk2,stL,if_pos he5] at hsl
  have htk:=Y7 p q most 8 v1 kn d s5 D5 E (C1::L) hr5 hl (by decide) he5
  have hv6:=wU d s5 8
  have ho6:=yw d s5 8
  rw [←ho6] at hov
  generalize tv d s5 8=x at htk hv6 hsl
  generalize tk d s5 8=s6 at htk hsl ho6 hov
  unfold rdR at htk ⊢
  refine cC rfl rfl (Gv.holds htk (fun w h=>iH h)) (fun r L' hp=>?_)
  rcases hp with ⟨h6,rfl,rfl⟩|⟨h6,rfl,D6,hr6,rfl⟩
  ·rw [if_neg h6,Yb h6] at hsl
   subst hsl
   (refine kW ?_;refine kV fun hc=>?_;refine kW ?_)
   refine kR ?_
   exact ⟨_,iC,.inl ⟨h6,rfl,rfl⟩⟩
  rw [if_pos h6] at hsl
  have hput:=zk2 p q most (UInt8.ofNat x) v1 kn s6 C1 (D6::E::L) hov hm h6 hkn
  have hpt:=zeA most s6 (UInt8.ofNat x)
  have hpl:(pt most s6 (UInt8.ofNat x)).e=0→(pt most s6 (UInt8.ofNat x)).out.length≤most:=by
   intro hq
   by_cases hc:s6.out.length < most
   ·rw [Qa hc];simp;omega
   ·rw [zez (by omega),ZC,if_pos h6] at hq;cases hq
  generalize pt most s6 (UInt8.ofNat x)=s7 at hput hsl hpt hpl
  rw [byte_of (by omega)] at hput
  unfold rdR at hput
  refine kW ?_
  try rw [uZ]
  try rw [byte_of (by omega)]
  refine cC rfl rfl (Gv.holds hput (fun w h=>iH h)) (fun r L' hp=>?_)
  rcases hp with ⟨h7,rfl,rfl⟩|⟨h7,rfl,v7,C7,ho7,rfl⟩
  ·rw [Yb h7] at hsl
   subst hsl
   (refine kW ?_;refine kV fun hc=>?_;refine kW ?_)
   refine kR ?_
   exact ⟨_,iC,.inl ⟨h7,rfl,rfl⟩⟩
  refine kW ?_
  refine zf (X:=Nat × S6 × Value × Chunk × Chunk) (μ:=fun x=>n1 - x.1) (x:=(i,s5,v1,C1,D5)) (i+1,s7,v7,C7,D6) (by simp only;omega) ⟨by simp only;omega,h7,ho7,hpl h7,by simp only;rw [hpt];exact hr6,by simp only;rw [hk3];exact hsl⟩ iS (fun w h=>iH h)
 ·obtain rfl:i=n1:=by omega
  rw [show i - i=0 from by omega,stL] at hsl
  subst hsl
  refine kR ?_
  exact ⟨_,iC,.inr ⟨he5,rfl,_,D5,C1,hov,hol,hr5,rfl⟩⟩
end Go.Proofs.YtfbfcapoobmdpaaGreatDoor
namespace Go.Vx
section
variable [W0] {P : Program} {n : Nat} {M : List (Nat × Value)} {L : List Chunk}
theorem ziO {c:Code} {fn:Func} {R:Ending→World→Prop} (h:WC P n c (bodyPost P fn R) M L):WC P n (.scope c) (bodyPost P fn R) M L:=
 ⟨fun a w ha hw=>wp_scope_straight (wp_mono (h.out a w ha hw) (fun e a' w' hq=>by cases e<;>exact hq))⟩
end
end Go.Vx
namespace Go.Proofs.YtfbfcapoobmdpaaGreatDoor
open Go Go.Vx Go.Hf Go.If
variable [W0]
set_option maxRecDepth 4000
set_option linter.all false
omit [W0] in
def csC (pc pl pd:Nat):Chunk:=[(pc,cl [.pointer (some ⟨pl,0,none⟩),.pointer (some ⟨pd,0,none⟩)] 324)]
theorem zfV (q pl:Nat) (l:List Nat) (d:List UInt8) (s:S6) (D E Cl:Chunk) (L:List Chunk) (h:RdN q d s.t D E) (hl:d.length≤140737488355328) (he:s.e=0)
 (hC:CoD l pl Cl) (hk:kS l≤32768) (h15:∀x∈l,x≤15) (h400:l.length≤400) :
 Gv Tryz.prog 250 [.pointer (some ⟨pl,0,none⟩),.pointer (some ⟨q,0,none⟩)].toArray (Cl::D::E::L) (fun r L'=>∃D',r=.tuple #[.int .i64 ((sv d s l:Nat):Int),.int .i64 ((sy d s l).e:Int)]∧RdN q d (sy d s l).t D' E∧L'=Cl::D'::E::L):=by
 have hr:=zgN pl q s.t l d Cl D E L hC hk h15 h400 h hl
 have hsv:sv d s l=(rdS l (val d) s.t (8 * d.length) 16 0).1:=by unfold sv;rw [if_pos he]
 have hsy:sy d s l=⟨s.t+(rdS l (val d) s.t (8 * d.length) 16 0).2.2,s.out,(rdS l (val d) s.t (8 * d.length) 16 0).2.1⟩:=by unfold sy fl;rw [if_pos he,if_pos (by exact he)]
 rw [←hsv] at hr
 have e1:s.t+(rdS l (val d) s.t (8 * d.length) 16 0).2.2=(sy d s l).t:=by rw [hsy]
 have e2:(rdS l (val d) s.t (8 * d.length) 16 0).2.1=(sy d s l).e:=by rw [hsy]
 rw [e1,e2] at hr
 exact hr
theorem zey (p q pc pl pd most:Nat) (v kn:Value) (l dl:List Nat) (d:List UInt8) (s:S6) (D E C Cl Cd:Chunk) (L:List Chunk) (h:RdN q d s.t D E) (hl:d.length≤140737488355328) (he:s.e=0) (hm:most≤1000000) (hkn:kn.oneCell'=true)
 (ho:Ow 5 1 v s.out.length (bsv s.out) C) (hom:s.out.length≤most) (hCl:CoD l pl Cl) (hkl:kS l≤32768) (h15l:∀x∈l,x≤15) (h400l:l.length≤400) (hC:CoD dl pd Cd) (hk:kS dl≤32768) (h15:∀x∈dl,x≤15) (h400:dl.length≤400) :
 Gv Tryz.prog 223 [.pointer (some ⟨p,0,none⟩),.pointer (some ⟨pc,0,none⟩)].toArray (rdR p q v most kn::D::E::C::csC pc pl pd::Cl::Cd::L) (fun r L'=>
  ((cdC d most l dl (8 * d.length+1) s).e≠0∧r=.int .i64 ((cdC d most l dl (8 * d.length+1) s).e:Int)∧L'=L)∨
  ((cdC d most l dl (8 * d.length+1) s).e=0∧r=.int .i64 0∧∃v' D' C',Ow 5 1 v' (cdC d most l dl (8 * d.length+1) s).out.length (bsv (cdC d most l dl (8 * d.length+1) s).out) C'∧(cdC d most l dl (8 * d.length+1) s).out.length≤most∧RdN q d (cdC d most l dl (8 * d.length+1) s).t D' E∧
    L'=rdR p q v' most kn::D'::E::C'::csC pc pl pd::Cl::Cd::L)):=by
 refine Gv.of_body Tryz.func223 rfl rfl ?_
 generalize hR:cdC d most l dl (8 * d.length+1) s=R
 refine kW ?_
 refine ziO ?_
 refine vg ?_
 refine ziN ?_
 refine kW ?_
 refine zn (X:=Nat × S6 × Value × Chunk × Chunk) (fun x=>[(0,.pointer (some ⟨p,0,none⟩)),(1,.pointer (some ⟨pc,0,none⟩))]) (fun x=>rdR p q x.2.2.1 most kn::x.2.2.2.1::x.2.2.2.2::E::csC pc pl pd::Cl::Cd::L)
  (fun x=>x.2.1.e=0∧8 * d.length < x.1+x.2.1.t∧Ow 5 1 x.2.2.1 x.2.1.out.length (bsv x.2.1.out) x.2.2.2.1∧x.2.1.out.length≤most∧RdN q d x.2.1.t x.2.2.2.2 E∧cdC d most l dl x.1 x.2.1=R) (fun x=>x.1) (8 * d.length+1,s,v,C,D) ⟨he,by simp only;omega,ho,hom,h,hR⟩ iS (fun w h=>iH h) ?_
 rintro ⟨f,s1,v1,C1,D1⟩ ⟨he1,hf,hov,hol,hr1,hsl⟩
 simp only at he1 hf hov hol hr1 hsl ⊢
 obtain ⟨va,vc,rfl⟩:=zM hov
 have hs1:=zfV q pl l d s1 D1 E Cl (rdR p q (.slice va s1.out.length vc) most kn::C1::csC pc pl pd::Cd::L) hr1 hl he1 hCl hkl h15l h400l
 unfold rdR csC at hs1 ⊢
 refine kW ?_
 refine yQ [[(p,cl [.pointer (some ⟨q,0,none⟩),.slice va s1.out.length vc,.int .i64 (most:Int),kn] 144)],[(pc,cl [.pointer (some ⟨pl,0,none⟩),.pointer (some ⟨pd,0,none⟩)] 324)]] [] mixed ?_
 (refine za 0 ?_;refine za 1 ?_;refine za 2 ?_;refine za 3 ?_;refine za 4 ?_;refine za 5 ?_;refine za 6 ?_;refine za 7 ?_)
 refine cI 8 rfl rfl ?_
 refine cC rfl rfl (Gv.holds hs1 (fun w h=>iH h)) (fun r L' hp=>?_)
 obtain ⟨D2,rfl,hr2,rfl⟩:=hp
 refine ⟨iC,?_⟩
 (refine za 9 ?_;refine za 10 ?_;refine za 11 ?_;refine za 12 ?_;refine za 13 ?_)
 refine cD ?_
 refine kW ?_
 refine zn (X:=Nat × S6 × Value × Chunk × Chunk) (fun x=>[(0,.pointer (some ⟨p,0,none⟩)),(1,.pointer (some ⟨pc,0,none⟩)),(5,.int .i64 ((sv d x.2.1 l:Nat):Int)),(6,.int .i64 ((sy d x.2.1 l).e:Int))]) (fun x=>rdR p q x.2.2.1 most kn::x.2.2.2.1::x.2.2.2.2::E::csC pc pl pd::Cl::Cd::L)
  (fun x=>x.1≤f∧x.2.1.e=0∧8 * d.length < x.1+x.2.1.t∧x.2.1.t≤8 * d.length∧Ow 5 1 x.2.2.1 x.2.1.out.length (bsv x.2.1.out) x.2.2.2.1∧x.2.1.out.length≤most∧RdN q d (sy d x.2.1 l).t x.2.2.2.2 E∧cdC d most l dl x.1 x.2.1=R) (fun x=>x.1) (f,s1,.slice va s1.out.length vc,C1,D2) ⟨Nat.le_refl _,he1,hf,hr1.1,hov,hol,hr2,hsl⟩ iS (fun w h=>iH h) ?_
 clear hsl hr2 hr1 hol hov
 rintro ⟨g,s3,v3,C3,D3⟩ ⟨hgf,he3,hg,ht3,hov3,hol3,hr3,hsl3⟩
 simp only at hgf he3 hg ht3 hov3 hol3 hr3 hsl3 ⊢
 obtain ⟨g,rfl⟩:∃z,g=z+1:=⟨g - 1,by omega⟩
 rw [cdC,if_neg (show ¬s3.e≠0 by omega)] at hsl3
 have hgo:=fun h=>zoO (d:=d) (l:=l) he3 h
 have hsv:=zoN d s3 l
 have hso:=zbt d s3 l
 have hpt:=fun c=>zeA most (sy d s3 l) c
 have hmt:=fun k=>zoC d most k dl (sy d s3 l)
 rw [←hso] at hov3 hol3
 generalize sv d s3 l=k at hsl3 hsv ⊢
 generalize sy d s3 l=s4 at hsl3 hgo hso hpt hmt hov3 hol3 hr3 ⊢
 obtain ⟨wa,wc,rfl⟩:=zM hov3
 unfold rdR csC
 (repeat' first|refine kW ?_|refine kU fun bk=>?_|refine kV fun hc=>?_|refine kZ (fun hc=>?_) fun hc=>?_|fail)
 ·rw [if_neg (show ¬s4.e≠0 by omega),if_neg (show ¬k < 256 by omega),if_pos (show k=256 by omega)] at hsl3
  rw [←hsl3]
  refine kR ?_
  exact ⟨_,iC,.inr ⟨by omega,rfl,_,D3,C3,hov3,hol3,hr3,rfl⟩⟩
 ·have hgo:=hgo (by omega)
  have h4:s4.e=0:=by omega
  rw [if_neg (show ¬s4.e≠0 by omega),if_pos (show k < 256 by omega)] at hsl3
  try rw [uZ]
  have hput:=zk2 p q most (UInt8.ofNat k) (.slice wa s4.out.length wc) kn s4 C3 (D3::E::csC pc pl pd::Cl::Cd::L) hov3 hm h4 hkn
  have hpt:=hpt (UInt8.ofNat k)
  have hpl:(pt most s4 (UInt8.ofNat k)).e=0→(pt most s4 (UInt8.ofNat k)).out.length≤most:=by
   intro hq
   by_cases hc:s4.out.length < most
   ·rw [Qa hc];simp;omega
   ·rw [zez (by omega),ZC,if_pos h4] at hq;cases hq
  generalize pt most s4 (UInt8.ofNat k)=s5 at hput hsl3 hpt hpl
  unfold rdR csC at hput
  refine cC rfl rfl (Gv.holds hput (fun w h=>iH h)) (fun r L' hp=>?_)
  rcases hp with ⟨h5,rfl,rfl⟩|⟨h5,rfl,v5,C5,ho5,rfl⟩
  ·rw [zai h5] at hsl3
   subst hsl3
   (refine kW ?_;refine kV fun hc=>?_;refine kW ?_)
   refine kR ?_
   exact ⟨_,iC,.inl ⟨h5,rfl,rfl⟩⟩
  refine kW ?_
  have hr5:RdN q d s5.t D3 E:=by rw [hpt];exact hr3
  have hs5:=zfV q pl l d s5 D3 E Cl (rdR p q v5 most kn::C5::csC pc pl pd::Cd::L) hr5 hl h5 hCl hkl h15l h400l
  unfold rdR csC at hs5
  refine yQ [[(p,cl [.pointer (some ⟨q,0,none⟩),v5,.int .i64 (most:Int),kn] 144)],[(pc,cl [.pointer (some ⟨pl,0,none⟩),.pointer (some ⟨pd,0,none⟩)] 324)]] [] mixed ?_
  (refine za 0 ?_;refine za 1 ?_;refine za 2 ?_;refine za 3 ?_;refine za 4 ?_;refine za 5 ?_;refine za 6 ?_;refine za 7 ?_)
  refine cI 8 rfl rfl ?_
  refine cC rfl rfl (Gv.holds hs5 (fun w h=>iH h)) (fun r L' hp=>?_)
  obtain ⟨D6,rfl,hr6,rfl⟩:=hp
  refine ⟨iC,?_⟩
  (refine za 9 ?_;refine za 10 ?_;refine za 11 ?_;refine za 12 ?_;refine za 13 ?_)
  refine cD ?_
  refine kW ?_
  refine zf (X:=Nat × S6 × Value × Chunk × Chunk) (μ:=fun x=>x.1) (x:=(g+1,s3,.slice wa s4.out.length wc,C3,D3)) (g,s5,v5,C5,D6) (by simp only;omega) ⟨by simp only;omega,h5,by simp only;omega,hr5.1,ho5,hpl h5,hr6,hsl3⟩ iS (fun w h=>iH h)
 ·have hgo:=hgo (by omega)
  have h4:s4.e=0:=by omega
  rw [if_neg (show ¬s4.e≠0 by omega),if_neg (show ¬k < 256 by omega),if_neg (show ¬k=256 by omega)] at hsl3
  have hma:=zk1 p q pd most k (.slice wa s4.out.length wc) kn dl d s4 D3 E C3 Cd (csC pc pl pd::Cl::L) hr3 hl h4 hm hkn hov3 hol3 (by omega) (by omega) hC hk h15 h400
  have hmt:=hmt k
  generalize mtS d most k dl s4=s5 at hma hmt hsl3
  unfold rdR csC at hma
  refine cC rfl rfl (Gv.holds hma (fun w h=>iH h)) (fun r L' hp=>?_)
  rcases hp with ⟨h5,rfl,rfl⟩|⟨h5,rfl,v5,D5,C5,ho5,hl5,hr5,rfl⟩
  ·rw [zai h5] at hsl3
   subst hsl3
   (refine kW ?_;refine kV fun hc=>?_;refine kW ?_)
   refine kR ?_
   exact ⟨_,iC,.inl ⟨h5,rfl,rfl⟩⟩
  refine kW ?_
  refine zf (X:=Nat × S6 × Value × Chunk × Chunk) (μ:=fun x=>x.1) (x:=(f,s1,.slice va s1.out.length vc,C1,D1)) (g,s5,v5,C5,D5) (by simp only;omega) ⟨h5,by simp only;omega,ho5,hl5,hr5,hsl3⟩ iS (fun w h=>iH h)
 ·have h4:s4.e≠0:=by omega
  rw [if_pos h4] at hsl3
  subst hsl3
  refine kR ?_
  exact ⟨_,iC,.inl ⟨h4,rfl,rfl⟩⟩
end Go.Proofs.YtfbfcapoobmdpaaGreatDoor
namespace Go.Vx
section
variable [W0] {P : Program} {n : Nat} {M : List (Nat × Value)} {L : List Chunk} {d : Nat} {ty : TypeId} {ps : String} {af : Array Edge} {g : Option (Nat × Bool)} {x y : Operand} {K : List (Nat × Value) → List Chunk → Prop}
theorem XE {t u e k by_:Nat} {z:Value} {ku:IntKind} [hs:SL P t e k by_] [hz:ZV P e z] [hi:IK P u ku] {c:Nat} {kk:IntKind} (hx:ev M x=some (.slice none 0 0)) (hy:ev M y=some (.int kk (c:Int)))
 (hzk:z.cells.size=k) (hgrow:0 < c) (hb:c * by_≤140737488355328) (h63:c≤9223372036854775807)
 (hn:Nat.blt d n=true) (h:∀b cap rest,c≤cap→cap≤maxLen→rest.length=(cap - c) * k→K ((d,.slice (some ⟨b,0,none⟩) c cap)::M) ([(b,cl (zeros z.cells.toList c++rest) e)]::L)) :
 OW P n ⟨some d,.call ⟨.builtin .append,#[x,y],#[t,u]⟩,ty,ps,af,g⟩ K M L:=⟨fun a w next Q ha hw hk=>by
 obtain ⟨ht,i,hif,hik,hib,hk0⟩:=hs.parts
 subst hik hib
 have hzz:i.zero=some z:=by have:=hz.out;rw [hif] at this;simpa using this
 have hfit:=growslice_fits (need:=c) (old:=0) (bytes:=i.bytes) hgrow hb
 have hcap:=grownCap_ge w (0+c) 0 e
 have hcm:=grownCap_le_maxLen w (0+c) 0 e (by simp [maxLen];omega)
 have hz2:=wI (z:=z.cells) (m:=c)
 have hz3:=wI (z:=z.cells) (m:=grownCap w (0+c) 0 e - (0+c))
 have hc1:=wrap_i64 (r:=(c:Int)) (by omega) (by omega)
 have hcb:¬(281474976710656 < (c:Int) * (i.bytes:Int)):=by
  rw [←Int.natCast_mul];omega
 rw [Nat.zero_add] at hcap hcm hz3
 have hrun:(execOp a.eval ⟨some d,.call ⟨.builtin .append,#[x,y],#[t,u]⟩,ty,ps,af,g⟩).run P w=.ok (.value (.slice (some ⟨w.heap.size,0,none⟩) c (grownCap w c 0 e)))
  (w.drew.alloc (cl (zeros z.cells.toList c++zeros z.cells.toList (grownCap w c 0 e - c)) e)):=by
  have hne:¬(c≤0):=by omega
  have hne2:¬(c=0):=by omega
  have h63':¬(9223372036854775807 < (c:Int)):=by omega
  have h48':¬(281474976710656 < Builtin.nextslicecap c 0 * i.bytes):=by omega
  have hc0:¬((c:Int) < 0):=by omega
  simp only [execOp,resolve,invoke,builtin,Sem.run_bind,Sem.run_pure,Result.andThen_ok,List.map_toArray,List.map_cons,List.map_nil,ha.eval hx,ha.eval hy]
  simp [Builtin.append_,run_underlying ht,run_underlying hi.out,sizeOf,typeInfo,hif,asInt,asIntOf,hc1,hc0,hcb,hne2,h63',h48',Question.forced,Builtin.firstCells,newRow,vN hz.out]
  split
  ·rename_i h0
   have hcz:c=0:=by
    rcases Nat.mul_eq_zero.1 h0 with h|h
    ·exact h
    ·omega
   omega
  ·simp [uV,grownCap,cl]
 unfold Oper.wp
 rw [hrun,Oper.upon_value]
 have:=(hw.same (w':=w.drew) rfl rfl rfl).alloc (cl (zeros z.cells.toList c++zeros z.cells.toList (grownCap w c 0 e - c)) e)
 exact (hk _ _ (h w.heap.size _ _ hcap hcm (by rw [zeros_length];simp [hzk]))).out _ _ (ha.put _ hn) this⟩
end
end Go.Vx
namespace Go.Proofs.YtfbfcapoobmdpaaGreatDoor
open Go Go.Vx Go.Hf Go.If
variable [W0]
set_option maxRecDepth 4000
set_option linter.all false
theorem yN (n:Nat):zeros (Value.int .i64 0).cells.toList n=ivn (List.replicate n 0):=by
 induction n with
 |zero=>rfl
 |succ n ih=>rw [zeros,ih];simp [ivn,List.replicate_succ,Value.cells]
theorem X4 (a b:List Nat):ivn (a++b)=ivn a++ivn b:=by simp [ivn]
theorem vW (l:List Nat):yg (icn l)=ivn l:=by simp [yg,icn,ivn]
theorem zib (n:Nat) (L:List Chunk) (hn:n≤1000000):GvP Tryz.prog 275 [.int .u64 1,.int .u64 (n:Int)].toArray L (.tuple #[.int .u64 0,.int .u64 (n:Int)]):=by
 refine Gv.of_body Tryz.func275 rfl rfl ?_
 refine kW ?_
 refine ze (uM (k:=.u64) 1 32 rfl rfl rfl rfl rfl (by decide) (by decide)) rfl ?_
 rw [show ((1 % 2 ^ 32:Nat):Int)=1 from by decide]
 refine kW ?_
 rw [show (1:Int) / 4294967296=0 from by decide]
 refine ze (uM (k:=.u64) n 32 rfl rfl rfl rfl rfl (by simp only [IntKind.bits];omega) (by decide)) rfl ?_
 rw [show ((n % 2 ^ 32:Nat):Int)=n from by omega]
 refine kW ?_
 have e0:(n:Int) / 4294967296=0:=by omega
 have ez:(0:Int) / 4294967296=0:=by decide
 try rw [e0]
 refine ze (YS (k:=.u64) 1 n rfl rfl rfl rfl rfl (by simp only [IntKind.bits];omega)) rfl ?_
 rw [Nat.one_mul]
 refine kW ?_
 refine ze (YS (k:=.u64) 0 n rfl rfl rfl rfl rfl (by simp only [IntKind.bits];omega)) rfl ?_
 rw [Nat.zero_mul]
 refine kW ?_
 try rw [e0]
 refine ze (XB (k:=.u64) 0 0 rfl rfl rfl rfl rfl (by decide)) rfl ?_
 rw [Nat.zero_add]
 refine kW ?_
 refine ze (uM (k:=.u64) 0 32 rfl rfl rfl rfl rfl (by decide) (by decide)) rfl ?_
 rw [show (0 % 2 ^ 32:Nat)=0 from by decide]
 refine kW ?_
 try rw [show ((0:Nat):Int) / 4294967296=0 from by decide]
 try rw [ez]
 refine ze (YS (k:=.u64) 1 0 rfl rfl rfl rfl rfl (by decide)) rfl ?_
 rw [Nat.mul_zero]
 refine kW ?_
 refine ze (XB (k:=.u64) 0 0 rfl rfl rfl rfl rfl (by decide)) rfl ?_
 rw [Nat.zero_add]
 refine kW ?_
 refine ze (YS (k:=.u64) 0 0 rfl rfl rfl rfl rfl (by decide)) rfl ?_
 rw [Nat.mul_zero]
 refine kW ?_
 refine ze (XB (k:=.u64) 0 0 rfl rfl rfl rfl rfl (by decide)) rfl ?_
 rw [Nat.zero_add]
 refine kW ?_
 try rw [show ((0:Nat):Int) / 4294967296=0 from by decide]
 try rw [ez]
 refine ze (XB (k:=.u64) 0 0 rfl rfl rfl rfl rfl (by decide)) rfl ?_
 rw [Nat.zero_add]
 refine kW ?_
 refine ze (YS (k:=.u64) 1 n rfl rfl rfl rfl rfl (by simp only [IntKind.bits];omega)) rfl ?_
 rw [Nat.one_mul]
 refine kW ?_
 refine zT (rs:=[.tmp 4,.tmp 5]) (vs:=[.int .u64 0,.int .u64 (n:Int)]) rfl rfl ?_
 exact ⟨_,iC,rfl,rfl⟩
theorem zpL (n:Nat) (L:List Chunk) (hn:n≤1000000):GvP Tryz.prog 257 [.int .u64 1,.int .u64 (n:Int)].toArray L (.tuple #[.int .u64 0,.int .u64 (n:Int)]):=by
 refine Gv.of_body Tryz.func257 rfl rfl ?_
 have hm:=zib n L hn
 refine kW ?_
 refine cP rfl rfl hm ?_
 refine kW ?_
 refine kR ?_
 exact ⟨_,iC,rfl,rfl⟩
theorem zco (n k m v:Nat) (h:k+m≤n):patch (ivn (List.replicate k v++List.replicate (n - k) 0)) k (ivn (List.replicate m v))=ivn (List.replicate (k+m) v++List.replicate (n - (k+m)) 0):=by
 unfold patch ivn
 rw [←List.map_take,←List.map_drop,←List.map_append,←List.map_append]
 congr 1
 simp only [List.length_map,List.length_replicate]
 rw [List.take_left' (by simp),List.drop_append,List.drop_replicate,List.drop_replicate,List.length_replicate,show k - (k+m)=0 from by omega,show n - k - (k+m - k)=n - (k+m) from by omega,List.replicate_append_replicate]
 rfl
theorem zbj (b v n:Nat) (L:List Chunk) (hf:Fnd L b (cl [.int .i64 (v:Int)] 3)) (h1:1≤n) (hn:n≤1000000) :
 Gv Tryz.prog 238 [.slice (some ⟨b,0,none⟩) 1 1,.int .i64 (n:Int)].toArray L (fun r L'=>∃C,L'=C::L∧Ow 3 1 r n (ivn (List.replicate n v)) C):=by
 refine Gv.of_body Tryz.func238 rfl rfl ?_
 have hm:=fun L=>zpL n L hn
 refine kW ?_
 refine cP rfl rfl (hm _) ?_
 (refine kW ?_;refine kV fun hc=>?_;refine kW ?_)
 refine zJ (m:=n) (c:=n) rfl rfl (by rfl) (Nat.le_refl _) (by omega) (by omega) rfl (fun c=>?_)
 rw [yN]
 refine kW ?_
 refine vR (sl:=1) (zs:=ivn [v]) (ivn (List.replicate 1 v++List.replicate (n - 1) 0)) rfl rfl (.inr ⟨_,_,rfl,zK.cl' (l:=ivn [v]) (off:=0) (Fnd.there hf) rfl,rfl⟩) (by rw [Nat.min_eq_left (by omega)];rfl) ?_ iU (by rw [Nat.min_eq_left (by omega)];simp [ivn];omega) rfl ?_
 ·rw [Nat.min_eq_left (by omega)]
  have:=zco n 0 1 v (by omega)
  rw [show List.take (1 * 1) (ivn [v])=ivn [v] from rfl]
  simpa using this
 rw [Nat.min_eq_left (by omega)]
 refine kW ?_
 refine zn (X:=Nat) (fun k=>[(7,.slice (some ⟨c,0,none⟩) n n),(8,.int .i64 (k:Int))]) (fun k=>[(c,cl (ivn (List.replicate k v++List.replicate (n - k) 0)) 3)]::L)
  (fun k=>1≤k∧k≤n) (fun k=>n - k) 1 ⟨Nat.le_refl _,h1⟩ iS (fun w h=>h) ?_
 rintro k ⟨hk1,hk2⟩
 (repeat' first|refine kW ?_|refine kU fun bk=>?_|refine kV fun hc=>?_|refine kZ (fun hc=>?_) fun hc=>?_|fail)
 ·have hlen:(ivn (List.replicate k v++List.replicate (n - k) 0)).length=n:=by rw [zC];simp;omega
  have htk:List.take (min k (n - k) * 1) (ivn (List.replicate k v))=ivn (List.replicate (min k (n - k)) v):=by
   unfold ivn
   rw [←List.map_take,List.take_replicate,show min (min k (n - k) * 1) k=min k (n - k) from by omega]
  refine yQ [] [] mixed ?_
  (refine za 0 ?_;refine za 1 ?_;refine za 2 ?_)
  refine cT 3 rfl rfl (yx (l:=k) (h:=n) rfl rfl rfl (by omega) (by omega) (by omega)) ?_
  (refine za 4 ?_;refine za 5 ?_)
  refine cT 6 rfl rfl (qE (h:=k) rfl rfl rfl (by omega)) ?_
  refine cI 7 rfl rfl ?_
  refine vR (sl:=k) (zs:=ivn (List.replicate k v)) (ivn (List.replicate (k+min k (n - k)) v++List.replicate (n - (k+min k (n - k))) 0)) rfl rfl (.inr ⟨_,_,rfl,zK.cl' (off:=0) Fnd.here ?_,by rw [zC];simp⟩) ?_ ?_ iU (by rw [hlen];omega) rfl ?_
  ·rw [zC,List.length_replicate,X4]
   unfold cut
   rw [List.drop_zero,List.take_left' (by rw [zC,List.length_replicate])]
  ·rw [htk]
   exact qM
  ·rw [←zco n k (min k (n - k)) v (by omega),htk,Nat.mul_one]
  refine ⟨iC,?_⟩
  (refine za 8 ?_;refine za 9 ?_)
  refine cD ?_
  refine kW ?_
  refine zf (X:=Nat) (μ:=fun k=>n - k) (x:=k) (k+min k (n - k)) (by omega) ⟨by omega,by omega⟩ iS (fun w h=>h)
 ·obtain rfl:k=n:=by omega
  rw [show k - k=0 from by omega,List.replicate_zero,List.append_nil]
  refine kR ?_
  refine ⟨_,iC,_,rfl,.inr ⟨c,k,[],rfl,by rw [List.append_nil],by rw [zC];simp,by simp,Nat.le_refl _,by simp [maxLen];omega⟩⟩
theorem Qg (v n:Nat) (L:List Chunk) (h1:1≤n) (hn:n≤1000000) :
 Gv Tryz.prog 202 [.int .i64 (v:Int),.int .i64 (n:Int)].toArray L (fun r L'=>∃C,L'=C::L∧Ow 3 1 r n (ivn (List.replicate n v)) C):=by
 refine Gv.of_body Tryz.func202 rfl rfl ?_
 refine kW ?_
 refine zl (cs:=[.int .i64 (v:Int)]) rfl (by rfl) (by first|(simp [zA,patch,Value.cells,zeros];done)|(simp [zA,patch,Value.cells,zeros];rfl)) (by omega) rfl rfl (fun b=>?_)
 refine kW ?_
 refine cC rfl rfl (zbj b v n _ Fnd.here h1 hn) (fun r L' hp=>?_)
 obtain ⟨C,rfl,ho⟩:=hp
 refine kW ?_
 refine kR ?_
 exact ⟨_,iC,C,rfl,ho⟩
theorem zpr (n:Nat) (L:List Chunk) (h1:1≤n) (hn:n≤1000000) :
 Gv Tryz.prog 237 [.slice none 0 0,.int .i64 (n:Int)].toArray L (fun r L'=>∃C,L'=C::L∧Ow 3 1 r 0 (ivn []) C):=by
 refine Gv.of_body Tryz.func237 rfl rfl ?_
 (refine kW ?_;refine kV fun hc=>?_;refine kW ?_)
 refine ze (Yn rfl rfl rfl) rfl ?_
 refine kW ?_
 refine XE (c:=n) rfl rfl (by rfl) (by omega) (by omega) (by omega) rfl (fun b cap rest h2 h3 h4=>?_)
 refine kW ?_
 refine ze (qE (h:=0) rfl rfl rfl (by omega)) rfl ?_
 refine kW ?_
 refine kR ?_
 refine ⟨_,iC,_,rfl,.inr ⟨b,cap,_,rfl,by rfl,rfl,?_,Nat.zero_le _,h3⟩⟩
 show (zeros (Value.int .i64 0).cells.toList n++rest).length=_
 rw [List.length_append,yN,zC,List.length_replicate]
 omega
theorem zlD {L:List Chunk} {k m:Nat} {v:Value} {xs:List Value} (h:Sl L k v m xs):∃a c,v=.slice a m c:=by
 rcases h with ⟨c,rfl,rfl,_⟩|⟨a,c,rfl,_,_⟩
 ·exact ⟨_,_,rfl⟩
 ·exact ⟨_,_,rfl⟩
omit [W0] in
def ccL (ss:List (Value × List Nat)) (i:Nat):List Nat:=(ss.take i).flatMap (·.2)
theorem zd1 {ss:List (Value × List Nat)} {i:Nat} {x:Value × List Nat} (h:ss[i]? =some x):ccL ss (i+1)=ccL ss i++x.2:=by
 unfold ccL
 rw [List.take_add_one,h]
 simp [List.flatMap_append]
theorem zpc (ss:List (Value × List Nat)) (i:Nat):(ccL ss i).length≤(ccL ss ss.length).length:=by
 unfold ccL
 rw [List.take_length]
 conv=>rhs;rw [←List.take_append_drop i ss]
 rw [List.flatMap_append,List.length_append]
 omega
theorem zd5 (a:Option Addr) (c:Nat) (ss:List (Value × List Nat)) (L:List Chunk) (h:Sl L 1 (.slice a ss.length c) ss.length (ss.map (·.1))) (hs:∀x∈ss,Sl L 1 x.1 x.2.length (ivn x.2)) (hl:ss.length≤1000)
 (h1:1≤(ccL ss ss.length).length) (hn:(ccL ss ss.length).length≤1000000) :
 Gv Tryz.prog 201 [.slice a ss.length c].toArray L (fun r L'=>∃C,L'=C::L∧Ow 3 1 r (ccL ss ss.length).length (ivn (ccL ss ss.length)) C):=by
 refine Gv.of_body Tryz.func201 rfl rfl ?_
 have hle:=zpc ss
 refine kW ?_
 refine zn (X:=Nat) (fun i=>[(0,.slice a ss.length c),(3,.int .i64 ((ccL ss i).length:Int)),(9,.slice a ss.length c),(10,.int .i64 (ss.length:Int)),(11,.int .i64 (i:Int))]) (fun _=>L)
  (fun i=>i≤ss.length) (fun i=>ss.length - i) 0 (Nat.zero_le _) iS (fun w h=>h) ?_
 intro i hi
 (repeat' first|refine kW ?_|refine kU fun bk=>?_|refine kV fun hc=>?_|refine kZ (fun hc=>?_) fun hc=>?_|fail)
 ·have hlt:i < ss.length:=by omega
  obtain ⟨x,hx⟩:∃x,ss[i]? =some x:=⟨ss[i],List.getElem?_eq_getElem hlt⟩
  have hsx:=hs x (List.mem_of_getElem? hx)
  obtain ⟨xv,xl⟩:=x
  simp only at hsx
  have hsu:=zd1 hx
  have hle1:=hle (i+1)
  rw [hsu,List.length_append] at hle1
  simp only at hsu hle1
  obtain ⟨xa,xc,rfl⟩:=zlD hsx
  obtain ⟨b,off,cap,cc,T,fr,hve,hfn,hcell⟩:=yV h (k:=i) (u:=.slice xa xl.length xc) (by rw [List.getElem?_map,hx];rfl)
  injection hve with q1 q2 q3
  subst q1 q3
  clear q2
  refine ze (zi (j:=i) rfl rfl rfl hlt) rfl ?_
  refine kW ?_
  refine ze (zq rfl hfn hcell) rfl ?_
  refine kW ?_
  rw [←Int.natCast_add,←List.length_append,←hsu]
  refine zf (X:=Nat) (μ:=fun i=>ss.length - i) (x:=i) (i+1) (by omega) (by omega) iS (fun w h=>h)
 ·obtain rfl:i=ss.length:=by omega
  refine cC rfl rfl (zpr _ L h1 hn) (fun r L' hp=>?_)
  obtain ⟨C,rfl,ho⟩:=hp
  refine kW ?_
  refine zn (X:=Nat × Value × Chunk) (fun x=>[(6,x.2.1),(25,.slice a ss.length c),(26,.int .i64 (ss.length:Int)),(27,.int .i64 (x.1:Int))]) (fun x=>x.2.2::L)
   (fun x=>x.1≤ss.length∧Ow 3 1 x.2.1 (ccL ss x.1).length (ivn (ccL ss x.1)) x.2.2) (fun x=>ss.length - x.1) (0,r,C) ⟨Nat.zero_le _,ho⟩ iS (fun w h=>h) ?_
  rintro ⟨i,v,C1⟩ ⟨hi,hov⟩
  simp only at hi hov ⊢
  (repeat' first|refine kW ?_|refine kU fun bk=>?_|refine kV fun hc=>?_|refine kZ (fun hc=>?_) fun hc=>?_|fail)
  ·have hlt:i < ss.length:=by omega
   obtain ⟨x,hx⟩:∃x,ss[i]? =some x:=⟨ss[i],List.getElem?_eq_getElem hlt⟩
   have hsx:=hs x (List.mem_of_getElem? hx)
   obtain ⟨xv,xl⟩:=x
   simp only at hsx
   have hsu:=zd1 hx
   have hle1:=hle (i+1)
   rw [hsu,List.length_append] at hle1
   simp only at hsu hle1
   obtain ⟨xa,xc,rfl⟩:=zlD hsx
   obtain ⟨b,off,cap,cc,T,fr,hve,hfn,hcell⟩:=yV h (k:=i) (u:=.slice xa xl.length xc) (by rw [List.getElem?_map,hx];rfl)
   injection hve with q1 q2 q3
   subst q1 q3
   clear q2
   refine ze (zi (j:=i) rfl rfl rfl hlt) rfl ?_
   refine kW ?_
   refine ze (zq rfl hfn.there hcell) rfl ?_
   refine kW ?_
   refine zu rfl rfl hov (zm hsx) (by repeat (first|exact Zip.here _|apply Zip.there)) rfl qM (by omega) (by simp [maxLen];omega) rfl (fun v' C' ho' _ _=>?_)
   refine kW ?_
   rw [←List.length_append,←X4,←hsu] at ho'
   refine zf (X:=Nat × Value × Chunk) (μ:=fun x=>ss.length - x.1) (x:=(i,v,C1)) (i+1,v',C') (by simp only;omega) ⟨by simp only;omega,ho'⟩ iS (fun w h=>h)
  ·obtain rfl:i=ss.length:=by omega
   refine kR ?_
   exact ⟨_,iC,C1,rfl,hov⟩
omit [W0] in
def fxS (u1 u2 u3 u4:Value):List (Value × List Nat):=[(u1,List.replicate 144 8),(u2,List.replicate 112 9),(u3,List.replicate 24 7),(u4,List.replicate 8 8)]
theorem zox (u1 u2 u3 u4:Value):ccL (fxS u1 u2 u3 u4) (fxS u1 u2 u3 u4).length=fxL:=by
 show (List.replicate 144 8++(List.replicate 112 9++(List.replicate 24 7++(List.replicate 8 8++[]))))=fxL
 decide
theorem zfv (u1 u2 u3 u4:Value):(ccL (fxS u1 u2 u3 u4) (fxS u1 u2 u3 u4).length).length=288:=by rw [zox];decide
theorem Yu (L:List Chunk):Gv Tryz.prog 156 #[] L (fun r L'=>∃u v C D,r=.tuple #[u,v]∧L'=D::C::L∧Ow 3 1 u 288 (ivn fxL) C∧Ow 3 1 v 32 (ivn fxD) D):=by
 refine Gv.of_body (args:=[]) Tryz.func156 rfl rfl ?_
 refine kW ?_
 refine cC rfl rfl (Qg 8 144 L (by decide) (by decide)) (fun r L' hp=>?_)
 obtain ⟨C1,rfl,o1⟩:=hp
 obtain ⟨a1,c1,rfl⟩:=zM o1
 refine kW ?_
 refine cC rfl rfl (Qg 9 112 _ (by decide) (by decide)) (fun r L' hp=>?_)
 obtain ⟨C2,rfl,o2⟩:=hp
 obtain ⟨a2,c2,rfl⟩:=zM o2
 refine kW ?_
 refine cC rfl rfl (Qg 7 24 _ (by decide) (by decide)) (fun r L' hp=>?_)
 obtain ⟨C3,rfl,o3⟩:=hp
 obtain ⟨a3,c3,rfl⟩:=zM o3
 refine kW ?_
 refine cC rfl rfl (Qg 8 8 _ (by decide) (by decide)) (fun r L' hp=>?_)
 obtain ⟨C4,rfl,o4⟩:=hp
 obtain ⟨a4,c4,rfl⟩:=zM o4
 refine kW ?_
 refine zl (cs:=[.slice a1 144 c1,.slice a2 112 c2,.slice a3 24 c3,.slice a4 8 c4]) rfl (by rfl) (by first|(simp [zA,patch,Value.cells,zeros];done)|(simp [zA,patch,Value.cells,zeros];rfl)) (by omega) rfl rfl (fun b=>?_)
 refine kW ?_
 have hcc:=zd5 (some ⟨b,0,none⟩) 4 (fxS (.slice a1 144 c1) (.slice a2 112 c2) (.slice a3 24 c3) (.slice a4 8 c4))
  ([(b,cl [.slice a1 144 c1,.slice a2 112 c2,.slice a3 24 c3,.slice a4 8 c4] 154)]::C4::C3::C2::C1::L) (zF (c:=#[.slice a1 144 c1,.slice a2 112 c2,.slice a3 24 c3,.slice a4 8 c4]) Fnd.here rfl rfl)
  (by
    intro x hx
    simp only [fxS,List.mem_cons,List.not_mem_nil,or_false] at hx
    rcases hx with rfl|rfl|rfl|rfl
    ·exact zm (zm (zm (zm (qy o1))))
    ·exact zm (zm (zm (qy o2)))
    ·exact zm (zm (qy o3))
    ·exact zm (qy o4)) (by show 4≤1000;decide) (by rw [zfv];decide) (by rw [zfv];decide)
 rw [zfv,zox] at hcc
 refine cC rfl rfl hcc (fun r L' hp=>?_)
 obtain ⟨C5,rfl,o5⟩:=hp
 refine kW ?_
 refine cC rfl rfl (Qg 5 32 _ (by decide) (by decide)) (fun r L' hp=>?_)
 obtain ⟨C6,rfl,o6⟩:=hp
 refine kW ?_
 refine kR ?_
 exact ⟨_,iC,_,_,C5,C6,rfl,rfl,o5,o6⟩
end Go.Proofs.YtfbfcapoobmdpaaGreatDoor
namespace Go.If
open Go.Vx Go.Hf
set_option linter.all false
theorem Qr:∀l:List Nat,kS l≤16384 * l.sum
 |[]=>by simp [kS]
 |x::r=>by
  have ih:=Qr r
  have h2:(if 0 < x then 2 ^ (15 - x) else 0)≤16384 * x:=by
   split
   ·have:2 ^ (15 - x)≤2 ^ 14:=Nat.pow_le_pow_right (by decide) (by omega)
    omega
   ·omega
  rw [List.sum_cons,kS]
  omega
theorem zg3:∀{l:List Nat} {x:Nat},x∈l→x≤l.sum
 |y::r,x,h=>by
  rw [List.sum_cons]
  rcases List.mem_cons.1 h with rfl|h
  ·omega
  ·have:=zg3 h;omega
theorem uU (l:List Nat):sgl l=decide (l.sum < 2):=by
 unfold sgl
 by_cases h:l.sum < 2
 ·rw [decide_eq_true h,Bool.and_true,List.all_eq_true]
  intro x hx
  have:=zg3 hx
  simp
  omega
 ·rw [decide_eq_false h,Bool.and_false]
end Go.If
namespace Go.Proofs.YtfbfcapoobmdpaaGreatDoor
open Go Go.Vx Go.Hf Go.If
variable [W0]
set_option maxRecDepth 4000
set_option linter.all false
theorem zdh {l:List Nat} (h:∀x∈l,x≤15):okL (icn l)=true:=by
 unfold okL icn
 rw [List.all_eq_true]
 intro x hx
 obtain ⟨y,hy,rfl⟩:=List.mem_map.1 hx
 have:=h y hy
 simp
 omega
theorem zaz {l:List Nat} (h:∀x∈l,x≤15):wgt (icn l)=(kS l:Int):=by unfold wgt;rw [if_pos (zdh h),Zh]
theorem ZU {l:List Nat} (h:∀x∈l,x≤15) (h4:l.length≤400) (hk:kS l≤32768):cdE (icn l)=0:=(Yq (by rw [zL];exact h4) (zdh h) (by rw [Zh];exact hk)).1
theorem Ze (a:Option Addr) (c:Nat) (l:List Nat) (L:List Chunk) (h:Sl L 1 (.slice a l.length c) l.length (ivn l)) (h15:∀x∈l,x≤15) (h4:l.length≤400) :
 Gv Tryz.prog 248 [.slice a l.length c].toArray L (fun r L'=>(kS l≠32768∧r=.tuple #[.pointer none,.int .i64 3]∧L'=L)∨
  (kS l=32768∧∃p C,r=.tuple #[.pointer (some ⟨p,0,none⟩),.int .i64 0]∧L'=C::L∧CoD l p C)):=by
 refine Gv.of_body Tryz.func248 rfl rfl ?_
 have hlen:(icn l).length=l.length:=zL l
 have hco:=zeg a c (icn l) L (by rw [hlen,vW];exact h) (by omega)
 have hnw:=zkb a c (icn l) L (by rw [hlen,vW];exact h) (by omega)
 rw [hlen,zaz h15] at hco
 rw [hlen,Zh] at hnw
 by_cases hk:kS l=32768
 ·rw [hk,show (((32768:Nat):Int) == 32768)=true from rfl] at hco
  have h0:=ZU h15 h4 (by omega)
  refine kW ?_
  refine cP rfl rfl hco ?_
  refine kW ?_
  refine cC rfl rfl hnw (fun r L' hp=>?_)
  rcases hp with ⟨h1,_⟩|⟨_,p,C,rfl,rfl,hc⟩
  ·exact absurd h0 h1
  refine kW ?_
  refine kR ?_
  exact ⟨_,iC,.inr ⟨hk,p,C,rfl,rfl,hc⟩⟩
 ·rw [show (((kS l:Nat):Int) == 32768)=false from by simpa using fun h=>hk (by omega)] at hco
  refine kW ?_
  refine cP rfl rfl hco ?_
  refine kW ?_
  refine zT (rs:=[.tmp 2,.tmp 3]) (vs:=[.pointer none,.int .i64 3]) rfl rfl ?_
  exact ⟨_,iC,.inl ⟨hk,rfl,rfl⟩⟩
theorem zaS (a:Option Addr) (c:Nat) (l:List Nat) (L:List Chunk) (h:Sl L 1 (.slice a l.length c) l.length (ivn l)) (h15:∀x∈l,x≤15) (h4:l.length≤400) :
 Gv Tryz.prog 249 [.slice a l.length c].toArray L (fun r L'=>(¬(kS l=32768∨sgl l=true)∧r=.tuple #[.pointer none,.int .i64 3]∧L'=L)∨
  ((kS l=32768∨sgl l=true)∧∃p C,r=.tuple #[.pointer (some ⟨p,0,none⟩),.int .i64 0]∧L'=C::L∧CoD l p C)):=by
 refine Gv.of_body Tryz.func249 rfl rfl ?_
 have hlen:(icn l).length=l.length:=zL l
 have hnw:=zkb a c (icn l) L (by rw [hlen,vW];exact h) (by omega)
 rw [hlen,Zh] at hnw
 have hcc:=Ze a c l L h h15 h4
 refine kW ?_
 refine zn (X:=Nat) (fun i=>[(0,.slice a l.length c),(4,.int .i64 (((l.take i).sum:Nat):Int)),(7,.slice a l.length c),(8,.int .i64 (l.length:Int)),(9,.int .i64 (i:Int))]) (fun _=>L)
  (fun i=>i≤l.length∧(l.take i).sum≤15 * i) (fun i=>l.length - i) 0 ⟨Nat.zero_le _,Nat.le_refl _⟩ iS (fun w h=>h) ?_
 rintro i ⟨hi,hsm⟩
 (repeat' first|refine kW ?_|refine kU fun bk=>?_|refine kV fun hc=>?_|refine kZ (fun hc=>?_) fun hc=>?_|fail)
 ·have hlt:i < l.length:=by omega
  obtain ⟨x,hx⟩:∃x,l[i]? =some x:=⟨l[i],List.getElem?_eq_getElem hlt⟩
  have hx15:=h15 x (List.mem_of_getElem? hx)
  have hsu:(l.take (i+1)).sum=(l.take i).sum+x:=by rw [List.take_add_one,hx];simp
  obtain ⟨b,off,cap,cc,T,fr,hve,hfn,hcell⟩:=yV h (yF hx)
  injection hve with q1 q2 q3
  subst q1 q3
  clear q2
  refine ze (zi (j:=i) rfl rfl rfl hlt) rfl ?_
  refine kW ?_
  refine ze (zq rfl hfn hcell) rfl ?_
  refine kW ?_
  rw [←Int.natCast_add,←hsu]
  refine zf (X:=Nat) (μ:=fun i=>l.length - i) (x:=i) (i+1) (by omega) ⟨by omega,by omega⟩ iS (fun w h=>h)
 ·obtain rfl:i=l.length:=by omega
  rw [List.take_length] at *
  refine cC rfl rfl hcc (fun r L' hp=>?_)
  have hsg:sgl l=false:=by rw [uU];simp;omega
  simp only [hsg,Bool.false_eq_true,or_false]
  rcases hp with ⟨h1,rfl,rfl⟩|⟨h1,p,C,rfl,rfl,hc⟩
  ·refine kW ?_
   refine zT (rs:=[.tmp 2,.tmp 3]) (vs:=[.pointer none,.int .i64 3]) rfl rfl ?_
   exact ⟨_,iC,.inl ⟨h1,rfl,rfl⟩⟩
  ·refine kW ?_
   refine kR ?_
   exact ⟨_,iC,.inr ⟨h1,p,C,rfl,rfl,hc⟩⟩
 ·obtain rfl:i=l.length:=by omega
  rw [List.take_length] at *
  have hsg:sgl l=true:=by rw [uU];simp;omega
  have hks:=Qr l
  have h0:=ZU h15 h4 (by omega)
  refine cC rfl rfl hnw (fun r L' hp=>?_)
  rcases hp with ⟨h1,_⟩|⟨_,p,C,rfl,rfl,hc⟩
  ·exact absurd h0 h1
  refine kW ?_
  refine kR ?_
  exact ⟨_,iC,.inr ⟨.inr hsg,p,C,rfl,rfl,hc⟩⟩
theorem zb0 (a a2:Option Addr) (c c2:Nat) (l dl:List Nat) (L:List Chunk) (h:Sl L 1 (.slice a l.length c) l.length (ivn l)) (h15:∀x∈l,x≤15) (h4:l.length≤400) (hd:Sl L 1 (.slice a2 dl.length c2) dl.length (ivn dl)) (hd15:∀x∈dl,x≤15) (hd4:dl.length≤400) :
 Gv Tryz.prog 222 [.slice a l.length c,.slice a2 dl.length c2].toArray L (fun r L'=>(¬(kS l=32768∧(kS dl=32768∨sgl dl=true))∧r=.tuple #[.pointer none,.int .i64 3]∧L'=L)∨
  ((kS l=32768∧(kS dl=32768∨sgl dl=true))∧∃p pl pd Cl Cd,r=.tuple #[.pointer (some ⟨p,0,none⟩),.int .i64 0]∧L'=csC p pl pd::Cl::Cd::L∧CoD l pl Cl∧CoD dl pd Cd)):=by
 refine Gv.of_body Tryz.func222 rfl rfl ?_
 have hcc:=Ze a c l L h h15 h4
 refine kW ?_
 refine cC rfl rfl hcc (fun r L' hp=>?_)
 rcases hp with ⟨h1,rfl,rfl⟩|⟨h1,pl,Cl,rfl,rfl,hcl⟩
 ·refine kW ?_
  refine zT (rs:=[.tmp 4,.tmp 5]) (vs:=[.pointer none,.int .i64 3]) rfl rfl ?_
  exact ⟨_,iC,.inl ⟨fun hh=>h1 hh.1,rfl,rfl⟩⟩
 have hdc:=zaS a2 c2 dl (Cl::L) (zm hd) hd15 hd4
 refine kW ?_
 refine cC rfl rfl hdc (fun r L' hp=>?_)
 rcases hp with ⟨h2,rfl,rfl⟩|⟨h2,pd,Cd,rfl,rfl,hcd⟩
 ·refine kW ?_
  refine zT (rs:=[.tmp 4,.tmp 5]) (vs:=[.pointer none,.int .i64 3]) rfl rfl ?_
  exact ⟨_,iC,.inl ⟨fun hh=>h2 hh.2,rfl,rfl⟩⟩
 (refine kW ?_;refine kU fun bk=>?_;refine kW ?_)
 refine zT (rs:=[.tmp 4,.tmp 5]) (vs:=[.pointer (some ⟨bk,0,none⟩),.int .i64 0]) rfl rfl ?_
 exact ⟨csC bk pl pd::Cl::Cd::L,iC,.inr ⟨⟨h1,h2⟩,bk,pl,pd,Cl,Cd,rfl,rfl,hcl,hcd⟩⟩
omit [W0] in
def KnD (kn:Value) (K:Chunk):Prop:=(kn=.pointer none∧K=[])∨∃pk pl pd Cl Cd,kn=.pointer (some ⟨pk,0,none⟩)∧K=csC pk pl pd++(Cl++Cd)∧CoD fxL pl Cl∧CoD fxD pd Cd
theorem KnD.one {kn:Value} {K:Chunk} (h:KnD kn K):kn.oneCell'=true:=by
 rcases h with ⟨rfl,_⟩|⟨pk,_,_,_,_,rfl,_⟩<;>rfl
theorem zjV:∀x∈fxL,x≤15:=by decide
theorem zjT:∀x∈fxD,x≤15:=by decide
theorem zjW:kS fxL=32768:=by decide
theorem zjU:kS fxD=32768:=by decide
theorem zgM:fxL.length=288:=by decide
theorem zgL:fxD.length=32:=by decide
theorem zk0 (p q most:Nat) (v kn:Value) (d:List UInt8) (s:S6) (D E C K:Chunk) (L:List Chunk) (h:RdN q d s.t D E) (hl:d.length≤140737488355328) (he:s.e=0) (hm:most≤1000000) (hkn:KnD kn K)
 (ho:Ow 5 1 v s.out.length (bsv s.out) C) (hom:s.out.length≤most) :
 Gv Tryz.prog 180 [.pointer (some ⟨p,0,none⟩)].toArray (rdR p q v most kn::D::E::C::K::L) (fun r L'=>
  ((cdC d most fxL fxD (8 * d.length+1) s).e≠0∧r=.int .i64 ((cdC d most fxL fxD (8 * d.length+1) s).e:Int)∧L'=L)∨
  ((cdC d most fxL fxD (8 * d.length+1) s).e=0∧r=.int .i64 0∧∃v' D' C' kn' K',KnD kn' K'∧Ow 5 1 v' (cdC d most fxL fxD (8 * d.length+1) s).out.length (bsv (cdC d most fxL fxD (8 * d.length+1) s).out) C'∧(cdC d most fxL fxD (8 * d.length+1) s).out.length≤most∧RdN q d (cdC d most fxL fxD (8 * d.length+1) s).t D' E∧
    L'=rdR p q v' most kn'::D'::E::C'::K'::L)):=by
 have hcd:=fun pc pl pd Cl Cd (hCl:CoD fxL pl Cl) (hCd:CoD fxD pd Cd)=>zey p q pc pl pd most v (.pointer (some ⟨pc,0,none⟩)) fxL fxD d s D E C Cl Cd L h hl he hm rfl ho hom hCl (by rw [zjW];decide) zjV (by decide) hCd (by rw [zjU];decide) zjT (by decide)
 generalize cdC d most fxL fxD (8 * d.length+1) s=R at hcd ⊢
 obtain ⟨va,vc,rfl⟩:=zM ho
 have hfin:∀(r:Value) (L':List Chunk) (pk pl pd:Nat) (Cl Cd:Chunk),CoD fxL pl Cl→CoD fxD pd Cd→((R.e≠0∧r=Value.int .i64 (R.e:Int)∧L'=L)∨(R.e=0∧r=.int .i64 0∧∃v' D' C',Ow 5 1 v' R.out.length (bsv R.out) C'∧R.out.length≤most∧RdN q d R.t D' E∧L'=rdR p q v' most (.pointer (some ⟨pk,0,none⟩))::D'::E::C'::csC pk pl pd::Cl::Cd::L))→
  ∃L2,(∀w,Holds w L'→Holds w L2)∧((R.e≠0∧r=Value.int .i64 (R.e:Int)∧L2=L)∨(R.e=0∧r=.int .i64 0∧∃v' D' C' kn' K',KnD kn' K'∧Ow 5 1 v' R.out.length (bsv R.out) C'∧R.out.length≤most∧RdN q d R.t D' E∧L2=rdR p q v' most kn'::D'::E::C'::K'::L)):=by
  intro r L' pk pl pd Cl Cd hCl hCd hp
  rcases hp with ⟨h1,rfl,e⟩|⟨h1,rfl,v',D',C',ho',hl',hr',rfl⟩
  ·exact ⟨L',fun w h=>h,.inl ⟨h1,rfl,e⟩⟩
  ·refine ⟨rdR p q v' most (.pointer (some ⟨pk,0,none⟩))::D'::E::C'::(csC pk pl pd++(Cl++Cd))::L,fun w h=>?_,.inr ⟨h1,rfl,v',D',C',_,_,.inr ⟨pk,pl,pd,Cl,Cd,rfl,rfl,hCl,hCd⟩,ho',hl',hr',rfl⟩⟩
   simpa [Holds,List.append_assoc] using h
 rcases hkn with ⟨rfl,rfl⟩|⟨pk,pl,pd,Cl,Cd,rfl,rfl,hCl,hCd⟩
 ·refine Gv.of_body Tryz.func180 rfl rfl ?_
  unfold rdR
  refine kW ?_
  refine cC rfl rfl (Yu _) (fun r L' hp=>?_)
  obtain ⟨u1,u2,C1,C2,rfl,rfl,o1,o2⟩:=hp
  obtain ⟨a1,c1,rfl⟩:=zM o1
  obtain ⟨a2,c2,rfl⟩:=zM o2
  refine kW ?_
  have hco:=zb0 a1 a2 c1 c2 fxL fxD (C2::C1::rdR p q (.slice va s.out.length vc) most (.pointer none)::D::E::C::[]::L) (by rw [zgM];exact zm (qy o1)) zjV (by decide) (by rw [zgL];exact qy o2) zjT (by decide)
  rw [zgM,zgL] at hco
  unfold rdR at hco
  refine cC rfl rfl hco (fun r L' hp=>?_)
  rcases hp with ⟨h1,_⟩|⟨_,pk,pl,pd,Cl,Cd,rfl,rfl,hCl,hCd⟩
  ·exact absurd ⟨zjW,.inl zjU⟩ h1
  have hcd:=hcd pk pl pd Cl Cd hCl hCd
  unfold rdR at hcd
  refine kW ?_
  refine cC rfl rfl (Gv.holds hcd (fun w h=>iH h)) (fun r L' hp=>?_)
  have hf:=hfin r L' pk pl pd Cl Cd hCl hCd hp
  obtain ⟨L2,hL2,hp2⟩:=hf
  refine kW ?_
  refine kH ?_
  exact ⟨L2,hL2,hp2⟩
 ·refine Gv.holds (L':=rdR p q (.slice va s.out.length vc) most (.pointer (some ⟨pk,0,none⟩))::D::E::C::csC pk pl pd::Cl::Cd::L) ?_ (fun w h=>by simpa [Holds,List.append_assoc] using h)
  refine Gv.of_body Tryz.func180 rfl rfl ?_
  have hcd:=hcd pk pl pd Cl Cd hCl hCd
  unfold rdR at hcd ⊢
  refine kW ?_
  refine cC rfl rfl hcd (fun r L' hp=>?_)
  have hf:=hfin r L' pk pl pd Cl Cd hCl hCd hp
  obtain ⟨L2,hL2,hp2⟩:=hf
  refine kW ?_
  refine kH ?_
  exact ⟨L2,hL2,hp2⟩
end Go.Proofs.YtfbfcapoobmdpaaGreatDoor
namespace Go.If
open Go.Vx Go.Hf
set_option linter.all false
def rpV (k:Nat) (l:List Nat):Nat:=if k=16 then l.getD (l.length - 1) 0 else if k=17∨k=18 then 0 else k
def rpS [W0] (d:List UInt8) (own:List Nat) (m:Nat) (s:S6) (l:List Nat):S6:=
 if (sy d s own).e≠0 then sy d s own
 else if (tk d (sy d s own) (rpB (sv d s own))).e≠0 then tk d (sy d s own) (rpB (sv d s own))
 else if (sv d s own=16∧l=[])∨m < l.length+(rpA (sv d s own)+tv d (sy d s own) (rpB (sv d s own))) then fl (tk d (sy d s own) (rpB (sv d s own))) 3
 else tk d (sy d s own) (rpB (sv d s own))
def rpL [W0] (d:List UInt8) (own:List Nat) (s:S6) (l:List Nat):List Nat:=l++List.replicate (rpA (sv d s own)+tv d (sy d s own) (rpB (sv d s own))) (rpV (sv d s own) l)
def lpS [W0] (d:List UInt8) (own:List Nat) (m:Nat):Nat→S6→List Nat→S6 × List Nat
 |0,s,l=>(s,l)
 |f+1,s,l=>if s.e=0∧l.length < m then (if (rpS d own m s l).e=0 then lpS d own m f (rpS d own m s l) (rpL d own s l) else (rpS d own m s l,l)) else (s,l)
def owS [W0] (d:List UInt8):Nat→Nat→S6→List Nat→S6 × List Nat
 |0,_,s,o=>(s,o)
 |k+1,i,s,o=>if (tk d s 3).e≠0 then (tk d s 3,o) else owS d k (i+1) (tk d s 3) (o.set (yY.getD i 0) (tv d s 3))
def lcS [W0] (d:List UInt8) (s:S6):S6 × List Nat:=
 if (tk d s 4).e≠0 then (tk d s 4,[])
 else if (owS d (4+tv d s 4) 0 (tk d s 4) (List.replicate 19 0)).1.e≠0 then owS d (4+tv d s 4) 0 (tk d s 4) (List.replicate 19 0)
 else if kS (owS d (4+tv d s 4) 0 (tk d s 4) (List.replicate 19 0)).2=32768 then owS d (4+tv d s 4) 0 (tk d s 4) (List.replicate 19 0)
 else (fl (owS d (4+tv d s 4) 0 (tk d s 4) (List.replicate 19 0)).1 3,[])
def dyK (n1:Nat) (q:S6 × List Nat):S6 × List Nat × Nat:=
 if q.2.getD 256 0≠0∧kS (q.2.take n1)=32768∧(kS (q.2.drop n1)=32768∨sgl (q.2.drop n1)=true) then (q.1,q.2,n1) else (fl q.1 3,[],0)
def dyT [W0] (d:List UInt8) (n1 n2:Nat) (s:S6):S6 × List Nat × Nat:=
 if (lcS d s).1.e≠0 then ((lcS d s).1,[],0)
 else if (lpS d (lcS d s).2 (n1+n2) (n1+n2) (lcS d s).1 []).1.e≠0 then ((lpS d (lcS d s).2 (n1+n2) (n1+n2) (lcS d s).1 []).1,[],0)
 else dyK n1 (lpS d (lcS d s).2 (n1+n2) (n1+n2) (lcS d s).1 [])
def dyS [W0] (d:List UInt8) (s:S6):S6 × List Nat × Nat:=
 if (tk d s 5).e≠0 then (tk d s 5,[],0)
 else if 29 < tv d s 5 then (fl (tk d s 5) 3,[],0)
 else if (tk d (tk d s 5) 5).e≠0 then (tk d (tk d s 5) 5,[],0)
 else if 29 < tv d (tk d s 5) 5 then (fl (tk d (tk d s 5) 5) 3,[],0)
 else dyT d (257+tv d s 5) (1+tv d (tk d s 5) 5) (tk d (tk d s 5) 5)
theorem fl3 {s:S6} (h:s.e=0) (k:Nat):(fl s k).e=k:=by rw [ZC,if_pos h]
theorem zex [W0] (d:List UInt8):∀k i s o,s.e=0→s.t≤8 * d.length→o.length=19→(∀x∈o,x≤7)→(owS d k i s o).2.length=19∧(∀x∈(owS d k i s o).2,x≤7)∧(owS d k i s o).1.out=s.out
 |0,i,s,o,he,ht,h1,h2=>⟨h1,h2,rfl⟩
 |k+1,i,s,o,he,ht,h1,h2=>by
  rw [owS]
  split
  ·exact ⟨h1,h2,yw _ _ _⟩
  ·rename_i h
   have h0:(tk d s 3).e=0:=by omega
   have hb:tv d s 3 < 2 ^ 3:=by
    unfold tv
    split
    ·exact Nat.mod_lt _ (by decide)
    ·decide
   have ht2:(tk d s 3).t≤8 * d.length:=by
    unfold tk
    split
    ·assumption
    ·rw [vU];exact ht
   have:=zex d k (i+1) (tk d s 3) (o.set (yY.getD i 0) (tv d s 3)) h0 ht2 (by rw [List.length_set];exact h1) (fun x hx=>by
    rcases List.mem_or_eq_of_mem_set hx with h|rfl
    ·exact h2 x h
    ·omega)
   exact ⟨this.1,this.2.1,by rw [this.2.2,yw]⟩
theorem zdv (k:Nat):1≤rpA k∧rpA k≤11:=by
 unfold rpA
 repeat' split
 all_goals omega
theorem zlk (k:Nat):rpB k≤7:=by
 unfold rpB
 repeat' split
 all_goals omega
end Go.If
namespace Go.Proofs.YtfbfcapoobmdpaaGreatDoor
open Go Go.Vx Go.Hf Go.If
variable [W0]
set_option maxRecDepth 4000
set_option linter.all false
theorem za9 (k:Nat) (a:Option Addr) (c:Nat) (l:List Nat) (L:List Chunk) (h:Sl L 1 (.slice a l.length c) l.length (ivn l)) (hk:k≤400) (hl:l.length≤1000) (h1:¬(k=16∧l=[])) :
 GvP Tryz.prog 273 [.int .i64 (k:Int),.slice a l.length c].toArray L (.int .i64 ((rpV k l:Nat):Int)):=by
 refine Gv.of_body Tryz.func273 rfl rfl ?_
 unfold rpV
 (repeat' first|refine kW ?_|refine kU fun bk=>?_|refine kV fun hc=>?_|refine kZ (fun hc=>?_) fun hc=>?_|fail)
 ·have h16:k=16:=by omega
  have hne:0 < l.length:=List.length_pos_iff.2 fun hh=>h1 ⟨h16,hh⟩
  rw [if_pos h16]
  obtain ⟨x,hx⟩:∃x,l[l.length - 1]? =some x:=⟨l[l.length - 1],List.getElem?_eq_getElem (by omega)⟩
  obtain ⟨b,off,cap,cc,T,fr,hve,hfn,hcell⟩:=yV h (yF hx)
  injection hve with q1 q2 q3
  subst q1 q3
  clear q2
  rw [show l.getD (l.length - 1) 0=x from by simp [List.getD,hx]]
  rw [show (l.length:Int) - 1=((l.length - 1:Nat):Int) from by omega]
  refine ze (zi (j:=l.length - 1) rfl rfl rfl (by omega)) rfl ?_
  refine kW ?_
  refine ze (zq rfl hfn hcell) rfl ?_
  refine kW ?_
  exact kE
 ·rw [if_neg (by omega),if_pos (by omega)]
  exact kE
 ·rw [if_neg (by omega),if_pos (by omega)]
  exact kE
 ·rw [if_neg (by omega),if_neg (by omega)]
  exact kE
theorem zpV (p q most k:Nat) (v kn:Value) (d:List UInt8) (s:S6) (D E:Chunk) (L:List Chunk) (h:RdN q d s.t D E) (hl:d.length≤140737488355328) (he:s.e=0) (hk:k≤400) :
 Gv Tryz.prog 272 [.pointer (some ⟨p,0,none⟩),.int .i64 (k:Int)].toArray (rdR p q v most kn::D::E::L) (fun r L'=>
  ((tk d s (rpB k)).e≠0∧r=.tuple #[.int .i64 0,.int .i64 ((tk d s (rpB k)).e:Int)]∧L'=L)∨
  ((tk d s (rpB k)).e=0∧r=.tuple #[.int .i64 ((rpA k+tv d s (rpB k):Nat):Int),.int .i64 0]∧∃D',RdN q d (tk d s (rpB k)).t D' E∧L'=rdR p q v most kn::D'::E::L)):=by
 refine Gv.of_body Tryz.func272 rfl rfl ?_
 have hb:rpA k≤11∧rpB k≤7:=by unfold rpA rpB;split<;>(try split)<;>(try split)<;>omega
 have hru:=zbp k (rdR p q v most kn::D::E::L) (by omega)
 have hpc:=ZH p q most (rpB k) (rpA k) v kn d s D E L h hl (by omega) he (by omega)
 generalize rpA k=ra at hb hru hpc ⊢
 generalize rpB k=rb at hb hru hpc ⊢
 generalize tv d s rb=z at hpc ⊢
 generalize tk d s rb=s1 at hpc ⊢
 refine kW ?_
 refine cP rfl rfl hru ?_
 refine kW ?_
 refine cC rfl rfl hpc (fun r L' hp=>?_)
 rcases hp with ⟨h1,rfl,rfl⟩|⟨h1,rfl,D',hr,rfl⟩
 ·refine kW ?_
  refine kR ?_
  exact ⟨_,iC,.inl ⟨h1,rfl,rfl⟩⟩
 ·refine kW ?_
  refine kR ?_
  exact ⟨_,iC,.inr ⟨h1,rfl,D',hr,rfl⟩⟩
theorem zdb (p q most:Nat) (v kn:Value) (d:List UInt8) (s:S6) (D E:Chunk) (L:List Chunk) (h:RdN q d s.t D E) (hl:d.length≤140737488355328) (he:s.e=0) (hor:qP L) :
 Gv Tryz.prog 271 [.pointer (some ⟨p,0,none⟩)].toArray (rdR p q v most kn::D::E::L) (fun r L'=>
  ((lcS d s).1.e≠0∧r=.tuple #[.pointer none,.int .i64 ((lcS d s).1.e:Int)]∧L'=L)∨
  ((lcS d s).1.e=0∧∃pc Co D',r=.tuple #[.pointer (some ⟨pc,0,none⟩),.int .i64 0]∧RdN q d (lcS d s).1.t D' E∧CoD (lcS d s).2 pc Co∧kS (lcS d s).2=32768∧(lcS d s).2.length=19∧(∀x∈(lcS d s).2,x≤7)∧(lcS d s).1.out=s.out∧L'=rdR p q v most kn::D'::E::Co::L)):=by
 refine Gv.of_body Tryz.func271 rfl rfl ?_
 have hc:=ZH p q most 4 4 v kn d s D E L h hl (by decide) he (by decide)
 have hto:=yw d s 4
 have htv:=wU d s 4
 have htt:(tk d s 4).e=0→(tk d s 4).t≤8 * d.length:=fun h0=>by
  unfold tk at h0 ⊢
  split
  ·assumption
  ·rw [vU];exact h.1
 unfold lcS
 generalize tv d s 4=n at hc htv ⊢
 generalize tk d s 4=s1 at hc hto htt ⊢
 refine kW ?_
 refine cC rfl rfl hc (fun r L' hp=>?_)
 rcases hp with ⟨h1,rfl,rfl⟩|⟨h1,rfl,D1,hr1,rfl⟩
 ·rw [if_pos h1]
  (refine kW ?_;refine kV fun hc=>?_;refine kW ?_)
  refine zT (rs:=[.tmp 2,.tmp 3]) (vs:=[.pointer none,.int .i64 (s1.e:Int)]) rfl rfl ?_
  exact ⟨_,iC,.inl ⟨h1,rfl,rfl⟩⟩
 rw [if_neg (show ¬s1.e≠0 by omega)]
 have hfa:=zex d (4+n) 0 s1 (List.replicate 19 0) h1 (htt h1) (by simp) (by simp)
 generalize hR:owS d (4+n) 0 s1 (List.replicate 19 0)=R at hfa ⊢
 rw [hto] at hfa
 refine kW ?_
 refine zJ (m:=19) (c:=19) rfl rfl (by rfl) (by omega) (by omega) (by omega) rfl (fun b=>?_)
 rw [yN]
 refine kW ?_
 unfold rdR
 refine zn (X:=Nat × S6 × List Nat × Chunk) (fun x=>[(0,.pointer (some ⟨p,0,none⟩)),(6,.slice (some ⟨b,0,none⟩) 19 19),(19,.int .i64 ((4+n:Nat):Int)),(20,.int .i64 (x.1:Int))]) (fun x=>[(b,cl (ivn x.2.2.1) 3)]::rdR p q v most kn::x.2.2.2::E::L)
  (fun x=>x.1≤4+n∧x.2.1.e=0∧RdN q d x.2.1.t x.2.2.2 E∧x.2.2.1.length=19∧owS d (4+n - x.1) x.1 x.2.1 x.2.2.1=R) (fun x=>4+n - x.1) (0,s1,List.replicate 19 0,D1) ⟨Nat.zero_le _,h1,hr1,by simp,hR⟩ iS (fun w h=>h) ?_
 rintro ⟨i,s5,o,D5⟩ ⟨hi,he5,hr5,hol,hsl⟩
 simp only at hi he5 hr5 hol hsl ⊢
 (repeat' first|refine kW ?_|refine kU fun bk=>?_|refine kV fun hc=>?_|refine kZ (fun hc=>?_) fun hc=>?_|fail)
 ·obtain ⟨k2,hk2⟩:∃k2,4+n - i=k2+1:=⟨4+n - i - 1,by omega⟩
  have hk3:4+n - (i+1)=k2:=by omega
  have htk:=Y7 p q most 3 v kn d s5 D5 E ([(b,cl (ivn o) 3)]::L) hr5 hl (by decide) he5
  rw [hk2,owS] at hsl
  generalize tv d s5 3=z at htk hsl
  generalize tk d s5 3=s6 at htk hsl
  refine cC rfl rfl (Gv.holds htk (fun w h=>iH h)) (fun r L' hp=>?_)
  rcases hp with ⟨h6,rfl,rfl⟩|⟨h6,rfl,D6,hr6,rfl⟩
  ·rw [if_pos h6] at hsl
   subst hsl
   rw [if_pos (by exact h6)]
   (refine kW ?_;refine kV fun hc=>?_;refine kW ?_)
   refine zT (rs:=[.tmp 2,.tmp 3]) (vs:=[.pointer none,.int .i64 (s6.e:Int)]) rfl rfl ?_
   exact ⟨_,iC,.inl ⟨h6,rfl,rfl⟩⟩
  rw [if_neg (show ¬s6.e≠0 by omega)] at hsl
  have ho19:yY.getD i 0 < 19:=by
   have:∀j,j < 19→yY.getD j 0 < 19:=by decide
   exact this i (by omega)
  have hord:=zbo i ([(b,cl (ivn o) 3)]::rdR p q v most kn::D6::E::L) hor.there.there.there.there (by omega)
  unfold rdR at hord
  generalize yY.getD i 0=oi at hsl ho19 hord
  refine kW ?_
  refine cP rfl rfl (GvP.of hord iC iC) ?_
  refine kW ?_
  refine ze (zi (j:=oi) rfl rfl rfl (by omega)) rfl ?_
  refine kW ?_
  have hse:(ivn o).set (0+oi * 1) (.int .i64 (z:Int))=ivn (o.set oi z):=by simp [ivn,List.map_set]
  refine zG (ivn (o.set oi z)) rfl rfl rfl hse iU (by rw [zC];omega) ?_
  refine kW ?_
  refine zf (X:=Nat × S6 × List Nat × Chunk) (μ:=fun x=>4+n - x.1) (x:=(i,s5,o,D5)) (i+1,s6,o.set oi z,D6) (by simp only;omega) ⟨by simp only;omega,h6,hr6,by simp only [List.length_set];exact hol,by simp only;rw [hk3];exact hsl⟩ iS (fun w h=>iH h)
 ·obtain rfl:i=4+n:=by omega
  rw [show 4+n - (4+n)=0 from by omega,owS] at hsl
  subst hsl
  simp only at hfa
  rw [if_neg (show ¬(s5,o).1.e≠0 from fun hh=>hh he5)]
  have hcc:=Ze (some ⟨b,0,none⟩) 19 o ([(b,cl (ivn o) 3)]::rdR p q v most kn::D5::E::L) (by rw [hol];exact zF (c:=(ivn o).toArray) Fnd.here (by rw [zC,hol]) (by simp)) (fun x hx=>by have:=hfa.2.1 x hx;omega) (by omega)
  rw [hol] at hcc
  unfold rdR at hcc
  refine cC rfl rfl hcc (fun r L' hp=>?_)
  rcases hp with ⟨h7,rfl,rfl⟩|⟨h7,pc,Co,rfl,rfl,hco⟩
  ·rw [if_neg (by exact h7)]
   simp only [fl3 he5]
   refine kW ?_
   refine kR ?_
   exact ⟨_,iC,.inl ⟨by decide,rfl,rfl⟩⟩
  ·rw [if_pos (by exact h7)]
   refine kW ?_
   refine kR ?_
   exact ⟨_,iC,.inr ⟨he5,pc,Co,D5,rfl,hr5,hco,h7,hfa.1,hfa.2.1,hfa.2.2,rfl⟩⟩
end Go.Proofs.YtfbfcapoobmdpaaGreatDoor
namespace Go.Hf
open Go.Vx
set_option linter.all false
theorem zhn {l:List Nat} (hl:0 < l.length) (w t z:Nat):∀f n,(rdS l w t z f n).1 < l.length
 |0,n=>by simpa [rdS] using hl
 |f+1,n=>by
  have ih:=zhn hl w t z f (n+1)
  unfold rdS
  split
  ·rename_i i h
   exact (zeY h).1
  ·split
   ·exact hl
   ·split
    ·exact hl
    ·exact ih
end Go.Hf
namespace Go.If
open Go.Vx Go.Hf
set_option linter.all false
theorem zlN [W0] (d:List UInt8) (s:S6) {l:List Nat} (h:0 < l.length):sv d s l < l.length:=by
 unfold sv
 split
 ·exact zhn h _ _ _ _ _
 ·exact h
theorem zll {k:Nat} {l:List Nat} (hk:k < 19) (h:∀x∈l,x≤15):rpV k l≤15:=by
 unfold rpV
 split
 ·by_cases hl:l.length - 1 < l.length
  ·rw [show l.getD (l.length - 1) 0=l[l.length - 1] from by simp [List.getD,hl]]
   exact h _ (List.getElem_mem hl)
  ·rw [show l.getD (l.length - 1) 0=0 from by simp [List.getD,List.getElem?_eq_none (Nat.le_of_not_lt hl)]]
   omega
 ·split
  ·omega
  ·omega
def lgS [W0] (d:List UInt8) (m:Nat) (s:S6):S6 × List Nat:=if (lcS d s).1.e≠0 then ((lcS d s).1,[]) else lpS d (lcS d s).2 m m (lcS d s).1 []
theorem zc0 [W0] (d:List UInt8) (n1 n2:Nat) (s:S6):dyT d n1 n2 s=if (lgS d (n1+n2) s).1.e≠0 then ((lgS d (n1+n2) s).1,[],0) else dyK n1 (lgS d (n1+n2) s):=by
 unfold dyT lgS
 by_cases h:(lcS d s).1.e≠0
 ·simp only [if_pos h]
 ·simp only [if_neg h]
end Go.If
namespace Go.Proofs.YtfbfcapoobmdpaaGreatDoor
open Go Go.Vx Go.Hf Go.If
variable [W0]
set_option maxRecDepth 4000
set_option linter.all false
theorem zfU (p q most m:Nat) (v kn:Value) (d:List UInt8) (s:S6) (D E:Chunk) (L:List Chunk) (h:RdN q d s.t D E) (hl:d.length≤140737488355328) (he:s.e=0) (hor:qP L) (hm:m≤400) :
 Gv Tryz.prog 253 [.pointer (some ⟨p,0,none⟩),.int .i64 (m:Int)].toArray (rdR p q v most kn::D::E::L) (fun r L'=>
  ((lgS d m s).1.e≠0∧r=.tuple #[.slice none 0 0,.int .i64 ((lgS d m s).1.e:Int)]∧L'=L)∨
  ((lgS d m s).1.e=0∧∃u Cq D',r=.tuple #[u,.int .i64 0]∧RdN q d (lgS d m s).1.t D' E∧Ow 3 1 u m (ivn (lgS d m s).2) Cq∧(lgS d m s).2.length=m∧(∀x∈(lgS d m s).2,x≤15)∧(lgS d m s).1.out=s.out∧L'=Cq::rdR p q v most kn::D'::E::L)):=by
 refine Gv.of_body Tryz.func253 rfl rfl ?_
 have hlc:=zdb p q most v kn d s D E L h hl he hor
 unfold lgS
 generalize lcS d s=S at hlc ⊢
 obtain ⟨S1,own⟩:=S
 simp only at hlc ⊢
 refine kW ?_
 refine cC rfl rfl hlc (fun r L' hp=>?_)
 rcases hp with ⟨h1,rfl,rfl⟩|⟨h1,pc,Co,D1,rfl,hr1,hco,hks,hol,ho7,hout,rfl⟩
 ·rw [if_pos h1]
  (refine kW ?_;refine kV fun hc=>?_;refine kW ?_)
  refine zT (rs:=[.tmp 4,.tmp 5]) (vs:=[.slice none 0 0,.int .i64 (S1.e:Int)]) rfl rfl ?_
  exact ⟨_,iC,.inl ⟨h1,rfl,rfl⟩⟩
 rw [if_neg (show ¬S1.e≠0 by omega)]
 generalize hQ:lpS d own m m S1 []=Q
 obtain ⟨q1,q2⟩:=Q
 simp only
 unfold rdR
 refine kW ?_
 refine zn (X:=Nat × S6 × List Nat × Value × Chunk × Chunk) (fun x=>[(0,.pointer (some ⟨p,0,none⟩)),(1,.int .i64 (m:Int)),(6,.pointer (some ⟨pc,0,none⟩)),(8,x.2.2.2.1)]) (fun x=>x.2.2.2.2.1::rdR p q v most kn::x.2.2.2.2.2::E::Co::L)
  (fun x=>x.2.1.e=0∧x.2.2.1.length≤m∧m≤x.1+x.2.2.1.length∧(∀y∈x.2.2.1,y≤15)∧Ow 3 1 x.2.2.2.1 x.2.2.1.length (ivn x.2.2.1) x.2.2.2.2.1∧RdN q d x.2.1.t x.2.2.2.2.2 E∧x.2.1.out=S1.out∧lpS d own m x.1 x.2.1 x.2.2.1=(q1,q2)) (fun x=>x.1)
  (m,S1,[],.slice none 0 0,[],D1) ⟨h1,Nat.zero_le _,by simp,by simp,.inl ⟨rfl,rfl,rfl,rfl⟩,hr1,rfl,hQ⟩ iS (fun w h=>Holds.nil.2 h) ?_
 rintro ⟨f,s5,l,u,Cq,D5⟩ ⟨he5,hlm,hf,hl15,hou,hr5,hout5,hsl⟩
 simp only at he5 hlm hf hl15 hou hr5 hout5 hsl ⊢
 obtain ⟨ua,uc,rfl⟩:=zM hou
 unfold rdR
 (repeat' first|refine kW ?_|refine kU fun bk=>?_|refine kV fun hc=>?_|refine kZ (fun hc=>?_) fun hc=>?_|fail)
 ·have hlt:l.length < m:=by omega
  obtain ⟨g,rfl⟩:∃z,f=z+1:=⟨f - 1,by omega⟩
  rw [lpS,if_pos ⟨he5,hlt⟩] at hsl
  have hsy:=zfV q pc own d s5 D5 E Co (Cq::rdR p q v most kn::L) hr5 hl he5 hco (by omega) (fun x hx=>by have:=ho7 x hx;omega) (by omega)
  have hk19:=zlN d s5 (l:=own) (by omega)
  have hso:=zbt d s5 own
  unfold rpS rpL at hsl
  generalize sv d s5 own=k at hsy hk19 hsl
  generalize sy d s5 own=s6 at hsy hso hsl
  unfold rdR at hsy
  refine cC rfl rfl (Gv.holds hsy (fun w h=>iH h)) (fun r L' hp=>?_)
  obtain ⟨D6,rfl,hr6,rfl⟩:=hp
  (repeat' first|refine kW ?_|refine kU fun bk=>?_|refine kV fun hc=>?_|refine kZ (fun hc=>?_) fun hc=>?_|fail)
  ·have h6:s6.e≠0:=by omega
   rw [if_pos h6,if_neg h6] at hsl
   injection hsl with e1 e2
   subst e1 e2
   refine zT (rs:=[.tmp 4,.tmp 5]) (vs:=[.slice none 0 0,.int .i64 (s6.e:Int)]) rfl rfl ?_
   exact ⟨_,iC,.inl ⟨h6,rfl,rfl⟩⟩
  have h6:s6.e=0:=by omega
  rw [if_neg (show ¬s6.e≠0 by omega)] at hsl
  have hrun:=zpV p q most k v kn d s6 D6 E (Co::Cq::L) hr6 hl h6 (by omega)
  have hto:=yw d s6 (rpB k)
  have htv:=wU d s6 (rpB k)
  have hpw:2 ^ rpB k≤2 ^ 7:=Nat.pow_le_pow_right (by decide) (zlk k)
  have hra:=zdv k
  have hrv:=zll (l:=l) (k:=k) (by omega) hl15
  obtain ⟨n,hn⟩:∃n,n=rpA k+tv d s6 (rpB k):=⟨_,rfl⟩
  rw [←hn] at hrun hsl
  have hn1:1≤n∧n≤140:=by omega
  generalize tk d s6 (rpB k)=s7 at hrun hto hsl
  unfold rdR at hrun
  refine cC rfl rfl (Gv.holds hrun (fun w h=>iH h)) (fun r L' hp=>?_)
  rcases hp with ⟨h7,rfl,rfl⟩|⟨h7,rfl,D7,hr7,rfl⟩
  ·rw [if_pos h7,if_neg h7] at hsl
   injection hsl with e1 e2
   subst e1 e2
   (refine kW ?_;refine kV fun hc=>?_;refine kW ?_)
   refine zT (rs:=[.tmp 4,.tmp 5]) (vs:=[.slice none 0 0,.int .i64 (s7.e:Int)]) rfl rfl ?_
   exact ⟨_,iC,.inl ⟨h7,rfl,rfl⟩⟩
  rw [if_neg (show ¬s7.e≠0 by omega)] at hsl
  have hbad:(k=16∧l=[])∨m < l.length+n→q1.e=3:=by
   intro hb
   rw [if_pos hb,if_neg (by rw [fl3 h7];decide)] at hsl
   injection hsl with e1 e2
   rw [←e1,fl3 h7]
  have hne:l.length=0↔l=[]:=List.length_eq_zero_iff
  (repeat' first|refine kW ?_|refine kU fun bk=>?_|refine kV fun hc=>?_|refine kZ (fun hc=>?_) fun hc=>?_|fail)
  ·rw [hbad (.inl ⟨by omega,hne.1 (by omega)⟩)]
   refine zT (rs:=[.tmp 4,.tmp 5]) (vs:=[.slice none 0 0,.int .i64 3]) rfl rfl ?_
   exact ⟨_,iC,.inl ⟨by decide,rfl,rfl⟩⟩
  ·rw [hbad (.inr (by omega))]
   refine zT (rs:=[.tmp 4,.tmp 5]) (vs:=[.slice none 0 0,.int .i64 3]) rfl rfl ?_
   exact ⟨_,iC,.inl ⟨by decide,rfl,rfl⟩⟩
  ·have hg:¬((k=16∧l=[])∨m < l.length+n):=by
    rintro (⟨h1,h2⟩|h2)
    ·have:=hne.2 h2;omega
    ·omega
   rw [if_neg hg,if_pos h7] at hsl
   have hlo:=za9 k ua uc l (rdR p q v most kn::D7::E::Co::Cq::L) (zm (zm (zm (zm (qy hou))))) (by omega) (by omega) (fun hh=>hg (.inl hh))
   unfold rdR at hlo
   generalize rpV k l=rv at hlo hrv hsl
   refine cP rfl rfl hlo ?_
   refine kW ?_
   refine zl (cs:=[.int .i64 (rv:Int)]) rfl (by rfl) (by first|(simp [zA,patch,Value.cells,zeros];done)|(simp [zA,patch,Value.cells,zeros];rfl)) (by omega) rfl rfl (fun b=>?_)
   refine kW ?_
   refine cC rfl rfl (zbj b rv n _ Fnd.here hn1.1 (by omega)) (fun r L' hp=>?_)
   obtain ⟨Ct,rfl,hot⟩:=hp
   refine kW ?_
   refine zu rfl rfl hou (qy hot) (by repeat (first|exact Zip.here _|apply Zip.there)) rfl qM (by omega) (by simp [maxLen];omega) rfl (fun v' C' ho' _ _=>?_)
   rw [←X4] at ho'
   refine kW ?_
   refine zf (X:=Nat × S6 × List Nat × Value × Chunk × Chunk) (μ:=fun x=>x.1) (x:=(g+1,s5,l,.slice ua l.length uc,Cq,D5)) (g,s7,l++List.replicate n rv,v',C',D7) (by simp only;omega) ⟨h7,by simp;omega,by simp;omega,fun y hy=>?_,by simpa using ho',hr7,by rw [hto,hso,hout5],hsl⟩ iS (fun w h=>iH h)
   rcases List.mem_append.1 hy with hy|hy
   ·exact hl15 y hy
   ·rw [List.eq_of_mem_replicate hy];exact hrv
  ·rw [hbad (.inr (by omega))]
   refine zT (rs:=[.tmp 4,.tmp 5]) (vs:=[.slice none 0 0,.int .i64 3]) rfl rfl ?_
   exact ⟨_,iC,.inl ⟨by decide,rfl,rfl⟩⟩
  ·have hg:¬((k=16∧l=[])∨m < l.length+n):=by
    rintro (⟨h1,h2⟩|h2)
    ·have:=hne.2 h2;omega
    ·omega
   rw [if_neg hg,if_pos h7] at hsl
   have hlo:=za9 k ua uc l (rdR p q v most kn::D7::E::Co::Cq::L) (zm (zm (zm (zm (qy hou))))) (by omega) (by omega) (fun hh=>hg (.inl hh))
   unfold rdR at hlo
   generalize rpV k l=rv at hlo hrv hsl
   refine cP rfl rfl hlo ?_
   refine kW ?_
   refine zl (cs:=[.int .i64 (rv:Int)]) rfl (by rfl) (by first|(simp [zA,patch,Value.cells,zeros];done)|(simp [zA,patch,Value.cells,zeros];rfl)) (by omega) rfl rfl (fun b=>?_)
   refine kW ?_
   refine cC rfl rfl (zbj b rv n _ Fnd.here hn1.1 (by omega)) (fun r L' hp=>?_)
   obtain ⟨Ct,rfl,hot⟩:=hp
   refine kW ?_
   refine zu rfl rfl hou (qy hot) (by repeat (first|exact Zip.here _|apply Zip.there)) rfl qM (by omega) (by simp [maxLen];omega) rfl (fun v' C' ho' _ _=>?_)
   rw [←X4] at ho'
   refine kW ?_
   refine zf (X:=Nat × S6 × List Nat × Value × Chunk × Chunk) (μ:=fun x=>x.1) (x:=(g+1,s5,l,.slice ua l.length uc,Cq,D5)) (g,s7,l++List.replicate n rv,v',C',D7) (by simp only;omega) ⟨h7,by simp;omega,by simp;omega,fun y hy=>?_,by simpa using ho',hr7,by rw [hto,hso,hout5],hsl⟩ iS (fun w h=>iH h)
   rcases List.mem_append.1 hy with hy|hy
   ·exact hl15 y hy
   ·rw [List.eq_of_mem_replicate hy];exact hrv
 ·have hlt:l.length=m:=by omega
  have hq:lpS d own m f s5 l=(s5,l):=by
   cases f with
   |zero=>rfl
   |succ f=>rw [lpS,if_neg (fun hh=>by omega)]
  rw [hq] at hsl
  injection hsl with e1 e2
  subst e1 e2
  rw [hlt] at hou
  rw [hlt]
  refine kR ?_
  exact ⟨_,iC,.inr ⟨he5,_,Cq,D5,rfl,hr5,hou,(by first|exact hlt|rfl),hl15,by rw [hout5,hout],rfl⟩⟩
end Go.Proofs.YtfbfcapoobmdpaaGreatDoor
namespace Go.If
open Go.Vx Go.Hf
set_option linter.all false
def dbS [W0] (d:List UInt8) (most:Nat) (s:S6):S6:=
 if (dyS d s).1.e≠0 then (dyS d s).1 else cdC d most ((dyS d s).2.1.take (dyS d s).2.2) ((dyS d s).2.1.drop (dyS d s).2.2) (8 * d.length+1) (dyS d s).1
end Go.If
namespace Go.Proofs.YtfbfcapoobmdpaaGreatDoor
open Go Go.Vx Go.Hf Go.If
variable [W0]
set_option maxRecDepth 4000
set_option linter.all false
theorem zmS (p q most:Nat) (v kn:Value) (d:List UInt8) (s:S6) (D E:Chunk) (L:List Chunk) (h:RdN q d s.t D E) (hl:d.length≤140737488355328) (he:s.e=0) (hor:qP L) :
 Gv Tryz.prog 224 [.pointer (some ⟨p,0,none⟩)].toArray (rdR p q v most kn::D::E::L) (fun r L'=>
  ((dyS d s).1.e≠0∧r=.tuple #[.pointer none,.int .i64 ((dyS d s).1.e:Int)]∧L'=L)∨
  ((dyS d s).1.e=0∧∃pc pl pd Cl Cd D' l dl,r=.tuple #[.pointer (some ⟨pc,0,none⟩),.int .i64 0]∧l=(dyS d s).2.1.take (dyS d s).2.2∧dl=(dyS d s).2.1.drop (dyS d s).2.2∧RdN q d (dyS d s).1.t D' E∧CoD l pl Cl∧CoD dl pd Cd∧kS l≤32768∧(∀x∈l,x≤15)∧l.length≤400∧kS dl≤32768∧(∀x∈dl,x≤15)∧dl.length≤400∧
    (dyS d s).1.out=s.out∧L'=csC pc pl pd::Cl::Cd::rdR p q v most kn::D'::E::L)):=by
 refine Gv.of_body Tryz.func224 rfl rfl ?_
 have hc1:=ZH p q most 5 257 v kn d s D E L h hl (by decide) he (by decide)
 have htv:=wU d s 5
 have hto:=yw d s 5
 unfold dyS
 generalize tv d s 5=z1 at hc1 htv ⊢
 generalize tk d s 5=s1 at hc1 hto ⊢
 refine kW ?_
 refine cC rfl rfl hc1 (fun r L' hp=>?_)
 rcases hp with ⟨h1,rfl,rfl⟩|⟨h1,rfl,D1,hr1,rfl⟩
 ·rw [if_pos h1]
  (refine kW ?_;refine kV fun hc=>?_;refine kW ?_)
  refine zT (rs:=[.tmp 2,.tmp 3]) (vs:=[.pointer none,.int .i64 (s1.e:Int)]) rfl rfl ?_
  exact ⟨_,iC,.inl ⟨h1,rfl,rfl⟩⟩
 rw [if_neg (show ¬s1.e≠0 by omega)]
 have hc2:=ZH p q most 5 1 v kn d s1 D1 E L hr1 hl (by decide) h1 (by decide)
 have htv2:=wU d s1 5
 have hto2:=yw d s1 5
 generalize tv d s1 5=z2 at hc2 htv2 ⊢
 generalize tk d s1 5=s2 at hc2 hto2 ⊢
 (repeat' first|refine kW ?_|refine kU fun bk=>?_|refine kV fun hc=>?_|refine kZ (fun hc=>?_) fun hc=>?_|fail)
 ·rw [if_pos (show 29 < z1 by omega)]
  simp only [fl3 h1]
  refine zT (rs:=[.tmp 2,.tmp 3]) (vs:=[.pointer none,.int .i64 3]) rfl rfl ?_
  exact ⟨_,iC,.inl ⟨by decide,rfl,rfl⟩⟩
 rw [if_neg (show ¬29 < z1 by omega)]
 refine cC rfl rfl hc2 (fun r L' hp=>?_)
 rcases hp with ⟨h2,rfl,rfl⟩|⟨h2,rfl,D2,hr2,rfl⟩
 ·rw [if_pos h2]
  (refine kW ?_;refine kV fun hc=>?_;refine kW ?_)
  refine zT (rs:=[.tmp 2,.tmp 3]) (vs:=[.pointer none,.int .i64 (s2.e:Int)]) rfl rfl ?_
  exact ⟨_,iC,.inl ⟨h2,rfl,rfl⟩⟩
 rw [if_neg (show ¬s2.e≠0 by omega)]
 (repeat' first|refine kW ?_|refine kU fun bk=>?_|refine kV fun hc=>?_|refine kZ (fun hc=>?_) fun hc=>?_|fail)
 ·rw [if_pos (show 29 < z2 by omega)]
  simp only [fl3 h2]
  refine zT (rs:=[.tmp 2,.tmp 3]) (vs:=[.pointer none,.int .i64 3]) rfl rfl ?_
  exact ⟨_,iC,.inl ⟨by decide,rfl,rfl⟩⟩
 rw [if_neg (show ¬29 < z2 by omega),zc0]
 obtain ⟨n1,hn1⟩:∃n1,n1=257+z1:=⟨_,rfl⟩
 obtain ⟨n2,hn2⟩:∃n2,n2=1+z2:=⟨_,rfl⟩
 rw [←hn1,←hn2]
 have hle:=zfU p q most (n1+n2) v kn d s2 D2 E L hr2 hl h2 hor (by omega)
 generalize lgS d (n1+n2) s2=Q at hle ⊢
 obtain ⟨q1,q2⟩:=Q
 simp only at hle ⊢
 rw [←Int.natCast_add]
 refine cC rfl rfl hle (fun r L' hp=>?_)
 rcases hp with ⟨h3,rfl,rfl⟩|⟨h3,u,Cq,D3,rfl,hr3,hou,hql,hq15,hout,rfl⟩
 ·rw [if_pos h3]
  (refine kW ?_;refine kV fun hc=>?_;refine kW ?_)
  refine zT (rs:=[.tmp 2,.tmp 3]) (vs:=[.pointer none,.int .i64 (q1.e:Int)]) rfl rfl ?_
  exact ⟨_,iC,.inl ⟨h3,rfl,rfl⟩⟩
 rw [if_neg (show ¬q1.e≠0 by omega)]
 unfold dyK
 simp only
 have hov2:=hou
 rcases hov2 with ⟨_,h0,_⟩|⟨b,cap,rest,rfl,rfl,hxl,hrl,hmc,hcm⟩
 ·omega
 have hl4:∀x∈q2.take n1,x≤15:=fun x hx=>hq15 x (List.mem_of_mem_take hx)
 have hd4:∀x∈q2.drop n1,x≤15:=fun x hx=>hq15 x (List.mem_of_mem_drop hx)
 have hln:(q2.take n1).length=n1:=by simp;omega
 have hdn:(q2.drop n1).length=n2:=by simp;omega
 obtain ⟨x,hx⟩:∃x,q2[256]? =some x:=⟨q2[256],List.getElem?_eq_getElem (by omega)⟩
 have hcell:(ivn q2++rest).toArray[0+256 * 1]? =some (.int .i64 (x:Int)):=by
  have h5:=yF hx
  have h6:=(List.getElem?_eq_some_iff.1 h5).1
  rw [List.getElem?_toArray,List.getElem?_append_left (by simpa using h6)]
  simpa using h5
 rw [show q2.getD 256 0=x from by simp [List.getD,hx]]
 refine kW ?_
 refine ze (zi (j:=256) rfl rfl rfl (by omega)) rfl ?_
 refine kW ?_
 refine ze (zq rfl Fnd.here hcell) rfl ?_
 (repeat' first|refine kW ?_|refine kU fun bk=>?_|refine kV fun hc=>?_|refine kZ (fun hc=>?_) fun hc=>?_|fail)
 ·rw [if_neg (fun hh=>hh.1 (by omega))]
  simp only [fl3 h3]
  refine zT (rs:=[.tmp 2,.tmp 3]) (vs:=[.pointer none,.int .i64 3]) rfl rfl ?_
  exact ⟨_,iC,.inl ⟨by decide,rfl,rfl⟩⟩
 have hco:=zb0 (some ⟨b,0,none⟩) (some ⟨b,n1 * 1,none⟩) cap (cap - n1) (q2.take n1) (q2.drop n1) ([(b,cl (ivn q2++rest) 3)]::rdR p q v most kn::D3::E::L)
  (.inr ⟨_,_,by rw [hln],zK.cl' (l:=ivn q2++rest) Fnd.here (by
    rw [zC,hln];unfold cut ivn
    rw [List.drop_zero,List.take_append_of_le_length (by simp;omega),List.map_take]),by rw [zC];simp⟩) hl4 (by omega)
  (.inr ⟨_,_,by rw [hdn],zK.cl' (l:=ivn q2++rest) Fnd.here (by
    rw [zC,hdn];unfold cut ivn
    rw [List.drop_append_of_le_length (by simp;omega),List.take_append_of_le_length (by simp;omega),Nat.mul_one,←List.map_drop,←List.map_take,List.take_of_length_le (by omega)]),by rw [zC];simp⟩) hd4 (by omega)
 rw [hln,hdn] at hco
 refine yQ [] [] mixed ?_
 (refine za 0 ?_;refine za 1 ?_)
 refine cT 2 rfl rfl (qE (h:=n1) rfl rfl rfl (by omega)) ?_
 (refine za 3 ?_;refine za 4 ?_)
 refine cT 5 rfl rfl (yx (l:=n1) (h:=n1+n2) rfl rfl rfl (by omega) (by omega) (by omega)) ?_
 rw [show n1+n2 - n1=n2 from by omega]
 refine cI 6 rfl rfl ?_
 refine cC rfl rfl hco (fun r L' hp=>?_)
 rcases hp with ⟨h4,rfl,rfl⟩|⟨h4,pc,pl,pd,Cl,Cd,rfl,rfl,hcl,hcd⟩
 ·refine ⟨iC,?_⟩
  (refine za 7 ?_;refine za 8 ?_;refine za 9 ?_;refine za 10 ?_)
  refine cD ?_
  rw [if_neg (fun hh=>h4 hh.2)]
  simp only [fl3 h3]
  refine kW ?_
  refine kR ?_
  exact ⟨_,iC,.inl ⟨by decide,rfl,rfl⟩⟩
 ·refine ⟨iC,?_⟩
  (refine za 7 ?_;refine za 8 ?_;refine za 9 ?_;refine za 10 ?_)
  refine cD ?_
  rw [if_pos ⟨by omega,h4⟩]
  have hks:=Qr (q2.drop n1)
  have hkd:kS (q2.drop n1)≤32768:=by
   rcases h4.2 with h|h
   ·omega
   ·rw [uU] at h
    have:=of_decide_eq_true h
    omega
  have h41:=h4.1
  refine kW ?_
  refine kR ?_
  exact ⟨_,iC,.inr ⟨h3,pc,pl,pd,Cl,Cd,D3,_,_,rfl,rfl,rfl,hr3,hcl,hcd,(show kS (q2.take n1)≤32768 by omega),hl4,(show (q2.take n1).length≤400 by omega),hkd,hd4,(show (q2.drop n1).length≤400 by omega),by rw [hout,hto2,hto],rfl⟩⟩
theorem zfS (p q most:Nat) (v kn:Value) (d:List UInt8) (s:S6) (D E C:Chunk) (L:List Chunk) (h:RdN q d s.t D E) (hl:d.length≤140737488355328) (he:s.e=0) (hm:most≤1000000) (hkn:kn.oneCell'=true) (hor:qP L)
 (ho:Ow 5 1 v s.out.length (bsv s.out) C) (hom:s.out.length≤most) :
 Gv Tryz.prog 181 [.pointer (some ⟨p,0,none⟩)].toArray (rdR p q v most kn::D::E::C::L) (fun r L'=>
  ((dbS d most s).e≠0∧r=.int .i64 ((dbS d most s).e:Int)∧L'=L)∨
  ((dbS d most s).e=0∧r=.int .i64 0∧∃v' D' C',Ow 5 1 v' (dbS d most s).out.length (bsv (dbS d most s).out) C'∧(dbS d most s).out.length≤most∧RdN q d (dbS d most s).t D' E∧L'=rdR p q v' most kn::D'::E::C'::L)):=by
 refine Gv.of_body Tryz.func181 rfl rfl ?_
 have hco:=zmS p q most v kn d s D E (C::L) h hl he hor.there
 unfold dbS
 generalize dyS d s=Y at hco ⊢
 obtain ⟨s1,ly,ny⟩:=Y
 simp only at hco ⊢
 refine kW ?_
 refine cC rfl rfl hco (fun r L' hp=>?_)
 rcases hp with ⟨h1,rfl,rfl⟩|⟨h1,pc,pl,pd,Cl,Cd,D1,l,dl,rfl,rfl,rfl,hr1,hcl,hcd,hk1,h151,hl4,hk2,h152,hd4,hout,rfl⟩
 ·rw [if_pos h1]
  (refine kW ?_;refine kV fun hc=>?_;refine kW ?_)
  refine kR ?_
  exact ⟨_,iC,.inl ⟨h1,rfl,rfl⟩⟩
 rw [if_neg (show ¬s1.e≠0 by omega)]
 rw [←hout] at ho hom
 have hcd2:=zey p q pc pl pd most v kn (ly.take ny) (ly.drop ny) d s1 D1 E C Cl Cd L hr1 hl h1 hm hkn ho hom hcl hk1 h151 hl4 hcd hk2 h152 hd4
 generalize cdC d most (ly.take ny) (ly.drop ny) (8 * d.length+1) s1=R at hcd2 ⊢
 refine kW ?_
 refine cC rfl rfl (Gv.holds hcd2 (fun w h=>iH h)) (fun r L' hp=>?_)
 rcases hp with ⟨h2,rfl,rfl⟩|⟨h2,rfl,v',D',C',ho',hl',hr',rfl⟩
 ·refine kW ?_
  refine kR ?_
  exact ⟨_,iC,.inl ⟨h2,rfl,rfl⟩⟩
 ·refine kW ?_
  refine kR ?_
  exact ⟨_,iC,.inr ⟨h2,rfl,v',D',C',ho',hl',hr',rfl⟩⟩
end Go.Proofs.YtfbfcapoobmdpaaGreatDoor
namespace Go.If
open Go.Vx Go.Hf
set_option linter.all false
structure Le (a b:S6):Prop where
 t:a.t≤b.t
 o:a.out.length≤b.out.length
theorem Le.rfl' (a:S6):Le a a:=⟨Nat.le_refl _,Nat.le_refl _⟩
theorem Le.tr {a b c:S6} (h:Le a b) (h2:Le b c):Le a c:=⟨Nat.le_trans h.t h2.t,Nat.le_trans h.o h2.o⟩
theorem Xc (s:S6) (k:Nat):Le s (fl s k):=⟨by rw [vU];exact Nat.le_refl _,by rw [ql];exact Nat.le_refl _⟩
theorem YQ (d:List UInt8) (s:S6) (n:Nat):Le s (tk d s n):=⟨zqg d s n,by rw [yw];exact Nat.le_refl _⟩
theorem zlS [W0] (d:List UInt8) (s:S6) (l:List Nat):(sy d s l).out=s.out:=by
 unfold sy
 split
 ·exact ql _ _
 ·rfl
theorem zlR [W0] (d:List UInt8) (s:S6) (l:List Nat):Le s (sy d s l):=⟨zrc d s l,by rw [zlS];exact Nat.le_refl _⟩
theorem zk3 (most:Nat) (s:S6) (c:UInt8):Le s (pt most s c):=by
 by_cases h:s.out.length < most
 ·rw [Qa h];exact ⟨Nat.le_refl _,by simp⟩
 ·rw [zez (by omega)];exact Xc _ _
theorem zjw (most far:Nat):∀n s,Le s (cpL most far n s)
 |0,s=>Le.rfl' s
 |n+1,s=>by
  rw [cpL]
  split
  ·exact (zk3 _ _ _).tr (zjw most far n _)
  ·exact Le.rfl' s
theorem zpG [W0] (d:List UInt8) (most k:Nat) (dl:List Nat) (s:S6):Le s (mtS d most k dl s):=by
 unfold mtS
 have h1:=YQ d s (lnB k).2
 have h2:=zlR d (tk d s (lnB k).2) dl
 generalize tk d s (lnB k).2=s1 at h1 h2 ⊢
 have h3:=h1.tr h2
 split
 ·exact Xc _ _
 ·split
  ·exact h3
  ·split
   ·exact h3.tr (Xc _ _)
   ·unfold mtD
    refine h3.tr (Le.tr ?_ (zjw _ _ _ _))
    split
    ·exact (YQ _ _ _).tr (Xc _ _)
    ·exact YQ _ _ _
theorem zcQ [W0] (d:List UInt8) (most:Nat) (l dl:List Nat):∀f s,Le s (cdC d most l dl f s)
 |0,s=>Le.rfl' s
 |f+1,s=>by
  rw [cdC]
  have h:=zlR d s l
  split
  ·exact Le.rfl' s
  ·split
   ·exact h
   ·split
    ·exact h.tr ((zk3 _ _ _).tr (zcQ d most l dl f _))
    ·split
     ·exact h
     ·exact h.tr ((zpG _ _ _ _ _).tr (zcQ d most l dl f _))
theorem zlJ [W0] (d:List UInt8) (most:Nat):∀k s,Le s (stL d most k s)
 |0,s=>Le.rfl' s
 |k+1,s=>by
  rw [stL]
  have h:=YQ d s 8
  split
  ·refine Le.tr ?_ (zlJ d most k _)
   split
   ·exact h.tr (zk3 _ _ _)
   ·exact h
  ·exact Le.rfl' s
theorem zqa [W0] (d:List UInt8) (most:Nat) (s:S6):Le s (stS d most s):=by
 unfold stS
 simp only
 have h0:Le s ⟨8 * ((s.t+7) / 8),s.out,s.e⟩:=⟨by simp only;omega,Nat.le_refl _⟩
 have h1:=YQ d ⟨8 * ((s.t+7) / 8),s.out,s.e⟩ 16
 have h2:=YQ d (tk d ⟨8 * ((s.t+7) / 8),s.out,s.e⟩ 16) 16
 refine (h0.tr (h1.tr h2)).tr (Le.tr ?_ (zlJ d most _ _))
 split
 ·exact Le.rfl' _
 ·exact Xc _ _
theorem zp5 [W0] (d:List UInt8) (own:List Nat) (m:Nat) (s:S6) (l:List Nat):Le s (rpS d own m s l):=by
 unfold rpS
 have h1:=zlR d s own
 have h2:=h1.tr (YQ d (sy d s own) (rpB (sv d s own)))
 split
 ·exact h1
 ·split
  ·exact h2
  ·split
   ·exact h2.tr (Xc _ _)
   ·exact h2
theorem zkB [W0] (d:List UInt8) (own:List Nat) (m:Nat):∀f s l,Le s (lpS d own m f s l).1
 |0,s,l=>Le.rfl' s
 |f+1,s,l=>by
  rw [lpS]
  have h:=zp5 d own m s l
  split
  ·split
   ·exact h.tr (zkB d own m f _ _)
   ·exact h
  ·exact Le.rfl' s
theorem zkT [W0] (d:List UInt8):∀k i s o,Le s (owS d k i s o).1
 |0,i,s,o=>Le.rfl' s
 |k+1,i,s,o=>by
  rw [owS]
  have h:=YQ d s 3
  split
  ·exact h
  ·exact h.tr (zkT d k _ _ _)
theorem zpz [W0] (d:List UInt8) (s:S6):Le s (lcS d s).1:=by
 unfold lcS
 have h:=YQ d s 4
 have h2:=h.tr (zkT d (4+tv d s 4) 0 (tk d s 4) (List.replicate 19 0))
 split
 ·exact h
 ·split
  ·exact h2
  ·split
   ·exact h2
   ·exact h2.tr (Xc _ _)
theorem zpB [W0] (d:List UInt8) (m:Nat) (s:S6):Le s (lgS d m s).1:=by
 unfold lgS
 have h:=zpz d s
 split
 ·exact h
 ·exact h.tr (zkB _ _ _ _ _ _)
theorem zpn [W0] (d:List UInt8) (n1 n2:Nat) (s:S6):Le s (dyT d n1 n2 s).1:=by
 rw [zc0]
 have h:=zpB d (n1+n2) s
 split
 ·exact h
 ·unfold dyK
  split
  ·exact h
  ·exact h.tr (Xc _ _)
theorem zpm [W0] (d:List UInt8) (s:S6):Le s (dyS d s).1:=by
 unfold dyS
 have h1:=YQ d s 5
 have h2:=h1.tr (YQ d (tk d s 5) 5)
 repeat' split
 ·exact h1
 ·exact h1.tr (Xc _ _)
 ·exact h2
 ·exact h2.tr (Xc _ _)
 ·exact h2.tr (zpn _ _ _ _)
theorem zph [W0] (d:List UInt8) (most:Nat) (s:S6):Le s (dbS d most s):=by
 unfold dbS
 have h:=zpm d s
 split
 ·exact h
 ·exact h.tr (zcQ _ _ _ _ _ _)
def bkS [W0] (d:List UInt8) (most k:Nat) (s:S6):S6:=if k=0 then stS d most s else if k=1 then cdC d most fxL fxD (8 * d.length+1) s else dbS d most s
theorem zi4 [W0] (d:List UInt8) (most k:Nat) (s:S6):Le s (bkS d most k s):=by
 unfold bkS
 repeat' split
 ·exact zqa _ _ _
 ·exact zcQ _ _ _ _ _ _
 ·exact zph _ _ _
def rwS [W0] (d:List UInt8) (most:Nat):Nat→S6→S6
 |0,s=>s
 |f+1,s=>if (tk d s 3).e≠0 then tk d s 3
  else if 5 < tv d s 3 then fl (tk d s 3) 3
  else if (bkS d most (tv d s 3 / 2) (tk d s 3)).e≠0 then bkS d most (tv d s 3 / 2) (tk d s 3)
  else if tv d s 3 % 2=1 then bkS d most (tv d s 3 / 2) (tk d s 3)
  else rwS d most f (bkS d most (tv d s 3 / 2) (tk d s 3))
def yZ [W0] (d:List UInt8) (most:Nat):S6:=rwS d most (8 * d.length+1) ⟨0,[],0⟩
end Go.If
namespace Go.Vx
theorem Gv.monoD {P:Program} {L:List Chunk} {f:FuncId} {args:Array Value} {post post':Value→List Chunk→Prop} [W0] (h:Gv P f args L post) (hp:∀v L',post v L'→∃L'',(∀w,Holds w L'→Holds w L'')∧post' v L''):Gv P f args L post':=
 ⟨fun w hw=>(h.out w hw).mono fun _ _ he=>let ⟨v,L',h1,h2,h3⟩:=he;let ⟨L'',h4,h5⟩:=hp v L' h2;⟨v,L'',h1,h5,h4 _ h3⟩⟩
end Go.Vx
namespace Go.Proofs.YtfbfcapoobmdpaaGreatDoor
open Go Go.Vx Go.Hf Go.If
variable [W0]
set_option maxRecDepth 4000
set_option linter.all false
omit [W0] in
def knF:List Value:=[.func (.func 179) #[] #[],.func (.func 180) #[] #[],.func (.func 181) #[] #[]]
theorem znl (L:List Chunk):GvP Tryz.prog 130 #[] L (.agg knF.toArray):=by
 refine Gv.of_body (args:=[]) Tryz.func130 rfl rfl ?_
 (refine kW ?_;refine kU fun bk=>?_;refine kW ?_)
 refine ze (Yk (cs:=knF) rfl (by rfl) (by rfl)) rfl ?_
 refine kW ?_
 refine yC (L':=[(bk,cl [.nilFunc,.nilFunc,.nilFunc] 203)]::L) (fun w h=>h) ?_
 refine zo (l:=[.nilFunc,.nilFunc,.nilFunc]) (vs:=knF) knF rfl rfl (by rfl) (by rfl) (by rfl) iU (by decide) ?_
 refine kW ?_
 first
  |(refine zX (vs:=[.agg knF.toArray]) rfl (.agg ⟨by kernel_rfl,by kernel_rfl⟩ rfl (zK.cl' (vs:=knF) (by repeat (first|assumption|exact Fnd.here|refine Fnd.there ?_)) rfl) rfl .nil) ?_
    exact ⟨L,fun w h=>h.drop,rfl,rfl⟩)
  |(refine yE (vs:=[.agg knF.toArray]) rfl (.agg ⟨by kernel_rfl,by kernel_rfl⟩ rfl (zK.cl' (vs:=knF) (by repeat (first|assumption|exact Fnd.here|refine Fnd.there ?_)) rfl) rfl .nil) ?_
    exact ⟨L,fun w h=>h.drop,rfl,rfl⟩)
theorem zmF (k p q most:Nat) (v kn:Value) (d:List UInt8) (s:S6) (D E C K:Chunk) (L:List Chunk) (hk:k < 3) (h:RdN q d s.t D E) (hl:d.length≤140737488355328) (he:s.e=0) (hm:most≤1000000) (hkn:KnD kn K) (hor:qP L)
 (ho:Ow 5 1 v s.out.length (bsv s.out) C) (hom:s.out.length≤most):∃f,knF[k]? =some (.func (.func f) #[] #[])∧BD Tryz.prog f∧
 Gv Tryz.prog f [.pointer (some ⟨p,0,none⟩)].toArray (rdR p q v most kn::D::E::C::K::L) (fun r L'=>
  ((bkS d most k s).e≠0∧r=.int .i64 ((bkS d most k s).e:Int)∧L'=L)∨
  ((bkS d most k s).e=0∧r=.int .i64 0∧∃v' D' C' kn' K',KnD kn' K'∧Ow 5 1 v' (bkS d most k s).out.length (bsv (bkS d most k s).out) C'∧(bkS d most k s).out.length≤most∧RdN q d (bkS d most k s).t D' E∧
    L'=rdR p q v' most kn'::D'::E::C'::K'::L)):=by
 rcases (by omega:k=0∨k=1∨k=2) with rfl|rfl|rfl
 ·refine ⟨179,rfl,inferInstance,?_⟩
  refine Gv.monoD (Gv.holds (zij p q most v kn d s D E C (K::L) h hl he hm hkn.one ho hom) (fun w h=>h)) (fun r L' hp=>?_)
  rcases hp with ⟨h1,rfl,rfl⟩|⟨h1,rfl,v',D',C',ho',hl',hr',rfl⟩
  ·exact ⟨L,fun w h=>h.drop,.inl ⟨h1,rfl,rfl⟩⟩
  ·exact ⟨_,fun w h=>h,.inr ⟨h1,rfl,v',D',C',kn,K,hkn,ho',hl',hr',rfl⟩⟩
 ·refine ⟨180,rfl,inferInstance,?_⟩
  exact zk0 p q most v kn d s D E C K L h hl he hm hkn ho hom
 ·refine ⟨181,rfl,inferInstance,?_⟩
  refine Gv.monoD (zfS p q most v kn d s D E C (K::L) h hl he hm hkn.one hor.there ho hom) (fun r L' hp=>?_)
  rcases hp with ⟨h1,rfl,rfl⟩|⟨h1,rfl,v',D',C',ho',hl',hr',rfl⟩
  ·exact ⟨L,fun w h=>h.drop,.inl ⟨h1,rfl,rfl⟩⟩
  ·exact ⟨_,fun w h=>h,.inr ⟨h1,rfl,v',D',C',kn,K,hkn,ho',hl',hr',rfl⟩⟩
theorem zi6 (p q most:Nat) (v kn:Value) (d:List UInt8) (s:S6) (D E C K:Chunk) (L:List Chunk) (h:RdN q d s.t D E) (hl:d.length≤140737488355328) (he:s.e=0) (hm:most≤1000000) (hkn:KnD kn K) (hor:qP L)
 (ho:Ow 5 1 v s.out.length (bsv s.out) C) (hom:s.out.length≤most) :
 Gv Tryz.prog 91 [.pointer (some ⟨p,0,none⟩)].toArray (rdR p q v most kn::D::E::C::K::L) (fun r L'=>
  ((rwS d most (8 * d.length+1) s).e≠0∧r=.int .i64 ((rwS d most (8 * d.length+1) s).e:Int)∧L'=L)∨
  ((rwS d most (8 * d.length+1) s).e=0∧r=.int .i64 0∧∃v' D' C' kn',Ow 5 1 v' (rwS d most (8 * d.length+1) s).out.length (bsv (rwS d most (8 * d.length+1) s).out) C'∧(rwS d most (8 * d.length+1) s).out.length≤most∧RdN q d (rwS d most (8 * d.length+1) s).t D' E∧L'=rdR p q v' most kn'::D'::E::C'::L)):=by
 refine Gv.of_body Tryz.func91 rfl rfl ?_
 generalize hR:rwS d most (8 * d.length+1) s=R
 refine kW ?_
 refine cP rfl rfl (znl _) ?_
 (refine kW ?_;refine kU fun bk=>?_;refine kW ?_)
 obtain ⟨b3,hb3⟩:∃b3,b3=bk:=⟨_,rfl⟩
 rw [←hb3]
 refine yC (L':=[(b3,cl [.nilFunc,.nilFunc,.nilFunc] 203)]::rdR p q v most kn::D::E::C::K::L) (fun w h=>h) ?_
 clear hb3
 refine zo (l:=[.nilFunc,.nilFunc,.nilFunc]) (vs:=knF) knF rfl rfl (by rfl) (by rfl) (by rfl) iU (by decide) ?_
 refine kW ?_
 refine zn (X:=Nat × S6 × Bool × Value × Chunk × Chunk × Value × Chunk) (fun x=>[(0,.pointer (some ⟨p,0,none⟩)),(3,.pointer (some ⟨b3,0,none⟩)),(4,.bool x.2.2.1)])
  (fun x=>[(b3,cl knF 203)]::rdR p q x.2.2.2.1 most x.2.2.2.2.2.2.1::x.2.2.2.2.1::E::x.2.2.2.2.2.1::x.2.2.2.2.2.2.2::L)
  (fun x=>x.2.1.e=0∧RdN q d x.2.1.t x.2.2.2.2.1 E∧Ow 5 1 x.2.2.2.1 x.2.1.out.length (bsv x.2.1.out) x.2.2.2.2.2.1∧x.2.1.out.length≤most∧KnD x.2.2.2.2.2.2.1 x.2.2.2.2.2.2.2∧(x.2.2.1=false→8 * d.length < x.1+x.2.1.t∧rwS d most x.1 x.2.1=R)∧(x.2.2.1=true→x.2.1=R)) (fun x=>if x.2.2.1 then 0 else x.1+1)
  (8 * d.length+1,s,false,v,D,C,kn,K) ⟨he,h,ho,hom,hkn,fun _=>⟨by simp only;omega,hR⟩,fun hh=>by cases hh⟩ iS (fun w h=>h) ?_
 clear hR ho hom h
 rintro ⟨f,s1,bb,v1,D1,C1,kn1,K1⟩ ⟨he1,hr1,ho1,hl1,hk1,hf1,hf2⟩
 simp only at he1 hr1 ho1 hl1 hk1 hf1 hf2 ⊢
 cases bb with
 |true=>
  have hf2:=hf2 rfl
  subst hf2
  refine kW ?_
  refine kR ?_
  exact ⟨_,iC,.inr ⟨he1,rfl,v1,D1,C1,kn1,ho1,hl1,hr1,rfl⟩⟩
 |false=>
  obtain ⟨hf3,hsl⟩:=hf1 rfl
  clear hf1 hf2
  have ht1:=hr1.1
  obtain ⟨f,rfl⟩:∃g,f=g+1:=⟨f - 1,by omega⟩
  rw [rwS] at hsl
  have htk:=Y7 p q most 3 v1 kn1 d s1 D1 E (C1::K1::[(b3,cl knF 203)]::L) hr1 hl (by decide) he1
  have htv:=wU d s1 3
  have hto:=yw d s1 3
  have htt:(tk d s1 3).e=0→(tk d s1 3).t=s1.t+3:=fun h0=>by
   by_cases hc:s1.t+3≤8 * d.length
   ·rw [zhB hc]
   ·rw [Go.If.zby hc he1] at h0;cases h0
  generalize tv d s1 3=z at htk htv hsl
  generalize tk d s1 3=s2 at htk hto htt hsl
  rw [←hto] at ho1 hl1
  refine kW ?_
  refine cC rfl rfl (Gv.holds htk (fun w h=>iH h)) (fun r L' hp=>?_)
  rcases hp with ⟨h2,rfl,rfl⟩|⟨h2,rfl,D2,hr2,rfl⟩
  ·rw [if_pos h2] at hsl
   subst hsl
   (refine kW ?_;refine kV fun hc=>?_;refine kW ?_)
   refine kR ?_
   exact ⟨_,iC,.inl ⟨h2,rfl,rfl⟩⟩
  rw [if_neg (show ¬s2.e≠0 by omega)] at hsl
  have htt:=htt h2
  refine kW ?_
  refine ze (wZ rfl rfl (Qm (a:=z) (b:=1) (by omega) (by decide))) rfl ?_
  rw [Nat.and_one_is_mod]
  (repeat' first|refine kW ?_|refine kU fun bk=>?_|refine kV fun hc=>?_|refine kZ (fun hc=>?_) fun hc=>?_|fail)
  ·rw [if_pos (show 5 < z by omega)] at hsl
   have e3:R.e=3:=by rw [←hsl,fl3 h2]
   rw [e3]
   refine kR ?_
   exact ⟨_,iC,.inl ⟨by decide,rfl,rfl⟩⟩
  rw [if_neg (show ¬5 < z by omega)] at hsl
  have hle:=zi4 d most (z / 2) s2
  obtain ⟨fn,hfn,hbd,hbk⟩:=zmF (z / 2) p q most v1 kn1 d s2 D2 E C1 K1 ([(b3,cl knF 203)]::L) (by omega) hr2 hl h2 hm hk1 hor.there ho1 hl1
  generalize bkS d most (z / 2) s2=s3 at hsl hle hbk
  haveI:=hbd
  refine ze (zQ (z / 2) rfl rfl (by omega) (by omega)) rfl ?_
  refine kW ?_
  refine ze (zq (v:=.func (.func fn) #[] #[]) rfl (by exact Fnd.there (Fnd.there (Fnd.there (Fnd.there (Fnd.there Fnd.here))))) (by rw [Nat.zero_add,Nat.mul_one,List.getElem?_toArray];exact hfn)) rfl ?_
  refine kW ?_
  refine cC rfl rfl (Gv.holds hbk (fun w h=>iH h)) (fun r L' hp=>?_)
  rcases hp with ⟨h3,rfl,rfl⟩|⟨h3,rfl,v3,D3,C3,kn3,K3,hk3,ho3,hl3,hr3,rfl⟩
  ·rw [if_pos h3] at hsl
   subst hsl
   (refine kW ?_;refine kV fun hc=>?_;refine kW ?_)
   refine kR ?_
   exact ⟨_,iC,.inl ⟨h3,rfl,rfl⟩⟩
  rw [if_neg (show ¬s3.e≠0 by omega)] at hsl
  have hlt:=hle.t
  refine kW ?_
  refine zf (X:=Nat × S6 × Bool × Value × Chunk × Chunk × Value × Chunk) (μ:=fun x=>if x.2.2.1 then 0 else x.1+1) (x:=(f+1,s1,false,v1,D1,C1,kn1,K1)) (f,s3,((z % 2:Nat):Int) == 1,v3,D3,C3,kn3,K3) (by simp only [Bool.false_eq_true,if_false];split<;>omega) ⟨h3,hr3,ho3,hl3,hk3,fun hb=>?_,fun hb=>?_⟩ iS (fun w h=>iH h)
  ·have hb2:¬z % 2=1:=fun hh=>by simp only [hh] at hb;cases hb
   rw [if_neg hb2] at hsl
   exact ⟨by simp only;omega,hsl⟩
  ·have hb2:z % 2=1:=by
    simp only at hb
    have:=eq_of_beq hb
    omega
   rw [if_pos hb2] at hsl
   exact hsl
theorem zpU (a:Option Addr) (c:Nat) (d:List UInt8) (most:Int) (m:Nat) (L:List Chunk) (hv:Sl L 1 (.slice a d.length c) d.length (bsv d)) (hl:d.length≤140737488355328) (hm1:max most 0=(m:Int)) (hm:m≤1000000) (hor:qP L) :
 Gv Tryz.prog 58 [.slice a d.length c,.int .i64 most].toArray L (fun r L'=>
  ((yZ d m).e≠0∧r=.tuple #[.slice none 0 0,.int .i64 0,.int .i64 ((yZ d m).e:Int)]∧L'=L)∨
  ((yZ d m).e=0∧∃v C,r=.tuple #[v,.int .i64 (((yZ d m).t+7) / 8:Nat),.int .i64 0]∧Ow 5 1 v (yZ d m).out.length (bsv (yZ d m).out) C∧(yZ d m).out.length≤m∧(yZ d m).t≤8 * d.length∧L'=C::L)):=by
 refine Gv.of_body Tryz.func58 rfl rfl ?_
 refine kW ?_
 refine cC rfl rfl (zp3 d _ L hv hl) (fun r L' hp=>?_)
 obtain ⟨q,D,E,rfl,hr,rfl⟩:=hp
 (refine kW ?_;refine kU fun bk=>?_;refine kW ?_)
 rw [hm1]
 obtain ⟨p,hp⟩:∃p,p=bk:=⟨_,rfl⟩
 rw [←hp]
 clear hp
 refine yC (L':=rdR p q (.slice none 0 0) m (.pointer none)::D::E::[]::[]::L) (fun w h=>by
  have h':Holds w (rdR p q (.slice none 0 0) m (.pointer none)::D::E::L):=h
  simpa only [Holds,List.flatten_cons,List.nil_append] using h') ?_
 have hb:=zi6 p q m (.slice none 0 0) (.pointer none) d ⟨0,[],0⟩ D E [] [] L hr hl rfl hm (.inl ⟨rfl,rfl⟩) hor (.inl ⟨rfl,rfl,rfl,rfl⟩) (Nat.zero_le _)
 change Gv _ _ _ _ (fun r L'=>((yZ d m).e≠0∧r=.int .i64 ((yZ d m).e:Int)∧L'=L)∨((yZ d m).e=0∧r=.int .i64 0∧∃v' D' C' kn',Ow 5 1 v' (yZ d m).out.length (bsv (yZ d m).out) C'∧(yZ d m).out.length≤m∧RdN q d (yZ d m).t D' E∧L'=rdR p q v' m kn'::D'::E::C'::L)) at hb
 generalize yZ d m=R at hb ⊢
 refine cC rfl rfl hb (fun r L' hp=>?_)
 rcases hp with ⟨h1,rfl,rfl⟩|⟨h1,rfl,v1,D1,C1,kn1,ho1,hl1,hr1,rfl⟩
 ·(refine kW ?_;refine kV fun hc=>?_;refine kW ?_)
  refine zT (rs:=[.tmp 4,.tmp 5,.tmp 6]) (vs:=[.slice none 0 0,.int .i64 0,.int .i64 (R.e:Int)]) rfl rfl ?_
  exact ⟨_,iC,.inl ⟨h1,rfl,rfl⟩⟩
 ·obtain ⟨ht1,rv,rfl,hoE⟩:=hr1
  have hus:=zql q ((R.t+7) / 8) rv (.int .u64 ((val d / 2 ^ R.t % 2 ^ (8 * ((R.t+7) / 8) - R.t):Nat):Int)) (.int .i64 ((8 * ((R.t+7) / 8) - R.t:Nat):Int)) 201 (rdR p q v1 m kn1::[(q,cl (rdC rv d R.t ((R.t+7) / 8)) 201)]::E::C1::L) (by exact Fnd.there Fnd.here)
  generalize hn:(R.t+7) / 8=n at hus ⊢
  unfold rdR at hus ⊢
  refine kW ?_
  refine yQ [[(p,cl [.pointer (some ⟨q,0,none⟩),v1,.int .i64 (m:Int),kn1] 144)]] [] mixed ?_
  (refine za 0 ?_;refine za 1 ?_;refine za 2 ?_;refine za 3 ?_;refine za 4 ?_;refine za 5 ?_;refine za 6 ?_;refine za 7 ?_)
  refine cI 8 rfl rfl ?_
  refine cP rfl rfl hus ?_
  refine ⟨iC,?_⟩
  (refine za 9 ?_;refine za 10 ?_;refine za 11 ?_)
  refine cD ?_
  refine kW ?_
  refine zT (rs:=[.tmp 4,.tmp 5,.tmp 6]) (vs:=[v1,.int .i64 (n:Int),.int .i64 0]) rfl rfl ?_
  exact ⟨C1::L,iC,.inr ⟨h1,v1,C1,rfl,ho1,hl1,ht1,rfl⟩⟩
theorem zaq (l:List Nat):yg (icn l)=ivn l:=by simp [yg,icn,ivn]
omit [W0] in
def lpC (lp:Nat) (lv:Value):Chunk:=[(lp,cl [lv] 154)]
theorem ziu (p q lp most m:Nat) (v lv:Value) (a:Option Addr) (c:Nat) (own l:List Nat) (fa:Option Addr) (fc:Nat) (d:List UInt8) (s:S6) (Cl:Chunk) (L:List Chunk) (h:Sl L 1 (.slice a own.length c) own.length (yg (icn own))) (hok:cdE (icn own)=0) (hol:own.length=19)
 (hv:Sl L 1 (.slice fa d.length fc) d.length (bsv d)) (hl:d.length≤1000000) (ht:s.t≤8 * d.length) (he:s.e=0) (hlv:Ow 3 1 lv l.length (ivn l) Cl) (hlm:l.length≤m) (hm:m≤400) :
 Gv Tryz.prog 141 [.pointer (some ⟨p,0,none⟩),.slice a own.length c,.pointer (some ⟨lp,0,none⟩),.int .i64 (m:Int)].toArray (wkC p q v most s.e::biC q fa d.length fc s.t::lpC lp lv::Cl::L) (fun r L'=>
  ∃lv' Cl',r=.tuple #[]∧Ow 3 1 lv' (if (rpS d own m s l).e=0 then rpL d own s l else l).length (ivn (if (rpS d own m s l).e=0 then rpL d own s l else l)) Cl'∧L'=wkC p q v most (rpS d own m s l).e::biC q fa d.length fc (rpS d own m s l).t::lpC lp lv'::Cl'::L∧(rpS d own m s l).t≤8 * d.length):=by
 refine Gv.of_body Tryz.func141 rfl rfl ?_
 have hw1:∀v e (L:List Chunk),wkC p q v most e::L=[(p,cl [.pointer (some ⟨q,0,none⟩),v,.int .i64 (most:Int),.int .i64 (e:Int)] 153)]::L:=fun _ _ _=>rfl
 have hsy:=zgk p q most v a c (icn own) fa fc d s (lpC lp lv::Cl::L) (by rw [zL];exact zm (zm h)) hok (zm (zm hv)) (by omega) ht
 rw [zL,Zh] at hsy
 have hk19:=zlN d s (l:=own) (by omega)
 have hso:=zbt d s own
 unfold rpS rpL
 generalize sv d s own=k at hsy hk19 ⊢
 generalize sy d s own=s1 at hsy hso ⊢
 obtain ⟨la,lc,rfl⟩:=zM hlv
 refine kW ?_
 refine cC rfl rfl hsy (fun r L' hp=>?_)
 obtain ⟨rfl,rfl,hb1⟩:=hp
 rw [hw1]
 (repeat' first|refine kY ?_|refine kU fun bk=>?_|refine kV fun hc=>?_|refine kZ (fun hc=>?_) fun hc=>?_|fail)
 refine vg ?_
 refine vg ?_
 (repeat' first|refine kY ?_|refine kU fun bk=>?_|refine kV fun hc=>?_|refine kZ (fun hc=>?_) fun hc=>?_|fail)
 ·have h1:s1.e≠0:=by omega
  rw [if_pos h1,if_neg h1]
  refine kR ?_
  exact ⟨_,iC,_,Cl,rfl,hlv,rfl,hb1⟩
 have h1:s1.e=0:=by omega
 rw [if_neg (show ¬s1.e≠0 by omega)]
 refine vg ?_
 (repeat' first|refine kY ?_|refine kU fun bk=>?_|refine kV fun hc=>?_|refine kZ (fun hc=>?_) fun hc=>?_|fail)
 refine vg ?_
 (repeat' first|refine kY ?_|refine kU fun bk=>?_|refine kV fun hc=>?_|refine kZ (fun hc=>?_) fun hc=>?_|fail)
 have htk:=fun n hn=>wY p q most n v fa fc d s1 (lpC lp (.slice la l.length lc)::Cl::L) (zm (zm hv)) (by omega) hb1 hn
 have hpw:2 ^ rpB k≤2 ^ 7:=Nat.pow_le_pow_right (by decide) (zlk k)
 have htv:=wU d s1 (rpB k)
 have hra:=zdv k
 have hto:=yw d s1 (rpB k)
 obtain ⟨n,hn⟩:∃n,n=rpA k+tv d s1 (rpB k):=⟨_,rfl⟩
 rw [←hn]
 obtain ⟨s2,hs2⟩:∃s2,s2=tk d s1 (rpB k):=⟨_,rfl⟩
 rw [←hs2] at hto ⊢
 obtain ⟨s3,hs3⟩:∃s3,s3=if s2.e=0∧k=16∧l=[] then fl s2 3 else s2:=⟨_,rfl⟩
 have h3t:s3.t=s2.t:=by rw [hs3];split;exact vU _ _;rfl
 have h3e:s3.e=if s2.e=0∧k=16∧l=[] then 3 else s2.e:=by
  rw [hs3]
  split
  ·rename_i h;rw [ZC,if_pos h.1]
  ·rfl
 refine Zx (X:=Nat) (fun x=>[(0,.pointer (some ⟨p,0,none⟩)),(2,.pointer (some ⟨lp,0,none⟩)),(3,.int .i64 (m:Int)),(9,.int .i64 (x:Int)),(10,.int .i64 (n:Int))]) (fun _=>wkC p q v most s3.e::biC q fa d.length fc s3.t::lpC lp (.slice la l.length lc)::Cl::L) (fun x=>s3.t≤8 * d.length∧(s3.e=0→x=rpV k l)) ?_ ?_
 ·unfold lpC
  unfold lpC at htk
  (repeat' first|refine kW ?_|refine kU fun bk=>?_|refine kV fun hc=>?_|refine kZ (fun hc=>?_) fun hc=>?_|fail)
  ·obtain rfl:k=16:=by omega
   rw [show rpB 16=2 from rfl] at hs2 hn htv
   rw [show rpA 16=3 from rfl] at hn
   have ht2:=htk 2 (by decide)
   rw [←hs2] at ht2
   clear htk
   generalize tv d s1 2=z at ht2 hn htv
   refine cC rfl rfl (Gv.holds ht2 (fun w h=>iH h)) (fun r L' hp=>?_)
   obtain ⟨rfl,rfl,hb2⟩:=hp
   rw [hw1 v s2.e]
   (repeat' first|refine kW ?_|refine kU fun bk=>?_|refine kV fun hc=>?_|refine kZ (fun hc=>?_) fun hc=>?_|fail)
   ·have h2:s2.e=0:=by omega
    have hl0:l=[]:=List.length_eq_zero_iff.1 (by omega)
    have hf:=wN p q most 3 s2.e v (biC q fa d.length fc s2.t::[(lp,cl [.slice la l.length lc] 154)]::Cl::L)
    rw [if_pos h2] at hf
    rw [if_pos ⟨h2,rfl,hl0⟩] at h3e
    refine cC rfl rfl hf (fun r L' hp=>?_)
    obtain ⟨rfl,rfl⟩:=hp
    rw [hw1 v 3]
    refine kW ?_
    exact yA 16 ⟨by omega,fun hh=>by omega⟩ iS (fun w h=>by rw [h3e,h3t];exact h)
   ·have h2:s2.e=0:=by omega
    have hl0:¬l.length=0:=by omega
    rw [if_neg (fun hh=>hl0 (by rw [hh.2.2];rfl))] at hs3
    subst hs3
    have hov2:=hlv
    rcases hov2 with ⟨_,h0,_⟩|⟨b,cap,rest,hve,rfl,hxl,hrl,hmc,hcm⟩
    ·omega
    injection hve with q1 q2 q3
    subst q1 q3
    clear q2
    have hcell:(ivn l++rest).toArray[(l.length - 1) * 1]? =some (.int .i64 (l.getD (l.length - 1) 0:Int)):=by
     rw [Nat.mul_one]
     simpa using z8 (r:=rest) (yF (l:=l) (i:=l.length - 1) (n:=l.getD (l.length - 1) 0) (by simp [List.getD,show l.length - 1 < l.length from by omega]))
    refine zk [] mixed ?_
    (refine za 0 ?_;refine za 1 ?_;refine za 2 ?_;refine za 3 ?_;refine za 4 ?_;refine za 5 ?_;refine za 6 ?_;refine za 7 ?_)
    rw [show (l.length:Int) - 1=((l.length - 1:Nat):Int) from by omega]
    refine cT 8 rfl rfl (zh (j:=l.length - 1) (len:=l.length) rfl rfl rfl (by omega)) ?_
    refine cT 9 rfl rfl (zq rfl (by exact Fnd.there (Fnd.there (Fnd.there Fnd.here))) hcell) ?_
    (refine za 10 ?_)
    refine cD ?_
    refine kW ?_
    exact yA (l.getD (l.length - 1) 0) ⟨hb2,fun _=>by unfold rpV;rw [if_pos rfl]⟩ iS (fun w h=>h)
   ·have h2:¬s2.e=0:=by omega
    rw [if_neg (fun hh=>h2 hh.1)] at hs3
    subst hs3
    exact yA 16 ⟨hb2,fun hh=>absurd hh h2⟩ iS (fun w h=>h)
  ·obtain rfl:k=17:=by omega
   rw [show rpB 17=3 from rfl] at hs2 hn htv
   rw [show rpA 17=3 from rfl] at hn
   have ht2:=htk 3 (by decide)
   rw [←hs2] at ht2
   rw [if_neg (fun hh=>by omega)] at hs3
   subst hs3
   generalize tv d s1 3=z at ht2 hn htv
   refine cC rfl rfl (Gv.holds ht2 (fun w h=>iH h)) (fun r L' hp=>?_)
   obtain ⟨rfl,rfl,hb2⟩:=hp
   refine kW ?_
   exact yA 0 ⟨hb2,fun _=>rfl⟩ iS (fun w h=>h)
  ·obtain rfl:k=18:=by omega
   rw [show rpB 18=7 from rfl] at hs2 hn htv
   rw [show rpA 18=11 from rfl] at hn
   have ht2:=htk 7 (by decide)
   rw [←hs2] at ht2
   rw [if_neg (fun hh=>by omega)] at hs3
   subst hs3
   generalize tv d s1 7=z at ht2 hn htv
   refine cC rfl rfl (Gv.holds ht2 (fun w h=>iH h)) (fun r L' hp=>?_)
   obtain ⟨rfl,rfl,hb2⟩:=hp
   refine kW ?_
   exact yA 0 ⟨hb2,fun _=>rfl⟩ iS (fun w h=>h)
  ·have e1:rpB k=0:=by unfold rpB;rw [if_neg (by omega),if_neg (by omega),if_neg (by omega)]
   have e2:rpA k=1:=by unfold rpA;rw [if_neg (by omega),if_neg (by omega),if_neg (by omega)]
   rw [e1,zoa hb1] at hs2
   rw [e1,e2,zob] at hn
   rw [if_neg (fun hh=>by omega)] at hs3
   subst hs3 hs2 hn
   exact yA k ⟨hb1,fun _=>by unfold rpV;rw [if_neg (by omega),if_neg (by omega)]⟩ iS (fun w h=>h)
 ·rintro x ⟨hb3,hx⟩
  clear htk hs2 htv hsy
  obtain ⟨s4,hs4⟩:∃s4,s4=if s3.e=0∧m < l.length+n then fl s3 3 else s3:=⟨_,rfl⟩
  have h4t:s4.t=s3.t:=by rw [hs4];split;exact vU _ _;rfl
  have h4e:s4.e=if s3.e=0∧m < l.length+n then 3 else s3.e:=by
   rw [hs4]
   split
   ·rename_i h;rw [ZC,if_pos h.1]
   ·rfl
  have hR:(if s2.e≠0 then s2 else if k=16∧l=[]∨m < l.length+n then fl s2 3 else s2)=s4:=by
   by_cases h2:s2.e=0
   ·by_cases h16:k=16∧l=[]
    ·have e3:s3=fl s2 3:=by rw [hs3,if_pos ⟨h2,h16⟩]
     have e4:s3.e=3:=by rw [e3,ZC,if_pos h2]
     rw [hs4,if_neg (show ¬(s3.e=0∧m < l.length+n) from fun hh=>by omega),if_neg (show ¬s2.e≠0 from fun hh=>hh h2),if_pos (Or.inl h16),e3]
    ·have e3:s3=s2:=by rw [hs3,if_neg (fun hh=>h16 hh.2)]
     rw [hs4,e3,if_neg (show ¬s2.e≠0 from fun hh=>hh h2)]
     by_cases hm:m < l.length+n
     ·rw [if_pos (Or.inr hm),if_pos ⟨h2,hm⟩]
     ·rw [if_neg (show ¬(k=16∧l=[]∨m < l.length+n) from fun hh=>hh.elim (fun h=>h16 h) (fun h=>hm h)),if_neg (show ¬(s2.e=0∧m < l.length+n) from fun hh=>hm hh.2)]
   ·have e3:s3=s2:=by rw [hs3,if_neg (fun hh=>h2 hh.1)]
    rw [hs4,e3,if_pos h2,if_neg (show ¬(s2.e=0∧m < l.length+n) from fun hh=>h2 hh.1)]
  rw [hR]
  have h4x:s4.e=0→x=rpV k l∧l.length+n≤m:=by
   intro h0
   rw [h4e] at h0
   split at h0
   ·cases h0
   ·exact ⟨hx h0,by omega⟩
  clear hR hs3 hx h3e h3t hs4
  unfold lpC
  have hb4:s4.t≤8 * d.length:=by omega
  have hw2:wkC p q v most s3.e=[(p,cl [.pointer (some ⟨q,0,none⟩),v,.int .i64 (most:Int),.int .i64 (s3.e:Int)] 153)]:=rfl
  refine Zx (X:=Unit) (fun _=>[(0,.pointer (some ⟨p,0,none⟩)),(2,.pointer (some ⟨lp,0,none⟩)),(9,.int .i64 (x:Int)),(10,.int .i64 (n:Int))]) (fun _=>wkC p q v most s4.e::biC q fa d.length fc s4.t::[(lp,cl [.slice la l.length lc] 154)]::Cl::L) (fun _=>True) ?_ ?_
  ·have hf:=wN p q most 3 s3.e v (biC q fa d.length fc s3.t::[(lp,cl [.slice la l.length lc] 154)]::Cl::L)
   rw [h4t,h4e]
   rw [hw2]
   (repeat' first|refine kW ?_|refine kU fun bk=>?_|refine kV fun hc=>?_|refine kZ (fun hc=>?_) fun hc=>?_|fail)
   ·have h3:s3.e=0:=by omega
    rw [if_pos (show s3.e=0∧m < l.length+n by omega)]
    rw [if_pos h3] at hf
    refine cC rfl rfl hf (fun r L' hp=>?_)
    obtain ⟨rfl,rfl⟩:=hp
    refine kW ?_
    exact yA () trivial iS (fun w h=>h)
   ·rw [if_neg (show ¬(s3.e=0∧m < l.length+n) by omega)]
    exact yA () trivial iS (fun w h=>h)
   ·rw [if_neg (show ¬(s3.e=0∧m < l.length+n) by omega)]
    exact yA () trivial iS (fun w h=>h)
  intro _ _
  refine kW ?_
  refine zn (X:=Nat × Value × Chunk) (fun y=>[(0,.pointer (some ⟨p,0,none⟩)),(2,.pointer (some ⟨lp,0,none⟩)),(9,.int .i64 (x:Int)),(10,.int .i64 (n:Int)),(11,.int .i64 (y.1:Int))]) (fun y=>wkC p q v most s4.e::biC q fa d.length fc s4.t::[(lp,cl [y.2.1] 154)]::y.2.2::L)
   (fun y=>y.1≤n∧(s4.e≠0→y.1=0)∧Ow 3 1 y.2.1 (l.length+y.1) (ivn (l++List.replicate y.1 x)) y.2.2) (fun y=>n - y.1) (0,.slice la l.length lc,Cl) ⟨Nat.zero_le _,fun _=>rfl,by simpa using hlv⟩ iS (fun w h=>h) ?_
  rintro ⟨i,v1,C1⟩ ⟨hi,hz,hov⟩
  simp only at hi hz hov ⊢
  obtain ⟨wa,wc,rfl⟩:=zM hov
  unfold wkC
  (repeat' first|refine kW ?_|refine kU fun bk=>?_|refine kV fun hc=>?_|refine kZ (fun hc=>?_) fun hc=>?_|fail)
  ·have h4:s4.e=0:=by omega
   have hmx:=(h4x h4).2
   refine zl (cs:=[.int .i64 (x:Int)]) rfl (by rfl) (by first|(simp [zA,patch,Value.cells,zeros];done)|(simp [zA,patch,Value.cells,zeros];rfl)) (by omega) rfl rfl (fun bn=>?_)
   refine kW ?_
   refine zu rfl rfl hov (zF (k:=1) (c:=#[.int .i64 (x:Int)]) (xs:=[.int .i64 (x:Int)]) (m:=1) Fnd.here rfl (by simp)) (by repeat (first|exact Zip.here _|apply Zip.there)) rfl (by rfl) (by omega) (by simp [maxLen];omega) rfl (fun v' C' ho' _ _=>?_)
   refine kW ?_
   refine zG [v'] rfl rfl (by rcases ho' with ⟨rfl,_⟩|⟨_,_,_,rfl,_⟩<;>rfl) rfl iU (by simp) ?_
   refine kW ?_
   refine zf (X:=Nat × Value × Chunk) (μ:=fun y=>n - y.1) (x:=(i,.slice wa (l.length+i) wc,C1)) (i+1,v',C') (by simp only;omega) ⟨by simp only;omega,fun hh=>absurd h4 hh,?_⟩ iS (fun w h=>iH h)
   rw [List.replicate_succ',←List.append_assoc,X4 (l++List.replicate i x) [x]]
   exact ho'
  ·have h4:¬s4.e=0:=by omega
   obtain rfl:i=0:=hz h4
   rw [if_neg h4]
   refine kR ?_
   exact ⟨_,iC,_,C1,rfl,by simpa using hov,rfl,hb4⟩
  ·obtain rfl:i=n:=by omega
   refine kR ?_
   refine ⟨_,iC,_,C1,rfl,?_,rfl,hb4⟩
   by_cases h4:s4.e=0
   ·rw [if_pos h4,←(h4x h4).1]
    simpa using hov
   ·rw [if_neg h4]
    obtain rfl:i=0:=hz h4
    simpa using hov
end Go.Proofs.YtfbfcapoobmdpaaGreatDoor
namespace Go.If
open Go.Vx Go.Hf
set_option linter.all false
theorem zl2 [W0] {d:List UInt8} {s:S6} {n:Nat} (he:s.e=0) (h:(tk d s n).e≠0):tv d s n=0:=by
 unfold tv
 split
 ·rename_i hh
  unfold tk at h
  rw [if_pos hh] at h
  exact absurd he h
 ·rfl
theorem zlm [W0] {d:List UInt8} {own:List Nat} {m:Nat} {s:S6} {l:List Nat} (hol:own.length=19) (h15:∀x∈l,x≤15) (h:(rpS d own m s l).e=0) :
 l.length < (rpL d own s l).length∧(rpL d own s l).length≤m∧∀x∈rpL d own s l,x≤15:=by
 have hk:=zlN d s (l:=own) (by omega)
 unfold rpS at h
 unfold rpL
 generalize sv d s own=k at *
 generalize sy d s own=s1 at *
 have hra:=zdv k
 split at h
 ·exact absurd h (by assumption)
 ·split at h
  ·exact absurd h (by assumption)
  ·rename_i h1 h2
   split at h
   ·rw [ZC,if_pos (by omega)] at h;cases h
   ·rename_i h3
    refine ⟨by simp;omega,by simp;omega,fun x hx=>?_⟩
    rcases List.mem_append.1 hx with hx|hx
    ·exact h15 x hx
    ·rw [List.eq_of_mem_replicate hx];exact zll (by omega) h15
end Go.If
namespace Go.Proofs.YtfbfcapoobmdpaaGreatDoor
open Go Go.Vx Go.Hf Go.If
variable [W0]
set_option maxRecDepth 4000
set_option linter.all false
theorem iD {S L:List Chunk} (h:Inc S L:=by exact (by repeat (first|exact Inc.refl|exact Inc.nil|(show Inc (_::_) _;refine Inc.cons (by repeat (first|exact Take.here|apply Take.there)) ?_)|refine Inc.skip ?_))):Inc S L:=h
omit [W0] in
structure SlA (C:Chunk) (v:Value) (m:Nat) (xs:List Value):Prop where
 all:∀L,Sl (C::L) 1 v m xs
theorem zgj (p q most:Nat) (v:Value) (fa:Option Addr) (fc:Nat) (d:List UInt8) (s:S6) (L:List Chunk)
 (hv:Sl L 1 (.slice fa d.length fc) d.length (bsv d)) (hl:d.length≤1000000) (ht:s.t≤8 * d.length) (he:s.e=0) :
 Gv Tryz.prog 103 [.pointer (some ⟨p,0,none⟩)].toArray (wkC p q v most s.e::biC q fa d.length fc s.t::L) (fun r L'=>
  (dyS d s).1.t≤8 * d.length∧(((dyS d s).1.e≠0∧∃x y,r=.tuple #[x,y]∧L'=wkC p q v most (dyS d s).1.e::biC q fa d.length fc (dyS d s).1.t::L)∨
  ((dyS d s).1.e=0∧∃a1 c1 a2 c2 l dl Cl,r=.tuple #[.slice a1 l.length c1,.slice a2 dl.length c2]∧l=(dyS d s).2.1.take (dyS d s).2.2∧dl=(dyS d s).2.1.drop (dyS d s).2.2∧SlA Cl (.slice a1 l.length c1) l.length (yg (icn l))∧SlA Cl (.slice a2 dl.length c2) dl.length (yg (icn dl))∧cdE (icn l)=0∧cdE (icn dl)=0∧l.length≤400∧
    L'=wkC p q v most (dyS d s).1.e::biC q fa d.length fc (dyS d s).1.t::Cl::L))):=by
 refine Gv.of_body Tryz.func103 rfl rfl ?_
 have hw1:∀v e (L:List Chunk),wkC p q v most e::L=[(p,cl [.pointer (some ⟨q,0,none⟩),v,.int .i64 (most:Int),.int .i64 (e:Int)] 153)]::L:=fun _ _ _=>rfl
 have ht1:=wY p q most 5 v fa fc d s L hv (by omega) ht (by omega)
 have htv:=wU d s 5
 have hte:=zl2 (d:=d) (n:=5) he
 unfold dyS
 generalize tv d s 5=z1 at ht1 htv hte ⊢
 generalize tk d s 5=s1 at ht1 hte ⊢
 refine kW ?_
 refine cC rfl rfl ht1 (fun r L' hp=>?_)
 obtain ⟨rfl,rfl,hb1⟩:=hp
 by_cases h29:29 < z1
 ·have h1:s1.e=0:=by
   by_cases h0:s1.e=0
   ·exact h0
   ·have:=hte h0;omega
  rw [if_neg (show ¬s1.e≠0 by omega),if_pos h29]
  have hf:=wN p q most 3 s1.e v (biC q fa d.length fc s1.t::L)
  rw [if_pos h1] at hf
  (refine kW ?_;refine kV fun hc=>?_;refine kW ?_)
  refine cC rfl rfl hf (fun r L' hp=>?_)
  obtain ⟨rfl,rfl⟩:=hp
  rw [hw1]
  refine kW ?_
  simp only [fl3 h1,vU]
  refine kR ?_
  exact ⟨wkC p q v most 3::biC q fa d.length fc s1.t::L,iD,hb1,.inl ⟨by decide,_,_,rfl,rfl⟩⟩
 by_cases h1:s1.e≠0
 ·rw [if_pos h1,hw1]
  (refine kW ?_;refine kV fun hc=>?_;refine kW ?_;refine kV fun hc=>?_;refine kW ?_;refine kV fun hc=>?_;refine kW ?_)
  refine kR ?_
  exact ⟨wkC p q v most s1.e::biC q fa d.length fc s1.t::L,iD,hb1,.inl ⟨h1,_,_,rfl,rfl⟩⟩
 rw [if_neg h1,if_neg h29]
 have h1:s1.e=0:=by omega
 have ht2:=wY p q most 5 v fa fc d s1 L hv (by omega) hb1 (by omega)
 have htv2:=wU d s1 5
 have hte2:=zl2 (d:=d) (n:=5) h1
 generalize tv d s1 5=z2 at ht2 htv2 hte2 ⊢
 generalize tk d s1 5=s2 at ht2 hte2 ⊢
 rw [hw1 v s1.e]
 (refine kW ?_;refine kV fun hc=>?_;refine kW ?_;refine kV fun hc=>?_;refine kW ?_)
 refine cC rfl rfl (Gv.holds ht2 (fun w h=>h)) (fun r L' hp=>?_)
 obtain ⟨rfl,rfl,hb2⟩:=hp
 by_cases h29b:29 < z2
 ·have h2:s2.e=0:=by
   by_cases h0:s2.e=0
   ·exact h0
   ·have:=hte2 h0;omega
  rw [if_neg (show ¬s2.e≠0 by omega),if_pos h29b]
  have hf:=wN p q most 3 s2.e v (biC q fa d.length fc s2.t::L)
  rw [if_pos h2] at hf
  (refine kW ?_;refine kV fun hc=>?_;refine kW ?_)
  refine cC rfl rfl hf (fun r L' hp=>?_)
  obtain ⟨rfl,rfl⟩:=hp
  rw [hw1]
  refine kW ?_
  simp only [fl3 h2,vU]
  refine kR ?_
  exact ⟨wkC p q v most 3::biC q fa d.length fc s2.t::L,iD,hb2,.inl ⟨by decide,_,_,rfl,rfl⟩⟩
 by_cases h2:s2.e≠0
 ·rw [if_pos h2,hw1]
  (refine kW ?_;refine kV fun hc=>?_;refine kW ?_;refine kV fun hc=>?_;refine kW ?_)
  refine kR ?_
  exact ⟨wkC p q v most s2.e::biC q fa d.length fc s2.t::L,iD,hb2,.inl ⟨h2,_,_,rfl,rfl⟩⟩
 rw [if_neg h2,if_neg h29b,zc0]
 have h2:s2.e=0:=by omega
 obtain ⟨n1,hn1⟩:∃n1,n1=257+z1:=⟨_,rfl⟩
 obtain ⟨n2,hn2⟩:∃n2,n2=1+z2:=⟨_,rfl⟩
 rw [←hn1,←hn2]
 rw [hw1 v s2.e]
 (refine kW ?_;refine kV fun hc=>?_;refine kW ?_;refine kV fun hc=>?_;refine kW ?_)
 refine zl (cs:=ivn yY) rfl (by rfl) (by kernel_rfl) (by omega) rfl rfl (fun bo=>?_)
 refine kW ?_
 refine zJ (m:=19) (c:=19) rfl rfl (by rfl) (by omega) (by omega) (by omega) rfl (fun b=>?_)
 rw [yN]
 generalize hOL:ivn yY=OL
 obtain ⟨o0,ho0⟩:∃o0,o0=List.replicate 19 0:=⟨_,rfl⟩
 rw [←ho0]
 have ho0l:o0.length=19:=by rw [ho0];simp
 have ho07:∀y∈o0,y≤7:=by rw [ho0];simp
 refine kW ?_
 have ht3:=wY p q most 4 v fa fc d s2 ([(b,cl (ivn o0) 3)]::[(bo,cl OL 3)]::L) (zm (zm hv)) (by omega) hb2 (by omega)
 have htv3:=wU d s2 4
 obtain ⟨LC,hLC⟩:∃LC,LC=lcS d s2:=⟨_,rfl⟩
 have hlg:lgS d (n1+n2) s2=if LC.1.e≠0 then (LC.1,[]) else lpS d LC.2 (n1+n2) (n1+n2) LC.1 []:=by rw [hLC];rfl
 rw [hlg]
 clear hlg
 obtain ⟨LG,hLG⟩:∃LG,LG=if LC.1.e≠0 then (LC.1,[]) else lpS d LC.2 (n1+n2) (n1+n2) LC.1 []:=⟨_,rfl⟩
 rw [←hLG]
 obtain ⟨Y,hY⟩:∃Y,Y=if LG.1.e≠0 then (LG.1,[],0) else dyK n1 LG:=⟨_,rfl⟩
 rw [←hY]
 unfold lcS at hLC
 rw [←ho0] at hLC
 clear ho0
 generalize tv d s2 4=z at ht3 htv3 hLC
 generalize tk d s2 4=s3 at ht3 hLC
 refine cC rfl rfl (Gv.holds ht3 (fun w h=>iH h)) (fun r L' hp=>?_)
 obtain ⟨rfl,rfl,hb3⟩:=hp
 rw [hw1 v s3.e]
 refine kW ?_
 refine zn (X:=Nat × S6 × List Nat) (fun x=>[(0,.pointer (some ⟨p,0,none⟩)),(4,.int .i64 (n1:Int)),(5,.int .i64 (n2:Int)),(6,.slice (some ⟨bo,0,none⟩) 19 19),(7,.slice (some ⟨b,0,none⟩) 19 19),(8,.int .i64 ((4+z:Nat):Int)),(9,.int .i64 (x.1:Int))])
  (fun x=>wkC p q v most x.2.1.e::biC q fa d.length fc x.2.1.t::[(b,cl (ivn x.2.2) 3)]::[(bo,cl OL 3)]::L)
  (fun x=>x.1≤4+z∧x.2.1.t≤8 * d.length∧x.2.2.length=19∧(∀y∈x.2.2,y≤7)∧(x.2.1.e=0→s3.e=0∧owS d (4+z - x.1) x.1 x.2.1 x.2.2=owS d (4+z) 0 s3 o0)∧(x.2.1.e≠0→LC.1=x.2.1)) (fun x=>4+z - x.1) (0,s3,o0)
  ⟨Nat.zero_le _,hb3,ho0l,ho07,fun h=>⟨h,rfl⟩,fun h=>by rw [hLC,if_pos h]⟩ iS (fun w h=>iH h) ?_
 rintro ⟨i,s5,o⟩ ⟨hi,hb5,hol,ho7,hs5,he5⟩
 simp only at hi hb5 hol ho7 hs5 he5 ⊢
 rw [hw1 v s5.e]
 (repeat' first|refine kW ?_|refine kU fun bk=>?_|refine kV fun hc=>?_|refine kZ (fun hc=>?_) fun hc=>?_|fail)
 ·have h5:s5.e=0:=by omega
  obtain ⟨h3,hs5⟩:=hs5 h5
  obtain ⟨k2,hk2⟩:∃k2,4+z - i=k2+1:=⟨4+z - i - 1,by omega⟩
  have hk3:4+z - (i+1)=k2:=by omega
  rw [hk2,owS] at hs5
  have ht6:=wY p q most 3 v fa fc d s5 ([(b,cl (ivn o) 3)]::[(bo,cl OL 3)]::L) (zm (zm hv)) (by omega) hb5 (by omega)
  have htv6:=wU d s5 3
  generalize tv d s5 3=z6 at ht6 htv6 hs5
  generalize tk d s5 3=s6 at ht6 hs5
  have ho19:yY.getD i 0 < 19:=by
   have:∀j,j < 19→yY.getD j 0 < 19:=by decide
   exact this i (by omega)
  have hcell:OL.toArray[i * 1]? =some (.int .i64 (yY.getD i 0:Int)):=by
   rw [Nat.mul_one,←hOL]
   simpa using yF (l:=yY) (i:=i) (n:=yY.getD i 0) (by simp [List.getD,show i < yY.length from by show i < 19;omega])
  generalize yY.getD i 0=oi at hs5 ho19 hcell
  refine yQ [[(bo,cl OL 3)]] [8] mixed ?_
  (refine za 0 ?_;refine za 1 ?_;refine za 2 ?_)
  refine cT 3 rfl rfl (zh (j:=i) (len:=19) rfl rfl rfl (by omega)) ?_
  refine cT 4 rfl rfl (zq rfl (by exact Fnd.here) hcell) ?_
  (refine za 5 ?_)
  refine cI 6 rfl rfl ?_
  refine cC rfl rfl (Gv.holds ht6 (fun w h=>iH h)) (fun r L' hp=>?_)
  obtain ⟨rfl,rfl,hb6⟩:=hp
  refine ⟨iC,?_⟩
  refine cT 7 rfl rfl (zh (j:=oi) (len:=19) rfl rfl rfl (by omega)) ?_
  refine cL 8 rfl rfl rfl ?_
  have hse:(ivn o).set (oi * 1) (.int .i64 (z6:Int))=ivn (o.set oi z6):=by simp [ivn,List.map_set]
  refine zG (ivn (o.set oi z6)) rfl rfl rfl hse iU (by rw [zC];omega) ?_
  refine cD ?_
  refine kW ?_
  refine zf (X:=Nat × S6 × List Nat) (μ:=fun x=>4+z - x.1) (x:=(i,s5,o)) (i+1,s6,o.set oi z6) (by simp only;omega) ⟨by simp only;omega,hb6,by simp only [List.length_set];exact hol,fun y hy=>?_,fun h6=>⟨h3,?_⟩,fun h6=>?_⟩ iS (fun w h=>iH h)
  ·rcases List.mem_or_eq_of_mem_set hy with h|rfl
   ·exact ho7 y h
   ·omega
  ·simp only at h6 ⊢
   rw [hk3]
   rw [if_neg (show ¬s6.e≠0 from fun hh=>hh h6)] at hs5
   exact hs5
  ·simp only at h6 ⊢
   rw [if_pos h6] at hs5
   rw [hLC,if_neg (show ¬s3.e≠0 from fun hh=>hh h3),←hs5,if_pos (by exact h6)]
 ·have h5:s5.e≠0:=by omega
  have hL:=he5 h5
  rw [hL,if_pos h5] at hLG
  rw [hLG,if_pos (by exact h5)] at hY
  subst hY
  refine kR ?_
  exact ⟨wkC p q v most s5.e::biC q fa d.length fc s5.t::L,iD,hb5,.inl ⟨h5,_,_,rfl,rfl⟩⟩
 ·have h5:s5.e≠0:=by omega
  have hL:=he5 h5
  rw [hL,if_pos h5] at hLG
  rw [hLG,if_pos (by exact h5)] at hY
  subst hY
  refine kR ?_
  exact ⟨wkC p q v most s5.e::biC q fa d.length fc s5.t::L,iD,hb5,.inl ⟨h5,_,_,rfl,rfl⟩⟩
 have h5:s5.e=0:=by omega
 obtain ⟨h3,hs5⟩:=hs5 h5
 obtain rfl:i=4+z:=by omega
 rw [show 4+z - (4+z)=0 from by omega,owS] at hs5
 rw [if_neg (show ¬s3.e≠0 from fun hh=>hh h3),←hs5,if_neg (show ¬(s5,o).1.e≠0 from fun hh=>hh h5)] at hLC
 simp only at hLC
 clear he5 hs5 ht3
 have ho15:∀x∈o,x≤15:=fun x hx=>by have:=ho7 x hx;omega
 have hcc:=Xq (some ⟨b,0,none⟩) 19 (icn o) (wkC p q v most s5.e::biC q fa d.length fc s5.t::[(b,cl (ivn o) 3)]::[(bo,cl OL 3)]::L) (by rw [zL,hol,zaq];exact zm (zm (zF (c:=(ivn o).toArray) Fnd.here (by rw [zC,hol]) (by simp)))) (by rw [zL];omega)
 rw [zL,hol,zaz ho15] at hcc
 have hBd:((kS o:Int) == 32768)=decide (kS o=32768):=by
  by_cases h:kS o=32768
  ·rw [h];rfl
  ·rw [decide_eq_false h];simp;omega
 rw [hBd] at hcc
 by_cases hk:kS o=32768
 ·rw [if_pos hk] at hLC
  rw [decide_eq_true hk] at hcc
  refine cP rfl rfl hcc ?_
  (refine kW ?_;refine kU fun bk=>?_;refine kW ?_)
  obtain ⟨lp,hlp⟩:∃lp,lp=bk:=⟨_,rfl⟩
  rw [←hlp]
  clear hlp
  rw [hLC,if_neg (show ¬(s5,o).1.e≠0 from fun hh=>hh h5)] at hLG
  simp only at hLG
  have hcd:=ZU ho15 (by omega) (show kS o≤32768 by omega)
  refine zn (X:=Nat × S6 × List Nat × Value × Chunk) (fun x=>[(0,.pointer (some ⟨p,0,none⟩)),(4,.int .i64 (n1:Int)),(5,.int .i64 (n2:Int)),(7,.slice (some ⟨b,0,none⟩) 19 19),(10,.pointer (some ⟨lp,0,none⟩))])
   (fun x=>wkC p q v most x.2.1.e::biC q fa d.length fc x.2.1.t::lpC lp x.2.2.2.1::x.2.2.2.2::[(b,cl (ivn o) 3)]::L)
   (fun x=>x.2.1.t≤8 * d.length∧x.2.2.1.length≤n1+n2∧Ow 3 1 x.2.2.2.1 x.2.2.1.length (ivn x.2.2.1) x.2.2.2.2∧(x.2.1.e=0→n1+n2≤x.1+x.2.2.1.length∧(∀y∈x.2.2.1,y≤15)∧lpS d o (n1+n2) x.1 x.2.1 x.2.2.1=LG)∧(x.2.1.e≠0→LG.1=x.2.1)) (fun x=>x.1) (n1+n2,s5,[],.slice none 0 0,[])
   ⟨hb5,Nat.zero_le _,.inl ⟨rfl,rfl,rfl,rfl⟩,fun _=>⟨by simp,by simp,hLG.symm⟩,fun h=>absurd h5 h⟩ iS (fun w h=>?_) ?_
  ·show Holds w ([(p,cl [.pointer (some ⟨q,0,none⟩),v,.int .i64 (most:Int),.int .i64 (s5.e:Int)] 153)]::biC q fa d.length fc s5.t::[(lp,cl [.slice none 0 0] 154)]::[]::[(b,cl (ivn o) 3)]::L)
   have h':Holds w ([(p,cl [.pointer (some ⟨q,0,none⟩),v,.int .i64 (most:Int),.int .i64 (s5.e:Int)] 153)]::biC q fa d.length fc s5.t::[(lp,cl [.slice none 0 0] 154)]::[(b,cl (ivn o) 3)]::L):=iH h
   simpa only [Holds,List.flatten_cons,List.nil_append] using h'
  clear h5 hb5 hcc hLC hLG
  rintro ⟨f,s7,l,lv,Cl⟩ ⟨hb7,hlm,hov,hs7,he7⟩
  simp only at hb7 hlm hov hs7 he7 ⊢
  obtain ⟨la,lc,rfl⟩:=zM hov
  unfold lpC
  rw [hw1 v s7.e]
  (repeat' first|refine kW ?_|refine kU fun bk=>?_|refine kV fun hc=>?_|refine kZ (fun hc=>?_) fun hc=>?_|fail)
  ·have h7:s7.e=0:=by omega
   obtain ⟨hf7,h15,hlp7⟩:=hs7 h7
   obtain ⟨g,rfl⟩:∃g,f=g+1:=⟨f - 1,by omega⟩
   rw [lpS,if_pos ⟨h7,by omega⟩] at hlp7
   have hr:=ziu p q lp most (n1+n2) v (.slice la l.length lc) (some ⟨b,0,none⟩) 19 o l fa fc d s7 Cl ([(b,cl (ivn o) 3)]::L) (by rw [hol,zaq];exact zF (c:=(ivn o).toArray) Fnd.here (by rw [zC,hol]) (by simp)) hcd hol (zm hv) hl hb7 h7 hov hlm (by omega)
   rw [hol] at hr
   have hfa:=zlm (d:=d) (s:=s7) (own:=o) (m:=n1+n2) hol h15
   generalize rpS d o (n1+n2) s7 l=s8 at hr hlp7 hfa
   generalize rpL d o s7 l=l8 at hr hlp7 hfa
   unfold lpC at hr
   rw [←Int.natCast_add]
   refine cC rfl rfl (Gv.holds hr (fun w h=>iH h)) (fun r L' hp=>?_)
   obtain ⟨lv8,Cl8,rfl,ho8,rfl,hb8⟩:=hp
   refine kW ?_
   by_cases h8:s8.e=0
   ·rw [if_pos h8] at hlp7 ho8
    obtain ⟨hx1,hx2,hx3⟩:=hfa h8
    refine zf (X:=Nat × S6 × List Nat × Value × Chunk) (μ:=fun x=>x.1) (x:=(g+1,s7,l,.slice la l.length lc,Cl)) (g,s8,l8,lv8,Cl8) (by simp only;omega) ⟨hb8,hx2,ho8,fun _=>⟨by simp only;omega,hx3,hlp7⟩,fun hh=>absurd h8 hh⟩ iS (fun w h=>iH h)
   ·rw [if_neg h8] at hlp7 ho8
    refine zf (X:=Nat × S6 × List Nat × Value × Chunk) (μ:=fun x=>x.1) (x:=(g+1,s7,l,.slice la l.length lc,Cl)) (g,s8,l,lv8,Cl8) (by simp only;omega) ⟨hb8,hlm,ho8,fun hh=>absurd hh h8,fun _=>by rw [←hlp7]⟩ iS (fun w h=>iH h)
  ·have h7:s7.e=0:=by omega
   obtain ⟨hf7,h15,hlp7⟩:=hs7 h7
   have hlm:l.length=n1+n2:=by omega
   have hq:lpS d o (n1+n2) f s7 l=(s7,l):=by
    cases f with
    |zero=>rfl
    |succ f=>rw [lpS,if_neg (fun hh=>by omega)]
   rw [hq] at hlp7
   rw [←hlp7,if_neg (show ¬(s7,l).1.e≠0 from fun hh=>hh h7)] at hY
   unfold dyK at hY
   simp only at hY
   have hov2:=hov
   rcases hov2 with ⟨_,h0,_⟩|⟨b2,cap,rest,hve,rfl,hxl,hrl,hmc,hcm⟩
   ·omega
   injection hve with q1 q2 q3
   subst q1 q3
   clear q2
   have hl4:∀x∈l.take n1,x≤15:=fun x hx=>h15 x (List.mem_of_mem_take hx)
   have hd4:∀x∈l.drop n1,x≤15:=fun x hx=>h15 x (List.mem_of_mem_drop hx)
   have hln:(l.take n1).length=n1:=by simp;omega
   have hdn:(l.drop n1).length=n2:=by simp;omega
   obtain ⟨x,hx⟩:∃x,l[256]? =some x:=⟨l[256],List.getElem?_eq_getElem (by omega)⟩
   have hcell:(ivn l++rest).toArray[0+256 * 1]? =some (.int .i64 (x:Int)):=by
    have h5:=yF hx
    have h6:=(List.getElem?_eq_some_iff.1 h5).1
    rw [List.getElem?_toArray,List.getElem?_append_left (by simpa using h6)]
    simpa using h5
   rw [show l.getD 256 0=x from by simp [List.getD,hx]] at hY
   rw [hlm] at hmc
   rw [hlm]
   refine ze (qE (h:=n1) rfl rfl rfl (by omega)) rfl ?_
   refine kW ?_
   refine ze (yx (l:=n1) (h:=n1+n2) rfl rfl rfl (by omega) (by omega) (by omega)) rfl ?_
   rw [show n1+n2 - n1=n2 from by omega]
   refine kW ?_
   obtain ⟨K,hK⟩:∃K,K=[(p,cl [.pointer (some ⟨q,0,none⟩),v,.int .i64 (most:Int),.int .i64 (s7.e:Int)] 153)]::biC q fa d.length fc s7.t::[(lp,cl [.slice (some ⟨b2,0,none⟩) (n1+n2) lc] 154)]::[(b2,cl (ivn l++rest) 3)]::[(b,cl (ivn o) 3)]::L:=⟨_,rfl⟩
   have hS1:∀L,Sl ([(b2,cl (ivn l++rest) 3)]::L) 1 (.slice (some ⟨b2,0,none⟩) (l.take n1).length lc) (l.take n1).length (yg (icn (l.take n1))):=fun L=>by
    rw [zaq]
    exact .inr ⟨_,_,rfl,zK.cl' (l:=ivn l++rest) Fnd.here (by
     rw [zC];unfold cut ivn
     rw [List.drop_zero,List.take_append_of_le_length (by simp;omega),List.map_take,List.length_take,Nat.min_eq_left (by omega)]),by rw [zC];simp⟩
   have hS2:∀L,Sl ([(b2,cl (ivn l++rest) 3)]::L) 1 (.slice (some ⟨b2,n1 * 1,none⟩) (l.drop n1).length (lc - n1)) (l.drop n1).length (yg (icn (l.drop n1))):=fun L=>by
    rw [zaq]
    exact .inr ⟨_,_,rfl,zK.cl' (l:=ivn l++rest) Fnd.here (by
     rw [zC,hdn];unfold cut ivn
     rw [List.drop_append_of_le_length (by simp;omega),List.take_append_of_le_length (by simp;omega),Nat.mul_one,←List.map_drop,←List.map_take,List.take_of_length_le (by omega)]),by rw [zC];simp⟩
   have hBd:∀o:List Nat,((kS o:Int) == 32768)=decide (kS o=32768):=fun o=>by
    by_cases h:kS o=32768
    ·rw [h];rfl
    ·rw [decide_eq_false h];simp;omega
   have hS1K:Sl K 1 (.slice (some ⟨b2,0,none⟩) (l.take n1).length lc) (l.take n1).length (yg (icn (l.take n1))):=by rw [hK];exact zm (zm (zm (hS1 _)))
   have hS2K:Sl K 1 (.slice (some ⟨b2,n1 * 1,none⟩) (l.drop n1).length (lc - n1)) (l.drop n1).length (yg (icn (l.drop n1))):=by rw [hK];exact zm (zm (zm (hS2 _)))
   have hc1:=Xq _ _ (icn (l.take n1)) K (by rw [zL];exact hS1K) (by rw [zL];omega)
   have hc2:=Xq _ _ (icn (l.drop n1)) K (by rw [zL];exact hS2K) (by rw [zL];omega)
   have hsg:=zlB _ _ (l.drop n1) K hS2K (by omega)
   rw [zL,zaz hl4,hBd,hln] at hc1
   rw [zL,zaz hd4,hBd,hdn] at hc2
   rw [hdn] at hsg
   have hf:=wN p q most 3 s7.e v (biC q fa d.length fc s7.t::[(lp,cl [.slice (some ⟨b2,0,none⟩) (n1+n2) lc] 154)]::[(b2,cl (ivn l++rest) 3)]::[(b,cl (ivn o) 3)]::L)
   rw [if_pos h7] at hf
   have hbad:¬(x≠0∧kS (l.take n1)=32768∧(kS (l.drop n1)=32768∨sgl (l.drop n1)=true))→Y=(fl s7 3,[],0):=fun h=>by rw [hY,if_neg h]
   refine ze (zi (j:=256) rfl rfl rfl (by omega)) rfl ?_
   refine kW ?_
   refine ze (zq rfl (by exact Fnd.there (Fnd.there (Fnd.there Fnd.here))) hcell) rfl ?_
   rw [←hK]
   (repeat' first|refine kW ?_|refine kU fun bk=>?_|refine kV fun hc=>?_|refine kZ (fun hc=>?_) fun hc=>?_|fail)
   ·rw [hbad (fun hh=>hh.1 (by omega))]
    simp only [fl3 h7,vU]
    rw [hK]
    refine cC rfl rfl (Gv.holds hf (fun w h=>iH h)) (fun r L' hp=>?_)
    obtain ⟨rfl,rfl⟩:=hp
    refine kW ?_
    refine kR ?_
    exact ⟨wkC p q v most 3::biC q fa d.length fc s7.t::L,iD,hb7,.inl ⟨by decide,_,_,rfl,rfl⟩⟩
   by_cases hk1:kS (l.take n1)=32768
   ·rw [decide_eq_true hk1] at hc1
    refine cP rfl rfl hc1 ?_
    refine kW ?_
    by_cases hk2:kS (l.drop n1)=32768
    ·rw [decide_eq_true hk2] at hc2
     refine cP rfl rfl hc2 ?_
     refine kW ?_
     have hYo:Y=(s7,l,n1):=by rw [hY,if_pos ⟨show x≠0 by omega,hk1,.inl hk2⟩]
     rw [hYo,hK]
     have hks:=Qr (l.drop n1)
     have hkd:kS (l.drop n1)≤32768:=by
      rcases (.inl hk2:kS (l.drop n1)=32768∨sgl (l.drop n1)=true) with h|h
      ·omega
      ·rw [uU] at h
       have:=of_decide_eq_true h
       omega
     refine kR ?_
     exact ⟨wkC p q v most s7.e::biC q fa d.length fc s7.t::[(b2,cl (ivn l++rest) 3)]::L,iD,hb7,.inr ⟨h7,some ⟨b2,0,none⟩,lc,some ⟨b2,n1 * 1,none⟩,lc - n1,l.take n1,l.drop n1,_,by rw [hln,hdn];rfl,rfl,rfl,⟨hS1⟩,⟨hS2⟩,ZU hl4 (by omega) (by omega),ZU hd4 (by omega) hkd,by omega,rfl⟩⟩
    ·rw [decide_eq_false hk2] at hc2
     refine cP rfl rfl hc2 ?_
     refine kW ?_
     cases hsb:sgl (l.drop n1) with
     |false=>
      rw [hsb] at hsg
      refine cP rfl rfl hsg ?_
      refine kW ?_
      rw [hbad (fun hh=>by rcases hh.2.2 with h|h;exact hk2 h;rw [hsb] at h;cases h)]
      simp only [fl3 h7,vU]
      rw [hK]
      refine cC rfl rfl (Gv.holds hf (fun w h=>iH h)) (fun r L' hp=>?_)
      obtain ⟨rfl,rfl⟩:=hp
      refine kW ?_
      refine kR ?_
      exact ⟨wkC p q v most 3::biC q fa d.length fc s7.t::L,iD,hb7,.inl ⟨by decide,_,_,rfl,rfl⟩⟩
     |true=>
      rw [hsb] at hsg
      refine cP rfl rfl hsg ?_
      refine kW ?_
      have hYo:Y=(s7,l,n1):=by rw [hY,if_pos ⟨show x≠0 by omega,hk1,.inr hsb⟩]
      rw [hYo,hK]
      have hks:=Qr (l.drop n1)
      have hkd:kS (l.drop n1)≤32768:=by
       rcases (.inr hsb:kS (l.drop n1)=32768∨sgl (l.drop n1)=true) with h|h
       ·omega
       ·rw [uU] at h
        have:=of_decide_eq_true h
        omega
      refine kR ?_
      exact ⟨wkC p q v most s7.e::biC q fa d.length fc s7.t::[(b2,cl (ivn l++rest) 3)]::L,iD,hb7,.inr ⟨h7,some ⟨b2,0,none⟩,lc,some ⟨b2,n1 * 1,none⟩,lc - n1,l.take n1,l.drop n1,_,by rw [hln,hdn];rfl,rfl,rfl,⟨hS1⟩,⟨hS2⟩,ZU hl4 (by omega) (by omega),ZU hd4 (by omega) hkd,by omega,rfl⟩⟩
   ·rw [decide_eq_false hk1] at hc1
    refine cP rfl rfl hc1 ?_
    refine kW ?_
    rw [hbad (fun hh=>hk1 hh.2.1)]
    simp only [fl3 h7,vU]
    rw [hK]
    refine cC rfl rfl (Gv.holds hf (fun w h=>iH h)) (fun r L' hp=>?_)
    obtain ⟨rfl,rfl⟩:=hp
    refine kW ?_
    refine kR ?_
    exact ⟨wkC p q v most 3::biC q fa d.length fc s7.t::L,iD,hb7,.inl ⟨by decide,_,_,rfl,rfl⟩⟩
  ·have h7:s7.e≠0:=by omega
   have hL:=he7 h7
   rw [hL,if_pos h7] at hY
   subst hY
   refine kR ?_
   exact ⟨wkC p q v most s7.e::biC q fa d.length fc s7.t::L,iD,hb7,.inl ⟨h7,_,_,rfl,rfl⟩⟩
 ·rw [if_neg hk] at hLC
  rw [decide_eq_false hk] at hcc
  refine cP rfl rfl hcc ?_
  have hf:=wN p q most 3 s5.e v (biC q fa d.length fc s5.t::[(b,cl (ivn o) 3)]::[(bo,cl OL 3)]::L)
  rw [if_pos h5] at hf
  rw [hLC,if_pos (by rw [fl3 h5];decide)] at hLG
  rw [hLG,if_pos (by rw [fl3 h5];decide)] at hY
  subst hY
  simp only [fl3 h5,vU]
  refine kW ?_
  refine cC rfl rfl hf (fun r L' hp=>?_)
  obtain ⟨rfl,rfl⟩:=hp
  rw [hw1 v 3]
  (refine kW ?_;refine kU fun bk=>?_;refine kW ?_)
  refine zn (X:=Unit) (fun _=>[(0,.pointer (some ⟨p,0,none⟩))]) (fun _=>wkC p q v most 3::biC q fa d.length fc s5.t::L) (fun _=>True) (fun _=>0) () trivial iS (fun w h=>iH h) ?_
  intro _ _
  rw [hw1 v 3]
  refine kW ?_
  refine kR ?_
  exact ⟨wkC p q v most 3::biC q fa d.length fc s5.t::L,iD,hb5,.inl ⟨by decide,_,_,rfl,rfl⟩⟩
end Go.Proofs.YtfbfcapoobmdpaaGreatDoor
namespace Go.If
open Go.Vx Go.Hf
set_option linter.all false
theorem zhp [W0] (d:List UInt8) (own:List Nat) (m:Nat) (s:S6) (l:List Nat):(rpS d own m s l).out=s.out:=by
 unfold rpS
 repeat' split
 all_goals simp only [ql,yw,zlS]
theorem zg0 [W0] (d:List UInt8) (own:List Nat) (m:Nat):∀f s l,(lpS d own m f s l).1.out=s.out
 |0,s,l=>rfl
 |f+1,s,l=>by
  rw [lpS]
  split
  ·split
   ·rw [zg0 d own m f,zhp]
   ·exact zhp _ _ _ _ _
  ·rfl
theorem zhi [W0] (d:List UInt8):∀k i s o,(owS d k i s o).1.out=s.out
 |0,i,s,o=>rfl
 |k+1,i,s,o=>by
  rw [owS]
  split
  ·exact yw _ _ _
  ·rw [zhi d k,yw]
theorem zno [W0] (d:List UInt8) (s:S6):(lcS d s).1.out=s.out:=by
 unfold lcS
 repeat' split
 all_goals simp only [ql,yw,zhi]
theorem zns [W0] (d:List UInt8) (m:Nat) (s:S6):(lgS d m s).1.out=s.out:=by
 unfold lgS
 repeat' split
 all_goals simp only [zg0,zno]
theorem zm3 [W0] (d:List UInt8) (n1 n2:Nat) (s:S6):(dyT d n1 n2 s).1.out=s.out:=by
 rw [zc0]
 unfold dyK
 repeat' split
 all_goals simp only [ql,zns]
theorem zcZ [W0] (d:List UInt8) (s:S6):(dyS d s).1.out=s.out:=by
 unfold dyS
 repeat' split
 all_goals simp only [ql,yw,zm3]
end Go.If
namespace Go.Proofs.YtfbfcapoobmdpaaGreatDoor
open Go Go.Vx Go.Hf Go.If
variable [W0]
set_option maxRecDepth 4000
set_option linter.all false
theorem Xu:fxL.length=288:=by simp [fxL]
theorem za0:fxD.length=32:=by simp [fxD]
theorem zqo (a:Option Addr) (c:Nat) (d:List UInt8) (mo:Int) (most:Nat) (L:List Chunk) (hv:Sl L 1 (.slice a d.length c) d.length (bsv d)) (hl:d.length≤1000000) (hm1:max mo 0=(most:Int)) (hm:most≤1000000) :
 Gv Tryz.prog 64 [.slice a d.length c,.int .i64 mo].toArray L (fun r L'=>
  ((yZ d most).e≠0∧r=.agg #[.slice none 0 0,.int .i64 0,.int .i64 ((yZ d most).e:Int)]∧L'=L)∨
  ((yZ d most).e=0∧∃v C,r=.agg #[v,.int .i64 (((yZ d most).t+7) / 8:Nat),.int .i64 0]∧Ow 5 1 v (yZ d most).out.length (bsv (yZ d most).out) C∧(yZ d most).t≤8 * d.length∧L'=C::L)):=by
 refine Gv.of_body Tryz.func64 rfl rfl ?_
 unfold yZ
 generalize hR:rwS d most (8 * d.length+1) ⟨0,[],0⟩=R
 (refine kW ?_;refine kU fun bk=>?_;refine kW ?_;refine kU fun bk=>?_;refine kW ?_;refine kU fun bk=>?_;refine kW ?_)
 rename_i g q
 obtain ⟨p,hp⟩:∃p,p=bk:=⟨_,rfl⟩
 rw [←hp,hm1]
 clear hp
 have hw1:∀v e (L:List Chunk),wkC p q v most e::L=[(p,cl [.pointer (some ⟨q,0,none⟩),v,.int .i64 (most:Int),.int .i64 (e:Int)] 153)]::L:=fun _ _ _=>rfl
 refine zn (X:=Nat × S6 × Nat × Value × Chunk) (fun x=>[(4,.pointer (some ⟨g,0,none⟩)),(5,.pointer (some ⟨p,0,none⟩)),(6,.int .i64 (x.2.2.1:Int))])
  (fun x=>wkC p q x.2.2.2.1 most x.2.1.e::biC q a d.length c x.2.1.t::x.2.2.2.2::[(g,cl [.slice none 0 0,.int .i64 0,.int .i64 0] 76)]::L)
  (fun x=>x.2.1.t≤8 * d.length∧Ow 5 1 x.2.2.2.1 x.2.1.out.length (bsv x.2.1.out) x.2.2.2.2∧(x.2.1.e=0→x.2.2.1=0→8 * d.length < x.1+x.2.1.t∧rwS d most x.1 x.2.1=R)∧((x.2.1.e≠0∨x.2.2.1≠0)→x.2.1=R)) (fun x=>x.1)
  (8 * d.length+1,⟨0,[],0⟩,0,.slice none 0 0,[]) ⟨Nat.zero_le _,.inl ⟨rfl,rfl,rfl,rfl⟩,fun _ _=>⟨by simp,hR⟩,fun h=>by simp at h⟩ iS (fun w h=>?_) ?_
 ·show Holds w ([(p,cl [.pointer (some ⟨q,0,none⟩),.slice none 0 0,.int .i64 (most:Int),.int .i64 (0:Int)] 153)]::[(q,cl [.slice a d.length c,.int .i64 (0:Int)] 151)]::[]::[(g,cl [.slice none 0 0,.int .i64 0,.int .i64 0] 76)]::L)
  have h':Holds w ([(p,cl [.pointer (some ⟨q,0,none⟩),.slice none 0 0,.int .i64 (most:Int),.int .i64 (0:Int)] 153)]::[(q,cl [.slice a d.length c,.int .i64 (0:Int)] 151)]::[(g,cl [.slice none 0 0,.int .i64 0,.int .i64 0] 76)]::L):=h
  simpa only [Holds,List.flatten_cons,List.nil_append] using h'
 clear hR
 rintro ⟨f,s1,la,v1,C1⟩ ⟨hb1,ho1,hf1,hf2⟩
 simp only at hb1 ho1 hf1 hf2 ⊢
 rw [hw1 v1 s1.e]
 (repeat' first|refine kW ?_|refine kU fun bk=>?_|refine kV fun hc=>?_|refine kZ (fun hc=>?_) fun hc=>?_|fail)
 ·have h1:s1.e=0:=by omega
  obtain ⟨hf3,hsl⟩:=hf1 h1 (by omega)
  clear hf1 hf2
  obtain ⟨f,rfl⟩:∃g,f=g+1:=⟨f - 1,by omega⟩
  rw [rwS] at hsl
  have htk:=wY p q most 3 v1 a c d s1 (C1::[(g,cl [.slice none 0 0,.int .i64 0,.int .i64 0] 76)]::L) (zm (zm hv)) (by omega) hb1 (by decide)
  have htv:=wU d s1 3
  have hto:=yw d s1 3
  have htt:(tk d s1 3).e=0→(tk d s1 3).t=s1.t+3:=fun h0=>by
   by_cases hc:s1.t+3≤8 * d.length
   ·rw [zhB hc]
   ·rw [Go.If.zby hc h1] at h0;cases h0
  generalize tv d s1 3=z at htk htv hsl
  generalize tk d s1 3=s2 at htk hto htt hsl
  rw [←hto] at ho1
  refine cC rfl rfl (Gv.holds htk (fun w h=>h)) (fun r L' hp=>?_)
  obtain ⟨rfl,rfl,hb2⟩:=hp
  rw [hw1 v1 s2.e]
  have hround:∀s3,s3=bkS d most (z / 2) s2→z≤5→s2.e=0→(s3.e=0→z % 2=0→8 * d.length < f+s3.t∧rwS d most f s3=R)∧((s3.e≠0∨z % 2≠0)→s3=R):=by
   intro s3 h3 hz h2
   have hle:=zi4 d most (z / 2) s2
   rw [←h3] at hle hsl
   have hlt:=hle.t
   have htt:=htt h2
   rw [if_neg (show ¬s2.e≠0 from fun hh=>hh h2),if_neg (show ¬5 < z by omega)] at hsl
   refine ⟨fun h0 h1=>⟨by omega,?_⟩,fun h0=>?_⟩
   ·rw [if_neg (show ¬s3.e≠0 from fun hh=>hh h0),if_neg (show ¬z % 2=1 by omega)] at hsl
    exact hsl
   ·by_cases h4:s3.e≠0
    ·rw [if_pos h4] at hsl;exact hsl
    ·rw [if_neg h4,if_pos (by rcases h0 with h|h;exact absurd h h4;omega)] at hsl;exact hsl
  refine kW ?_
  refine ze (wZ rfl rfl (Qm (a:=z) (b:=1) (by omega) (by decide))) rfl ?_
  rw [Nat.and_one_is_mod]
  (repeat' first|refine kW ?_|refine kU fun bk=>?_|refine kV fun hc=>?_|refine kZ (fun hc=>?_) fun hc=>?_|fail)
  ·have h2:s2.e≠0:=by omega
   rw [if_pos h2] at hsl
   refine zf (X:=Nat × S6 × Nat × Value × Chunk) (μ:=fun x=>x.1) (x:=(f+1,s1,la,v1,C1)) (f,s2,z % 2,v1,C1) (by simp only;omega) ⟨hb2,ho1,fun hh=>absurd hh h2,fun _=>hsl⟩ iS (fun w h=>iH h)
  ·have h2:s2.e=0:=by omega
   have hJ:=hround (stS d most s2) (by unfold bkS;rw [if_pos (by omega)]) (by omega) h2
   have hst:=ziw p q most v1 a c d s2 C1 ([(g,cl [.slice none 0 0,.int .i64 0,.int .i64 0] 76)]::L) (zm hv) hl hb2 hm ho1
   generalize stS d most s2=s3 at hst hJ
   refine cC rfl rfl (Gv.holds hst (fun w h=>h)) (fun r L' hp=>?_)
   obtain ⟨v3,C3,rfl,ho3,rfl,hb3⟩:=hp
   refine kW ?_
   refine zf (X:=Nat × S6 × Nat × Value × Chunk) (μ:=fun x=>x.1) (x:=(f+1,s1,la,v1,C1)) (f,s3,z % 2,v3,C3) (by simp only;omega) ⟨hb3,ho3,hJ.1,hJ.2⟩ iS (fun w h=>iH h)
  ·have h2:s2.e=0:=by omega
   have hJ:=hround (cdC d most fxL fxD (8 * d.length+1) s2) (by unfold bkS;rw [if_neg (by omega),if_pos (by omega)]) (by omega) h2
   have hfx:=zna ([(p,cl [.pointer (some ⟨q,0,none⟩),v1,.int .i64 (most:Int),.int .i64 (s2.e:Int)] 153)]::biC q a d.length c s2.t::C1::[(g,cl [.slice none 0 0,.int .i64 0,.int .i64 0] 76)]::L)
   refine cC rfl rfl hfx (fun r L' hp=>?_)
   obtain ⟨u,w2,Cf,Df,rfl,rfl,hof,hod⟩:=hp
   obtain ⟨ua,uc,rfl⟩:=zM hof
   obtain ⟨wa,wc,rfl⟩:=zM hod
   refine kW ?_
   have hco:=ze5 p q most v1 ua wa uc wc fxL fxD a c d s2 C1 (Df::Cf::[(g,cl [.slice none 0 0,.int .i64 0,.int .i64 0] 76)]::L) (by rw [Xu];exact zm (qy hof)) (by decide+kernel) (by rw [Xu];omega) (by rw [za0];exact qy hod) (by decide+kernel) (zm (zm (zm hv))) hl hb2 hm ho1
   rw [Xu,za0] at hco
   generalize cdC d most fxL fxD (8 * d.length+1) s2=s3 at hco hJ
   refine cC rfl rfl (Gv.holds hco (fun w h=>iH h)) (fun r L' hp=>?_)
   obtain ⟨v3,C3,rfl,ho3,rfl,hb3⟩:=hp
   refine kW ?_
   refine zf (X:=Nat × S6 × Nat × Value × Chunk) (μ:=fun x=>x.1) (x:=(f+1,s1,la,v1,C1)) (f,s3,z % 2,v3,C3) (by simp only;omega) ⟨hb3,ho3,hJ.1,hJ.2⟩ iS (fun w h=>iH h)
  ·have h2:s2.e=0:=by omega
   have hJ:=hround (dbS d most s2) (by unfold bkS;rw [if_neg (by omega),if_neg (by omega)]) (by omega) h2
   have hle:=zgj p q most v1 a c d s2 (C1::[(g,cl [.slice none 0 0,.int .i64 0,.int .i64 0] 76)]::L) (zm (zm hv)) hl hb2 h2
   have hdo:=zcZ d s2
   unfold dbS at hJ
   generalize dyS d s2=Y at hle hJ hdo
   obtain ⟨s4,ly,ny⟩:=Y
   simp only at hle hJ hdo
   refine cC rfl rfl (Gv.holds hle (fun w h=>h)) (fun r L' hp=>?_)
   obtain ⟨hb4,⟨h4,x,y,rfl,rfl⟩|⟨h4,a1,c1,a2,c2,l,dl,Cl,rfl,rfl,rfl,hS1,hS2,hd1,hd2,hll,rfl⟩⟩:=hp
   ·rw [if_pos h4] at hJ
    rw [hw1 v1 s4.e]
    (refine kW ?_;refine kV fun hc=>?_;refine kW ?_)
    rw [←hdo] at ho1
    refine zf (X:=Nat × S6 × Nat × Value × Chunk) (μ:=fun x=>x.1) (x:=(f+1,s1,la,v1,C1)) (f,s4,z % 2,v1,C1) (by simp only;omega) ⟨hb4,ho1,hJ.1,hJ.2⟩ iS (fun w h=>iH h)
   ·rw [if_neg (show ¬s4.e≠0 by omega)] at hJ
    rw [hw1 v1 s4.e]
    (refine kW ?_;refine kV fun hc=>?_;refine kW ?_)
    rw [←hdo] at ho1
    have hco:=ze5 p q most v1 a1 a2 c1 c2 (ly.take ny) (ly.drop ny) a c d s4 C1 (Cl::[(g,cl [.slice none 0 0,.int .i64 0,.int .i64 0] 76)]::L) (hS1.all _) hd1 hll (hS2.all _) hd2 (zm (zm hv)) hl hb4 hm ho1
    generalize cdC d most (ly.take ny) (ly.drop ny) (8 * d.length+1) s4=s3 at hco hJ
    refine cC rfl rfl (Gv.holds hco (fun w h=>iH h)) (fun r L' hp=>?_)
    obtain ⟨v3,C3,rfl,ho3,rfl,hb3⟩:=hp
    refine kW ?_
    refine zf (X:=Nat × S6 × Nat × Value × Chunk) (μ:=fun x=>x.1) (x:=(f+1,s1,la,v1,C1)) (f,s3,z % 2,v3,C3) (by simp only;omega) ⟨hb3,ho3,hJ.1,hJ.2⟩ iS (fun w h=>iH h)
  ·have h2:s2.e=0:=by omega
   rw [if_neg (show ¬s2.e≠0 by omega),if_pos (show 5 < z by omega)] at hsl
   have hf:=wN p q most 3 s2.e v1 (biC q a d.length c s2.t::C1::[(g,cl [.slice none 0 0,.int .i64 0,.int .i64 0] 76)]::L)
   rw [if_pos h2] at hf
   refine cC rfl rfl hf (fun r L' hp=>?_)
   obtain ⟨rfl,rfl⟩:=hp
   refine kW ?_
   refine zf (X:=Nat × S6 × Nat × Value × Chunk) (μ:=fun x=>x.1) (x:=(f+1,s1,la,v1,C1)) (f,fl s2 3,z % 2,v1,C1) (by simp only;omega) ⟨by simp only [vU];exact hb2,by simp only [ql];exact ho1,fun hh=>absurd hh (by show ¬(fl s2 3).e=0;rw [fl3 h2];decide),fun _=>hsl⟩ iS (fun w h=>?_)
   simp only [vU,fl3 h2]
   exact iH h
 ·have h1:s1.e≠0:=by omega
  obtain rfl:s1=R:=hf2 (.inl h1)
  first
   |(refine zX (vs:=[.agg #[.slice none 0 0,.int .i64 0,.int .i64 (s1.e:Int)]]) rfl (.agg ⟨by kernel_rfl,by kernel_rfl⟩ rfl (zK.cl' (vs:=[.slice none 0 0,.int .i64 0,.int .i64 (s1.e:Int)]) (by repeat (first|assumption|exact Fnd.here|refine Fnd.there ?_)) rfl) rfl .nil) ?_
     exact ⟨L,fun w h=>iH h,.inl ⟨h1,rfl,rfl⟩⟩)
   |(refine yE (vs:=[.agg #[.slice none 0 0,.int .i64 0,.int .i64 (s1.e:Int)]]) rfl (.agg ⟨by kernel_rfl,by kernel_rfl⟩ rfl (zK.cl' (vs:=[.slice none 0 0,.int .i64 0,.int .i64 (s1.e:Int)]) (by repeat (first|assumption|exact Fnd.here|refine Fnd.there ?_)) rfl) rfl .nil) ?_
     exact ⟨L,fun w h=>iH h,.inl ⟨h1,rfl,rfl⟩⟩)
 ·have h1:s1.e≠0:=by omega
  obtain rfl:s1=R:=hf2 (.inl h1)
  first
   |(refine zX (vs:=[.agg #[.slice none 0 0,.int .i64 0,.int .i64 (s1.e:Int)]]) rfl (.agg ⟨by kernel_rfl,by kernel_rfl⟩ rfl (zK.cl' (vs:=[.slice none 0 0,.int .i64 0,.int .i64 (s1.e:Int)]) (by repeat (first|assumption|exact Fnd.here|refine Fnd.there ?_)) rfl) rfl .nil) ?_
     exact ⟨L,fun w h=>iH h,.inl ⟨h1,rfl,rfl⟩⟩)
   |(refine yE (vs:=[.agg #[.slice none 0 0,.int .i64 0,.int .i64 (s1.e:Int)]]) rfl (.agg ⟨by kernel_rfl,by kernel_rfl⟩ rfl (zK.cl' (vs:=[.slice none 0 0,.int .i64 0,.int .i64 (s1.e:Int)]) (by repeat (first|assumption|exact Fnd.here|refine Fnd.there ?_)) rfl) rfl .nil) ?_
     exact ⟨L,fun w h=>iH h,.inl ⟨h1,rfl,rfl⟩⟩)
 ·have h1:s1.e=0:=by omega
  obtain rfl:s1=R:=hf2 (.inr (by omega))
  have hus:=zmG q s1.t (.slice a d.length c) 151 ([(p,cl [.pointer (some ⟨q,0,none⟩),v1,.int .i64 (most:Int),.int .i64 (s1.e:Int)] 153)]::biC q a d.length c s1.t::C1::[(g,cl [.slice none 0 0,.int .i64 0,.int .i64 0] 76)]::L) (by exact Fnd.there Fnd.here) (by omega)
  generalize hn:(s1.t+7) / 8=n at hus ⊢
  obtain ⟨va,vc,rfl⟩:=zM ho1
  refine yQ [[(p,cl [.pointer (some ⟨q,0,none⟩),.slice va s1.out.length vc,.int .i64 (most:Int),.int .i64 (s1.e:Int)] 153)]] [10] mixed ?_
  (refine za 0 ?_;refine za 1 ?_;refine za 2 ?_;refine za 3 ?_;refine za 4 ?_;refine za 5 ?_;refine za 6 ?_;refine za 7 ?_)
  refine cI 8 rfl rfl ?_
  refine cP rfl rfl hus ?_
  refine ⟨iC,?_⟩
  (refine za 9 ?_)
  refine cL 10 rfl rfl rfl ?_
  refine zo (l:=[.slice none 0 0,.int .i64 0,.int .i64 0]) (vs:=[.slice va s1.out.length vc,.int .i64 (n:Int),.int .i64 0]) [.slice va s1.out.length vc,.int .i64 (n:Int),.int .i64 0] rfl rfl (by rfl) (by rfl) (by rfl) iU (by simp) ?_
  refine cD ?_
  refine kW ?_
  first
   |(refine zX (vs:=[.agg #[.slice va s1.out.length vc,.int .i64 (n:Int),.int .i64 0]]) rfl (.agg ⟨by kernel_rfl,by kernel_rfl⟩ rfl (zK.cl' (vs:=[.slice va s1.out.length vc,.int .i64 (n:Int),.int .i64 0]) (by repeat (first|assumption|exact Fnd.here|refine Fnd.there ?_)) rfl) rfl .nil) ?_
     exact ⟨C1::L,fun w h=>iH h,.inr ⟨h1,_,C1,rfl,ho1,hb1,rfl⟩⟩)
   |(refine yE (vs:=[.agg #[.slice va s1.out.length vc,.int .i64 (n:Int),.int .i64 0]]) rfl (.agg ⟨by kernel_rfl,by kernel_rfl⟩ rfl (zK.cl' (vs:=[.slice va s1.out.length vc,.int .i64 (n:Int),.int .i64 0]) (by repeat (first|assumption|exact Fnd.here|refine Fnd.there ?_)) rfl) rfl .nil) ?_
     exact ⟨C1::L,fun w h=>iH h,.inr ⟨h1,_,C1,rfl,ho1,hb1,rfl⟩⟩)
end Go.Proofs.YtfbfcapoobmdpaaGreatDoor
namespace Go.If
open Go.Vx Go.Hf
set_option linter.all false
def hdK (x y:Nat):Bool:=x % 16 == 8&&decide (x / 16≤7)&&(x * 256+y) % 31 == 0&&(y&&&32) == 0
def wdN (b0 b1 b2 b3:Nat):Nat:=((b0 * 256+b1) * 256+b2) * 256+b3
end Go.If
namespace Go.Proofs.YtfbfcapoobmdpaaGreatDoor
open Go Go.Vx Go.Hf Go.If
variable [W0]
set_option maxRecDepth 4000
set_option linter.all false
theorem zdT {a b:Nat} (ha:a < 256) (hb:b < 256):zcM .and .u8 (a:Int) (b:Int)=some ((a&&&b:Nat):Int):=by
 have h1:a&&&b≤a:=Nat.and_le_left
 have e:((BitVec.ofInt 8 (a:Int)&&&BitVec.ofInt 8 (b:Int)).toNat)=a&&&b:=by
  rw [BitVec.toNat_and,BitVec.ofInt_natCast,BitVec.ofInt_natCast,BitVec.toNat_ofNat,BitVec.toNat_ofNat,Nat.mod_eq_of_lt (by omega),Nat.mod_eq_of_lt (by omega)]
 show some (IntKind.u8.wrap (((BitVec.ofInt 8 (a:Int)&&&BitVec.ofInt 8 (b:Int)).toNat:Nat):Int))=_
 rw [e]
 congr 1
 exact yX rfl (by simp [IntKind.bits];omega)
theorem zi3 {a b:Nat} (ha:a < 256) (hb:b < 256):zcM .or .i64 ((a * 256:Nat):Int) (b:Int)=some ((a * 256+b:Nat):Int):=by
 have e0:a * 256|||b=a * 256+b:=by
  have:=Nat.two_pow_add_eq_or_of_lt (i:=8) (b:=b) (by omega) a
  rw [Nat.mul_comm a 256]
  exact this.symm
 have e:((BitVec.ofInt 64 ((a * 256:Nat):Int)|||BitVec.ofInt 64 (b:Int)).toNat)=a * 256+b:=by
  rw [BitVec.toNat_or,BitVec.ofInt_natCast,BitVec.ofInt_natCast,BitVec.toNat_ofNat,BitVec.toNat_ofNat,Nat.mod_eq_of_lt (by omega),Nat.mod_eq_of_lt (by omega),e0]
 show some (IntKind.i64.wrap (((BitVec.ofInt 64 ((a * 256:Nat):Int)|||BitVec.ofInt 64 (b:Int)).toNat:Nat):Int))=_
 rw [e]
 congr 1
 exact QF (by omega)
theorem zkg (x y:UInt8) (L:List Chunk):GvP Tryz.prog 57 [.int .u8 (x.toNat:Int),.int .u8 (y.toNat:Int)].toArray L (.bool (hdK x.toNat y.toNat)):=by
 refine Gv.of_body Tryz.func57 rfl rfl ?_
 have hx:=x.toNat_lt
 have hy:=y.toNat_lt
 generalize x.toNat=a at hx ⊢
 generalize y.toNat=b at hy ⊢
 unfold hdK
 refine kW ?_
 refine ze (uM (k:=.u8) a 4 rfl rfl rfl rfl rfl (by simp only [IntKind.bits];omega) (by decide)) rfl ?_
 have hno:∀(c1:Bool),c1=false→Value.bool false=.bool c1:=fun c1 h=>by rw [h]
 have hno2:¬(a % 16=8∧a / 16≤7∧(a * 256+b) % 31=0)→(a % 16 == 8&&decide (a / 16≤7)&&(a * 256+b) % 31 == 0&&(b&&&32) == 0)=false:=by
  intro h
  cases hh:(a % 16 == 8&&decide (a / 16≤7)&&(a * 256+b) % 31 == 0&&(b&&&32) == 0)
  ·rfl
  ·exfalso
   simp only [Bool.and_eq_true,beq_iff_eq,decide_eq_true_eq] at hh
   exact h ⟨hh.1.1.1,hh.1.1.2,hh.1.2⟩
 (repeat' first|refine kW ?_|refine kU fun bk=>?_|refine kV fun hc=>?_|refine kZ (fun hc=>?_) fun hc=>?_|fail)
 ·refine ze (uq a 8 rfl rfl rfl rfl (by decide) (by omega)) rfl ?_
  rw [show a * 2 ^ 8=a * 256 from rfl]
  refine kW ?_
  refine ze (wZ rfl rfl (zi3 (a:=a) (b:=b) hx hy)) rfl ?_
  refine kW ?_
  refine ze (XC (a * 256+b) 31 rfl rfl rfl rfl (by decide)) rfl ?_
  (repeat' first|refine kW ?_|refine kU fun bk=>?_|refine kV fun hc=>?_|refine kZ (fun hc=>?_) fun hc=>?_|fail)
  ·refine ze (wZ rfl rfl (zdT (a:=b) (b:=32) hy (by decide))) rfl ?_
   generalize hz:b&&&32=z
   refine kW ?_
   refine kR ?_
   refine ⟨_,iC,?_,rfl⟩
   refine congrArg Value.bool ?_
   rw [show (a % 16 == 8)=true from by simp;omega,show decide (a / 16≤7)=true from by simp;omega,show ((a * 256+b) % 31 == 0)=true from by simp;omega]
   simp only [Bool.true_and]
   by_cases h0:z=0
   ·subst h0;rfl
   ·rw [show (z == 0)=false from by simpa using h0];simp;omega
  ·refine kR ?_
   exact ⟨_,iC,hno _ (hno2 (by omega)),rfl⟩
 ·refine kR ?_
  exact ⟨_,iC,hno _ (hno2 (by omega)),rfl⟩
 ·refine kR ?_
  exact ⟨_,iC,hno _ (hno2 (by omega)),rfl⟩
theorem zbn {L:List Chunk} {v:Value} {m:Nat} {t:List UInt8} (h:Sl L 1 v m (bsv t)) (hm:0 < m) :
 ∃bb off cap c T fr,v=.slice (some ⟨bb,off,none⟩) m cap∧Fnd L bb (.cells c T fr)∧∀k,k < m→c[off+k * 1]? =some (.int .u8 ((t.getD k 0).toNat:Int)):=by
 rcases h with ⟨c,rfl,rfl,h0⟩|⟨a,cap,rfl,hr,hl⟩
 ·omega
 ·rw [zH,Nat.mul_one] at hl
  rcases hr with h0|⟨b,off,c,T,fr,rfl,h1,h2⟩
  ·have h9:(bsv t).length=0:=by rw [h0];rfl
   rw [zH] at h9
   omega
  ·exact ⟨b,off,cap,c,T,fr,rfl,h1,fun k hk=>by rw [Nat.mul_one];exact h2 _ _ (wW (by simp [List.getD,show k < t.length by omega]))⟩
theorem zqm (v:Value) (m:Nat) (t:List UInt8) (L:List Chunk) (h:Sl L 1 v m (bsv t)) (hm:4≤m) :
 GvP Tryz.prog 59 [v].toArray L (.int .u32 ((wdN (t.getD 0 0).toNat (t.getD 1 0).toNat (t.getD 2 0).toNat (t.getD 3 0).toNat:Nat):Int)):=by
 refine Gv.of_body Tryz.func59 rfl rfl ?_
 obtain ⟨bb,off,cap,cc,T,fr,rfl,hfn,hcs⟩:=zbn h (by omega)
 have hc0:=hcs 0 (by omega)
 have hc1:=hcs 1 (by omega)
 have hc2:=hcs 2 (by omega)
 have hc3:=hcs 3 (by omega)
 have h0:=(t.getD 0 0).toNat_lt
 have h1:=(t.getD 1 0).toNat_lt
 have h2:=(t.getD 2 0).toNat_lt
 have h3:=(t.getD 3 0).toNat_lt
 clear h hcs
 generalize (t.getD 0 0).toNat=b0 at *
 generalize (t.getD 1 0).toNat=b1 at *
 generalize (t.getD 2 0).toNat=b2 at *
 generalize (t.getD 3 0).toNat=b3 at *
 refine kW ?_
 refine zk [] mixed ?_
 (refine za 0 ?_)
 refine cT 1 rfl rfl (zi (j:=0) rfl rfl rfl (by omega)) ?_
 refine cT 2 rfl rfl (zq rfl hfn hc0) ?_
 refine cT 3 rfl rfl (vG b0 rfl rfl rfl (by simp only [IntKind.bits];omega)) ?_
 refine cT 4 rfl rfl (vH b0 24 rfl rfl rfl rfl rfl (by simp only [IntKind.bits];omega)) ?_
 (refine za 5 ?_)
 refine cT 6 rfl rfl (zi (j:=1) rfl rfl rfl (by omega)) ?_
 refine cT 7 rfl rfl (zq rfl hfn hc1) ?_
 refine cT 8 rfl rfl (vG b1 rfl rfl rfl (by simp only [IntKind.bits];omega)) ?_
 refine cT 9 rfl rfl (vH b1 16 rfl rfl rfl rfl rfl (by simp only [IntKind.bits];omega)) ?_
 refine cT 10 rfl rfl (YT (k:=.u32) (b1 * 2 ^ 16) b0 24 rfl rfl rfl rfl rfl (by omega) (by simp only [IntKind.bits];omega)) ?_
 rw [show b1 * 2 ^ 16+b0 * 2 ^ 24=(b1+b0 * 256) * 2 ^ 16 from by omega]
 (refine za 11 ?_)
 refine cT 12 rfl rfl (zi (j:=2) rfl rfl rfl (by omega)) ?_
 refine cT 13 rfl rfl (zq rfl hfn hc2) ?_
 refine cT 14 rfl rfl (vG b2 rfl rfl rfl (by simp only [IntKind.bits];omega)) ?_
 refine cT 15 rfl rfl (vH b2 8 rfl rfl rfl rfl rfl (by simp only [IntKind.bits];omega)) ?_
 refine cT 16 rfl rfl (YT (k:=.u32) (b2 * 2 ^ 8) (b1+b0 * 256) 16 rfl rfl rfl rfl rfl (by omega) (by simp only [IntKind.bits];omega)) ?_
 rw [show b2 * 2 ^ 8+(b1+b0 * 256) * 2 ^ 16=(b2+(b1+b0 * 256) * 256) * 2 ^ 8 from by omega]
 (refine za 17 ?_)
 refine cT 18 rfl rfl (zi (j:=3) rfl rfl rfl (by omega)) ?_
 refine cT 19 rfl rfl (zq rfl hfn hc3) ?_
 refine cT 20 rfl rfl (vG b3 rfl rfl rfl (by simp only [IntKind.bits];omega)) ?_
 refine cT 21 rfl rfl (YT (k:=.u32) b3 (b2+(b1+b0 * 256) * 256) 8 rfl rfl rfl rfl rfl (by omega) (by simp only [IntKind.bits];omega)) ?_
 rw [show b3+(b2+(b1+b0 * 256) * 256) * 2 ^ 8=wdN b0 b1 b2 b3 from by unfold wdN;omega]
 (refine za 22 ?_)
 refine cD ?_
 refine kW ?_
 exact kE
end Go.Proofs.YtfbfcapoobmdpaaGreatDoor
namespace Go.If
open Go.Vx Go.Hf
set_option linter.all false
def byt (d:List UInt8) (k:Nat):Nat:=(d.getD k 0).toNat
def usd [W0] (d:List UInt8) (m:Nat):Nat:=((yZ (d.drop 2) m).t+7) / 8
end Go.If
namespace Go.Proofs.YtfbfcapoobmdpaaGreatDoor
open Go Go.Vx Go.Hf Go.If
variable [W0]
set_option maxRecDepth 4000
set_option linter.all false
def adS (d:List UInt8) (m:Nat):Nat:=(Ql (uO (1#32,0#32) (yZ (d.drop 2) m).out)).toNat
def zlE (d:List UInt8) (m:Nat):Nat:=
 if d.length < 2 then 4
 else if hdK (byt d 0) (byt d 1)=false then 3
 else if (yZ (d.drop 2) m).e≠0 then (yZ (d.drop 2) m).e
 else if d.length < 2+usd d m+4 then 4
 else if wdN (byt d (2+usd d m)) (byt d (2+usd d m+1)) (byt d (2+usd d m+2)) (byt d (2+usd d m+3))≠adS d m then 6
 else 0
theorem znP (a:Option Addr) (c:Nat) (d:List UInt8) (most:Int) (m:Nat) (L:List Chunk) (hv:Sl L 1 (.slice a d.length c) d.length (bsv d)) (hl:d.length≤140737488355328) (hcap:d.length≤c) (hm1:max most 0=(m:Int)) (hm:m≤1000000) (hor:qP L) :
 Gv Tryz.prog 31 [.slice a d.length c,.int .i64 most].toArray L (fun r L'=>
  (zlE d m≠0∧r=.tuple #[.slice none 0 0,.int .i64 0,.int .i64 (zlE d m:Int)]∧L'=L)∨
  (zlE d m=0∧∃v C,r=.tuple #[v,.int .i64 ((2+usd d m+4:Nat):Int),.int .i64 0]∧Ow 5 1 v (yZ (d.drop 2) m).out.length (bsv (yZ (d.drop 2) m).out) C∧(yZ (d.drop 2) m).out.length≤m∧L'=C::L)):=by
 refine Gv.of_body Tryz.func31 rfl rfl ?_
 by_cases h2:d.length < 2
 ·have hz:zlE d m=4:=by unfold zlE;rw [if_pos h2]
  rw [hz]
  (refine kW ?_;refine kV fun hc=>?_;refine kW ?_)
  refine zT (rs:=[.tmp 4,.tmp 5,.tmp 6]) (vs:=[.slice none 0 0,.int .i64 0,.int .i64 4]) rfl rfl ?_
  exact ⟨_,iC,.inl ⟨by decide,rfl,rfl⟩⟩
 have hz:zlE d m=if hdK (byt d 0) (byt d 1)=false then 3 else if (yZ (d.drop 2) m).e≠0 then (yZ (d.drop 2) m).e else if d.length < 2+usd d m+4 then 4 else if wdN (byt d (2+usd d m)) (byt d (2+usd d m+1)) (byt d (2+usd d m+2)) (byt d (2+usd d m+3))≠adS d m then 6 else 0:=by
  unfold zlE;rw [if_neg h2]
 rw [hz]
 clear hz
 obtain ⟨bb,off,cap,cc,T,fr,hve,hfn,hcs⟩:=zbn hv (by omega)
 injection hve with q1 q2 q3
 subst q1 q3
 clear q2
 have hhd:=zkg (d.getD 0 0) (d.getD 1 0) L
 change GvP _ _ _ L (.bool (hdK (byt d 0) (byt d 1))) at hhd
 generalize hK:hdK (byt d 0) (byt d 1)=K at hhd ⊢
 (refine kW ?_;refine kV fun hc=>?_;refine kW ?_)
 refine zk [] mixed ?_
 (refine za 0 ?_)
 refine cT 1 rfl rfl (zi (j:=0) rfl rfl rfl (by omega)) ?_
 refine cT 2 rfl rfl (zq rfl hfn (hcs 0 (by omega))) ?_
 (refine za 3 ?_)
 refine cT 4 rfl rfl (zi (j:=1) rfl rfl rfl (by omega)) ?_
 refine cT 5 rfl rfl (zq rfl hfn (hcs 1 (by omega))) ?_
 refine cI 6 rfl rfl ?_
 refine cP rfl rfl hhd ?_
 refine ⟨iC,?_⟩
 (refine za 7 ?_)
 refine cD ?_
 cases K with
 |false=>
  rw [if_pos rfl]
  refine kW ?_
  refine zT (rs:=[.tmp 4,.tmp 5,.tmp 6]) (vs:=[.slice none 0 0,.int .i64 0,.int .i64 3]) rfl rfl ?_
  exact ⟨_,iC,.inl ⟨by decide,rfl,rfl⟩⟩
 |true=>
  rw [if_neg (by decide)]
  have hsub:∀k,k≤d.length→Sl L 1 (.slice (some ⟨bb,if c=k then off else off+k * 1,none⟩) (d.length - k) (c - k)) (d.length - k) (bsv (d.drop k)):=by
   intro k hk
   refine .inr ⟨_,_,rfl,?_,by rw [zH,List.length_drop,Nat.mul_one]⟩
   by_cases h0:d.length=k
   ·refine .inl ?_
    rw [List.drop_of_length_le (by omega)];rfl
   ·rw [if_neg (by omega)]
    refine .inr ⟨bb,_,cc,T,fr,rfl,hfn,fun j u hj=>?_⟩
    have hjl:j < (d.drop k).length:=by
     have:=(List.getElem?_eq_some_iff.1 hj).1
     rwa [zH] at this
    have hj2:u=.int .u8 ((d.getD (k+j) 0).toNat:Int):=by
     have h3:=wW (l:=d.drop k) (i:=j) (b:=d.getD (k+j) 0) (by rw [List.length_drop] at hjl;simp [List.getD,show k+j < d.length by omega])
     rw [h3] at hj
     injection hj with hj
     exact hj.symm
    rw [hj2,show off+k * 1+j=off+(k+j) * 1 from by omega]
    rw [List.length_drop] at hjl
    exact hcs (k+j) (by omega)
  have hra:=zpU (some ⟨bb,if c=2 then off else off+2 * 1,none⟩) (c - 2) (d.drop 2) most m L (by rw [List.length_drop];exact hsub 2 (by omega)) (by rw [List.length_drop];omega) hm1 hm hor
  rw [List.length_drop] at hra
  have hus:usd d m=((yZ (d.drop 2) m).t+7) / 8:=rfl
  have had:adS d m=(Ql (uO (1#32,0#32) (yZ (d.drop 2) m).out)).toNat:=rfl
  generalize yZ (d.drop 2) m=R at hra hus had ⊢
  rw [←hus] at hra
  generalize usd d m=n at hra hus ⊢
  generalize adS d m=ad at had ⊢
  refine kW ?_
  refine ze (yS (l:=2) (h:=d.length) rfl rfl rfl (by omega) hcap) rfl ?_
  refine kW ?_
  refine cC rfl rfl hra (fun r L' hp=>?_)
  rcases hp with ⟨h3,rfl,rfl⟩|⟨h3,v1,C1,rfl,ho1,hl1,ht1,rfl⟩
  ·rw [if_pos h3]
   (refine kW ?_;refine kV fun hc=>?_;refine kW ?_)
   refine zT (rs:=[.tmp 4,.tmp 5,.tmp 6]) (vs:=[.slice none 0 0,.int .i64 0,.int .i64 (R.e:Int)]) rfl rfl ?_
   exact ⟨_,iC,.inl ⟨h3,rfl,rfl⟩⟩
  rw [if_neg (show ¬R.e≠0 by omega)]
  have hn2:2+n≤d.length:=by omega
  refine kW ?_
  rw [show (2:Int)+(n:Int)=((2+n:Nat):Int) from by omega]
  refine ze (yS (l:=2+n) (h:=d.length) rfl rfl rfl hn2 hcap) rfl ?_
  (repeat' first|refine kW ?_|refine kU fun bk=>?_|refine kV fun hc=>?_|refine kZ (fun hc=>?_) fun hc=>?_|fail)
  ·rw [if_pos (show d.length < 2+n+4 by omega)]
   refine zT (rs:=[.tmp 4,.tmp 5,.tmp 6]) (vs:=[.slice none 0 0,.int .i64 0,.int .i64 4]) rfl rfl ?_
   exact ⟨_,iC,.inl ⟨by decide,rfl,rfl⟩⟩
  rw [if_neg (show ¬d.length < 2+n+4 by omega)]
  have hw:=zqm _ _ (d.drop (2+n)) (C1::L) (zm (hsub (2+n) hn2)) (by omega)
  have hgd:∀j,((d.drop (2+n)).getD j 0).toNat=byt d (2+n+j):=fun j=>by simp [byt,List.getD]
  rw [hgd,hgd,hgd,hgd,Nat.add_zero] at hw
  refine cP rfl rfl hw ?_
  generalize wdN (byt d (2+n)) (byt d (2+n+1)) (byt d (2+n+2)) (byt d (2+n+3))=wd
  refine kW ?_
  have hadl:GvP Tryz.prog 47 [v1].toArray (C1::L) (.int .u32 (ad:Int)):=by rw [had];exact zgs R.out v1 (C1::L) (by omega) (SlC.ow ho1)
  refine cP rfl rfl hadl ?_
  (repeat' first|refine kW ?_|refine kU fun bk=>?_|refine kV fun hc=>?_|refine kZ (fun hc=>?_) fun hc=>?_|fail)
  ·rw [if_pos (show wd≠ad by omega)]
   refine zT (rs:=[.tmp 4,.tmp 5,.tmp 6]) (vs:=[.slice none 0 0,.int .i64 0,.int .i64 6]) rfl rfl ?_
   exact ⟨_,iC,.inl ⟨by decide,rfl,rfl⟩⟩
  ·rw [if_neg (show ¬wd≠ad by omega)]
   refine kR ?_
   exact ⟨_,iC,.inr ⟨rfl,v1,C1,by rw [show ((2+n+4:Nat):Int)=2+(n:Int)+4 from by omega];rfl,ho1,hl1,rfl⟩⟩
end Go.Proofs.YtfbfcapoobmdpaaGreatDoor
namespace Go.If
open Go.Vx Go.Hf
set_option linter.all false
theorem zpX {most:Nat} {s:S6} {c:UInt8} (h:s.out.length≤most):(pt most s c).out.length≤most:=by
 unfold pt
 split
 ·rw [ql];exact h
 ·simp;omega
theorem zot {most far:Nat}:∀{n:Nat} {s:S6},s.out.length≤most→(cpL most far n s).out.length≤most
 |0,s,h=>h
 |n+1,s,h=>by
  rw [cpL]
  split
  ·exact zot (zpX h)
  ·exact h
theorem zqT [W0] {d:List UInt8} {most k:Nat} {dl:List Nat} {s:S6} (h:s.out.length≤most):(mtS d most k dl s).out.length≤most:=by
 unfold mtS mtD
 repeat' split
 all_goals first
  |(refine zot ?_;simp only [ql,yw,zlS];exact h)
  |(simp only [ql,yw,zlS];exact h)
theorem zgy [W0] {d:List UInt8} {most:Nat} {l dl:List Nat}:∀{f:Nat} {s:S6},s.out.length≤most→(cdC d most l dl f s).out.length≤most
 |0,s,h=>h
 |f+1,s,h=>by
  have hs:(sy d s l).out.length≤most:=by rw [zlS];exact h
  rw [cdC]
  split
  ·exact h
  ·split
   ·exact hs
   ·split
    ·exact zgy (zpX hs)
    ·split
     ·exact hs
     ·exact zgy (zqT hs)
theorem zoM [W0] {d:List UInt8} {most:Nat}:∀{k:Nat} {s:S6},s.out.length≤most→(stL d most k s).out.length≤most
 |0,s,h=>h
 |k+1,s,h=>by
  have hs:(tk d s 8).out.length≤most:=by rw [yw];exact h
  rw [stL]
  split
  ·refine zoM ?_
   split
   ·exact zpX hs
   ·exact hs
  ·exact h
theorem zqt [W0] {d:List UInt8} {most k:Nat} {s:S6} (h:s.out.length≤most):(bkS d most k s).out.length≤most:=by
 unfold bkS stS dbS
 split
 ·refine zoM ?_
  split<;>simp only [ql,yw]<;>exact h
 ·split
  ·exact zgy h
  ·split
   ·rw [zcZ];exact h
   ·exact zgy (by rw [zcZ];exact h)
theorem zoJ [W0] {d:List UInt8} {most:Nat}:∀{f:Nat} {s:S6},s.out.length≤most→(rwS d most f s).out.length≤most
 |0,s,h=>h
 |f+1,s,h=>by
  have hs:(tk d s 3).out.length≤most:=by rw [yw];exact h
  have hb:=zqt (d:=d) (k:=tv d s 3 / 2) hs
  rw [rwS]
  split
  ·exact hs
  ·split
   ·rw [ql];exact hs
   ·split
    ·exact hb
    ·split
     ·exact hb
     ·exact zoJ hb
theorem zdp [W0] (d:List UInt8) (most:Nat):(yZ d most).out.length≤most:=zoJ (Nat.zero_le _)
end Go.If
namespace Go.Proofs.YtfbfcapoobmdpaaGreatDoor
open Go Go.Vx Go.Hf Go.If
variable [W0]
set_option maxRecDepth 4000
set_option linter.all false
omit [W0] in
def gtN (t:List UInt8):Nat:=t.foldl (fun n x=>n * 256+x.toNat) 0
theorem zj4 (t:List UInt8) (x:UInt8):gtN (t++[x])=gtN t * 256+x.toNat:=by simp [gtN]
theorem zj3 (t:List UInt8) (h:t.length=4):gtN t=wdN (t.getD 0 0).toNat (t.getD 1 0).toNat (t.getD 2 0).toNat (t.getD 3 0).toNat:=by
 match t,h with
 |[a,b,c,d],_=>simp [gtN,wdN]
theorem zk6 (a:Option Addr) (c:Nat) (t:List UInt8) (L:List Chunk) (hv:Sl L 1 (.slice a t.length c) t.length (bsv t)) (hl:t.length≤7) :
 GvP Tryz.prog 65 [.slice a t.length c].toArray L (.int .u64 ((gtN t:Nat):Int)):=by
 refine Gv.of_body Tryz.func65 rfl rfl ?_
 (refine kW ?_)
 refine zn (X:=Nat) (fun k=>[(0,.slice a t.length c),(3,.int .u64 ((gtN (t.take k):Nat):Int)),(4,.int .i64 (k:Int))]) (fun _=>L)
  (fun k=>k≤t.length∧gtN (t.take k) < 256 ^ k) (fun k=>t.length - k) 0 ⟨Nat.zero_le _,by simp [gtN]⟩ iS (fun w h=>h) ?_
 rintro k ⟨hk,hb⟩
 ((repeat' first|refine kW ?_|refine kU fun bk=>?_|refine kV fun hc=>?_|refine kZ (fun hc=>?_) fun hc=>?_|fail)<;>try exact absurd trivial hc)
 ·have hlt:k < t.length:=by omega
  obtain ⟨bb,off,cap,cc,bT,bfr,hve,hfn,hcell⟩:=Qe hv hlt
  injection hve with e1 e2 e3
  subst e1 e3
  clear e2
  have h8:=(t.getD k 0).toNat_lt
  have hs:gtN (t.take (k+1))=gtN (t.take k) * 256+(t.getD k 0).toNat:=by rw [take_succ 0 hlt,zj4]
  have hp:256 ^ (k+1)=256 ^ k * 256:=Nat.pow_succ ..
  have hp7:256 ^ (k+1)≤256 ^ 7:=Nat.pow_le_pow_right (by decide) (by omega)
  generalize gtN (t.take k)=g at hb hs ⊢
  generalize (t.getD k 0).toNat=x at hcell h8 hs
  refine ze (qj (r:=256 * (g:Int)) rfl rfl rfl) rfl ?_
  rw [show 256 * (g:Int)=((256 * g:Nat):Int) from by omega,yX (k:=.u64) rfl (by simp only [IntKind.bits];omega)]
  (refine kW ?_)
  refine ze (zi (j:=k) rfl rfl rfl hlt) rfl ?_
  (refine kW ?_)
  refine ze (zq rfl hfn hcell) rfl ?_
  (refine kW ?_)
  refine ze (qj (r:=((256 * g:Nat):Int)+(x:Int)) rfl rfl rfl) rfl ?_
  rw [show ((256 * g:Nat):Int)+(x:Int)=((256 * g+x:Nat):Int) from by omega,yX (k:=.u64) rfl (by simp only [IntKind.bits];omega)]
  (refine kW ?_)
  rw [show 256 * g+x=gtN (t.take (k+1)) by omega]
  refine zf (X:=Nat) (μ:=fun k=>t.length - k) (x:=k) (k+1) (by omega) ⟨by omega,by omega⟩ iS (fun w h=>h)
 ·have hk:k=t.length:=by omega
  subst hk
  rw [List.take_length]
  refine kR ?_
  exact ⟨L,iC,rfl,rfl⟩
theorem zok (a:Option Addr) (c:Nat) (d:List UInt8) (mo:Int) (m:Nat) (L:List Chunk) (hv:Sl L 1 (.slice a d.length c) d.length (bsv d)) (hl:d.length≤1000000) (hcap:d.length≤c) (hm1:max mo 0=(m:Int)) (hm:m≤1000000) :
 Gv Tryz.prog 34 [.slice a d.length c,.int .i64 mo].toArray L (fun r L'=>
  (zlE d m≠0∧r=.agg #[.slice none 0 0,.int .i64 0,.int .i64 (zlE d m:Int)]∧L'=L)∨
  (zlE d m=0∧∃v C,r=.agg #[v,.int .i64 ((2+usd d m+4:Nat):Int),.int .i64 0]∧Ow 5 1 v (yZ (d.drop 2) m).out.length (bsv (yZ (d.drop 2) m).out) C∧L'=C::L)):=by
 refine Gv.of_body Tryz.func34 rfl rfl ?_
 ((repeat' first|refine kW ?_|refine kU fun bk=>?_|refine kV fun hc=>?_|refine kZ (fun hc=>?_) fun hc=>?_|fail)<;>try exact absurd trivial hc)
 ·have hz:zlE d m=4:=by unfold zlE;rw [if_pos (show d.length < 2 by omega)]
  rw [hz]
  first
   |(refine zX (vs:=[.agg #[.slice none 0 0,.int .i64 0,.int .i64 4]]) rfl (.agg ⟨by kernel_rfl,by kernel_rfl⟩ rfl (zK.cl' (vs:=[.slice none 0 0,.int .i64 0,.int .i64 4]) (by repeat (first|assumption|exact Fnd.here|refine Fnd.there ?_)) rfl) rfl .nil) ?_
     exact ⟨L,fun w h=>iH h,.inl ⟨by first|decide|assumption,rfl,rfl⟩⟩)
   |(refine yE (vs:=[.agg #[.slice none 0 0,.int .i64 0,.int .i64 4]]) rfl (.agg ⟨by kernel_rfl,by kernel_rfl⟩ rfl (zK.cl' (vs:=[.slice none 0 0,.int .i64 0,.int .i64 4]) (by repeat (first|assumption|exact Fnd.here|refine Fnd.there ?_)) rfl) rfl .nil) ?_
     exact ⟨L,fun w h=>iH h,.inl ⟨by first|decide|assumption,rfl,rfl⟩⟩)
 have h2:¬d.length < 2:=by omega
 have hz:zlE d m=if hdK (byt d 0) (byt d 1)=false then 3 else if (yZ (d.drop 2) m).e≠0 then (yZ (d.drop 2) m).e else if d.length < 2+usd d m+4 then 4 else if wdN (byt d (2+usd d m)) (byt d (2+usd d m+1)) (byt d (2+usd d m+2)) (byt d (2+usd d m+3))≠adS d m then 6 else 0:=by
  unfold zlE;rw [if_neg h2]
 rw [hz]
 clear hz
 obtain ⟨bb,off,cap,cc,T,fr,hve,hfn,hcs⟩:=zbn hv (by omega)
 injection hve with q1 q2 q3
 subst q1 q3
 clear q2
 have hx:=(d.getD 0 0).toNat_lt
 have hy:=(d.getD 1 0).toNat_lt
 have hc0:=hcs 0 (by omega)
 have hc1:=hcs 1 (by omega)
 generalize hKd:hdK (byt d 0) (byt d 1)=K
 have hdf:¬(byt d 0 % 16=8∧byt d 0 / 16≤7∧(byt d 0 * 256+byt d 1) % 31=0∧byt d 1&&&32=0)→hdK (byt d 0) (byt d 1)=false:=by
  intro h
  cases hh:hdK (byt d 0) (byt d 1)
  ·rfl
  ·exfalso
   unfold hdK at hh
   simp only [Bool.and_eq_true,beq_iff_eq,decide_eq_true_eq] at hh
   exact h ⟨hh.1.1.1,hh.1.1.2,hh.1.2,hh.2⟩
 have hdt:byt d 0 % 16=8∧byt d 0 / 16≤7∧(byt d 0 * 256+byt d 1) % 31=0∧byt d 1&&&32=0→hdK (byt d 0) (byt d 1)=true:=by
  rintro ⟨h1,h2,h3,h4⟩
  unfold hdK
  rw [h1,h3,h4,decide_eq_true h2]
  rfl
 change byt d 0 < 256 at hx
 change byt d 1 < 256 at hy
 change cc[off+0 * 1]? =some (Value.int .u8 (byt d 0:Int)) at hc0
 change cc[off+1 * 1]? =some (Value.int .u8 (byt d 1:Int)) at hc1
 generalize byt d 0=x at hx hc0 hdf hdt hKd
 generalize byt d 1=y at hy hc1 hdf hdt hKd
 refine zk [] mixed ?_
 (refine za 0 ?_)
 refine cT 1 rfl rfl (zi (j:=0) rfl rfl rfl (by omega)) ?_
 refine cT 2 rfl rfl (zq rfl hfn.there hc0) ?_
 refine cT 3 rfl rfl (uM (k:=.u8) x 4 rfl rfl rfl rfl rfl (by simp only [IntKind.bits];omega) (by decide)) ?_
 (refine za 4 ?_;refine za 5 ?_)
 by_cases c1:x % 16=8
 rotate_left
 ·rw [show (((x % 2 ^ 4:Nat):Int) != 8)=true from by simp;omega]
  (refine zD 6 ?_;refine zD 7 ?_;refine zD 8 ?_;refine zD 9 ?_;refine zD 10 ?_)
  (refine za 11 ?_;refine za 12 ?_)
  (refine zD 13 ?_;refine zD 14 ?_;refine zD 15 ?_;refine zD 16 ?_;refine zD 17 ?_;refine zD 18 ?_;refine zD 19 ?_;refine zD 20 ?_;refine zD 21 ?_;refine zD 22 ?_;refine zD 23 ?_;refine zD 24 ?_)
  (refine za 25 ?_;refine za 26 ?_)
  (refine zD 27 ?_;refine zD 28 ?_;refine zD 29 ?_;refine zD 30 ?_;refine zD 31 ?_)
  (refine za 32 ?_)
  have hK:K=false:=by rw [←hKd];exact hdf (fun h=>c1 h.1)
  rw [if_pos hK]
  refine cD ?_
  (refine kW ?_)
  first
   |(refine zX (vs:=[.agg #[.slice none 0 0,.int .i64 0,.int .i64 3]]) rfl (.agg ⟨by kernel_rfl,by kernel_rfl⟩ rfl (zK.cl' (vs:=[.slice none 0 0,.int .i64 0,.int .i64 3]) (by repeat (first|assumption|exact Fnd.here|refine Fnd.there ?_)) rfl) rfl .nil) ?_
     exact ⟨L,fun w h=>iH h,.inl ⟨by first|decide|assumption,rfl,rfl⟩⟩)
   |(refine yE (vs:=[.agg #[.slice none 0 0,.int .i64 0,.int .i64 3]]) rfl (.agg ⟨by kernel_rfl,by kernel_rfl⟩ rfl (zK.cl' (vs:=[.slice none 0 0,.int .i64 0,.int .i64 3]) (by repeat (first|assumption|exact Fnd.here|refine Fnd.there ?_)) rfl) rfl .nil) ?_
     exact ⟨L,fun w h=>iH h,.inl ⟨by first|decide|assumption,rfl,rfl⟩⟩)
 rw [show (((x % 2 ^ 4:Nat):Int) != 8)=false from by simp;omega]
 (refine zN 6 ?_)
 refine cO 7 rfl rfl rfl (zi (j:=0) rfl rfl rfl (by omega)) ?_
 refine cO 8 rfl rfl rfl (zq rfl hfn.there hc0) ?_
 refine cO 9 rfl rfl rfl (Zo (k:=.u8) x 4 rfl rfl rfl rfl (by simp only [IntKind.bits];omega)) ?_
 (refine zN 10 ?_)
 (refine za 11 ?_;refine za 12 ?_)
 by_cases c2:x / 16≤7
 rotate_left
 ·rw [show decide (((x / 2 ^ 4:Nat):Int) > 7)=true from by simp;omega]
  (refine zD 13 ?_;refine zD 14 ?_;refine zD 15 ?_;refine zD 16 ?_;refine zD 17 ?_;refine zD 18 ?_;refine zD 19 ?_;refine zD 20 ?_;refine zD 21 ?_;refine zD 22 ?_;refine zD 23 ?_;refine zD 24 ?_)
  (refine za 25 ?_;refine za 26 ?_)
  (refine zD 27 ?_;refine zD 28 ?_;refine zD 29 ?_;refine zD 30 ?_;refine zD 31 ?_)
  (refine za 32 ?_)
  have hK:K=false:=by rw [←hKd];exact hdf (fun h=>c2 h.2.1)
  rw [if_pos hK]
  refine cD ?_
  (refine kW ?_)
  first
   |(refine zX (vs:=[.agg #[.slice none 0 0,.int .i64 0,.int .i64 3]]) rfl (.agg ⟨by kernel_rfl,by kernel_rfl⟩ rfl (zK.cl' (vs:=[.slice none 0 0,.int .i64 0,.int .i64 3]) (by repeat (first|assumption|exact Fnd.here|refine Fnd.there ?_)) rfl) rfl .nil) ?_
     exact ⟨L,fun w h=>iH h,.inl ⟨by first|decide|assumption,rfl,rfl⟩⟩)
   |(refine yE (vs:=[.agg #[.slice none 0 0,.int .i64 0,.int .i64 3]]) rfl (.agg ⟨by kernel_rfl,by kernel_rfl⟩ rfl (zK.cl' (vs:=[.slice none 0 0,.int .i64 0,.int .i64 3]) (by repeat (first|assumption|exact Fnd.here|refine Fnd.there ?_)) rfl) rfl .nil) ?_
     exact ⟨L,fun w h=>iH h,.inl ⟨by first|decide|assumption,rfl,rfl⟩⟩)
 rw [show decide (((x / 2 ^ 4:Nat):Int) > 7)=false from by simp;omega]
 (refine zN 13 ?_)
 refine cO 14 rfl rfl rfl (zi (j:=0) rfl rfl rfl (by omega)) ?_
 refine cO 15 rfl rfl rfl (zq rfl hfn.there hc0) ?_
 (refine zN 16 ?_;refine zN 17 ?_;refine zN 18 ?_)
 refine cO 19 rfl rfl rfl (zi (j:=1) rfl rfl rfl (by omega)) ?_
 refine cO 20 rfl rfl rfl (zq rfl hfn.there hc1) ?_
 (refine zN 21 ?_;refine zN 22 ?_)
 refine cO 23 rfl rfl rfl (XC (x * 256+y) 31 rfl rfl (by omega) rfl (by decide)) ?_
 (refine zN 24 ?_)
 (refine za 25 ?_;refine za 26 ?_)
 by_cases c3:(x * 256+y) % 31=0
 rotate_left
 ·rw [show ((((x * 256+y) % 31:Nat):Int) != 0)=true from by simp;omega]
  (refine zD 27 ?_;refine zD 28 ?_;refine zD 29 ?_;refine zD 30 ?_;refine zD 31 ?_)
  (refine za 32 ?_)
  have hK:K=false:=by rw [←hKd];exact hdf (fun h=>c3 h.2.2.1)
  rw [if_pos hK]
  refine cD ?_
  (refine kW ?_)
  first
   |(refine zX (vs:=[.agg #[.slice none 0 0,.int .i64 0,.int .i64 3]]) rfl (.agg ⟨by kernel_rfl,by kernel_rfl⟩ rfl (zK.cl' (vs:=[.slice none 0 0,.int .i64 0,.int .i64 3]) (by repeat (first|assumption|exact Fnd.here|refine Fnd.there ?_)) rfl) rfl .nil) ?_
     exact ⟨L,fun w h=>iH h,.inl ⟨by first|decide|assumption,rfl,rfl⟩⟩)
   |(refine yE (vs:=[.agg #[.slice none 0 0,.int .i64 0,.int .i64 3]]) rfl (.agg ⟨by kernel_rfl,by kernel_rfl⟩ rfl (zK.cl' (vs:=[.slice none 0 0,.int .i64 0,.int .i64 3]) (by repeat (first|assumption|exact Fnd.here|refine Fnd.there ?_)) rfl) rfl .nil) ?_
     exact ⟨L,fun w h=>iH h,.inl ⟨by first|decide|assumption,rfl,rfl⟩⟩)
 rw [show ((((x * 256+y) % 31:Nat):Int) != 0)=false from by simp;omega]
 (refine zN 27 ?_)
 refine cO 28 rfl rfl rfl (zi (j:=1) rfl rfl rfl (by omega)) ?_
 refine cO 29 rfl rfl rfl (zq rfl hfn.there hc1) ?_
 refine cO 30 rfl rfl rfl (wZ rfl rfl (zdT (a:=y) (b:=32) hy (by decide))) ?_
 (refine zN 31 ?_)
 (refine za 32 ?_)
 by_cases c4:y&&&32=0
 rotate_left
 ·rw [show (((y&&&32:Nat):Int) != 0)=true from by simp;omega]
  have hK:K=false:=by rw [←hKd];exact hdf (fun h=>c4 h.2.2.2)
  rw [if_pos hK]
  refine cD ?_
  (refine kW ?_)
  first
   |(refine zX (vs:=[.agg #[.slice none 0 0,.int .i64 0,.int .i64 3]]) rfl (.agg ⟨by kernel_rfl,by kernel_rfl⟩ rfl (zK.cl' (vs:=[.slice none 0 0,.int .i64 0,.int .i64 3]) (by repeat (first|assumption|exact Fnd.here|refine Fnd.there ?_)) rfl) rfl .nil) ?_
     exact ⟨L,fun w h=>iH h,.inl ⟨by first|decide|assumption,rfl,rfl⟩⟩)
   |(refine yE (vs:=[.agg #[.slice none 0 0,.int .i64 0,.int .i64 3]]) rfl (.agg ⟨by kernel_rfl,by kernel_rfl⟩ rfl (zK.cl' (vs:=[.slice none 0 0,.int .i64 0,.int .i64 3]) (by repeat (first|assumption|exact Fnd.here|refine Fnd.there ?_)) rfl) rfl .nil) ?_
     exact ⟨L,fun w h=>iH h,.inl ⟨by first|decide|assumption,rfl,rfl⟩⟩)
 rw [show (((y&&&32:Nat):Int) != 0)=false from by simp;omega]
 have hK:K=true:=by rw [←hKd];exact hdt ⟨c1,c2,c3,c4⟩
 rw [if_neg (show ¬K=false from by rw [hK];decide)]
 refine cD ?_
 (refine kW ?_)
 clear hKd hdf hdt hx hy hc0 hc1
 have hsub:∀k,k≤d.length→Sl L 1 (.slice (some ⟨bb,if c=k then off else off+k * 1,none⟩) (d.length - k) (c - k)) (d.length - k) (bsv (d.drop k)):=by
  intro k hk
  refine .inr ⟨_,_,rfl,?_,by rw [zH,List.length_drop,Nat.mul_one]⟩
  by_cases h0:d.length=k
  ·refine .inl ?_
   rw [List.drop_of_length_le (by omega)];rfl
  ·rw [if_neg (by omega)]
   refine .inr ⟨bb,_,cc,T,fr,rfl,hfn,fun j u hj=>?_⟩
   have hjl:j < (d.drop k).length:=by
    have:=(List.getElem?_eq_some_iff.1 hj).1
    rwa [zH] at this
   have hj2:u=.int .u8 ((d.getD (k+j) 0).toNat:Int):=by
    have h3:=wW (l:=d.drop k) (i:=j) (b:=d.getD (k+j) 0) (by rw [List.length_drop] at hjl;simp [List.getD,show k+j < d.length by omega])
    rw [h3] at hj
    injection hj with hj
    exact hj.symm
   rw [hj2,show off+k * 1+j=off+(k+j) * 1 from by omega]
   rw [List.length_drop] at hjl
   exact hcs (k+j) (by omega)
 obtain ⟨gr,hgr⟩:∃gr,gr=bk:=⟨_,rfl⟩
 rw [←hgr]
 clear hgr
 refine yC (L':=[(gr,cl [.slice none 0 0,.int .i64 0,.int .i64 0] 76)]::L) (fun w h=>h) ?_
 have hra:=zqo (some ⟨bb,if c=2 then off else off+2 * 1,none⟩) (c - 2) (d.drop 2) mo m ([(gr,cl [.slice none 0 0,.int .i64 0,.int .i64 0] 76)]::L) (by rw [List.length_drop];exact zm (hsub 2 (by omega))) (by rw [List.length_drop];omega) hm1 hm
 rw [List.length_drop] at hra
 have hus:usd d m=((yZ (d.drop 2) m).t+7) / 8:=rfl
 have had:adS d m=(Ql (uO (1#32,0#32) (yZ (d.drop 2) m).out)).toNat:=rfl
 have hrm:=zdp (d.drop 2) m
 generalize yZ (d.drop 2) m=R at hra hus had hrm ⊢
 rw [←hus] at hra
 generalize usd d m=n at hra hus ⊢
 generalize adS d m=ad at had ⊢
 refine ze (yS (l:=2) (h:=d.length) rfl rfl rfl (by omega) hcap) rfl ?_
 (refine kW ?_)
 refine cC rfl rfl hra (fun r L' hp=>?_)
 rcases hp with ⟨h3,rfl,rfl⟩|⟨h3,v1,C1,rfl,ho1,ht1,rfl⟩
 ·rw [if_pos h3]
  ((refine kW ?_;refine kU fun bk=>?_;refine kW ?_;refine kV fun hc=>?_;refine kW ?_))
  first
   |(refine zX (vs:=[.agg #[.slice none 0 0,.int .i64 0,.int .i64 (R.e:Int)]]) rfl (.agg ⟨by kernel_rfl,by kernel_rfl⟩ rfl (zK.cl' (vs:=[.slice none 0 0,.int .i64 0,.int .i64 (R.e:Int)]) (by repeat (first|assumption|exact Fnd.here|refine Fnd.there ?_)) rfl) rfl .nil) ?_
     exact ⟨L,fun w h=>iH h,.inl ⟨by first|decide|assumption,rfl,rfl⟩⟩)
   |(refine yE (vs:=[.agg #[.slice none 0 0,.int .i64 0,.int .i64 (R.e:Int)]]) rfl (.agg ⟨by kernel_rfl,by kernel_rfl⟩ rfl (zK.cl' (vs:=[.slice none 0 0,.int .i64 0,.int .i64 (R.e:Int)]) (by repeat (first|assumption|exact Fnd.here|refine Fnd.there ?_)) rfl) rfl .nil) ?_
     exact ⟨L,fun w h=>iH h,.inl ⟨by first|decide|assumption,rfl,rfl⟩⟩)
 rw [if_neg (show ¬R.e≠0 by omega)]
 have hn2:2+n≤d.length:=by omega
 obtain ⟨v1a,v1c,rfl⟩:=zM ho1
 ((repeat' first|refine kW ?_|refine kU fun bk=>?_|refine kV fun hc=>?_|refine kZ (fun hc=>?_) fun hc=>?_|fail)<;>try exact absurd trivial hc)
 ·rw [if_pos (show d.length < 2+n+4 by omega)]
  first
   |(refine zX (vs:=[.agg #[.slice none 0 0,.int .i64 0,.int .i64 4]]) rfl (.agg ⟨by kernel_rfl,by kernel_rfl⟩ rfl (zK.cl' (vs:=[.slice none 0 0,.int .i64 0,.int .i64 4]) (by repeat (first|assumption|exact Fnd.here|refine Fnd.there ?_)) rfl) rfl .nil) ?_
     exact ⟨L,fun w h=>iH h,.inl ⟨by first|decide|assumption,rfl,rfl⟩⟩)
   |(refine yE (vs:=[.agg #[.slice none 0 0,.int .i64 0,.int .i64 4]]) rfl (.agg ⟨by kernel_rfl,by kernel_rfl⟩ rfl (zK.cl' (vs:=[.slice none 0 0,.int .i64 0,.int .i64 4]) (by repeat (first|assumption|exact Fnd.here|refine Fnd.there ?_)) rfl) rfl .nil) ?_
     exact ⟨L,fun w h=>iH h,.inl ⟨by first|decide|assumption,rfl,rfl⟩⟩)
 rw [if_neg (show ¬d.length < 2+n+4 by omega)]
 have hS4:Sl L 1 (.slice (some ⟨bb,off+(2+n) * 1,none⟩) 4 (c - (2+n))) 4 (bsv ((d.drop (2+n)).take 4)):=by
  refine .inr ⟨_,_,rfl,.inr ⟨bb,_,cc,T,fr,rfl,hfn,fun j u hj=>?_⟩,by rw [zH,List.length_take,List.length_drop];omega⟩
  have hjl:j < ((d.drop (2+n)).take 4).length:=by
   have:=(List.getElem?_eq_some_iff.1 hj).1
   rwa [zH] at this
  rw [List.length_take,List.length_drop] at hjl
  have h3:=wW (l:=(d.drop (2+n)).take 4) (i:=j) (b:=d.getD (2+n+j) 0) (by rw [List.getElem?_take,if_pos (by omega),List.getElem?_drop];simp [List.getD,show 2+n+j < d.length by omega])
  rw [h3] at hj
  injection hj with hj
  rw [←hj,show off+(2+n) * 1+j=off+(2+n+j) * 1 from by omega]
  exact hcs (2+n+j) (by omega)
 have hl4:((d.drop (2+n)).take 4).length=4:=by rw [List.length_take,List.length_drop];omega
 have hwd:gtN ((d.drop (2+n)).take 4)=wdN (byt d (2+n)) (byt d (2+n+1)) (byt d (2+n+2)) (byt d (2+n+3)):=by
  have hg:∀j,j < 4→(((d.drop (2+n)).take 4).getD j 0).toNat=byt d (2+n+j):=fun j hj=>by simp [byt,List.getD,List.getElem?_take,hj]
  rw [zj3 _ hl4,hg 0 (by decide),hg 1 (by decide),hg 2 (by decide),hg 3 (by decide)]
  rfl
 have hgt:=fun L (h:Sl L 1 (.slice (some ⟨bb,off+(2+n) * 1,none⟩) 4 (c - (2+n))) 4 (bsv ((d.drop (2+n)).take 4)))=>zk6 (some ⟨bb,off+(2+n) * 1,none⟩) (c - (2+n)) ((d.drop (2+n)).take 4) L (by rw [hl4];exact h) (by omega)
 rw [hwd,hl4] at hgt
 generalize wdN (byt d (2+n)) (byt d (2+n+1)) (byt d (2+n+2)) (byt d (2+n+3))=wd at hgt ⊢
 have hadl:∀L,GvP Tryz.prog 66 [.string (str R.out)].toArray L (.int .u32 (ad:Int)):=fun L=>by rw [had];exact zfY R.out L (by omega)
 have hadb:ad < 2 ^ 32:=by rw [had];exact BitVec.isLt _
 rw [show (2:Int)+(n:Int)=((2+n:Nat):Int) from by omega]
 obtain ⟨go,hgo⟩:∃go,go=bk:=⟨_,rfl⟩
 rw [←hgo]
 clear hgo
 refine wJ (L':=[(go,cl [.slice v1a R.out.length v1c,.int .i64 (n:Int),.int .i64 0] 76)]::C1::[(gr,cl [.slice none 0 0,.int .i64 0,.int .i64 0] 76)]::L) (fun w h=>h) ?_
 refine yQ [[(go,cl [.slice v1a R.out.length v1c,.int .i64 (n:Int),.int .i64 0] 76)],C1] [] mixed ?_
 (refine za 0 ?_;refine za 1 ?_;refine za 2 ?_;refine za 3 ?_)
 refine cT 4 rfl rfl (yS (l:=2+n) (h:=2+n+4) rfl rfl rfl (by omega) (by omega)) ?_
 rw [if_neg (show ¬c=2+n by omega),show 2+n+4 - (2+n)=4 from by omega]
 (refine za 6 ?_;refine za 7 ?_)
 refine cT 8 rfl rfl (qC (m:=R.out.length) (b:=R.out) rfl (by exact zm (qy ho1))) ?_
 refine cI 5 rfl rfl ?_
 refine cP rfl rfl (hgt _ (by repeat (first|exact hS4|apply zm))) ?_
 refine ⟨iC,?_⟩
 refine cI 9 rfl rfl ?_
 refine cP rfl rfl (hadl _) ?_
 refine ⟨iC,?_⟩
 refine cT 10 rfl rfl (vG ad rfl rfl rfl (by simp only [IntKind.bits];omega)) ?_
 (refine za 11 ?_)
 refine cD ?_
 ((repeat' first|refine kW ?_|refine kU fun bk=>?_|refine kV fun hc=>?_|refine kZ (fun hc=>?_) fun hc=>?_|fail)<;>try exact absurd trivial hc)
 ·rw [if_pos (show wd≠ad by omega)]
  first
   |(refine zX (vs:=[.agg #[.slice none 0 0,.int .i64 0,.int .i64 6]]) rfl (.agg ⟨by kernel_rfl,by kernel_rfl⟩ rfl (zK.cl' (vs:=[.slice none 0 0,.int .i64 0,.int .i64 6]) (by repeat (first|assumption|exact Fnd.here|refine Fnd.there ?_)) rfl) rfl .nil) ?_
     exact ⟨L,fun w h=>iH h,.inl ⟨by first|decide|assumption,rfl,rfl⟩⟩)
   |(refine yE (vs:=[.agg #[.slice none 0 0,.int .i64 0,.int .i64 6]]) rfl (.agg ⟨by kernel_rfl,by kernel_rfl⟩ rfl (zK.cl' (vs:=[.slice none 0 0,.int .i64 0,.int .i64 6]) (by repeat (first|assumption|exact Fnd.here|refine Fnd.there ?_)) rfl) rfl .nil) ?_
     exact ⟨L,fun w h=>iH h,.inl ⟨by first|decide|assumption,rfl,rfl⟩⟩)
 ·rw [if_neg (show ¬wd≠ad by omega)]
  rw [show (2:Int)+(n:Int)+4=((2+n+4:Nat):Int) from by omega]
  first
   |(refine zX (vs:=[.agg #[.slice v1a R.out.length v1c,.int .i64 ((2+n+4:Nat):Int),.int .i64 0]]) rfl (.agg ⟨by kernel_rfl,by kernel_rfl⟩ rfl (zK.cl' (vs:=[.slice v1a R.out.length v1c,.int .i64 ((2+n+4:Nat):Int),.int .i64 0]) (by repeat (first|assumption|exact Fnd.here|refine Fnd.there ?_)) rfl) rfl .nil) ?_
     exact ⟨C1::L,fun w h=>iH h,.inr ⟨rfl,_,C1,rfl,ho1,rfl⟩⟩)
   |(refine yE (vs:=[.agg #[.slice v1a R.out.length v1c,.int .i64 ((2+n+4:Nat):Int),.int .i64 0]]) rfl (.agg ⟨by kernel_rfl,by kernel_rfl⟩ rfl (zK.cl' (vs:=[.slice v1a R.out.length v1c,.int .i64 ((2+n+4:Nat):Int),.int .i64 0]) (by repeat (first|assumption|exact Fnd.here|refine Fnd.there ?_)) rfl) rfl .nil) ?_
     exact ⟨C1::L,fun w h=>iH h,.inr ⟨rfl,_,C1,rfl,ho1,rfl⟩⟩)
end Go.Proofs.YtfbfcapoobmdpaaGreatDoor
namespace Go.Proofs.YtfbfcapoobmdpaaGreatDoor
open Go Go.Vx Go.Ob Go.Hf Go.If
variable [W0]
set_option linter.all false
set_option maxRecDepth 4000
def psO (d:List UInt8):List UInt8:=(yZ (d.drop 2) 65568).out
def psF (e:Nat) (u l:Nat) (t:List UInt8):Nat:=
 if e≠0 then e else if psK t=0∨u≠l then 3 else if 65536 < (psB t).length then 5 else 0
def psE (d:List UInt8):Nat:=psF (zlE d 65568) (2+usd d 65568+4) d.length (psO d)
def prK (d:List UInt8):Nat:=if psE d=0 then psK (psO d) else 0
def prB (d:List UInt8):List UInt8:=if psE d=0 then psB (psO d) else []
theorem zdm (a:Option Addr) (c:Nat) (d:List UInt8) (L:List Chunk) (hv:Sl L 1 (.slice a d.length c) d.length (bsv d)) (hl:d.length≤140737488355328) (hcap:d.length≤c) (hb:wO L) (hor:qP L) :
 Gv Tryz.prog 13 [.slice a d.length c].toArray L (fun r L'=>∃v C,r=.tuple #[.int .i64 (prK d:Int),v,.int .i64 (psE d:Int)]∧(∀L0,SlC (C::L0) 1 v (prB d).length (bsv (prB d)))∧L'=C::L):=by
 refine Gv.of_body (args:=[.slice a d.length c]) Tryz.func13 rfl rfl ?_
 have hp:=znP a c d 65568 65568 L hv hl hcap (by decide) (by omega) hor
 have hm:(psO d).length≤65568:=zdp (d.drop 2) 65568
 have hnil:∀L0:List Chunk,SlC L0 1 (.slice none 0 0) ([]:List UInt8).length (bsv []):=fun L0=>⟨.inl ⟨0,rfl,rfl,rfl⟩,_,_,rfl,Nat.le_refl _⟩
 unfold prK prB psE
 change Gv _ _ _ _ (fun r L'=>(_∧_)∨(_∧∃v C,_∧Ow _ 1 v (psO d).length (bsv (psO d)) C∧_∧_)) at hp
 generalize zlE d 65568=e at hp ⊢
 generalize psO d=t at hp hm ⊢
 generalize 2+usd d 65568+4=u at hp ⊢
 refine kW ?_
 refine cC rfl rfl hp (fun r L' hp=>?_)
 rcases hp with ⟨h1,rfl,rfl⟩|⟨h1,v1,C1,rfl,ho1,hl1,rfl⟩
 ·have hE:psF e u d.length t=e:=if_pos h1
  rw [hE,if_neg h1,if_neg h1]
  (refine kW ?_;refine kV fun hc=>?_;refine kW ?_)
  refine kH ?_
  exact ⟨[]::L',fun w h=>Holds.nil.2 (iH h),_,[],rfl,fun L0=>hnil _,rfl⟩
 ·obtain ⟨a1,c1,rfl⟩:=zM ho1
  have hE:psF e u d.length t=if psK t=0∨u≠d.length then 3 else if 65536 < (psB t).length then 5 else 0:=if_neg (fun h=>h h1)
  refine kW ?_
  refine zl (cs:=bsv [0]) rfl (by rfl) (by simp [zA,patch,Value.cells,zeros];rfl) (by omega) rfl rfl (fun b1=>?_)
  refine kW ?_
  refine cC rfl rfl (zfi (.slice a1 t.length c1) _ t C1 _ ho1 (ByV.ow ho1).there (zF (c:=(bsv [0]).toArray) (xs:=bsv [0]) (m:=1) Fnd.here rfl (by simp)) (by omega)) (fun r L' hp=>?_)
  obtain ⟨v2,v3,rfl,h2,h3,rfl⟩:=hp
  obtain ⟨a3,c3,rfl,_⟩:=(h3 []).room
  have hle:=YW 0 t
  refine kW ?_
  refine ze (qC (m:=(Ob.zZ 0 t).1.length) (b:=(Ob.zZ 0 t).1) rfl (zm (h2 _).sl)) rfl ?_
  refine kW ?_
  refine cP rfl rfl (zko (Ob.zZ 0 t).1 (Ob.zZ 0 t).2.length _ (by repeat (first|exact hb|apply wO.there)) (by omega) (by omega)) ?_
  by_cases hA:(0:UInt8)∈t∧kdL (Ob.zZ 32 (Ob.zZ 0 t).1).1≠0∧(Ob.zZ 32 (Ob.zZ 0 t).1).2=dgL (Ob.zZ 0 t).2.length
  ·have hk:psK t=kdL (Ob.zZ 32 (Ob.zZ 0 t).1).1:=if_pos hA
   rw [decide_eq_true hA.1,decide_eq_true hA.2,←hk]
   have hk0:psK t≠0:=by rw [hk];exact hA.2.1
   change ∀L0,SlC (C1::L0) 1 _ (psB t).length (bsv (psB t)) at h3
   obtain ⟨bl,hbl⟩:∃bl,bl=(Ob.zZ 0 t).2.length:=⟨_,rfl⟩
   rw [←hbl] at hle hA h3 ⊢
   (repeat' first|refine kW ?_|refine kU fun bk=>?_|refine kV fun hc=>?_|refine kZ (fun hc=>?_) fun hc=>?_|fail)
   ·have hX:psF e u d.length t=3:=by rw [hE,if_pos (.inr (by omega))]
    rw [hX,if_neg (by decide),if_neg (by decide)]
    refine kR ?_
    exact ⟨C1::L,iC,_,C1,rfl,fun L0=>hnil _,rfl⟩
   ·have hX:psF e u d.length t=5:=by rw [hE,if_neg (fun h=>h.elim hk0 (fun h=>h (by omega))),if_pos (by show 65536 < (Ob.zZ 0 t).2.length;omega)]
    rw [hX,if_neg (by decide),if_neg (by decide)]
    refine kR ?_
    exact ⟨C1::L,iC,_,C1,rfl,fun L0=>hnil _,rfl⟩
   ·have hX:psF e u d.length t=0:=by rw [hE,if_neg (fun h=>h.elim hk0 (fun h=>h (by omega))),if_neg (by show ¬65536 < (Ob.zZ 0 t).2.length;omega)]
    rw [hX,if_pos rfl,if_pos rfl]
    refine kR ?_
    exact ⟨C1::L,iC,_,C1,rfl,h3,rfl⟩
  ·have hk:psK t=0:=if_neg hA
   have hX:psF e u d.length t=3:=by rw [hE,if_pos (.inl hk)]
   rw [hX,if_neg (by decide),if_neg (by decide)]
   by_cases hB:kdL (Ob.zZ 32 (Ob.zZ 0 t).1).1≠0∧(Ob.zZ 32 (Ob.zZ 0 t).1).2=dgL (Ob.zZ 0 t).2.length
   ·rw [decide_eq_true hB,decide_eq_false (fun h=>hA ⟨h,hB⟩)]
    refine kW ?_
    refine kR ?_
    exact ⟨C1::L,iC,_,C1,rfl,fun L0=>hnil _,rfl⟩
   ·rw [decide_eq_false hB]
    refine kW ?_
    refine kR ?_
    exact ⟨C1::L,iC,_,C1,rfl,fun L0=>hnil _,rfl⟩
theorem zpg {t:List UInt8} {i:Nat} (hi:i < t.length) (h0:∀j,j < i→t.getD j 0≠0) (hz:t.getD i 0=0):(0:UInt8)∈t∧Ob.zZ 0 t=(t.take i,t.drop (i+1))∧(Ob.zZ 0 t).1++[0]=t.take (i+1):=by
 have e:t=t.take i++(0:UInt8)::t.drop (i+1):=by
  have h1:t.drop i=t.getD i 0::t.drop (i+1):=by
   rw [List.getD_eq_getElem?_getD,List.getElem?_eq_getElem hi]
   exact List.drop_eq_getElem_cons hi
  rw [hz] at h1
  rw [←h1,List.take_append_drop]
 have hn:(0:UInt8)∉t.take i:=fun h=>by
  obtain ⟨j,hj,hx⟩:=List.getElem_of_mem h
  rw [List.length_take] at hj
  refine h0 j (by omega) ?_
  rw [List.getElem_take] at hx
  rw [List.getD_eq_getElem?_getD,List.getElem?_eq_getElem (by omega)]
  exact hx
 have hc:Ob.zZ 0 t=(t.take i,t.drop (i+1)):=by
  conv=>lhs;rw [e]
  exact XP 0 _ _ hn
 refine ⟨by rw [e];simp,hc,?_⟩
 rw [hc,take_succ 0 hi,hz]
theorem znM {t:List UInt8} {k i:Nat} (h1:1≤k) (h2:k≤4) (hl:t.length≤1000000) (hi:t.length≤i∨40≤i) (h0:∀j,j < i→j < t.length→t.getD j 0≠0):psK t≠k:=fun h=>by
 obtain ⟨h3,h4⟩:=(zdo h1 h2).1 h
 have hb:(psB t).length≤t.length:=(YW 0 t).2
 have h5:=zc6 (k:Int) ((psB t).length:Int) (by omega)
 rw [h4,List.length_append,List.length_singleton] at h5
 rcases YX 0 t with ⟨h6,_⟩|⟨a,b,ha,e,hc⟩
 ·exact h6 h3
 ·rw [hc] at h5
  simp only at h5
  have hlt:a.length < t.length:=by rw [e];simp
  refine h0 a.length (by omega) hlt ?_
  conv=>lhs;rw [e]
  simp [List.getD_eq_getElem?_getD]
theorem zfo (a:Option Addr) (c:Nat) (d:List UInt8) (L:List Chunk) (hv:Sl L 1 (.slice a d.length c) d.length (bsv d)) (hl:d.length≤1000000) (hcap:d.length≤c) :
 GvP Tryz.prog 14 [.slice a d.length c].toArray L (.tuple #[.int .i64 (prK d:Int),.string (str (prB d)),.int .i64 (psE d:Int)]):=by
 refine Gv.of_body (args:=[.slice a d.length c]) Tryz.func14 rfl rfl ?_
 have hp:=zok a c d 65568 65568 L hv hl hcap (by decide) (by omega)
 have hm:(psO d).length≤65568:=zdp (d.drop 2) 65568
 unfold prK prB psE
 change Gv _ _ _ _ (fun r L'=>(_∧_)∨(_∧∃v C,_∧Ow _ 1 v (psO d).length (bsv (psO d)) C∧_)) at hp
 generalize zlE d 65568=e at hp ⊢
 generalize psO d=t at hp hm ⊢
 generalize 2+usd d 65568+4=u at hp ⊢
 refine kW ?_
 refine cC rfl rfl hp (fun r L' hp=>?_)
 rcases hp with ⟨h1,rfl,rfl⟩|⟨h1,v1,C1,rfl,ho1,rfl⟩
 ·have hE:psF e u d.length t=e:=if_pos h1
  rw [hE,if_neg h1,if_neg h1]
  (refine kW ?_;refine kU fun bk=>?_;refine kW ?_;refine kV fun hc=>?_;refine kW ?_)
  refine zk [] mixed ?_
  (refine za 0 ?_;refine za 1 ?_;refine za 2 ?_;refine za 3 ?_;refine za 4 ?_)
  refine cD ?_
  refine kW ?_
  exact kE
 ·obtain ⟨a1,c1,rfl⟩:=zM ho1
  have hE:psF e u d.length t=if psK t=0∨u≠d.length then 3 else if 65536 < (psB t).length then 5 else 0:=if_neg (fun h=>h h1)
  subst h1
  (refine kW ?_;refine kU fun bk=>?_;refine kW ?_)
  refine yC (L':=[(bk,cl [.slice a1 t.length c1,.int .i64 (u:Int),.int .i64 0] 76)]::C1::L) (fun w h=>h) ?_
  refine ze (qC (m:=t.length) (b:=t) rfl (zm (qy ho1))) rfl ?_
  refine kW ?_
  refine zn (X:=Nat) (fun k=>[(0,.slice a d.length c),(5,.pointer (some ⟨bk,0,none⟩)),(6,.string (str t)),(7,.int .i64 (k:Int))]) (fun _=>[(bk,cl [.slice a1 t.length c1,.int .i64 (u:Int),.int .i64 0] 76)]::C1::L)
   (fun k=>1≤k∧k≤5∧∀j,1≤j→j < k→psK t≠j) (fun k=>5 - k) 1 ⟨by omega,by omega,fun j h1 h2=>by omega⟩ iS (fun w h=>h) ?_
  rintro k ⟨h1,h2,h3⟩
  (repeat' first|refine kW ?_|refine kU fun bk=>?_|refine kV fun hc=>?_|refine kZ (fun hc=>?_) fun hc=>?_|fail)
  ·refine zn (X:=Nat) (fun i=>[(0,.slice a d.length c),(5,.pointer (some ⟨bk,0,none⟩)),(6,.string (str t)),(7,.int .i64 (k:Int)),(8,.int .i64 (i:Int))]) (fun _=>[(bk,cl [.slice a1 t.length c1,.int .i64 (u:Int),.int .i64 0] 76)]::C1::L)
    (fun i=>i≤t.length∧i≤40∧∀j,j < i→t.getD j 0≠0) (fun i=>40 - i) 0 ⟨by omega,by omega,fun j h=>by omega⟩ iS (fun w h=>h) ?_
   rintro i ⟨g1,g2,g3⟩
   have z1:(str t).size=t.length:=yD t
   have hnear:=fun hh=>znM (t:=t) (k:=k) (i:=i) h1 (by omega) (by omega) hh (fun j hj _=>g3 j hj)
   (repeat' first|refine kW ?_|refine kU fun bk=>?_|refine kV fun hc=>?_|refine kZ (fun hc=>?_) fun hc=>?_|fail)
   ·have hlt:i < t.length:=by omega
    refine ze (yK (s:=str t) rfl rfl rfl (Yc hlt)) rfl ?_
    (repeat' first|refine kW ?_|refine kU fun bk=>?_|refine kV fun hc=>?_|refine kZ (fun hc=>?_) fun hc=>?_|fail)
    ·refine zf (X:=Nat) (μ:=fun i=>40 - i) (x:=i) (i+1) (by omega) ⟨by omega,by omega,fun j hj=>?_⟩ iS (fun w h=>h)
     rcases Nat.lt_or_ge j i with h|h
     ·exact g3 j h
     ·rw [show j=i from by omega]
      exact fun h=>hc (by rw [h];rfl)
    ·have hz:t.getD i 0=0:=UInt8.toNat_inj.1 (by show (t.getD i 0).toNat=0;omega)
     obtain ⟨q1,q2,q3⟩:=zpg hlt g3 hz
     have hB:psB t=t.drop (i+1):=by unfold psB;rw [q2]
     have hBl:(psB t).length=t.length - (i+1):=by rw [hB,List.length_drop]
     have hiff:=zdo (t:=t) h1 (show k≤4 by omega)
     rw [q3] at hiff
     refine ze (ZM t (i+1) t.length rfl (qH rfl (by omega)) rfl (by omega) (Nat.le_refl _)) rfl ?_
     rw [List.take_of_length_le (by rw [List.length_drop];exact Nat.le_refl _),←hB]
     refine kW ?_
     refine zk [] mixed ?_
     (refine za 0 ?_;refine za 1 ?_;refine za 2 ?_;refine za 4 ?_;refine za 5 ?_;refine za 6 ?_)
     refine cT 7 rfl rfl (ZM t 0 (i+1) rfl rfl (qH rfl (by omega)) (by omega) (by omega)) ?_
     refine cI 3 rfl rfl ?_
     refine cP rfl rfl (zeC (k:Int) ((psB t).length:Int) _ (by omega)) ?_
     refine ⟨iC,?_⟩
     refine cT 8 rfl rfl (zoR (hdL (k:Int) ((psB t).length:Int)) (t.take (i+1)) rfl rfl) ?_
     refine cD ?_
     by_cases hkk:psK t=k
     ·rw [decide_eq_true (hiff.1 hkk).2]
      have z2:(str (psB t)).size=(psB t).length:=yD _
      (repeat' first|refine kW ?_|refine kU fun bk=>?_|refine kV fun hc=>?_|refine kZ (fun hc=>?_) fun hc=>?_|fail)
      ·have hX:psF 0 u d.length t=5:=by rw [hE,if_neg (fun h=>h.elim (by omega) (fun h=>h (by omega))),if_pos (by omega)]
       rw [hX,if_neg (by decide),if_neg (by decide)]
       exact kE
      ·have hX:psF 0 u d.length t=0:=by rw [hE,if_neg (fun h=>h.elim (by omega) (fun h=>h (by omega))),if_neg (by omega)]
       rw [hX,if_pos rfl,if_pos rfl,hkk]
       exact kE
     ·rw [decide_eq_false (fun h=>hkk (hiff.2 ⟨q1,h⟩))]
      refine kW ?_
      refine zf (X:=Nat) (μ:=fun k=>5 - k) (x:=k) (k+1) (by omega) ⟨by omega,by omega,fun j g1 g2=>?_⟩ iS (fun w h=>h)
      rcases Nat.lt_or_ge j k with h|h
      ·exact h3 j g1 h
      ·rw [show j=k from by omega];exact hkk
   all_goals (
    refine zf (X:=Nat) (μ:=fun k=>5 - k) (x:=k) (k+1) (by omega) ⟨by omega,by omega,fun j g1 g2=>?_⟩ iS (fun w h=>h)
    rcases Nat.lt_or_ge j k with h|h
    ·exact h3 j g1 h
    ·rw [show j=k from by omega];exact hnear (by omega))
  ·have hX:psF 0 u d.length t=3:=by rw [hE,if_pos (.inr (by omega))]
   rw [hX,if_neg (by decide),if_neg (by decide)]
   exact kE
  ·have hk:psK t=0:=by
    have:=zpW t
    rcases Nat.eq_zero_or_pos (psK t) with h|h
    ·exact h
    ·exact absurd rfl (h3 (psK t) h (by omega))
   have hX:psF 0 u d.length t=3:=by rw [hE,if_pos (.inl hk)]
   rw [hX,if_neg (by decide),if_neg (by decide)]
   exact kE
end Go.Proofs.YtfbfcapoobmdpaaGreatDoor
namespace Go.If
open Go.Vx Go.Hf
set_option linter.all false
def At (d:List UInt8) (t v n:Nat):Prop:=val d / 2 ^ t % 2 ^ n=v∧t+n≤8 * d.length
theorem YP [W0] {d:List UInt8} {s:S6} {v n:Nat} (h:At d s.t v n):tk d s n=⟨s.t+n,s.out,s.e⟩∧tv d s n=v:=⟨zhB h.2,by rw [zoP h.2];exact h.1⟩
theorem At.split {d:List UInt8} {t v n r m:Nat} (h:At d t (v+2 ^ n * r) (n+m)) (hv:v < 2 ^ n):At d t v n∧At d (t+n) r m:=by
 obtain ⟨h1,h2⟩:=h
 rw [Nat.pow_add,Nat.mod_mul] at h1
 generalize hx:val d / 2 ^ t=x at h1
 have hp:0 < 2 ^ n:=Nat.pow_pos (by decide)
 have hlt:=Nat.mod_lt x hp
 have e1:x % 2 ^ n=v:=by
  have h3:=congrArg (· % 2 ^ n) h1
  simp only [Nat.add_mul_mod_self_left] at h3
  rwa [Nat.mod_eq_of_lt hlt,Nat.mod_eq_of_lt hv] at h3
 have e2:x / 2 ^ n % 2 ^ m=r:=by
  rw [e1] at h1
  have h4:2 ^ n * (x / 2 ^ n % 2 ^ m)=2 ^ n * r:=by omega
  exact Nat.eq_of_mul_eq_mul_left hp h4
 refine ⟨⟨by rw [hx];exact e1,by omega⟩,⟨?_,by omega⟩⟩
 rw [Nat.pow_add,←Nat.div_div_eq_div_mul,hx]
 exact e2
theorem zrb [W0] {d:List UInt8} {s:S6} {l:List Nat} {i n:Nat} (he:s.e=0) (hi:l[i]? =some n) (h0:0 < n) (h15:n≤15) (hc:cd l i < 2 ^ n) (h:At d s.t (mir (cd l i) n) n) :
 sy d s l=⟨s.t+n,s.out,0⟩∧sv d s l=i:=by
 have hb:hv (val d) s.t n=cd l i:=by
  rw [zkc,←zg6 (val d / 2 ^ s.t) (Nat.le_refl n),h.1,znw,Nat.mod_eq_of_lt hc]
 have hr:=zp0 (z:=8 * d.length) hi h0 h15 hb h.2
 unfold sy sv fl
 rw [if_pos he,if_pos (by exact he),if_pos he,hr]
 exact ⟨rfl,rfl⟩
def itV:List (Nat × Nat)→Nat
 |[]=>0
 |x::r=>x.1+2 ^ x.2 * itV r
def itL:List (Nat × Nat)→Nat
 |[]=>0
 |x::r=>x.2+itL r
theorem zw:∀a b:List (Nat × Nat),itL (a++b)=itL a+itL b
 |[],b=>by simp [itL]
 |x::a,b=>by rw [List.cons_append,itL,itL,zw a b];omega
theorem Zq:∀a b:List (Nat × Nat),itV (a++b)=itV a+2 ^ itL a * itV b
 |[],b=>by simp [itV,itL]
 |x::a,b=>by
  rw [List.cons_append,itV,itV,itL,Zq a b,Nat.mul_add,Nat.pow_add,Nat.mul_assoc]
  omega
theorem zfy:∀{a:List (Nat × Nat)},(∀x∈a,x.1 < 2 ^ x.2)→itV a < 2 ^ itL a
 |[],_=>by simp [itV,itL]
 |x::a,h=>by
  have h1:=h x List.mem_cons_self
  have h2:=zfy (a:=a) (fun y hy=>h y (List.mem_cons_of_mem _ hy))
  rw [itV,itL,Nat.pow_add]
  have h3:2 ^ x.2 * (itV a+1)≤2 ^ x.2 * 2 ^ itL a:=Nat.mul_le_mul_left _ h2
  rw [Nat.mul_add] at h3
  omega
theorem zo1 [W0] {a:List (Nat × Nat)} (h:∀x∈a,x.1 < 2 ^ x.2):At (leB (itV a) ((itL a+7) / 8)) 0 (itV a) (itL a):=by
 have hlt:=zfy h
 have hle:itL a≤8 * ((itL a+7) / 8):=by omega
 have h2:itV a < 2 ^ (8 * ((itL a+7) / 8)):=Nat.lt_of_lt_of_le hlt (Nat.pow_le_pow_right (by decide) hle)
 refine ⟨?_,by rw [qx];omega⟩
 rw [zhF,Nat.mod_eq_of_lt h2,Nat.pow_zero,Nat.div_one,Nat.mod_eq_of_lt hlt]
def cpW (far:Nat):Nat→List UInt8→List UInt8
 |0,o=>o
 |k+1,o=>cpW far k (o++[o.getD (o.length - far) 0])
theorem zgC (most far:Nat):∀n s,s.e=0→s.out.length+n≤most→cpL most far n s=⟨s.t,cpW far n s.out,0⟩
 |0,s,he,_=>by
  obtain ⟨t,o,e⟩:=s
  simp only at he
  subst he
  rfl
 |n+1,s,he,h=>by
  rw [cpL,if_pos he,Qa (by omega),zgC most far n ⟨s.t,s.out++[s.out.getD (s.out.length - far) 0],s.e⟩ he (by simp;omega)]
  rfl
theorem val_append (a b:List UInt8):val (a++b)=val a+2 ^ (8 * a.length) * val b:=by
 induction a with
 |nil=>simp [val]
 |cons x a ih=>
  rw [List.cons_append,val,val,ih,List.length_cons,Nat.mul_add,Nat.mul_succ,Nat.pow_add,Nat.mul_comm (2 ^ (8 * a.length)) (2 ^ 8),Nat.mul_assoc]
  omega
theorem zlI [W0] (d:List UInt8) (most:Nat):∀(p:List UInt8) (s:S6),s.e=0→s.out.length+p.length≤most→At d s.t (val p) (8 * p.length)→stL d most p.length s=⟨s.t+8 * p.length,s.out++p,0⟩
 |[],s,he,ho,h=>by
  obtain ⟨t,o,e⟩:=s
  simp only at he
  subst he
  simp [stL]
 |c::p,s,he,ho,h=>by
  have hc:=c.toNat_lt
  have h':At d s.t (c.toNat+2 ^ 8 * val p) (8+8 * p.length):=by
   have e:8 * (c::p).length=8+8 * p.length:=by rw [List.length_cons];omega
   rw [e] at h
   exact h
  obtain ⟨h1,h2⟩:=h'.split (by omega)
  obtain ⟨e1,e2⟩:=YP h1
  rw [List.length_cons,stL,if_pos he,e1,e2]
  simp only
  rw [if_pos he,Qa (by simp at ho ⊢;omega),UInt8.ofNat_toNat]
  rw [zlI d most p ⟨s.t+8,s.out++[c],s.e⟩ he (by simp at ho ⊢;omega) h2]
  simp
  omega
end Go.If
namespace Go.Df
open Go.Vx Go.Hf Go.If
set_option linter.all false
theorem zor {l:List Nat} (hk:kS l≤32768) (h15:∀i,l.getD i 0≤15) {s:Nat} (hs:s < l.length) (h0:0 < l.getD s 0):cd l s < 2 ^ l.getD s 0:=by
 have hi:l[s]? =some (l.getD s 0):=by simp [List.getD,hs]
 exact Nat.lt_of_lt_of_le (zd2 hi (by omega)).2 (zaZ hk h0 (h15 s))
def Bi (d:List UInt8) (t:Nat) (a:List (Nat × Nat)):Prop:=At d t (itV a) (itL a)
theorem Bi.cons [W0] {d:List UInt8} {t:Nat} {x:Nat × Nat} {a:List (Nat × Nat)} (h:Bi d t (x::a)) (hx:x.1 < 2 ^ x.2):At d t x.1 x.2∧Bi d (t+x.2) a:=At.split (v:=x.1) (n:=x.2) (r:=itV a) (m:=itL a) h hx
theorem Bi.app [W0]:∀{d:List UInt8} {t:Nat} {a b:List (Nat × Nat)},Bi d t (a++b)→(∀x∈a,x.1 < 2 ^ x.2)→Bi d t a∧Bi d (t+itL a) b:=by
 intro d t a b h ha
 have h':At d t (itV a+2 ^ itL a * itV b) (itL a+itL b):=by
  have:=h
  unfold Bi at this
  rwa [Zq,zw] at this
 obtain ⟨h1,h2⟩:=h'.split (zfy ha)
 exact ⟨h1,h2⟩
def sc [W0] (l:List Nat) (i:Nat):Nat × Nat:=(mir (cd l i) (l.getD i 0),l.getD i 0)
structure Cok (l:List Nat):Prop where
 k:kS l≤32768
 le:∀x∈l,x≤15
theorem Cok.at {l:List Nat} (h:Cok l) (i:Nat):l.getD i 0≤15:=by
 by_cases hi:i < l.length
 ·have e:l.getD i 0=l[i]:=by simp [List.getD,hi]
  rw [e];exact h.le _ (List.getElem_mem hi)
 ·rw [show l.getD i 0=0 from by simp [List.getD,List.getElem?_eq_none (Nat.le_of_not_lt hi)]];omega
theorem uJ [W0] (l:List Nat) (i:Nat):(sc l i).1 < 2 ^ (sc l i).2:=zde _ _
theorem Qu {l:List Nat} {i:Nat} (h:0 < l.getD i 0):i < l.length:=by
 by_cases hi:i < l.length
 ·exact hi
 ·rw [show l.getD i 0=0 from by simp [List.getD,List.getElem?_eq_none (Nat.le_of_not_lt hi)]] at h;omega
theorem zeX [W0] {d:List UInt8} {s:S6} {l:List Nat} {i:Nat} (hl:Cok l) (he:s.e=0) (h0:0 < l.getD i 0) (h:At d s.t (sc l i).1 (sc l i).2) :
 sy d s l=⟨s.t+l.getD i 0,s.out,0⟩∧sv d s l=i:=by
 have hi:=Qu h0
 exact zrb he (by simp [List.getD,hi]) h0 (hl.at i) (zor hl.k hl.at hi h0) h
inductive Tok
 |lit (c:UInt8)
 |mt (k x t y:Nat)
def lnT (k x:Nat):Nat:=(lnB k).1+x
def dsT (t y:Nat):Nat:=baB 1 2 4 t+y
def tkI [W0] (l dl:List Nat):Tok→List (Nat × Nat)
 |.lit c=>[sc l c.toNat]
 |.mt k x t y=>[sc l k,(x,(lnB k).2),sc dl t,(y,exB t 2 4)]
def tkW:Tok→List UInt8→List UInt8
 |.lit c,o=>o++[c]
 |.mt k x t y,o=>cpW (dsT t y) (lnT k x) o
def zit (l dl:List Nat) (n:Nat):Tok→Prop
 |.lit c=>0 < l.getD c.toNat 0
 |.mt k x t y=>257≤k∧k≤285∧0 < l.getD k 0∧x < 2 ^ (lnB k).2∧t≤29∧0 < dl.getD t 0∧y < 2 ^ exB t 2 4∧dsT t y≤n
def tkN:Tok→Nat
 |.lit _=>1
 |.mt k x _ _=>lnT k x
theorem zlX [W0] {l dl:List Nat} {n:Nat} {k:Tok} (h:zit l dl n k):∀x∈tkI l dl k,x.1 < 2 ^ x.2:=by
 intro x hx
 cases k with
 |lit c=>
  rw [List.mem_singleton.1 hx]
  exact uJ _ _
 |mt k x t y=>
  obtain ⟨h1,h2,h3,h4,h5,h6,h7,h8⟩:=h
  simp only [tkI,List.mem_cons,List.not_mem_nil,or_false] at hx
  rcases hx with rfl|rfl|rfl|rfl
  ·exact uJ _ _
  ·exact h4
  ·exact uJ _ _
  ·exact h7
theorem zaR (far:Nat):∀n o,(cpW far n o).length=o.length+n
 |0,o=>rfl
 |n+1,o=>by rw [cpW,zaR far n];simp;omega
theorem zbx (k:Tok) (o:List UInt8):(tkW k o).length=o.length+tkN k:=by
 cases k with
 |lit c=>simp [tkW,tkN]
 |mt k x t y=>rw [tkW,zaR];rfl
theorem zqh [W0] {d:List UInt8} {most:Nat} {l dl:List Nat} {s:S6} {k:Tok} {f:Nat} (hl:Cok l) (hd:Cok dl) (he:s.e=0) (hk:zit l dl s.out.length k) (hm:s.out.length+tkN k≤most) (h:Bi d s.t (tkI l dl k)) :
 cdC d most l dl (f+1) s=cdC d most l dl f ⟨s.t+itL (tkI l dl k),tkW k s.out,0⟩:=by
 cases k with
 |lit c=>
  have hc:=c.toNat_lt
  obtain ⟨h1,_⟩:=Bi.cons h (uJ _ _)
  obtain ⟨e1,e2⟩:=zeX hl he hk h1
  rw [cdC,if_neg (show ¬s.e≠0 from fun hh=>hh he),e1,e2,if_neg (show ¬(0:Nat)≠0 by decide),if_pos (show c.toNat < 256 by omega),Qa (show (⟨s.t+l.getD c.toNat 0,s.out,0⟩:S6).out.length < most by simp only [tkN] at hm ⊢;omega),UInt8.ofNat_toNat]
  rfl
 |mt k x t y=>
  obtain ⟨k1,k2,k3,k4,k5,k6,k7,k8⟩:=hk
  obtain ⟨h1,h⟩:=Bi.cons h (uJ _ _)
  obtain ⟨h2,h⟩:=Bi.cons h k4
  obtain ⟨h3,h⟩:=Bi.cons h (uJ _ _)
  obtain ⟨h4,_⟩:=Bi.cons h k7
  obtain ⟨e1,e2⟩:=zeX hl he k3 h1
  rw [cdC,if_neg (show ¬s.e≠0 from fun hh=>hh he),e1,e2,if_neg (show ¬(0:Nat)≠0 by decide),if_neg (show ¬k < 256 by omega),if_neg (show ¬k=256 by omega)]
  obtain ⟨e3,e4⟩:=YP (s:=⟨s.t+l.getD k 0,s.out,0⟩) h2
  obtain ⟨e5,e6⟩:=zeX (s:=⟨s.t+l.getD k 0+(lnB k).2,s.out,0⟩) hd rfl k6 h3
  obtain ⟨e7,e8⟩:=YP (s:=⟨s.t+l.getD k 0+(lnB k).2+dl.getD t 0,s.out,0⟩) h4
  simp only at e3 e4 e5 e6 e7 e8
  unfold mtS
  rw [if_neg (show ¬285 < k by omega),e3,e4,e5,e6,if_neg (show ¬(0:Nat)≠0 by decide),if_neg (show ¬29 < t by omega)]
  unfold mtD
  have k8':baB 1 2 4 t+y≤s.out.length:=k8
  rw [e7,e8,if_neg (fun hh=>by have:=hh.2;simp only at this;omega),zgC most _ _ ⟨s.t+l.getD k 0+(lnB k).2+dl.getD t 0+exB t 2 4,s.out,0⟩ rfl (show s.out.length+((lnB k).1+x)≤most from hm)]
  have e9:s.t+itL (tkI l dl (.mt k x t y))=s.t+l.getD k 0+(lnB k).2+dl.getD t 0+exB t 2 4:=by
   simp only [tkI,itL,sc]
   omega
  rw [e9]
  rfl
def tsI [W0] (l dl:List Nat):List Tok→List (Nat × Nat)
 |[]=>[]
 |k::r=>tkI l dl k++tsI l dl r
def tsW:List Tok→List UInt8→List UInt8
 |[],o=>o
 |k::r,o=>tsW r (tkW k o)
def tsN:List Tok→Nat
 |[]=>0
 |k::r=>tkN k+tsN r
def ze2 (l dl:List Nat):Nat→List Tok→Prop
 |_,[]=>True
 |n,k::r=>zit l dl n k∧ze2 l dl (n+tkN k) r
theorem zgg [W0] {l dl:List Nat}:∀{ts:List Tok} {n:Nat},ze2 l dl n ts→∀x∈tsI l dl ts,x.1 < 2 ^ x.2
 |[],_,_,x,hx=>by cases hx
 |k::r,n,h,x,hx=>by
  rcases List.mem_append.1 hx with hx|hx
  ·exact zlX h.1 x hx
  ·exact zgg h.2 x hx
theorem zhC [W0] {d:List UInt8} {most:Nat} {l dl:List Nat} (hl:Cok l) (hd:Cok dl):∀(ts:List Tok) (s:S6) (f:Nat),s.e=0→ts.length≤f→ze2 l dl s.out.length ts→s.out.length+tsN ts≤most→Bi d s.t (tsI l dl ts)→
 cdC d most l dl f s=cdC d most l dl (f - ts.length) ⟨s.t+itL (tsI l dl ts),tsW ts s.out,0⟩
 |[],s,f,he,hf,hk,hm,h=>by
  obtain ⟨t,o,e⟩:=s
  simp only at he
  subst he
  rfl
 |k::r,s,f,he,hf,hk,hm,h=>by
  obtain ⟨g,rfl⟩:∃g,f=g+1:=⟨f - 1,by simp at hf;omega⟩
  obtain ⟨h1,h2⟩:=Bi.app h (zlX hk.1)
  have hm':s.out.length+(tkN k+tsN r)≤most:=hm
  rw [zqh hl hd he hk.1 (by omega) h1]
  rw [zhC hl hd r ⟨s.t+itL (tkI l dl k),tkW k s.out,0⟩ g rfl (by simp at hf;omega) (by simp only [zbx];exact hk.2) (by simp only [zbx];omega) h2]
  rw [show g+1 - (k::r).length=g - r.length by simp]
  simp only [tsI,zw,tsW,Nat.add_assoc]
theorem zdU [W0] {d:List UInt8} {most f:Nat} {l dl:List Nat} {ts:List Tok} {s:S6} (hl:Cok l) (hd:Cok dl) (he:s.e=0) (hf:ts.length < f) (hk:ze2 l dl s.out.length ts) (h256:0 < l.getD 256 0) (hm:s.out.length+tsN ts≤most) (h:Bi d s.t (tsI l dl ts++[sc l 256])) :
 cdC d most l dl f s=⟨s.t+itL (tsI l dl ts++[sc l 256]),tsW ts s.out,0⟩:=by
 obtain ⟨h1,h2⟩:=Bi.app h (zgg hk)
 rw [zhC hl hd ts s f he (by omega) hk hm h1]
 obtain ⟨g,hg⟩:∃g,f - ts.length=g+1:=⟨f - ts.length - 1,by omega⟩
 obtain ⟨h3,_⟩:=Bi.cons h2 (uJ _ _)
 obtain ⟨e1,e2⟩:=zeX (s:=⟨s.t+itL (tsI l dl ts),tsW ts s.out,0⟩) hl rfl h256 h3
 rw [hg,cdC,if_neg (show ¬(0:Nat)≠0 by decide),e1,e2,if_neg (show ¬(0:Nat)≠0 by decide),if_neg (show ¬256 < 256 by decide),if_pos rfl,zw]
 simp only [itL,sc,Nat.add_zero,Nat.add_assoc]
theorem za2:Cok fxL:=⟨by decide+kernel,by decide+kernel⟩
theorem za1:Cok fxD:=⟨by decide+kernel,by decide+kernel⟩
inductive Rl
 |len (v:Nat)
 |rep (x:Nat)
 |few (x:Nat)
 |more (x:Nat)
def rlI [W0] (own:List Nat):Rl→List (Nat × Nat)
 |.len v=>[sc own v]
 |.rep x=>[sc own 16,(x,2)]
 |.few x=>[sc own 17,(x,3)]
 |.more x=>[sc own 18,(x,7)]
def rlW:Rl→List Nat→List Nat
 |.len v,l=>l++[v]
 |.rep x,l=>l++List.replicate (3+x) (l.getD (l.length - 1) 0)
 |.few x,l=>l++List.replicate (3+x) 0
 |.more x,l=>l++List.replicate (11+x) 0
def rlN:Rl→Nat
 |.len _=>1
 |.rep x=>3+x
 |.few x=>3+x
 |.more x=>11+x
def znU (own:List Nat) (n:Nat):Rl→Prop
 |.len v=>v≤15∧0 < own.getD v 0
 |.rep x=>0 < n∧x < 4∧0 < own.getD 16 0
 |.few x=>x < 8∧0 < own.getD 17 0
 |.more x=>x < 128∧0 < own.getD 18 0
theorem zlb [W0] {own:List Nat} {n:Nat} {r:Rl} (h:znU own n r):∀x∈rlI own r,x.1 < 2 ^ x.2:=by
 intro x hx
 cases r with
 |len v=>rw [List.mem_singleton.1 hx];exact uJ _ _
 |rep v=>
  simp only [rlI,List.mem_cons,List.not_mem_nil,or_false] at hx
  rcases hx with rfl|rfl
  ·exact uJ _ _
  ·exact h.2.1
 |few v=>
  simp only [rlI,List.mem_cons,List.not_mem_nil,or_false] at hx
  rcases hx with rfl|rfl
  ·exact uJ _ _
  ·exact h.1
 |more v=>
  simp only [rlI,List.mem_cons,List.not_mem_nil,or_false] at hx
  rcases hx with rfl|rfl
  ·exact uJ _ _
  ·exact h.1
theorem Zj (r:Rl) (l:List Nat):(rlW r l).length=l.length+rlN r:=by
 cases r<;>simp [rlW,rlN]
theorem zho (r:Rl):1≤rlN r:=by cases r<;>simp only [rlN]<;>omega
theorem zhq [W0] {d:List UInt8} {own l:List Nat} {m k x:Nat} {s:S6} (ho:Cok own) (he:s.e=0) (h0:0 < own.getD k 0) (h1:At d s.t (sc own k).1 (sc own k).2) (h2:At d (s.t+own.getD k 0) x (rpB k)) (h3:¬(k=16∧l=[])) (h4:l.length+(rpA k+x)≤m) :
 rpS d own m s l=⟨s.t+own.getD k 0+rpB k,s.out,0⟩∧rpL d own s l=l++List.replicate (rpA k+x) (rpV k l):=by
 obtain ⟨e1,e2⟩:=zeX ho he h0 h1
 obtain ⟨e3,e4⟩:=YP (s:=⟨s.t+own.getD k 0,s.out,0⟩) h2
 simp only at e3 e4
 unfold rpS rpL
 rw [e1,e2,e3,e4,if_neg (show ¬(0:Nat)≠0 by decide),if_neg (show ¬(0:Nat)≠0 by decide),if_neg (fun hh=>by rcases hh with hh|hh;exact h3 hh;omega)]
 exact ⟨rfl,rfl⟩
theorem zq1 [W0] {d:List UInt8} {own l:List Nat} {m:Nat} {s:S6} {r:Rl} (ho:Cok own) (he:s.e=0) (hk:znU own l.length r) (hm:l.length+rlN r≤m) (h:Bi d s.t (rlI own r)) :
 rpS d own m s l=⟨s.t+itL (rlI own r),s.out,0⟩∧rpL d own s l=rlW r l:=by
 have hne:0 < l.length→l≠[]:=fun h hh=>by rw [hh] at h;cases h
 cases r with
 |len v=>
  obtain ⟨k1,k2⟩:=hk
  obtain ⟨h1,_⟩:=Bi.cons h (uJ _ _)
  have hb:rpB v=0:=by unfold rpB;rw [if_neg (by omega),if_neg (by omega),if_neg (by omega)]
  have hA:rpA v=1:=by unfold rpA;rw [if_neg (by omega),if_neg (by omega),if_neg (by omega)]
  have hV:rpV v l=v:=by unfold rpV;rw [if_neg (by omega),if_neg (by omega)]
  have h2:At d (s.t+own.getD v 0) 0 (rpB v):=by rw [hb];exact ⟨by rw [Nat.pow_zero,Nat.mod_one],by have:=h1.2;simp only [sc] at this;omega⟩
  have:=zhq (l:=l) (m:=m) ho he k2 h1 h2 (fun hh=>by omega) (by rw [hA];exact hm)
  rw [hb,hA,hV] at this
  exact this
 |rep x=>
  obtain ⟨k1,k2,k3⟩:=hk
  obtain ⟨h1,h⟩:=Bi.cons h (uJ _ _)
  obtain ⟨h2,_⟩:=Bi.cons h k2
  exact zhq (l:=l) (m:=m) ho he k3 h1 h2 (fun hh=>hne k1 hh.2) hm
 |few x=>
  obtain ⟨k1,k2⟩:=hk
  obtain ⟨h1,h⟩:=Bi.cons h (uJ _ _)
  obtain ⟨h2,_⟩:=Bi.cons h k1
  exact zhq (l:=l) (m:=m) ho he k2 h1 h2 (fun hh=>by omega) hm
 |more x=>
  obtain ⟨k1,k2⟩:=hk
  obtain ⟨h1,h⟩:=Bi.cons h (uJ _ _)
  obtain ⟨h2,_⟩:=Bi.cons h k1
  exact zhq (l:=l) (m:=m) ho he k2 h1 h2 (fun hh=>by omega) hm
def rsI [W0] (own:List Nat):List Rl→List (Nat × Nat)
 |[]=>[]
 |r::q=>rlI own r++rsI own q
def rsW:List Rl→List Nat→List Nat
 |[],l=>l
 |r::q,l=>rsW q (rlW r l)
def rsN:List Rl→Nat
 |[]=>0
 |r::q=>rlN r+rsN q
def zbI (own:List Nat):Nat→List Rl→Prop
 |_,[]=>True
 |n,r::q=>znU own n r∧zbI own (n+rlN r) q
theorem zln [W0] {own:List Nat}:∀{rs:List Rl} {n:Nat},zbI own n rs→∀x∈rsI own rs,x.1 < 2 ^ x.2
 |[],_,_,x,hx=>by cases hx
 |r::q,n,h,x,hx=>by
  rcases List.mem_append.1 hx with hx|hx
  ·exact zlb h.1 x hx
  ·exact zln h.2 x hx
theorem Z8:∀(rs:List Rl) (l:List Nat),(rsW rs l).length=l.length+rsN rs
 |[],l=>rfl
 |r::q,l=>by rw [rsW,Z8 q,Zj,rsN];omega
theorem zoI [W0] {d:List UInt8} {own:List Nat} {m:Nat} (ho:Cok own):∀(rs:List Rl) (f:Nat) (s:S6) (l:List Nat),s.e=0→zbI own l.length rs→l.length+rsN rs=m→m≤f+l.length→Bi d s.t (rsI own rs)→
 lpS d own m f s l=(⟨s.t+itL (rsI own rs),s.out,0⟩,rsW rs l)
 |[],f,s,l,he,hk,hm,hf,h=>by
  obtain ⟨t,o,e⟩:=s
  simp only at he
  subst he
  cases f with
  |zero=>rfl
  |succ f=>rw [lpS,if_neg (fun hh=>by simp only [rsN] at hm;omega)];rfl
 |r::q,f,s,l,he,hk,hm,hf,h=>by
  have hp:=zho r
  have hm':l.length+(rlN r+rsN q)=m:=hm
  obtain ⟨g,rfl⟩:∃g,f=g+1:=⟨f - 1,by omega⟩
  obtain ⟨h1,h2⟩:=Bi.app h (zlb hk.1)
  obtain ⟨e1,e2⟩:=zq1 (m:=m) ho he hk.1 (by omega) h1
  rw [lpS,if_pos ⟨he,by omega⟩,e1,e2,if_pos rfl]
  rw [zoI ho q g ⟨s.t+itL (rlI own r),s.out,0⟩ (rlW r l) rfl (by rw [Zj];exact hk.2) (by rw [Zj];omega) (by rw [Zj];omega) h2]
  simp only [rsI,zw,rsW,Nat.add_assoc]
def owI (own:List Nat):Nat→Nat→List (Nat × Nat)
 |0,_=>[]
 |k+1,i=>(own.getD (yY.getD i 0) 0,3)::owI own k (i+1)
def owF (own:List Nat):Nat→Nat→List Nat→List Nat
 |0,_,o=>o
 |k+1,i,o=>owF own k (i+1) (o.set (yY.getD i 0) (own.getD (yY.getD i 0) 0))
theorem zoD (own:List Nat):∀k i,itL (owI own k i)=3 * k
 |0,i=>rfl
 |k+1,i=>by rw [owI,itL,zoD own k];omega
theorem zdk {own:List Nat} (h7:∀i,own.getD i 0≤7):∀k i,∀x∈owI own k i,x.1 < 2 ^ x.2
 |0,i,x,hx=>by cases hx
 |k+1,i,x,hx=>by
  rcases List.mem_cons.1 hx with rfl|hx
  ·have:=h7 (yY.getD i 0);simp only;omega
  ·exact zdk h7 k _ x hx
theorem zoE [W0] {d:List UInt8} {own:List Nat} (h7:∀i,own.getD i 0≤7):∀(k i:Nat) (s:S6) (o:List Nat),s.e=0→Bi d s.t (owI own k i)→owS d k i s o=(⟨s.t+3 * k,s.out,0⟩,owF own k i o)
 |0,i,s,o,he,h=>by
  obtain ⟨t,q,e⟩:=s
  simp only at he
  subst he
  rfl
 |k+1,i,s,o,he,h=>by
  obtain ⟨h1,h2⟩:=Bi.cons h (show own.getD (yY.getD i 0) 0 < 2 ^ 3 by have:=h7 (yY.getD i 0);omega)
  obtain ⟨e1,e2⟩:=YP h1
  rw [owS,e1,e2,if_neg (fun hh=>hh he),zoE h7 k (i+1) ⟨s.t+3,s.out,s.e⟩ _ he h2]
  simp only [owF]
  rw [show s.t+3+3 * k=s.t+3 * (k+1) by omega]
theorem zbh (own:List Nat):∀k i o,(owF own k i o).length=o.length
 |0,i,o=>rfl
 |k+1,i,o=>by rw [owF,zbh own k,List.length_set]
theorem zhh {own:List Nat}:∀(k i:Nat) (o:List Nat) (j:Nat),j < o.length→
 (∀q,i≤q→q < i+k→yY.getD q 0=j→(owF own k i o).getD j 0=own.getD j 0)∧((∀q,i≤q→q < i+k→yY.getD q 0≠j)→(owF own k i o).getD j 0=o.getD j 0)
 |0,i,o,j,hj=>⟨fun q h1 h2=>by omega,fun _=>rfl⟩
 |k+1,i,o,j,hj=>by
  obtain ⟨g1,g2⟩:=zhh k (i+1) (o.set (yY.getD i 0) (own.getD (yY.getD i 0) 0)) j (by rw [List.length_set];exact hj)
  rw [owF]
  by_cases h2:yY.getD i 0=j
  ·have hv:(owF own k (i+1) (o.set (yY.getD i 0) (own.getD (yY.getD i 0) 0))).getD j 0=own.getD j 0:=by
    by_cases hq:∃q,i+1≤q∧q < i+1+k∧yY.getD q 0=j
    ·obtain ⟨q,q1,q2,q3⟩:=hq
     exact g1 q q1 q2 q3
    ·rw [g2 (fun q q1 q2 q3=>hq ⟨q,q1,q2,q3⟩),h2]
     simp [List.getD,hj]
   exact ⟨fun q _ _ _=>hv,fun h=>absurd h2 (h i (by omega) (by omega))⟩
  ·refine ⟨fun q q1 q2 q3=>?_,fun h=>?_⟩
   ·have hne:q≠i:=fun hh=>h2 (by rw [←hh];exact q3)
    exact g1 q (by omega) (by omega) q3
   ·rw [g2 (fun q q1 q2=>h q (by omega) (by omega))]
    generalize yY.getD i 0=oi at h2 ⊢
    simp only [List.getD_eq_getElem?_getD]
    rw [List.getElem?_set_ne h2]
theorem znE:∀j,j < 19→∃q,q < 19∧yY.getD q 0=j:=by decide
theorem znF {own:List Nat} {n:Nat} (hl:own.length=19) (hn:n≤19) (hz:∀i,n≤i→i < 19→own.getD (yY.getD i 0) 0=0):owF own n 0 (List.replicate 19 0)=own:=by
 refine List.ext_getElem (by rw [zbh,hl];simp) fun j h1 h2=>?_
 obtain ⟨g1,g2⟩:=zhh (own:=own) n 0 (List.replicate 19 0) j (by rw [List.length_replicate];omega)
 have e1:(owF own n 0 (List.replicate 19 0)).getD j 0=(owF own n 0 (List.replicate 19 0))[j]:=by rw [List.getD_eq_getElem?_getD,List.getElem?_eq_getElem h1];rfl
 have e2:own.getD j 0=own[j]:=by simp [List.getD,h2]
 rw [←e1,←e2]
 obtain ⟨q,q1,q2⟩:=znE j (by omega)
 by_cases hq:q < n
 ·exact g1 q (Nat.zero_le _) (by omega) q2
 ·by_cases hh:∃q',0≤q'∧q' < 0+n∧yY.getD q' 0=j
  ·obtain ⟨q',r1,r2,r3⟩:=hh
   exact g1 q' r1 r2 r3
  ·rw [g2 (fun q' r1 r2 r3=>hh ⟨q',r1,r2,r3⟩)]
   have:=hz q (by omega) q1
   rw [q2] at this
   rw [this]
   have hj19:j < 19:=by omega
   rw [List.getD_eq_getElem?_getD,List.getElem?_replicate,if_pos hj19]
   rfl
theorem zqP [W0] {d:List UInt8} {own:List Nat} {z:Nat} {s:S6} (hl:own.length=19) (h7:∀i,own.getD i 0≤7) (hk:kS own=32768) (hzz:z≤15) (hz:∀i,4+z≤i→i < 19→own.getD (yY.getD i 0) 0=0) (he:s.e=0) (h:Bi d s.t ((z,4)::owI own (4+z) 0)) :
 lcS d s=(⟨s.t+itL ((z,4)::owI own (4+z) 0),s.out,0⟩,own):=by
 obtain ⟨h1,h2⟩:=Bi.cons h (show z < 2 ^ 4 by omega)
 obtain ⟨e1,e2⟩:=YP h1
 have e3:=zoE (d:=d) h7 (4+z) 0 ⟨s.t+4,s.out,s.e⟩ (List.replicate 19 0) he h2
 rw [znF hl (by omega) hz] at e3
 unfold lcS
 rw [e1,e2,if_neg (fun hh=>hh he),e3,if_neg (show ¬(0:Nat)≠0 by decide),if_pos hk]
 rw [itL,zoD]
 simp only [Nat.add_assoc]
def hdI [W0] (own:List Nat) (n1 n2 z:Nat) (rs:List Rl):List (Nat × Nat):=(n1 - 257,5)::(n2 - 1,5)::((z,4)::owI own (4+z) 0)++rsI own rs
structure zhL (own:List Nat) (n1 n2 z:Nat) (rs:List Rl):Prop where
 n1a:257≤n1
 n1b:n1≤286
 n2a:1≤n2
 n2b:n2≤30
 ol:own.length=19
 o7:∀i,own.getD i 0≤7
 ok:kS own=32768
 zb:z≤15
 zz:∀i,4+z≤i→i < 19→own.getD (yY.getD i 0) 0=0
 ro:zbI own 0 rs
 rn:rsN rs=n1+n2
 e256:(rsW rs []).getD 256 0≠0
 kl:kS ((rsW rs []).take n1)=32768
 kd:kS ((rsW rs []).drop n1)=32768∨sgl ((rsW rs []).drop n1)=true
theorem zhL.own {own:List Nat} {n1 n2 z:Nat} {rs:List Rl} (h:zhL own n1 n2 z rs):Cok own:=⟨by rw [h.ok];exact Nat.le_refl _,fun x hx=>by
 obtain ⟨i,hi,rfl⟩:=List.getElem_of_mem hx
 have:=h.o7 i
 rw [show own.getD i 0=own[i] from by simp [List.getD,hi]] at this
 omega⟩
theorem zpu [W0] {own:List Nat} {n1 n2 z:Nat} {rs:List Rl} (h:zhL own n1 n2 z rs):∀x∈hdI own n1 n2 z rs,x.1 < 2 ^ x.2:=by
 intro x hx
 have b1:=h.n1b
 have b2:=h.n2b
 have b3:=h.zb
 rcases List.mem_append.1 hx with hx|hx
 ·simp only [List.mem_cons] at hx
  rcases hx with rfl|rfl|rfl|hx
  ·simp only;omega
  ·simp only;omega
  ·simp only;omega
  ·exact zdk h.o7 _ _ x hx
 ·exact zln h.ro x hx
theorem zqC [W0] {d:List UInt8} {own:List Nat} {n1 n2 z:Nat} {rs:List Rl} {s:S6} (hh:zhL own n1 n2 z rs) (he:s.e=0) (h:Bi d s.t (hdI own n1 n2 z rs)) :
 dyS d s=(⟨s.t+itL (hdI own n1 n2 z rs),s.out,0⟩,rsW rs [],n1):=by
 have b1:=hh.n1a
 have b2:=hh.n1b
 have b3:=hh.n2a
 have b4:=hh.n2b
 have b5:=hh.zb
 have hd2:hdI own n1 n2 z rs=(n1 - 257,5)::(n2 - 1,5)::(((z,4)::owI own (4+z) 0)++rsI own rs):=rfl
 rw [hd2] at h ⊢
 obtain ⟨h1,h⟩:=Bi.cons h (show n1 - 257 < 2 ^ 5 by omega)
 obtain ⟨h2,h⟩:=Bi.cons h (show n2 - 1 < 2 ^ 5 by omega)
 obtain ⟨h3,h4⟩:=Bi.app h (by
  intro x hx
  rcases List.mem_cons.1 hx with rfl|hx
  ·simp only;omega
  ·exact zdk hh.o7 _ _ x hx)
 obtain ⟨e1,e2⟩:=YP h1
 obtain ⟨e3,e4⟩:=YP (s:=⟨s.t+5,s.out,s.e⟩) h2
 have e5:=zqP (s:=⟨s.t+5+5,s.out,s.e⟩) hh.ol hh.o7 hh.ok hh.zb hh.zz he h3
 simp only at e3 e4 e5
 have e6:=zoI (m:=n1+n2) hh.own rs (n1+n2) ⟨s.t+5+5+itL ((z,4)::owI own (4+z) 0),s.out,0⟩ [] rfl hh.ro (by rw [hh.rn];simp) (by omega) h4
 have hk:dyK n1 (⟨s.t+5+5+itL ((z,4)::owI own (4+z) 0)+itL (rsI own rs),s.out,0⟩,rsW rs [])=(⟨s.t+5+5+itL ((z,4)::owI own (4+z) 0)+itL (rsI own rs),s.out,0⟩,rsW rs [],n1):=by
  unfold dyK
  rw [if_pos ⟨hh.e256,hh.kl,hh.kd⟩]
 unfold dyS
 rw [e1,e2,if_neg (fun q=>q he),if_neg (show ¬29 < n1 - 257 by omega),e3,e4,if_neg (fun q=>q he),if_neg (show ¬29 < n2 - 1 by omega),show 257+(n1 - 257)=n1 by omega,show 1+(n2 - 1)=n2 by omega]
 unfold dyT
 rw [e5,if_neg (show ¬(0:Nat)≠0 by decide),e6,if_neg (show ¬(0:Nat)≠0 by decide),hk]
 simp only [itL,zw,List.cons_append,Nat.add_assoc]
theorem zqL [W0] {d:List UInt8} {most:Nat} {ts:List Tok} {s:S6} (he:s.e=0) (hf:ts.length≤8 * d.length) (hk:ze2 fxL fxD s.out.length ts) (hm:s.out.length+tsN ts≤most) (h:Bi d s.t (tsI fxL fxD ts++[sc fxL 256])) :
 bkS d most 1 s=⟨s.t+itL (tsI fxL fxD ts++[sc fxL 256]),tsW ts s.out,0⟩:=by
 unfold bkS
 rw [if_neg (by decide),if_pos rfl]
 exact zdU za2 za1 he (by omega) hk (by decide) hm h
theorem zoz {l:List Nat} (h:kS l=32768∨sgl l=true):kS l≤32768:=by
 have hs:=Qr l
 rcases h with h|h
 ·omega
 ·rw [uU] at h
  have:=of_decide_eq_true h
  omega
theorem zqB [W0] {d:List UInt8} {most:Nat} {own l dl:List Nat} {n1 n2 z:Nat} {rs:List Rl} {ts:List Tok} {s:S6} (hh:zhL own n1 n2 z rs) (hl:(rsW rs []).take n1=l) (hdl:(rsW rs []).drop n1=dl) (h15:∀x∈rsW rs [],x≤15) (he:s.e=0) (hf:ts.length≤8 * d.length)
 (hk:ze2 l dl s.out.length ts) (hm:s.out.length+tsN ts≤most) (h:Bi d s.t (hdI own n1 n2 z rs++(tsI l dl ts++[sc l 256]))) :
 bkS d most 2 s=⟨s.t+itL (hdI own n1 n2 z rs++(tsI l dl ts++[sc l 256])),tsW ts s.out,0⟩:=by
 obtain ⟨h1,h2⟩:=Bi.app h (zpu hh)
 have e1:=zqC hh he h1
 unfold bkS dbS
 rw [if_neg (by decide),if_neg (by decide),e1,if_neg (show ¬(0:Nat)≠0 by decide),hl,hdl]
 have hcl:Cok l:=⟨by rw [←hl,hh.kl];exact Nat.le_refl _,fun x hx=>h15 x (by rw [←hl] at hx;exact List.mem_of_mem_take hx)⟩
 have hcd:Cok dl:=⟨by rw [←hdl];exact zoz hh.kd,fun x hx=>h15 x (by rw [←hdl] at hx;exact List.mem_of_mem_drop hx)⟩
 have h256:0 < l.getD 256 0:=by
  have:=hh.e256
  have hb:=hh.n1a
  have hg:l.getD 256 0=(rsW rs []).getD 256 0:=by rw [←hl,List.getD_eq_getElem?_getD,List.getD_eq_getElem?_getD,List.getElem?_take,if_pos (by omega)]
  rw [hg];omega
 rw [zdU (s:=⟨s.t+itL (hdI own n1 n2 z rs),s.out,0⟩) hcl hcd rfl (by omega) hk h256 hm h2]
 simp only [zw,Nat.add_assoc]
theorem zq9 [W0] {d p:List UInt8} {most a:Nat} {s:S6} (he:s.e=0) (ha:a=8 * ((s.t+7) / 8)) (hp:p.length < 65536) (hm:s.out.length+p.length≤most) (h:At d a (p.length+2 ^ 16 * ((65535 - p.length)+2 ^ 16 * val p)) (16+(16+8 * p.length))) :
 bkS d most 0 s=⟨a+32+8 * p.length,s.out++p,0⟩:=by
 obtain ⟨h1,h⟩:=h.split (show p.length < 2 ^ 16 by omega)
 obtain ⟨h2,h3⟩:=h.split (show 65535 - p.length < 2 ^ 16 by omega)
 obtain ⟨e1,e2⟩:=YP (s:=⟨a,s.out,s.e⟩) h1
 obtain ⟨e3,e4⟩:=YP (s:=⟨a+16,s.out,s.e⟩) h2
 simp only at e1 e2 e3 e4
 unfold bkS
 rw [if_pos rfl]
 unfold stS
 simp only
 rw [←ha,e1,e2,e3,e4,if_pos (show p.length+(65535 - p.length)=65535 by omega)]
 rw [zlI d most p ⟨a+16+16,s.out,s.e⟩ he hm h3]
theorem zlq [W0] {d:List UInt8} {most f h ty:Nat} {s s':S6} (he:s.e=0) (hh:h≤1) (ht:ty≤2) (ha:At d s.t (h+2 * ty) 3) (hb:bkS d most ty ⟨s.t+3,s.out,0⟩=s') (he':s'.e=0) :
 rwS d most (f+1) s=if h=1 then s' else rwS d most f s':=by
 obtain ⟨e1,e2⟩:=YP ha
 rw [rwS,e1,e2,if_neg (fun q=>q he),if_neg (show ¬5 < h+2 * ty by omega),he,show (h+2 * ty) / 2=ty by omega,hb,if_neg (fun q=>q he')]
 by_cases h1:h=1
 ·rw [if_pos h1,if_pos (by omega)]
 ·rw [if_neg h1,if_neg (by omega)]
theorem zo4 [W0] {a:List (Nat × Nat)} (h:∀x∈a,x.1 < 2 ^ x.2) (x:List UInt8):Bi (leB (itV a) ((itL a+7) / 8)++x) 0 a:=by
 have h0:=zo1 h
 obtain ⟨h1,h2⟩:=h0
 have hb:itL a≤8 * (leB (itV a) ((itL a+7) / 8)).length:=by omega
 refine ⟨?_,by rw [List.length_append];omega⟩
 rw [val_append,Nat.pow_zero,Nat.div_one]
 rw [Nat.pow_zero,Nat.div_one] at h1
 obtain ⟨k,hk⟩:∃k,8 * (leB (itV a) ((itL a+7) / 8)).length=itL a+k:=⟨_,(Nat.add_sub_cancel' hb).symm⟩
 rw [hk,Nat.pow_add,Nat.mul_assoc,Nat.add_mul_mod_self_left]
 exact h1
end Go.Df
