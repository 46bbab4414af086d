/- Contracts and facts on the way to the top. It proves no statement by itself. No conditions. -/
import Derived.Test.YtemdlifojcgplaaGreatDoorSV1
set_option maxHeartbeats 16000000
namespace Go.Proofs.YtemdlifojcgplaaGreatDoor
open Go Go.Vx
variable [W0]
set_option maxRecDepth 4000
set_option linter.all false
omit [W0] in
def dv (d:UInt8):Int:=if 48≤d.toNat∧d.toNat≤57 then (d.toNat:Int) - 48 else if 97≤d.toNat∧d.toNat≤102 then (d.toNat:Int) - 87 else -1
theorem zb5 (d:UInt8):dv d < 16:=by
 unfold dv;split
 ·omega
 ·split<;>omega
theorem zpl {i:Nat} (h:i < 16):dv (dig i)=(i:Int):=by
 have:∀i:Fin 16,dv (dig i.val)=(i.val:Int):=by decide
 exact this ⟨i,h⟩
theorem zm3 (d:UInt8) (h:∀j,j < 16→dig j≠d):dv d= -1:=by
 have:∀n:Fin 256,(∀j:Fin 16,dig j.val≠UInt8.ofNat n.val)→dv (UInt8.ofNat n.val)= -1:=by decide+kernel
 have h2:=this ⟨d.toNat,d.toNat_lt⟩
 simp only [UInt8.ofNat_toNat] at h2
 exact h2 fun j=>h j.val j.isLt
omit [W0] in
def Yw (d:UInt8):Value:=if 0≤dv d then .tuple #[.int .u8 (dv d),.bool true] else .tuple #[.int .u8 0,.bool false]
theorem zfw (d:UInt8) (L:List Chunk):GvP Tryz.prog 86 [.int .u8 (d.toNat:Int)].toArray L (Yw d):=by
 refine Gv.of_body Tryz.func86 rfl rfl ?_
 have hd:=d.toNat_lt
 (repeat' first|refine kX ?_|refine kU fun bk=>?_|refine kV fun hc=>?_|refine kZ (fun hc=>?_) fun hc=>?_|fail)
 ·refine ze (qj rfl rfl rfl) rfl ?_
  have e:dv d=(d.toNat:Int) - 48:=by unfold dv;rw [if_pos (by omega)]
  have h0:Yw d=.tuple #[.int .u8 ((d.toNat:Int) - 48),.bool true]:=by unfold Yw;rw [if_pos (by omega),e]
  rw [wrap_u8,show (((d.toNat:Int) - 48) % 256).toNat=(d.toNat - 48:Nat) from by omega,h0]
  refine kX ?_
  refine kR ?_
  refine ⟨L,iC,?_,rfl⟩
  rw [show ((d.toNat - 48:Nat):Int)=(d.toNat:Int) - 48 from by omega]
  rfl
 ·refine ze (qj rfl rfl rfl) rfl ?_
  have e:dv d=(d.toNat:Int) - 87:=by unfold dv;rw [if_neg (by omega),if_pos (by omega)]
  have h0:Yw d=.tuple #[.int .u8 ((d.toNat:Int) - 87),.bool true]:=by unfold Yw;rw [if_pos (by omega),e]
  rw [wrap_u8,show (((d.toNat:Int) - 97) % 256).toNat=(d.toNat - 97:Nat) from by omega,h0]
  refine kX ?_
  refine ze (qj rfl rfl rfl) rfl ?_
  rw [wrap_u8,show ((((d.toNat - 97:Nat):Int)+10) % 256).toNat=(d.toNat - 87:Nat) from by omega]
  refine kX ?_
  refine kR ?_
  refine ⟨L,iC,?_,rfl⟩
  rw [show ((d.toNat - 87:Nat):Int)=(d.toNat:Int) - 87 from by omega]
  rfl
 all_goals
  have e:dv d= -1:=by unfold dv;rw [if_neg (by omega),if_neg (by omega)]
  have h0:Yw d=.tuple #[.int .u8 0,.bool false]:=by unfold Yw;rw [if_neg (by omega)]
  rw [h0]
  refine kR ?_
  exact ⟨L,iC,rfl,rfl⟩
theorem zgG (d:UInt8) (L:List Chunk):GvP Tryz.prog 67 [.int .u8 (d.toNat:Int)].toArray L (.int .i64 (dv d)):=by
 refine Gv.of_body Tryz.func67 rfl rfl ?_
 refine kX ?_
 refine zn (X:=Nat) (fun k=>[(0,.int .u8 (d.toNat:Int)),(3,.int .i64 (k:Int))]) (fun k=>L) (fun k=>k≤16∧∀j,j < k→dig j≠d) (fun k=>16 - k) 0 ⟨Nat.zero_le _,fun j h=>by omega⟩ iS (fun w h=>h) ?_
 intro k ⟨hk,hall⟩
 (repeat' first|refine kX ?_|refine kU fun bk=>?_|refine kV fun hc=>?_|refine kZ (fun hc=>?_) fun hc=>?_|fail)
 ·have hlt:k < 16:=by omega
  refine ze (yK (s:=zjE) (j:=k) rfl rfl rfl (zcZ hlt)) rfl ?_
  (repeat' first|refine kX ?_|refine kU fun bk=>?_|refine kV fun hc=>?_|refine kZ (fun hc=>?_) fun hc=>?_|fail)
  ·have he:dig k=d:=by
    apply UInt8.toNat_inj.1
    omega
   refine kR ?_
   refine ⟨L,iC,?_,rfl⟩
   rw [←he,zpl hlt]
   rfl
  ·have hne:dig k≠d:=fun he=>hc (by rw [he])
   refine zf (X:=Nat) (J:=fun k=>k≤16∧∀j,j < k→dig j≠d) (μ:=fun k=>16 - k) (x:=k) (k+1) (by omega) ⟨by omega,fun j hj=>?_⟩ iS (fun w h=>h)
   rcases Nat.lt_or_ge j k with h'|h'
   ·exact hall j h'
   ·rw [show j=k from by omega];exact hne
 ·have hk2:k=16:=by omega
  subst hk2
  refine kR ?_
  refine ⟨L,iC,?_,rfl⟩
  rw [zm3 d hall]
  rfl
omit [W0] in
def Qv (t:List UInt8) (i:Nat):Bool:=decide (0≤dv (t.getD (2 * i) 0))&&decide (0≤dv (t.getD (2 * i+1) 0))
omit [W0] in
def Q8 (t:List UInt8) (i:Nat):UInt8:=UInt8.ofNat (16 * (dv (t.getD (2 * i) 0)).toNat+(dv (t.getD (2 * i+1) 0)).toNat)
omit [W0] in
def zac (t:List UInt8) (k:Nat):List UInt8:=(List.range k).map (Q8 t)
theorem Yz (t:List UInt8) (k:Nat):(zac t k).length=k:=by simp [zac]
theorem zck (t:List UInt8) (k:Nat):zac t (k+1)=zac t k++[Q8 t k]:=by simp [zac,List.range_succ]
omit [W0] in
def unB (t:List UInt8):Bool:=decide (t.length % 2=0)&&(List.range (t.length / 2)).all (Qv t)
omit [W0] in
def unL (t:List UInt8):List UInt8:=if unB t then zac t (t.length / 2) else []
theorem zdE {t:List UInt8} (h:t.length % 2≠0):unB t=false:=by simp [unB,h]
theorem zaw {t:List UInt8} {i:Nat} (h:i < t.length / 2) (hk:Qv t i=false):unB t=false:=by
 simp only [unB,Bool.and_eq_false_iff]
 refine .inr ?_
 rw [List.all_eq_false]
 exact ⟨i,List.mem_range.2 h,by simp [hk]⟩
theorem ze3 {t:List UInt8} (h:t.length % 2=0) (hk:∀i,i < t.length / 2→Qv t i=true):unB t=true:=by
 simp only [unB,h,decide_true,Bool.true_and,List.all_eq_true]
 exact fun i hi=>hk i (List.mem_range.1 hi)
theorem zcd {d:UInt8} (h:0≤dv d):Yw d=.tuple #[.int .u8 (dv d),.bool true]:=if_pos h
theorem zef {d:UInt8} (h:¬0≤dv d):Yw d=.tuple #[.int .u8 0,.bool false]:=if_neg h
theorem zdX {t:List UInt8} {i:Nat} (h1:0≤dv (t.getD (2 * i) 0)) (h2:0≤dv (t.getD (2 * i+1) 0)):((Q8 t i).toNat:Int)=16 * dv (t.getD (2 * i) 0)+dv (t.getD (2 * i+1) 0):=by
 have a1:=zb5 (t.getD (2 * i) 0)
 have a2:=zb5 (t.getD (2 * i+1) 0)
 simp only [Q8,UInt8.toNat_ofNat']
 omega
theorem halves {a b:Nat} (ha:a < 16) (hb:b < 16):zcN .or .u8 (IntKind.u8.wrap ((a:Int) * 2 ^ (min ((4:Int)).toNat IntKind.u8.bits))) (b:Int)=some ((16 * a+b:Nat):Int):=by
 have:∀a b:Fin 16,zcN .or .u8 (IntKind.u8.wrap ((a.val:Int) * 2 ^ (min ((4:Int)).toNat IntKind.u8.bits))) (b.val:Int)=some ((16 * a.val+b.val:Nat):Int):=by decide+kernel
 exact this ⟨a,ha⟩ ⟨b,hb⟩
theorem zod (t:List UInt8) (L:List Chunk) (hlen:t.length≤70368744177664) :
 Gv Tryz.prog 53 [.string (str t)].toArray L (fun r L'=>∃v C,r=.tuple #[v,.bool (unB t)]∧L'=C::L∧Ow 5 1 v (unL t).length (bsv (unL t)) C):=by
 refine Gv.of_body Tryz.func53 rfl rfl ?_
 have hno:unB t=false→Ow 5 1 (.slice none 0 0) (unL t).length (bsv (unL t)) []:=fun h=>by
  unfold unL;rw [h];exact .inl ⟨rfl,rfl,rfl,rfl⟩
 refine kX ?_
 refine ze (Xm rfl rfl (by decide)) rfl ?_
 rw [show (((str t).size:Nat):Int).tmod 2=((t.length % 2:Nat):Int) from by rw [yE,Int.tmod_eq_emod_of_nonneg (by omega)];omega]
 (repeat' first|refine kX ?_|refine kU fun bk=>?_|refine kV fun hc=>?_|refine kZ (fun hc=>?_) fun hc=>?_|fail)
 ·have hb:=zdE (t:=t) (by omega)
  refine Ze (L':=[]::L) (fun w h=>Holds.nil.2 h) ?_
  refine kR ?_
  exact ⟨[]::L,iC,.slice none 0 0,[],by rw [hb];rfl,rfl,hno hb⟩
 ·have hev:t.length % 2=0:=by omega
  refine ze (ziC rfl rfl (by decide)) rfl ?_
  rw [show IntKind.i64.wrap ((((str t).size:Nat):Int).tdiv 2)=((t.length / 2:Nat):Int) from by
   rw [yE,Int.tdiv_eq_ediv_of_nonneg (by omega),wrap_i64 (by omega) (by omega)];omega]
  refine kX ?_
  refine zJ (m:=0) rfl rfl (by rfl) (by omega) (by omega) (by omega) rfl (fun bn=>?_)
  refine kX ?_
  have ho:Ow 5 1 (.slice (some ⟨bn,0,none⟩) 0 (t.length / 2)) 0 (bsv (zac t 0)) [(bn,cl (zeros [.int .u8 0] (t.length / 2)) 5)]:=
   .inr ⟨bn,t.length / 2,zeros [.int .u8 0] (t.length / 2),rfl,rfl,rfl,by simp [zeros_length],by omega,by simp [maxLen];omega⟩
  refine zn (X:=Nat × Value × Chunk) (fun x=>[(0,.string (str t)),(4,x.2.1),(5,.int .i64 ((2 * x.1:Nat):Int))])
   (fun x=>x.2.2::L) (fun x=>2 * x.1≤t.length∧(∀i,i < x.1→Qv t i=true)∧Ow 5 1 x.2.1 x.1 (bsv (zac t x.1)) x.2.2) (fun x=>t.length - x.1) (0,_,_) ⟨Nat.zero_le _,fun i h=>by omega,ho⟩ iS (fun w h=>h) ?_
  intro x ⟨hx1,hx2,hx3⟩
  obtain ⟨k,s,C⟩:=x
  simp only at hx1 hx2 hx3 ⊢
  (repeat' first|refine kX ?_|refine kU fun bk=>?_|refine kV fun hc=>?_|refine kZ (fun hc=>?_) fun hc=>?_|fail)
  ·rw [yE] at hc
   have h0:2 * k+1 < t.length:=by omega
   obtain ⟨a,haq⟩:∃a,a=t.getD (2 * k) 0:=⟨_,rfl⟩
   obtain ⟨b,hbq⟩:∃b,b=t.getD (2 * k+1) 0:=⟨_,rfl⟩
   have hal:=zb5 a
   have hbl:=zb5 b
   refine ze (yK (s:=str t) (j:=2 * k) rfl rfl rfl (Ye (by omega))) rfl ?_
   rw [←haq]
   refine kX ?_
   refine cP rfl rfl (zfw a _) ?_
   by_cases ha:0≤dv a
   ·rw [zcd ha]
    refine kX ?_
    refine ze (yK (s:=str t) (j:=2 * k+1) rfl rfl (by omega) (Ye h0)) rfl ?_
    rw [←hbq]
    refine kX ?_
    refine cP rfl rfl (zfw b _) ?_
    by_cases hb:0≤dv b
    ·rw [zcd hb]
     have hok:Qv t k=true:=by unfold Qv;rw [←haq,←hbq];simp [ha,hb]
     have hby:=zdX (t:=t) (i:=k) (by rw [←haq];exact ha) (by rw [←hbq];exact hb)
     rw [←haq,←hbq] at hby
     refine kX ?_
     refine ze (zfa rfl rfl (by omega) rfl) rfl ?_
     refine kX ?_
     have hh:zcN .or .u8 (IntKind.u8.wrap (dv a * 2 ^ (min ((4:Int)).toNat IntKind.u8.bits))) (dv b)=some ((Q8 t k).toNat:Int):=by
      have:=halves (a:=(dv a).toNat) (b:=(dv b).toNat) (by omega) (by omega)
      rw [Int.toNat_of_nonneg ha,Int.toNat_of_nonneg hb] at this
      rw [this]
      congr 1
      omega
     refine ze (wZ rfl rfl hh) rfl ?_
     refine kX ?_
     refine zl (cs:=bsv [Q8 t k]) rfl (by rfl) (by simp [zA,patch,Value.cells,zeros];rfl) (by omega) rfl rfl (fun bk=>?_)
     refine kX ?_
     refine zu rfl rfl hx3 (zF (c:=(bsv [Q8 t k]).toArray) (xs:=bsv [Q8 t k]) (m:=1) Fnd.here rfl (by simp)) (by repeat (first|exact Zip.here _|apply Zip.there)) (by rfl) yj (by omega) (by simp [maxLen];omega) rfl (fun v' C' ho1 h1 h2=>?_)
     rw [←yt,←zck] at ho1
     refine kX ?_
     refine zf (X:=Nat × Value × Chunk) (μ:=fun x=>t.length - x.1) (x:=(k,s,C)) (k+1,v',C') (by simp only;omega)
      ⟨by simp only;omega,fun i hi=>?_,ho1⟩ iS (fun w h=>iH h)
     rcases Nat.lt_or_ge i k with h'|h'
     ·exact hx2 i h'
     ·rw [show i=k from by simp only at hi;omega];exact hok
    ·rw [zef hb]
     have hbad:=zaw (t:=t) (i:=k) (by omega) (by unfold Qv;rw [←haq,←hbq,decide_eq_false hb];simp)
     refine kX ?_
     refine Ze (L':=[]::L) (fun w h=>Holds.nil.2 h.drop) ?_
     refine kR ?_
     exact ⟨[]::L,iC,.slice none 0 0,[],by rw [hbad];rfl,rfl,hno hbad⟩
   ·rw [zef ha]
    refine kX ?_
    refine ze (yK (s:=str t) (j:=2 * k+1) rfl rfl (by omega) (Ye h0)) rfl ?_
    rw [←hbq]
    refine kX ?_
    refine cP rfl rfl (zfw b _) ?_
    have hx:∃x y,Yw b=.tuple #[.int .u8 x,.bool y]:=by
     unfold Yw;split<;>exact ⟨_,_,rfl⟩
    obtain ⟨x,y,hxy⟩:=hx
    rw [hxy]
    have hbad:=zaw (t:=t) (i:=k) (by omega) (by unfold Qv;rw [←haq,←hbq,decide_eq_false ha];simp)
    refine kX ?_
    refine Ze (L':=[]::L) (fun w h=>Holds.nil.2 h.drop) ?_
    refine kR ?_
    exact ⟨[]::L,iC,.slice none 0 0,[],by rw [hbad];rfl,rfl,hno hbad⟩
  ·rw [yE] at hc
   have hk:k=t.length / 2:=by omega
   have hb:unB t=true:=ze3 hev fun i hi=>hx2 i (by omega)
   have hl:unL t=zac t k:=by unfold unL;rw [hb,hk];rfl
   refine kR ?_
   refine ⟨C::L,iC,s,C,by rw [hb];rfl,rfl,?_⟩
   rw [hl,Yz]
   exact hx3
theorem zf1 (t:List UInt8) (L:List Chunk) (hlen:t.length≤140737488355328) :
 Gv Tryz.prog 35 [.string (str t)].toArray L (fun r L'=>∃v C,r=.tuple #[v,.bool (unB t)]∧L'=C::L∧Ow 5 1 v (unL t).length (bsv (unL t)) C):=by
 refine Gv.of_body Tryz.func35 rfl rfl ?_
 have hno:unB t=false→Ow 5 1 (.slice none 0 0) (unL t).length (bsv (unL t)) []:=fun h=>by
  unfold unL;rw [h];exact .inl ⟨rfl,rfl,rfl,rfl⟩
 refine kX ?_
 refine ze (Xm rfl rfl (by decide)) rfl ?_
 rw [show (((str t).size:Nat):Int).tmod 2=((t.length % 2:Nat):Int) from by rw [yE,Int.tmod_eq_emod_of_nonneg (by omega)];omega]
 (repeat' first|refine kX ?_|refine kU fun bk=>?_|refine kV fun hc=>?_|refine kZ (fun hc=>?_) fun hc=>?_|fail)
 ·have hb:=zdE (t:=t) (by omega)
  refine Ze (L':=[]::L) (fun w h=>Holds.nil.2 h) ?_
  refine kR ?_
  exact ⟨[]::L,iC,.slice none 0 0,[],by rw [hb];rfl,rfl,hno hb⟩
 ·have hev:t.length % 2=0:=by omega
  apply zl (parts:=[]) rfl (by rfl) (by simp [zA];rfl) (by omega) rfl rfl (fun bn=>?_)
  refine kX ?_
  have ho:Ow 5 1 (.slice (some ⟨bn,0,none⟩) 0 0) 0 (bsv (zac t 0)) [(bn,cl [] 5)]:=
   .inr ⟨bn,0,[],rfl,rfl,rfl,rfl,Nat.le_refl _,by simp [maxLen]⟩
  refine zn (X:=Nat × Value × Chunk) (fun x=>[(0,.string (str t)),(4,x.2.1),(5,.int .i64 ((2 * x.1:Nat):Int))])
   (fun x=>x.2.2::L) (fun x=>2 * x.1≤t.length∧(∀i,i < x.1→Qv t i=true)∧Ow 5 1 x.2.1 x.1 (bsv (zac t x.1)) x.2.2) (fun x=>t.length - x.1) (0,_,_) ⟨Nat.zero_le _,fun i h=>by omega,ho⟩ iS (fun w h=>h) ?_
  intro x ⟨hx1,hx2,hx3⟩
  obtain ⟨k,s,C⟩:=x
  simp only at hx1 hx2 hx3 ⊢
  (repeat' first|refine kX ?_|refine kU fun bk=>?_|refine kV fun hc=>?_|refine kZ (fun hc=>?_) fun hc=>?_|fail)
  ·rw [yE] at hc
   have h0:2 * k+1 < t.length:=by omega
   obtain ⟨a,haq⟩:∃a,a=t.getD (2 * k) 0:=⟨_,rfl⟩
   obtain ⟨b,hbq⟩:∃b,b=t.getD (2 * k+1) 0:=⟨_,rfl⟩
   have hal:=zb5 a
   have hbl:=zb5 b
   have hal0: -1≤dv a:=by unfold dv;split;omega;split<;>omega
   have hbl0: -1≤dv b:=by unfold dv;split;omega;split<;>omega
   refine ze (yK (s:=str t) (j:=2 * k) rfl rfl rfl (Ye (by omega))) rfl ?_
   rw [←haq]
   refine kX ?_
   refine cP rfl rfl (zgG a _) ?_
   refine kX ?_
   refine ze (yK (s:=str t) (j:=2 * k+1) rfl rfl (by omega) (Ye h0)) rfl ?_
   rw [←hbq]
   refine kX ?_
   refine cP rfl rfl (zgG b _) ?_
   (repeat' first|refine kX ?_|refine kU fun bk=>?_|refine kV fun hc=>?_|refine kZ (fun hc=>?_) fun hc=>?_|fail)
   ·have hbad:=zaw (t:=t) (i:=k) (by omega) (by unfold Qv;rw [←haq,←hbq,decide_eq_false (by omega)];simp)
    refine Ze (L':=[]::L) (fun w h=>Holds.nil.2 h.drop) ?_
    refine kR ?_
    exact ⟨[]::L,iC,.slice none 0 0,[],by rw [hbad];rfl,rfl,hno hbad⟩
   ·have hbad:=zaw (t:=t) (i:=k) (by omega) (by unfold Qv;rw [←haq,←hbq,decide_eq_false (p:=0≤dv b) (by omega)];simp)
    refine Ze (L':=[]::L) (fun w h=>Holds.nil.2 h.drop) ?_
    refine kR ?_
    exact ⟨[]::L,iC,.slice none 0 0,[],by rw [hbad];rfl,rfl,hno hbad⟩
   ·have ha:0≤dv a:=by omega
    have hb:0≤dv b:=by omega
    have hok:Qv t k=true:=by unfold Qv;rw [←haq,←hbq];simp [ha,hb]
    have hby:=zdX (t:=t) (i:=k) (by rw [←haq];exact ha) (by rw [←hbq];exact hb)
    rw [←haq,←hbq] at hby
    have hh:IntKind.u8.wrap (16 * dv a+dv b)=((Q8 t k).toNat:Int):=by
     rw [hby,wrap_u8];omega
    rw [hh]
    refine zl (cs:=bsv [Q8 t k]) rfl (by rfl) (by simp [zA,patch,Value.cells,zeros];rfl) (by omega) rfl rfl (fun bk=>?_)
    refine kX ?_
    refine zu rfl rfl hx3 (zF (c:=(bsv [Q8 t k]).toArray) (xs:=bsv [Q8 t k]) (m:=1) Fnd.here rfl (by simp)) (by repeat (first|exact Zip.here _|apply Zip.there)) (by rfl) yj (by omega) (by simp [maxLen];omega) rfl (fun v' C' ho1 h1 h2=>?_)
    rw [←yt,←zck] at ho1
    refine kX ?_
    refine zf (X:=Nat × Value × Chunk) (μ:=fun x=>t.length - x.1) (x:=(k,s,C)) (k+1,v',C') (by simp only;omega)
     ⟨by simp only;omega,fun i hi=>?_,ho1⟩ iS (fun w h=>iH h)
    rcases Nat.lt_or_ge i k with h'|h'
    ·exact hx2 i h'
    ·rw [show i=k from by simp only at hi;omega];exact hok
  ·rw [yE] at hc
   have hk:k=t.length / 2:=by omega
   have hb:unB t=true:=ze3 hev fun i hi=>hx2 i (by omega)
   have hl:unL t=zac t k:=by unfold unL;rw [hb,hk];rfl
   refine kR ?_
   refine ⟨C::L,iC,s,C,by rw [hb];rfl,rfl,?_⟩
   rw [hl,Yz]
   exact hx3
end Go.Proofs.YtemdlifojcgplaaGreatDoor
namespace Go.Vx
open Go
set_option linter.all false
variable [W0]
section
variable {P : Program} {n : Nat} {M : List (Nat × Value)} {L : List Chunk} {K : List (Nat × Value) → List Chunk → Prop}
variable {d : Nat} {ty : TypeId} {ps : String} {af : Array Edge} {g : Option (Nat × Bool)} {x y : Operand} {v : Value}
theorem zhM {t:TypeId} [hst:ST P t] {s:ByteArray} (hx:ev M x=some (.string s)) (hn:Nat.blt d n=true) (h:∀b,K ((d,.pointer (some ⟨b,0,none⟩))::M) ([(b,.stringIter s 0)]::L)) :
 OW P n ⟨some d,.range t x,ty,ps,af,g⟩ K M L:=
 uX (f:=fun b=>.pointer (some ⟨b,0,none⟩)) rfl hn (fun a w ha hw=>by
  simp [execOp,Instr.range,ha.eval hx,underlying,hst.out,newObj,Sem.run,Result.andThen]) h
theorem ziK {b pos:Nat} {s:ByteArray} {L':List Chunk} (hx:ev M x=some (.pointer (some ⟨b,0,none⟩))) (hp:pos < s.size) (hu:Upd L b (.stringIter s pos) (.stringIter s (pos+(Utf8.decode s pos).2)) L') (hn:Nat.blt d n=true)
 (h:K ((d,.tuple #[.bool true,.int .i64 (pos:Int),.int .i32 ((Utf8.decode s pos).1:Int)])::M) L') :
 OW P n ⟨some d,.next x true,ty,ps,af,g⟩ K M L:=⟨fun a w nx Q ha hw hk=>by
 have hb:=hu.fnd.get hw
 have hlt:b < w.heap.size:=(Array.getElem?_eq_some_iff.1 hb).1
 have hrun:(execOp a.eval ⟨some d,.next x true,ty,ps,af,g⟩).run P w=.ok (.value (.tuple #[.bool true,.int .i64 (pos:Int),.int .i32 ((Utf8.decode s pos).1:Int)])) { w with heap:=w.heap.setIfInBounds b (.stringIter s (pos+(Utf8.decode s pos).2)) }:=by
  simp [execOp,ha.eval hx,Instr.next,getObj,setObj,Sem.run,hb,hp,goInt]
 unfold Oper.wp
 rw [hrun,Oper.upon_value]
 refine (hk _ _ h).out _ _ (ha.put _ hn) (hw.upd hu ?_ ?_ rfl rfl)
 ·simp [hlt]
 ·intro c hc;simp [Ne.symm hc]⟩
theorem zmi {b pos:Nat} {s:ByteArray} (hx:ev M x=some (.pointer (some ⟨b,0,none⟩))) (hf:Fnd L b (.stringIter s pos)) (hp:¬pos < s.size) :
 EV P n ⟨some d,.next x true,ty,ps,af,g⟩ M L d (.tuple #[.bool false]):=
 ⟨rfl,fun a w ha hw=>by
   have hb:=hf.get hw
   simp [execOp,ha.eval hx,Instr.next,getObj,Sem.run,hb,hp]⟩
end
end Go.Vx
namespace Go.Ob
open Go Go.Lib Go.Vx
set_option linter.all false
set_option maxRecDepth 4000
def zhs:List UInt8:=[99,111,109,109,105,116]
def zoL:List UInt8:=[116,114,101,101]
def zls:List UInt8:=[98,108,111,98]
def zq2:List UInt8:=[116,97,103]
open Go.Proofs.YtemdlifojcgplaaGreatDoor
def nmL:Nat→List UInt8
 |1=>zhs
 |2=>zoL
 |3=>zls
 |4=>zq2
 |_=>[]
def nmI (k:Int):List UInt8:=if 1≤k∧k≤4 then nmL k.toNat else []
def kdL (s:List UInt8):Nat:=if s=zhs then 1 else if s=zoL then 2 else if s=zls then 3 else if s=zq2 then 4 else 0
def dgF:Nat→Nat→List UInt8
 |0,_=>[]
 |f+1,n=>if n < 10 then [UInt8.ofNat (48+n)] else dgF f (n / 10)++[UInt8.ofNat (48+n % 10)]
def dgL (n:Nat):List UInt8:=dgF 20 n
def hdL (k size:Int):List UInt8:=nmI k++[32]++dgL (max size 0).toNat++[0]
def idL (k:Int) (body:List UInt8):List UInt8:=zab (zf7 (hdL k (body.length:Int)++body))
def X3 (s:List UInt8):Bool:=decide (s.length=40)&&unB s
def inD (c:Nat):Bool:=decide (48≤c)&&decide (c≤57)
def zZ (c:UInt8):List UInt8→List UInt8 × List UInt8
 |[]=>([],[])
 |x::t=>if x=c then ([],t) else (x::(zZ c t).1,(zZ c t).2)
end Go.Ob
namespace Go.Ob
open Go Go.Lib Go.Vx
set_option linter.all false
set_option maxRecDepth 4000
theorem YX (c:UInt8):∀s:List UInt8,(c∉s∧zZ c s=(s,[]))∨∃a t,c∉a∧s=a++c::t∧zZ c s=(a,t)
 |[]=>.inl ⟨by simp,rfl⟩
 |x::s=>by
  unfold zZ
  by_cases hx:x=c
  ·subst hx
   exact .inr ⟨[],s,by simp,rfl,by rw [if_pos rfl]⟩
  ·rw [if_neg hx]
   rcases YX c s with ⟨h1,h2⟩|⟨a,t,h1,h2,h3⟩
   ·exact .inl ⟨by simp [h1,Ne.symm hx],by rw [h2]⟩
   ·exact .inr ⟨x::a,t,by simp [h1,Ne.symm hx],by rw [h2];rfl,by rw [h3]⟩
theorem XP (c:UInt8) (t:List UInt8):∀a:List UInt8,c∉a→zZ c (a++c::t)=(a,t)
 |[],_=>by simp [zZ]
 |x::a,h=>by
  simp only [List.mem_cons,not_or] at h
  simp only [List.cons_append,zZ]
  rw [if_neg (Ne.symm h.1),XP c t a h.2]
end Go.Ob
namespace Go.Vx
open Go Go.Lib Go.RowKit
set_option linter.all false
variable [W0]
omit [W0] in
def OwG (e:Nat) (v:Value) (m:Nat) (xs:List Value) (C:Chunk):Prop:=(v=.slice none 0 0∧m=0∧xs=[]∧C=[])∨OwF e 1 v m xs C
theorem OwG.nil {e:Nat}:OwG e (.slice none 0 0) 0 [] []:=.inl ⟨rfl,rfl,rfl,rfl⟩
theorem OwG.f {e m:Nat} {v:Value} {xs:List Value} {C:Chunk} (h:OwF e 1 v m xs C):OwG e v m xs C:=.inr h
theorem OwG.ow {e m:Nat} {v:Value} {xs:List Value} {C:Chunk} (h:Ow e 1 v m xs C):OwG e v m xs C:=by
 rcases h with h|⟨b,cap,rest,rfl,rfl,h1,h2,h3,h4⟩
 ·exact .inl h
 ·exact .inr ⟨b,cap,rest,(0,0),rfl,rfl,h1,h2,h3,h4,zbD.zero _⟩
theorem OwG.sl {e m:Nat} {v:Value} {xs:List Value} {C:Chunk} {L:List Chunk} (h:OwG e v m xs C):Sl (C::L) 1 v m xs:=by
 rcases h with ⟨rfl,rfl,rfl,rfl⟩|h
 ·exact .inl ⟨0,rfl,rfl,rfl⟩
 ·exact zpR h
theorem OwG.room {e m:Nat} {v:Value} {xs:List Value} {C:Chunk} (h:OwG e v m xs C):∃a c,v=.slice a m c∧m≤c:=by
 rcases h with ⟨rfl,rfl,rfl,rfl⟩|⟨b,cap,rest,fr,rfl,rfl,h1,h2,h3,h4,_⟩
 ·exact ⟨_,_,rfl,Nat.le_refl _⟩
 ·exact ⟨_,_,rfl,h3⟩
section
variable {P : Program} {n : Nat} {M : List (Nat × Value)} {L : List Chunk} {K : List (Nat × Value) → List Chunk → Prop}
variable {d : Nat} {ty : TypeId} {ps : String} {af : Array Edge} {g : Option (Nat × Bool)} {x y : Operand} {v : Value}
theorem XD {t e by_:Nat} [hs:SL P t e 1 by_] {z:Value} [hz:ZV P e z] {v r:Value} {m c:Nat} {xs ys:List Value} {C:Chunk} {A B:List Chunk} (hx:ev M x=some v) (hy:ev M y=some r) (hown:OwG e v m xs C)
 (hsl:Sl L 1 r c ys) (hzip:Zip C L A B) (hzk:z.cells.size=1) (h1:ones ys=true) (hb:(m+c) * by_≤140737488355328) (h63:m+c≤maxLen)
 (hn:Nat.blt d n=true) (h:∀v' C',OwG e v' (m+c) (xs++ys) C'→K ((d,v')::M) (A++C'::B)) :
 OW P n ⟨some d,.call ⟨.builtin .append,#[x,y],#[t,t]⟩,ty,ps,af,g⟩ K M L:=by
 rcases hown with ⟨rfl,rfl,rfl,rfl⟩|hown
 ·exact zu hx hy (.inl ⟨rfl,rfl,rfl,rfl⟩) hsl hzip hzk h1 hb h63 hn (fun v' C' ho _ _=>h v' C' (OwG.ow ho))
 ·exact zfb hx hy hown hsl hzip hzk h1 hb h63 hn (fun v' C' ho=>h v' C' (.inr ho))
omit [W0] in
theorem qJ (q:ByteArray):strCells q=bsv q.data.toList:=rfl
theorem ziG {t s e by_:Nat} [hs:SL P t e 1 by_] [hst:ST P s] [hz:ZV P e (.int .u8 0)] {v:Value} {m:Nat} {xs:List Value} {C:Chunk} {A B:List Chunk} {q:ByteArray} (hx:ev M x=some v) (hy:ev M y=some (.string q)) (hown:OwG e v m xs C)
 (hzip:Zip C L A B) (hb:(m+q.size) * by_≤140737488355328) (h63:m+q.size≤maxLen)
 (hn:Nat.blt d n=true) (h:∀v' C',OwG e v' (m+q.size) (xs++bsv q.data.toList) C'→K ((d,v')::M) (A++C'::B)) :
 OW P n ⟨some d,.call ⟨.builtin .append,#[x,y],#[t,s]⟩,ty,ps,af,g⟩ K M L:=⟨fun a w next Q ha hw0 hk=>by
 have hL:=hzip.eq
 subst hL
 have hw:=hw0.perm List.perm_middle
 obtain ⟨ht,i,hi,hik,hib,hk0⟩:=hs.parts
 have hu:=hst.out
 have hzz:i.zero=some (.int .u8 0):=by have:=hz.out;rw [hi] at this;simpa using this
 subst hib
 have hsmall:m+q.size≤9223372036854775807:=by simpa [maxLen] using h63
 have main:∃v' C' w',(Builtin.append_ #[t,s] ty #[v,.string q]).run P w=.ok v' w'∧OwG e v' (m+q.size) (xs++bsv q.data.toList) C'∧Holds w' (C'::(A++B)):=by
  rcases hown with ⟨rfl,rfl,rfl,rfl⟩|⟨b,cap,rest,fr,rfl,rfl,hxl,hrl,hmc,hcm,hfr⟩
  ·by_cases hm:q.size=0
   ·have hn:strCells q=[]:=List.eq_nil_of_length_eq_zero (by rw [strCells_length];exact hm)
    refine ⟨.slice none 0 0,[],w,?_,?_,hw⟩
    ·have hf:=run_firstCells_string (P:=P) w 1 q
     rw [hm] at hf
     simp [Builtin.append_,run_underlying ht,run_underlying hu,sizeOf,typeInfo,hi,hik,Builtin.lenOf,hm,hf]
    ·rw [←qJ,hn,hm];exact OwG.nil
   ·have hr:=run_append_nil_string (P:=P) w t s ty e i (.int .u8 0) ht hu hi hzz q (by omega) (by omega) (by have h2:=hb;simp only [Nat.zero_add] at h2;omega)
    have e0:(q.data.map fun b=>Value.int .u8 b.toNat)=(strCells q).toArray:=by
     apply Array.ext'
     simp [strCells]
    rw [e0] at hr
    refine ⟨_,[(w.heap.size,.cells (bsv q.data.toList++(Builtin.zeroCells (Value.int .u8 0).cells (grownCap w q.size 0 e - q.size)).toList).toArray e (0,0))],_,hr,.inr ⟨w.heap.size,grownCap w q.size 0 e,(Builtin.zeroCells (Value.int .u8 0).cells (grownCap w q.size 0 e - q.size)).toList,(0,0),by rw [Nat.zero_add],rfl,?_,?_,?_,grownCap_le_maxLen w q.size 0 e (by omega),zbD.zero _⟩,?_⟩
    ·rw [List.nil_append,←qJ,strCells_length];omega
    ·simp [size_zeroCells,Value.cells]
    ·rw [Nat.zero_add];exact grownCap_ge w q.size 0 e
    ·have h0:=(hw.drop.same (w':=w.drew) rfl rfl rfl).alloc (.cells ((strCells q).toArray++Builtin.zeroCells (Value.int .u8 0).cells (grownCap w q.size 0 e - q.size)) e)
     have e1:(bsv q.data.toList++(Builtin.zeroCells (Value.int .u8 0).cells (grownCap w q.size 0 e - q.size)).toList).toArray=(strCells q).toArray++Builtin.zeroCells (Value.int .u8 0).cells (grownCap w q.size 0 e - q.size):=by
      apply Array.ext';simp [qJ]
     rw [e1];exact h0
  ·have hfnd:w.heap[b]? =some (.cells (xs++rest).toArray e fr):=(Fnd.here:Fnd ([(b,.cells (xs++rest).toArray e fr)]::(A++B)) b _).get hw
   by_cases hroom:m+q.size≤cap
   ·have hxl':xs.length=m:=by simpa using hxl
    have hrl':rest.length=cap - m:=by simpa using hrl
    have hlen:m+(strCells q).length≤(xs++rest).length:=by
     simp only [List.length_append,hxl',hrl',strCells_length];omega
    have hf:=run_firstCells_string (P:=P) w 1 q
    have hst:=run_storeCells_cells (P:=P) b m (strCells q) 0 w
     (fun j hj=>by rw [cell_of hfnd];simp;simp at hlen;omega)
     (fun j hj=>by
       have:=hfr (m+0+j) (by omega)
       simp only [World.frozen?,hfnd]
       cases hd:(decide (fr.1≤m+0+j)&&decide (m+0+j < fr.2)) with
       |false=>simpa using hd
       |true=>simp at hd;exact absurd (by simpa using hd) this)
     (strCells_oneCell q)
    simp only [Nat.add_zero] at hst
    have hr:(Builtin.append_ #[t,s] ty #[.slice (some ⟨b,0,none⟩) m cap,.string q]).run P w=.ok (.slice (some ⟨b,0,none⟩) (m+q.size) cap) (w.setCells b m (strCells q)):=by
     simp [Builtin.append_,run_underlying ht,run_underlying hu,sizeOf,typeInfo,hi,hik,Builtin.lenOf,hroom,hf,Addr.add_lit,hst]
    have hx1:patch (xs++rest).toArray.toList m (strCells q)=(xs++bsv q.data.toList)++rest.drop (strCells q).length:=by
     simp only [List.toList_toArray,patch]
     rw [←hxl',List.take_left]
     congr 1
     rw [List.drop_append]
     simp
    have hat:=setCells_at (T:=e) (fr:=fr) (strCells q) m _ w hfnd (by simpa using hlen)
    rw [hx1] at hat
    refine ⟨_,[(b,.cells ((xs++bsv q.data.toList)++rest.drop (strCells q).length).toArray e fr)],_,hr,.inr ⟨b,cap,rest.drop (strCells q).length,fr,rfl,rfl,?_,?_,hroom,hcm,?_⟩,?_⟩
    ·rw [List.length_append,hxl',←qJ,strCells_length];omega
    ·rw [List.length_drop,hrl',strCells_length];omega
    ·intro j hj
     refine hfr j ?_
     simp only [List.length_append,List.length_drop,←qJ] at hj hlen ⊢
     omega
    ·exact hw.upd .here hat (fun q hq=>YF _ _ _ _ hq) (vM _ _ _).1 (vM _ _ _).2
   ·have hrd0:zK ([(b,.cells (xs++rest).toArray e fr)]::(A++B)) ⟨b,0,none⟩ xs:=.inr ⟨b,0,_,_,_,rfl,.here,fun j u hj=>by rw [Nat.zero_add];simpa using z8 hj⟩
    have hr:=run_append_grow_string (P:=P) w t s ty e i (.int .u8 0) ht hu hi hzz ⟨b,0,none⟩ m cap xs (by rw [hik];exact hxl) (hrd0.cells hw) q (by omega) (by omega) (growslice_fits (by omega) hb)
    refine ⟨_,[(w.heap.size,.cells ((xs++bsv q.data.toList)++(Builtin.zeroCells (Value.int .u8 0).cells (grownCap w (m+q.size) cap e - (m+q.size))).toList).toArray e (0,0))],_,hr,.inr ⟨w.heap.size,_,_,(0,0),rfl,rfl,?_,?_,grownCap_ge w (m+q.size) cap e,grownCap_le_maxLen w (m+q.size) cap e h63,zbD.zero _⟩,?_⟩
    ·have hxl':xs.length=m:=by simpa using hxl
     rw [List.length_append,hxl',←qJ,strCells_length];omega
    ·simp [size_zeroCells,Value.cells]
    ·have h0:=(hw.drop.same (w':=w.drew) rfl rfl rfl).alloc (.cells (xs.toArray++(strCells q).toArray++Builtin.zeroCells (Value.int .u8 0).cells (grownCap w (m+q.size) cap e - (m+q.size))) e)
     have e1:(xs++bsv q.data.toList++(Builtin.zeroCells (Value.int .u8 0).cells (grownCap w (m+q.size) cap e - (m+q.size))).toList).toArray=xs.toArray++(strCells q).toArray++Builtin.zeroCells (Value.int .u8 0).cells (grownCap w (m+q.size) cap e - (m+q.size)):=by
      apply Array.ext';simp [qJ]
     rw [e1];exact h0
 obtain ⟨v',C',w',hr,ho,hw'⟩:=main
 unfold Oper.wp
 have hrun:(execOp a.eval ⟨some d,.call ⟨.builtin .append,#[x,y],#[t,s]⟩,ty,ps,af,g⟩).run P w=.ok (.value v') w':=by
  simp only [execOp,resolve,invoke,builtin,Sem.run_bind,Sem.run_pure,Result.andThen_ok,List.map_toArray,List.map_cons,List.map_nil,ha.eval hx,ha.eval hy,hr]
 rw [hrun,Oper.upon_value]
 exact (hk _ _ (h v' C' ho)).out _ _ (ha.put v' hn) (hw'.perm List.perm_middle.symm)⟩
end
end Go.Vx
namespace Go.Ob
open Go Go.Vx Go.Proofs.YtemdlifojcgplaaGreatDoor Go.Lib
set_option linter.all false
variable [W0]
theorem zn6 (a b:List UInt8):str a++str b=str (a++b):=by
 apply ByteArray.ext
 simp [str]
theorem str_inj {a b:List UInt8}:str a=str b↔a=b:=by
 constructor
 ·intro h
  have:=congrArg (fun s=>s.data.toList) h
  simpa [str] using this
 ·rintro rfl;rfl
theorem zn8 (t:List UInt8) (l h:Nat):(str t).extract l h=str ((t.drop l).take (h - l)):=by
 apply ByteArray.ext
 apply Array.ext'
 simp [str,List.drop_take]
theorem zn7 (t:List UInt8) (pos:Nat):Utf8.decode (str t) pos=decodeL (t.drop pos):=(decodeL_drop (str t) pos).symm
theorem zqb (s:ByteArray):∃t,s=str t∧t.length=s.size:=⟨s.data.toList,by cases s;rfl,by cases s;simp [ByteArray.size]⟩
section
variable {P : Program} {n : Nat} {M : List (Nat × Value)} {L : List Chunk} {K : List (Nat × Value) → List Chunk → Prop}
variable {d : Nat} {ty : TypeId} {ps : String} {af : Array Edge} {g : Option (Nat × Bool)} {x y : Operand} {v : Value}
theorem wV (a b:List UInt8) {t u:TypeId} (hx:ev M x=some (.string (str a))) (hy:ev M y=some (.string (str b))) (hs:a.length+b.length≤9223372036854775807) :
 EV P n ⟨some d,.binOp .add t x y u,ty,ps,af,g⟩ M L d (.string (str (a++b))):=by
 have:=zhK (P:=P) (n:=n) (M:=M) (L:=L) (d:=d) (ty:=ty) (ps:=ps) (af:=af) (g:=g) (t:=t) (u:=u) hx hy (by simpa [yE] using hs)
 rw [zn6] at this
 exact this
theorem zoS (a b:List UInt8) {t u:TypeId} (hx:ev M x=some (.string (str a))) (hy:ev M y=some (.string (str b))) :
 EV P n ⟨some d,.binOp .eql t x y u,ty,ps,af,g⟩ M L d (.bool (decide (a=b))):=by
 have:=uy (P:=P) (n:=n) (M:=M) (L:=L) (d:=d) (ty:=ty) (ps:=ps) (af:=af) (g:=g) (t:=t) (u:=u) hx hy
 simpa only [str_inj] using this
theorem ZN (t:List UInt8) (l h:Nat) {T:Nat} [hs:ST P T] {lo hi:Option Operand} (hx:ev M x=some (.string (str t))) (hl:bnd M lo 0=some (l:Int)) (hh:bnd M hi t.length=some (h:Int))
 (h1:l≤h) (h2:h≤t.length):EV P n ⟨some d,.slice T x lo hi none,ty,ps,af,g⟩ M L d (.string (str ((t.drop l).take (h - l)))):=by
 have:=QI (P:=P) (n:=n) (M:=M) (L:=L) (d:=d) (ty:=ty) (ps:=ps) (af:=af) (g:=g) (T:=T) hx hl hh h1 h2
 rw [zn8] at this
 exact this
end
omit [W0] in
theorem zgU {k:Nat} (h1:1≤k) (h2:k≤4):kdL (nmL k)=k:=by
 match k,h1,h2 with
 |1,_,_=>decide
 |2,_,_=>decide
 |3,_,_=>decide
 |4,_,_=>decide
omit [W0] in
theorem zkl {s:List UInt8} (h:∀j,1≤j→j≤4→nmL j≠s):kdL s=0:=by
 have h1:=h 1 (by decide) (by decide)
 have h2:=h 2 (by decide) (by decide)
 have h3:=h 3 (by decide) (by decide)
 have h4:=h 4 (by decide) (by decide)
 unfold kdL
 exact (if_neg (Ne.symm h1)).trans ((if_neg (Ne.symm h2)).trans ((if_neg (Ne.symm h3)).trans (if_neg (Ne.symm h4))))
omit [W0] in
theorem zha {k:Nat} (h1:1≤k) (h2:k≤4):nmI (k:Int)=nmL k:=by
 unfold nmI
 rw [if_pos (by omega)]
 rfl
omit [W0] in
theorem zfL {k:Int} (h:¬(1≤k∧k≤4)):nmI k=[]:=if_neg h
omit [W0] in
theorem zdg (k:Int):(nmI k).length≤6:=by
 unfold nmI
 split
 ·rename_i h
  obtain ⟨n,rfl⟩:∃n:Nat,k=n:=⟨k.toNat,by omega⟩
  match n,h with
  |1,_=>decide
  |2,_=>decide
  |3,_=>decide
  |4,_=>decide
  |0,h=>exact absurd h.1 (by decide)
  |n+5,h=>omega
 ·exact Nat.zero_le _
end Go.Ob
namespace Go.Proofs.YtemdlifojcgplaaGreatDoor
open Go Go.Vx Go.Ob
set_option linter.all false
variable [W0]
set_option maxRecDepth 4000
theorem zbe (k:Int) (L:List Chunk):GvP Tryz.prog 36 [.int .i64 k].toArray L (.string (str (nmI k))):=by
 refine Gv.of_body Tryz.func36 rfl rfl ?_
 (repeat' first|refine kW ?_|refine kU fun bk=>?_|refine kV fun hc=>?_|refine kZ (fun hc=>?_) fun hc=>?_|fail)
 ·subst hc;exact kE
 ·subst hc;exact kE
 ·subst hc;exact kE
 ·subst hc;exact kE
 ·refine kR ?_
  exact ⟨_,iC,by rw [zfL (by omega)];rfl,rfl⟩
theorem zkP (s:List UInt8) (L:List Chunk):GvP Tryz.prog 62 [.string (str s)].toArray L (.tuple #[.int .i64 (kdL s:Int),.bool (decide (kdL s≠0))]):=by
 refine Gv.of_body Tryz.func62 rfl rfl ?_
 refine kW ?_
 refine zn (X:=Nat) (fun k=>[(0,.string (str s)),(4,.int .i64 (k:Int))]) (fun _=>L) (fun k=>1≤k∧k≤5∧∀j,1≤j→j < k→nmL j≠s) (fun k=>5 - k) 1 ⟨by omega,by omega,fun j h1 h2=>by omega⟩ iS (fun w h=>h) ?_
 intro k ⟨h1,h2,h3⟩
 (repeat' first|refine kW ?_|refine kU fun bk=>?_|refine kV fun hc=>?_|refine kZ (fun hc=>?_) fun hc=>?_|fail)
 ·refine cP rfl rfl (zbe _ _) ?_
  rw [zha h1 (by omega)]
  (repeat' first|refine kW ?_|refine kU fun bk=>?_|refine kV fun hc=>?_|refine kZ (fun hc=>?_) fun hc=>?_|fail)
  skip
  ·have hc:=str_inj.1 hc
   refine kR ?_
   refine ⟨_,iC,?_,rfl⟩
   rw [←hc,zgU h1 (by omega),decide_eq_true (by omega)]
   rfl
  ·refine zf (X:=Nat) (μ:=fun k=>5 - k) (x:=k) (k+1) (by omega) ⟨by omega,by omega,fun j g1 g2=>?_⟩ iS (fun w h=>h)
   rcases Nat.lt_or_ge j k with h|h
   ·exact h3 j g1 h
   ·rw [show j=k from by omega];exact fun hh=>hc (str_inj.2 hh)
 ·refine kR ?_
  refine ⟨_,iC,?_,rfl⟩
  rw [zkl (fun j g1 g2=>h3 j g1 (by omega))]
  rfl
theorem zim (k:Int) (L:List Chunk):GvP Tryz.prog 43 [.int .i64 k].toArray L (.string (str (nmI k))):=by
 refine Gv.of_body Tryz.func43 rfl rfl ?_
 refine kW ?_
 refine zl (cs:=[.string (str (nmL 0)),.string (str (nmL 1)),.string (str (nmL 2)),.string (str (nmL 3)),.string (str (nmL 4))]) rfl (by rfl) (by simp [zA,patch,Value.cells,zeros];exact ⟨rfl,rfl,rfl,rfl,rfl⟩) (by omega) rfl rfl (fun bn=>?_)
 (repeat' first|refine kW ?_|refine kU fun bk=>?_|refine kV fun hc=>?_|refine kZ (fun hc=>?_) fun hc=>?_|fail)
 ·refine kR ?_
  exact ⟨_,iC,by rw [zfL (by omega)];rfl,rfl⟩
 ·refine kR ?_
  exact ⟨_,iC,by rw [zfL (by omega)];rfl,rfl⟩
 ·obtain ⟨j,rfl⟩:∃j:Nat,k=j:=⟨k.toNat,by omega⟩
  have hj:j < 5:=by omega
  refine ze (zh (j:=j) rfl rfl rfl hj) rfl ?_
  refine kW ?_
  refine ze (v:=.string (str (nmI (j:Int)))) (zy rfl Fnd.here (by
   match j,hj with
   |0,_=>rfl
   |1,_=>rfl
   |2,_=>rfl
   |3,_=>rfl
   |4,_=>rfl)) rfl ?_
  refine kW ?_
  exact kE
end Go.Proofs.YtemdlifojcgplaaGreatDoor
namespace Go.Vx
open Go
set_option linter.all false
variable [W0]
theorem yX {k:IntKind} (hs:k.signed=false) {m:Nat} (h:m < 2 ^ k.bits):k.wrap (m:Int)=(m:Int):=by
 unfold IntKind.wrap
 simp only [hs,Bool.false_and,Bool.false_eq_true,if_false]
 have c1:((2:Int) ^ k.bits)=((2 ^ k.bits:Nat):Int):=by simp
 rw [c1]
 have h2:((m:Nat):Int) < ((2 ^ k.bits:Nat):Int):=by exact_mod_cast h
 exact Int.emod_eq_of_lt (Int.natCast_nonneg m) h2
theorem vE {b m:Nat} (h:m < 2 ^ b):(BitVec.ofInt b (m:Int)).toNat=m:=by
 rw [BitVec.toNat_ofInt]
 have h2:((m:Nat):Int) < ((2 ^ b:Nat):Int):=by exact_mod_cast h
 rw [Int.emod_eq_of_lt (Int.natCast_nonneg m) h2]
 rfl
section
variable {P : Program} {n : Nat} {Q : Exit → Act → World → Prop} {M : List (Nat × Value)} {L : List Chunk} {K : List (Nat × Value) → List Chunk → Prop}
variable {d : Nat} {ty : TypeId} {ps : String} {af : Array Edge} {g : Option (Nat × Bool)} {x y : Operand} {v : Value}
theorem vH {t u:TypeId} {k k':IntKind} {i j:Int} (a s:Nat) (hx:ev M x=some (.int k i)) (hy:ev M y=some (.int k' j)) (hi:i=(a:Int)) (hj:j=(s:Int)) (hs:k.signed=false) (hr:a * 2 ^ s < 2 ^ k.bits) :
 EV P n ⟨some d,.binOp .shl t x y u,ty,ps,af,g⟩ M L d (.int k ((a * 2 ^ s:Nat):Int)):=by
 subst hi hj
 refine zfa hx hy (by omega) ?_
 rw [Int.toNat_natCast]
 rcases Nat.lt_or_ge k.bits s with h|h
 ·have h0:a=0:=by
   rcases Nat.eq_zero_or_pos a with h0|h0
   ·exact h0
   ·exfalso
    have h1:2 ^ k.bits≤2 ^ s:=Nat.pow_le_pow_right (by decide) (Nat.le_of_lt h)
    have h2:1 * 2 ^ s≤a * 2 ^ s:=Nat.mul_le_mul_right _ h0
    omega
  subst h0
  have:=yX hs (m:=0) (Nat.pow_pos (by decide))
  simpa using this
 ·rw [Nat.min_eq_left h]
  have c:(a:Int) * 2 ^ s=((a * 2 ^ s:Nat):Int):=by simp
  rw [c]
  exact yX hs hr
theorem Zq {t u:TypeId} {k k':IntKind} {i j:Int} (a s:Nat) (hx:ev M x=some (.int k i)) (hy:ev M y=some (.int k' j)) (hi:i=(a:Int)) (hj:j=(s:Int)) (hr:a < 2 ^ k.bits) :
 EV P n ⟨some d,.binOp .shr t x y u,ty,ps,af,g⟩ M L d (.int k ((a / 2 ^ s:Nat):Int)):=by
 subst hi hj
 refine ZQ hx hy (by omega) ?_
 rw [Int.toNat_natCast]
 have c:∀q:Nat,(a:Int).fdiv (2 ^ q)=((a / 2 ^ q:Nat):Int):=fun q=>by
  have:((2:Int) ^ q)=((2 ^ q:Nat):Int):=by simp
  rw [this,Int.fdiv_eq_ediv_of_nonneg _ (Int.natCast_nonneg _),←Int.natCast_ediv]
 rw [c]
 rcases Nat.lt_or_ge k.bits s with h|h
 ·rw [Nat.min_eq_right (Nat.le_of_lt h),Nat.div_eq_of_lt hr,Nat.div_eq_of_lt (Nat.lt_of_lt_of_le hr (Nat.pow_le_pow_right (by decide) (Nat.le_of_lt h)))]
 ·rw [Nat.min_eq_left h]
theorem uM {t u:TypeId} {k:IntKind} {i j:Int} (a s:Nat) (hx:ev M x=some (.int k i)) (hy:ev M y=some (.int k j)) (hi:i=(a:Int)) (hj:j=((2 ^ s - 1:Nat):Int)) (hs:k.signed=false) (ha:a < 2 ^ k.bits) (hb:s≤k.bits) :
 EV P n ⟨some d,.binOp .and t x y u,ty,ps,af,g⟩ M L d (.int k ((a % 2 ^ s:Nat):Int)):=by
 subst hi hj
 refine wZ (op:=.and) hx hy ?_
 have h1:2 ^ s - 1 < 2 ^ k.bits:=by
  have:=Nat.pow_le_pow_right (n:=2) (by decide) hb
  have h0:0 < 2 ^ s:=Nat.pow_pos (by decide)
  omega
 show some (k.wrap ((BitVec.ofInt k.bits (a:Int)&&&BitVec.ofInt k.bits ((2 ^ s - 1:Nat):Int)).toNat:Int))=_
 rw [BitVec.toNat_and,vE ha,vE h1,Nat.and_two_pow_sub_one_eq_mod,yX hs (Nat.lt_of_le_of_lt (Nat.mod_le _ _) ha)]
theorem zkR {a b s:Nat} (h:a < 2 ^ s):a|||b * 2 ^ s=a+b * 2 ^ s:=by
 rw [Nat.mul_comm,Nat.or_comm,←Nat.two_pow_add_eq_or_of_lt h,Nat.add_comm]
theorem ze9 {t u:TypeId} {k:IntKind} {i j:Int} (a b s:Nat) (hx:ev M x=some (.int k i)) (hy:ev M y=some (.int k j)) (hi:i=(a:Int)) (hj:j=((b * 2 ^ s:Nat):Int)) (hs:k.signed=false) (ha:a < 2 ^ s) (hr:a+b * 2 ^ s < 2 ^ k.bits) :
 EV P n ⟨some d,.binOp .or t x y u,ty,ps,af,g⟩ M L d (.int k ((a+b * 2 ^ s:Nat):Int)):=by
 subst hi hj
 refine wZ (op:=.or) hx hy ?_
 show some (k.wrap ((BitVec.ofInt k.bits (a:Int)|||BitVec.ofInt k.bits ((b * 2 ^ s:Nat):Int)).toNat:Int))=_
 rw [BitVec.toNat_or,vE (by omega),vE (by omega),zkR ha,yX hs hr]
theorem YT {t u:TypeId} {k:IntKind} {i j:Int} (a b s:Nat) (hx:ev M x=some (.int k i)) (hy:ev M y=some (.int k j)) (hi:i=((b * 2 ^ s:Nat):Int)) (hj:j=(a:Int)) (hs:k.signed=false) (ha:a < 2 ^ s) (hr:a+b * 2 ^ s < 2 ^ k.bits) :
 EV P n ⟨some d,.binOp .or t x y u,ty,ps,af,g⟩ M L d (.int k ((a+b * 2 ^ s:Nat):Int)):=by
 subst hi hj
 refine wZ (op:=.or) hx hy ?_
 show some (k.wrap ((BitVec.ofInt k.bits ((b * 2 ^ s:Nat):Int)|||BitVec.ofInt k.bits (a:Int)).toNat:Int))=_
 rw [BitVec.toNat_or,vE (by omega),vE (by omega),Nat.or_comm,zkR ha,yX hs hr]
theorem vG {s t:Nat} {k k':IntKind} [h1:IK P s k] [h2:IK P t k'] {i:Int} (a:Nat) (hx:ev M x=some (.int k i)) (hi:i=(a:Int)) (hs:k'.signed=false) (ha:a < 2 ^ k'.bits) :
 EV P n ⟨some d,.convert s t x,ty,ps,af,g⟩ M L d (.int k' (a:Int)):=by
 subst hi
 exact zO hx (yX hs ha)
theorem u6 (a:Nat):IntKind.u8.wrap (a:Int)=((UInt8.ofNat a).toNat:Int):=by
 rw [wrap_u8,UInt8.toNat_ofNat']
 omega
theorem ziB {s t:Nat} {k:IntKind} [h1:IK P s k] [h2:IK P t .u8] {i:Int} (a:Nat) (hx:ev M x=some (.int k i)) (hi:i=(a:Int)) :
 EV P n ⟨some d,.convert s t x,ty,ps,af,g⟩ M L d (.int .u8 ((UInt8.ofNat a).toNat:Int)):=by
 subst hi
 refine zO hx ?_
 rw [wrap_u8,UInt8.toNat_ofNat']
 omega
theorem uN {t u:TypeId} {i j:Int} (a b:Nat) (hx:ev M x=some (.int .i64 i)) (hy:ev M y=some (.int .i64 j)) (hi:i=(a:Int)) (hj:j=(b:Int)) (hb:b≠0) (ha:a≤9223372036854775807) :
 EV P n ⟨some d,.binOp .quo t x y u,ty,ps,af,g⟩ M L d (.int .i64 ((a / b:Nat):Int)):=by
 subst hi hj
 have:=ziC (P:=P) (n:=n) (L:=L) (d:=d) (ty:=ty) (ps:=ps) (af:=af) (g:=g) (t:=t) (u:=u) hx hy (by omega)
 have e:IntKind.i64.wrap (((a:Nat):Int).tdiv (b:Int))=((a / b:Nat):Int):=by
  rw [Int.tdiv_eq_ediv_of_nonneg (by omega),←Int.natCast_ediv]
  have:a / b≤a:=Nat.div_le_self _ _
  generalize a / b=q at *
  exact wrap_i64 (by omega) (by omega)
 rwa [e] at this
theorem XC {t u:TypeId} {k:IntKind} {i j:Int} (a b:Nat) (hx:ev M x=some (.int k i)) (hy:ev M y=some (.int k j)) (hi:i=(a:Int)) (hj:j=(b:Int)) (hb:b≠0) :
 EV P n ⟨some d,.binOp .rem t x y u,ty,ps,af,g⟩ M L d (.int k ((a % b:Nat):Int)):=by
 subst hi hj
 have:=Xm (P:=P) (n:=n) (L:=L) (d:=d) (ty:=ty) (ps:=ps) (af:=af) (g:=g) (t:=t) (u:=u) hx hy (by omega)
 have e:((a:Nat):Int).tmod (b:Int)=((a % b:Nat):Int):=by
  rw [Int.tmod_eq_emod_of_nonneg (by omega),Int.natCast_emod]
 rwa [e] at this
end
omit [W0] in
def val:List UInt8→Nat
 |[]=>0
 |b::r=>b.toNat+256 * val r
omit [W0] in
def byB (V i:Nat):UInt8:=UInt8.ofNat (V / 2 ^ (8 * i))
omit [W0] in
def leB (V k:Nat):List UInt8:=(List.range k).map (byB V)
theorem zkV (i:Nat):2 ^ (8 * (i+1))=256 * 2 ^ (8 * i):=by
 rw [Nat.mul_add,Nat.pow_add,Nat.mul_comm]
theorem zl6:∀d:List UInt8,val d < 2 ^ (8 * d.length)
 |[]=>by simp [val]
 |b::r=>by
  have:=zl6 r
  have hb:=b.toNat_lt
  rw [List.length_cons,zkV]
  simp only [val]
  omega
theorem zay:∀(d:List UInt8) (i:Nat),i < d.length→val d / 2 ^ (8 * i) % 256=(d.getD i 0).toNat
 |[],i,h=>by simp at h
 |b::r,0,_=>by
  have hb:=b.toNat_lt
  simp [val]
 |b::r,i+1,h=>by
  have hb:=b.toNat_lt
  have h2:=zay r i (by simpa using h)
  rw [zkV,←Nat.div_div_eq_div_mul]
  have e:val (b::r) / 256=val r:=by simp only [val];omega
  rw [e,h2]
  simp
theorem qy (V k:Nat):(leB V k).length=k:=by simp [leB]
theorem za9 (V k:Nat):leB V (k+1)=leB V k++[byB V k]:=by simp [leB,List.range_succ]
theorem uY (V i:Nat):(byB V i).toNat=V / 2 ^ (8 * i) % 256:=by simp [byB,UInt8.toNat_ofNat']
theorem zgx {V N x i:Nat} (h:8 * (i+1)≤N):byB (V+2 ^ N * x) i=byB V i:=by
 apply UInt8.toNat_inj.1
 rw [uY,uY]
 obtain ⟨j,rfl⟩:=Nat.le.dest h
 rw [Nat.pow_add,zkV,show 256 * 2 ^ (8 * i) * 2 ^ j * x=2 ^ (8 * i) * (256 * (2 ^ j * x)) from by ac_rfl,Nat.add_mul_div_left _ _ (Nat.pow_pos (by decide)),Nat.add_mul_mod_self_left]
theorem znq {V N x k:Nat} (h:8 * k≤N):leB (V+2 ^ N * x) k=leB V k:=by
 unfold leB
 refine List.map_congr_left fun i hi=>?_
 have:=List.mem_range.1 hi
 exact zgx (by omega)
theorem zmI {d:List UInt8} {i:Nat} (h:i < d.length):byB (val d) i=d.getD i 0:=by
 apply UInt8.toNat_inj.1
 rw [uY,zay d i h]
theorem znr {V k:Nat} (h:V < 2 ^ (8 * k)) (b:List UInt8):leB (V+2 ^ (8 * k) * val b) (k+b.length)=leB V k++b:=by
 apply List.ext_getElem?
 intro i
 rcases Nat.lt_or_ge i k with hi|hi
 ·rw [List.getElem?_append_left (by rw [qy];exact hi)]
  simp only [leB,List.getElem?_map]
  rw [List.getElem?_range (by omega),List.getElem?_range hi]
  simp only [Option.map_some]
  rw [zgx (by omega)]
 ·rw [List.getElem?_append_right (by rw [qy];exact hi),qy]
  rcases Nat.lt_or_ge i (k+b.length) with h2|h2
  ·simp only [leB,List.getElem?_map]
   rw [List.getElem?_range h2]
   have e:byB (V+2 ^ (8 * k) * val b) i=byB (val b) (i - k):=by
    apply UInt8.toNat_inj.1
    rw [uY,uY,show 8 * i=8 * k+8 * (i - k) from by omega,Nat.pow_add,←Nat.div_div_eq_div_mul,Nat.add_mul_div_left _ _ (Nat.pow_pos (by decide)),Nat.div_eq_of_lt h,Nat.zero_add]
   have h3:i - k < b.length:=by omega
   simp only [Option.map_some,e,zmI h3]
   simp [List.getD_eq_getElem?_getD,h3]
  ·rw [List.getElem?_eq_none (by rw [qy];exact h2),List.getElem?_eq_none (by omega)]
theorem zog (a:List UInt8) (x:UInt8):val (a++[x])=val a+2 ^ (8 * a.length) * x.toNat:=by
 induction a with
 |nil=>simp [val]
 |cons b r ih=>
  simp only [List.cons_append,val,ih,List.length_cons,zkV]
  rw [Nat.mul_add,Nat.mul_assoc]
  omega
theorem zhF:∀(k V:Nat),val (leB V k)=V % 2 ^ (8 * k)
 |0,V=>by simp [leB,val,Nat.mod_one]
 |k+1,V=>by
  rw [za9,zog,zhF k V,qy,uY,zkV,Nat.mul_comm 256,Nat.mod_mul]
omit [W0] in
def mir (v:Nat):Nat→Nat
 |0=>0
 |i+1=>2 * mir v i+v / 2 ^ i % 2
theorem zdf (v:Nat):∀i,mir v i < 2 ^ i
 |0=>by simp [mir]
 |i+1=>by
  have:=zdf v i
  simp only [mir]
  omega
end Go.Vx
namespace Go.Proofs.YtemdlifojcgplaaGreatDoor
open Go Go.Vx Go.Ob
set_option linter.all false
variable [W0]
set_option maxRecDepth 4000
omit [W0] in
theorem zcW : ∀ (f n : Nat), n < 10 ^ (f + 1) → dgF (f + 1) n = Lib.decDigits n
  | 0, n, h => by
    unfold dgF
    rw [if_pos (by simpa using h), Lib.decDigits_one (by simpa using h)]
  | f + 1, n, h => by
    rw [Lib.decDigits]
    unfold dgF
    split
    · rfl
    · rw [zcW f (n / 10) (by rw [Nat.pow_succ] at h; omega)]
omit [W0] in
theorem zcY {n : Nat} (h : n < 100000000000000000000) : dgL n = Lib.decDigits n := zcW 19 n h
theorem Z6 {u : Nat} (h1 : 1 ≤ u) (h2 : u < 18446744073709551616) : Lib.nDigits u ≤ 20 := by
  have := Lib.numDigits_eq u h1 h2
  split at this <;> omega
theorem wL (u : Nat) (h : u < 18446744073709551616) : Lib.nDigits u ≤ 20 := by
  rcases Nat.eq_zero_or_pos u with rfl | h1
  · rw [Lib.nDigits_small (by decide)]; decide
  · exact Z6 h1 h
theorem zc7 (k n : Int) (hn : n ≤ 9223372036854775807) : (hdL k n).length ≤ 28 := by
  have h6 := zdg k
  have hd := wL (max n 0).toNat (by omega)
  rw [← Lib.decDigits_length] at hd
  unfold hdL
  rw [zcY (by omega)]
  simp only [List.length_append, List.length_cons, List.length_nil]
  omega
theorem zjF (n : Nat) (L : List Chunk) (hn : n ≤ 9223372036854775807) : GvP Tryz.prog 44 [.int .i64 (n : Int)].toArray L (.string (str (dgL n))) := by
  refine Gv.of_body Tryz.func44 rfl rfl ?_
  have hd := wL n (by omega)
  rw [← Lib.decDigits_length] at hd
  have hby : ∀ a : Nat, a < 10 → IntKind.u8.wrap (48 + IntKind.u8.wrap (a : Int)) = ((UInt8.ofNat (48 + a)).toNat : Int) := fun a ha => by
    rw [wrap_u8, wrap_u8, UInt8.toNat_ofNat']; omega
  rw [zcY (by omega)]
  (repeat' first|refine kW ?_|refine kU fun bk=>?_|refine kV fun hc=>?_|refine kZ (fun hc=>?_) fun hc=>?_|fail)
  refine zn (X := Nat × List UInt8) (fun x => [(0, .int .i64 (x.1 : Int)), (3, .string (str x.2))]) (fun _ => L) (fun x => x.1 ≤ n ∧ Lib.decDigits x.1 ++ x.2 = Lib.decDigits n) (fun x => x.1) (n, []) ⟨Nat.le_refl _, by simp⟩ iS (fun w h => h) ?_
  intro x ⟨h1, h2⟩
  obtain ⟨k, s⟩ := x
  simp only at h1 h2 ⊢
  have hsl : (Lib.decDigits k).length + s.length ≤ 20 := by rw [← List.length_append, h2]; exact hd
  (repeat' first|refine kW ?_|refine kU fun bk=>?_|refine kV fun hc=>?_|refine kZ (fun hc=>?_) fun hc=>?_|fail)
  · refine ze (XC k 10 rfl rfl rfl rfl (by decide)) rfl ?_
    (repeat' first|refine kW ?_|refine kU fun bk=>?_|refine kV fun hc=>?_|refine kZ (fun hc=>?_) fun hc=>?_|fail)
    refine ze (qj rfl rfl rfl) rfl ?_
    obtain ⟨c, hcq⟩ : ∃ c, c = UInt8.ofNat (48 + k % 10) := ⟨_, rfl⟩
    rw [hby _ (by omega), ← hcq]
    (repeat' first|refine kW ?_|refine kU fun bk=>?_|refine kV fun hc=>?_|refine kZ (fun hc=>?_) fun hc=>?_|fail)
    refine zl (cs := bsv [c]) rfl (by rfl) (by simp [zA, patch, Value.cells, zeros]; rfl) (by omega) rfl rfl (fun b1 => ?_)
    (repeat' first|refine kW ?_|refine kU fun bk=>?_|refine kV fun hc=>?_|refine kZ (fun hc=>?_) fun hc=>?_|fail)
    refine ze (qD (b := [c]) (m := 1) rfl (zF Fnd.here rfl (by simp))) rfl ?_
    (repeat' first|refine kW ?_|refine kU fun bk=>?_|refine kV fun hc=>?_|refine kZ (fun hc=>?_) fun hc=>?_|fail)
    refine ze (wV [c] s rfl rfl (by simp; omega)) rfl ?_
    (repeat' first|refine kW ?_|refine kU fun bk=>?_|refine kV fun hc=>?_|refine kZ (fun hc=>?_) fun hc=>?_|fail)
    refine ze (uN k 10 rfl rfl rfl rfl (by decide) (by omega)) rfl ?_
    (repeat' first|refine kW ?_|refine kU fun bk=>?_|refine kV fun hc=>?_|refine kZ (fun hc=>?_) fun hc=>?_|fail)
    refine zf (X := Nat × List UInt8) (μ := fun x => x.1) (x := (k, s)) (k / 10, [c] ++ s) (by simp only; omega) ⟨by simp only; omega, ?_⟩ iS (fun w h => iH h)
    rw [← h2]
    simp only [hcq]
    conv => rhs; rw [Lib.decDigits, dif_neg (by omega)]
    simp
  · refine ze (qj rfl rfl rfl) rfl ?_
    obtain ⟨c, hcq⟩ : ∃ c, c = UInt8.ofNat (48 + k) := ⟨_, rfl⟩
    rw [hby k (by omega), ← hcq]
    (repeat' first|refine kW ?_|refine kU fun bk=>?_|refine kV fun hc=>?_|refine kZ (fun hc=>?_) fun hc=>?_|fail)
    refine zl (cs := bsv [c]) rfl (by rfl) (by simp [zA, patch, Value.cells, zeros]; rfl) (by omega) rfl rfl (fun b1 => ?_)
    (repeat' first|refine kW ?_|refine kU fun bk=>?_|refine kV fun hc=>?_|refine kZ (fun hc=>?_) fun hc=>?_|fail)
    refine ze (qD (b := [c]) (m := 1) rfl (zF Fnd.here rfl (by simp))) rfl ?_
    (repeat' first|refine kW ?_|refine kU fun bk=>?_|refine kV fun hc=>?_|refine kZ (fun hc=>?_) fun hc=>?_|fail)
    refine ze (wV [c] s rfl rfl (by simp; omega)) rfl ?_
    (repeat' first|refine kW ?_|refine kU fun bk=>?_|refine kV fun hc=>?_|refine kZ (fun hc=>?_) fun hc=>?_|fail)
    refine kR ?_
    refine ⟨L, iC, ?_, rfl⟩
    rw [← h2, Lib.decDigits_one (by omega), ← hcq]
    rfl
theorem zeC (k n : Int) (L : List Chunk) (hn : n ≤ 9223372036854775807) : GvP Tryz.prog 20 [.int .i64 k, .int .i64 n].toArray L (.string (str (hdL k n))) := by
  refine Gv.of_body (args := [.int .i64 k, .int .i64 n]) Tryz.func20 rfl rfl ?_
  (repeat' first|refine kW ?_|refine kU fun bk=>?_|refine kV fun hc=>?_|refine kZ (fun hc=>?_) fun hc=>?_|fail)
  have h6 := zdg k
  refine wR rfl rfl rfl (zim k _) rfl ?_
  (repeat' first|refine kW ?_|refine kU fun bk=>?_|refine kV fun hc=>?_|refine kZ (fun hc=>?_) fun hc=>?_|fail)
  refine ze (wV (nmI k) [32] rfl rfl (by simp; omega)) rfl ?_
  (repeat' first|refine kW ?_|refine kU fun bk=>?_|refine kV fun hc=>?_|refine kZ (fun hc=>?_) fun hc=>?_|fail)
  obtain ⟨i, hi⟩ : ∃ i : Nat, max n 0 = (i : Int) := ⟨(max n 0).toNat, by omega⟩
  rw [hi]
  have hi2 : i ≤ 9223372036854775807 := by omega
  have hd := wL i (by omega)
  rw [← Lib.decDigits_length, ← zcY (by omega)] at hd
  refine wR rfl rfl rfl (zjF i _ hi2) rfl ?_
  (repeat' first|refine kW ?_|refine kU fun bk=>?_|refine kV fun hc=>?_|refine kZ (fun hc=>?_) fun hc=>?_|fail)
  refine ze (wV (nmI k ++ [32]) (dgL i) rfl rfl (by simp; omega)) rfl ?_
  (repeat' first|refine kW ?_|refine kU fun bk=>?_|refine kV fun hc=>?_|refine kZ (fun hc=>?_) fun hc=>?_|fail)
  refine ze (wV (nmI k ++ [32] ++ dgL i) [0] rfl rfl (by simp; omega)) rfl ?_
  (repeat' first|refine kW ?_|refine kU fun bk=>?_|refine kV fun hc=>?_|refine kZ (fun hc=>?_) fun hc=>?_|fail)
  refine kR ?_
  exact ⟨_, iC, by unfold hdL; rw [hi, Int.toNat_natCast]; rfl, rfl⟩
end Go.Proofs.YtemdlifojcgplaaGreatDoor
namespace Go.Proofs.YtemdlifojcgplaaGreatDoor
open Go Go.Shelf Go.Proofs
set_option linter.all false
set_option maxRecDepth 100000
def wu : Go.Shelf.Ren :=
  {
    f := fun x =>
      match x with
      | 145 => 61
      | 220 => 98
      | 219 => 134
      | 217 => 123
      | 225 => 183
      | 224 => 96
      | 267 => 184
      | 266 => 172
      | 314 => 226
      | n => n,
    t := fun x =>
      match x with
      | 9 => 9
      | 4 => 4
      | 59 => 102
      | 3 => 3
      | 5 => 5
      | 46 => 85
      | 146 => 206
      | 51 => 88
      | n => n,
    g := fun x =>
      match x with
      | 1 => 0
      | n => n }
theorem zro : Go.Proofs.Lays.n145 Go.Proofs.Tryz.prog wu :=
  { mixed := by kernel_rfl,
    f145 := Eq.trans Go.Proofs.Tryz.func61 (congrArg Option.some (Eq.refl (Go.Proofs.Body.n145 wu))),
    f217 :=
      Eq.trans Go.Proofs.Tryz.func123 (congrArg Option.some (Eq.refl (Go.Proofs.Body.n217 wu))),
    f219 :=
      Eq.trans Go.Proofs.Tryz.func134 (congrArg Option.some (Eq.refl (Go.Proofs.Body.n219 wu))),
    f220 := Eq.trans Go.Proofs.Tryz.func98 (congrArg Option.some (Eq.refl (Go.Proofs.Body.n220 wu))),
    f224 := Eq.trans Go.Proofs.Tryz.func96 (congrArg Option.some (Eq.refl (Go.Proofs.Body.n224 wu))),
    f225 :=
      Eq.trans Go.Proofs.Tryz.func183 (congrArg Option.some (Eq.refl (Go.Proofs.Body.n225 wu))),
    f266 :=
      Eq.trans Go.Proofs.Tryz.func172 (congrArg Option.some (Eq.refl (Go.Proofs.Body.n266 wu))),
    f267 :=
      Eq.trans Go.Proofs.Tryz.func184 (congrArg Option.some (Eq.refl (Go.Proofs.Body.n267 wu))),
    f314 :=
      Eq.trans Go.Proofs.Tryz.func226 (congrArg Option.some (Eq.refl (Go.Proofs.Body.n314 wu))),
    t3 := Go.Proofs.Tryz.underlying3, a3 := Go.Proofs.Tryz.isAgg3, z3 := Go.Proofs.Tryz.sizeOf3,
    v3 := Go.Proofs.Tryz.zeroValue3, t4 := Go.Proofs.Tryz.underlying4, a4 := Go.Proofs.Tryz.isAgg4,
    z4 := Go.Proofs.Tryz.sizeOf4, v4 := Go.Proofs.Tryz.zeroValue4, t5 := Go.Proofs.Tryz.underlying5,
    a5 := Go.Proofs.Tryz.isAgg5, z5 := Go.Proofs.Tryz.sizeOf5, v5 := Go.Proofs.Tryz.zeroValue5,
    t9 := Go.Proofs.Tryz.underlying9, a9 := Go.Proofs.Tryz.isAgg9, z9 := Go.Proofs.Tryz.sizeOf9,
    v9 := Go.Proofs.Tryz.zeroValue9, t46 := Go.Proofs.Tryz.underlying85, a46 := Go.Proofs.Tryz.isAgg85,
    z46 := Go.Proofs.Tryz.sizeOf85, v46 := Go.Proofs.Tryz.zeroValue85, t51 := Go.Proofs.Tryz.underlying88,
    a51 := Go.Proofs.Tryz.isAgg88, z51 := Go.Proofs.Tryz.sizeOf88, v51 := Go.Proofs.Tryz.zeroValue88,
    t59 := Go.Proofs.Tryz.underlying102, a59 := Go.Proofs.Tryz.isAgg102, z59 := Go.Proofs.Tryz.sizeOf102,
    v59 := Go.Proofs.Tryz.zeroValue102, t146 := Go.Proofs.Tryz.underlying206, a146 := Go.Proofs.Tryz.isAgg206,
    z146 := Go.Proofs.Tryz.sizeOf206, v146 := Go.Proofs.Tryz.zeroValue206,
    g1 := by kernel_rfl }
def zeO : Go.Shelf.Ren :=
  {
    f := fun x =>
      match x with
      | 283 => 168
      | n => n,
    t := fun x =>
      match x with
      | 3 => 3
      | 9 => 9
      | 4 => 4
      | n => n,
    g := fun x =>
      have n := x;
      n }
theorem zrq : Go.Proofs.Lays.n283 Go.Proofs.Tryz.prog zeO :=
  { mixed := by kernel_rfl,
    f283 :=
      Eq.trans Go.Proofs.Tryz.func168 (congrArg Option.some (Eq.refl (Go.Proofs.Body.n283 zeO))),
    t3 := Go.Proofs.Tryz.underlying3, a3 := Go.Proofs.Tryz.isAgg3, z3 := Go.Proofs.Tryz.sizeOf3,
    v3 := Go.Proofs.Tryz.zeroValue3, t4 := Go.Proofs.Tryz.underlying4, a4 := Go.Proofs.Tryz.isAgg4,
    z4 := Go.Proofs.Tryz.sizeOf4, v4 := Go.Proofs.Tryz.zeroValue4, t9 := Go.Proofs.Tryz.underlying9,
    a9 := Go.Proofs.Tryz.isAgg9, z9 := Go.Proofs.Tryz.sizeOf9, v9 := Go.Proofs.Tryz.zeroValue9 }
def YG : Go.Shelf.Ren :=
  {
    f := fun x =>
      match x with
      | 284 => 169
      | 129 => 211
      | 317 => 210
      | 318 => 212
      | n => n,
    t := fun x =>
      match x with
      | 53 => 86
      | 3 => 3
      | 212 => 291
      | 0 => 0
      | 4 => 4
      | 46 => 85
      | 5 => 5
      | 9 => 9
      | n => n,
    g := fun x =>
      match x with
      | 17 => 3
      | n => n }
theorem zrp : Go.Proofs.LaysM.n284 Go.Proofs.Tryz.prog YG :=
  { mixed := by kernel_rfl,
    f129 :=
      Eq.trans Go.Proofs.Tryz.func211 (congrArg Option.some (Eq.refl (Go.Proofs.Body.n129 YG))),
    f284 :=
      Eq.trans Go.Proofs.Tryz.func169 (congrArg Option.some (Eq.refl (Go.Proofs.Body.n284 YG))),
    f317 :=
      Eq.trans Go.Proofs.Tryz.func210 (congrArg Option.some (Eq.refl (Go.Proofs.Body.n317 YG))),
    f318 :=
      Eq.trans Go.Proofs.Tryz.func212 (congrArg Option.some (Eq.refl (Go.Proofs.Body.n318 YG))),
    t0 := Go.Proofs.Tryz.underlying0, a0 := Go.Proofs.Tryz.isAgg0, z0 := Go.Proofs.Tryz.sizeOf0,
    v0 := Go.Proofs.Tryz.zeroValue0, t3 := Go.Proofs.Tryz.underlying3, a3 := Go.Proofs.Tryz.isAgg3,
    z3 := Go.Proofs.Tryz.sizeOf3, v3 := Go.Proofs.Tryz.zeroValue3, t4 := Go.Proofs.Tryz.underlying4,
    a4 := Go.Proofs.Tryz.isAgg4, z4 := Go.Proofs.Tryz.sizeOf4, v4 := Go.Proofs.Tryz.zeroValue4,
    t5 := Go.Proofs.Tryz.underlying5, a5 := Go.Proofs.Tryz.isAgg5, z5 := Go.Proofs.Tryz.sizeOf5,
    v5 := Go.Proofs.Tryz.zeroValue5, t9 := Go.Proofs.Tryz.underlying9, a9 := Go.Proofs.Tryz.isAgg9,
    z9 := Go.Proofs.Tryz.sizeOf9, v9 := Go.Proofs.Tryz.zeroValue9, t46 := Go.Proofs.Tryz.underlying85,
    a46 := Go.Proofs.Tryz.isAgg85, z46 := Go.Proofs.Tryz.sizeOf85, v46 := Go.Proofs.Tryz.zeroValue85,
    t53 := Go.Proofs.Tryz.underlying86, a53 := Go.Proofs.Tryz.isAgg86, z53 := Go.Proofs.Tryz.sizeOf86,
    v53 := Go.Proofs.Tryz.zeroValue86, t212 := Go.Proofs.Tryz.underlying291, a212 := Go.Proofs.Tryz.isAgg291,
    z212 := Go.Proofs.Tryz.sizeOf291, v212 := Go.Proofs.Tryz.zeroValue291,
    g17 := by kernel_rfl,
    i0 := Eq.refl (Option.some (Option.some (Go.Value.tuple #[]), 1, 0)),
    i3 := Eq.refl (Option.some (Option.some (Go.Value.int Go.IntKind.i64 0), 1, 8)),
    i4 := Eq.refl (Option.some (Option.some (Go.Value.bool Bool.false), 1, 1)),
    i5 := Eq.refl (Option.some (Option.some (Go.Value.int Go.IntKind.u8 0), 1, 1)),
    i9 := Eq.refl (Option.some (Option.some (Go.Value.string { data := #[] }), 1, 16)),
    i46 := Eq.refl (Option.some (Option.some (Go.Value.int Go.IntKind.u64 0), 1, 8)),
    i53 := Eq.refl (Option.some (Option.some (Go.Value.int Go.IntKind.u64 0), 1, 8)),
    i212 :=
      Eq.refl
        (Option.some
          (Option.some
              (Go.Value.agg
                #[Go.Value.int Go.IntKind.u64 0, Go.Value.int Go.IntKind.u64 0, Go.Value.int Go.IntKind.u64 0,
                  Go.Value.int Go.IntKind.u64 0, Go.Value.int Go.IntKind.u64 0, Go.Value.int Go.IntKind.u64 0,
                  Go.Value.int Go.IntKind.u64 0, Go.Value.int Go.IntKind.u64 0, Go.Value.int Go.IntKind.u64 0,
                  Go.Value.int Go.IntKind.u64 0, Go.Value.int Go.IntKind.u64 0, Go.Value.int Go.IntKind.u64 0,
                  Go.Value.int Go.IntKind.u64 0, Go.Value.int Go.IntKind.u64 0, Go.Value.int Go.IntKind.u64 0,
                  Go.Value.int Go.IntKind.u64 0, Go.Value.int Go.IntKind.u64 0, Go.Value.int Go.IntKind.u64 0,
                  Go.Value.int Go.IntKind.u64 0, Go.Value.int Go.IntKind.u64 0]),
            20, 160)),
    m17 := by kernel_rfl }
def zeN : Go.Shelf.Ren :=
  {
    f := fun x =>
      match x with
      | 285 => 170
      | n => n,
    t := fun x =>
      match x with
      | 37 => 22
      | 53 => 86
      | 3 => 3
      | 4 => 4
      | 51 => 88
      | 9 => 9
      | 5 => 5
      | 0 => 0
      | n => n,
    g := fun x =>
      have n := x;
      n }
theorem zrn : Go.Proofs.Lays.n285 Go.Proofs.Tryz.prog zeN :=
  { mixed := by kernel_rfl,
    f285 :=
      Eq.trans Go.Proofs.Tryz.func170 (congrArg Option.some (Eq.refl (Go.Proofs.Body.n285 zeN))),
    t0 := Go.Proofs.Tryz.underlying0, a0 := Go.Proofs.Tryz.isAgg0, z0 := Go.Proofs.Tryz.sizeOf0,
    v0 := Go.Proofs.Tryz.zeroValue0, t3 := Go.Proofs.Tryz.underlying3, a3 := Go.Proofs.Tryz.isAgg3,
    z3 := Go.Proofs.Tryz.sizeOf3, v3 := Go.Proofs.Tryz.zeroValue3, t4 := Go.Proofs.Tryz.underlying4,
    a4 := Go.Proofs.Tryz.isAgg4, z4 := Go.Proofs.Tryz.sizeOf4, v4 := Go.Proofs.Tryz.zeroValue4,
    t5 := Go.Proofs.Tryz.underlying5, a5 := Go.Proofs.Tryz.isAgg5, z5 := Go.Proofs.Tryz.sizeOf5,
    v5 := Go.Proofs.Tryz.zeroValue5, t9 := Go.Proofs.Tryz.underlying9, a9 := Go.Proofs.Tryz.isAgg9,
    z9 := Go.Proofs.Tryz.sizeOf9, v9 := Go.Proofs.Tryz.zeroValue9, t37 := Go.Proofs.Tryz.underlying22,
    a37 := Go.Proofs.Tryz.isAgg22, z37 := Go.Proofs.Tryz.sizeOf22, v37 := Go.Proofs.Tryz.zeroValue22,
    t51 := Go.Proofs.Tryz.underlying88, a51 := Go.Proofs.Tryz.isAgg88, z51 := Go.Proofs.Tryz.sizeOf88,
    v51 := Go.Proofs.Tryz.zeroValue88, t53 := Go.Proofs.Tryz.underlying86, a53 := Go.Proofs.Tryz.isAgg86,
    z53 := Go.Proofs.Tryz.sizeOf86, v53 := Go.Proofs.Tryz.zeroValue86 }
def zY : Go.Shelf.Ren :=
  {
    f := fun x =>
      match x with
      | 155 => 40
      | 154 => 73
      | 138 => 108
      | 165 => 109
      | 143 => 110
      | 166 => 111
      | 197 => 112
      | 169 => 113
      | 195 => 144
      | 218 => 145
      | 240 => 146
      | 241 => 147
      | 219 => 134
      | 260 => 148
      | 276 => 190
      | 277 => 191
      | 217 => 123
      | 225 => 183
      | 224 => 96
      | 267 => 184
      | 266 => 172
      | 314 => 226
      | n => n,
    t := fun x =>
      match x with
      | 9 => 9
      | 3 => 3
      | 4 => 4
      | 72 => 161
      | 0 => 0
      | 76 => 164
      | 105 => 166
      | 21 => 21
      | 5 => 5
      | 70 => 159
      | 20 => 20
      | 37 => 22
      | 75 => 163
      | 127 => 133
      | 164 => 268
      | 46 => 85
      | 119 => 271
      | 139 => 274
      | 138 => 273
      | 146 => 206
      | 51 => 88
      | 80 => 168
      | n => n,
    g := fun x =>
      match x with
      | 1 => 0
      | 3 => 1
      | 4 => 2
      | n => n }
theorem zlA : Go.Proofs.Lays.n155 Go.Proofs.Tryz.prog zY :=
  { mixed := by kernel_rfl,
    f138 :=
      Eq.trans Go.Proofs.Tryz.func108 (congrArg Option.some (Eq.refl (Go.Proofs.Body.n138 zY))),
    f143 :=
      Eq.trans Go.Proofs.Tryz.func110 (congrArg Option.some (Eq.refl (Go.Proofs.Body.n143 zY))),
    f154 := Eq.trans Go.Proofs.Tryz.func73 (congrArg Option.some (Eq.refl (Go.Proofs.Body.n154 zY))),
    f155 := Eq.trans Go.Proofs.Tryz.func40 (congrArg Option.some (Eq.refl (Go.Proofs.Body.n155 zY))),
    f165 :=
      Eq.trans Go.Proofs.Tryz.func109 (congrArg Option.some (Eq.refl (Go.Proofs.Body.n165 zY))),
    f166 :=
      Eq.trans Go.Proofs.Tryz.func111 (congrArg Option.some (Eq.refl (Go.Proofs.Body.n166 zY))),
    f169 :=
      Eq.trans Go.Proofs.Tryz.func113 (congrArg Option.some (Eq.refl (Go.Proofs.Body.n169 zY))),
    f195 :=
      Eq.trans Go.Proofs.Tryz.func144 (congrArg Option.some (Eq.refl (Go.Proofs.Body.n195 zY))),
    f197 :=
      Eq.trans Go.Proofs.Tryz.func112 (congrArg Option.some (Eq.refl (Go.Proofs.Body.n197 zY))),
    f217 :=
      Eq.trans Go.Proofs.Tryz.func123 (congrArg Option.some (Eq.refl (Go.Proofs.Body.n217 zY))),
    f218 :=
      Eq.trans Go.Proofs.Tryz.func145 (congrArg Option.some (Eq.refl (Go.Proofs.Body.n218 zY))),
    f219 :=
      Eq.trans Go.Proofs.Tryz.func134 (congrArg Option.some (Eq.refl (Go.Proofs.Body.n219 zY))),
    f224 := Eq.trans Go.Proofs.Tryz.func96 (congrArg Option.some (Eq.refl (Go.Proofs.Body.n224 zY))),
    f225 :=
      Eq.trans Go.Proofs.Tryz.func183 (congrArg Option.some (Eq.refl (Go.Proofs.Body.n225 zY))),
    f240 :=
      Eq.trans Go.Proofs.Tryz.func146 (congrArg Option.some (Eq.refl (Go.Proofs.Body.n240 zY))),
    f241 :=
      Eq.trans Go.Proofs.Tryz.func147 (congrArg Option.some (Eq.refl (Go.Proofs.Body.n241 zY))),
    f260 :=
      Eq.trans Go.Proofs.Tryz.func148 (congrArg Option.some (Eq.refl (Go.Proofs.Body.n260 zY))),
    f266 :=
      Eq.trans Go.Proofs.Tryz.func172 (congrArg Option.some (Eq.refl (Go.Proofs.Body.n266 zY))),
    f267 :=
      Eq.trans Go.Proofs.Tryz.func184 (congrArg Option.some (Eq.refl (Go.Proofs.Body.n267 zY))),
    f276 :=
      Eq.trans Go.Proofs.Tryz.func190 (congrArg Option.some (Eq.refl (Go.Proofs.Body.n276 zY))),
    f277 :=
      Eq.trans Go.Proofs.Tryz.func191 (congrArg Option.some (Eq.refl (Go.Proofs.Body.n277 zY))),
    f314 :=
      Eq.trans Go.Proofs.Tryz.func226 (congrArg Option.some (Eq.refl (Go.Proofs.Body.n314 zY))),
    t0 := Go.Proofs.Tryz.underlying0, a0 := Go.Proofs.Tryz.isAgg0, z0 := Go.Proofs.Tryz.sizeOf0,
    v0 := Go.Proofs.Tryz.zeroValue0, t3 := Go.Proofs.Tryz.underlying3, a3 := Go.Proofs.Tryz.isAgg3,
    z3 := Go.Proofs.Tryz.sizeOf3, v3 := Go.Proofs.Tryz.zeroValue3, t4 := Go.Proofs.Tryz.underlying4,
    a4 := Go.Proofs.Tryz.isAgg4, z4 := Go.Proofs.Tryz.sizeOf4, v4 := Go.Proofs.Tryz.zeroValue4,
    t5 := Go.Proofs.Tryz.underlying5, a5 := Go.Proofs.Tryz.isAgg5, z5 := Go.Proofs.Tryz.sizeOf5,
    v5 := Go.Proofs.Tryz.zeroValue5, t9 := Go.Proofs.Tryz.underlying9, a9 := Go.Proofs.Tryz.isAgg9,
    z9 := Go.Proofs.Tryz.sizeOf9, v9 := Go.Proofs.Tryz.zeroValue9, t20 := Go.Proofs.Tryz.underlying20,
    a20 := Go.Proofs.Tryz.isAgg20, z20 := Go.Proofs.Tryz.sizeOf20, v20 := Go.Proofs.Tryz.zeroValue20,
    t21 := Go.Proofs.Tryz.underlying21, a21 := Go.Proofs.Tryz.isAgg21, z21 := Go.Proofs.Tryz.sizeOf21,
    v21 := Go.Proofs.Tryz.zeroValue21, t37 := Go.Proofs.Tryz.underlying22, a37 := Go.Proofs.Tryz.isAgg22,
    z37 := Go.Proofs.Tryz.sizeOf22, v37 := Go.Proofs.Tryz.zeroValue22, t46 := Go.Proofs.Tryz.underlying85,
    a46 := Go.Proofs.Tryz.isAgg85, z46 := Go.Proofs.Tryz.sizeOf85, v46 := Go.Proofs.Tryz.zeroValue85,
    t51 := Go.Proofs.Tryz.underlying88, a51 := Go.Proofs.Tryz.isAgg88, z51 := Go.Proofs.Tryz.sizeOf88,
    v51 := Go.Proofs.Tryz.zeroValue88, t70 := Go.Proofs.Tryz.underlying159, a70 := Go.Proofs.Tryz.isAgg159,
    z70 := Go.Proofs.Tryz.sizeOf159, v70 := Go.Proofs.Tryz.zeroValue159, t72 := Go.Proofs.Tryz.underlying161,
    a72 := Go.Proofs.Tryz.isAgg161, z72 := Go.Proofs.Tryz.sizeOf161, v72 := Go.Proofs.Tryz.zeroValue161,
    t75 := Go.Proofs.Tryz.underlying163, a75 := Go.Proofs.Tryz.isAgg163, z75 := Go.Proofs.Tryz.sizeOf163,
    v75 := Go.Proofs.Tryz.zeroValue163, t76 := Go.Proofs.Tryz.underlying164, a76 := Go.Proofs.Tryz.isAgg164,
    z76 := Go.Proofs.Tryz.sizeOf164, v76 := Go.Proofs.Tryz.zeroValue164, t105 := Go.Proofs.Tryz.underlying166,
    a105 := Go.Proofs.Tryz.isAgg166, z105 := Go.Proofs.Tryz.sizeOf166, v105 := Go.Proofs.Tryz.zeroValue166,
    t119 := Go.Proofs.Tryz.underlying271, a119 := Go.Proofs.Tryz.isAgg271, z119 := Go.Proofs.Tryz.sizeOf271,
    t127 := Go.Proofs.Tryz.underlying133, a127 := Go.Proofs.Tryz.isAgg133, z127 := Go.Proofs.Tryz.sizeOf133,
    v127 := Go.Proofs.Tryz.zeroValue133, t138 := Go.Proofs.Tryz.underlying273, a138 := Go.Proofs.Tryz.isAgg273,
    z138 := Go.Proofs.Tryz.sizeOf273, v138 := Go.Proofs.Tryz.zeroValue273, t139 := Go.Proofs.Tryz.underlying274,
    a139 := Go.Proofs.Tryz.isAgg274, z139 := Go.Proofs.Tryz.sizeOf274, v139 := Go.Proofs.Tryz.zeroValue274,
    t146 := Go.Proofs.Tryz.underlying206, a146 := Go.Proofs.Tryz.isAgg206, z146 := Go.Proofs.Tryz.sizeOf206,
    v146 := Go.Proofs.Tryz.zeroValue206, t164 := Go.Proofs.Tryz.underlying268, a164 := Go.Proofs.Tryz.isAgg268,
    z164 := Go.Proofs.Tryz.sizeOf268, v164 := Go.Proofs.Tryz.zeroValue268,
    g1 := by kernel_rfl, g3 := by kernel_rfl,
    g4 := by kernel_rfl }
abbrev zrr (_ : World) : Prop := True
abbrev zrm (w : World) (m : Int) : Prop := w.cell? ⟨(wu.g 1), 0, none⟩ = some (.int .i64 m)
theorem zq3 : Builder.Extra Tryz.prog zY where
  sizeBuilder := by kernel_rfl
  liesBuilder := by kernel_rfl
  t5 := zlA.t5
  a5 := zlA.a5
  z5 := zlA.z5
  v5 := zlA.v5
  infoByte := by kernel_rfl
  cellsByte := by kernel_rfl
  sizeByte := by kernel_rfl
  neB5 := by decide
end Go.Proofs.YtemdlifojcgplaaGreatDoor
namespace Go.Proofs.YtemdlifojcgplaaGreatDoor
open Go Go.Vx Go.Ob Go.RowKit
set_option linter.all false
set_option maxRecDepth 4000
theorem zz (n j:Nat):(bsv (List.replicate n 0))[j]? =if j < n then some (.int .u8 0) else none:=by
 unfold bsv
 rw [List.map_replicate,List.getElem?_replicate]
 rfl
variable [W0]
structure wP (L:List Chunk):Prop where
 ut:∀w,Vx.Holds w L→zrr w
 mx:∃m,∀w,Vx.Holds w L→zrm w m
 pw:∀w,Vx.Holds w L→Lib.TabIs Tryz.prog w "internal/strconv.uint64pow10" .u64 Lib.pow10Tab
theorem wP.of {S L:List Chunk} (h:wP S) (hi:∀w,Vx.Holds w L→Vx.Holds w S):wP L:=
 ⟨fun w hw=>h.ut w (hi w hw),h.mx.imp fun m hm w hw=>hm w (hi w hw),fun w hw=>h.pw w (hi w hw)⟩
theorem wP.inc {S L:List Chunk} (h:wP S) (hi:Inc S L):wP L:=h.of fun w hw=>hi.holds hw
theorem wP.there {L:List Chunk} {C:Chunk} (h:wP L):wP (C::L):=h.of fun w hw=>hw.drop
theorem GvP.of_below {P:Program} {f:FuncId} {args:Array Value} {L:List Chunk} {v:Value} (h:∀w,Vx.Holds w L→Calls P f args w fun e w'=>e=.returned v∧Below w.heap.size w w'):GvP P f args L v:=
 ⟨fun w hw=>(h w hw).mono fun e w' he=>⟨v,L,he.1,⟨rfl,rfl⟩,hw.1,fun x hx=>by rw [he.2.block _ (hw.lt hx)];exact hw.2.1 x hx,he.2.os.trans hw.2.2.1,he.2.output.trans hw.2.2.2⟩⟩
theorem below_drewN (w:World) (n:Nat):Below w.heap.size w (w.drewN n):=⟨rfl,rfl,rfl,Nat.le_refl _,fun _ _=>rfl⟩
theorem zqz (s sep:List UInt8) (L:List Chunk) (hb:wP L) (hl:s.length < 4294967281) :
 GvP Tryz.prog 61 [.string (str s),.string (str sep)].toArray L (.tuple #[.string (str (Lib.cut s sep).1),.string (str (Lib.cut s sep).2.1),.bool (Lib.cut s sep).2.2]):=by
 obtain ⟨m,hm⟩:=hb.mx
 refine GvP.of_below fun w hw=>(Any.strings_Cut zro (str s) (str sep) m w hl (hm w hw)).mono ?_
 rintro e w' ⟨rfl,n,rfl⟩
 exact ⟨rfl,below_drewN w n⟩
theorem zn2 (i:Nat) (L:List Chunk) (h:i < 100):GvP Tryz.prog 168 [.int .i64 (i:Int)].toArray L (.string (str (Lib.decDigits i))):=
 GvP.of_below fun w hw=>(Any.internal_strconv_small zrq i h w).mono (by rintro e w' ⟨rfl,rfl⟩;exact ⟨rfl,Below.refl _ _⟩)
theorem zet (u:Nat) (L:List Chunk) (hb:wP L) (h1:1≤u) (h2:u < 18446744073709551616):GvP Tryz.prog 169 [.int .u64 (u:Int)].toArray L (.int .i64 (Lib.nDigits u:Int)):=
 GvP.of_below fun w hw=>(Any.internal_strconv_numDigits zrp u h1 h2 w (hb.pw w hw)).mono (by rintro e w' ⟨rfl,rfl⟩;exact ⟨rfl,Below.refl _ _⟩)
theorem zqK (b T u:Nat) (L:List Chunk) (h1:1≤u) (h2:u < 18446744073709551616) :
 Gv Tryz.prog 170 [.slice (some ⟨b,0,none⟩) (Lib.nDigits u) 24,.int .u64 (u:Int)].toArray ([(b,cl (bsv (List.replicate 24 0)) T)]::L)
  (fun r L'=>r=.tuple #[]∧∃rest,rest.length=24 - Lib.nDigits u∧L'=[(b,cl (bsv (Lib.decDigits u)++rest) T)]::L):=⟨fun w hw=>by
 have hnd:=Z6 h1 h2
 have hf:w.heap[b]? =some (cl (bsv (List.replicate 24 0)) T):=(Fnd.here:Fnd ([(b,_)]::L) b _).get hw
 have hH:Sort.Holds (fun (b:UInt8)=>Value.int .u8 (b.toNat:Int)) w b 0 (Array.replicate (Lib.nDigits u) (0:UInt8)):=fun j hj=>by
  have hj':j < Lib.nDigits u:=by simpa using hj
  constructor
  ·rw [Nat.zero_add,cell_of hf,getElem!_pos _ j hj,List.getElem?_toArray,zz,if_pos (by omega),Array.getElem_replicate]
   rfl
  ·simp [World.frozen?,hf,cl]
 have hc:=Any.internal_strconv_formatBase10 zrn b 0 24 u (Array.replicate (Lib.nDigits u) 0) w hH (by rw [Array.size_replicate];exact Lib.lt_pow_nDigits u) h2 (by rw [Array.size_replicate];omega)
 rw [Array.size_replicate] at hc
 refine hc.mono ?_
 rintro e w' ⟨rfl,n,v',dk,rfl,hF⟩
 have hsz:dk.size=Lib.nDigits u:=hF.size
 have hdk:dk.toList=Lib.decDigits u:=by
  refine List.ext_getElem (by rw [Array.length_toList,hsz,Lib.decDigits_length]) fun j hj1 hj2=>?_
  rw [Lib.row_is_numeral hF j hj2,getElem!_pos _ j (by simpa using hj1)]
  rfl
 have hrow:Sort.putCells (fun (b:UInt8)=>Value.int .u8 (b.toNat:Int)) 0 dk (bsv (List.replicate 24 0)).toArray=(bsv (Lib.decDigits u)++bsv (List.replicate (24 - Lib.nDigits u) 0)).toArray:=by
  apply Array.ext'
  rw [←hdk]
  refine List.ext_getElem? fun j=>?_
  unfold Sort.putCells
  simp only [Array.getElem?_toList,Array.getElem?_mapIdx,List.getElem?_toArray,List.toList_toArray]
  rw [zz]
  rcases Nat.lt_or_ge j dk.size with h|h
  ·rw [List.getElem?_append_left (by simpa [bsv] using h),if_pos (by omega)]
   simp [bsv,h,Array.getElem?_eq_getElem h]
  ·rw [List.getElem?_append_right (by simpa [bsv] using h),zz]
   have hl:(bsv dk.toList).length=dk.size:=by simp [bsv]
   rw [hl]
   rcases Nat.lt_or_ge j 24 with h'|h'
   ·rw [if_pos h',if_pos (by omega),Option.map_some,if_neg (by omega)]
   ·rw [if_neg (by omega),if_neg (by omega)]
    rfl
 refine ⟨.tuple #[],_,rfl,⟨rfl,bsv (List.replicate (24 - Lib.nDigits u) 0),by simp [bsv],rfl⟩,hw.upd .here ?_ ?_ rfl rfl⟩
 ·show (w.heap.modify b _)[b]? =_
  rw [Array.getElem?_modify,if_pos rfl,hf]
  show some (Obj.cells _ _ _)=_
  rw [hrow]
  rfl
 ·intro c hc
  show (w.heap.modify b _)[c]? =_
  rw [Array.getElem?_modify,if_neg (Ne.symm hc)]⟩
end Go.Proofs.YtemdlifojcgplaaGreatDoor
namespace Go.Proofs.YtemdlifojcgplaaGreatDoor
open Go Go.Vx Go.Ob
set_option linter.all false
variable [W0]
set_option maxRecDepth 4000
theorem zcL (u m:Nat) (v:Value) (xs:List Value) (C:Chunk) (L:List Chunk) (hb:wP L) (h:OwG 5 v m xs C) (hm:m≤1000000) (hu:u < 18446744073709551616) :
 Gv Tryz.prog 122 [v,.int .u64 (u:Int),.int .i64 10].toArray (C::L) (fun r L'=>∃C',OwG 5 r (m+(Lib.decDigits u).length) (xs++bsv (Lib.decDigits u)) C'∧L'=C'::L):=by
 refine Gv.of_body (args:=[v,.int .u64 (u:Int),.int .i64 10]) Tryz.func122 rfl rfl ?_
 (repeat' first|refine kW ?_|refine kU fun bk=>?_|refine kV fun hc=>?_|refine kZ (fun hc=>?_) fun hc=>?_|fail)
 ·refine wR rfl rfl rfl (zn2 u _ (by omega)) rfl ?_
  refine kW ?_
  refine ziG rfl rfl h (by repeat (first|exact Zip.here _|apply Zip.there)) (by rw [yE,Lib.decDigits_length];have:=wL u hu;omega) (by rw [yE,Lib.decDigits_length];have:=wL u hu;unfold maxLen;omega) rfl (fun v' C' ho=>?_)
  refine kW ?_
  refine kR ?_
  exact ⟨_,iC,C',ho,rfl⟩
 ·refine wR rfl rfl rfl (zet u _ hb.there.there (by omega) hu) rfl ?_
  refine kW ?_
  have hnd:=Z6 (by omega:1≤u) hu
  refine ze (uw (l:=0) (h:=Lib.nDigits u) rfl rfl rfl (Nat.zero_le _) (by omega) (by omega)) rfl ?_
  refine kW ?_
  refine qF rfl rfl rfl (zqK _ _ u (C::L) (by omega) hu) rfl (fun r L' hp=>?_)
  obtain ⟨rfl,rest,hrl,rfl⟩:=hp
  refine kW ?_
  refine ze (uw (l:=0) (h:=Lib.nDigits u) rfl rfl rfl (Nat.zero_le _) (by omega) (by omega)) rfl ?_
  refine kW ?_
  have hdl:=Lib.decDigits_length u
  refine XD rfl rfl h (zF (xs:=bsv (Lib.decDigits u)) (m:=Lib.nDigits u) Fnd.here (by rw [zH,hdl];omega) (by simp)) (by repeat (first|exact Zip.here _|apply Zip.there)) (by rfl) yj (by omega) (by unfold maxLen;omega) rfl (fun v' C' ho=>?_)
  refine kW ?_
  refine kR ?_
  rw [←hdl] at ho
  exact ⟨_,iC,C',ho,rfl⟩
theorem zdP (i m:Nat) (v:Value) (xs:List Value) (C:Chunk) (L:List Chunk) (hb:wP L) (h:OwG 5 v m xs C) (hm:m≤1000000) (hu:i≤9223372036854775807) :
 Gv Tryz.prog 48 [v,.int .i64 (i:Int),.int .i64 10].toArray (C::L) (fun r L'=>∃C',OwG 5 r (m+(Lib.decDigits i).length) (xs++bsv (Lib.decDigits i)) C'∧L'=C'::L):=by
 refine Gv.of_body (args:=[v,.int .i64 (i:Int),.int .i64 10]) Tryz.func48 rfl rfl ?_
 refine kW ?_
 have hin:Gv Tryz.prog 79 [v,.int .i64 (i:Int),.int .i64 10].toArray (C::L) (fun r L'=>∃C',OwG 5 r (m+(Lib.decDigits i).length) (xs++bsv (Lib.decDigits i)) C'∧L'=C'::L):=by
  refine Gv.of_body (args:=[v,.int .i64 (i:Int),.int .i64 10]) Tryz.func79 rfl rfl ?_
  refine kW ?_
  refine qF rfl rfl rfl (zcL i m v xs C L hb h hm (by omega)) rfl (fun r L' hp=>?_)
  obtain ⟨C',ho,rfl⟩:=hp
  refine kW ?_
  refine kR ?_
  exact ⟨_,iC,C',ho,rfl⟩
 refine qF rfl rfl rfl hin rfl (fun r L' hp=>?_)
 obtain ⟨C',ho,rfl⟩:=hp
 refine kW ?_
 refine kR ?_
 exact ⟨_,iC,C',ho,rfl⟩
theorem zeh (k n:Int) (L:List Chunk) (hb:wP L) (hn:n≤9223372036854775807) :
 Gv Tryz.prog 22 [.int .i64 k,.int .i64 n].toArray L (fun r L'=>∃C,OwG 5 r (hdL k n).length (bsv (hdL k n)) C∧L'=C::L):=by
 refine Gv.of_body (args:=[.int .i64 k,.int .i64 n]) Tryz.func22 rfl rfl ?_
 refine kW ?_
 refine wR rfl rfl rfl (zbe k _) rfl ?_
 refine kW ?_
 have h6:=zdg k
 refine zcA rfl (by rw [yE];unfold maxLen;omega) rfl (fun v C ho=>?_)
 rw [yE,zeV] at ho
 refine kW ?_
 refine zl (cs:=bsv [32]) rfl (by rfl) (by simp [zA,patch,Value.cells,zeros];rfl) (by omega) rfl rfl (fun b1=>?_)
 refine kW ?_
 refine XD rfl rfl (OwG.f ho) (zF (xs:=bsv [32]) (m:=1) Fnd.here rfl (by simp)) (by repeat (first|exact Zip.here _|apply Zip.there)) (by rfl) yj (by omega) (by unfold maxLen;omega) rfl (fun v1 C1 h1=>?_)
 refine kW ?_
 obtain ⟨i,hi⟩:∃i:Nat,max n 0=(i:Int):=⟨(max n 0).toNat,by omega⟩
 rw [hi]
 have hi2:i≤9223372036854775807:=by omega
 refine qF rfl rfl rfl (Gv.take (zdP i _ v1 _ C1 _ (hb.there) h1 (by omega) hi2) (by repeat (first|exact Take.here|apply Take.there))) rfl (fun r L' hp=>?_)
 obtain ⟨C2,h2,rfl⟩:=hp
 refine kW ?_
 refine zl (cs:=bsv [0]) rfl (by rfl) (by simp [zA,patch,Value.cells,zeros];rfl) (by omega) rfl rfl (fun b2=>?_)
 refine kW ?_
 have hd:=wL i (by omega)
 rw [←Lib.decDigits_length] at hd
 refine XD rfl rfl h2 (zF (xs:=bsv [0]) (m:=1) Fnd.here rfl (by simp)) (by repeat (first|exact Zip.here _|apply Zip.there)) (by rfl) yj (by omega) (by unfold maxLen;omega) rfl (fun v3 C3 h3=>?_)
 refine kW ?_
 refine kR ?_
 have e:hdL k n=nmI k++[32]++Lib.decDigits i++[0]:=by
  unfold hdL
  rw [hi,Int.toNat_natCast,zcY (by omega)]
 refine ⟨C3::L,iC,C3,?_,rfl⟩
 have e2:(nmI k++[32]++Lib.decDigits i++[0]).length=(nmI k).length+1+(Lib.decDigits i).length+1:=by simp only [List.length_append,List.length_cons,List.length_nil]
 rw [e,e2,yt,yt,yt]
 exact h3
theorem OwG.slc {e m:Nat} {v:Value} {xs:List Value} {C:Chunk} {L:List Chunk} (h:OwG e v m xs C):SlC (C::L) 1 v m xs:=⟨h.sl,h.room⟩
theorem id_n (k:Int) (v:Value) (t:List UInt8) (L:List Chunk) (hb:wP L) (ht:t.length≤140737488351232) (hv:SlC L 1 v t.length (bsv t)) :
 GvP Tryz.prog 30 [.int .i64 k,v].toArray L (.string (str (idL k t))):=by
 obtain ⟨a,c,rfl,hac⟩:=hv.room
 refine Gv.of_body (args:=[.int .i64 k,.slice a t.length c]) Tryz.func30 rfl rfl ?_
 refine kW ?_
 refine qF rfl rfl rfl (zeh k t.length L hb (by omega)) rfl (fun r L' hp=>?_)
 obtain ⟨C,ho,rfl⟩:=hp
 have hl:=zc7 k t.length (by omega)
 refine kW ?_
 refine XD rfl rfl ho hv.there.sl (by repeat (first|exact Zip.here _|apply Zip.there)) (by rfl) yj (by omega) (by unfold maxLen;omega) rfl (fun v1 C1 h1=>?_)
 rw [←yt,←List.length_append] at h1
 refine kW ?_
 refine qF rfl rfl rfl (zp7 (hdL k t.length++t) v1 _ (by rw [List.length_append];omega) (OwG.slc h1)) rfl (fun r L' hp=>?_)
 obtain ⟨C2,rfl,h2⟩:=hp
 refine kW ?_
 refine wR rfl rfl rfl (zqM (zf7 (hdL k t.length++t)) _ _ (by rw [QY];decide) (by rw [QY];exact SlC.ow h2)) rfl ?_
 refine kW ?_
 exact kE
theorem zj6 (s:List UInt8) (L:List Chunk) (hs:s.length≤9223372036854775807):GvP Tryz.prog 27 [.string (str s)].toArray L (.bool (X3 s)):=by
 refine Gv.of_body Tryz.func27 rfl rfl ?_
 (repeat' first|refine kW ?_|refine kU fun bk=>?_|refine kV fun hc=>?_|refine kZ (fun hc=>?_) fun hc=>?_|fail)
 ·rw [yE] at hc
  refine kR ?_
  exact ⟨_,iC,by unfold X3;rw [decide_eq_false (by omega)];rfl,rfl⟩
 ·rw [yE] at hc
  refine qF rfl rfl rfl (zod s L (by omega)) rfl (fun r L' hp=>?_)
  obtain ⟨v,C,rfl,rfl,ho⟩:=hp
  refine kW ?_
  refine kR ?_
  exact ⟨L,iC,by unfold X3;rw [decide_eq_true (by omega)];rfl,rfl⟩
theorem zil (s:List UInt8) (L:List Chunk) (hs:s.length≤140737488355328):GvP Tryz.prog 15 [.string (str s)].toArray L (.bool (X3 s)):=by
 refine Gv.of_body Tryz.func15 rfl rfl ?_
 refine kW ?_
 refine qF rfl rfl rfl (zf1 s L hs) rfl (fun r L' hp=>?_)
 obtain ⟨v,C,rfl,rfl,ho⟩:=hp
 obtain ⟨a,c,rfl⟩:=zM ho
 cases hu:unB s with
 |true=>
  have hl:(unL s).length=s.length / 2:=by unfold unL;rw [if_pos hu,Yz]
  have hev:s.length % 2=0:=by
   rcases Nat.eq_zero_or_pos (s.length % 2) with h|h
   ·exact h
   ·rw [zdE (by omega)] at hu;exact absurd hu (by decide)
  refine kW ?_
  refine kR ?_
  refine ⟨L,iC,?_,rfl⟩
  unfold X3
  rw [hu,Bool.and_true,hl]
  show Value.bool _=Value.bool _
  congr 1
  rw [Bool.eq_iff_iff]
  simp
  omega
 |false=>
  refine kW ?_
  refine kR ?_
  exact ⟨L,iC,by unfold X3;rw [hu,Bool.and_false];rfl,rfl⟩
end Go.Proofs.YtemdlifojcgplaaGreatDoor
namespace Go.Ob
open Go Go.Lib Go.Proofs.YtemdlifojcgplaaGreatDoor
set_option linter.all false
theorem zq0 {α:Type} {q:List α→Prop} (h0:q []) (hs:∀l x,q l→q (l++[x])) (l:List α):q l:=by
 have:∀(n:Nat) (l:List α),l.length=n→q l:=by
  intro n
  induction n with
  |zero=>intro l hl;rw [List.eq_nil_of_length_eq_zero hl];exact h0
  |succ n ih=>
   intro l hl
   rcases List.eq_nil_or_concat l with rfl|⟨m,x,rfl⟩
   ·exact h0
   ·rw [List.concat_eq_append] at hl ⊢
    exact hs m x (ih m (by simp at hl;omega))
 exact this _ l rfl
theorem zgF:∀(f n:Nat),(dgF f n).all (fun b=>inD b.toNat)=true
 |0,_=>rfl
 |f+1,n=>by
  have hd:∀j,j < 10→inD (UInt8.ofNat (48+j)).toNat=true:=by decide
  unfold dgF
  split
  ·rw [List.all_cons,hd n (by omega)];rfl
  ·rw [List.all_append,zgF f,Bool.true_and]
   rw [List.all_cons,hd (n % 10) (by omega)];rfl
theorem zjD (f n:Nat):dgF (f+1) n≠[]:=by
 unfold dgF
 split<;>simp
theorem zea:∀(f n:Nat),0 < n→n < 10 ^ (f+1)→(dgF (f+1) n).getD 0 0≠48
 |0,n,h,hn=>by
  have hd:∀j,j < 10→0 < j→UInt8.ofNat (48+j)≠48:=by decide
  unfold dgF
  rw [if_pos (by simpa using hn)]
  exact hd n (by simpa using hn) h
 |f+1,n,h,hn=>by
  have hd:∀j,j < 10→0 < j→UInt8.ofNat (48+j)≠48:=by decide
  unfold dgF
  split
  ·exact hd n (by omega) h
  ·have ih:=zea f (n / 10) (by omega) (by rw [Nat.pow_succ] at hn;omega)
   have hne:=zjD f (n / 10)
   obtain ⟨c,r,hcr⟩:=List.exists_cons_of_ne_nil hne
   rw [hcr] at ih ⊢
   exact ih
def vlD (l:List UInt8):Nat:=l.foldl (fun a c=>10 * a+(c.toNat - 48)) 0
theorem Qh (l:List UInt8) (c:UInt8):vlD (l++[c])=10 * vlD l+(c.toNat - 48):=by simp [vlD]
theorem zl7 (p:List UInt8):∀q:List UInt8,vlD p≤vlD (p++q):=
 zq0 (by simp) (fun l x ih=>by rw [←List.append_assoc,Qh];omega)
theorem Qo {n:Nat} (h:n < 10):dgL n=[UInt8.ofNat (48+n)]:=by
 unfold dgL dgF
 rw [if_pos h]
theorem zd9 {n:Nat} (h:10≤n) (hn:n < 10000000000000000000):dgL n=dgL (n / 10)++[UInt8.ofNat (48+n % 10)]:=by
 have h1:dgF 19 (n / 10)=dgF 20 (n / 10):=by
  rw [zcW 18 (n / 10) (by omega),zcW 19 (n / 10) (by omega)]
 show dgF 20 n=dgF 20 (n / 10)++_
 rw [←h1]
 conv=>lhs;unfold dgF
 rw [if_neg (by omega)]
def GdD (s:List UInt8):Prop:=s≠[]∧(∀b∈s,48≤b.toNat∧b.toNat≤57)∧(2≤s.length→s.getD 0 0≠48)
theorem zcX (n:Nat):∀b∈dgL n,48≤b.toNat∧b.toNat≤57:=fun b hb=>by
 have:=List.all_eq_true.1 (zgF 20 n) b hb
 unfold inD at this
 simp only [Bool.and_eq_true,decide_eq_true_eq] at this
 exact this
theorem zjC (n:Nat):dgL n≠[]:=zjD 19 n
theorem zjB {n:Nat} (hn:n < 10000000000000000000):GdD (dgL n):=by
 refine ⟨zjC n,zcX n,fun h2=>?_⟩
 rcases Nat.eq_zero_or_pos n with h0|h0
 ·subst h0
  rw [Qo (by omega)] at h2
  simp at h2
 ·exact zea 19 n h0 (by omega)
theorem zoh:∀n:Nat,n < 10000000000000000000→vlD (dgL n)=n:=by
 intro n
 induction n using Nat.strongRecOn with
 |ind n ih=>
  intro hn
  have hd:∀j,j < 10→(UInt8.ofNat (48+j)).toNat - 48=j:=by decide
  rcases Nat.lt_or_ge n 10 with h|h
  ·rw [Qo h]
   show 10 * 0+((UInt8.ofNat (48+n)).toNat - 48)=n
   rw [hd n h];omega
  ·rw [zd9 h hn,Qh,ih (n / 10) (by omega) (by omega),hd _ (Nat.mod_lt _ (by omega))]
   omega
theorem zdY {c:UInt8} (h1:48≤c.toNat):UInt8.ofNat (48+(c.toNat - 48))=c:=by
 rw [show 48+(c.toNat - 48)=c.toNat from by omega]
 exact UInt8.ofNat_toNat
theorem zhH {s:List UInt8} (h1:s≠[]) (h2:∀b∈s,48≤b.toNat∧b.toNat≤57) (h3:s.getD 0 0≠48):1≤vlD s:=by
 cases s with
 |nil=>exact absurd rfl h1
 |cons a t=>
  have h4:=zl7 [a] t
  have h5:vlD [a]=a.toNat - 48:=by simp [vlD]
  have h6:=h2 a (by simp)
  have h7:a.toNat≠48:=fun h=>h3 (by show a=48;exact UInt8.toNat_inj.1 h)
  simp only [List.singleton_append] at h4
  omega
theorem zj3:∀s:List UInt8,GdD s→vlD s < 10000000000000000000→dgL (vlD s)=s:=by
 refine zq0 (fun h=>absurd rfl h.1) (fun l c ih h hb=>?_)
 have hc:=h.2.1 c (by simp)
 rw [Qh] at hb ⊢
 by_cases hl:l=[]
 ·subst hl
  rw [show 10 * vlD []+(c.toNat - 48)=c.toNat - 48 from by simp [vlD],Qo (by omega),zdY hc.1]
  rfl
 ·have hlen:0 < l.length:=List.length_pos_iff.2 hl
  have h0:l.getD 0 0≠48:=by
   have:=h.2.2 (by simp;omega)
   rwa [List.getD_eq_getElem?_getD,List.getElem?_append_left hlen,←List.getD_eq_getElem?_getD] at this
  have hall:∀b∈l,48≤b.toNat∧b.toNat≤57:=fun b hb=>h.2.1 b (by simp [hb])
  have hp:=zhH hl hall h0
  rw [zd9 (by omega) hb,show (10 * vlD l+(c.toNat - 48)) / 10=vlD l from by omega,show (10 * vlD l+(c.toNat - 48)) % 10=c.toNat - 48 from by omega,zdY hc.1,ih ⟨hl,hall,fun _=>h0⟩ (by omega)]
theorem XR {s:List UInt8} {n:Nat} (hn:n < 10000000000000000000):s=dgL n↔GdD s∧vlD s=n:=by
 constructor
 ·rintro rfl
  exact ⟨zjB hn,zoh n hn⟩
 ·rintro ⟨h,rfl⟩
  exact (zj3 s h hn).symm
theorem zj0 {s:List UInt8} {k:Nat} (hk:k < s.length):s.getD k 0∈s:=by
 rw [List.getD_eq_getElem?_getD,List.getElem?_eq_getElem hk]
 exact List.getElem_mem hk
theorem zmX {s:List UInt8} {n k:Nat} (hk:k < s.length) (h:¬(48≤(s.getD k 0).toNat∧(s.getD k 0).toNat≤57)):s≠dgL n:=fun e=>by
 have hm:=zj0 hk
 rw [e] at hm h
 exact h (zcX n _ hm)
theorem zpj {s:List UInt8} {k:Nat} (hk:k < s.length) (hd:∀c∈s.take k,48≤c.toNat∧c.toNat≤57) (hc:48≤(s.getD k 0).toNat∧(s.getD k 0).toNat≤57) :
 (∀c∈s.take (k+1),48≤c.toNat∧c.toNat≤57)∧vlD (s.take (k+1))=10 * vlD (s.take k)+((s.getD k 0).toNat - 48):=by
 have e:s.take (k+1)=s.take k++[s.getD k 0]:=by
  rw [List.take_add_one,List.getD_eq_getElem?_getD,List.getElem?_eq_getElem hk];rfl
 rw [e,Qh]
 refine ⟨fun c h=>?_,rfl⟩
 rcases List.mem_append.1 h with h|h
 ·exact hd c h
 ·rw [List.mem_singleton.1 h];exact hc
theorem zm0 {s:List UInt8} {k:Nat} (h0:1≤k) (hk:k < s.length) (hd:∀c∈s.take k,48≤c.toNat∧c.toNat≤57) (h3:2≤k→s.getD 0 0≠48):vlD (s.take k)≠0↔s.getD 0 0≠48:=by
 have hg:(s.take k).getD 0 0=s.getD 0 0:=by
  rw [List.getD_eq_getElem?_getD,List.getElem?_take,if_pos (by omega),←List.getD_eq_getElem?_getD]
 have hne:s.take k≠[]:=fun h=>by
  have:=congrArg List.length h
  rw [List.length_take,List.length_nil] at this
  omega
 constructor
 ·intro h e
  rcases Nat.lt_or_ge k 2 with h2|h2
  ·have hk1:k=1:=by omega
   subst hk1
   cases s with
   |nil=>simp at hk
   |cons a t=>
    simp only [List.getD_cons_zero] at e
    subst e
    exact h (by simp [vlD])
  ·exact h3 h2 e
 ·intro h
  have:=zhH hne hd (by rw [hg];exact h)
  omega
theorem zmY {s:List UInt8} {n k:Nat} (hn:n < 10000000000000000000) (h0:1≤k) (hk:k < s.length) (h:s.getD 0 0=48):s≠dgL n:=fun e=>by
 have:=(XR hn).1 e
 exact this.1.2.2 (by omega) h
theorem zmZ {s:List UInt8} {n k:Nat} (hn:n < 10000000000000000000) (h:n < vlD (s.take k)):s≠dgL n:=fun e=>by
 have h1:=((XR hn).1 e).2
 have h2:=zl7 (s.take k) (s.drop k)
 rw [List.take_append_drop] at h2
 omega
theorem zpi {s:List UInt8} {n:Nat} (hn:n < 10000000000000000000) (hd:∀c∈s,48≤c.toNat∧c.toNat≤57) (h3:2≤s.length→s.getD 0 0≠48):s=dgL n↔s≠[]∧vlD s=n:=
 ⟨fun e=>⟨((XR hn).1 e).1.1,((XR hn).1 e).2⟩,fun h=>(XR hn).2 ⟨⟨h.1,hd,h3⟩,h.2⟩⟩
theorem znZ {s:List UInt8} {k:Nat} (hk:k < s.length):((decodeL (s.drop k)).1=(s.getD k 0).toNat∧(decodeL (s.drop k)).2=1∧(s.getD k 0).toNat < 128)∨(128≤(decodeL (s.drop k)).1∧128≤(s.getD k 0).toNat):=by
 have hg:(s.drop k).getD 0 0=s.getD k 0:=by simp [List.getD_eq_getElem?_getD]
 rcases Nat.lt_or_ge (s.getD k 0).toNat 128 with h|h
 ·left
  have e:s.drop k=s.getD k 0::s.drop (k+1):=by
   rw [List.getD_eq_getElem?_getD,List.getElem?_eq_getElem hk]
   exact List.drop_eq_getElem_cons hk
  rw [e,decodeL_ascii _ _ h]
  exact ⟨rfl,rfl,h⟩
 ·right
  exact ⟨(zm1 _ (by rw [hg];exact h)).1,h⟩
theorem zkm {s:List UInt8} (h:kdL s≠0):1≤kdL s∧kdL s≤4∧nmL (kdL s)=s:=by
 unfold kdL at h ⊢
 repeat' split at h
 all_goals first
  |(rename_i hs;subst hs;exact ⟨by decide,by decide,by decide⟩)
  |exact absurd rfl h
theorem zkL (k:Nat):(32:UInt8)∉nmL k∧(0:UInt8)∉nmL k:=by
 unfold nmL
 split<;>decide
def psK (t:List UInt8):Nat:=
 if (0:UInt8)∈t∧kdL (zZ 32 (zZ 0 t).1).1≠0∧(zZ 32 (zZ 0 t).1).2=dgL (zZ 0 t).2.length then kdL (zZ 32 (zZ 0 t).1).1 else 0
def psB (t:List UInt8):List UInt8:=(zZ 0 t).2
theorem zan (k n:Nat) (h1:1≤k) (h2:k≤4):hdL (k:Int) (n:Int)=nmL k++[32]++dgL n++[0]:=by
 unfold hdL
 rw [zha h1 h2,show (max (n:Int) 0).toNat=n from by omega]
theorem zdp {t:List UInt8} {k:Nat} (h1:1≤k) (h2:k≤4):psK t=k↔(0:UInt8)∈t∧hdL (k:Int) ((psB t).length:Int)=(zZ 0 t).1++[0]:=by
 rw [zan k _ h1 h2]
 unfold psK psB
 constructor
 ·intro h
  split at h
  ·rename_i hh
   obtain ⟨h0,h3,h4⟩:=hh
   refine ⟨h0,?_⟩
   have h5:=(zkm h3).2.2
   rw [h] at h5
   congr 1
   rcases YX 32 (zZ 0 t).1 with ⟨_,e⟩|⟨a,b,_,e1,e2⟩
   ·rw [e] at h4
    exact absurd h4.symm (zjC _)
   ·rw [e2] at h4 h5
    simp only at h4 h5
    rw [e1,h5,←h4]
    simp
  ·omega
 ·rintro ⟨h0,h⟩
  have h3:(zZ 0 t).1=nmL k++(32:UInt8)::dgL (zZ 0 t).2.length:=by
   have:=List.append_cancel_right h
   rw [←this];simp
  have h4:=XP 32 (dgL (zZ 0 t).2.length) (nmL k) (zkL k).1
  rw [←h3] at h4
  rw [h4]
  simp only
  rw [zgU h1 h2,if_pos ⟨h0,by omega,trivial⟩]
theorem zpW (t:List UInt8):psK t≤4:=by
 unfold psK
 split
 ·rename_i h;exact (zkm h.2.1).2.1
 ·omega
theorem zj8 {k:Nat} (h1:1≤k) (h2:k≤4) (n:Nat) (b:List UInt8):zZ 0 (hdL (k:Int) (n:Int)++b)=(nmL k++[32]++dgL n,b):=by
 rw [zan k n h1 h2,show nmL k++[32]++dgL n++[0]++b=(nmL k++[32]++dgL n)++(0:UInt8)::b from by simp]
 refine XP 0 b _ ?_
 simp only [List.mem_append,List.mem_singleton,not_or]
 refine ⟨⟨(zkL k).2,by decide⟩,fun h=>?_⟩
 have:=zcX n 0 h
 simp at this
theorem zqY {k:Nat} (h1:1≤k) (h2:k≤4) (b:List UInt8):psK (hdL (k:Int) (b.length:Int)++b)=k∧psB (hdL (k:Int) (b.length:Int)++b)=b:=by
 have hb:psB (hdL (k:Int) (b.length:Int)++b)=b:=by unfold psB;rw [zj8 h1 h2]
 refine ⟨(zdp h1 h2).2 ⟨?_,?_⟩,hb⟩
 ·rw [zan k _ h1 h2];simp
 ·rw [hb,zj8 h1 h2,zan k _ h1 h2]
end Go.Ob
namespace Go.Proofs.YtemdlifojcgplaaGreatDoor
open Go Go.Vx Go.Ob Go.Lib
set_option linter.all false
variable [W0]
set_option maxRecDepth 4000
omit [W0] in
theorem index_ge:∀s sub:List UInt8,-1≤Lib.index s sub
 |[],sub=>by unfold Lib.index;split<;>decide
 |x::t,sub=>by
  have:=index_ge t sub
  unfold Lib.index
  split
  ·decide
  ·split<;>omega
omit [W0] in
theorem zjz (x:UInt8) (t sep:List UInt8):Lib.cut (x::t) sep=if sep.isPrefixOf (x::t) then ([],(x::t).drop sep.length,true) else (x::(Lib.cut t sep).1,(Lib.cut t sep).2.1,(Lib.cut t sep).2.2):=by
 have hge:=index_ge t sep
 by_cases hp:sep.isPrefixOf (x::t)=true
 ·rw [if_pos hp]
  unfold Lib.cut
  rw [show Lib.index (x::t) sep=0 from by rw [Lib.index,if_pos hp]]
  rw [if_pos (by decide)]
  simp
 ·rw [if_neg hp]
  rcases Int.lt_or_le (Lib.index t sep) 0 with h|h
  ·have h1:Lib.index t sep= -1:=by omega
   unfold Lib.cut
   rw [show Lib.index (x::t) sep= -1 from by rw [Lib.index,if_neg hp,h1];rfl,h1]
   simp
  ·unfold Lib.cut
   rw [show Lib.index (x::t) sep=Lib.index t sep+1 from by rw [Lib.index,if_neg hp,if_neg (by simp;omega)]]
   obtain ⟨k,hk⟩:∃k:Nat,Lib.index t sep=k:=⟨(Lib.index t sep).toNat,by omega⟩
   rw [hk,if_pos (by omega),if_pos (by omega)]
   simp [show ((k:Int)+1).toNat=k+1 from by omega,show k+1+sep.length=(k+sep.length)+1 from by omega]
omit [W0] in
theorem zcV (c:UInt8):∀s:List UInt8,(Lib.cut s [c]).1=(zZ c s).1∧(Lib.cut s [c]).2.1=(zZ c s).2
 |[]=>by simp [Lib.cut,Lib.index,zZ]
 |x::t=>by
  obtain ⟨h1,h2⟩:=zcV c t
  rw [zjz]
  unfold zZ
  by_cases h:x=c
  ·subst h
   simp
  ·rw [if_neg h,if_neg (by simp [List.isPrefixOf,Ne.symm h])]
   exact ⟨by rw [h1],h2⟩
omit [W0] in
theorem YW (c:UInt8) (s:List UInt8):(zZ c s).1.length≤s.length∧(zZ c s).2.length≤s.length:=by
 rcases YX c s with ⟨_,h⟩|⟨x,t,_,h1,h2⟩
 ·rw [h];simp
 ·rw [h2,h1];simp;omega
end Go.Proofs.YtemdlifojcgplaaGreatDoor
namespace Go.Vx
open Go
set_option linter.all false
variable [W0]
theorem QH {P:Program} {T e by_:Nat} [hs:SL P T e 1 by_] {v:Value} {m:Nat} {xs:List UInt8} {C:Chunk} (hO:Ow e 1 v m (bsv xs) C) {l h:Nat} (h1:l≤h) (h2:h≤m) :
 ∃r,(∀L:List Chunk,Sl (C::L) 1 r (h - l) (bsv ((xs.drop l).take (h - l))))∧(∃a c,r=.slice a (h - l) c∧h - l≤c)∧∀{n:Nat} {M:List (Nat × Value)} {L:List Chunk} {d:Nat} {ty:TypeId} {ps:String} {af:Array Edge} {g:Option (Nat × Bool)} {x:Operand} {lo hi:Option Operand},
  ev M x=some v→bnd M lo 0=some (l:Int)→bnd M hi m=some (h:Int)→EV P n ⟨some d,.slice T x lo hi none,ty,ps,af,g⟩ M L d r:=by
 rcases hO with ⟨rfl,rfl,hx,rfl⟩|⟨b,cap,rest,rfl,rfl,hxl,hrl,hmc,hcm⟩
 ·obtain rfl:h=0:=by omega
  obtain rfl:l=0:=by omega
  exact ⟨.slice none 0 0,fun L=>.inl ⟨_,rfl,rfl,by simp [bsv]⟩,⟨_,_,rfl,Nat.le_refl _⟩,fun hx hl hh=>Yn hx hl hh⟩
 ·refine ⟨_,fun L=>.inr ⟨_,_,rfl,?_,?_⟩,⟨_,_,rfl,?_⟩,fun hx hl hh=>yS hx hl hh h1 (by omega)⟩
  ·rcases Nat.eq_or_lt_of_le h1 with h0|h0
   ·subst h0
    exact .inl (by simp [bsv])
   ·refine .inr ⟨b,_,_,_,_,rfl,Fnd.here,fun j u hj=>?_⟩
    rw [if_neg (by omega),Nat.mul_one,Nat.zero_add]
    have hj2:(bsv xs)[l+j]? =some u:=by
     rw [←hj]
     have hjl:j < h - l:=by
      rcases Nat.lt_or_ge j (h - l) with h'|h'
      ·exact h'
      ·rw [List.getElem?_eq_none (by simp [zH];omega)] at hj;simp at hj
     simp [bsv,List.getElem?_take,hjl]
    simpa using z8 (r:=rest) hj2
  ·rw [zH] at hxl ⊢
   simp;omega
  ·omega
end Go.Vx
namespace Go.Proofs.YtemdlifojcgplaaGreatDoor
open Go Go.Vx Go.Ob Go.Lib
set_option linter.all false
set_option maxRecDepth 4000
variable [W0]
theorem wrap_i32 {r:Int} (h1:0≤r) (h2:r≤2147483647):IntKind.i32.wrap r=r:=by
 simp [IntKind.wrap,IntKind.bits,IntKind.signed]
 omega
theorem zmg (s:List UInt8) (n:Nat) (L:List Chunk) (hn:n≤100000000000000000) (hs:s.length≤9223372036854775807) :
 GvP Tryz.prog 63 [.string (str s),.int .i64 (n:Int)].toArray L (.bool (decide (s=dgL n))):=by
 refine Gv.of_body (args:=[.string (str s),.int .i64 (n:Int)]) Tryz.func63 rfl rfl ?_
 refine kW ?_
 refine zhM rfl rfl (fun b=>?_)
 refine kW ?_
 refine zn (X:=Nat) (fun k=>[(0,.string (str s)),(1,.int .i64 (n:Int)),(5,.int .i64 ((vlD (s.take k):Nat):Int)),(9,.pointer (some ⟨b,0,none⟩))]) (fun k=>[(b,.stringIter (str s) k)]::L)
  (fun k=>k≤s.length∧(∀c∈s.take k,48≤c.toNat∧c.toNat≤57)∧(2≤k→s.getD 0 0≠48)∧vlD (s.take k)≤n) (fun k=>s.length - k) 0 ⟨Nat.zero_le _,by simp,by omega,by simp [vlD]⟩ iS (fun w h=>h) ?_
 rintro k ⟨h1,h2,h3,h4⟩
 by_cases hk:k < s.length
 ·have hr:=znZ hk
  have hb1:=zmX (n:=n) hk
  have hrun:=zpj hk h2
  have hhd:=fun h0=>zm0 h0 hk h2 h3
  refine kW ?_
  refine ziK rfl (by rw [yE];exact hk) .here rfl ?_
  rw [zn7]
  generalize (decodeL (s.drop k)).1=c at *
  generalize (decodeL (s.drop k)).2=wd at *
  (repeat' first|refine kW ?_|refine kU fun bk=>?_|refine kV fun hc=>?_|refine kZ (fun hc=>?_) fun hc=>?_|fail)
  ·refine kR ?_
   exact ⟨L,iC,by rw [decide_eq_false (hb1 (by omega))];rfl,rfl⟩
  ·refine kR ?_
   exact ⟨L,iC,by rw [decide_eq_false (hb1 (by omega))];rfl,rfl⟩
  ·refine kR ?_
   have h48:s.getD 0 0=48:=Classical.byContradiction fun h=>(hhd (by omega)).2 h (by omega)
   exact ⟨L,iC,by rw [decide_eq_false (zmY (by omega) (show 1≤k by omega) hk h48)];rfl,rfl⟩
  all_goals (
   have hcd:48≤(s.getD k 0).toNat∧(s.getD k 0).toNat≤57:=by omega
   have hcw:c=(s.getD k 0).toNat∧wd=1:=by omega
   have h3':2≤k+1→s.getD 0 0≠48:=fun h=>(hhd (by omega)).1 (by omega)
   obtain ⟨h2',hv⟩:=hrun hcd
   refine ze (qj (r:=(c:Int) - 48) rfl rfl rfl) rfl ?_
   rw [wrap_i32 (r:=(c:Int) - 48) (by omega) (by omega),show (c:Int) - 48=((c - 48:Nat):Int) from by omega]
   obtain ⟨hc1,rfl⟩:=hcw
   (repeat' first|refine kW ?_|refine kU fun bk=>?_|refine kV fun hc=>?_|refine kZ (fun hc=>?_) fun hc=>?_|fail)
   all_goals first
    |(refine kR ?_;exact ⟨L,iC,by rw [decide_eq_false (zmZ (s:=s) (k:=k+1) (by omega) (by omega))];rfl,rfl⟩)
    |exact zf (X:=Nat) (μ:=fun k=>s.length - k) (x:=k) (k+1) (by omega) ⟨by omega,h2',h3',by omega⟩ iS (fun w h=>h))
 ·refine kW ?_
  refine ze (zmi rfl Fnd.here (by rw [yE];exact hk)) rfl ?_
  have hke:k=s.length:=by omega
  subst hke
  rw [List.take_length] at h2 h4 ⊢
  have he:=zpi (s:=s) (n:=n) (by omega) h2 h3
  have hs0:str s={ data:=#[] }↔s=[]:=by rw [show ({ data:=#[] }:ByteArray)=str [] from rfl,str_inj]
  (repeat' first|refine kW ?_|refine kU fun bk=>?_|refine kV fun hc=>?_|refine kZ (fun hc=>?_) fun hc=>?_|fail)
  ·rw [hs0] at hc
   refine kR ?_
   refine ⟨L,iC,?_,rfl⟩
   show Value.bool _=Value.bool _
   congr 1
   rw [Bool.eq_iff_iff,beq_iff_eq,decide_eq_true_eq,he]
   exact ⟨fun h=>⟨hc,by omega⟩,fun h=>by rw [h.2]⟩
  ·rw [hs0] at hc
   refine kR ?_
   exact ⟨L,iC,by rw [decide_eq_false (fun h=>(he.1 h).1 hc)];rfl,rfl⟩
theorem zkp (s:List UInt8) (n:Nat) (L:List Chunk) (hb:wP L) (hn:n≤100000000000000000) (hs:s.length < 4294967281) :
 GvP Tryz.prog 33 [.string (str s),.int .i64 (n:Int)].toArray L (.tuple #[.int .i64 (kdL (Ob.zZ 32 s).1:Int),.bool (decide (kdL (Ob.zZ 32 s).1≠0∧(Ob.zZ 32 s).2=dgL n))]):=by
 refine Gv.of_body (args:=[.string (str s),.int .i64 (n:Int)]) Tryz.func33 rfl rfl ?_
 have c1:=zqz s [32] L hb hs
 rw [(zcV 32 s).1,(zcV 32 s).2] at c1
 have l1:=YW 32 s
 generalize (Lib.cut s [32]).2.2=f1 at c1
 refine kW ?_
 refine cP rfl rfl c1 ?_
 refine kW ?_
 refine cP rfl rfl (zkP (Ob.zZ 32 s).1 _) ?_
 have hw:=zmg (Ob.zZ 32 s).2 n L hn (by omega)
 by_cases hk:kdL (Ob.zZ 32 s).1=0
 ·rw [decide_eq_false (p:=kdL (Ob.zZ 32 s).1≠0) (fun h=>h hk),decide_eq_false (p:=kdL (Ob.zZ 32 s).1≠0∧(Ob.zZ 32 s).2=dgL n) (fun h=>h.1 hk)]
  refine kW ?_
  exact kE
 ·rw [decide_eq_true (p:=kdL (Ob.zZ 32 s).1≠0) hk,show decide (kdL (Ob.zZ 32 s).1≠0∧(Ob.zZ 32 s).2=dgL n)=decide ((Ob.zZ 32 s).2=dgL n) from by simp [hk]]
  refine kW ?_
  refine cP rfl rfl hw ?_
  refine kW ?_
  exact kE
theorem zh4 (c:UInt8) (t:List UInt8):(c∉t∧Lib.indexByte t c= -1∧Ob.zZ c t=(t,[]))∨∃k:Nat,c∈t∧k < t.length∧Lib.indexByte t c=(k:Int)∧Ob.zZ c t=(t.take k,t.drop (k+1)):=by
 induction t with
 |nil=>exact .inl ⟨by simp,rfl,rfl⟩
 |cons x t ih=>
  by_cases hx:x=c
  ·subst hx
   exact .inr ⟨0,by simp,by simp,by simp [Lib.indexByte],by simp [Ob.zZ]⟩
  ·rcases ih with ⟨h1,h2,h3⟩|⟨k,h1,h2,h3,h4⟩
   ·exact .inl ⟨by simp [h1,Ne.symm hx],by simp [Lib.indexByte,hx,h2],by simp [Ob.zZ,hx,h3]⟩
   ·refine .inr ⟨k+1,by simp [h1],by simpa using h2,?_,by simp [Ob.zZ,hx,h4]⟩
    rw [Lib.indexByte,if_neg (by simpa using hx),h3,if_neg (by simp)]
    omega
theorem zdZ (t:List UInt8):Lib.bytesOf (t.map fun x=>(x.toNat:Int))=t:=by
 unfold Lib.bytesOf
 rw [List.map_map]
 conv=>rhs;rw [←List.map_id t]
 refine List.map_congr_left fun x _=>?_
 simp
def ByV (L:List Chunk) (v:Value) (t:List UInt8):Prop:=
 (v=.slice none 0 0∧t=[])∨∃b cap c T fr,v=.slice (some ⟨b,0,none⟩) t.length cap∧Fnd L b (.cells c T fr)∧∀(i:Nat) u,(bsv t)[i]? =some u→c[i]? =some u
theorem ByV.ow {e:Nat} {v:Value} {t:List UInt8} {C:Chunk} {L:List Chunk} (h:Ow e 1 v t.length (bsv t) C):ByV (C::L) v t:=by
 rcases h with ⟨rfl,h0,_,_⟩|⟨b,cap,rest,rfl,rfl,_,_,_,_⟩
 ·exact .inl ⟨rfl,List.eq_nil_of_length_eq_zero h0⟩
 ·exact .inr ⟨b,cap,_,_,_,rfl,Fnd.here,fun i u hi=>by simpa using z8 hi⟩
theorem ByV.there {v:Value} {t:List UInt8} {C:Chunk} {L:List Chunk} (h:ByV L v t):ByV (C::L) v t:=by
 rcases h with h|⟨b,cap,c,T,fr,h1,h2,h3⟩
 ·exact .inl h
 ·exact .inr ⟨b,cap,c,T,fr,h1,h2.there,h3⟩
theorem zi2 (v:Value) (t:List UInt8) (L:List Chunk) (hv:ByV L v t) :
 GvP Tryz.prog 93 [v,.int .u8 0].toArray L (.int .i64 (Lib.indexByte t 0)):=by
 refine Gv.of_body (args:=[v,.int .u8 0]) Tryz.func93 rfl rfl ?_
 refine kW ?_
 refine ze (YU (f:=132) (v:=.int .i64 (Lib.indexByte t 0)) rfl rfl Tryz.func132 (by kernel_rfl) (by kernel_rfl) (by kernel_rfl) rfl (fun w hw=>?_)) rfl ?_
 rotate_left
 ·refine kW ?_
  exact kE
 rcases hv with ⟨rfl,rfl⟩|⟨b,cap,c,T,fr,rfl,h1,h2⟩
 ·exact Lib.run_indexByteNil w 0 0 0
 ·have:=Lib.run_indexByteSlice (P:=Tryz.prog) w b 0 t.length cap (t.map fun x=>(x.toNat:Int)) (by simp) (fun i hi=>?_) 0
  ·rw [zdZ] at this
   exact this
  ·rw [cell_of (h1.get hw),Nat.zero_add]
   refine h2 i _ ?_
   simp [bsv,List.getD_eq_getElem?_getD,hi]
theorem zo6 (v sv:Value) (t:List UInt8) (L:List Chunk) (hv:ByV L v t) (hs:Sl L 1 sv 1 (bsv [0])) :
 GvP Tryz.prog 60 [v,sv].toArray L (.int .i64 (Lib.indexByte t 0)):=by
 refine Gv.of_body (args:=[v,sv]) Tryz.func60 rfl rfl ?_
 obtain ⟨bb,off,cap,c,T,fr,rfl,h1,h2⟩:=Qe hs (show 0 < 1 by omega)
 refine kW ?_
 refine ze (zi (j:=0) rfl rfl rfl (by omega)) rfl ?_
 refine kW ?_
 refine ze (zq rfl h1 h2) rfl ?_
 refine kW ?_
 refine cP rfl rfl (zi2 v t _ hv) ?_
 refine kW ?_
 exact kE
theorem zfi (v sv:Value) (t:List UInt8) (C:Chunk) (L:List Chunk) (ho:Ow 5 1 v t.length (bsv t) C) (hv:ByV L v t) (hs:Sl L 1 sv 1 (bsv [0])) (ht:t.length≤140737488355328) :
 Gv Tryz.prog 32 [v,sv].toArray L (fun r L'=>∃v1 v2,r=.tuple #[v1,v2,.bool (decide ((0:UInt8)∈t))]∧(∀L0,SlC (C::L0) 1 v1 (Ob.zZ 0 t).1.length (bsv (Ob.zZ 0 t).1))∧(∀L0,SlC (C::L0) 1 v2 (Ob.zZ 0 t).2.length (bsv (Ob.zZ 0 t).2))∧L'=L):=by
 refine Gv.of_body (args:=[v,sv]) Tryz.func32 rfl rfl ?_
 obtain ⟨va,vc,rfl⟩:=zM ho
 have hi:=zo6 (.slice va t.length vc) sv t L hv hs
 obtain ⟨sa,sc,rfl⟩:∃a c,sv=.slice a 1 c:=by
  obtain ⟨bb,off,cap,c,T,fr,rfl,_,_⟩:=Qe hs (show 0 < 1 by omega)
  exact ⟨_,_,rfl⟩
 rcases zh4 0 t with ⟨h1,h2,h3⟩|⟨k,h1,h2,h3,h4⟩
 ·rw [h2] at hi
  rw [h3,decide_eq_false h1]
  refine kW ?_
  refine cP rfl rfl hi ?_
  refine kW ?_
  refine kR ?_
  exact ⟨_,iC,_,_,rfl,fun L0=>SlC.ow ho,fun L0=>⟨.inl ⟨0,rfl,rfl,rfl⟩,_,_,rfl,Nat.le_refl _⟩,rfl⟩
 ·rw [h3] at hi
  rw [h4,decide_eq_true h1]
  obtain ⟨r1,q1,⟨a1,c1,rfl,g1⟩,e1⟩:=QH (P:=Tryz.prog) (T:=22) ho (l:=0) (h:=k) (Nat.zero_le _) (by omega)
  obtain ⟨r2,q2,⟨a2,c2,rfl,g2⟩,e2⟩:=QH (P:=Tryz.prog) (T:=22) ho (l:=k+1) (h:=t.length) (by omega) (Nat.le_refl _)
  have l1:(t.take k).length=k:=by rw [List.length_take];omega
  have l2:(t.drop (k+1)).length=t.length - (k+1):=by rw [List.length_drop]
  have q1':∀L0,SlC (C::L0) 1 (.slice a1 (k - 0) c1) (t.take k).length (bsv (t.take k)):=fun L0=>⟨by rw [l1];exact q1 L0,a1,c1,by rw [l1];rfl,by rw [l1];exact g1⟩
  have q2':∀L0,SlC (C::L0) 1 (.slice a2 (t.length - (k+1)) c2) (t.drop (k+1)).length (bsv (t.drop (k+1))):=fun L0=>⟨by
   have:=q2 L0
   rw [List.take_of_length_le (by rw [l2];exact Nat.le_refl _)] at this
   rw [l2];exact this,a2,c2,by rw [l2],by rw [l2];exact g2⟩
  refine kW ?_
  refine cP rfl rfl hi ?_
  refine kW ?_
  refine zk [] mixed ?_
  (refine za 0 ?_;refine za 1 ?_)
  refine cT 2 rfl rfl (e1 rfl rfl rfl) ?_
  (refine za 3 ?_;refine za 4 ?_;refine za 5 ?_;refine za 6 ?_;refine za 7 ?_)
  refine cT 8 rfl rfl (e2 rfl (qH rfl (by omega)) rfl) ?_
  (refine za 9 ?_;refine za 10 ?_;refine za 11 ?_)
  refine cD ?_
  refine kW ?_
  refine kR ?_
  exact ⟨_,iC,_,_,rfl,q1',q2',rfl⟩
end Go.Proofs.YtemdlifojcgplaaGreatDoor
namespace Go.Vx
open Go
set_option linter.all false
variable [W0]
theorem znH {e m:Nat} {v:Value} {xs:List UInt8} {C:Chunk} (h:Ow e 1 v m (bsv xs) C) {k:Nat} (hk:k < m) :
 ∃b cap rest,v=.slice (some ⟨b,0,none⟩) m cap∧C=[(b,cl (bsv xs++rest) e)]∧(bsv xs++rest).toArray[k * 1]? =some (.int .u8 ((xs.getD k 0).toNat:Int)):=by
 rcases h with ⟨rfl,rfl,_⟩|⟨b,cap,rest,rfl,rfl,hxl,hrl,hmc,hcm⟩
 ·omega
 ·refine ⟨b,cap,rest,rfl,rfl,?_⟩
  have hlt:k < xs.length:=by rw [zH] at hxl;omega
  rw [Nat.mul_one]
  simpa using z8 (r:=rest) (wW (l:=xs) (i:=k) (b:=xs.getD k 0) (by simp [List.getD,hlt]))
theorem Gv.take2 {P:Program} {L:List Chunk} {f:FuncId} {args:Array Value} {post:Value→List Chunk→Prop} {L1 R:List Chunk} {C D:Chunk} (h:Gv P f args (C::D::R) post) (h1:Take C L L1) (h2:Take D L1 R):Gv P f args L post:=
 h.holds fun _ hw=>(hw.take h1).perm ((h2.perm).cons C)
theorem Holds.gap {w:World} {D:Chunk} {L:List Chunk}:Holds w (D::[]::L)↔Holds w (D::L):=by simp [Holds]
theorem yV {L:List Chunk} {v:Value} {m:Nat} {xs:List Value} (h:Sl L 1 v m xs) {k:Nat} {u:Value} (hk:xs[k]? =some u) :
 ∃b off cap c T fr,v=.slice (some ⟨b,off,none⟩) m cap∧Fnd L b (.cells c T fr)∧c[off+k * 1]? =some u:=by
 rcases h with ⟨c,rfl,rfl,rfl⟩|⟨a,cap,rfl,hr,hl⟩
 ·simp at hk
 ·rcases hr with h0|⟨b,off,c,T,fr,rfl,h1,h2⟩
  ·subst h0;simp at hk
  ·exact ⟨b,off,cap,c,T,fr,rfl,h1,by rw [Nat.mul_one];exact h2 _ _ hk⟩
theorem zdO {P:Program} {n:Nat} {Q:Exit→Act→World→Prop} {M:List (Nat × Value)} {L S:List Chunk} {ops:List Oper} {T:List Nat} {fuel:Nat} {listed:Array Bool} (i:Nat) {d j:Nat} {b:Bool} {o:Oper} (hi:ops[i]? =some o) (hg:o.guard=some (j,b)) (hy:yl ops M j=some undef) (hd:o.dst=some d) (hb:takeB ops T listed i=true) (hPO:PO Q) (hinc:Inc S L) (hn:Nat.blt d n=true)
 (h:WR P n ops Q S T fuel (listed.setIfInBounds i true) ((d,undef)::M) L):WR P n ops Q S T (fuel+1) listed M L:=
 XJ hi hd hb hPO hinc hn (fun a ha=>.inr ⟨by simp [Region.wanted,hg,wI ha hy,undef],rfl⟩) h
theorem qG {P:Program} {n:Nat} {Q:Exit→Act→World→Prop} {M:List (Nat × Value)} {L S:List Chunk} {ops:List Oper} {T:List Nat} {fuel:Nat} {listed:Array Bool} (i:Nat) {d j:Nat} {b:Bool} {o:Oper} (h:WR P n ops Q S T fuel (listed.setIfInBounds i true) ((d,undef)::M) L)
 (hi:ops[i]? =some o:=by exact rfl) (hg:o.guard=some (j,b):=by exact rfl) (hy:yl ops M j=some undef:=by exact rfl) (hd:o.dst=some d:=by exact rfl) (hb:takeB ops T listed i=true:=by kernel_rfl) (hPO:PO Q:=by exact iP) (hinc:Inc S L:=by exact iC) (hn:Nat.blt d n=true:=by exact rfl) :
 WR P n ops Q S T (fuel+1) listed M L:=zdO i hi hg hy hd hb hPO hinc hn h
end Go.Vx
namespace Go.Pm
set_option linter.all false
structure It where
 w:Nat
 c:Option Nat
 f:Nat→Nat
def isC (x:It):Bool:=x.c.isSome
def Zn (wt:Nat→Nat) (i:Nat):It:=⟨wt i,some i,fun j=>if j=i then 1 else 0⟩
def pack (a b:It):It:=⟨a.w+b.w,none,fun i=>a.f i+b.f i⟩
def pairs:List It→List It
 |a::b::r=>pack a b::pairs r
 |_=>[]
structure Mg (cs ps A:List It):Prop where
 up:A.Pairwise fun a b=>a.w≤b.w
 cs:A.filter isC=cs
 ps:A.filter (fun x=>!isC x)=ps
theorem wM:∀l:List It,(pairs l).length=l.length / 2
 |[]=>rfl
 |[_]=>by simp [pairs]
 |a::b::r=>by
  have:=wM r
  simp only [pairs,List.length_cons,this]
  omega
theorem uZ:∀(l:List It),∀x∈pairs l,isC x=false
 |[],x,h=>by simp [pairs] at h
 |[_],x,h=>by simp [pairs] at h
 |a::b::r,x,h=>by
  simp only [pairs,List.mem_cons] at h
  rcases h with rfl|h
  ·rfl
  ·exact uZ r x h
theorem YL {α:Type} (q:α→Bool):∀(l:List α) (m:Nat),(l.take m).filter q=(l.filter q).take ((l.take m).filter q).length
 |[],m=>by simp
 |x::r,0=>by simp
 |x::r,m+1=>by
  simp only [List.take_succ_cons,List.filter_cons]
  have ih:=YL q r m
  split
  ·simp only [List.length_cons,List.take_succ_cons]
   rw [←ih]
  ·exact ih
theorem Zr {α:Type} (q:α→Bool):∀l:List α,l.Perm (l.filter q++l.filter fun x=>!q x)
 |[]=>.refl _
 |x::r=>by
  have ih:=Zr q r
  cases h:q x with
  |true=>simp only [List.filter_cons,h,if_true,Bool.not_true,Bool.false_eq_true,if_false,List.cons_append];exact ih.cons x
  |false=>
   simp only [List.filter_cons,h,Bool.not_false,if_true,Bool.false_eq_true,if_false]
   exact (ih.cons x).trans List.perm_middle.symm
structure Lv (cs:List It) (lv:Nat→List It):Prop where
 zero:lv 0=[]
 next:∀k,Mg cs (pairs (lv k)) (lv (k+1))
section
variable {cs : List It} {lv : Nat → List It} (h : Lv cs lv)
def sC (lv:Nat→List It) (k m:Nat):Nat:=(((lv k).take m).filter isC).length
def pC (lv:Nat→List It) (k m:Nat):Nat:=(((lv k).take m).filter fun x=>!isC x).length
def sel (lv:Nat→List It):Nat→Nat→List Nat
 |0,_=>[]
 |k+1,m=>sC lv (k+1) m::sel lv k (2 * pC lv (k+1) m)
theorem sp (lv:Nat→List It) (k m:Nat) (hm:m≤(lv k).length):sC lv k m+pC lv k m=m:=by
 have:=(Zr isC ((lv k).take m)).length_eq
 simp only [List.length_append,List.length_take] at this
 unfold sC pC
 omega
include h in
theorem zju (k m:Nat):((lv (k+1)).take m).filter isC=cs.take (sC lv (k+1) m):=by
 have:=YL isC (lv (k+1)) m
 rw [(h.next k).cs] at this
 exact this
include h in
theorem zkY (k m:Nat):((lv (k+1)).take m).filter (fun x=>!isC x)=(pairs (lv k)).take (pC lv (k+1) m):=by
 have:=YL (fun x=>!isC x) (lv (k+1)) m
 rw [(h.next k).ps] at this
 exact this
include h in
theorem zkW (k m:Nat):pC lv (k+1) m≤(pairs (lv k)).length:=by
 rw [←(h.next k).ps]
 unfold pC
 exact ((List.take_sublist m (lv (k+1))).filter _).length_le
include h in
theorem zlt (k m:Nat):sC lv (k+1) m≤cs.length:=by
 rw [←(h.next k).cs]
 unfold sC
 exact ((List.take_sublist m (lv (k+1))).filter _).length_le
include h in
theorem zkX (k m:Nat):2 * pC lv (k+1) m≤(lv k).length:=by
 have:=zkW h k m
 rw [wM] at this
 omega
def kr:List Nat→Nat
 |[]=>0
 |s::r=>s * 2 ^ r.length+kr r
theorem vB (lv:Nat→List It):∀k m,(sel lv k m).length=k
 |0,_=>rfl
 |k+1,m=>by simp [sel,vB lv k]
include h in
theorem zkq:∀k m,m≤(lv (k+1)).length→kr (sel lv (k+1) m)=m * 2 ^ k
 |0,m,hm=>by
  have h1:=sp lv 1 m hm
  have h2:=zkW h 0 m
  rw [h.zero] at h2
  simp [pairs] at h2
  simp only [sel,kr,List.length_nil]
  simp only [Nat.zero_add] at h2 ⊢
  omega
 |k+1,m,hm=>by
  have h1:=sp lv (k+2) m hm
  have h2:=zkX h (k+1) m
  have ih:=zkq k _ h2
  rw [sel,kr,ih,vB,Nat.pow_succ]
  rw [show 2 * pC lv (k+1+1) m * 2 ^ k=pC lv (k+1+1) m * (2 ^ k * 2) from by rw [Nat.mul_comm 2,Nat.mul_assoc,Nat.mul_comm 2],←Nat.add_mul,h1]
def down:List Nat→Prop
 |[]=>True
 |[_]=>True
 |a::b::r=>b≤a∧down (b::r)
theorem zcf:∀{l:List It} {t:Nat} {x:It},l[t]? =some x→(h2:t < 2 * (pairs l).length)→(hp:∀y∈l,0 < y.w)→∃y,(pairs l)[t / 2]? =some y∧x.w < y.w
 |[],t,x,h,_,_=>by simp at h
 |[_],t,x,h,h2,_=>by simp [pairs] at h2
 |a::b::r,0,x,h,_,hp=>by
  simp at h;subst h
  have:=hp b (by simp)
  exact ⟨pack a b,rfl,by simp only [pack];omega⟩
 |a::b::r,1,x,h,_,hp=>by
  simp at h;subst h
  have:=hp a (by simp)
  exact ⟨pack a b,rfl,by simp only [pack];omega⟩
 |a::b::r,t+2,x,h,h2,hp=>by
  have h':r[t]? =some x:=by simpa using h
  obtain ⟨y,hy,hw⟩:=zcf h' (by simp [pairs] at h2;omega) (fun y hy=>hp y (by simp [hy]))
  refine ⟨y,?_,hw⟩
  rw [show (t+2) / 2=t / 2+1 from by omega]
  simpa [pairs] using hy
include h in
theorem pos (hp:∀x∈cs,0 < x.w):∀k,∀y∈lv k,0 < y.w
 |0,y,hy=>by rw [h.zero] at hy;simp at hy
 |k+1,y,hy=>by
  cases hc:isC y with
  |true=>
   have:y∈(lv (k+1)).filter isC:=List.mem_filter.2 ⟨hy,hc⟩
   rw [(h.next k).cs] at this
   exact hp y this
  |false=>
   have:y∈(lv (k+1)).filter fun x=>!isC x:=List.mem_filter.2 ⟨hy,by simp [hc]⟩
   rw [(h.next k).ps] at this
   have ih:=pos hp k
   have key:∀(l:List It),(∀z∈l,0 < z.w)→∀z∈pairs l,0 < z.w:=by
    intro l
    induction l using pairs.induct with
    |case1 a b r ihr=>
     intro hl z hz
     simp only [pairs,List.mem_cons] at hz
     rcases hz with rfl|hz
     ·have:=hl a (by simp);simp only [pack];omega
     ·exact ihr (fun z hz=>hl z (by simp [hz])) z hz
    |case2 l hl2=>
     intro _ z hz
     rw [pairs] at hz
     ·simp at hz
     ·exact hl2
   exact key _ ih y this
include h in
theorem ziq (hp:∀x∈cs,0 < x.w) (k m:Nat):sC lv (k+1) (2 * pC lv (k+2) m)≤sC lv (k+2) m:=by
 rcases Nat.lt_or_ge (sC lv (k+2) m) (sC lv (k+1) (2 * pC lv (k+2) m)) with hlt|hle
 ·exfalso
  have hn:=zlt h k (2 * pC lv (k+2) m)
  have hcs:sC lv (k+2) m < cs.length:=by omega
  -- the Zn that comes next
  obtain ⟨x,hx⟩:∃x,cs[sC lv (k+2) m]? =some x:=⟨cs[sC lv (k+2) m],by simp [hcs]⟩
  have hin:x∈((lv (k+1)).take (2 * pC lv (k+2) m)).filter isC:=by
   rw [zju h]
   refine List.mem_of_getElem? (i:=sC lv (k+2) m) ?_
   rw [List.getElem?_take,if_pos hlt];exact hx
  obtain ⟨hin1,hxc⟩:=List.mem_filter.1 hin
  obtain ⟨t,ht⟩:=List.getElem?_of_mem hin1
  rw [List.getElem?_take] at ht
  split at ht
  ·rename_i htl
   have h2:pC lv (k+2) m≤(pairs (lv (k+1))).length:=zkW h (k+1) m
   have hpk:((lv (k+2)).take m).filter (fun x=>!isC x)=(pairs (lv (k+1))).take (pC lv (k+2) m):=zkY h (k+1) m
   obtain ⟨y,hy,hyw⟩:=zcf ht (by omega) (pos h hp (k+1))
   have hym:y∈((lv (k+2)).take m).filter fun x=>!isC x:=by
    rw [hpk]
    refine List.mem_of_getElem? (i:=t / 2) ?_
    rw [List.getElem?_take,if_pos (by omega)];exact hy
   have hy1:=(List.mem_filter.1 hym).1
   -- the Zn stands behind
   have hxd:x∈(lv (k+2)).drop m:=by
    have e:cs=((lv (k+2)).take m).filter isC++((lv (k+2)).drop m).filter isC:=by
     rw [←List.filter_append,List.take_append_drop,(h.next (k+1)).cs]
    have hl:(((lv (k+2)).take m).filter isC).length=sC lv (k+2) m:=rfl
    rw [e,List.getElem?_append_right (by omega),hl,Nat.sub_self] at hx
    exact (List.mem_filter.1 (List.mem_of_getElem? hx)).1
   have hup:=(h.next (k+1)).up
   rw [←List.take_append_drop m (lv (k+1+1)),List.pairwise_append] at hup
   have:=hup.2.2 y hy1 x hxd
   omega
  ·cases ht
 ·exact hle
include h in
theorem zeK (hp:∀x∈cs,0 < x.w):∀k m,down (sel lv k m)
 |0,_=>trivial
 |1,_=>trivial
 |k+2,m=>⟨ziq h hp k m,zeK hp (k+1) _⟩
end
end Go.Pm
namespace Go.Pm
set_option linter.all false
def ln (S:List Nat) (r:Nat):Nat:=(S.filter fun s=>decide (r < s)).length
def sumTo (g:Nat→Nat):Nat→Nat
 |0=>0
 |n+1=>sumTo g n+g n
theorem sumTo_congr {g h:Nat→Nat}:∀{n:Nat},(∀i,i < n→g i=h i)→sumTo g n=sumTo h n
 |0,_=>rfl
 |n+1,hh=>by
  have h1:=sumTo_congr (n:=n) (fun i hi=>hh i (by omega))
  simp only [sumTo,h1,hh n (by omega)]
theorem zcq (g:Nat→Nat) (a:Nat):∀b,sumTo g (a+b)=sumTo g a+sumTo (fun i=>g (a+i)) b
 |0=>rfl
 |b+1=>by
  have h1:=zcq g a b
  rw [←Nat.add_assoc]
  simp only [sumTo,h1]
  omega
theorem YJ (c:Nat):∀n,sumTo (fun _=>c) n=n * c
 |0=>by simp [sumTo]
 |n+1=>by simp only [sumTo,YJ c n,Nat.add_mul,Nat.one_mul]
theorem sumTo_le (g:Nat→Nat):∀{n i:Nat},i < n→g i≤sumTo g n
 |0,i,h=>by omega
 |n+1,i,h=>by
  simp only [sumTo]
  rcases Nat.lt_or_ge i n with h'|h'
  ·have:=sumTo_le g h';omega
  ·rw [show i=n from by omega];omega
theorem zis (g:Nat→Nat) {n i j:Nat} (hi:i < n) (hj:j < n) (hne:i≠j):g i+g j≤sumTo g n:=by
 induction n with
 |zero=>omega
 |succ n ih=>
  simp only [sumTo]
  by_cases h1:i=n
  ·have:=sumTo_le g (show j < n by omega);subst h1;omega
  ·by_cases h2:j=n
   ·have:=sumTo_le g (show i < n by omega);subst h2;omega
   ·have:=ih (by omega) (by omega);omega
theorem zhZ {s:Nat} {R:List Nat} (h:down (s::R)):down R:=by
 cases R with
 |nil=>trivial
 |cons b r=>exact h.2
theorem zgH:∀{R:List Nat} {s:Nat},down (s::R)→∀x∈R,x≤s
 |[],s,_,x,hx=>by simp at hx
 |b::r,s,h,x,hx=>by
  rcases List.mem_cons.1 hx with rfl|hx
  ·exact h.1
  ·exact Nat.le_trans (zgH h.2 x hx) h.1
theorem zgZ (s:Nat) (R:List Nat) (r:Nat):ln (s::R) r=(if r < s then 1 else 0)+ln R r:=by
 unfold ln
 by_cases h:r < s
 ·simp [h];omega
 ·simp [h]
theorem znu {R:List Nat} {r:Nat} (h:∀x∈R,x≤r):ln R r=0:=by
 unfold ln
 rw [List.filter_eq_nil_iff.2 (fun x hx=>by have:=h x hx;simp;omega)]
 rfl
theorem zkB (S:List Nat) (r:Nat):ln S r≤S.length:=List.length_filter_le _ _
theorem shares:∀(S:List Nat) (n:Nat),down S→(∀s∈S,s≤n)→sumTo (fun r=>2 ^ (S.length - ln S r)) n+kr S=n * 2 ^ S.length
 |[],n,_,_=>by simp [ln,kr,YJ]
 |s::R,n,hd,hn=>by
  have hs:s≤n:=hn s (by simp)
  have hR:=zgH hd
  have ih:=shares R s (zhZ hd) hR
  obtain ⟨j,rfl⟩:=Nat.le.dest hs
  rw [zcq]
  have e1:sumTo (fun r=>2 ^ ((s::R).length - ln (s::R) r)) s=sumTo (fun r=>2 ^ (R.length - ln R r)) s:=by
   refine sumTo_congr fun r hr=>?_
   rw [zgZ,if_pos hr,List.length_cons]
   congr 1
   omega
  have e2:sumTo (fun i=>2 ^ ((s::R).length - ln (s::R) (s+i))) j=j * 2 ^ (R.length+1):=by
   rw [←YJ]
   refine sumTo_congr fun i hi=>?_
   rw [zgZ,if_neg (by omega),znu (fun x hx=>by have:=hR x hx;omega),List.length_cons]
   rfl
  rw [e1,e2,kr,List.length_cons,Nat.pow_succ]
  generalize sumTo (fun r=>2 ^ (R.length - ln R r)) s=x at *
  generalize 2 ^ R.length=y at *
  generalize kr R=z at *
  rw [Nat.add_mul,←Nat.mul_assoc,←Nat.mul_assoc]
  omega
section
variable {cs : List It} {lv : Nat → List It} (h : Lv cs lv)
include h in
theorem Y2 (k:Nat):(lv (k+1)).length=cs.length+(lv k).length / 2:=by
 have:=(Zr isC (lv (k+1))).length_eq
 rw [(h.next k).cs,(h.next k).ps] at this
 simpa [wM] using this
include h in
theorem zg2 (hn:0 < cs.length):∀k,∃c,(lv (k+1)).length+c=2 * cs.length∧1≤c∧(c - 1) * 2 ^ k < cs.length
 |0=>⟨cs.length,by rw [Y2 h,h.zero];simp;omega,hn,by omega⟩
 |k+1=>by
  obtain ⟨c,h1,h2,h3⟩:=zg2 hn k
  refine ⟨(c+1) / 2,by rw [Y2 h (k+1)];omega,by omega,?_⟩
  have h4:2 * ((c+1) / 2 - 1)≤c - 1:=by omega
  have h5:=Nat.mul_le_mul_right (2 ^ k) h4
  rw [Nat.pow_succ,Nat.mul_comm (2 ^ k),←Nat.mul_assoc,Nat.mul_comm _ 2]
  omega
include h in
theorem zg1 (k:Nat) (hn:0 < cs.length) (hk:cs.length≤2 ^ (k+1)):2 * cs.length - 2≤(lv (k+1)).length:=by
 obtain ⟨c,h1,h2,h3⟩:=zg2 h hn k
 rw [Nat.pow_succ] at hk
 have h4:c - 1 < 2:=by
  rcases Nat.lt_or_ge (c - 1) 2 with h'|h'
  ·exact h'
  ·have:=Nat.mul_le_mul_right (2 ^ k) h'
   omega
 omega
theorem zhu (hh:∀k m,sC lv (k+1) m≤cs.length):∀k m,∀s∈sel lv k m,s≤cs.length
 |0,m,s,hs=>by simp [sel] at hs
 |k+1,m,s,hs=>by
  simp only [sel,List.mem_cons] at hs
  rcases hs with rfl|hs
  ·exact hh k m
  ·exact zhu hh k _ s hs
theorem whole (h:Lv cs lv) (hp:∀x∈cs,0 < x.w) (k:Nat) (hn:1≤cs.length) (hk:cs.length≤2 ^ (k+1)) :
 sumTo (fun r=>2 ^ (k+1 - ln (sel lv (k+1) (2 * cs.length - 2)) r)) cs.length=2 ^ (k+1):=by
 have h1:=shares (sel lv (k+1) (2 * cs.length - 2)) cs.length (zeK h hp _ _) (zhu (zlt h) _ _)
 rw [vB,zkq h k _ (zg1 h k hn hk)] at h1
 have e:(2 * cs.length - 2) * 2 ^ k+2 ^ (k+1)=cs.length * 2 ^ (k+1):=by
  rw [Nat.pow_succ,show 2 ^ k * 2=2 * 2 ^ k from Nat.mul_comm _ _,←Nat.mul_assoc]
  obtain ⟨j,hj⟩:∃j,cs.length=j+1:=⟨cs.length - 1,by omega⟩
  rw [hj,show 2 * (j+1) - 2=2 * j from by omega,show (j+1) * 2=2 * j+2 from by omega,Nat.add_mul]
 omega
theorem taken (h:Lv cs lv) (hp:∀x∈cs,0 < x.w) (k:Nat) (hn:2≤cs.length) (hk:cs.length≤2 ^ (k+1)) (r:Nat) (hr:r < cs.length):1≤ln (sel lv (k+1) (2 * cs.length - 2)) r:=by
 have h1:=whole h hp k (by omega) hk
 rcases Nat.eq_zero_or_pos (ln (sel lv (k+1) (2 * cs.length - 2)) r) with h0|h0
 ·exfalso
  obtain ⟨q,hq,hne⟩:∃q,q < cs.length∧r≠q:=by
   rcases Nat.eq_zero_or_pos r with h2|h2
   ·exact ⟨1,by omega,by omega⟩
   ·exact ⟨0,by omega,by omega⟩
  have:=zis (fun r=>2 ^ (k+1 - ln (sel lv (k+1) (2 * cs.length - 2)) r)) hr hq hne
  simp only [h0,Nat.sub_zero] at this
  have hpos:0 < 2 ^ (k+1 - ln (sel lv (k+1) (2 * cs.length - 2)) q):=Nat.pow_pos (by decide)
  omega
 ·exact h0
end
end Go.Pm
namespace Go.Hf
set_option linter.all false
def kS:List Nat→Nat
 |[]=>0
 |x::r=>(if 0 < x then 2 ^ (15 - x) else 0)+kS r
theorem zfz (a b:List Nat):kS (a++b)=kS a+kS b:=by
 induction a with
 |nil=>simp [kS]
 |cons x r ih=>simp only [List.cons_append,kS,ih];omega
theorem zgR (l:List Nat):kS l≤l.length * 16384:=by
 induction l with
 |nil=>simp [kS]
 |cons x r ih=>
  have:(if 0 < x then 2 ^ (15 - x) else 0)≤16384:=by
   split
   ·exact Nat.le_trans (Nat.pow_le_pow_right (by decide) (show 15 - x≤14 by omega)) (by decide)
   ·omega
  simp only [kS,List.length_cons]
  omega
def cn (l:List Nat) (n:Nat):Nat:=(l.filter fun x=>x == n).length
theorem Yr (a b:List Nat) (n:Nat):cn (a++b) n=cn a n+cn b n:=by simp [cn]
theorem uQ (x:Nat) (r:List Nat) (n:Nat):cn (x::r) n=(if x=n then 1 else 0)+cn r n:=by
 unfold cn
 by_cases h:x=n
 ·simp [h];omega
 ·simp [h]
def fs (l:List Nat):Nat→Nat
 |0=>0
 |n+1=>2 * (fs l n+if n=0 then 0 else cn l n)
theorem zpp (l:List Nat):fs l 1=0:=rfl
theorem zc4 (l:List Nat) {n:Nat} (h:0 < n):fs l (n+1)=2 * (fs l n+cn l n):=by
 rw [fs,if_neg (by omega)]
def ks (l:List Nat) (n:Nat):Nat:=kS (l.filter fun x=>decide (x≤n))
theorem X6 (l:List Nat) (n:Nat):ks l (n+1)=ks l n+cn l (n+1) * 2 ^ (15 - (n+1)):=by
 induction l with
 |nil=>simp [ks,kS,cn]
 |cons x r ih=>
  unfold ks at *
  rw [uQ]
  rcases Nat.lt_trichotomy x (n+1) with h|h|h
  ·have h1:x≤n+1:=by omega
   have h2:x≤n:=by omega
   have h3:x≠n+1:=by omega
   simp only [List.filter_cons,h1,h2,h3,decide_true,if_true,kS,if_false,ih,Nat.zero_add]
   omega
  ·subst h
   have h2:¬n+1≤n:=by omega
   simp only [List.filter_cons,Nat.le_refl,h2,decide_true,decide_false,if_true,Bool.false_eq_true,if_false,kS,ih,Nat.zero_lt_succ,Nat.add_mul,Nat.one_mul]
   omega
  ·have h1:¬x≤n+1:=by omega
   have h2:¬x≤n:=by omega
   have h3:x≠n+1:=by omega
   simp only [List.filter_cons,h1,h2,h3,decide_false,Bool.false_eq_true,if_false,ih,Nat.zero_add]
theorem zdb (l:List Nat):ks l 0=0:=by
 induction l with
 |nil=>rfl
 |cons x r ih=>
  unfold ks at *
  by_cases h:x≤0
  ·simp only [List.filter_cons,h,decide_true,if_true,kS,ih]
   rw [if_neg (by omega)]
  ·simp only [List.filter_cons,h,decide_false,Bool.false_eq_true,if_false,ih]
theorem zfA {l:List Nat} {n:Nat} (h:∀x∈l,x≤n):ks l n=kS l:=by
 unfold ks
 rw [List.filter_eq_self.2 (fun x hx=>by simpa using h x hx)]
theorem znn (l:List Nat) {a b:Nat} (h:a≤b):ks l a≤ks l b:=by
 induction b with
 |zero=>rw [Nat.le_zero.1 h];exact Nat.le_refl _
 |succ b ih=>
  rcases Nat.lt_or_ge a (b+1) with h'|h'
  ·rw [X6];have:=ih (by omega);omega
  ·rw [show a=b+1 from by omega];exact Nat.le_refl _
theorem zgV (l:List Nat) (n:Nat):ks l n≤kS l:=by
 have key:∀l:List Nat,kS (l.filter fun x=>decide (x≤n))≤kS l:=by
  intro l
  induction l with
  |nil=>exact Nat.le_refl _
  |cons x r ih=>
   by_cases h:x≤n
   ·simp only [List.filter_cons,h,decide_true,if_true,kS];omega
   ·simp only [List.filter_cons,h,decide_false,Bool.false_eq_true,if_false,kS];omega
 exact key l
theorem Qp (l:List Nat):∀n,1≤n→n≤15→(fs l n+cn l n) * 2 ^ (15 - n)=ks l n
 |0,h,_=>by omega
 |1,_,_=>by
  have h:ks l 1=ks l 0+cn l 1 * 2 ^ (15 - 1):=X6 l 0
  rw [zdb] at h
  rw [zpp,Nat.zero_add]
  omega
 |n+2,_,h2=>by
  have ih:=Qp l (n+1) (by omega) (by omega)
  rw [zc4 l (by omega),X6,←ih,Nat.add_mul]
  congr 1
  rw [show 15 - (n+1)=15 - (n+1+1)+1 from by omega,Nat.pow_succ]
  generalize fs l (n+1)+cn l (n+1)=x
  generalize 2 ^ (15 - (n+1+1))=y
  rw [Nat.mul_comm 2 x,Nat.mul_assoc,Nat.mul_comm 2 y]
theorem za0 {l:List Nat} (hk:kS l≤32768) {n:Nat} (h1:1≤n) (h2:n≤15):fs l n+cn l n≤2 ^ n:=by
 have h:=Qp l n h1 h2
 have h3:=zgV l n
 have h4:(fs l n+cn l n) * 2 ^ (15 - n)≤2 ^ n * 2 ^ (15 - n):=by
  rw [h,←Nat.pow_add,show n+(15 - n)=15 from by omega]
  exact Nat.le_trans h3 hk
 exact Nat.le_of_mul_le_mul_right h4 (Nat.pow_pos (by decide))
def cd (l:List Nat) (i:Nat):Nat:=if l.getD i 0=0 then 0 else fs l (l.getD i 0)+cn (l.take i) (l.getD i 0)
def cds (l:List Nat):List Nat:=(List.range l.length).map (cd l)
theorem zaN {l:List Nat} {i n:Nat} (hi:l[i]? =some n):cn (l.take i) n < cn l n:=by
 have hlt:i < l.length:=by
  rcases Nat.lt_or_ge i l.length with h|h
  ·exact h
  ·simp [List.getElem?_eq_none h] at hi
 have e:l=l.take i++(n::l.drop (i+1)):=by
  rw [List.getElem?_eq_getElem hlt] at hi
  rw [←Option.some.inj hi,←List.drop_eq_getElem_cons hlt,List.take_append_drop]
 have:=congrArg (fun x=>cn x n) e
 simp only [Yr,uQ,if_true] at this
 omega
theorem zd3 {l:List Nat} {i n:Nat} (hi:l[i]? =some n) (h0:n≠0):fs l n≤cd l i∧cd l i < fs l n+cn l n:=by
 have hg:l.getD i 0=n:=by simp [List.getD,hi]
 have:=zaN hi
 unfold cd
 rw [hg,if_neg h0]
 omega
theorem XO (l:List Nat) (n:Nat) {i j:Nat} (h:i≤j):cn (l.take i) n≤cn (l.take j) n:=by
 have:l.take j=l.take i++(l.drop i).take (j - i):=by
  rw [List.take_drop,show i+(j - i)=j from by omega]
  have h1:l.take i=(l.take j).take i:=by rw [List.take_take,Nat.min_eq_left h]
  rw [h1,List.take_append_drop]
 rw [this,Yr]
 omega
theorem zpe {l:List Nat} {i j n:Nat} (hi:l[i]? =some n) (hj:l[j]? =some n) (h0:n≠0) (he:cd l i=cd l j):i=j:=by
 have key:∀{i j:Nat},l[i]? =some n→l[j]? =some n→i < j→cd l i < cd l j:=by
  intro i j hi hj hlt
  have hg:l.getD i 0=n:=by simp [List.getD,hi]
  have hg2:l.getD j 0=n:=by simp [List.getD,hj]
  have h1:cn (l.take (i+1)) n=cn (l.take i) n+1:=by
   rw [List.take_add_one,hi,Yr]
   simp [cn]
  have h2:=XO l n (show i+1≤j from hlt)
  unfold cd
  rw [hg,hg2,if_neg h0,if_neg h0]
  omega
 rcases Nat.lt_trichotomy i j with h|h|h
 ·have:=key hi hj h;omega
 ·exact h
 ·have:=key hj hi h;omega
theorem zgz {l:List Nat} {n v:Nat} (h0:n≠0) (h1:fs l n≤v) (h2:v < fs l n+cn l n):∃i,l[i]? =some n∧cd l i=v:=by
 have key:∀(l:List Nat) (k:Nat),k < cn l n→∃i,l[i]? =some n∧cn (l.take i) n=k:=by
  intro l
  induction l with
  |nil=>intro k hk;simp [cn] at hk
  |cons x r ih=>
   intro k hk
   rw [uQ] at hk
   by_cases hx:x=n
   ·rw [if_pos hx] at hk
    rcases Nat.eq_zero_or_pos k with h|h
    ·exact ⟨0,by simp [hx],by simp [cn,h]⟩
    ·obtain ⟨i,hi,hc⟩:=ih (k - 1) (by omega)
     exact ⟨i+1,by simpa using hi,by rw [List.take_succ_cons,uQ,if_pos hx,hc];omega⟩
   ·rw [if_neg hx,Nat.zero_add] at hk
    obtain ⟨i,hi,hc⟩:=ih k hk
    exact ⟨i+1,by simpa using hi,by rw [List.take_succ_cons,uQ,if_neg hx,hc];omega⟩
 obtain ⟨i,hi,hc⟩:=key l (v - fs l n) (by omega)
 have hg:l.getD i 0=n:=by simp [List.getD,hi]
 refine ⟨i,hi,?_⟩
 unfold cd
 rw [hg,if_neg h0,hc]
 omega
theorem zed (l:List Nat) {n:Nat} (h0:0 < n):∀k,(fs l n+cn l n) * 2 ^ (k+1)≤fs l (n+k+1)
 |0=>by rw [zc4 l (by omega)];simp;omega
 |k+1=>by
  have ih:=zed l h0 k
  rw [show n+(k+1)+1=(n+k+1)+1 from by omega,zc4 l (by omega),Nat.pow_succ,←Nat.mul_assoc]
  omega
theorem zbY {l:List Nat} {i n m:Nat} (hi:l[i]? =some m) (h0:0 < n) (hm:n < m):fs l n+cn l n≤cd l i / 2 ^ (m - n):=by
 obtain ⟨k,rfl⟩:∃k,m=n+k+1:=⟨m - n - 1,by omega⟩
 have h1:=zed l h0 k
 have h2:=(zd3 hi (by omega)).1
 rw [Nat.le_div_iff_mul_le (Nat.pow_pos (by decide)),show n+k+1 - n=k+1 from by omega]
 omega
def ext (l:List Nat) (n v:Nat):Prop:=∃(i m:Nat),l[i]? =some m∧n < m∧cd l i / 2 ^ (m - n)=v
theorem ext_iff {l:List Nat} (hk:kS l≤32768) (hl:∀x∈l,x≤15) {n v:Nat} (hn:n≤15):ext l n v↔((if n=0 then 0 else fs l n+cn l n)≤v∧v * 2 ^ (15 - n) < kS l):=by
 have hend:∀m,1≤m→m≤15→(fs l m+cn l m) * 2 ^ (15 - m)≤kS l:=fun m h1 h2=>by rw [Qp l m h1 h2];exact zgV l m
 constructor
 ·rintro ⟨i,m,hi,hm,rfl⟩
  have hm15:=hl m (List.mem_of_getElem? hi)
  obtain ⟨c1,c2⟩:=zd3 hi (by omega)
  refine ⟨?_,?_⟩
  ·split
   ·exact Nat.zero_le _
   ·exact zbY hi (by omega) hm
  ·have h1:=hend m (by omega) hm15
   have h2:cd l i / 2 ^ (m - n) * 2 ^ (15 - n)≤cd l i * 2 ^ (15 - m):=by
    rw [show 15 - n=(m - n)+(15 - m) from by omega,Nat.pow_add,←Nat.mul_assoc]
    exact Nat.mul_le_mul_right _ (Nat.div_mul_le_self _ _)
   have h3:(cd l i+1) * 2 ^ (15 - m)≤(fs l m+cn l m) * 2 ^ (15 - m):=Nat.mul_le_mul_right _ c2
   have h4:0 < 2 ^ (15 - m):=Nat.pow_pos (by decide)
   rw [Nat.add_mul] at h3
   omega
 ·rintro ⟨h1,h2⟩
  -- the first length whose codes reach beyond v
  have hex:∃m,n < m∧m≤15∧v * 2 ^ (15 - n) < ks l m:=by
   refine ⟨15,?_,Nat.le_refl _,by rw [zfA hl];exact h2⟩
   rcases Nat.lt_or_ge n 15 with h|h
   ·exact h
   ·exfalso
    have hn15:n=15:=by omega
    subst hn15
    rw [if_neg (by omega)] at h1
    have h3:=Qp l 15 (by omega) (by omega)
    rw [zfA hl] at h3
    simp at h3 h2
    omega
  have hmin:∃m,n < m∧m≤15∧v * 2 ^ (15 - n) < ks l m∧∀q,n < q→q < m→ks l q≤v * 2 ^ (15 - n):=by
   obtain ⟨m,a1,a2,a3⟩:=hex
   have key:∀m,n < m→m≤15→v * 2 ^ (15 - n) < ks l m→∃m,n < m∧m≤15∧v * 2 ^ (15 - n) < ks l m∧∀q,n < q→q < m→ks l q≤v * 2 ^ (15 - n):=by
    intro m
    induction m with
    |zero=>intro h;omega
    |succ m ih=>
     intro b1 b2 b3
     by_cases hc:n < m∧v * 2 ^ (15 - n) < ks l m
     ·exact ih hc.1 (by omega) hc.2
     ·refine ⟨m+1,b1,b2,b3,fun q c1 c2=>?_⟩
      have:ks l q≤ks l m:=znn l (by omega)
      have h5:¬v * 2 ^ (15 - n) < ks l m:=fun h=>hc ⟨by omega,h⟩
      omega
   exact key m a1 a2 a3
  obtain ⟨m,m1,m2,m3,m4⟩:=hmin
  have hlow:ks l (m - 1)≤v * 2 ^ (15 - n):=by
   rcases Nat.lt_or_ge n (m - 1) with h|h
   ·exact m4 (m - 1) h (by omega)
   ·have hmn:m - 1=n:=by omega
    rw [hmn]
    rcases Nat.eq_zero_or_pos n with h0|h0
    ·subst h0;rw [zdb];exact Nat.zero_le _
    ·rw [if_neg (by omega)] at h1
     rw [←Qp l n h0 hn]
     exact Nat.mul_le_mul_right _ h1
  have hstep:ks l m=ks l (m - 1)+cn l m * 2 ^ (15 - m):=by
   obtain ⟨q,rfl⟩:∃q,m=q+1:=⟨m - 1,by omega⟩
   exact X6 l q
  have hfe:=Qp l m (by omega) m2
  -- the code of length m that begins with v and goes on with zeros
  have hp:v * 2 ^ (15 - n)=v * 2 ^ (m - n) * 2 ^ (15 - m):=by
   rw [Nat.mul_assoc,←Nat.pow_add,show m - n+(15 - m)=15 - n from by omega]
  have hpos:0 < 2 ^ (15 - m):=Nat.pow_pos (by decide)
  have g1:fs l m≤v * 2 ^ (m - n):=by
   have:fs l m * 2 ^ (15 - m)≤v * 2 ^ (m - n) * 2 ^ (15 - m):=by
    rw [←hp]
    rw [Nat.add_mul] at hfe
    omega
   exact Nat.le_of_mul_le_mul_right this hpos
  have g2:v * 2 ^ (m - n) < fs l m+cn l m:=by
   have:v * 2 ^ (m - n) * 2 ^ (15 - m) < (fs l m+cn l m) * 2 ^ (15 - m):=by rw [←hp,hfe];exact m3
   exact Nat.lt_of_mul_lt_mul_right this
  obtain ⟨i,hi,hc⟩:=zgz (show m≠0 by omega) g1 g2
  refine ⟨i,m,hi,m1,?_⟩
  rw [hc,Nat.mul_div_cancel _ (Nat.pow_pos (by decide))]
end Go.Hf
namespace Go.Vx
open Go
set_option linter.all false
variable [W0]
section
variable {P : Program} {n : Nat} {M : List (Nat × Value)} {L : List Chunk} {d : Nat} {ty : TypeId} {ps : String} {af : Array Edge} {g : Option (Nat × Bool)} {x y : Operand}
theorem uq {t u:TypeId} {k':IntKind} {i j:Int} (a s:Nat) (hx:ev M x=some (.int .i64 i)) (hy:ev M y=some (.int k' j)) (hi:i=(a:Int)) (hj:j=(s:Int)) (hs:s≤64) (hr:a * 2 ^ s≤9223372036854775807) :
 EV P n ⟨some d,.binOp .shl t x y u,ty,ps,af,g⟩ M L d (.int .i64 ((a * 2 ^ s:Nat):Int)):=by
 subst hi hj
 refine zfa hx hy (by omega) ?_
 rw [Int.toNat_natCast,Nat.min_eq_left (by simpa [IntKind.bits] using hs)]
 have c:(a:Int) * 2 ^ s=((a * 2 ^ s:Nat):Int):=by simp
 rw [c]
 exact wrap_i64 (by omega) (by omega)
end
omit [W0] in
def wnv (l:List Nat):List Value:=l.map fun (n:Nat)=>Value.int .u32 (n:Int)
theorem wH {l:List Nat}:(wnv l).length=l.length:=by simp [wnv]
theorem zbC {l:List Nat}:ones (wnv l)=true:=by simp [ones,wnv,Value.oneCell']
theorem zaA {l:List Nat} {i n:Nat} (h:l[i]? =some n):(wnv l)[i]? =some (.int .u32 (n:Int)):=by simp [wnv,h]
theorem QG:∀n,zeros [.int .u32 0] n=wnv (List.replicate n 0)
 |0=>rfl
 |n+1=>by simp only [zeros,List.replicate_succ];rw [QG n];rfl
theorem wT {l:List Int} {i:Nat} (h:i < l.length):(yg l)[i]? =some (.int .i64 (l.getD i 0)):=by simp [yg,List.getD,h]
end Go.Vx
namespace Go.Hf
def okL (ls:List Int):Bool:=ls.all fun x=>decide (0≤x)&&decide (x≤15)
def nl (ls:List Int):List Nat:=ls.map Int.toNat
def wgt (ls:List Int):Int:=if okL ls then (kS (nl ls):Int) else -1
theorem zQ (ls:List Int):(nl ls).length=ls.length:=by simp [nl]
theorem zeu {ls:List Int} {i:Nat} (hi:i < ls.length) (h:okL (ls.take i)=true) (h1:0≤ls.getD i 0) (h2:ls.getD i 0≤15):okL (ls.take (i+1))=true:=by
 have hg:ls.getD i 0=ls[i]:=by simp [List.getD,hi]
 rw [hg] at h1 h2
 unfold okL at *
 rw [List.take_add_one,List.getElem?_eq_getElem hi,List.all_append,h]
 simp [h1,h2]
theorem zhd {ls:List Int} {i:Nat} (hi:i < ls.length) (h:ls.getD i 0 < 0∨15 < ls.getD i 0):okL ls=false:=by
 have hg:ls.getD i 0=ls[i]:=by simp [List.getD,hi]
 rw [hg] at h
 unfold okL
 rw [List.all_eq_false]
 refine ⟨ls[i],List.getElem_mem hi,?_⟩
 simp only [Bool.and_eq_true,decide_eq_true_eq]
 omega
theorem zhe {ls:List Int} (h:okL ls=true) {x:Int} (hx:x∈ls):0≤x∧x≤15:=by
 have:=List.all_eq_true.1 h x hx
 simpa using this
theorem Xw {ls:List Int} (h:okL ls=true) {x:Nat} (hx:x∈nl ls):x≤15:=by
 obtain ⟨y,hy,rfl⟩:=List.mem_map.1 hx
 have:=zhe h hy
 omega
theorem zdh {ls:List Int} (h:okL ls=true) (i:Nat):0≤ls.getD i 0∧ls.getD i 0≤15∧((nl ls).getD i 0:Int)=ls.getD i 0:=by
 rcases Nat.lt_or_ge i ls.length with hi|hi
 ·have hg:ls.getD i 0=ls[i]:=by simp [List.getD,hi]
  have hg2:(nl ls).getD i 0=ls[i].toNat:=by simp [nl,List.getD,hi]
  have:=zhe h (List.getElem_mem hi)
  rw [hg,hg2]
  omega
 ·have hg:ls.getD i 0=0:=by simp [List.getD,List.getElem?_eq_none hi]
  have hg2:(nl ls).getD i 0=0:=by simp [nl,List.getD,List.getElem?_eq_none hi]
  rw [hg,hg2]
  omega
theorem znj {ls:List Int} {i:Nat} (hi:i < ls.length):kS (nl (ls.take (i+1)))=kS (nl (ls.take i))+(if 0 < (ls.getD i 0).toNat then 2 ^ (15 - (ls.getD i 0).toNat) else 0):=by
 have hg:ls.getD i 0=ls[i]:=by simp [List.getD,hi]
 rw [List.take_add_one,List.getElem?_eq_getElem hi,hg]
 simp only [nl,List.map_append,zfz,Option.toList,List.map_cons,List.map_nil,kS]
 omega
end Go.Hf
namespace Go.Proofs.YtemdlifojcgplaaGreatDoor
open Go Go.Vx Go.Hf
variable [W0]
set_option maxRecDepth 4000
set_option linter.all false
theorem zbB (a:Option Addr) (c:Nat) (ls:List Int) (L:List Chunk) (h:Sl L 1 (.slice a ls.length c) ls.length (yg ls)) (hl:ls.length≤17592186044416) :
 GvP Tryz.prog 189 [.slice a ls.length c].toArray L (.int .i64 (wgt ls)):=by
 refine Gv.of_body Tryz.func189 rfl rfl ?_
 refine kW ?_
 refine zn (X:=Nat) (fun i=>[(0,.slice a ls.length c),(3,.int .i64 ((kS (nl (ls.take i)):Nat):Int)),(4,.int .i64 (i:Int))]) (fun _=>L) (fun i=>i≤ls.length∧okL (ls.take i)=true) (fun i=>ls.length - i) 0 ⟨Nat.zero_le _,rfl⟩ iS (fun w h=>h) ?_
 intro i ⟨hi,hok⟩
 (repeat' first|refine kW ?_|refine kU fun bk=>?_|refine kV fun hc=>?_|refine kZ (fun hc=>?_) fun hc=>?_|fail)
 ·have hlt:i < ls.length:=by omega
  obtain ⟨b,off,cap,cc,T,fr,hve,hfn,hcell⟩:=yV h (wT hlt)
  injection hve with e1 e2 e3
  subst e1 e3
  clear e2
  have hk:=zgR (nl (ls.take i))
  have hkl:(nl (ls.take i)).length=i:=by simp [nl];omega
  rw [hkl] at hk
  have hst:=znj hlt
  have hbad:=zhd hlt
  have hgood:=zeu hlt hok
  obtain ⟨x,hx⟩:∃x,x=ls.getD i 0:=⟨_,rfl⟩
  rw [←hx] at hcell hst hbad hgood
  refine ze (zi (j:=i) rfl rfl rfl hlt) rfl ?_
  refine kW ?_
  refine ze (zq rfl hfn hcell) rfl ?_
  (repeat' first|refine kW ?_|refine kU fun bk=>?_|refine kV fun hc=>?_|refine kZ (fun hc=>?_) fun hc=>?_|fail)
  ·refine kR ?_
   exact ⟨L,iC,by unfold wgt;rw [hbad (by omega)];rfl,rfl⟩
  ·refine ze (zi (j:=i) rfl rfl rfl hlt) rfl ?_
   refine kW ?_
   refine ze (zq rfl hfn hcell) rfl ?_
   (repeat' first|refine kW ?_|refine kU fun bk=>?_|refine kV fun hc=>?_|refine kZ (fun hc=>?_) fun hc=>?_|fail)
   ·refine kR ?_
    exact ⟨L,iC,by unfold wgt;rw [hbad (by omega)];rfl,rfl⟩
   ·refine ze (zi (j:=i) rfl rfl rfl hlt) rfl ?_
    refine kW ?_
    refine ze (zq rfl hfn hcell) rfl ?_
    (repeat' first|refine kW ?_|refine kU fun bk=>?_|refine kV fun hc=>?_|refine kZ (fun hc=>?_) fun hc=>?_|fail)
    ·obtain ⟨m,rfl⟩:∃m:Nat,x=(m:Int):=⟨x.toNat,by omega⟩
     rw [Int.toNat_natCast,if_pos (by omega)] at hst
     have hp:2 ^ (15 - m)≤2 ^ 15:=Nat.pow_le_pow_right (by decide) (by omega)
     refine ze (zi (j:=i) rfl rfl rfl hlt) rfl ?_
     refine kW ?_
     refine ze (zq rfl hfn hcell) rfl ?_
     refine kW ?_
     refine ze (uq 1 (15 - m) rfl rfl rfl (by omega) (by omega) (by omega)) rfl ?_
     rw [Nat.one_mul]
     refine kW ?_
     rw [show ((kS (nl (ls.take i)):Nat):Int)+((2 ^ (15 - m):Nat):Int)=((kS (nl (ls.take (i+1))):Nat):Int) from by rw [hst];omega]
     skip
     refine zf (X:=Nat) (μ:=fun i=>ls.length - i) (x:=i) (i+1) (by omega) ⟨by omega,hgood (by omega) (by omega)⟩ iS (fun w h=>h)
    ·have hx0:x=0:=by omega
     have hst2:kS (nl (ls.take (i+1)))=kS (nl (ls.take i)):=by rw [hst,hx0];simp
     rw [←hst2]
     refine zf (X:=Nat) (μ:=fun i=>ls.length - i) (x:=i) (i+1) (by omega) ⟨by omega,hgood (by omega) (by omega)⟩ iS (fun w h=>h)
 ·have hil:i=ls.length:=by omega
  rw [hil,List.take_length] at hok
  refine kR ?_
  refine ⟨L,iC,?_,rfl⟩
  unfold wgt
  rw [hok,hil,List.take_length]
  rfl
theorem Xq (a:Option Addr) (c:Nat) (ls:List Int) (L:List Chunk) (h:Sl L 1 (.slice a ls.length c) ls.length (yg ls)) (hl:ls.length≤17592186044416) :
 GvP Tryz.prog 140 [.slice a ls.length c].toArray L (.bool (wgt ls == 32768)):=by
 refine Gv.of_body Tryz.func140 rfl rfl ?_
 refine kW ?_
 refine cP rfl rfl (zbB a c ls L h hl) ?_
 refine kW ?_
 exact kE
omit [W0] in
def QL (cs ls:List Nat):Nat→Nat:=Go.Pm.sumTo fun i=>cs.getD i 0 * ls.getD i 0
theorem zjw {cs ls:List Nat} (h1:∀i,cs.getD i 0≤2147483648) (h2:∀i,ls.getD i 0≤1048576) (n:Nat):QL cs ls n≤n * 2251799813685248:=by
 induction n with
 |zero=>simp [QL,Go.Pm.sumTo]
 |succ n ih=>
  have:=Nat.mul_le_mul (h1 n) (h2 n)
  simp only [QL,Go.Pm.sumTo] at *
  omega
omit [W0] in
def icn (l:List Nat):List Int:=l.map fun (n:Nat)=>(n:Int)
theorem zL (l:List Nat):(icn l).length=l.length:=by simp [icn]
theorem zej (l:List Nat) (i:Nat):(icn l).getD i 0=((l.getD i 0:Nat):Int):=by
 rcases Nat.lt_or_ge i l.length with hi|hi
 ·simp [icn,List.getD,hi]
 ·simp [icn,List.getD,List.getElem?_eq_none hi]
end Go.Proofs.YtemdlifojcgplaaGreatDoor
namespace Go.Hf
set_option linter.all false
def cdE (ls:List Int):Nat:=if 400 < ls.length∨okL ls=false then 1 else if 32768 < kS (nl ls) then 3 else 0
def cdL (ls:List Int):List Nat:=if cdE ls=0 then cds (nl ls) else []
theorem zaj {ls:List Int} (h:400 < ls.length∨okL ls=false):cdE ls=1∧cdL ls=[]:=by
 have e:cdE ls=1:=if_pos h
 exact ⟨e,by unfold cdL;rw [e];rfl⟩
theorem zbX {ls:List Int} (h1:ls.length≤400) (h2:okL ls=true) (h3:32768 < kS (nl ls)):cdE ls=3∧cdL ls=[]:=by
 have e:cdE ls=3:=by unfold cdE;rw [if_neg (by rw [h2];simp;omega),if_pos h3]
 exact ⟨e,by unfold cdL;rw [e];rfl⟩
theorem Yq {ls:List Int} (h1:ls.length≤400) (h2:okL ls=true) (h3:kS (nl ls)≤32768):cdE ls=0∧cdL ls=cds (nl ls):=by
 have e:cdE ls=0:=by unfold cdE;rw [if_neg (by rw [h2];simp;omega),if_neg (by omega)]
 exact ⟨e,by unfold cdL;rw [e];rfl⟩
theorem uP {ls:List Int} (h:cdE ls=0):ls.length≤400∧okL ls=true∧kS (nl ls)≤32768:=by
 unfold cdE at h
 split at h
 ·omega
 ·rename_i h1
  split at h
  ·omega
  ·refine ⟨by omega,?_,by omega⟩
   cases ho:okL ls with
   |true=>rfl
   |false=>exact absurd (.inr ho) h1
def nx (l:List Nat) (n:Nat):Nat:=fs l (n - 1)+if n - 1=0 then 0 else cn l (n - 1)
theorem zpM (l:List Nat) {n:Nat} (h:1≤n):nx l n * 2 ^ 1=fs l n:=by
 obtain ⟨m,rfl⟩:∃m,n=m+1:=⟨n - 1,by omega⟩
 simp only [nx,Nat.add_sub_cancel,fs]
 omega
theorem zhb (l:List Nat) {n:Nat} (h:1≤n):nx l (n+1)=fs l n+cn l n:=by
 unfold nx
 rw [Nat.add_sub_cancel,if_neg (by omega)]
def outs (l:List Nat) (n j:Nat):List Nat:=(List.range l.length).map fun i=>if (0 < l.getD i 0∧l.getD i 0 < n)∨(l.getD i 0=n∧i < j) then cd l i else 0
theorem wm (l:List Nat) (n j:Nat):(outs l n j).length=l.length:=by simp [outs]
theorem YA {l:List Nat} {n j i:Nat} (hi:i < l.length):(outs l n j)[i]? =some (if (0 < l.getD i 0∧l.getD i 0 < n)∨(l.getD i 0=n∧i < j) then cd l i else 0):=by
 unfold outs
 rw [List.getElem?_map,List.getElem?_range hi]
 rfl
theorem zbh {l:List Nat} {A:List Nat} {n j:Nat} (hl:A.length=l.length) (h:∀i,i < l.length→A[i]? =some (if (0 < l.getD i 0∧l.getD i 0 < n)∨(l.getD i 0=n∧i < j) then cd l i else 0)):A=outs l n j:=by
 apply List.ext_getElem?
 intro i
 rcases Nat.lt_or_ge i l.length with hi|hi
 ·rw [h i hi,YA hi]
 ·rw [List.getElem?_eq_none (by omega),List.getElem?_eq_none (by rw [wm];exact hi)]
theorem zkT {l:List Nat} {n j:Nat} (hj:j < l.length) (he:l.getD j 0=n):(outs l n j).set j (cd l j)=outs l n (j+1):=by
 refine zbh (by rw [List.length_set,wm]) fun i hi=>?_
 by_cases h:i=j
 ·subst h
  rw [List.getElem?_set_self (by rw [wm];exact hi),if_pos (.inr ⟨he,by omega⟩)]
 ·rw [List.getElem?_set_ne (by omega),YA hi]
  congr 1
  have e:(i < j)=(i < j+1):=by apply propext;omega
  simp only [e]
theorem zie {l:List Nat} {n j:Nat} (he:l.getD j 0≠n):outs l n j=outs l n (j+1):=by
 refine zbh (wm l n j) fun i hi=>?_
 rw [YA hi]
 congr 1
 by_cases h:i=j
 ·subst h
  simp only [he,false_and,or_false]
 ·have e:(i < j)=(i < j+1):=by apply propext;omega
  simp only [e]
theorem zid {l:List Nat} {n:Nat} (hn:1≤n):outs l n l.length=outs l (n+1) 0:=by
 refine zbh (wm l n _) fun i hi=>?_
 rw [YA hi]
 congr 1
 have e:((0 < l.getD i 0∧l.getD i 0 < n)∨(l.getD i 0=n∧i < l.length))=((0 < l.getD i 0∧l.getD i 0 < n+1)∨(l.getD i 0=n+1∧i < 0)):=by apply propext;omega
 simp only [e]
theorem zfQ (l:List Nat):outs l 1 0=List.replicate l.length 0:=by
 apply List.ext_getElem?
 intro i
 rcases Nat.lt_or_ge i l.length with hi|hi
 ·rw [YA hi,List.getElem?_replicate,if_pos hi,if_neg (by omega)]
 ·rw [List.getElem?_eq_none (by rw [wm];exact hi),List.getElem?_eq_none (by simp;exact hi)]
theorem zkS {l:List Nat} (h:∀x∈l,x≤15):outs l 16 0=cds l:=by
 unfold outs cds
 refine List.map_congr_left fun i hi=>?_
 have hil:=List.mem_range.1 hi
 have hx:l.getD i 0≤15:=by
  have:l.getD i 0=l[i]:=by simp [List.getD,hil]
  rw [this];exact h _ (List.getElem_mem hil)
 by_cases h0:l.getD i 0=0
 ·rw [if_neg (by omega)]
  unfold cd
  rw [if_pos h0]
 ·rw [if_pos (.inl ⟨by omega,by omega⟩)]
theorem vI {l:List Nat} {j:Nat} (hj:j < l.length) (n:Nat):cn (l.take (j+1)) n=cn (l.take j) n+if l.getD j 0=n then 1 else 0:=by
 have hg:l.getD j 0=l[j]:=by simp [List.getD,hj]
 rw [List.take_add_one,List.getElem?_eq_getElem hj,Yr,hg]
 congr 1
 simp only [Option.toList,uQ]
 simp [cn]
theorem ZY (l:List Nat) (j n:Nat):cn (l.take j) n≤cn l n:=by
 have:=XO l n (show j≤max j l.length by omega)
 rwa [List.take_of_length_le (Nat.le_max_right j l.length)] at this
end Go.Hf
namespace Go.Proofs.YtemdlifojcgplaaGreatDoor
open Go Go.Vx Go.Hf
variable [W0]
set_option maxRecDepth 4000
set_option linter.all false
theorem zfZ (a:Option Addr) (c:Nat) (ls:List Int) (L:List Chunk) (h:Sl L 1 (.slice a ls.length c) ls.length (yg ls)) (hl:ls.length≤17592186044416) :
 Gv Tryz.prog 227 [.slice a ls.length c].toArray L (fun r L'=>∃u C,r=.tuple #[u,.int .i64 (cdE ls:Int)]∧L'=C::L∧Ow 88 1 u (cdL ls).length (wnv (cdL ls)) C):=by
 refine Gv.of_body Tryz.func227 rfl rfl ?_
 have hno:∀(e:Nat),cdE ls=e→cdL ls=[]→∀M:List (Nat × Value),lk M 2=some (.slice none 0 0)→lk M 3=some (.int .i64 (e:Int))→
  WQ Tryz.f227.ntmps (bodyPost Tryz.prog Tryz.f227 (fun e w'=>∃v L',e=.returned v∧(∃u C,v=.tuple #[u,.int .i64 (cdE ls:Int)]∧L'=C::L∧Ow 88 1 u (cdL ls).length (wnv (cdL ls)) C)∧Holds w' L') .ret) M L:=by
  intro e he hc M h2 h3
  refine um (rs:=[.tmp 2,.tmp 3]) (vs:=[.slice none 0 0,.int .i64 (e:Int)]) rfl (by simp [Yj,h2,h3]) ?_
  rw [he,hc]
  exact ⟨[]::L,fun w hw=>Holds.nil.2 hw,_,[],rfl,rfl,.inl ⟨rfl,rfl,rfl,rfl⟩⟩
 (repeat' first|refine kW ?_|refine kU fun bk=>?_|refine kV fun hc=>?_|refine kZ (fun hc=>?_) fun hc=>?_|fail)
 ·obtain ⟨e1,e2⟩:=zaj (ls:=ls) (.inl (by omega))
  exact hno 1 e1 e2 _ rfl rfl
 have h400:ls.length≤400:=by omega
 refine cP rfl rfl (zbB a c ls L h hl) ?_
 have hw:okL ls=true→wgt ls=(kS (nl ls):Int):=fun h=>by unfold wgt;rw [h];rfl
 cases hok:okL ls with
 |false=>
  have hw2:wgt ls= -1:=by unfold wgt;rw [hok];rfl
  rw [hw2]
  obtain ⟨e1,e2⟩:=zaj (ls:=ls) (.inr hok)
  refine kW ?_
  exact hno 1 e1 e2 _ rfl rfl
 |true=>
  have hw1:=hw hok
  have hkl:=zgR (nl ls)
  rw [zQ] at hkl
  rw [hw1]
  refine kW ?_
  refine cP rfl rfl (zbB a c ls L h hl) ?_
  rw [hw1]
  (repeat' first|refine kW ?_|refine kU fun bk=>?_|refine kV fun hc=>?_|refine kZ (fun hc=>?_) fun hc=>?_|fail)
  ·obtain ⟨e1,e2⟩:=zbX h400 hok (by omega)
   exact hno 3 e1 e2 _ rfl rfl
  obtain ⟨l,hll⟩:∃l,l=nl ls:=⟨_,rfl⟩
  have hlen:l.length=ls.length:=by rw [hll,zQ]
  have hk:kS l≤32768:=by rw [hll];omega
  have h15:∀x∈l,x≤15:=fun x hx=>Xw hok (by rw [←hll];exact hx)
  obtain ⟨e1,e2⟩:=Yq h400 hok (by rw [←hll];exact hk)
  rw [←hll] at e2
  have hfit:∀n,1≤n→n≤15→fs l n+cn l n≤32768:=fun n h1 h2=>Nat.le_trans (za0 hk h1 h2) (Nat.le_trans (Nat.pow_le_pow_right (by decide) h2) (by decide))
  have hnx:∀n,1≤n→n≤16→nx l n≤32768:=fun n h1 h2=>by
   rcases Nat.eq_or_lt_of_le h1 with h3|h3
   ·subst h3;simp [nx,fs]
   ·have:=hfit (n - 1) (by omega) (by omega)
    have h4:=zhb l (n:=n - 1) (by omega)
    rw [show n - 1+1=n from by omega] at h4
    omega
  refine zJ (m:=ls.length) (c:=ls.length) rfl rfl (by rfl) (by omega) (by omega) (by omega) rfl (fun bn=>?_)
  rw [show zeros (Value.int .u32 0).cells.toList ls.length=wnv (outs l 1 0) from by rw [zfQ,hlen];exact QG _]
  refine kW ?_
  refine zn (X:=Nat) (fun n=>[(0,.slice a ls.length c),(4,.slice (some ⟨bn,0,none⟩) ls.length ls.length),(5,.int .u32 ((nx l n:Nat):Int)),(6,.int .i64 (n:Int))]) (fun n=>[(bn,cl (wnv (outs l n 0)) 88)]::L) (fun n=>1≤n∧n≤16) (fun n=>16 - n) 1 ⟨by omega,by omega⟩ iS (fun w h=>h) ?_
  intro n ⟨hn1,hn2⟩
  have hnn:=hnx n hn1 hn2
  (repeat' first|refine kW ?_|refine kU fun bk=>?_|refine kV fun hc=>?_|refine kZ (fun hc=>?_) fun hc=>?_|fail)
  ·have hn15:n≤15:=by omega
   have hf:=hfit n hn1 hn15
   refine ze (vH (nx l n) 1 rfl rfl rfl rfl rfl (by simp only [IntKind.bits];omega)) rfl ?_
   rw [zpM l hn1]
   refine kW ?_
   refine zn (X:=Nat) (fun j=>[(0,.slice a ls.length c),(4,.slice (some ⟨bn,0,none⟩) ls.length ls.length),(5,.int .u32 ((fs l n+cn (l.take j) n:Nat):Int)),(6,.int .i64 (n:Int)),(7,.int .i64 (j:Int))]) (fun j=>[(bn,cl (wnv (outs l n j)) 88)]::L) (fun j=>j≤ls.length) (fun j=>ls.length - j) 0 (Nat.zero_le _) iS (fun w h=>h) ?_
   intro j hj
   have hct:=ZY l j n
   (repeat' first|refine kW ?_|refine kU fun bk=>?_|refine kV fun hc=>?_|refine kZ (fun hc=>?_) fun hc=>?_|fail)
   ·have hlt:j < ls.length:=by omega
    obtain ⟨b,off,cap,cc,T,fr,hve,hfn,hcell⟩:=yV h (wT hlt)
    injection hve with q1 q2 q3
    subst q1 q3
    clear q2
    have hat:=(zdh hok j).2.2
    rw [←hll] at hat
    rw [←hat] at hcell
    have hcs:=vI (l:=l) (j:=j) (by omega) n
    refine ze (zi (j:=j) rfl rfl rfl hlt) rfl ?_
    refine kW ?_
    refine ze (zq rfl hfn.there hcell) rfl ?_
    (repeat' first|refine kW ?_|refine kU fun bk=>?_|refine kV fun hc=>?_|refine kZ (fun hc=>?_) fun hc=>?_|fail)
    ·have hg:l.getD j 0=n:=by omega
     rw [if_pos hg] at hcs
     have hcd:cd l j=fs l n+cn (l.take j) n:=by unfold cd;rw [hg,if_neg (by omega)]
     rw [←hcd]
     refine ze (zh (j:=j) (len:=ls.length) rfl rfl rfl hlt) rfl ?_
     refine kW ?_
     refine zG (l:=wnv (outs l n j)) (wnv (outs l n (j+1))) rfl rfl rfl (by rw [Nat.mul_one,←zkT (by omega) hg];simp [wnv,List.map_set]) iU (by simp [wnv,wm];omega) ?_
     refine kW ?_
     refine ze (qj rfl rfl rfl) rfl ?_
     rw [show ((cd l j:Nat):Int)+1=((fs l n+cn (l.take (j+1)) n:Nat):Int) from by rw [hcs,hcd];omega,yX rfl (by simp only [IntKind.bits];have:=ZY l (j+1) n;omega)]
     refine kW ?_
     refine zf (X:=Nat) (μ:=fun j=>ls.length - j) (x:=j) (j+1) (by omega) (by omega) iS (fun w h=>h)
    ·have hg:l.getD j 0≠n:=fun he=>hc (by omega)
     rw [if_neg hg] at hcs
     have hcs2:cn (l.take (j+1)) n=cn (l.take j) n:=hcs
     rw [←hcs2]
     refine zf (X:=Nat) (μ:=fun j=>ls.length - j) (x:=j) (j+1) (by omega) (by omega) iS ?_
     rw [←zie hg]
     exact fun w h=>h
   ·have hje:j=l.length:=by omega
    subst hje
    rw [List.take_length,←zhb l hn1,zid hn1]
    refine zf (X:=Nat) (μ:=fun n=>16 - n) (x:=n) (n+1) (by omega) ⟨by omega,by omega⟩ iS (fun w h=>h)
  ·have hn16:n=16:=by omega
   subst hn16
   rw [zkS h15]
   refine kR ?_
   have hcl:(cds l).length=ls.length:=by simp [cds,hlen]
   refine ⟨[(bn,cl (wnv (cds l)) 88)]::L,iC,_,_,by rw [e1];rfl,rfl,?_⟩
   rw [e2,hcl]
   exact .inr ⟨bn,ls.length,[],rfl,by rw [List.append_nil],by rw [wH,hcl,Nat.mul_one],by simp,Nat.le_refl _,by simp [maxLen];omega⟩
end Go.Proofs.YtemdlifojcgplaaGreatDoor
namespace Go.Proofs.YtemdlifojcgplaaGreatDoor
open Go Go.Vx
variable [W0]
set_option maxRecDepth 4000
set_option linter.all false
theorem zgu (p m t:Nat) (a:Option Addr) (c:Nat) (T:TypeId) (L:List Chunk) (hf:Fnd L p (cl [.slice a m c,.int .i64 (t:Int)] T)) (hm:m≤140737488355328) (hn:t≤8 * m) :
 GvP Tryz.prog 185 [.pointer (some ⟨p,0,none⟩)].toArray L (.int .i64 ((8 * m - t:Nat):Int)):=by
 refine Gv.of_body Tryz.func185 rfl rfl ?_
 refine kW ?_
 refine zk [] mixed ?_
 (refine za 0 ?_;refine za 1 ?_;refine za 2 ?_;refine za 3 ?_;refine za 4 ?_;refine za 5 ?_;refine za 6 ?_;refine za 7 ?_;refine za 8 ?_;refine za 9 ?_;refine za 10 ?_)
 rw [show 8 * (m:Int) - (t:Int)=((8 * m - t:Nat):Int) from by omega]
 (refine za 11 ?_)
 refine cD ?_
 refine kW ?_
 exact kE
theorem zmH (p t:Nat) (v:Value) (T:TypeId) (L:List Chunk) (hf:Fnd L p (cl [v,.int .i64 (t:Int)] T)) (ht:t≤1125899906842700) :
 GvP Tryz.prog 105 [.pointer (some ⟨p,0,none⟩)].toArray L (.int .i64 (((t+7) / 8:Nat):Int)):=by
 refine Gv.of_body Tryz.func105 rfl rfl ?_
 refine kW ?_
 refine ze (uN (t+7) 8 rfl rfl (by omega) rfl (by decide) (by omega)) rfl ?_
 refine kW ?_
 exact kE
theorem zo7 {d:List UInt8} {t:Nat} (h:t < 8 * d.length):(d.getD (t / 8) 0).toNat / 2 ^ (t % 8) % 2 ^ 1=val d / 2 ^ t % 2:=by
 rw [←zay d (t / 8) (by omega)]
 have e:val d / 2 ^ t=val d / 2 ^ (8 * (t / 8)) / 2 ^ (t % 8):=by
  rw [Nat.div_div_eq_div_mul,←Nat.pow_add,show 8 * (t / 8)+t % 8=t from by omega]
 rw [e]
 generalize val d / 2 ^ (8 * (t / 8))=y
 have e2:(256:Nat)=2 ^ (t % 8) * 2 ^ (8 - t % 8):=by rw [←Nat.pow_add,show t % 8+(8 - t % 8)=8 from by omega]
 rw [e2,Nat.mod_mul_right_div_self]
 exact Nat.mod_mod_of_dvd _ (by
  have:=Nat.pow_dvd_pow 2 (show 1≤8 - t % 8 by omega)
  simpa using this)
end Go.Proofs.YtemdlifojcgplaaGreatDoor
namespace Go.Hf
set_option linter.all false
def hit (l:List Nat) (n v i:Nat):Bool:=l.getD i 0 == n&&decide (0 < n)&&cd l i == v
def far (l:List Nat) (n v i:Nat):Bool:=decide (n < l.getD i 0)&&cd l i / 2 ^ (l.getD i 0 - n) == v
def Zl (l:List Nat) (n v:Nat):Option Nat:=(List.range l.length).find? (hit l n v)
def XU (l:List Nat) (n v:Nat):Bool:=(List.range l.length).any (far l n v)
def hv (w t:Nat):Nat→Nat
 |0=>0
 |n+1=>2 * hv w t n+w / 2 ^ (t+n) % 2
def rdS (l:List Nat) (w t z:Nat):Nat→Nat→Nat × Nat × Nat
 |0,n=>(0,3,n)
 |f+1,n=>match Zl l n (hv w t n) with
  |some i=>(i,0,n)
  |none=>if XU l n (hv w t n)=false then (0,3,n) else if z≤t+n then (0,4,n) else rdS l w t z f (n+1)
theorem zcM (a b:Nat):((a:Int) == (b:Int))=(a == b):=by
 rw [Bool.eq_iff_iff]
 simp only [beq_iff_eq]
 omega
theorem zgO (w t:Nat):∀n,hv w t n < 2 ^ n
 |0=>by simp [hv]
 |n+1=>by
  have:=zgO w t n
  simp only [hv,Nat.pow_succ]
  omega
theorem find_range {f:Nat→Bool} {i n:Nat} (hi:i < n) (h:f i=true) (hb:∀j,j < i→f j=false):(List.range n).find? f=some i:=by
 obtain ⟨m,rfl⟩:=Nat.le.dest hi
 rw [show i+1+m=i+(1+m) from by omega,List.range_add,List.find?_append]
 have h1:(List.range i).find? f=none:=by
  rw [List.find?_eq_none]
  intro j hj
  rw [hb j (List.mem_range.1 hj)]
  simp
 rw [h1,Nat.add_comm 1 m,List.range_succ_eq_map]
 simp [h]
theorem Y0 {f:Nat→Bool} {n:Nat} (hb:∀j,j < n→f j=false):(List.range n).find? f=none:=by
 rw [List.find?_eq_none]
 intro j hj
 rw [hb j (List.mem_range.1 hj)]
 simp
theorem any_succ {f:Nat→Bool} (n:Nat):(List.range (n+1)).any f=((List.range n).any f||f n):=by
 rw [List.range_succ,List.any_append]
 simp
theorem getD_lt {l:List Nat} {i:Nat} (h:0 < l.getD i 0):i < l.length:=by
 rcases Nat.lt_or_ge i l.length with h'|h'
 ·exact h'
 ·simp [List.getD,List.getElem?_eq_none h'] at h
theorem zqu {l:List Nat} (hk:kS l≤32768) (hl:∀x∈l,x≤15) (i:Nat):cd l i < 32769:=by
 by_cases h0:l.getD i 0=0
 ·unfold cd;rw [if_pos h0];omega
 ·have hi:=getD_lt (l:=l) (i:=i) (by omega)
  have hg:l[i]? =some (l.getD i 0):=by simp [List.getD,hi]
  have h1:=(zd3 hg h0).2
  have h2:=za0 hk (n:=l.getD i 0) (by omega) (hl _ (List.mem_of_getElem? hg))
  have h3:2 ^ (l.getD i 0)≤2 ^ 15:=Nat.pow_le_pow_right (by decide) (hl _ (List.mem_of_getElem? hg))
  omega
end Go.Hf
namespace Go.Vx
open Go
set_option linter.all false
variable [W0]
theorem znJ {e m:Nat} {v:Value} {xs:List Nat} {C:Chunk} (h:Ow e 1 v m (wnv xs) C) {k:Nat} (hk:k < m) :
 ∃b cap rest,v=.slice (some ⟨b,0,none⟩) m cap∧C=[(b,cl (wnv xs++rest) e)]∧(wnv xs++rest).toArray[k * 1]? =some (.int .u32 (xs.getD k 0:Int)):=by
 rcases h with ⟨rfl,rfl,_⟩|⟨b,cap,rest,rfl,rfl,hxl,hrl,hmc,hcm⟩
 ·omega
 ·refine ⟨b,cap,rest,rfl,rfl,?_⟩
  have hlt:k < xs.length:=by rw [wH] at hxl;omega
  rw [Nat.mul_one]
  simpa using z8 (r:=rest) (zaA (l:=xs) (i:=k) (n:=xs.getD k 0) (by simp [List.getD,hlt]))
end Go.Vx
namespace Go.Proofs.YtemdlifojcgplaaGreatDoor
open Go Go.Vx Go.Hf
variable [W0]
set_option maxRecDepth 4000
set_option linter.all false
omit [W0] in
def BiS (p:Nat) (d:List UInt8) (fa:Option Addr) (fc t:Nat) (D:Chunk) (L:List Chunk):Prop:=t≤8 * d.length∧D=[(p,cl [.slice fa d.length fc,.int .i64 (t:Int)] 151)]∧Sl L 1 (.slice fa d.length fc) d.length (bsv d)
theorem zgv (p t:Nat) (v:Value) (d:List UInt8) (L:List Chunk) (hv:Sl L 1 v d.length (bsv d)) (hl:d.length≤140737488355328) (hlt:t < 8 * d.length) :
 Gv Tryz.prog 186 [.pointer (some ⟨p,0,none⟩)].toArray ([(p,cl [v,.int .i64 (t:Int)] 151)]::L) (fun r L'=>r=.int .u32 ((val d / 2 ^ t % 2:Nat):Int)∧L'=[(p,cl [v,.int .i64 ((t+1:Nat):Int)] 151)]::L):=by
 refine Gv.of_body Tryz.func186 rfl rfl ?_
 have hbit:=zo7 hlt
 obtain ⟨b,off,cap,cc,T,fr,rfl,hfn,hcell⟩:=yV hv (wW (l:=d) (i:=t / 8) (b:=d.getD (t / 8) 0) (by simp [List.getD,show t / 8 < d.length from by omega]))
 have hbl:=(d.getD (t / 8) 0).toNat_lt
 obtain ⟨x,hx⟩:∃x,x=(d.getD (t / 8) 0).toNat:=⟨_,rfl⟩
 rw [←hx] at hcell hbl hbit
 have hx2:x / 2 ^ (t % 8)≤x:=Nat.div_le_self _ _
 refine kW ?_
 refine zk [] mixed ?_
 (refine za 0 ?_;refine za 1 ?_;refine za 2 ?_;refine za 3 ?_;refine za 4 ?_;refine za 5 ?_;refine za 6 ?_;refine za 7 ?_)
 refine cT 8 rfl rfl (uN t 8 rfl rfl rfl rfl (by decide) (by omega)) ?_
 refine cT 9 rfl rfl (zi (j:=t / 8) rfl rfl rfl (by omega)) ?_
 refine cT 10 rfl rfl (zq rfl hfn.there hcell) ?_
 (refine za 11 ?_;refine za 12 ?_;refine za 13 ?_;refine za 14 ?_)
 refine cT 15 rfl rfl (XC t 8 rfl rfl rfl rfl (by decide)) ?_
 refine cT 16 rfl rfl (Zq x (t % 8) rfl rfl rfl rfl (by simp only [IntKind.bits];omega)) ?_
 refine cT 17 rfl rfl (vG (k':=.u32) (x / 2 ^ (t % 8)) rfl rfl rfl (by simp only [IntKind.bits];omega)) ?_
 refine cT 18 rfl rfl (uM (x / 2 ^ (t % 8)) 1 rfl rfl rfl rfl rfl (by simp only [IntKind.bits];omega) (by decide)) ?_
 rw [hbit]
 (refine za 19 ?_)
 refine cD ?_
 refine kW ?_
 refine kR ?_
 exact ⟨_,iC,rfl,rfl⟩
theorem zf0 (a:Option Addr) (c:Nat) (ls:List Int) (fa:Option Addr) (fc q t:Nat) (d:List UInt8) (D:Chunk) (L:List Chunk) (h:Sl L 1 (.slice a ls.length c) ls.length (yg ls)) (hok:cdE ls=0) (hB:BiS q d fa fc t D L) (hl:d.length≤140737488355328) :
 Gv Tryz.prog 187 [.slice a ls.length c,.pointer (some ⟨q,0,none⟩)].toArray (D::L) (fun r L'=>∃D',r=.tuple #[.int .i64 ((rdS (nl ls) (val d) t (8 * d.length) 16 0).1:Int),.int .i64 ((rdS (nl ls) (val d) t (8 * d.length) 16 0).2.1:Int)]∧
  BiS q d fa fc (t+(rdS (nl ls) (val d) t (8 * d.length) 16 0).2.2) D' L∧L'=D'::L):=by
 obtain ⟨h400,hoL,hk⟩:=uP hok
 refine Gv.of_body Tryz.func187 rfl rfl ?_
 refine kW ?_
 refine cC rfl rfl (zfZ a c ls (D::L) (zm h) (by omega)) (fun r L' hp=>?_)
 obtain ⟨u,C,rfl,rfl,ho⟩:=hp
 rw [(Yq h400 hoL hk).2,hok] at *
 obtain ⟨l,hll⟩:∃l,l=nl ls:=⟨_,rfl⟩
 rw [←hll] at ho hk ⊢
 have hlen:l.length=ls.length:=by rw [hll,zQ]
 have h15:∀x∈l,x≤15:=fun x hx=>Xw hoL (by rw [←hll];exact hx)
 have hcl:(cds l).length=ls.length:=by simp [cds,hlen]
 rw [hcl] at ho
 have hcg:∀i,i < ls.length→(cds l).getD i 0=cd l i:=fun i hi=>by
  have:i < l.length:=by omega
  simp [cds,List.getD,List.getElem?_range this]
 obtain ⟨ua,uc,rfl⟩:=zM ho
 refine kW ?_
 have hgd:∀i,l.getD i 0≤15:=fun i=>by
  rcases Nat.eq_zero_or_pos (l.getD i 0) with h0|h0
  ·omega
  ·have hi:=getD_lt h0
   exact h15 _ (by rw [show l.getD i 0=l[i] from by simp [List.getD,hi]];exact List.getElem_mem hi)
 have hfin:∀(s e k:Nat) (D1:Chunk) (M:List (Nat × Value)) (L1:List Chunk),BiS q d fa fc (t+k) D1 L→rdS l (val d) t (8 * d.length) 16 0=(s,e,k)→lk M 4=some (.int .i64 (s:Int))→lk M 5=some (.int .i64 (e:Int))→(∀w,Holds w L1→Holds w (D1::L))→
  WQ Tryz.f187.ntmps (bodyPost Tryz.prog Tryz.f187 (fun e w'=>∃v L',e=.returned v∧(∃D',v=.tuple #[.int .i64 ((rdS l (val d) t (8 * d.length) 16 0).1:Int),.int .i64 ((rdS l (val d) t (8 * d.length) 16 0).2.1:Int)]∧
   BiS q d fa fc (t+(rdS l (val d) t (8 * d.length) 16 0).2.2) D' L∧L'=D'::L)∧Holds w' L') .ret) M L1:=by
  intro s e k D1 M L1 hB hr h4 h5 hL
  refine um (rs:=[.tmp 4,.tmp 5]) (vs:=[.int .i64 (s:Int),.int .i64 (e:Int)]) rfl (by simp [Yj,h4,h5]) ?_
  rw [hr]
  exact ⟨D1::L,hL,D1,rfl,hB,rfl⟩
 refine zn (X:=Nat × Chunk) (fun x=>[(0,.slice a ls.length c),(1,.pointer (some ⟨q,0,none⟩)),(6,.slice ua ls.length uc),(9,.int .u32 ((hv (val d) t x.1:Nat):Int)),(10,.int .i64 (x.1:Int))])
  (fun x=>C::x.2::L) (fun x=>x.1≤16∧BiS q d fa fc (t+x.1) x.2 L∧rdS l (val d) t (8 * d.length) 16 0=rdS l (val d) t (8 * d.length) (16 - x.1) x.1) (fun x=>16 - x.1) (0,D) ⟨by simp,hB,rfl⟩ iS (fun w h=>h) ?_
 rintro ⟨n,D1⟩ ⟨hn,hB1,hrd⟩
 simp only at hn hB1 hrd ⊢
 have hvl:=zgO (val d) t n
 have hv16:2 ^ n≤2 ^ 16:=Nat.pow_le_pow_right (by decide) hn
 (repeat' first|refine kW ?_|refine kU fun bk=>?_|refine kV fun hc=>?_|refine kZ (fun hc=>?_) fun hc=>?_|fail)
 ·have hn15:n≤15:=by omega
  have hv15:2 ^ n≤2 ^ 15:=Nat.pow_le_pow_right (by decide) hn15
  obtain ⟨v,hv0⟩:∃v,v=hv (val d) t n:=⟨_,rfl⟩
  have hrs:rdS l (val d) t (8 * d.length) (16 - n) n=(match Zl l n v with
   |some i=>(i,0,n)
   |none=>if XU l n v=false then (0,3,n) else if 8 * d.length≤t+n then (0,4,n) else rdS l (val d) t (8 * d.length) (16 - (n+1)) (n+1)):=by
   rw [show 16 - n=(16 - (n+1))+1 from by omega,rdS,hv0]
   try rfl
  rw [hrs] at hrd
  rw [←hv0] at hvl ⊢
  refine zn (X:=Nat × Bool) (fun x=>[(0,.slice a ls.length c),(1,.pointer (some ⟨q,0,none⟩)),(6,.slice ua ls.length uc),(8,.bool x.2),(9,.int .u32 ((v:Nat):Int)),(10,.int .i64 (n:Int)),(11,.int .i64 (x.1:Int))])
   (fun _=>C::D1::L) (fun x=>x.1≤ls.length∧(∀j,j < x.1→hit l n v j=false)∧x.2=(List.range x.1).any (far l n v)) (fun x=>ls.length - x.1) (0,false) ⟨Nat.zero_le _,fun j hj=>by simp at hj,rfl⟩ iS (fun w h=>h) ?_
  rintro ⟨i,sm⟩ ⟨hi,hnone,hsm⟩
  simp only at hi hnone hsm ⊢
  (repeat' first|refine kW ?_|refine kU fun bk=>?_|refine kV fun hc=>?_|refine kZ (fun hc=>?_) fun hc=>?_|fail)
  ·have hlt:i < ls.length:=by omega
   obtain ⟨b,off,cap,cc,T,fr,hve,hfn,hcell⟩:=yV h (wT hlt)
   injection hve with q1 q2 q3
   subst q1 q3
   clear q2
   have hat:=(zdh hoL i).2.2
   rw [←hll] at hat
   rw [←hat] at hcell
   obtain ⟨b2,cap2,rest2,hve,rfl,hword⟩:=znJ ho (k:=i) hlt
   injection hve with q1 q2 q3
   subst q1 q3
   clear q2
   rw [hcg i hlt] at hword
   have hcdl:=zqu hk h15 i
   obtain ⟨x,hx⟩:∃x,x=l.getD i 0:=⟨_,rfl⟩
   obtain ⟨y,hy⟩:∃y,y=cd l i:=⟨_,rfl⟩
   have hx15:=hgd i
   rw [←hx] at hcell hx15
   rw [←hy] at hword hcdl
   have hhit:hit l n v i=(x == n&&decide (0 < n)&&y == v):=by unfold hit;rw [←hx,←hy]
   have hfar:far l n v i=(decide (n < x)&&y / 2 ^ (x - n) == v):=by unfold far;rw [←hx,←hy]
   have hsm1:(List.range (i+1)).any (far l n v)=(sm||far l n v i):=by rw [any_succ,←hsm]
   have hnext:hit l n v i=false→∀j,j < i+1→hit l n v j=false:=fun hh j hj=>by
    rcases Nat.lt_or_ge j i with h'|h'
    ·exact hnone j h'
    ·rw [show j=i from by omega];exact hh
   refine ze (zi (j:=i) rfl rfl rfl hlt) rfl ?_
   refine kW ?_
   refine ze (zq rfl hfn.there.there hcell) rfl ?_
   (repeat' first|refine kW ?_|refine kU fun bk=>?_|refine kV fun hc=>?_|refine kZ (fun hc=>?_) fun hc=>?_|fail)
   ·refine ze (zh (j:=i) (len:=ls.length) rfl rfl rfl hlt) rfl ?_
    refine kW ?_
    refine ze (zq rfl Fnd.here hword) rfl ?_
    (repeat' first|refine kW ?_|refine kU fun bk=>?_|refine kV fun hc=>?_|refine kZ (fun hc=>?_) fun hc=>?_|fail)
    ·have hh:hit l n v i=true:=by rw [hhit];simp;omega
     have hsy:Zl l n v=some i:=find_range (by omega) hh hnone
     rw [hsy] at hrd
     exact hfin i 0 n D1 _ _ hB1 hrd rfl rfl (fun w h=>iH h)
    ·have hh:hit l n v i=false:=by rw [hhit];simp;omega
     cases hsb:sm with
     |true=>
      refine zk [] mixed ?_
      (refine za 0 ?_;refine za 1 ?_)
      (refine zD 2 ?_;refine zD 3 ?_;refine zD 4 ?_;refine zD 5 ?_;refine zD 6 ?_;refine zD 7 ?_;refine zD 8 ?_)
      (refine qG 9 ?_;refine qG 10 ?_;refine qG 11 ?_;refine qG 12 ?_;refine qG 13 ?_;refine qG 14 ?_;refine qG 15 ?_;refine qG 16 ?_;refine qG 17 ?_;refine qG 18 ?_;refine qG 19 ?_;refine qG 20 ?_;refine qG 21 ?_)
      (refine zD 22 ?_)
      (refine za 23 ?_;refine za 24 ?_)
      refine cD ?_
      refine kW ?_
      refine zf (X:=Nat × Bool) (μ:=fun x=>ls.length - x.1) (x:=(i,true)) (i+1,true) (by simp only;omega) ⟨by simp only;omega,hnext hh,by simp only;rw [hsm1,hsb];rfl⟩ iS (fun w h=>iH h)
     |false=>
      by_cases hxn:n < x
      ·refine zk [] mixed ?_
       (refine za 0 ?_;refine za 1 ?_)
       (refine zN 2 ?_;refine zN 3 ?_)
       refine cO 4 rfl rfl rfl (zi (j:=i) rfl rfl rfl hlt) ?_
       refine cO 5 rfl rfl rfl (zq rfl hfn.there.there hcell) ?_
       (refine zN 6 ?_;refine zN 7 ?_)
       rw [show decide ((x:Int) > (n:Int))=true from by simp;omega]
       (refine zN 8 ?_;refine zN 9 ?_;refine zN 10 ?_)
       refine cO 11 rfl rfl rfl (zh (j:=i) (len:=ls.length) rfl rfl rfl hlt) ?_
       refine cO 12 rfl rfl rfl (zq rfl Fnd.here hword) ?_
       (refine zN 13 ?_;refine zN 14 ?_)
       refine cO 15 rfl rfl rfl (zi (j:=i) rfl rfl rfl hlt) ?_
       refine cO 16 rfl rfl rfl (zq rfl hfn.there.there hcell) ?_
       (refine zN 17 ?_;refine zN 18 ?_)
       rw [show (x:Int) - (n:Int)=((x - n:Nat):Int) from by omega]
       refine cO 19 rfl rfl rfl (Zq y (x - n) rfl rfl rfl rfl (by simp only [IntKind.bits];omega)) ?_
       (refine zN 20 ?_;refine zN 21 ?_;refine zN 22 ?_)
       (refine za 23 ?_;refine za 24 ?_)
       refine cD ?_
       refine kW ?_
       refine zf (X:=Nat × Bool) (μ:=fun x=>ls.length - x.1) (x:=(i,false)) (i+1,((y / 2 ^ (x - n):Nat):Int) == (v:Int)) (by simp only;omega) ⟨by simp only;omega,hnext hh,by simp only;rw [hsm1,hsb,hfar,decide_eq_true hxn,Bool.false_or,Bool.true_and,zcM]⟩ iS (fun w h=>iH h)
      ·refine zk [] mixed ?_
       (refine za 0 ?_;refine za 1 ?_)
       (refine zN 2 ?_;refine zN 3 ?_)
       refine cO 4 rfl rfl rfl (zi (j:=i) rfl rfl rfl hlt) ?_
       refine cO 5 rfl rfl rfl (zq rfl hfn.there.there hcell) ?_
       (refine zN 6 ?_;refine zN 7 ?_)
       rw [show decide ((x:Int) > (n:Int))=false from by simp;omega]
       (refine zN 8 ?_)
       (refine zD 9 ?_;refine zD 10 ?_;refine zD 11 ?_;refine zD 12 ?_;refine zD 13 ?_;refine zD 14 ?_;refine zD 15 ?_;refine zD 16 ?_;refine zD 17 ?_;refine zD 18 ?_;refine zD 19 ?_;refine zD 20 ?_;refine zD 21 ?_)
       (refine zN 22 ?_)
       (refine za 23 ?_;refine za 24 ?_)
       refine cD ?_
       refine kW ?_
       refine zf (X:=Nat × Bool) (μ:=fun x=>ls.length - x.1) (x:=(i,false)) (i+1,false) (by simp only;omega) ⟨by simp only;omega,hnext hh,by simp only;rw [hsm1,hsb,hfar,decide_eq_false hxn];rfl⟩ iS (fun w h=>iH h)
   ·have hh:hit l n v i=false:=by rw [hhit];simp;omega
    cases hsb:sm with
    |true=>
     refine zk [] mixed ?_
     (refine za 0 ?_;refine za 1 ?_)
     (refine zD 2 ?_;refine zD 3 ?_;refine zD 4 ?_;refine zD 5 ?_;refine zD 6 ?_;refine zD 7 ?_;refine zD 8 ?_)
     (refine qG 9 ?_;refine qG 10 ?_;refine qG 11 ?_;refine qG 12 ?_;refine qG 13 ?_;refine qG 14 ?_;refine qG 15 ?_;refine qG 16 ?_;refine qG 17 ?_;refine qG 18 ?_;refine qG 19 ?_;refine qG 20 ?_;refine qG 21 ?_)
     (refine zD 22 ?_)
     (refine za 23 ?_;refine za 24 ?_)
     refine cD ?_
     refine kW ?_
     refine zf (X:=Nat × Bool) (μ:=fun x=>ls.length - x.1) (x:=(i,true)) (i+1,true) (by simp only;omega) ⟨by simp only;omega,hnext hh,by simp only;rw [hsm1,hsb];rfl⟩ iS (fun w h=>iH h)
    |false=>
     by_cases hxn:n < x
     ·refine zk [] mixed ?_
      (refine za 0 ?_;refine za 1 ?_)
      (refine zN 2 ?_;refine zN 3 ?_)
      refine cO 4 rfl rfl rfl (zi (j:=i) rfl rfl rfl hlt) ?_
      refine cO 5 rfl rfl rfl (zq rfl hfn.there.there hcell) ?_
      (refine zN 6 ?_;refine zN 7 ?_)
      rw [show decide ((x:Int) > (n:Int))=true from by simp;omega]
      (refine zN 8 ?_;refine zN 9 ?_;refine zN 10 ?_)
      refine cO 11 rfl rfl rfl (zh (j:=i) (len:=ls.length) rfl rfl rfl hlt) ?_
      refine cO 12 rfl rfl rfl (zq rfl Fnd.here hword) ?_
      (refine zN 13 ?_;refine zN 14 ?_)
      refine cO 15 rfl rfl rfl (zi (j:=i) rfl rfl rfl hlt) ?_
      refine cO 16 rfl rfl rfl (zq rfl hfn.there.there hcell) ?_
      (refine zN 17 ?_;refine zN 18 ?_)
      rw [show (x:Int) - (n:Int)=((x - n:Nat):Int) from by omega]
      refine cO 19 rfl rfl rfl (Zq y (x - n) rfl rfl rfl rfl (by simp only [IntKind.bits];omega)) ?_
      (refine zN 20 ?_;refine zN 21 ?_;refine zN 22 ?_)
      (refine za 23 ?_;refine za 24 ?_)
      refine cD ?_
      refine kW ?_
      refine zf (X:=Nat × Bool) (μ:=fun x=>ls.length - x.1) (x:=(i,false)) (i+1,((y / 2 ^ (x - n):Nat):Int) == (v:Int)) (by simp only;omega) ⟨by simp only;omega,hnext hh,by simp only;rw [hsm1,hsb,hfar,decide_eq_true hxn,Bool.false_or,Bool.true_and,zcM]⟩ iS (fun w h=>iH h)
     ·refine zk [] mixed ?_
      (refine za 0 ?_;refine za 1 ?_)
      (refine zN 2 ?_;refine zN 3 ?_)
      refine cO 4 rfl rfl rfl (zi (j:=i) rfl rfl rfl hlt) ?_
      refine cO 5 rfl rfl rfl (zq rfl hfn.there.there hcell) ?_
      (refine zN 6 ?_;refine zN 7 ?_)
      rw [show decide ((x:Int) > (n:Int))=false from by simp;omega]
      (refine zN 8 ?_)
      (refine zD 9 ?_;refine zD 10 ?_;refine zD 11 ?_;refine zD 12 ?_;refine zD 13 ?_;refine zD 14 ?_;refine zD 15 ?_;refine zD 16 ?_;refine zD 17 ?_;refine zD 18 ?_;refine zD 19 ?_;refine zD 20 ?_;refine zD 21 ?_)
      (refine zN 22 ?_)
      (refine za 23 ?_;refine za 24 ?_)
      refine cD ?_
      refine kW ?_
      refine zf (X:=Nat × Bool) (μ:=fun x=>ls.length - x.1) (x:=(i,false)) (i+1,false) (by simp only;omega) ⟨by simp only;omega,hnext hh,by simp only;rw [hsm1,hsb,hfar,decide_eq_false hxn];rfl⟩ iS (fun w h=>iH h)
   ·have hh:hit l n v i=false:=by rw [hhit];simp;omega
    cases hsb:sm with
    |true=>
     refine zk [] mixed ?_
     (refine za 0 ?_;refine za 1 ?_)
     (refine zD 2 ?_;refine zD 3 ?_;refine zD 4 ?_;refine zD 5 ?_;refine zD 6 ?_;refine zD 7 ?_;refine zD 8 ?_)
     (refine qG 9 ?_;refine qG 10 ?_;refine qG 11 ?_;refine qG 12 ?_;refine qG 13 ?_;refine qG 14 ?_;refine qG 15 ?_;refine qG 16 ?_;refine qG 17 ?_;refine qG 18 ?_;refine qG 19 ?_;refine qG 20 ?_;refine qG 21 ?_)
     (refine zD 22 ?_)
     (refine za 23 ?_;refine za 24 ?_)
     refine cD ?_
     refine kW ?_
     refine zf (X:=Nat × Bool) (μ:=fun x=>ls.length - x.1) (x:=(i,true)) (i+1,true) (by simp only;omega) ⟨by simp only;omega,hnext hh,by simp only;rw [hsm1,hsb];rfl⟩ iS (fun w h=>iH h)
    |false=>
     by_cases hxn:n < x
     ·refine zk [] mixed ?_
      (refine za 0 ?_;refine za 1 ?_)
      (refine zN 2 ?_;refine zN 3 ?_)
      refine cO 4 rfl rfl rfl (zi (j:=i) rfl rfl rfl hlt) ?_
      refine cO 5 rfl rfl rfl (zq rfl hfn.there.there hcell) ?_
      (refine zN 6 ?_;refine zN 7 ?_)
      rw [show decide ((x:Int) > (n:Int))=true from by simp;omega]
      (refine zN 8 ?_;refine zN 9 ?_;refine zN 10 ?_)
      refine cO 11 rfl rfl rfl (zh (j:=i) (len:=ls.length) rfl rfl rfl hlt) ?_
      refine cO 12 rfl rfl rfl (zq rfl Fnd.here hword) ?_
      (refine zN 13 ?_;refine zN 14 ?_)
      refine cO 15 rfl rfl rfl (zi (j:=i) rfl rfl rfl hlt) ?_
      refine cO 16 rfl rfl rfl (zq rfl hfn.there.there hcell) ?_
      (refine zN 17 ?_;refine zN 18 ?_)
      rw [show (x:Int) - (n:Int)=((x - n:Nat):Int) from by omega]
      refine cO 19 rfl rfl rfl (Zq y (x - n) rfl rfl rfl rfl (by simp only [IntKind.bits];omega)) ?_
      (refine zN 20 ?_;refine zN 21 ?_;refine zN 22 ?_)
      (refine za 23 ?_;refine za 24 ?_)
      refine cD ?_
      refine kW ?_
      refine zf (X:=Nat × Bool) (μ:=fun x=>ls.length - x.1) (x:=(i,false)) (i+1,((y / 2 ^ (x - n):Nat):Int) == (v:Int)) (by simp only;omega) ⟨by simp only;omega,hnext hh,by simp only;rw [hsm1,hsb,hfar,decide_eq_true hxn,Bool.false_or,Bool.true_and,zcM]⟩ iS (fun w h=>iH h)
     ·refine zk [] mixed ?_
      (refine za 0 ?_;refine za 1 ?_)
      (refine zN 2 ?_;refine zN 3 ?_)
      refine cO 4 rfl rfl rfl (zi (j:=i) rfl rfl rfl hlt) ?_
      refine cO 5 rfl rfl rfl (zq rfl hfn.there.there hcell) ?_
      (refine zN 6 ?_;refine zN 7 ?_)
      rw [show decide ((x:Int) > (n:Int))=false from by simp;omega]
      (refine zN 8 ?_)
      (refine zD 9 ?_;refine zD 10 ?_;refine zD 11 ?_;refine zD 12 ?_;refine zD 13 ?_;refine zD 14 ?_;refine zD 15 ?_;refine zD 16 ?_;refine zD 17 ?_;refine zD 18 ?_;refine zD 19 ?_;refine zD 20 ?_;refine zD 21 ?_)
      (refine zN 22 ?_)
      (refine za 23 ?_;refine za 24 ?_)
      refine cD ?_
      refine kW ?_
      refine zf (X:=Nat × Bool) (μ:=fun x=>ls.length - x.1) (x:=(i,false)) (i+1,false) (by simp only;omega) ⟨by simp only;omega,hnext hh,by simp only;rw [hsm1,hsb,hfar,decide_eq_false hxn];rfl⟩ iS (fun w h=>iH h)
  ·have hil:i=l.length:=by omega
   have hsy:Zl l n v=none:=Y0 (by rw [←hil];exact hnone)
   have hex:XU l n v=false:=by unfold XU;rw [←hil,←hsm];simpa using hc
   rw [hsy] at hrd
   simp only at hrd
   rw [if_pos hex] at hrd
   exact hfin 0 3 n D1 _ _ hB1 hrd rfl rfl (fun w h=>iH h)
  ·have hil:i=l.length:=by omega
   have hsy:Zl l n v=none:=Y0 (by rw [←hil];exact hnone)
   have hex:¬XU l n v=false:=by unfold XU;rw [←hil,←hsm];simpa using hc
   rw [hsy] at hrd
   simp only at hrd
   rw [if_neg hex] at hrd
   have hB2:=hB1
   obtain ⟨ht,rfl,hob⟩:=hB2
   refine cP rfl rfl (zgu q d.length (t+n) fa fc _ _ (by repeat (first|assumption|exact Fnd.here|refine Fnd.there ?_)) hl ht) ?_
   (repeat' first|refine kW ?_|refine kU fun bk=>?_|refine kV fun hc=>?_|refine kZ (fun hc=>?_) fun hc=>?_|fail)
   ·rw [if_pos (by omega)] at hrd
    exact hfin 0 4 n _ _ _ hB1 hrd rfl rfl (fun w h=>iH h)
   ·rw [if_neg (by omega)] at hrd
    refine ze (vH v 1 rfl rfl rfl rfl rfl (by simp only [IntKind.bits];omega)) rfl ?_
    refine kW ?_
    refine cC rfl rfl (Gv.take (zgv q (t+n) _ d (C::L) (zm hob) hl (by omega)) (by repeat (first|exact Take.here|apply Take.there))) (fun r L' hp=>?_)
    obtain ⟨rfl,rfl⟩:=hp
    have hB3:BiS q d fa fc (t+n+1) [(q,cl [.slice fa d.length fc,.int .i64 ((t+n+1:Nat):Int)] 151)] L:=⟨by omega,rfl,hob⟩
    have hbt:val d / 2 ^ (t+n) % 2 < 2:=Nat.mod_lt _ (by decide)
    refine kW ?_
    refine ze (YT (val d / 2 ^ (t+n) % 2) v 1 rfl rfl rfl rfl rfl (by simpa using hbt) (by simp only [IntKind.bits];omega)) rfl ?_
    rw [show val d / 2 ^ (t+n) % 2+v * 2 ^ 1=hv (val d) t (n+1) from by simp only [hv];rw [←hv0];omega]
    refine kW ?_
    refine zf (X:=Nat × Chunk) (μ:=fun x=>16 - x.1) (x:=(n,D)) (n+1,_) (by simp only;omega) ⟨by simp only;omega,hB3,hrd⟩ iS (fun w h=>iH h)
 ·have hn16:n=16:=by omega
  subst hn16
  exact hfin 0 3 16 D1 _ _ hB1 hrd rfl rfl (fun w h=>iH h)
end Go.Proofs.YtemdlifojcgplaaGreatDoor
namespace Go.Hf
open Go.Vx Go.Pm
set_option linter.all false
theorem zkd (w t:Nat):∀n,hv w t n=mir (w / 2 ^ t) n
 |0=>rfl
 |n+1=>by
  rw [hv,mir,zkd w t n,Nat.div_div_eq_div_mul,←Nat.pow_add]
theorem zg6 (v:Nat) {m:Nat}:∀{n:Nat},n≤m→mir (v % 2 ^ m) n=mir v n
 |0,_=>rfl
 |n+1,h=>by
  rw [mir,mir,zg6 v (show n≤m by omega)]
  congr 1
  obtain ⟨k,rfl⟩:∃k,m=n+(k+1):=⟨m - n - 1,by omega⟩
  rw [Nat.pow_add,Nat.mod_mul_right_div_self]
  exact Nat.mod_mod_of_dvd _ (by rw [Nat.pow_succ];exact Nat.dvd_mul_left 2 (2 ^ k))
theorem zg5 (v:Nat):∀(n j:Nat),j < n→mir v n / 2 ^ j % 2=v / 2 ^ (n - 1 - j) % 2
 |0,j,h=>by omega
 |n+1,0,_=>by
  rw [mir,Nat.pow_zero,Nat.div_one,show n+1 - 1 - 0=n from by omega]
  omega
 |n+1,j+1,h=>by
  have ih:=zg5 v n j (by omega)
  rw [mir,Nat.pow_succ,Nat.mul_comm (2 ^ j),←Nat.div_div_eq_div_mul,show (2 * mir v n+v / 2 ^ n % 2) / 2=mir v n from by omega,ih]
  congr 2
  congr 1
  omega
theorem zer (v n:Nat):∀i,i≤n→mir (mir v n) i=v % 2 ^ n / 2 ^ (n - i)
 |0,_=>by
  rw [mir,Nat.sub_zero,Nat.div_eq_of_lt (Nat.mod_lt _ (Nat.pow_pos (by decide)))]
 |i+1,h=>by
  rw [mir,zer v n i (by omega),zg5 v n i (by omega)]
  have e:v % 2 ^ n / 2 ^ (n - (i+1))=v / 2 ^ (n - (i+1)) % 2 ^ (i+1):=by
   obtain ⟨k,rfl⟩:∃k,n=k+(i+1):=⟨n - (i+1),by omega⟩
   rw [show k+(i+1) - (i+1)=k from by omega,Nat.pow_add 2 k,Nat.mod_mul_right_div_self]
  have e2:v % 2 ^ n / 2 ^ (n - i)=v / 2 ^ (n - (i+1)) / 2 % 2 ^ i:=by
   obtain ⟨k,rfl⟩:∃k,n=k+(i+1):=⟨n - (i+1),by omega⟩
   rw [show k+(i+1) - (i+1)=k from by omega,show k+(i+1) - i=k+1 from by omega,Nat.div_div_eq_div_mul,←Nat.pow_succ,
    show k+(i+1)=(k+1)+i from by omega,Nat.pow_add 2 (k+1) i,Nat.mod_mul_right_div_self]
  rw [e,e2,show n - 1 - i=n - (i+1) from by omega,Nat.pow_succ,Nat.mul_comm (2 ^ i) 2,Nat.mod_mul]
  omega
theorem znx (v n:Nat):mir (mir v n) n=v % 2 ^ n:=by
 rw [zer v n n (Nat.le_refl _),Nat.sub_self,Nat.pow_zero,Nat.div_one]
theorem zke (w t:Nat):∀(k m:Nat),hv w t m=hv w t (m+k) / 2 ^ k
 |0,m=>by simp
 |k+1,m=>by
  rw [zke w t k m,←Nat.add_assoc,hv,Nat.pow_succ,Nat.mul_comm (2 ^ k),←Nat.div_div_eq_div_mul]
  congr 1
  omega
theorem zao {l:List Nat} {n v i:Nat}:hit l n v i=true↔l.getD i 0=n∧0 < n∧cd l i=v:=by
 simp [hit,and_assoc]
theorem getD_some {l:List Nat} {i n:Nat} (h:l.getD i 0=n) (h0:0 < n):l[i]? =some n:=by
 have hi:=getD_lt (l:=l) (i:=i) (by omega)
 rw [←h]
 simp [List.getD,hi]
theorem zbw {l:List Nat} {i n:Nat} (hi:l[i]? =some n) (h0:0 < n):Zl l n (cd l i)=some i:=by
 have hg:l.getD i 0=n:=by simp [List.getD,hi]
 have hl:=getD_lt (l:=l) (i:=i) (by omega)
 refine find_range hl (zao.2 ⟨hg,h0,rfl⟩) fun j hj=>?_
 cases hh:hit l n (cd l i) j with
 |false=>rfl
 |true=>
  obtain ⟨h1,h2,h3⟩:=zao.1 hh
  have:=zpe (getD_some h1 h2) hi (by omega) h3
  omega
theorem zbv {l:List Nat} {n v:Nat} (h:v < fs l n∨fs l n+cn l n≤v):Zl l n v=none:=by
 refine Y0 fun j hj=>?_
 cases hh:hit l n v j with
 |false=>rfl
 |true=>
  obtain ⟨h1,h2,h3⟩:=zao.1 hh
  have:=zd3 (getD_some h1 h2) (by omega)
  omega
theorem QZ {l:List Nat} {v:Nat}:Zl l 0 v=none:=by
 refine Y0 fun j hj=>?_
 simp [hit]
theorem zaV {l:List Nat} {n v:Nat}:XU l n v=true↔ext l n v:=by
 unfold XU ext
 rw [List.any_eq_true]
 constructor
 ·rintro ⟨i,hi,hf⟩
  simp only [far,Bool.and_eq_true,decide_eq_true_eq,beq_iff_eq] at hf
  exact ⟨i,l.getD i 0,getD_some rfl (by omega),hf.1,hf.2⟩
 ·rintro ⟨i,m,hi,hm,he⟩
  have hg:l.getD i 0=m:=by simp [List.getD,hi]
  refine ⟨i,List.mem_range.2 (getD_lt (by omega)),?_⟩
  simp only [far,hg,Bool.and_eq_true,decide_eq_true_eq,beq_iff_eq]
  exact ⟨hm,he⟩
theorem zp0 {l:List Nat} {i n w t z:Nat} (hi:l[i]? =some n) (h0:0 < n) (h15:n≤15) (hb:hv w t n=cd l i) (hz:t+n≤z):rdS l w t z 16 0=(i,0,n):=by
 have key:∀m,m≤n→rdS l w t z 16 0=rdS l w t z (16 - m) m:=by
  intro m
  induction m with
  |zero=>intro _;rfl
  |succ m ih=>
   intro hm
   rw [ih (by omega),show 16 - m=(16 - (m+1))+1 from by omega,rdS]
   have hp:hv w t m=cd l i / 2 ^ (n - m):=by
    rw [←hb,zke w t (n - m) m,show m+(n - m)=n from by omega]
   have hs:Zl l m (hv w t m)=none:=by
    rcases Nat.eq_zero_or_pos m with h|h
    ·subst h;exact QZ
    ·exact zbv (.inr (by rw [hp];exact zbY hi h (by omega)))
   have he:¬XU l m (hv w t m)=false:=by
    have:XU l m (hv w t m)=true:=zaV.2 ⟨i,n,hi,by omega,hp.symm⟩
    rw [this];simp
   rw [hs]
   simp only
   rw [if_neg he,if_neg (by omega)]
 rw [key n (Nat.le_refl _),show 16 - n=(15 - n)+1 from by omega,rdS,hb,zbw hi h0]
theorem zkj (l:List Nat):kS l=(((List.range l.length).filter fun i=>decide (0 < l.getD i 0)).map fun i=>2 ^ (15 - l.getD i 0)).sum:=by
 have key:∀n,n≤l.length→kS (l.take n)=(((List.range n).filter fun i=>decide (0 < l.getD i 0)).map fun i=>2 ^ (15 - l.getD i 0)).sum:=by
  intro n
  induction n with
  |zero=>intro _;rfl
  |succ n ih=>
   intro hn
   have hlt:n < l.length:=by omega
   have hg:l.getD n 0=l[n]:=by simp [List.getD,hlt]
   rw [List.take_add_one,List.getElem?_eq_getElem hlt,zfz,ih (by omega),List.range_succ,List.filter_append,List.map_append,List.sum_append]
   congr 1
   simp only [Option.toList,kS,←hg]
   generalize hq:(fun i=>decide (0 < l.getD i 0))=q
   have hqn:q n=decide (0 < l.getD n 0):=by rw [←hq]
   by_cases h:0 < l.getD n 0
   ·rw [if_pos h,List.filter_cons,hqn,if_pos (by simpa using h)]
    rfl
   ·rw [if_neg h,List.filter_cons,hqn,if_neg (by simpa using h)]
    rfl
 have:=key l.length (Nat.le_refl _)
 rwa [List.take_length] at this
theorem zgS {l is:List Nat} (h:is.Perm ((List.range l.length).filter fun i=>decide (0 < l.getD i 0))):kS l=(is.map fun i=>2 ^ (15 - l.getD i 0)).sum:=by
 rw [zkj]
 exact ((h.map _).sum_nat).symm
theorem zir (f:Nat→Nat) (is:List Nat):sumTo (fun r=>f (is.getD r 0)) is.length=(is.map f).sum:=by
 have key:∀n,n≤is.length→sumTo (fun r=>f (is.getD r 0)) n=((is.take n).map f).sum:=by
  intro n
  induction n with
  |zero=>intro _;rfl
  |succ n ih=>
   intro hn
   have hlt:n < is.length:=by omega
   rw [sumTo,ih (by omega),List.take_add_one,List.getElem?_eq_getElem hlt,List.map_append,List.sum_append]
   simp [List.getD,hlt]
 have:=key is.length (Nat.le_refl _)
 rwa [List.take_length] at this
theorem zcr (c:Nat) (f:Nat→Nat):∀n,sumTo (fun r=>c * f r) n=c * sumTo f n
 |0=>rfl
 |n+1=>by simp only [sumTo,zcr c f n,Nat.mul_add]
theorem zkk {l is:List Nat} {L:Nat} {g:Nat→Nat} (h:is.Perm ((List.range l.length).filter fun i=>decide (0 < l.getD i 0))) (hL:L≤15) (hg:∀r,r < is.length→l.getD (is.getD r 0) 0=g r) (hb:∀r,r < is.length→g r≤L)
 (hw:sumTo (fun r=>2 ^ (L - g r)) is.length=2 ^ L):kS l=32768:=by
 rw [zgS h,←zir]
 have e:sumTo (fun r=>2 ^ (15 - l.getD (is.getD r 0) 0)) is.length=2 ^ (15 - L) * sumTo (fun r=>2 ^ (L - g r)) is.length:=by
  rw [←zcr]
  refine sumTo_congr fun r hr=>?_
  rw [hg r hr,←Nat.pow_add]
  have:=hb r hr
  congr 1
  omega
 rw [e,hw,←Nat.pow_add,show 15 - L+L=15 from by omega]
end Go.Hf
namespace Go.Vx
open Go
set_option linter.all false
variable [W0]
section
variable {P : Program} {ops : Array Oper} {Q : Exit → Act → World → Prop} {md : Region.Mode} {S : World → Prop} {T : List Nat}
theorem zbK {i:Nat} {oi:Oper} {v:Value} (hi:ops[i]? =some oi) (hsel:∀(j:Nat) (o:Oper) cs b,ops[j]? =some o→o.op≠.select cs b)
 (hQ:∀c a w,Q (.panic c) (a.put oi.dst v) w→Q (.panic c) a w) :
 ∀(fuel:Nat) (listed:Array Bool) (a:Act) (w:World),(∀j∈T,j≠i→listed.getD j false=true∨∃f,zbG md ops i f j=true)→
  (∀j oj,ops[j]? =some oj→j≠i→listed.getD j true=false→(∀e∈oj.after,Region.binds md e=true→e.on≠i)→oi.apart ops oj=true)→DC md ops listed→
  i∈Region.ready md ops listed→YieldsIf P ops S oi v a→S w→
  Yg P md ops Q S T fuel (listed.setIfInBounds i true) (a.put oi.dst v) w→Yg P md ops Q S T (fuel+1) listed a w:=by
 intro fuel
 induction fuel with
 |zero=>
  intro listed a w _ _ _ hr hy hS H
  refine ⟨fun h=>(by rw [h] at hr;cases hr),fun j hj=>?_⟩
  by_cases hji:j=i
  ·subst hji;exact hy.wpOp hi hS ⟨fun _=>hS,H⟩
  ·have:=ready_mono hj hji
   rw [H.1] at this
   cases this
 |succ fuel ih=>
  intro listed a w hT hfree hdc hr hy hS H
  refine ⟨fun h=>(by rw [h] at hr;cases hr),fun j hj=>?_⟩
  by_cases hji:j=i
  ·subst hji;exact hy.wpOp hi hS ⟨fun _=>hS,H⟩
  ·have h1:=H.2 j (ready_mono hj hji)
   obtain ⟨hjun,oj,hoj,hall⟩:=mem_ready.1 hj
   have hun:=(mem_ready.1 hr).1
   have hnot:∀e∈oj.after,Region.binds md e=true→e.on≠i:=fun e he hb heq=>by
    have h1:=hall e he hb
    rw [heq] at h1
    exact vD hun h1
   have hnT:j∉T:=fun hm=>by
    rcases hT j hm hji with hl|⟨f,hf⟩
    ·exact vD hjun hl
    ·exact vD hun (zbS hdc f j oj hf hoj hall)
   have h2:=wpOp_putIf hoj (hfree j oj hoj hji hjun hnot) (fun cs b=>hsel i oi cs b hi) (fun cs b=>hsel j oj cs b hoj) hQ hy h1
   have hfree':∀k ok,ops[k]? =some ok→k≠i→(listed.setIfInBounds j true).getD k true=false→
    (∀e∈ok.after,Region.binds md e=true→e.on≠i)→oi.apart ops ok=true:=fun k ok hk hki hun hno=>by
    refine hfree k ok hk hki ?_ hno
    by_cases hjk:j=k
    ·subst hjk;exact hjun
    ·rw [getD_set_ne true hjk] at hun;exact hun
   have hT':∀k∈T,k≠i→(listed.setIfInBounds j true).getD k false=true∨∃f,zbG md ops i f k=true:=fun k hk hki=>(hT k hk hki).imp getD_set_true id
   refine wpOp_mono (fun a' w' h3=>⟨fun _=>h3.2.1 hnT,ih (listed.setIfInBounds j true) a' w' hT' hfree' (hdc.set hj) (ready_mono hr (Ne.symm hji)) h3.1 (h3.2.1 hnT) ?_⟩) h2
   rw [Array.setIfInBounds_comm _ _ hji]
   exact h3.2.2
theorem zdG {i:Nat} {oi:Oper} {v:Value} (hi:ops[i]? =some oi) (hsel:∀(j:Nat) (o:Oper) cs b,ops[j]? =some o→o.op≠.select cs b)
 (hQ:∀c a w,Q (.panic c) (a.put oi.dst v) w→Q (.panic c) a w) (hiT:i∈T) :
 ∀(fuel:Nat) (listed:Array Bool) (a:Act) (w:World),
  (∀j oj,ops[j]? =some oj→j≠i→listed.getD j true=false→(∀e∈oj.after,Region.binds md e=true→e.on≠i)→oi.apart ops oj=true)→DC md ops listed→
  i∈Region.ready md ops listed→YieldsIf P ops (fun _=>True) oi v a→
  Yg P md ops Q S T fuel (listed.setIfInBounds i true) (a.put oi.dst v) w→Yg P md ops Q S T (fuel+1) listed a w:=by
 intro fuel
 induction fuel with
 |zero=>
  intro listed a w _ _ hr hy H
  refine ⟨fun h=>(by rw [h] at hr;cases hr),fun j hj=>?_⟩
  by_cases hji:j=i
  ·subst hji;exact hy.wpOp hi trivial ⟨fun hn=>absurd hiT hn,H⟩
  ·have:=ready_mono hj hji
   rw [H.1] at this
   cases this
 |succ fuel ih=>
  intro listed a w hfree hdc hr hy H
  refine ⟨fun h=>(by rw [h] at hr;cases hr),fun j hj=>?_⟩
  by_cases hji:j=i
  ·subst hji;exact hy.wpOp hi trivial ⟨fun hn=>absurd hiT hn,H⟩
  ·have h1:=H.2 j (ready_mono hj hji)
   obtain ⟨hjun,oj,hoj,hall⟩:=mem_ready.1 hj
   have hun:=(mem_ready.1 hr).1
   have hnot:∀e∈oj.after,Region.binds md e=true→e.on≠i:=fun e he hb heq=>by
    have h1:=hall e he hb
    rw [heq] at h1
    exact vD hun h1
   have h2:=wpOp_putIf hoj (hfree j oj hoj hji hjun hnot) (fun cs b=>hsel i oi cs b hi) (fun cs b=>hsel j oj cs b hoj) hQ hy h1
   have hfree':∀k ok,ops[k]? =some ok→k≠i→(listed.setIfInBounds j true).getD k true=false→
    (∀e∈ok.after,Region.binds md e=true→e.on≠i)→oi.apart ops ok=true:=fun k ok hk hki hun hno=>by
    refine hfree k ok hk hki ?_ hno
    by_cases hjk:j=k
    ·subst hjk;exact hjun
    ·rw [getD_set_ne true hjk] at hun;exact hun
   refine wpOp_mono (fun a' w' h3=>⟨h3.2.1,ih (listed.setIfInBounds j true) a' w' hfree' (hdc.set hj) (ready_mono hr (Ne.symm hji)) h3.1 ?_⟩) h2
   rw [Array.setIfInBounds_comm _ _ hji]
   exact h3.2.2
end
omit [W0] in
def zgc (ops:List Oper) (T:List Nat) (listed:Array Bool) (i:Nat):Bool:=
 Region.noSelect ops.toArray&&Region.free .any ops.toArray listed i&&(Region.ready .any ops.toArray listed).contains i&&dcB .any ops.toArray listed
  &&T.all fun j=>j == i||listed.getD j false||zbG .any ops.toArray i ops.length j
omit [W0] in
def zgd (ops:List Oper) (T:List Nat) (listed:Array Bool) (i:Nat):Bool:=
 Region.noSelect ops.toArray&&Region.free .any ops.toArray listed i&&(Region.ready .any ops.toArray listed).contains i&&dcB .any ops.toArray listed&&T.contains i
section
variable {P : Program} {n : Nat} {Q : Exit → Act → World → Prop} {M : List (Nat × Value)} {L S : List Chunk} {ops : List Oper} {T : List Nat} {fuel : Nat} {listed : Array Bool} {d : Nat} {v : Value}
theorem yB (i:Nat) {o:Oper} (hi:ops[i]? =some o) (hg:o.guard=none) (hb:zgc ops T listed i=true) (hPO:PO Q) (hinc:Inc S L) (he:EV P n o M S d v) (hn:Nat.blt d n=true)
 (h:WR P n ops Q S T fuel (listed.setIfInBounds i true) ((d,v)::M) L):WR P n ops Q S T (fuel+1) listed M L:=⟨fun a w ha hw=>by
 simp only [zgc,Bool.and_eq_true,List.all_eq_true,Bool.or_eq_true,beq_iff_eq] at hb
 obtain ⟨⟨⟨⟨h1,h2⟩,h3⟩,h4⟩,h5⟩:=hb
 have hi':ops.toArray[i]? =some o:=by simpa using hi
 refine zbK hi' (Region.noSelect_spec h1) (fun c a w hq=>hPO.out c a _ _ w hq) fuel listed a w (fun j hj hne=>?_) (Region.free_spec hi' h2) (DC.of h4) (by simpa using h3) (.inl ⟨by simp [Region.wanted,hg],fun w hw=>he.run a w ha hw⟩) (hinc.holds hw) ?_
 ·rcases h5 j hj with (h|h)|h
  ·exact absurd h hne
  ·exact .inl h
  ·exact .inr ⟨_,h⟩
 ·rw [he.dst]
  exact h.out _ w (ha.put v hn) hw⟩
structure EF (P:Program) (n:Nat) (o:Oper) (M:List (Nat × Value)) (d:Nat) (v:Value):Prop where
 dst:o.dst=some d
 run:∀a w,St n M a→(execOp a.eval o).run P w=.ok (.value v) w
theorem ziU (i:Nat) {o:Oper} (hi:ops[i]? =some o) (hg:o.guard=none) (hb:zgd ops T listed i=true) (hPO:PO Q) (he:EF P n o M d v) (hn:Nat.blt d n=true)
 (h:WR P n ops Q S T fuel (listed.setIfInBounds i true) ((d,v)::M) L):WR P n ops Q S T (fuel+1) listed M L:=⟨fun a w ha hw=>by
 simp only [zgd,Bool.and_eq_true] at hb
 obtain ⟨⟨⟨⟨h1,h2⟩,h3⟩,h4⟩,h5⟩:=hb
 have hi':ops.toArray[i]? =some o:=by simpa using hi
 refine zdG hi' (Region.noSelect_spec h1) (fun c a w hq=>hPO.out c a _ _ w hq) (by simpa using h5) fuel listed a w (Region.free_spec hi' h2) (DC.of h4) (by simpa using h3) (.inl ⟨by simp [Region.wanted,hg],fun w _=>he.run a w ha⟩) ?_
 rw [he.dst]
 exact h.out _ w (ha.put v hn) hw⟩
variable {ty : TypeId} {ps : String} {af : Array Edge} {g : Option (Nat × Bool)} {x y : Operand}
theorem zmh (hx:ev M x=some v):EF P n ⟨some d,.move x,ty,ps,af,g⟩ M d v:=⟨rfl,fun a w ha=>by simp [execOp,ha.eval hx]⟩
theorem ziy {op:BinOp} {t u:TypeId} {i j r:Int} (hx:ev M x=some (.int .i64 i)) (hy:ev M y=some (.int .i64 j)) (hb:zdQ op i j=some r) (h1: -9223372036854775808≤r∧r≤9223372036854775807) :
 EF P n ⟨some d,.binOp op t x y u,ty,ps,af,g⟩ M d (.int .i64 r):=⟨rfl,fun a w ha=>by
 have hw:=wrap_i64 h1.1 h1.2
 cases op<;>simp [zdQ] at hb<;>subst hb<;>simp [execOp,ha.eval hx,ha.eval hy,eqGuard,binOp,Op.intArith,hw]⟩
theorem Zy {X:Type} {x y:Code} (MI:X→List (Nat × Value)) (LI:X→List Chunk) (J:X→Prop) (h1:WC P n x (Exit.then (fun a' w'=>∃z,J z∧St n (MI z) a'∧Holds w' (LI z)) Q) M L) (h2:∀z,J z→WC P n y Q (MI z) (LI z)):WC P n (.seq x y) Q M L:=⟨fun a w ha hw=>by
 refine wp_seq (wp_mono (h1.out a w ha hw) ?_)
 intro e a' w' hq
 cases e with
 |normal=>
  obtain ⟨z,hz,hs,hw'⟩:=hq
  exact (h2 z hz).out a' w' hs hw'
 |exit id=>exact hq
 |goto l=>exact hq
 |ret=>exact hq
 |panic c=>exact hq
 |outgrown=>exact hq⟩
theorem yA {X:Type} {MI:X→List (Nat × Value)} {LI:X→List Chunk} {J:X→Prop} (z:X) (hJ:J z) (hM:Sub (MI z) M) (hL:∀w,Holds w L→Holds w (LI z)):WQ n (fun a' w'=>∃z,J z∧St n (MI z) a'∧Holds w' (LI z)) M L:=⟨fun _ w ha hw=>⟨z,hJ,ha.sub hM,hL w hw⟩⟩
theorem yU (i:Nat) {o:Oper} (h:WR P n ops Q S T fuel (listed.setIfInBounds i true) ((d,v)::M) L)
 (hi:ops[i]? =some o:=by exact rfl) (hg:o.guard=none:=by exact rfl) (hb:zgc ops T listed i=true:=by kernel_rfl) (hPO:PO Q:=by exact iP) (hinc:Inc S L:=by exact iC) (he:EV P n o M S d v:=by exact (by first|(show EV _ _ ⟨_,.move _,_,_,_,_⟩ _ _ _ _;first|exact ZO rfl)|(show EV _ _ ⟨_,.assign _,_,_,_,_⟩ _ _ _ _;first|exact yQ rfl)|(show EV _ _ ⟨_,.nilCheck _,_,_,_,_⟩ _ _ _ _;first|exact qY rfl)|(show EV _ _ ⟨_,.fieldAddr ..,_,_,_,_⟩ _ _ _ _;first|exact qm rfl|exact yH rfl)|(show EV _ _ ⟨_,.load ..,_,_,_,_⟩ _ _ _ _;first|exact zy rfl (by repeat (first|assumption|exact Fnd.here|refine Fnd.there ?_)) rfl|exact qW rfl (by repeat (first|assumption|exact Fnd.here|refine Fnd.there ?_)) rfl)|(show EV _ _ ⟨_,.binOp ..,_,_,_,_⟩ _ _ _ _;first|exact Xi rfl rfl rfl|exact qU rfl rfl rfl (by omega)|exact ZQ rfl rfl (by decide) (Ya (by omega) (by simp [IntKind.bits];rfl))|exact uy rfl rfl|exact Zc rfl rfl|exact Zb rfl rfl|exact qp rfl rfl|exact qw rfl rfl|exact qZ rfl rfl|exact q8 rfl rfl|exact vO rfl rfl|exact vP rfl rfl)|(show EV _ _ ⟨_,.convert ..,_,_,_,_⟩ _ _ _ _;first|exact zO rfl (wrap_i64 (by omega) (by omega))|exact zO rfl (wrap_u64 (by omega) (by omega))|exact zO rfl rfl)|(show EV _ _ ⟨_,.extract ..,_,_,_,_⟩ _ _ _ _;first|exact w9 rfl rfl)|(show EV _ _ ⟨_,.unOp ..,_,_,_,_⟩ _ _ _ _;first|exact Xl rfl)|(show EV _ _ ⟨_,.pick ..,_,_,_,_⟩ _ _ _ _;first|exact ZP rfl rfl)|(show EV _ _ ⟨_,.call ⟨.builtin .len,_,_⟩,_,_,_,_⟩ _ _ _ _;first|exact Za rfl|exact vQ rfl)|(show EV _ _ ⟨_,.call ⟨.builtin .cap,_,_⟩,_,_,_,_⟩ _ _ _ _;first|exact u7 rfl)|(show EV _ _ ⟨_,.call ⟨.builtin .min,_,_⟩,_,_,_,_⟩ _ _ _ _;first|exact Xk rfl rfl)|(show EV _ _ ⟨_,.call ⟨.builtin .max,_,_⟩,_,_,_,_⟩ _ _ _ _;first|exact Xj rfl rfl)|(show EV _ _ ⟨_,.makeInterface ..,_,_,_,_⟩ _ _ _ _;first|exact yM rfl)|(show EV _ _ ⟨_,.makeFunc ..,_,_,_,_⟩ _ _ _ _;first|exact qX rfl rfl)|(show EV _ _ ⟨_,.typeAssert ..,_,_,_,_⟩ _ _ _ _;first|exact qC rfl|exact qV rfl rfl)|(show EV _ _ ⟨_,.build ..,_,_,_,_⟩ _ _ _ _;first|exact uo rfl (by simp [zA,patch,Value.cells];rfl)))) (hn:Nat.blt d n=true:=by exact rfl) :
 WR P n ops Q S T (fuel+1) listed M L:=yB i hi hg hb hPO hinc he hn h
theorem Qj (i:Nat) {o:Oper} (h:WR P n ops Q S T fuel (listed.setIfInBounds i true) ((d,v)::M) L)
 (hi:ops[i]? =some o:=by exact rfl) (hg:o.guard=none:=by exact rfl) (hb:zgd ops T listed i=true:=by kernel_rfl) (hPO:PO Q:=by exact iP) (he:EF P n o M d v:=by first|exact zmh rfl|exact ziy rfl rfl rfl (by omega)) (hn:Nat.blt d n=true:=by exact rfl) :
 WR P n ops Q S T (fuel+1) listed M L:=ziU i hi hg hb hPO he hn h
end
end Go.Vx
namespace Go.If
open Go.Vx Go.Hf
set_option linter.all false
structure S6 where
 t:Nat
 out:List UInt8
 e:Nat
def fl (s:S6) (k:Nat):S6:=if s.e=0 then ⟨s.t,s.out,k⟩ else s
def tk (d:List UInt8) (s:S6) (n:Nat):S6:=if s.t+n≤8 * d.length then ⟨s.t+n,s.out,s.e⟩ else fl s 4
def tv [W0] (d:List UInt8) (s:S6) (n:Nat):Nat:=if s.t+n≤8 * d.length then val d / 2 ^ s.t % 2 ^ n else 0
def pt (most:Nat) (s:S6) (c:UInt8):S6:=if most≤s.out.length then fl s 5 else ⟨s.t,s.out++[c],s.e⟩
def sy [W0] (d:List UInt8) (s:S6) (l:List Nat):S6:=if s.e=0 then fl ⟨s.t+(rdS l (val d) s.t (8 * d.length) 16 0).2.2,s.out,s.e⟩ (rdS l (val d) s.t (8 * d.length) 16 0).2.1 else s
def sv [W0] (d:List UInt8) (s:S6) (l:List Nat):Nat:=if s.e=0 then (rdS l (val d) s.t (8 * d.length) 16 0).1 else 0
theorem vU (s:S6) (k:Nat):(fl s k).t=s.t:=by unfold fl;split<;>rfl
theorem ql (s:S6) (k:Nat):(fl s k).out=s.out:=by unfold fl;split<;>rfl
theorem ZF (s:S6) (k:Nat):(fl s k).e=if s.e=0 then k else s.e:=by unfold fl;split<;>rfl
theorem yw (d:List UInt8) (s:S6) (n:Nat):(tk d s n).out=s.out:=by
 unfold tk
 split
 ·rfl
 ·exact ql _ _
end Go.If
namespace Go.Proofs.YtemdlifojcgplaaGreatDoor
open Go Go.Vx Go.Hf Go.If
variable [W0]
set_option maxRecDepth 4000
set_option linter.all false
theorem wU (d:List UInt8) (s:S6) (n:Nat):tv d s n < 2 ^ n:=by
 unfold tv
 split
 ·exact Nat.mod_lt _ (Nat.pow_pos (by decide))
 ·exact Nat.pow_pos (by decide)
end Go.Proofs.YtemdlifojcgplaaGreatDoor
namespace Go.If
open Go.Vx Go.Hf
set_option linter.all false
def stL [W0] (d:List UInt8) (most:Nat):Nat→S6→S6
 |0,s=>s
 |k+1,s=>if s.e=0 then stL d most k (if (tk d s 8).e=0 then pt most (tk d s 8) (UInt8.ofNat (tv d s 8)) else tk d s 8) else s
def stS [W0] (d:List UInt8) (most:Nat) (s:S6):S6:=
 let s0:S6:=⟨8 * ((s.t+7) / 8),s.out,s.e⟩
 let s1:=tk d s0 16
 let s2:=tk d s1 16
 stL d most (tv d s0 16) (if tv d s0 16+tv d s1 16=65535 then s2 else fl s2 3)
theorem zhR {n m:Nat} (h:n+m=65535):n&&&m=0:=by
 have e:m=2 ^ 16 - (n+1):=by omega
 apply Nat.eq_of_testBit_eq
 intro i
 rw [Nat.testBit_and,e,Nat.testBit_two_pow_sub_succ (by omega),Nat.zero_testBit]
 rcases Nat.testBit n i with _|_<;>simp
theorem zeA (most:Nat) (s:S6) (c:UInt8):(pt most s c).t=s.t:=by
 unfold pt
 split
 ·exact vU _ _
 ·rfl
end Go.If
namespace Go.Proofs.YtemdlifojcgplaaGreatDoor
open Go Go.Vx Go.Hf Go.If
variable [W0]
set_option maxRecDepth 4000
set_option linter.all false
theorem QF {n:Nat} (h:n < 65536):IntKind.i64.wrap (n:Int)=(n:Int):=by
 simp only [IntKind.wrap,IntKind.bits,IntKind.signed]
 simp
 omega
theorem Qm {a b:Nat} (ha:a < 65536) (hb:b < 65536):zcN .and .i64 (a:Int) (b:Int)=some ((a&&&b:Nat):Int):=by
 have h1:a&&&b≤a:=Nat.and_le_left
 have e:((BitVec.ofInt 64 (a:Int)&&&BitVec.ofInt 64 (b:Int)).toNat)=a&&&b:=by
  rw [BitVec.toNat_and,BitVec.ofInt_natCast,BitVec.ofInt_natCast,BitVec.toNat_ofNat,BitVec.toNat_ofNat,Nat.mod_eq_of_lt (by omega),Nat.mod_eq_of_lt (by omega)]
 show some (IntKind.i64.wrap (((BitVec.ofInt 64 (a:Int)&&&BitVec.ofInt 64 (b:Int)).toNat:Nat):Int))=_
 rw [e]
 congr 1
 exact QF (by omega)
theorem byte_of {n:Nat} (h:n < 256):((UInt8.ofNat n).toNat:Int)=(n:Int):=by
 rw [UInt8.toNat_ofNat']
 omega
end Go.Proofs.YtemdlifojcgplaaGreatDoor
namespace Go.If
open Go.Vx Go.Hf Go.Pm
set_option linter.all false
def exB (s g st:Nat):Nat:=if s < st then 0 else (s - st) / g+1
def baB (first g st:Nat):Nat→Nat
 |0=>first
 |s+1=>baB first g st s+2 ^ exB s g st
def fxN (i:Nat):Nat:=if 256≤i∧i < 280 then 7 else if 144≤i∧i < 256 then 9 else 8
def fxL:List Nat:=(List.range 288).map fxN
def fxD:List Nat:=List.replicate 32 5
def sgl (l:List Nat):Bool:=l.all (fun x=>decide (x≤1))&&decide (l.sum < 2)
end Go.If
namespace Go.If
open Go.Vx Go.Hf
set_option linter.all false
def cpL (most far:Nat):Nat→S6→S6
 |0,s=>s
 |k+1,s=>if s.e=0 then cpL most far k (pt most s (s.out.getD (s.out.length - far) 0)) else s
def lnB (s:Nat):Nat × Nat:=if s=285 then (258,0) else (baB 3 4 8 (s - 257),exB (s - 257) 4 8)
def mtD [W0] (d:List UInt8) (most n t:Nat) (s:S6):S6:=
 cpL most (baB 1 2 4 t+tv d s (exB t 2 4)) n (if (tk d s (exB t 2 4)).e=0∧(tk d s (exB t 2 4)).out.length < baB 1 2 4 t+tv d s (exB t 2 4) then fl (tk d s (exB t 2 4)) 3 else tk d s (exB t 2 4))
def mtS [W0] (d:List UInt8) (most k:Nat) (dl:List Nat) (s:S6):S6:=
 if 285 < k then fl s 3
 else if (sy d (tk d s (lnB k).2) dl).e≠0 then sy d (tk d s (lnB k).2) dl
 else if 29 < sv d (tk d s (lnB k).2) dl then fl (sy d (tk d s (lnB k).2) dl) 3
 else mtD d most ((lnB k).1+tv d s (lnB k).2) (sv d (tk d s (lnB k).2) dl) (sy d (tk d s (lnB k).2) dl)
theorem zo3:∀t,t < 30→baB 1 2 4 t≤32768:=by decide
theorem zjP:∀t,t < 30→exB t 2 4≤13:=by decide
theorem ziZ:∀t,t < 30→baB 3 4 8 t≤400:=by decide
theorem zfr:∀t,t < 30→exB t 4 8≤6:=by decide
theorem zgt:∀t,1≤baB 1 2 4 t
 |0=>Nat.le_refl _
 |t+1=>by
  have:=zgt t
  have h2:0 < 2 ^ exB t 2 4:=Nat.pow_pos (by decide)
  unfold baB
  omega
end Go.If
namespace Go.Proofs.YtemdlifojcgplaaGreatDoor
open Go Go.Vx Go.Hf Go.If
variable [W0]
set_option maxRecDepth 4000
set_option linter.all false
theorem Zi (l:List Nat):nl (icn l)=l:=by simp [nl,icn,Function.comp_def]
theorem zbu (d:List UInt8) (s:S6) (l:List Nat):(sy d s l).out=s.out:=by
 unfold sy
 split
 ·exact ql _ _
 ·rfl
end Go.Proofs.YtemdlifojcgplaaGreatDoor
namespace Go.Hf
open Go.Vx
set_option linter.all false
theorem zeY {l:List Nat} {n v i:Nat} (h:Zl l n v=some i):i < l.length∧0 < n:=by
 have h1:=List.mem_of_find?_eq_some h
 have h2:=List.find?_some h
 exact ⟨List.mem_range.1 h1,(zao.1 h2).2.1⟩
theorem zdr (l:List Nat) (w t z:Nat):∀f n,(rdS l w t z f n).1≤l.length∧((rdS l w t z f n).2.1=0→1≤(rdS l w t z f n).2.2)
 |0,n=>⟨Nat.zero_le _,fun h=>by simp [rdS] at h⟩
 |f+1,n=>by
  have ih:=zdr l w t z f (n+1)
  unfold rdS
  split
  ·rename_i i h
   have:=zeY h
   exact ⟨by simp only;omega,fun _=>this.2⟩
  ·split
   ·exact ⟨Nat.zero_le _,fun h=>by simp at h⟩
   ·split
    ·exact ⟨Nat.zero_le _,fun h=>by simp at h⟩
    ·exact ih
end Go.Hf
namespace Go.If
open Go.Vx Go.Hf
set_option linter.all false
def cdC [W0] (d:List UInt8) (most:Nat) (l dl:List Nat):Nat→S6→S6
 |0,s=>s
 |f+1,s=>if s.e≠0 then s else if (sy d s l).e≠0 then sy d s l else if sv d s l < 256 then cdC d most l dl f (pt most (sy d s l) (UInt8.ofNat (sv d s l)))
   else if sv d s l=256 then sy d s l else cdC d most l dl f (mtS d most (sv d s l) dl (sy d s l))
theorem zai [W0] {d:List UInt8} {most:Nat} {l dl:List Nat} {s:S6} (h:s.e≠0):∀f,cdC d most l dl f s=s
 |0=>rfl
 |f+1=>by rw [cdC,if_pos h]
theorem zqg (d:List UInt8) (s:S6) (n:Nat):s.t≤(tk d s n).t:=by
 unfold tk
 split
 ·exact Nat.le_add_right _ _
 ·rw [vU];exact Nat.le_refl _
theorem zrc [W0] (d:List UInt8) (s:S6) (l:List Nat):s.t≤(sy d s l).t:=by
 unfold sy
 split
 ·rw [vU];exact Nat.le_add_right _ _
 ·exact Nat.le_refl _
theorem zoP [W0] {d:List UInt8} {s:S6} {l:List Nat} (h0:s.e=0) (h1:(sy d s l).e=0):s.t+1≤(sy d s l).t:=by
 unfold sy at h1 ⊢
 rw [if_pos h0] at h1 ⊢
 rw [vU]
 rw [ZF,if_pos h0] at h1
 have:=(zdr l (val d) s.t (8 * d.length) 16 0).2 h1
 simp only
 omega
theorem zoO [W0] (d:List UInt8) (s:S6) (l:List Nat):sv d s l≤l.length:=by
 unfold sv
 split
 ·exact (zdr l _ _ _ _ _).1
 ·exact Nat.zero_le _
theorem zov (most far:Nat):∀n s,(cpL most far n s).t=s.t
 |0,s=>rfl
 |n+1,s=>by
  unfold cpL
  split
  ·rw [zov most far n]
   unfold pt
   split
   ·exact vU _ _
   ·rfl
  ·rfl
theorem zoD [W0] (d:List UInt8) (most k:Nat) (dl:List Nat) (s:S6):s.t≤(mtS d most k dl s).t:=by
 unfold mtS
 have h1:=zqg d s (lnB k).2
 have h2:=zrc d (tk d s (lnB k).2) dl
 generalize tk d s (lnB k).2=s1 at h1 h2 ⊢
 generalize sy d s1 dl=s2 at h2 ⊢
 split
 ·rw [vU];exact Nat.le_refl _
 ·split
  ·omega
  ·split
   ·rw [vU];omega
   ·unfold mtD
    have h3:=zqg d s2 (exB (sv d s1 dl) 2 4)
    rw [zov]
    split
    ·rw [vU];omega
    ·omega
end Go.If
namespace Go.Proofs.YtemdlifojcgplaaGreatDoor
open Go Go.Vx Go.Hf Go.If
variable [W0]
set_option maxRecDepth 4000
set_option linter.all false
theorem zhS (p t:Nat) (v:Value) (L:List Chunk) (ht:t≤1125899906842624) :
 Gv Tryz.prog 136 [.pointer (some ⟨p,0,none⟩)].toArray ([(p,cl [v,.int .i64 (t:Int)] 151)]::L) (fun r L'=>r=.tuple #[]∧L'=[(p,cl [v,.int .i64 ((8 * ((t+7) / 8):Nat):Int)] 151)]::L):=by
 refine Gv.of_body Tryz.func136 rfl rfl ?_
 refine kW ?_
 refine ze (uN (t+7) 8 rfl rfl (by omega) rfl (by decide) (by omega)) rfl ?_
 refine kW ?_
 rw [show (((t+7) / 8:Nat):Int) * 8=((8 * ((t+7) / 8):Nat):Int) from by omega]
 skip
 refine kR ?_
 exact ⟨_,iC,rfl,rfl⟩
theorem zja (p t n:Nat) (fa:Option Addr) (fc:Nat) (d:List UInt8) (L:List Chunk) (hv:Sl L 1 (.slice fa d.length fc) d.length (bsv d)) (hl:d.length≤140737488355328) (ht:t≤8 * d.length) (hn:n≤32) :
 Gv Tryz.prog 135 [.pointer (some ⟨p,0,none⟩),.int .i64 (n:Int)].toArray ([(p,cl [.slice fa d.length fc,.int .i64 (t:Int)] 151)]::L) (fun r L'=>
  (t+n≤8 * d.length∧r=.tuple #[.int .u32 ((val d / 2 ^ t % 2 ^ n:Nat):Int),.bool true]∧L'=[(p,cl [.slice fa d.length fc,.int .i64 ((t+n:Nat):Int)] 151)]::L)∨
  (¬t+n≤8 * d.length∧r=.tuple #[.int .u32 0,.bool false]∧L'=[(p,cl [.slice fa d.length fc,.int .i64 (t:Int)] 151)]::L)):=by
 refine Gv.of_body Tryz.func135 rfl rfl ?_
 (refine kW ?_;refine kV fun hc=>?_;refine kW ?_)
 refine cP rfl rfl (zgu p d.length t fa fc _ _ Fnd.here hl ht) ?_
 (repeat' first|refine kW ?_|refine kU fun bk=>?_|refine kV fun hc=>?_|refine kZ (fun hc=>?_) fun hc=>?_|fail)
 ·refine zT (rs:=[.tmp 4,.tmp 5]) (vs:=[.int .u32 0,.bool false]) rfl rfl ?_
  exact ⟨_,iC,.inr ⟨by omega,rfl,rfl⟩⟩
 refine zn (X:=Nat) (fun k=>[(0,.pointer (some ⟨p,0,none⟩)),(1,.int .i64 (n:Int)),(6,.int .u32 ((val d / 2 ^ t % 2 ^ k:Nat):Int)),(7,.int .i64 (k:Int))])
  (fun k=>[(p,cl [.slice fa d.length fc,.int .i64 ((t+k:Nat):Int)] 151)]::L) (fun k=>k≤n) (fun k=>n - k) 0 (Nat.zero_le _) (Sub.cons rfl (Sub.cons rfl (Sub.cons (by rw [Nat.pow_zero,Nat.mod_one];rfl) iS))) (fun w h=>h) ?_
 intro k hk
 (repeat' first|refine kW ?_|refine kU fun bk=>?_|refine kV fun hc=>?_|refine kZ (fun hc=>?_) fun hc=>?_|fail)
 ·have hml:val d / 2 ^ t % 2 ^ k < 2 ^ k:=Nat.mod_lt _ (Nat.pow_pos (by decide))
  refine cC rfl rfl (zgv p (t+k) (.slice fa d.length fc) d L hv hl (by omega)) (fun r L' hp=>?_)
  obtain ⟨rfl,rfl⟩:=hp
  have e3:val d / 2 ^ t % 2 ^ k+val d / 2 ^ (t+k) % 2 * 2 ^ k=val d / 2 ^ t % 2 ^ (k+1):=by
   rw [Nat.pow_add 2 k 1,Nat.mod_mul,Nat.pow_one,Nat.div_div_eq_div_mul,←Nat.pow_add,Nat.mul_comm (2 ^ k)]
  have e4:val d / 2 ^ t % 2 ^ (k+1) < 2 ^ (k+1):=Nat.mod_lt _ (Nat.pow_pos (by decide))
  have e5:2 ^ (k+1)≤2 ^ 32:=Nat.pow_le_pow_right (by decide) (by omega)
  refine kW ?_
  refine ze (vH (val d / 2 ^ (t+k) % 2) k rfl rfl rfl rfl rfl (by simp only [IntKind.bits];omega)) rfl ?_
  refine kW ?_
  refine ze (ze9 (val d / 2 ^ t % 2 ^ k) (val d / 2 ^ (t+k) % 2) k rfl rfl rfl rfl rfl hml (by simp only [IntKind.bits];omega)) rfl ?_
  rw [e3]
  refine kW ?_
  refine zf (X:=Nat) (μ:=fun k=>n - k) (x:=k) (k+1) (by omega) (by omega) iS (fun w h=>h)
 ·obtain rfl:k=n:=by omega
  refine kR ?_
  exact ⟨_,iC,.inl ⟨by omega,rfl,rfl⟩⟩
omit [W0] in
def wkC (p q:Nat) (v:Value) (most e:Nat):Chunk:=[(p,cl [.pointer (some ⟨q,0,none⟩),v,.int .i64 (most:Int),.int .i64 (e:Int)] 153)]
omit [W0] in
def biC (q:Nat) (fa:Option Addr) (m fc t:Nat):Chunk:=[(q,cl [.slice fa m fc,.int .i64 (t:Int)] 151)]
theorem wO (p q most k e:Nat) (v:Value) (L:List Chunk) :
 Gv Tryz.prog 104 [.pointer (some ⟨p,0,none⟩),.int .i64 (k:Int)].toArray (wkC p q v most e::L) (fun r L'=>r=.tuple #[]∧L'=wkC p q v most (if e=0 then k else e)::L):=by
 refine Gv.of_body Tryz.func104 rfl rfl ?_
 unfold wkC
 (repeat' first|refine kW ?_|refine kU fun bk=>?_|refine kV fun hc=>?_|refine kZ (fun hc=>?_) fun hc=>?_|fail)
 ·have h0:e=0:=by omega
  rw [if_pos h0]
  refine kR ?_
  exact ⟨_,iC,rfl,rfl⟩
 ·have h0:¬e=0:=by omega
  rw [if_neg h0]
  refine kR ?_
  exact ⟨_,iC,rfl,rfl⟩
theorem wY (p q most n:Nat) (v:Value) (fa:Option Addr) (fc:Nat) (d:List UInt8) (s:S6) (L:List Chunk) (hv:Sl L 1 (.slice fa d.length fc) d.length (bsv d)) (hl:d.length≤140737488355328) (ht:s.t≤8 * d.length) (hn:n≤32) :
 Gv Tryz.prog 99 [.pointer (some ⟨p,0,none⟩),.int .i64 (n:Int)].toArray (wkC p q v most s.e::biC q fa d.length fc s.t::L) (fun r L'=>
  r=.int .i64 ((tv d s n:Nat):Int)∧L'=wkC p q v most (tk d s n).e::biC q fa d.length fc (tk d s n).t::L∧(tk d s n).t≤8 * d.length):=by
 refine Gv.of_body Tryz.func99 rfl rfl ?_
 have hbt:=zja q s.t n fa fc d (wkC p q v most s.e::L) (zm hv) hl ht hn
 have hb32:val d / 2 ^ s.t % 2 ^ n < 2 ^ 32:=Nat.lt_of_lt_of_le (Nat.mod_lt _ (Nat.pow_pos (by decide))) (Nat.pow_le_pow_right (by decide) hn)
 unfold wkC biC tv tk
 unfold wkC at hbt
 obtain ⟨t,out,e⟩:=s
 simp only at hbt hb32 ht ⊢
 refine kW ?_
 refine cC rfl rfl (Gv.holds hbt (fun w h=>iH h)) (fun r L' hp=>?_)
 rcases hp with ⟨h1,rfl,rfl⟩|⟨h1,rfl,rfl⟩
 ·simp only [if_pos h1]
  refine kW ?_
  refine kR ?_
  exact ⟨_,iC,rfl,rfl,h1⟩
 ·simp only [if_neg h1,fl]
  (repeat' first|refine kW ?_|refine kU fun bk=>?_|refine kV fun hc=>?_|refine kZ (fun hc=>?_) fun hc=>?_|fail)
  ·obtain rfl:e=0:=by omega
   refine kR ?_
   exact ⟨_,iC,rfl,rfl,ht⟩
  ·have h0:¬e=0:=by omega
   simp only [if_neg h0]
   refine kR ?_
   exact ⟨_,iC,rfl,rfl,ht⟩
theorem zdH (p q most:Nat) (c:UInt8) (v:Value) (s:S6) (C:Chunk) (L:List Chunk) (ho:Ow 5 1 v s.out.length (bsv s.out) C) (hm:most≤1000000) :
 Gv Tryz.prog 137 [.pointer (some ⟨p,0,none⟩),.int .u8 (c.toNat:Int)].toArray (wkC p q v most s.e::C::L) (fun r L'=>
  ∃v' C',r=.tuple #[]∧Ow 5 1 v' (pt most s c).out.length (bsv (pt most s c).out) C'∧L'=wkC p q v' most (pt most s c).e::C'::L):=by
 refine Gv.of_body Tryz.func137 rfl rfl ?_
 obtain ⟨t,out,e⟩:=s
 simp only at ho ⊢
 obtain ⟨va,vc,rfl⟩:=zM ho
 by_cases h1:most≤out.length
 ·have hf:=wO p q most 5 e (.slice va out.length vc) (C::L)
  simp only [pt,if_pos h1,ql,ZF]
  unfold wkC at hf ⊢
  refine kW ?_
  refine zk [] mixed ?_
  (refine za 0 ?_;refine za 1 ?_;refine za 2 ?_;refine za 3 ?_;refine za 4 ?_;refine za 5 ?_;refine za 6 ?_;refine za 7 ?_;refine za 8 ?_;refine za 9 ?_)
  refine cD ?_
  (refine kW ?_;refine kV fun hc=>?_;refine kW ?_)
  refine cC rfl rfl hf (fun r L' hp=>?_)
  obtain ⟨rfl,rfl⟩:=hp
  refine kW ?_
  refine kR ?_
  exact ⟨_,iC,_,_,rfl,ho,rfl⟩
 ·simp only [pt,if_neg h1]
  unfold wkC
  refine kW ?_
  refine zk [] mixed ?_
  (refine za 0 ?_;refine za 1 ?_;refine za 2 ?_;refine za 3 ?_;refine za 4 ?_;refine za 5 ?_;refine za 6 ?_;refine za 7 ?_;refine za 8 ?_;refine za 9 ?_)
  refine cD ?_
  (refine kW ?_;refine kV fun hc=>?_;refine kW ?_)
  refine zl (cs:=[.int .u8 (c.toNat:Int)]) rfl (by rfl) (by first|(simp [zA,patch,Value.cells,zeros];done)|(simp [zA,patch,Value.cells,zeros];rfl)) (by omega) rfl rfl (fun bn=>?_)
  refine kW ?_
  refine zu rfl rfl ho (zF (k:=1) (c:=#[.int .u8 (c.toNat:Int)]) (xs:=[.int .u8 (c.toNat:Int)]) (m:=1) Fnd.here rfl (by simp)) (by repeat (first|exact Zip.here _|apply Zip.there)) rfl (by rfl) (by omega) (by simp [maxLen];omega) rfl (fun v' C' ho' _ _=>?_)
  refine kW ?_
  refine zG [.pointer (some ⟨q,0,none⟩),v',.int .i64 (most:Int),.int .i64 (e:Int)] rfl rfl (by rcases ho' with ⟨rfl,_⟩|⟨_,_,_,rfl,_⟩<;>rfl) rfl iU (by simp) ?_
  refine kW ?_
  refine kR ?_
  rw [List.length_append,show bsv (out++[c])=bsv out++[Value.int .u8 (c.toNat:Int)] from by simp [bsv]]
  exact ⟨_,iC,v',C',rfl,ho',rfl⟩
theorem zgk (p q most:Nat) (v:Value) (a:Option Addr) (c:Nat) (ls:List Int) (fa:Option Addr) (fc:Nat) (d:List UInt8) (s:S6) (L:List Chunk) (h:Sl L 1 (.slice a ls.length c) ls.length (yg ls)) (hok:cdE ls=0)
 (hv:Sl L 1 (.slice fa d.length fc) d.length (bsv d)) (hl:d.length≤140737488355328) (ht:s.t≤8 * d.length) :
 Gv Tryz.prog 138 [.pointer (some ⟨p,0,none⟩),.slice a ls.length c].toArray (wkC p q v most s.e::biC q fa d.length fc s.t::L) (fun r L'=>
  r=.int .i64 ((sv d s (nl ls):Nat):Int)∧L'=wkC p q v most (sy d s (nl ls)).e::biC q fa d.length fc (sy d s (nl ls)).t::L∧(sy d s (nl ls)).t≤8 * d.length):=by
 refine Gv.of_body Tryz.func138 rfl rfl ?_
 obtain ⟨t,out,e⟩:=s
 simp only at ht ⊢
 by_cases h1:e=0
 ·have hr:=zf0 a c ls fa fc q t d (biC q fa d.length fc t) (wkC p q v most e::L) (zm h) hok ⟨ht,rfl,zm hv⟩ hl
  simp only [sy,sv,if_pos h1]
  subst h1
  generalize rdS (nl ls) (val d) t (8 * d.length) 16 0=z at hr ⊢
  obtain ⟨z1,z2,z3⟩:=z
  simp only at hr ⊢
  have hf:=wO p q most z2 0 v (biC q fa d.length fc (t+z3)::L)
  simp only [ZF,vU,if_true]
  unfold wkC biC at hr hf ⊢
  refine kW ?_
  refine cC rfl rfl (Gv.holds hr (fun w h=>iH h)) (fun r L' hp=>?_)
  obtain ⟨D',rfl,⟨ht2,rfl,_⟩,rfl⟩:=hp
  refine kW ?_
  refine cC rfl rfl (Gv.holds hf (fun w h=>iH h)) (fun r L' hp=>?_)
  obtain ⟨rfl,rfl⟩:=hp
  simp only [if_true]
  refine kW ?_
  refine kR ?_
  exact ⟨_,iC,rfl,rfl,ht2⟩
 ·simp only [sy,sv,if_neg h1]
  unfold wkC biC
  (refine kW ?_;refine kV fun hc=>?_;refine kW ?_)
  refine kR ?_
  exact ⟨_,iC,rfl,rfl,ht⟩
theorem ziw (p q most:Nat) (v:Value) (fa:Option Addr) (fc:Nat) (d:List UInt8) (s:S6) (C:Chunk) (L:List Chunk) (hv:Sl L 1 (.slice fa d.length fc) d.length (bsv d)) (hl:d.length≤1000000) (ht:s.t≤8 * d.length) (hm:most≤1000000)
 (ho:Ow 5 1 v s.out.length (bsv s.out) C) :
 Gv Tryz.prog 100 [.pointer (some ⟨p,0,none⟩)].toArray (wkC p q v most s.e::biC q fa d.length fc s.t::C::L) (fun r L'=>
  ∃v' C',r=.tuple #[]∧Ow 5 1 v' (stS d most s).out.length (bsv (stS d most s).out) C'∧L'=wkC p q v' most (stS d most s).e::biC q fa d.length fc (stS d most s).t::C'::L∧(stS d most s).t≤8 * d.length):=by
 refine Gv.of_body Tryz.func100 rfl rfl ?_
 have hst:stS d most s=stL d most (tv d ⟨8 * ((s.t+7) / 8),s.out,s.e⟩ 16) (if tv d ⟨8 * ((s.t+7) / 8),s.out,s.e⟩ 16+tv d (tk d ⟨8 * ((s.t+7) / 8),s.out,s.e⟩ 16) 16=65535 then tk d (tk d ⟨8 * ((s.t+7) / 8),s.out,s.e⟩ 16) 16 else fl (tk d (tk d ⟨8 * ((s.t+7) / 8),s.out,s.e⟩ 16) 16) 3):=rfl
 rw [hst]
 clear hst
 have hal:=zhS q s.t (.slice fa d.length fc) (wkC p q v most s.e::C::L) (by omega)
 obtain ⟨s0,hs0⟩:∃s0:S6,s0=⟨8 * ((s.t+7) / 8),s.out,s.e⟩:=⟨_,rfl⟩
 have e0:s.e=s0.e:=by rw [hs0]
 have et:8 * ((s.t+7) / 8)=s0.t:=by rw [hs0]
 have eo:s.out=s0.out:=by rw [hs0]
 rw [←hs0]
 rw [e0,et] at hal
 have ht0:s0.t≤8 * d.length:=by omega
 rw [e0]
 rw [eo] at ho
 clear hs0
 have ht1:=wY p q most 16 v fa fc d s0 (C::L) (zm hv) (by omega) ht0 (by omega)
 have ht2:=fun h=>wY p q most 16 v fa fc d (tk d s0 16) (C::L) (zm hv) (by omega) h (by omega)
 have hf:=wO p q most 3 (tk d (tk d s0 16) 16).e v (biC q fa d.length fc (tk d (tk d s0 16) 16).t::C::L)
 have hn1:=wU d s0 16
 have hn2:=wU d (tk d s0 16) 16
 have ho2:Ow 5 1 v (tk d (tk d s0 16) 16).out.length (bsv (tk d (tk d s0 16) 16).out) C:=by rw [yw,yw];exact ho
 have hw1:∀v e (L:List Chunk),wkC p q v most e::L=[(p,cl [.pointer (some ⟨q,0,none⟩),v,.int .i64 (most:Int),.int .i64 (e:Int)] 153)]::L:=fun _ _ _=>rfl
 obtain ⟨n,hn⟩:∃n,n=tv d s0 16:=⟨_,rfl⟩
 obtain ⟨m,hm'⟩:∃m,m=tv d (tk d s0 16) 16:=⟨_,rfl⟩
 rw [←hn] at hn1 ht1 ⊢
 rw [←hm'] at hn2 ht2 ⊢
 rw [hw1]
 refine kW ?_
 refine cC rfl rfl (Gv.holds hal (fun w h=>iH h)) (fun r L' hp=>?_)
 obtain ⟨rfl,rfl⟩:=hp
 refine kW ?_
 refine cC rfl rfl (Gv.holds ht1 (fun w h=>iH h)) (fun r L' hp=>?_)
 obtain ⟨rfl,rfl,hb1⟩:=hp
 refine kW ?_
 refine cC rfl rfl (ht2 hb1) (fun r L' hp=>?_)
 obtain ⟨rfl,rfl,hb2⟩:=hp
 (repeat' first|refine kW ?_|refine kU fun bk=>?_|refine kV fun hc=>?_|refine kZ (fun hc=>?_) fun hc=>?_|fail)
 ·rw [if_neg (show ¬n+m=65535 by omega)]
  refine cC rfl rfl hf (fun r L' hp=>?_)
  obtain ⟨rfl,rfl⟩:=hp
  rw [show (if (tk d (tk d s0 16) 16).e=0 then 3 else (tk d (tk d s0 16) 16).e)=(fl (tk d (tk d s0 16) 16) 3).e from (ZF _ _).symm,show (tk d (tk d s0 16) 16).t=(fl (tk d (tk d s0 16) 16) 3).t from (vU _ _).symm]
  rw [←vU _ 3] at hb2
  rw [←ql _ 3] at ho2
  generalize fl (tk d (tk d s0 16) 16) 3=s3 at hb2 ho2 ⊢
  clear hf
  refine kW ?_
  refine zn (X:=Nat × S6 × Value × Chunk) (fun x=>[(0,.pointer (some ⟨p,0,none⟩)),(2,.int .i64 (n:Int)),(4,.int .i64 (x.1:Int))]) (fun x=>wkC p q x.2.2.1 most x.2.1.e::biC q fa d.length fc x.2.1.t::x.2.2.2::L)
   (fun x=>x.1≤n∧x.2.1.t≤8 * d.length∧Ow 5 1 x.2.2.1 x.2.1.out.length (bsv x.2.1.out) x.2.2.2∧stL d most n s3=stL d most (n - x.1) x.2.1) (fun x=>n - x.1) (0,s3,v,C) ⟨Nat.zero_le _,hb2,ho2,rfl⟩ iS (fun w h=>h) ?_
  rintro ⟨i,s4,v1,C1⟩ ⟨hi,hst,hov,hsl⟩
  simp only at hi hst hov hsl ⊢
  rw [hw1]
  (repeat' first|refine kW ?_|refine kU fun bk=>?_|refine kV fun hc=>?_|refine kZ (fun hc=>?_) fun hc=>?_|fail)
  ·have ht8:=wY p q most 8 v1 fa fc d s4 (C1::L) (zm hv) (by omega) hst (by omega)
   have hput:=fun c=>zdH p q most c v1 (tk d s4 8) C1 (biC q fa d.length fc (tk d s4 8).t::L) (by rw [yw];exact hov) hm
   have he0:s4.e=0:=by omega
   obtain ⟨k,hk⟩:∃k,n - i=k+1:=⟨n - i - 1,by omega⟩
   have hk2:n - (i+1)=k:=by omega
   rw [hk,stL,if_pos he0] at hsl
   refine cC rfl rfl ht8 (fun r L' hp=>?_)
   obtain ⟨rfl,rfl,hb8⟩:=hp
   rw [hw1]
   (repeat' first|refine kW ?_|refine kU fun bk=>?_|refine kV fun hc=>?_|refine kZ (fun hc=>?_) fun hc=>?_|fail)
   ·have he1:(tk d s4 8).e=0:=by omega
    rw [if_pos he1] at hsl
    try rw [u6]
    have hp1:=hput (UInt8.ofNat (tv d s4 8))
    unfold wkC at hp1
    refine cC rfl rfl (Gv.holds hp1 (fun w h=>iH h)) (fun r L' hp=>?_)
    obtain ⟨v2,C2,rfl,ho3,rfl⟩:=hp
    refine kW ?_
    refine zf (X:=Nat × S6 × Value × Chunk) (μ:=fun x=>n - x.1) (x:=(i,s4,v1,C1)) (i+1,pt most (tk d s4 8) (UInt8.ofNat (tv d s4 8)),v2,C2) (by simp only;omega) ⟨by simp only;omega,by simp only;rw [zeA];exact hb8,ho3,by simp only;rw [hk2];exact hsl⟩ iS (fun w h=>?_)
    simp only [zeA]
    unfold wkC
    exact iH h
   ·have he1:¬(tk d s4 8).e=0:=by omega
    rw [if_neg he1] at hsl
    refine zf (X:=Nat × S6 × Value × Chunk) (μ:=fun x=>n - x.1) (x:=(i,s4,v1,C1)) (i+1,tk d s4 8,v1,C1) (by simp only;omega) ⟨by simp only;omega,hb8,by simp only;rw [yw];exact hov,by simp only;rw [hk2];exact hsl⟩ iS (fun w h=>h)
  ·have he0:¬s4.e=0:=by omega
   obtain ⟨k,hk⟩:∃k,n - i=k+1:=⟨n - i - 1,by omega⟩
   rw [hk,stL,if_neg he0] at hsl
   rw [hsl]
   refine kR ?_
   exact ⟨_,iC,v1,C1,rfl,hov,rfl,hst⟩
  ·rw [show n - i=0 from by omega,stL] at hsl
   rw [hsl]
   refine kR ?_
   exact ⟨_,iC,v1,C1,rfl,hov,rfl,hst⟩
 ·refine ze (wZ (r:=((n&&&m:Nat):Int)) rfl rfl (Qm hn1 hn2)) rfl ?_
  rw [zhR (show n+m=65535 by omega),if_pos (show n+m=65535 by omega)]
  generalize tk d (tk d s0 16) 16=s3 at hb2 ho2 ⊢
  refine kW ?_
  refine zn (X:=Nat × S6 × Value × Chunk) (fun x=>[(0,.pointer (some ⟨p,0,none⟩)),(2,.int .i64 (n:Int)),(4,.int .i64 (x.1:Int))]) (fun x=>wkC p q x.2.2.1 most x.2.1.e::biC q fa d.length fc x.2.1.t::x.2.2.2::L)
   (fun x=>x.1≤n∧x.2.1.t≤8 * d.length∧Ow 5 1 x.2.2.1 x.2.1.out.length (bsv x.2.1.out) x.2.2.2∧stL d most n s3=stL d most (n - x.1) x.2.1) (fun x=>n - x.1) (0,s3,v,C) ⟨Nat.zero_le _,hb2,ho2,rfl⟩ iS (fun w h=>h) ?_
  rintro ⟨i,s4,v1,C1⟩ ⟨hi,hst,hov,hsl⟩
  simp only at hi hst hov hsl ⊢
  rw [hw1]
  (repeat' first|refine kW ?_|refine kU fun bk=>?_|refine kV fun hc=>?_|refine kZ (fun hc=>?_) fun hc=>?_|fail)
  ·have ht8:=wY p q most 8 v1 fa fc d s4 (C1::L) (zm hv) (by omega) hst (by omega)
   have hput:=fun c=>zdH p q most c v1 (tk d s4 8) C1 (biC q fa d.length fc (tk d s4 8).t::L) (by rw [yw];exact hov) hm
   have he0:s4.e=0:=by omega
   obtain ⟨k,hk⟩:∃k,n - i=k+1:=⟨n - i - 1,by omega⟩
   have hk2:n - (i+1)=k:=by omega
   rw [hk,stL,if_pos he0] at hsl
   refine cC rfl rfl ht8 (fun r L' hp=>?_)
   obtain ⟨rfl,rfl,hb8⟩:=hp
   rw [hw1]
   (repeat' first|refine kW ?_|refine kU fun bk=>?_|refine kV fun hc=>?_|refine kZ (fun hc=>?_) fun hc=>?_|fail)
   ·have he1:(tk d s4 8).e=0:=by omega
    rw [if_pos he1] at hsl
    try rw [u6]
    have hp1:=hput (UInt8.ofNat (tv d s4 8))
    unfold wkC at hp1
    refine cC rfl rfl (Gv.holds hp1 (fun w h=>iH h)) (fun r L' hp=>?_)
    obtain ⟨v2,C2,rfl,ho3,rfl⟩:=hp
    refine kW ?_
    refine zf (X:=Nat × S6 × Value × Chunk) (μ:=fun x=>n - x.1) (x:=(i,s4,v1,C1)) (i+1,pt most (tk d s4 8) (UInt8.ofNat (tv d s4 8)),v2,C2) (by simp only;omega) ⟨by simp only;omega,by simp only;rw [zeA];exact hb8,ho3,by simp only;rw [hk2];exact hsl⟩ iS (fun w h=>?_)
    simp only [zeA]
    unfold wkC
    exact iH h
   ·have he1:¬(tk d s4 8).e=0:=by omega
    rw [if_neg he1] at hsl
    refine zf (X:=Nat × S6 × Value × Chunk) (μ:=fun x=>n - x.1) (x:=(i,s4,v1,C1)) (i+1,tk d s4 8,v1,C1) (by simp only;omega) ⟨by simp only;omega,hb8,by simp only;rw [yw];exact hov,by simp only;rw [hk2];exact hsl⟩ iS (fun w h=>h)
  ·have he0:¬s4.e=0:=by omega
   obtain ⟨k,hk⟩:∃k,n - i=k+1:=⟨n - i - 1,by omega⟩
   rw [hk,stL,if_neg he0] at hsl
   rw [hsl]
   refine kR ?_
   exact ⟨_,iC,v1,C1,rfl,hov,rfl,hst⟩
  ·rw [show n - i=0 from by omega,stL] at hsl
   rw [hsl]
   refine kR ?_
   exact ⟨_,iC,v1,C1,rfl,hov,rfl,hst⟩
theorem zkf {l:List Nat} {i:Nat} (h:i < l.length):(yg (icn l))[i]? =some (.int .i64 (l.getD i 0:Int)):=by simp [yg,icn,List.getD,h]
theorem zox (s g st:Nat) (L:List Chunk) (hs:s≤1000) (hg:0 < g) (hst:st≤1000) :
 GvP Tryz.prog 228 [.int .i64 (s:Int),.int .i64 (g:Int),.int .i64 (st:Int)].toArray L (.int .i64 ((exB s g st:Nat):Int)):=by
 refine Gv.of_body Tryz.func228 rfl rfl ?_
 unfold exB
 (repeat' first|refine kW ?_|refine kU fun bk=>?_|refine kV fun hc=>?_|refine kZ (fun hc=>?_) fun hc=>?_|fail)
 ·rw [if_pos (show s < st by omega)]
  exact kE
 ·rw [if_neg (show ¬s < st by omega)]
  have hq:(s - st) / g≤s - st:=Nat.div_le_self _ _
  refine ze (uN (s - st) g rfl rfl (by omega) rfl (by omega) (by omega)) rfl ?_
  generalize (s - st) / g=z at hq ⊢
  refine kW ?_
  refine kR ?_
  exact ⟨L,iC,by simp;rfl,rfl⟩
theorem zi1 (first s g st B:Nat) (L:List Chunk) (hf:first≤1000) (hs:s≤100) (hg:0 < g) (hst:st≤1000) (hB:∀i,i≤s→exB i g st≤20) :
 GvP Tryz.prog 188 [.int .i64 (first:Int),.int .i64 (s:Int),.int .i64 (g:Int),.int .i64 (st:Int)].toArray L (.tuple #[.int .i64 ((baB first g st s:Nat):Int),.int .i64 ((exB s g st:Nat):Int)]):=by
 refine Gv.of_body Tryz.func188 rfl rfl ?_
 refine kW ?_
 refine zn (X:=Nat) (fun i=>[(0,.int .i64 (first:Int)),(1,.int .i64 (s:Int)),(2,.int .i64 (g:Int)),(3,.int .i64 (st:Int)),(10,.int .i64 ((baB first g st i:Nat):Int)),(11,.int .i64 (i:Int))]) (fun _=>L)
  (fun i=>i≤s∧baB first g st i≤1000+i * 1048576) (fun i=>s - i) 0 ⟨Nat.zero_le _,by show first≤_;omega⟩ iS (fun w h=>h) ?_
 rintro i ⟨hi,hb⟩
 (repeat' first|refine kW ?_|refine kU fun bk=>?_|refine kV fun hc=>?_|refine kZ (fun hc=>?_) fun hc=>?_|fail)
 ·have hx:=hB i (by omega)
  have hp:2 ^ exB i g st≤2 ^ 20:=Nat.pow_le_pow_right (by decide) hx
  have hnx:baB first g st (i+1)=baB first g st i+2 ^ exB i g st:=rfl
  refine cP rfl rfl (zox i g st L (by omega) hg hst) ?_
  refine kW ?_
  refine ze (uq 1 (exB i g st) rfl rfl rfl rfl (by omega) (by omega)) rfl ?_
  refine kW ?_
  rw [Nat.one_mul,←Int.natCast_add,←hnx]
  refine zf (X:=Nat) (μ:=fun i=>s - i) (x:=i) (i+1) (by omega) ⟨by omega,by omega⟩ iS (fun w h=>h)
 ·obtain rfl:i=s:=by omega
  refine cP rfl rfl (zox i g st L (by omega) hg hst) ?_
  refine kW ?_
  refine kR ?_
  exact ⟨L,iC,rfl,rfl⟩
theorem zlC (a:Option Addr) (c:Nat) (l:List Nat) (L:List Chunk) (h:Sl L 1 (.slice a l.length c) l.length (yg (icn l))) (hl:l.length≤1000) :
 GvP Tryz.prog 142 [.slice a l.length c].toArray L (.bool (sgl l)):=by
 refine Gv.of_body Tryz.func142 rfl rfl ?_
 refine kW ?_
 refine zn (X:=Nat) (fun i=>[(0,.slice a l.length c),(3,.int .i64 (((l.take i).sum:Nat):Int)),(4,.int .i64 (i:Int))]) (fun _=>L)
  (fun i=>i≤l.length∧(l.take i).all (fun x=>decide (x≤1))=true∧(l.take i).sum≤i) (fun i=>l.length - i) 0 ⟨Nat.zero_le _,rfl,Nat.le_refl _⟩ iS (fun w h=>h) ?_
 rintro i ⟨hi,hal,hsm⟩
 (repeat' first|refine kW ?_|refine kU fun bk=>?_|refine kV fun hc=>?_|refine kZ (fun hc=>?_) fun hc=>?_|fail)
 ·have hlt:i < l.length:=by omega
  obtain ⟨b,off,cap,cc,T,fr,hve,hfn,hcell⟩:=yV h (zkf hlt)
  injection hve with q1 q2 q3
  subst q1 q3
  clear q2
  have hg:l.getD i 0=l[i]:=by simp [List.getD,hlt]
  have htk:l.take (i+1)=l.take i++[l.getD i 0]:=by rw [List.take_add_one,List.getElem?_eq_getElem hlt,hg];rfl
  have hmem:l.getD i 0∈l:=by rw [hg];exact List.getElem_mem _
  obtain ⟨x,hx⟩:∃x,x=l.getD i 0:=⟨_,rfl⟩
  rw [←hx] at hcell htk hmem
  refine ze (zi (j:=i) rfl rfl rfl hlt) rfl ?_
  refine kW ?_
  refine ze (zq rfl hfn hcell) rfl ?_
  (repeat' first|refine kW ?_|refine kU fun bk=>?_|refine kV fun hc=>?_|refine kZ (fun hc=>?_) fun hc=>?_|fail)
  ·refine kR ?_
   refine ⟨L,iC,congrArg Value.bool (show false=sgl l from ?_),rfl⟩
   have:l.all (fun x=>decide (x≤1))=false:=by
    rw [←Bool.not_eq_true,List.all_eq_true]
    intro hh
    have:=hh x hmem
    simp at this
    omega
   unfold sgl
   rw [this]
   rfl
  ·refine ze (zi (j:=i) rfl rfl rfl hlt) rfl ?_
   refine kW ?_
   refine ze (zq rfl hfn hcell) rfl ?_
   refine kW ?_
   have hs2:(((l.take (i+1)).sum:Nat):Int)=((l.take i).sum:Int)+(x:Int):=by rw [htk,List.sum_append];simp
   refine zf (X:=Nat) (μ:=fun i=>l.length - i) (x:=i) (i+1) (by omega) ⟨by omega,by rw [htk,List.all_append,hal];simp;omega,by rw [htk,List.sum_append];simp;omega⟩ ?_ (fun w h=>h)
   simp only [hs2]
   exact iS
 ·obtain rfl:i=l.length:=by omega
  rw [List.take_length] at hal hsm ⊢
  refine kR ?_
  refine ⟨L,iC,congrArg Value.bool (show decide ((l.sum:Int) < 2)=sgl l from ?_),rfl⟩
  unfold sgl
  rw [hal,Bool.true_and]
  exact decide_eq_decide.2 (by omega)
omit [W0] in
def fxP (i:Nat):List Nat:=(List.range i).map fxN
theorem zjY (i:Nat):yg (icn (fxP i))++[Value.int .i64 (fxN i:Int)]=yg (icn (fxP (i+1))):=by simp [yg,icn,fxP,List.range_succ]
theorem zla (i:Nat):yg (icn (List.replicate i 5))++[Value.int .i64 5]=yg (icn (List.replicate (i+1) 5)):=by simp [yg,icn,List.replicate_succ']
theorem znb (L:List Chunk):Gv Tryz.prog 101 #[] L (fun r L'=>∃u v C D,r=.tuple #[u,v]∧L'=D::C::L∧Ow 3 1 u 288 (yg (icn fxL)) C∧Ow 3 1 v 32 (yg (icn fxD)) D):=by
 refine Gv.of_body (args:=[]) Tryz.func101 rfl rfl ?_
 refine kW ?_
 refine zn (X:=Nat × Value × Chunk) (fun x=>[(2,x.2.1),(3,.slice none 0 0),(4,.int .i64 (x.1:Int))]) (fun x=>x.2.2::L)
  (fun x=>x.1≤288∧Ow 3 1 x.2.1 x.1 (yg (icn (fxP x.1))) x.2.2) (fun x=>288 - x.1) (0,.slice none 0 0,[]) ⟨Nat.zero_le _,.inl ⟨rfl,rfl,rfl,rfl⟩⟩ iS (fun w h=>Holds.nil.2 h) ?_
 rintro ⟨i,v,C⟩ ⟨hi,ho⟩
 simp only at hi ho ⊢
 have hst:=zjY i
 (repeat' first|refine kW ?_|refine kU fun bk=>?_|refine kV fun hc=>?_|refine kZ (fun hc=>?_) fun hc=>?_|fail)
 ·have e:fxN i=9:=by
   unfold fxN
   repeat' split
   all_goals omega
  rw [e] at hst
  refine zl (cs:=[.int .i64 9]) rfl (by rfl) (by first|(simp [zA,patch,Value.cells,zeros];done)|(simp [zA,patch,Value.cells,zeros];rfl)) (by omega) rfl rfl (fun bn=>?_)
  refine kW ?_
  refine zu rfl rfl ho (zF (k:=1) (c:=#[.int .i64 9]) (xs:=[.int .i64 9]) (m:=1) Fnd.here rfl (by simp)) (by repeat (first|exact Zip.here _|apply Zip.there)) rfl (by rfl) (by omega) (by simp [maxLen];omega) rfl (fun v' C' ho' _ _=>?_)
  rw [show [Value.int IntKind.i64 9]=[Value.int .i64 ((9:Nat):Int)] from rfl,hst] at ho'
  refine kW ?_
  refine zf (X:=Nat × Value × Chunk) (μ:=fun x=>288 - x.1) (x:=(i,v,C)) (i+1,v',C') (by simp only;omega) ⟨by simp only;omega,ho'⟩ iS (fun w h=>h.drop)
 ·have e:fxN i=7:=by
   unfold fxN
   repeat' split
   all_goals omega
  rw [e] at hst
  refine zl (cs:=[.int .i64 7]) rfl (by rfl) (by first|(simp [zA,patch,Value.cells,zeros];done)|(simp [zA,patch,Value.cells,zeros];rfl)) (by omega) rfl rfl (fun bn=>?_)
  refine kW ?_
  refine zu rfl rfl ho (zF (k:=1) (c:=#[.int .i64 7]) (xs:=[.int .i64 7]) (m:=1) Fnd.here rfl (by simp)) (by repeat (first|exact Zip.here _|apply Zip.there)) rfl (by rfl) (by omega) (by simp [maxLen];omega) rfl (fun v' C' ho' _ _=>?_)
  rw [show [Value.int IntKind.i64 7]=[Value.int .i64 ((7:Nat):Int)] from rfl,hst] at ho'
  refine kW ?_
  refine zf (X:=Nat × Value × Chunk) (μ:=fun x=>288 - x.1) (x:=(i,v,C)) (i+1,v',C') (by simp only;omega) ⟨by simp only;omega,ho'⟩ iS (fun w h=>h.drop)
 ·have e:fxN i=8:=by
   unfold fxN
   repeat' split
   all_goals omega
  rw [e] at hst
  refine zl (cs:=[.int .i64 8]) rfl (by rfl) (by first|(simp [zA,patch,Value.cells,zeros];done)|(simp [zA,patch,Value.cells,zeros];rfl)) (by omega) rfl rfl (fun bn=>?_)
  refine kW ?_
  refine zu rfl rfl ho (zF (k:=1) (c:=#[.int .i64 8]) (xs:=[.int .i64 8]) (m:=1) Fnd.here rfl (by simp)) (by repeat (first|exact Zip.here _|apply Zip.there)) rfl (by rfl) (by omega) (by simp [maxLen];omega) rfl (fun v' C' ho' _ _=>?_)
  rw [show [Value.int IntKind.i64 8]=[Value.int .i64 ((8:Nat):Int)] from rfl,hst] at ho'
  refine kW ?_
  refine zf (X:=Nat × Value × Chunk) (μ:=fun x=>288 - x.1) (x:=(i,v,C)) (i+1,v',C') (by simp only;omega) ⟨by simp only;omega,ho'⟩ iS (fun w h=>h.drop)
 ·have e:fxN i=8:=by
   unfold fxN
   repeat' split
   all_goals omega
  rw [e] at hst
  refine zl (cs:=[.int .i64 8]) rfl (by rfl) (by first|(simp [zA,patch,Value.cells,zeros];done)|(simp [zA,patch,Value.cells,zeros];rfl)) (by omega) rfl rfl (fun bn=>?_)
  refine kW ?_
  refine zu rfl rfl ho (zF (k:=1) (c:=#[.int .i64 8]) (xs:=[.int .i64 8]) (m:=1) Fnd.here rfl (by simp)) (by repeat (first|exact Zip.here _|apply Zip.there)) rfl (by rfl) (by omega) (by simp [maxLen];omega) rfl (fun v' C' ho' _ _=>?_)
  rw [show [Value.int IntKind.i64 8]=[Value.int .i64 ((8:Nat):Int)] from rfl,hst] at ho'
  refine kW ?_
  refine zf (X:=Nat × Value × Chunk) (μ:=fun x=>288 - x.1) (x:=(i,v,C)) (i+1,v',C') (by simp only;omega) ⟨by simp only;omega,ho'⟩ iS (fun w h=>h.drop)
 ·obtain rfl:i=288:=by omega
  clear hst
  refine zn (X:=Nat × Value × Chunk) (fun x=>[(2,v),(3,x.2.1),(6,.int .i64 (x.1:Int))]) (fun x=>x.2.2::C::L)
   (fun x=>x.1≤32∧Ow 3 1 x.2.1 x.1 (yg (icn (List.replicate x.1 5))) x.2.2) (fun x=>32 - x.1) (0,.slice none 0 0,[]) ⟨Nat.zero_le _,.inl ⟨rfl,rfl,rfl,rfl⟩⟩ iS (fun w h=>Holds.nil.2 h) ?_
  rintro ⟨j,u,D⟩ ⟨hj,hoj⟩
  simp only at hj hoj ⊢
  have hst:=zla j
  (repeat' first|refine kW ?_|refine kU fun bk=>?_|refine kV fun hc=>?_|refine kZ (fun hc=>?_) fun hc=>?_|fail)
  ·refine zl (cs:=[.int .i64 5]) rfl (by rfl) (by first|(simp [zA,patch,Value.cells,zeros];done)|(simp [zA,patch,Value.cells,zeros];rfl)) (by omega) rfl rfl (fun bn=>?_)
   refine kW ?_
   refine zu rfl rfl hoj (zF (k:=1) (c:=#[.int .i64 5]) (xs:=[.int .i64 5]) (m:=1) Fnd.here rfl (by simp)) (by repeat (first|exact Zip.here _|apply Zip.there)) rfl (by rfl) (by omega) (by simp [maxLen];omega) rfl (fun v' C' ho' _ _=>?_)
   rw [hst] at ho'
   refine kW ?_
   refine zf (X:=Nat × Value × Chunk) (μ:=fun x=>32 - x.1) (x:=(j,u,D)) (j+1,v',C') (by simp only;omega) ⟨by simp only;omega,ho'⟩ iS (fun w h=>h.drop)
  ·obtain rfl:j=32:=by omega
   refine kR ?_
   exact ⟨_,iC,v,u,C,D,rfl,rfl,ho,hoj⟩
end Go.Proofs.YtemdlifojcgplaaGreatDoor
namespace Go.Vx
open Go
set_option linter.all false
variable [W0]
omit [W0] in
abbrev Fr (ro:Option Nat):Fence:={ Fence.wide with round:=ro }
omit [W0] in
structure NL (Q:Exit→Act→World→Prop):Prop where
 out:∀a w,¬Q .outgrown a w
theorem NL.then {Q:Exit→Act→World→Prop} {K:Act→World→Prop} (h:NL Q):NL (Exit.then K Q):=⟨h.out⟩
theorem NL.block {Q:Exit→Act→World→Prop} {i:Nat} (h:NL Q):NL (Exit.inBlock i Q):=⟨h.out⟩
omit [W0] in
def ZH (o:Oper):Bool:=match o.op with|.defer _=>false|_=>true
omit [W0] in
theorem zkM {o:Oper} (h:ZH o=true):∀c,o.op≠.defer c:=fun c hc=>by unfold ZH at h;rw [hc] at h;cases h
section
variable {P : Program} {n : Nat} {ro : Option Nat} {Q : Exit → Act → World → Prop} {M : List (Nat × Value)} {L : List Chunk} {K : List (Nat × Value) → List Chunk → Prop}
omit [W0] in
theorem znY {row:String} {args:Array Value} {w:World} {R:Value→World→Prop} (h:Rows P row args w R):RowsIn (Fr ro) 0 P row args w R:=
 fun c cs _=>let ⟨v,w',r,s⟩:=h c cs;⟨v,w',r,(stepsIn_wide (P:=P)).2 s⟩
omit [W0] in
theorem zjf {f:FuncId} {args:Array Value} {w:World} {R:Ending→World→Prop} {m:Nat} (h:Calls P f args w R):CallsIn (Fr ro) m P f args w R:=(callsIn_wide (n:=m)).2 h
omit [W0] in
theorem zoe {o:Oper} {a:Act} {next:Act→World→Prop} {r:Result Next} (h:o.upon P a next Q r):o.uponIn (Fr ro) 0 P a next Q r:=by
 cases r with
 |ok x w'=>
  cases x<;>simp only [Oper.upon] at h<;>simp only [Oper.uponIn]<;>
   first
    |exact h
    |exact ⟨fun hh=>absurd (a:=false=true) hh Bool.false_ne_true,(zjf h).mono (fun e w'' he=>by cases e<;>exact he)⟩
    |exact ⟨fun hh=>absurd (a:=false=true) hh Bool.false_ne_true,znY h⟩
    |exact False.elim h
 |halt x w'=>cases x<;>simp only [Oper.upon] at h<;>simp only [Oper.uponIn]<;>exact h
omit [W0] in
theorem zeM {o:Oper} (hd:ZH o=true) (ρ:Operand→Value):o.semAt ro ρ=execOp ρ o:=Oper.semAt_eq ro ρ o (zkM hd)
omit [W0] in
theorem zmd {o:Oper} {a:Act} {w:World} {next:Act→World→Prop} (hd:ZH o=true) (h:o.wp P a w next Q):o.wpIn (Fr ro) 0 P a w next Q:=by
 refine ⟨fun _ _=>trivial,?_⟩
 show o.uponIn (Fr ro) 0 P a next Q ((o.semAt ro a.eval).run P w)
 rw [zeM hd]
 exact zoe h
omit [W0] in
theorem QE {ops:Array Oper} (hN:NL Q):∀{rest:List Oper} {a:Act} {w:World},rest.all ZH=true→wpList P ops Q rest a w→wpListIn (Fr ro) 0 P ops Q rest a w
 |[],_,_,_,h=>h
 |o::rest,a,w,hd,h=>by
  simp only [List.all_cons,Bool.and_eq_true] at hd
  unfold wpList at h
  unfold wpListIn
  split
  ·rename_i hw
   rw [if_pos hw] at h
   rcases h with h|⟨_,a',w',hl⟩
   ·exact Oper.wpIn_mono (fun a w hh=>QE hN hd.2 hh) (zmd hd.1 h)
   ·exact absurd hl (hN.out a' w')
  ·rename_i hw
   rw [if_neg hw] at h
   exact ⟨fun _ _=>trivial,QE hN hd.2 h⟩
omit [W0] in
theorem zok {ops:Array Oper} (hN:NL Q) (hd:∀(i:Nat) (o:Oper),ops[i]? =some o→ZH o=true) {i:Nat} {K K':Act→World→Prop} {a:Act} {w:World} (hk:∀a w,K a w→K' a w) (h:wpOp P ops Q i K a w):wpOpIn (Fr ro) 0 P ops Q i K' a w:=by
 unfold wpOp at h
 unfold wpOpIn
 split
 ·rename_i ho;rw [ho] at h;exact hk _ _ h
 ·rename_i o ho
  rw [ho] at h
  simp only at h
  split
  ·rename_i hw
   rw [if_pos hw] at h
   rcases h with h|⟨_,a',w',hl⟩
   ·exact Oper.wpIn_mono hk (zmd (hd i o ho) h)
   ·exact absurd hl (hN.out a' w')
  ·rename_i hw
   rw [if_neg hw] at h
   exact ⟨fun _ _=>trivial,hk _ _ h⟩
omit [W0] in
theorem ze6 {ops:Array Oper} {md:Region.Mode} (hN:NL Q) (hd:∀(i:Nat) (o:Oper),ops[i]? =some o→ZH o=true):∀(fuel:Nat) (listed:Array Bool) (a:Act) (w:World),wpAny P md ops Q fuel listed a w→wpAnyIn (Fr ro) 0 P md ops Q fuel listed a w
 |0,_,_,_,h=>h
 |fuel+1,listed,a,w,h=>⟨h.1,fun i hi=>zok hN hd (fun a w hh=>ze6 hN hd fuel _ a w hh) (h.2 i hi)⟩
structure Wic (P:Program) (n:Nat) (ro:Option Nat) (c:Code) (Q:Exit→Act→World→Prop) (M:List (Nat × Value)) (L:List Chunk):Prop where
 out:∀a w,St n M a→Holds w L→c.wpIn (Fr ro) 0 P Q a w
structure Wjc (P:Program) (n:Nat) (ro:Option Nat) (ops:Array Oper) (Q:Exit→Act→World→Prop) (rest:List Oper) (M:List (Nat × Value)) (L:List Chunk):Prop where
 out:∀a w,St n M a→Holds w L→wpListIn (Fr ro) 0 P ops Q rest a w
theorem Wic.holds {L':List Chunk} {c:Code} (h:Wic P n ro c Q M L') (hl:∀w,Holds w L→Holds w L'):Wic P n ro c Q M L:=⟨fun a w ha hw=>h.out a w ha (hl w hw)⟩
theorem Wic.sub {M':List (Nat × Value)} {c:Code} (h:Wic P n ro c Q M' L) (hs:Sub M' M):Wic P n ro c Q M L:=⟨fun a w ha hw=>h.out a w (ha.sub hs) hw⟩
theorem zcF {x y:Code} (h:Wic P n ro x (Exit.then (y.wpIn (Fr ro) 0 P Q) Q) M L):Wic P n ro (.seq x y) Q M L:=⟨fun a w ha hw=>wpIn_seq (h.out a w ha hw)⟩
theorem zae (h:WQ n (Q .normal) M L):Wic P n ro .skip Q M L:=⟨fun a w ha hw=>wpIn_skip (h.out a w ha hw)⟩
theorem zad {id:Nat} (h:WQ n (Q (.exit id)) M L):Wic P n ro (.exit id) Q M L:=⟨fun a w ha hw=>wpIn_exit (h.out a w ha hw)⟩
theorem zcE (h:WQ n (Q .ret) M L):Wic P n ro .ret Q M L:=⟨fun a w ha hw=>wpIn_ret (h.out a w ha hw)⟩
theorem XG {id:Nat} {c:Code} (h:Wic P n ro c (Exit.inBlock id Q) M L):Wic P n ro (.block id c) Q M L:=⟨fun a w ha hw=>wpIn_block (h.out a w ha hw)⟩
theorem zcC {c:Operand} {x y:Code} {t:Bool} (hc:ev M c=some (.bool t)) (ht:t=true→Wic P n ro x Q M L) (hf:t=false→Wic P n ro y Q M L) :
 Wic P n ro (.cond c x y) Q M L:=⟨fun a w ha hw=>wpIn_cond_split (ha.eval hc) (fun h=>(ht h).out a w ha hw) (fun h=>(hf h).out a w ha hw)⟩
theorem zaf {c:Operand} {x y:Code} (hc:ev M c=some (.bool true)) (ht:Wic P n ro x Q M L):Wic P n ro (.cond c x y) Q M L:=⟨fun a w ha hw=>wpIn_cond_true (ha.eval hc) (ht.out a w ha hw)⟩
theorem XH {c:Operand} {x y:Code} (hc:ev M c=some (.bool false)) (ht:Wic P n ro y Q M L):Wic P n ro (.cond c x y) Q M L:=⟨fun a w ha hw=>wpIn_cond_false (ha.eval hc) (ht.out a w ha hw)⟩
theorem zhO {id:Nat} {l:List Oper} (hN:NL Q) (hd:l.all ZH=true) (h:WL P n l.toArray Q l M L):Wic P n ro (.region id l.toArray false) Q M L:=⟨fun a w ha hw=>wpIn_region_lit (QE hN hd (h.out a w ha hw))⟩
theorem zgq {id:Nat} {l:List Oper} (h:Wjc P n ro l.toArray Q l M L):Wic P n ro (.region id l.toArray false) Q M L:=⟨fun a w ha hw=>wpIn_region_lit (h.out a w ha hw)⟩
theorem zmC {l:List Oper} (hd:l.all ZH=true):∀(i:Nat) (o:Oper),l.toArray[i]? =some o→ZH o=true:=fun i o h=>by
 rw [List.getElem?_toArray] at h
 exact (List.all_eq_true.1 hd) o (List.mem_of_getElem? h)
theorem zgp (S:List Chunk) (T:List Nat) {id:Nat} {ops:List Oper} (hN:NL Q) (hd:ops.all ZH=true) (hm:P.follows .mixedOrders=true) (h:WR P n ops Q S T ops.length (Array.replicate ops.length false) M L):Wic P n ro (.region id ops.toArray true) Q M L:=⟨fun a w ha hw=>by
 refine wpIn_region_any hm (ze6 hN (zmC hd) _ _ _ _ (XA (S:=fun w=>Holds w S) (T:=T) _ _ _ _ ?_))
 have:=h.out a { w with drawn:=w.drawn+1 } ha (hw.same rfl rfl rfl)
 simpa using this⟩
theorem ziP {ops:Array Oper} (h:WQ n (Q .normal) M L):Wjc P n ro ops Q [] M L:=⟨fun a w ha hw=>h.out a w ha hw⟩
theorem zon {ops:Array Oper} {rest:List Oper} {o:Oper} (hg:o.guard=none) (hd:ZH o=true) (h:OW P n o (Wjc P n ro ops Q rest) M L):Wjc P n ro ops Q (o::rest) M L:=⟨fun a w ha hw=>by
 unfold wpListIn
 rw [if_pos (by simp [Region.wanted,hg])]
 exact zmd hd (h.out a w _ Q ha hw fun M' L' hk=>⟨hk.out⟩)⟩
theorem XI {c:Code} (h:Wic P n ro c Q M L):WQ n (c.wpIn (Fr ro) 0 P Q) M L:=⟨h.out⟩
theorem zcD {X:Type} {c:Code} (MI:X→List (Nat × Value)) (LI:X→List Chunk) (J:X→Prop) (μ:X→Nat) (x0:X) (hJ:J x0) (hM:Sub (MI x0) M) (hL:∀w,Holds w L→Holds w (LI x0))
 (hround:∀x,J x→Wic P n ro c (Exit.then (fun a' w'=>∃x',μ x' < μ x∧J x'∧St n (MI x') a'∧Holds w' (LI x')) Q) (MI x) (LI x)):Wic P n ro (.loop c) Q M L:=⟨fun a w ha hw=>by
 intro b k cs hro hb hr
 have key:∀m x,μ x=m→J x→∀a w,St n (MI x) a→Holds w (LI x)→
  ∃e a' w',Q e a' w'∧ArrivesIn (Machine.fenced P (Fr ro)) P (lone (b.atR a (.code c::.inLoop c::k)) cs w) b k cs e a' w':=by
  intro m
  induction m using Nat.strongRecOn with
  |_ m ih=>
   intro x hm hx a w ha hw
   obtain ⟨e,a₁,w₁,hq,harr⟩:=(hround x hx).out a w ha hw b (.inLoop c::k) cs hro hb hr
   subst hm
   cases e with
   |normal=>
    obtain ⟨x',hlt,hJ',ha',hw'⟩:=hq
    obtain ⟨e₂,a₂,w₂,hq₂,harr₂⟩:=ih (μ x') hlt x' rfl hJ' a₁ w₁ ha' hw'
    exact ⟨e₂,a₂,w₂,hq₂,.of_steps (StepsIn.trans harr (.one (fenced_calm hb hr rfl) stepR_inLoop)) harr₂⟩
   |exit id=>exact ⟨_,a₁,w₁,hq,.pass (x:=.inLoop c) rfl (fun _ _=>.inl (by simp)) harr⟩
   |goto l=>exact ⟨_,a₁,w₁,hq,.pass (x:=.inLoop c) rfl (fun _ _=>.inl (by simp)) harr⟩
   |ret=>exact ⟨_,a₁,w₁,hq,.pass (x:=.inLoop c) rfl (fun _ _=>.inl (by simp)) harr⟩
   |panic ch=>exact ⟨_,a₁,w₁,hq,.pass (x:=.inLoop c) rfl (fun _ _=>.inl (by simp)) harr⟩
   |outgrown=>exact ⟨_,a₁,w₁,hq,.pass (x:=.inLoop c) rfl (fun _ _=>.inl (by simp)) harr⟩
 obtain ⟨e,a',w',hq,harr⟩:=key _ x0 rfl hJ a w (ha.sub hM) (hL w hw)
 exact ⟨e,a',w',hq,.of_steps (.one (fenced_calm hb hr rfl) stepR_loop) harr⟩⟩
end
end Go.Vx
