/- Contracts and facts on the way to the top. It proves no statement by itself. No conditions. -/
import Derived.Test.YtemdlifojcgplaaGreatDoorSV5
set_option maxHeartbeats 16000000
namespace Go.Proofs.YtemdlifojcgplaaGreatDoor
open Go Go.Vx Go.Hf Go.If Go.Df
variable [W0]
set_option maxRecDepth 4000
set_option linter.all false
omit [W0] in
structure DyX where
 l:List Nat
 dl:List Nat
 v1:Value
 v2:Value
 v3:Value
 v4:Value
 C1:Chunk
 C2:Chunk
 b:Nat
theorem zeb (v vt:Value) (b:List UInt8) (ts:List (Nat × Nat)) (S L:List Chunk) (hi:Inc S L) (h:PcR S v vt b ts) (hor:qQ L) :
 Gv Tryz.prog 209 [.agg #[v,vt]].toArray L (fun r L'=>∃l dl own v1 v2 v3 v4 vo v5 v6 vr C,r=.agg (cdV vt v1 v2 v3 v4 (itL (coI l dl ts))++hdV (trN l 257 l.length) (trN dl 1 dl.length) vo v5 v6 vr).toArray∧yP (inc (cA ts) 256) 15 l∧yP (cD ts) 15 dl∧yP (cR (rnS (hdL l dl))) 7 own∧
  CoR (C::S) vt v1 v2 v3 v4 ts l dl∧HdR (C::S) vo v5 v6 vr (trN l 257 l.length) (trN dl 1 dl.length) ((orN own).take (trN (orN own) 4 19)) own (rnS (hdL l dl))∧L'=C::L):=by
 refine Gv.of_body (args:=[.agg #[v,vt]]) Tryz.func209 rfl rfl ?_
 obtain ⟨va,vc,rfl,_⟩:=h.x.room
 obtain ⟨ta,tc,rfl,_⟩:=h.t.rs.room
 have hL:=h.sub hi.mem
 have hnt:=h.nt
 have hla:(inc (cA ts) 256).length=286:=by rw [uS,vv]
 have hld:=Zz ts
 have hca:∀i,(inc (cA ts) 256).getD i 0≤200001:=fun i=>by
  have:=zjc h.t.ok i
  rw [wX (by rw [vv];decide)]
  split<;>omega
 have hcdb:∀i,(cD ts).getD i 0≤200000:=fun i=>by have:=zjd h.t.ok i;omega
 have hp1:=uf (inc (cA ts) 256) (inc (cA ts) 256).length
 have hp2:=uf (cD ts) (cD ts).length
 refine vg ?_
 (repeat' first|refine kY ?_|refine kU fun bk=>?_|refine kV fun hc=>?_|refine kZ (fun hc=>?_) fun hc=>?_|fail)
 rename_i q1
 obtain ⟨q2,hq2⟩:∃x,x=bk:=⟨_,rfl⟩
 subst hq2
 refine vg ?_
 (repeat' first|refine kY ?_|refine kU fun bk=>?_|refine kV fun hc=>?_|refine kZ (fun hc=>?_) fun hc=>?_|fail)
 refine cC rfl rfl (zaQ (.slice ta ts.length tc) ts _ (hL.t.sub iM) h.nt) (fun r L' hp=>?_)
 obtain ⟨x1,x2,C0,rfl,hx1,hx2,rfl⟩:=hp
 obtain ⟨xa,xc,rfl,_⟩:=hx1.room
 obtain ⟨ya,yc,rfl,_⟩:=hx2.room
 (repeat' first|refine kY ?_|refine kU fun bk=>?_|refine kV fun hc=>?_|refine kZ (fun hc=>?_) fun hc=>?_|fail)
 refine Zy (X:=DyX) (fun z=>[(1,.pointer (some ⟨q1,0,none⟩)),(2,.pointer (some ⟨q2,0,none⟩)),(4,.pointer (some ⟨z.b,0,none⟩))])
  (fun z=>[(z.b,cl (cdV (.slice ta ts.length tc) z.v1 z.v2 z.v3 z.v4 (itL (coI z.l z.dl ts))) 184)]::z.C2::z.C1::[(q2,cl [.slice none 0 0,.slice none 0 0,.slice none 0 0,.slice none 0 0,.slice none 0 0,.int .i64 0,.int .i64 0,.int .i64 0,.slice none 0 0,.slice none 0 0,.slice none 0 0,.slice none 0 0] 228)]::[(q1,cl [.slice va b.length vc,.slice ta ts.length tc] 179)]::L)
  (fun z=>yP (inc (cA ts) 256) 15 z.l∧yP (cD ts) 15 z.dl∧CdR [z.C1] z.v1 z.v2 z.l∧CdR [z.C2] z.v3 z.v4 z.dl) ?_ ?_
 ·refine zk [11] mixed ?_
  (refine za 0 ?_;refine za 1 ?_;refine za 3 ?_;refine za 4 ?_;refine za 6 ?_;refine za 7 ?_;refine za 8 ?_)
  refine Xn (js:=[2,10]) (by kernel_rfl) (by simp) (fun j hj=>?_)
  simp only [List.mem_cons,List.not_mem_nil,or_false] at hj
  rcases hj with rfl|rfl
  ·refine ⟨_,rfl,rfl,?_⟩
   refine cC rfl rfl (vS (.slice xa 286 xc) (inc (cA ts) 256) 15 _ (by rw [hla];exact hx1.sub iM) (by decide) (by decide) (by omega) (fun i=>by have:=hca i;omega) (by omega)) (fun r L' hp=>?_)
   obtain ⟨l,v1,v2,C1,rfl,hlo,hcd,rfl⟩:=hp
   refine ⟨iC,?_⟩
   refine Xn (js:=[5,10]) (by kernel_rfl) (by simp) (fun j hj=>?_)
   simp only [List.mem_cons,List.not_mem_nil,or_false] at hj
   rcases hj with rfl|rfl
   ·refine ⟨_,rfl,rfl,?_⟩
    refine cC rfl rfl (vS (.slice ya 30 yc) (cD ts) 15 _ (by rw [hld];exact hx2.sub iM) (by decide) (by decide) (by omega) (fun i=>by have:=hcdb i;omega) (by omega)) (fun r L' hp=>?_)
    obtain ⟨dl,v3,v4,C2,rfl,hlo2,hcd2,rfl⟩:=hp
    refine ⟨iC,?_⟩
    refine Xn (js:=[9,10]) (by kernel_rfl) (by simp) (fun j hj=>?_)
    simp only [List.mem_cons,List.not_mem_nil,or_false] at hj
    rcases hj with rfl|rfl
    ·refine ⟨_,rfl,rfl,?_⟩
     have hl286:286≤l.length:=by rw [hlo.len,hla];exact Nat.le_refl _
     have hd30:30≤dl.length:=by rw [hlo2.len,hld];exact Nat.le_refl _
     refine cP rfl rfl (ZB v1 v2 v3 v4 (.slice ta ts.length tc) (.slice xa 286 xc) (.slice ya 30 yc) l dl ts _ (hcd.sub iM) (hcd2.sub iM) (hL.t.sub iM) h.nt hl286 hd30 (hx1.sub iM) (hx2.sub iM)) ?_
     refine ⟨iC,?_⟩
     refine cI 10 rfl rfl ?_
     refine wQ rfl (fun b4=>?_)
     refine ⟨iC,?_⟩
     refine cL 11 rfl rfl rfl ?_
     obtain ⟨a1,e1,rfl,_⟩:=hcd.l.room
     obtain ⟨a2,e2,rfl,_⟩:=hcd.c.room
     obtain ⟨a3,e3,rfl,_⟩:=hcd2.l.room
     obtain ⟨a4,e4,rfl,_⟩:=hcd2.c.room
     refine zo (l:=[.slice none 0 0,.slice none 0 0,.slice none 0 0,.slice none 0 0,.slice none 0 0,.int .i64 0]) (cdV (.slice ta ts.length tc) (.slice a1 l.length e1) (.slice a2 l.length e2) (.slice a3 dl.length e3) (.slice a4 dl.length e4) (itL (coI l dl ts))) rfl rfl rfl rfl rfl iU (by simp [cdV]) ?_
     refine cD ?_
     refine kW ?_
     exact yA (⟨l,dl,_,_,_,_,C1,C2,b4⟩:DyX) ⟨hlo,hlo2,hcd,hcd2⟩ iS (fun w h=>iH h)
    ·refine ⟨_,rfl,rfl,?_⟩
     refine wQ rfl (fun b4=>?_)
     refine ⟨iC,?_⟩
     refine cI 9 rfl rfl ?_
     have hl286:286≤l.length:=by rw [hlo.len,hla];exact Nat.le_refl _
     have hd30:30≤dl.length:=by rw [hlo2.len,hld];exact Nat.le_refl _
     refine cP rfl rfl (ZB v1 v2 v3 v4 (.slice ta ts.length tc) (.slice xa 286 xc) (.slice ya 30 yc) l dl ts _ (hcd.sub iM) (hcd2.sub iM) (hL.t.sub iM) h.nt hl286 hd30 (hx1.sub iM) (hx2.sub iM)) ?_
     refine ⟨iC,?_⟩
     refine cL 11 rfl rfl rfl ?_
     obtain ⟨a1,e1,rfl,_⟩:=hcd.l.room
     obtain ⟨a2,e2,rfl,_⟩:=hcd.c.room
     obtain ⟨a3,e3,rfl,_⟩:=hcd2.l.room
     obtain ⟨a4,e4,rfl,_⟩:=hcd2.c.room
     refine zo (l:=[.slice none 0 0,.slice none 0 0,.slice none 0 0,.slice none 0 0,.slice none 0 0,.int .i64 0]) (cdV (.slice ta ts.length tc) (.slice a1 l.length e1) (.slice a2 l.length e2) (.slice a3 dl.length e3) (.slice a4 dl.length e4) (itL (coI l dl ts))) rfl rfl rfl rfl rfl iU (by simp [cdV]) ?_
     refine cD ?_
     refine kW ?_
     exact yA (⟨l,dl,_,_,_,_,C1,C2,b4⟩:DyX) ⟨hlo,hlo2,hcd,hcd2⟩ iS (fun w h=>iH h)
   ·refine ⟨_,rfl,rfl,?_⟩
    refine wQ rfl (fun b4=>?_)
    refine ⟨iC,?_⟩
    refine cI 5 rfl rfl ?_
    refine cC rfl rfl (vS (.slice ya 30 yc) (cD ts) 15 _ (by rw [hld];exact hx2.sub iM) (by decide) (by decide) (by omega) (fun i=>by have:=hcdb i;omega) (by omega)) (fun r L' hp=>?_)
    obtain ⟨dl,v3,v4,C2,rfl,hlo2,hcd2,rfl⟩:=hp
    refine ⟨iC,?_⟩
    refine cI 9 rfl rfl ?_
    have hl286:286≤l.length:=by rw [hlo.len,hla];exact Nat.le_refl _
    have hd30:30≤dl.length:=by rw [hlo2.len,hld];exact Nat.le_refl _
    refine cP rfl rfl (ZB v1 v2 v3 v4 (.slice ta ts.length tc) (.slice xa 286 xc) (.slice ya 30 yc) l dl ts _ (hcd.sub iM) (hcd2.sub iM) (hL.t.sub iM) h.nt hl286 hd30 (hx1.sub iM) (hx2.sub iM)) ?_
    refine ⟨iC,?_⟩
    refine cL 11 rfl rfl rfl ?_
    obtain ⟨a1,e1,rfl,_⟩:=hcd.l.room
    obtain ⟨a2,e2,rfl,_⟩:=hcd.c.room
    obtain ⟨a3,e3,rfl,_⟩:=hcd2.l.room
    obtain ⟨a4,e4,rfl,_⟩:=hcd2.c.room
    refine zo (l:=[.slice none 0 0,.slice none 0 0,.slice none 0 0,.slice none 0 0,.slice none 0 0,.int .i64 0]) (cdV (.slice ta ts.length tc) (.slice a1 l.length e1) (.slice a2 l.length e2) (.slice a3 dl.length e3) (.slice a4 dl.length e4) (itL (coI l dl ts))) rfl rfl rfl rfl rfl iU (by simp [cdV]) ?_
    refine cD ?_
    refine kW ?_
    exact yA (⟨l,dl,_,_,_,_,C1,C2,b4⟩:DyX) ⟨hlo,hlo2,hcd,hcd2⟩ iS (fun w h=>iH h)
  ·refine ⟨_,rfl,rfl,?_⟩
   refine wQ rfl (fun b4=>?_)
   refine ⟨iC,?_⟩
   refine cI 2 rfl rfl ?_
   refine cC rfl rfl (vS (.slice xa 286 xc) (inc (cA ts) 256) 15 _ (by rw [hla];exact hx1.sub iM) (by decide) (by decide) (by omega) (fun i=>by have:=hca i;omega) (by omega)) (fun r L' hp=>?_)
   obtain ⟨l,v1,v2,C1,rfl,hlo,hcd,rfl⟩:=hp
   refine ⟨iC,?_⟩
   refine cI 5 rfl rfl ?_
   refine cC rfl rfl (vS (.slice ya 30 yc) (cD ts) 15 _ (by rw [hld];exact hx2.sub iM) (by decide) (by decide) (by omega) (fun i=>by have:=hcdb i;omega) (by omega)) (fun r L' hp=>?_)
   obtain ⟨dl,v3,v4,C2,rfl,hlo2,hcd2,rfl⟩:=hp
   refine ⟨iC,?_⟩
   refine cI 9 rfl rfl ?_
   have hl286:286≤l.length:=by rw [hlo.len,hla];exact Nat.le_refl _
   have hd30:30≤dl.length:=by rw [hlo2.len,hld];exact Nat.le_refl _
   refine cP rfl rfl (ZB v1 v2 v3 v4 (.slice ta ts.length tc) (.slice xa 286 xc) (.slice ya 30 yc) l dl ts _ (hcd.sub iM) (hcd2.sub iM) (hL.t.sub iM) h.nt hl286 hd30 (hx1.sub iM) (hx2.sub iM)) ?_
   refine ⟨iC,?_⟩
   refine cL 11 rfl rfl rfl ?_
   obtain ⟨a1,e1,rfl,_⟩:=hcd.l.room
   obtain ⟨a2,e2,rfl,_⟩:=hcd.c.room
   obtain ⟨a3,e3,rfl,_⟩:=hcd2.l.room
   obtain ⟨a4,e4,rfl,_⟩:=hcd2.c.room
   refine zo (l:=[.slice none 0 0,.slice none 0 0,.slice none 0 0,.slice none 0 0,.slice none 0 0,.int .i64 0]) (cdV (.slice ta ts.length tc) (.slice a1 l.length e1) (.slice a2 l.length e2) (.slice a3 dl.length e3) (.slice a4 dl.length e4) (itL (coI l dl ts))) rfl rfl rfl rfl rfl iU (by simp [cdV]) ?_
   refine cD ?_
   refine kW ?_
   exact yA (⟨l,dl,_,_,_,_,C1,C2,b4⟩:DyX) ⟨hlo,hlo2,hcd,hcd2⟩ iS (fun w h=>iH h)
 rintro ⟨l,dl,v1,v2,v3,v4,C1,C2,b4⟩ ⟨hlo,hlo2,hcd,hcd2⟩
 simp only at hlo hlo2 hcd hcd2 ⊢
 have hl286:l.length=286:=by rw [hlo.len,hla]
 have hd30:dl.length=30:=by rw [hlo2.len,hld]
 obtain ⟨a1,e1,rfl,_⟩:=hcd.l.room
 obtain ⟨a2,e2,rfl,_⟩:=hcd.c.room
 obtain ⟨a3,e3,rfl,_⟩:=hcd2.l.room
 obtain ⟨a4,e4,rfl,_⟩:=hcd2.c.room
 generalize hsz:itL (coI l dl ts)=size
 unfold cdV
 refine kW ?_
 refine zk [9] mixed ?_
 (refine za 0 ?_;refine za 1 ?_;refine za 2 ?_;refine za 3 ?_;refine za 4 ?_;refine za 5 ?_;refine za 6 ?_)
 refine cI 7 rfl rfl ?_
 refine cC rfl rfl (zka (.slice a1 l.length e1) (.slice a3 dl.length e3) l dl _ (hcd.l.sub iM) (hcd2.l.sub iM) hl286 hd30 hcd.ok.le hcd2.ok.le (by repeat (first|exact hor|apply qQ.there))) (fun r L' hp=>?_)
 obtain ⟨own,vo,v5,v6,vr,C3,rfl,hlo3,hhd,rfl⟩:=hp
 refine ⟨iC,?_⟩
 have hfc:CoR ((C3++(C2++C1))::S) (.slice ta ts.length tc) (.slice a1 l.length e1) (.slice a2 l.length e2) (.slice a3 dl.length e3) (.slice a4 dl.length e4) ts l dl:=
  CoR.sub (L:=C3::C2::C1::S) (fun x hx=>by simpa [List.append_assoc] using hx) ⟨h.t.sub iM,hcd.sub iM,hcd2.sub iM,by omega,by omega,h.nt⟩
 have hfh:HdR ((C3++(C2++C1))::S) vo v5 v6 vr (trN l 257 l.length) (trN dl 1 dl.length) ((orN own).take (trN (orN own) 4 19)) own (rnS (hdL l dl)):=
  HdR.sub (L:=C3::C2::C1::S) (fun x hx=>by simpa [List.append_assoc] using hx) (hhd.sub iM)
 have hord:=hhd.ord
 obtain ⟨on,hon⟩:∃on,on=((orN own).take (trN (orN own) 4 19)).length:=⟨_,rfl⟩
 rw [←hon] at hord
 obtain ⟨ao,eo,rfl,_⟩:=hord.room
 obtain ⟨a5,e5,rfl,_⟩:=hhd.c.l.room
 obtain ⟨a6,e6,rfl,_⟩:=hhd.c.c.room
 obtain ⟨ar,er,rfl,_⟩:=hhd.run.room
 unfold hdV
 (refine za 8 ?_)
 refine cL 9 rfl rfl rfl ?_
 refine zo (l:=[.slice none 0 0,.slice none 0 0,.slice none 0 0,.slice none 0 0,.slice none 0 0,.int .i64 0,.int .i64 0,.int .i64 0,.slice none 0 0,.slice none 0 0,.slice none 0 0,.slice none 0 0]) [.slice ta ts.length tc,.slice a1 l.length e1,.slice a2 l.length e2,.slice a3 dl.length e3,.slice a4 dl.length e4,.int .i64 (size:Int),.int .i64 ((trN l 257 l.length:Nat):Int),.int .i64 ((trN dl 1 dl.length:Nat):Int),.slice ao on eo,.slice a5 own.length e5,.slice a6 own.length e6,.slice ar (rnS (hdL l dl)).length er] rfl rfl rfl rfl rfl iU (by simp) ?_
 refine cD ?_
 refine kW ?_
 (first|refine zX (vs:=[.agg ([.slice ta ts.length tc,.slice a1 l.length e1,.slice a2 l.length e2,.slice a3 dl.length e3,.slice a4 dl.length e4,.int .i64 (size:Int),.int .i64 ((trN l 257 l.length:Nat):Int),.int .i64 ((trN dl 1 dl.length:Nat):Int),.slice ao on eo,.slice a5 own.length e5,.slice a6 own.length e6,.slice ar (rnS (hdL l dl)).length er]).toArray]) rfl (.agg ⟨by kernel_rfl,by kernel_rfl⟩ rfl (zK.cl' (vs:=[.slice ta ts.length tc,.slice a1 l.length e1,.slice a2 l.length e2,.slice a3 dl.length e3,.slice a4 dl.length e4,.int .i64 (size:Int),.int .i64 ((trN l 257 l.length:Nat):Int),.int .i64 ((trN dl 1 dl.length:Nat):Int),.slice ao on eo,.slice a5 own.length e5,.slice a6 own.length e6,.slice ar (rnS (hdL l dl)).length er]) (by repeat (first|assumption|exact Fnd.here|refine Fnd.there ?_)) rfl) rfl .nil) ?_|refine yF (vs:=[.agg ([.slice ta ts.length tc,.slice a1 l.length e1,.slice a2 l.length e2,.slice a3 dl.length e3,.slice a4 dl.length e4,.int .i64 (size:Int),.int .i64 ((trN l 257 l.length:Nat):Int),.int .i64 ((trN dl 1 dl.length:Nat):Int),.slice ao on eo,.slice a5 own.length e5,.slice a6 own.length e6,.slice ar (rnS (hdL l dl)).length er]).toArray]) rfl (.agg ⟨by kernel_rfl,by kernel_rfl⟩ rfl (zK.cl' (vs:=[.slice ta ts.length tc,.slice a1 l.length e1,.slice a2 l.length e2,.slice a3 dl.length e3,.slice a4 dl.length e4,.int .i64 (size:Int),.int .i64 ((trN l 257 l.length:Nat):Int),.int .i64 ((trN dl 1 dl.length:Nat):Int),.slice ao on eo,.slice a5 own.length e5,.slice a6 own.length e6,.slice ar (rnS (hdL l dl)).length er]) (by repeat (first|assumption|exact Fnd.here|refine Fnd.there ?_)) rfl) rfl .nil) ?_)
 exact ⟨(C3++(C2++C1))::L,fun w h=>three.2 (iH h),l,dl,own,_,_,_,_,_,_,_,_,_,by rw [hsz];rfl,hlo,hlo2,hlo3,hfc,hfh,rfl⟩
end Go.Proofs.YtemdlifojcgplaaGreatDoor
namespace Go.Df
open Go.Vx Go.If Go.Hf
set_option linter.all false
theorem zfj {rs:List (Nat × Nat)} (h:∀r∈rs,r.1 < 19) {r:Nat × Nat} (hr:r∈rs):0 < (cR rs).getD r.1 0:=by
 induction rs using wF with
 |h0=>cases hr
 |h1 a t ih=>
  rw [zaL,wX (by rw [Yp];exact h t (by simp))]
  rcases List.mem_append.1 hr with hr|hr
  ·have:=ih (fun x hx=>h x (by simp [hx])) hr
   omega
  ·rw [List.mem_singleton.1 hr,if_pos rfl];omega
theorem zpb {ts:List (Nat × Nat)} (h:∀t∈ts,Zm t) {t:Nat × Nat} (hr:t∈ts):0 < (cA ts).getD (tsy t) 0:=by
 induction ts using wF with
 |h0=>cases hr
 |h1 a u ih=>
  rw [zaJ,wX (by rw [vv];exact (YR (h u (by simp))).1)]
  rcases List.mem_append.1 hr with hr|hr
  ·have:=ih (fun x hx=>h x (by simp [hx])) hr
   omega
  ·rw [List.mem_singleton.1 hr,if_pos rfl];omega
theorem zpc {ts:List (Nat × Nat)} (h:∀t∈ts,Zm t) {t:Nat × Nat} (hr:t∈ts) (h0:t.2≠0):0 < (cD ts).getD (odN t.2) 0:=by
 induction ts using wF with
 |h0=>cases hr
 |h1 a u ih=>
  rw [zaK]
  rcases List.mem_append.1 hr with hr|hr
  ·have:=ih (fun x hx=>h x (by simp [hx])) hr
   split
   ·exact this
   ·rename_i hu
    have hu2:=h u (by simp)
    have:odN u.2 < 30:=by
     rcases hu2 with ⟨g1,_⟩|⟨g1,g2,_⟩
     ·exact absurd g1 hu
     ·exact Nat.lt_succ_of_le (Zj g1 g2).1
    rw [wX (by rw [Zz];exact this)]
    omega
  ·rw [List.mem_singleton.1 hr] at h0 ⊢
   rw [if_neg h0]
   have hu2:=h u (by simp)
   have:odN u.2 < 30:=by
    rcases hu2 with ⟨g1,_⟩|⟨g1,g2,_⟩
    ·exact absurd g1 h0
    ·exact Nat.lt_succ_of_le (Zj g1 g2).1
   rw [wX (by rw [Zz];exact this),if_pos rfl]
   omega
theorem two_pos:∀{l:List Nat} {i j:Nat},i < j→0 < l.getD i 0→0 < l.getD j 0→2≤(l.filter fun x=>decide (0 < x)).length
 |[],i,j,h,h1,h2=>by simp at h1
 |x::r,0,j+1,h,h1,h2=>by
  have h1:0 < x:=by simpa using h1
  have h2:0 < r.getD j 0:=by simpa using h2
  rw [List.filter_cons_of_pos (by simpa using h1),List.length_cons]
  have:r.getD j 0∈(r.filter fun x=>decide (0 < x)):=by
   refine List.mem_filter.2 ⟨?_,by simpa using h2⟩
   have hj:=Qu h2
   rw [List.getD_eq_getElem?_getD,List.getElem?_eq_getElem hj]
   exact List.getElem_mem hj
  have:=List.length_pos_of_mem this
  omega
 |x::r,i+1,j+1,h,h1,h2=>by
  have:=two_pos (l:=r) (i:=i) (j:=j) (by omega) (by simpa using h1) (by simpa using h2)
  have h3:((x::r).filter fun x=>decide (0 < x)).length≥(r.filter fun x=>decide (0 < x)).length:=by
   rw [List.filter_cons]
   split
   ·rw [List.length_cons];omega
   ·exact Nat.le_refl _
  omega
theorem zgT:∀{l:List Nat},(∀x∈l,x=0)→kS l=0
 |[],_=>rfl
 |x::r,h=>by
  rw [kS,h x List.mem_cons_self,zgT (fun y hy=>h y (List.mem_cons_of_mem _ hy))]
  rfl
theorem drop_zero {l:List Nat} {n:Nat} (h:∀i,n≤i→i < l.length→l.getD i 0=0):∀x∈l.drop n,x=0:=by
 intro x hx
 obtain ⟨i,hi,rfl⟩:=List.getElem_of_mem hx
 rw [List.length_drop] at hi
 have:=h (n+i) (by omega) (by omega)
 rw [List.getElem_drop]
 simpa [List.getD,show n+i < l.length by omega] using this
theorem zda {l:List Nat} {n:Nat} (h:∀i,n≤i→i < l.length→l.getD i 0=0):kS (l.take n)=kS l:=by
 have:=zfz (l.take n) (l.drop n)
 rw [List.take_append_drop,zgT (drop_zero h)] at this
 omega
theorem zbt:∀{l:List Nat},(∀x∈l,x=0)→l.sum=0
 |[],_=>rfl
 |x::r,h=>by rw [List.sum_cons,h x List.mem_cons_self,zbt (fun y hy=>h y (List.mem_cons_of_mem _ hy))]
theorem zlN {l:List Nat} {n:Nat} (h:∀i,n≤i→i < l.length→l.getD i 0=0):(l.take n).sum=l.sum:=by
 have:(l.take n++l.drop n).sum=(l.take n).sum+(l.drop n).sum:=List.sum_append
 rw [List.take_append_drop,zbt (drop_zero h)] at this
 omega
theorem zhz:∀{l:List Nat},(∀x∈l,x≤1)→(l.filter fun x=>decide (0 < x)).length≤1→l.sum≤1
 |[],_,_=>by simp
 |x::r,h,h2=>by
  have hx:=h x List.mem_cons_self
  have ih:=zhz (l:=r) (fun y hy=>h y (List.mem_cons_of_mem _ hy))
  rw [List.filter_cons] at h2
  rw [List.sum_cons]
  by_cases h0:0 < x
  ·rw [if_pos (by simpa using h0),List.length_cons] at h2
   have h3:(r.filter fun x=>decide (0 < x))=[]:=List.length_eq_zero_iff.1 (by omega)
   have h4:∀y∈r,y=0:=fun y hy=>by
    rcases Nat.eq_zero_or_pos y with g|g
    ·exact g
    ·have:y∈(r.filter fun x=>decide (0 < x)):=List.mem_filter.2 ⟨hy,by simpa using g⟩
     rw [h3] at this
     cases this
   rw [zbt h4]
   omega
  ·rw [if_neg (by simpa using h0)] at h2
   have:=ih h2
   omega
end Go.Df
namespace Go.Proofs.YtemdlifojcgplaaGreatDoor
open Go Go.Vx Go.Hf Go.If Go.Df
variable [W0]
set_option linter.all false
theorem yP.whole {cs lens:List Nat} {M:Nat} (h:yP cs M lens) {i j:Nat} (hij:i≠j) (hi:0 < cs.getD i 0) (hj:0 < cs.getD j 0):kS lens=32768:=by
 refine h.all ?_
 rw [←h.nC]
 rcases Nat.lt_or_ge i j with hl|hl
 ·exact two_pos hl hi hj
 ·exact two_pos (show j < i by omega) hj hi
theorem yP.one {cs lens:List Nat} {M:Nat} (h:yP cs M lens):kS lens=32768∨sgl lens=true:=by
 by_cases h2:2≤(Go.Hf.pos cs cs.length).length
 ·exact .inl (h.all h2)
 ·refine .inr ?_
  rw [uU]
  have hN:=h.nC
  have hle:=h.le
  have hpos:=fun i=>h.pos (i:=i)
  have hlen:=h.len
  obtain ⟨N,g,hg,hcn,hNM,hone,htwo⟩:=h.ex
  have h1:∀x∈lens,x≤1:=fun x hx=>by
   obtain ⟨i,hi,rfl⟩:=List.getElem_of_mem hx
   have e:lens.getD i 0=lens[i]:=by simp [List.getD,hi]
   rcases Nat.eq_zero_or_pos lens[i] with h0|h0
   ·omega
   ·have h3:=(hpos i (by omega)).1 (by omega)
    obtain ⟨r,hr,hri⟩:=hcn.onto i (by omega) h3
    have:=hone (by omega) r hr
    rw [hri] at this
    omega
  have h3:(lens.filter fun x=>decide (0 < x)).length≤1:=by
   rcases Nat.lt_or_ge 1 (lens.filter fun x=>decide (0 < x)).length with hlt|hge
   ·exfalso
    have key:∀(l c:List Nat),l.length=c.length→(∀i,i < c.length→(0 < l.getD i 0↔0 < c.getD i 0))→(l.filter fun x=>decide (0 < x)).length=(c.filter fun x=>decide (0 < x)).length:=by
     intro l
     induction l with
     |nil=>intro c hc _;cases c with
      |nil=>rfl
      |cons y c=>simp at hc
     |cons x l ih=>
      intro c hc hp
      cases c with
      |nil=>simp at hc
      |cons y c=>
       have h0:=hp 0 (by simp)
       simp only [List.getD_cons_zero] at h0
       have:=ih c (by simpa using hc) (fun i hi=>by simpa using hp (i+1) (by simpa using hi))
       rw [List.filter_cons,List.filter_cons]
       by_cases hx:0 < x
       ·rw [if_pos (by simpa using hx),if_pos (by simpa using h0.1 hx),List.length_cons,List.length_cons,this]
       ·rw [if_neg (by simpa using hx),if_neg (by simpa using fun hy=>hx (h0.2 hy)),this]
    have:=key lens cs hlen hpos
    omega
   ·exact hge
  have:=zhz h1 h3
  exact decide_eq_true (by omega)
end Go.Proofs.YtemdlifojcgplaaGreatDoor
namespace Go.Df
open Go.Vx Go.If Go.Hf
set_option linter.all false
theorem zbH (s:Nat):∀n,eqN (List.replicate (n+1) s)=n+1:=fun n=>by
 rw [List.replicate_succ,eqN]
 have:((List.replicate n s).takeWhile fun y=>decide (y=s)).length=n:=by
  induction n with
  |zero=>rfl
  |succ n ih=>rw [List.replicate_succ,List.takeWhile_cons_of_pos (by simp),List.length_cons,ih]
 omega
theorem zhQ {s n:Nat} (h0:0 < s) (h15:s≤15) (hn:4≤n):∃r∈rnS (List.replicate n s),r.1=16:=by
 obtain ⟨k,rfl⟩:∃k,n=k+2:=⟨n - 2,by omega⟩
 have e1:sfN s (k+2) false=s:=by unfold sfN;rw [if_neg (by omega),if_neg (by omega),if_neg (by simp)]
 have e2:rpA s=1:=by unfold rpA;rw [if_neg (by omega),if_neg (by omega),if_neg (by omega)]
 have e3:rpB s=0:=by unfold rpB;rw [if_neg (by omega),if_neg (by omega),if_neg (by omega)]
 have e4:smN s (k+2) false=1:=by unfold smN;rw [e1,e2,e3];show min (k+2) (1+1 - 1)=1;omega
 have e5:sfN s (k+1) true=16:=by unfold sfN;rw [if_neg (by omega),if_neg (by omega),if_pos ⟨h0,rfl,by omega⟩]
 have hg:(List.replicate (k+2) s).getD 0 0=s:=by rw [List.replicate_succ];rfl
 refine ⟨(sfN s (k+1) true,smN s (k+1) true - rpA (sfN s (k+1) true)),?_,e5⟩
 unfold rnS
 rw [List.length_replicate,rnF,if_neg (by simp),hg,zbH]
 refine List.mem_append_left _ ?_
 rw [Zo,if_neg (by omega),e4]
 refine List.mem_cons_of_mem _ ?_
 rw [show k+2 - 1=k+1 from by omega,Zo,if_neg (by omega)]
 exact List.mem_cons_self
theorem Qd {s v:Nat}:∀{rs:List (Nat × Nat)} {a:List Nat},(∀r∈rs,zaE r∧r.1=s)→(s≤15∧v=s∨(s=17∨s=18)∧v=0)→(∀x∈a,x=v)→∀x∈rsW (rs.map vL) a,x=v
 |[],a,_,_,ha,x,hx=>ha x hx
 |r::q,a,h,hs,ha,x,hx=>by
  rw [List.map_cons,rsW] at hx
  refine Qd (rs:=q) (fun y hy=>h y (List.mem_cons_of_mem _ hy)) hs ?_ x hx
  obtain ⟨h1,h2⟩:=h r List.mem_cons_self
  intro y hy
  rcases h1.cases with ⟨g1,_,g3,_⟩|⟨g1,_,g3⟩|⟨g1,_,g3⟩|⟨g1,_,g3⟩
  ·rw [g3] at hy
   rcases List.mem_append.1 hy with hy|hy
   ·exact ha y hy
   ·rw [List.mem_singleton.1 hy];omega
  ·omega
  ·rw [g3] at hy
   rcases List.mem_append.1 hy with hy|hy
   ·exact ha y hy
   ·rw [(List.mem_replicate.1 hy).2];omega
  ·rw [g3] at hy
   rcases List.mem_append.1 hy with hy|hy
   ·exact ha y hy
   ·rw [(List.mem_replicate.1 hy).2];omega
theorem zl4 {l:List Nat} (h15:∀x∈l,x≤15) (hl:258≤l.length) (hc:0 < l.getD 256 0):∃r∈rnS l,∃q∈rnS l,r.1≠q.1:=by
 obtain ⟨w1,w2,w3⟩:=zlg h15
 cases hr:rnS l with
 |nil=>
  rw [hr] at w2
  have:l=[]:=w2.symm
  rw [this] at hl
  simp at hl
 |cons r0 q0=>
  by_cases hall:∀r∈rnS l,r.1=r0.1
  ·exfalso
   have hr0:r0∈rnS l:=by rw [hr];exact List.mem_cons_self
   have h256:l.getD 256 0∈l:=by
    rw [List.getD_eq_getElem?_getD,List.getElem?_eq_getElem (show 256 < l.length by omega)]
    exact List.getElem_mem _
   rcases (w1 r0 hr0).cases with ⟨g1,_,g3,_⟩|⟨g1,_,g3⟩|⟨g1,_,g3⟩|⟨g1,_,g3⟩
   ·have hsame:=Qd (v:=r0.1) (a:=[]) (fun r hr=>⟨w1 r hr,hall r hr⟩) (.inl ⟨g1,rfl⟩) (fun x hx=>by cases hx)
    rw [w2] at hsame
    have hrep:l=List.replicate l.length r0.1:=List.eq_replicate_iff.2 ⟨rfl,hsame⟩
    have hpos:0 < r0.1:=by rw [←hsame _ h256];exact hc
    obtain ⟨r,hr1,hr2⟩:=zhQ (n:=l.length) hpos g1 (by omega)
    rw [←hrep] at hr1
    have:=hall r hr1
    omega
   ·have hok:=w3 (List.replicate 19 1) (fun r hr=>by
     have:=(w1 r hr).1
     rw [List.getD_eq_getElem?_getD,List.getElem?_replicate,if_pos (by omega)]
     exact Nat.one_pos)
    rw [hr,List.map_cons,g3] at hok
    exact absurd hok.1.1 (Nat.lt_irrefl _)
   ·have hsame:=Qd (v:=0) (a:=[]) (fun r hr=>⟨w1 r hr,hall r hr⟩) (.inr ⟨.inl g1,rfl⟩) (fun x hx=>by cases hx)
    rw [w2] at hsame
    have:=hsame _ h256
    omega
   ·have hsame:=Qd (v:=0) (a:=[]) (fun r hr=>⟨w1 r hr,hall r hr⟩) (.inr ⟨.inr g1,rfl⟩) (fun x hx=>by cases hx)
    rw [w2] at hsame
    have:=hsame _ h256
    omega
  ·rw [←hr]
   have:∃r,r∈rnS l∧r.1≠r0.1:=by
    apply Classical.byContradiction
    intro hno
    exact hall fun r hr=>Classical.byContradiction fun hne=>hno ⟨r,hr,hne⟩
   obtain ⟨r,h1,h2⟩:=this
   exact ⟨r,h1,r0,by rw [hr];exact List.mem_cons_self,h2⟩
theorem Y1 {l:List Nat} {n:Nat} (h:∀i,n≤i→i < l.length→l.getD i 0=0) (i:Nat):(l.take n).getD i 0=l.getD i 0:=by
 rcases Nat.lt_or_ge i n with hi|hi
 ·simp only [List.getD_eq_getElem?_getD,List.getElem?_take,if_pos hi]
 ·have e1:(l.take n).getD i 0=0:=by simp only [List.getD_eq_getElem?_getD,List.getElem?_take,if_neg (show ¬i < n by omega)];rfl
  rw [e1]
  rcases Nat.lt_or_ge i l.length with h2|h2
  ·exact (h i hi h2).symm
  ·simp [List.getD,List.getElem?_eq_none h2]
theorem zmQ {l:List Nat} {n k:Nat} (h:∀i,n≤i→i < l.length→l.getD i 0=0) (hk:0 < k):cn (l.take n) k=cn l k:=by
 have:=Yr (l.take n) (l.drop n) k
 rw [List.take_append_drop] at this
 have h0:cn (l.drop n) k=0:=by
  unfold cn
  have hz:=drop_zero h
  have:(l.drop n).filter (fun x=>x == k)=[]:=List.filter_eq_nil_iff.2 fun x hx=>by
   rw [hz x hx];simp;omega
  rw [this];rfl
 omega
theorem zgK {l:List Nat} {n:Nat} (h:∀i,n≤i→i < l.length→l.getD i 0=0):∀k,fs (l.take n) k=fs l k
 |0=>rfl
 |k+1=>by
  rw [fs,fs,zgK h k]
  by_cases hk:k=0
  ·rw [if_pos hk,if_pos hk]
  ·rw [if_neg hk,if_neg hk,zmQ h (by omega)]
theorem zht [W0] {l:List Nat} {n:Nat} (h:∀i,n≤i→i < l.length→l.getD i 0=0):sc (l.take n)=sc l:=by
 funext i
 unfold sc
 rw [Y1 h]
 have:cd (l.take n) i=cd l i:=by
  unfold cd
  rw [Y1 h]
  by_cases h0:l.getD i 0=0
  ·rw [if_pos h0,if_pos h0]
  ·rw [if_neg h0,if_neg h0,zgK h]
   have hi:i < n:=by
    rcases Nat.lt_or_ge i n with g|g
    ·exact g
    ·exact absurd (h i g (Qu (Nat.pos_of_ne_zero h0))) h0
   rw [List.take_take,Nat.min_eq_left (Nat.le_of_lt hi)]
 rw [this]
theorem zct [W0] {l l' dl dl':List Nat} (h1:sc l'=sc l) (h2:sc dl'=sc dl):∀ts,tsI l' dl' ts=tsI l dl ts
 |[]=>rfl
 |k::r=>by
  rw [tsI,tsI,zct h1 h2 r]
  have:tkI l' dl' k=tkI l dl k:=by cases k<;>simp only [tkI,h1,h2]
  rw [this]
def zfJ (P:Program) (t:Nat) (name:String):Option FuncId:=match P.info? t with
 |some i=>match i.methods.find? (·.name == name) with
  |some m=>match m.path.toList,m.func,P.underlying t with
   |[],some (f,false),some (.struct _)=>some f
   |_,_,_=>none
  |none=>none
 |none=>none
theorem zep {P:Program} {t:Nat} {name:String} {f:FuncId} (h:zfJ P t name=some f) (fuel:Nat) (v:Value) [W0] (w:World):(method (fuel+1) t v name).run P w=.ok (f,v) w:=by
 unfold zfJ at h
 split at h
 ·rename_i i hi
  split at h
  ·rename_i m hm
   split at h
   ·rename_i f' e h1 h2 h3
    simp at h
    subst h
    unfold method
    simp [typeInfo,hi,hm,h1,follow,h2,receiverAt,run_underlying h3,Place.get]
   ·simp at h
  ·simp at h
 ·simp at h
section
variable [W0]
variable {P : Program} {n : Nat} {M : List (Nat × Value)} {L : List Chunk} {K : List (Nat × Value) → List Chunk → Prop}
variable {d : Nat} {ty : TypeId} {ps : String} {af : Array Edge} {g : Option (Nat × Bool)} {x : Operand} {v : Value}
theorem ZR {t:Nat} {f:FuncId} {name:String} (hm:zfJ P t name=some f) [hb:BD P f] {xs:List Operand} {ats:Array TypeId} {vs:List Value} {post:Value→List Chunk→Prop}
 (hx:ev M x=some (.iface t v)) (hvs:evs M xs=some vs) (hspec:Gv P f (v::vs).toArray L post)
 (hn:Nat.blt d n=true) (h:∀v L',post v L'→K ((d,v)::M) L'):OW P n ⟨some d,.call ⟨.invoke x name,xs.toArray,ats⟩,ty,ps,af,g⟩ K M L:=⟨fun a w next Q ha hw hk=>by
 have hrun:(execOp a.eval ⟨some d,.call ⟨.invoke x name,xs.toArray,ats⟩,ty,ps,af,g⟩).run P w=.ok (.enter f (v::vs).toArray) w:=by
  have e1:Array.map a.eval xs.toArray=vs.toArray:=by rw [←ha.evals hvs];simp
  have e2:(#[Value.iface t v]++vs.toArray)[0]? =some (.iface t v):=by simp
  have e3:(#[Value.iface t v]++vs.toArray).extract 1 (#[Value.iface t v]++vs.toArray).size=vs.toArray:=by
   apply Array.ext';simp
  have e4:#[v]++vs.toArray=(v::vs).toArray:=by apply Array.ext';simp
  have hfuel:P.types.size+Made.depth=(P.types.size+Made.depth - 1)+1:=by
   have:0 < Made.depth:=by decide
   omega
  have hmr:=zep hm (P.types.size+Made.depth - 1) v w
  rw [←hfuel] at hmr
  simp only [execOp,resolve,ha.eval hx,e1,Sem.run_bind,Sem.run_pure,Result.andThen_ok,invoke,e2,e3,callMethod,run_program,hmr,e4,ZU hb.out]
 unfold Oper.wp
 rw [hrun,Oper.upon_enter]
 refine (hspec.out w hw).mono fun e w' he=>?_
 obtain ⟨v,L',rfl,hp,hw'⟩:=he
 exact (hk _ _ (h v L' hp)).out _ _ (ha.put v hn) hw'⟩
end
def enB [W0] (n:Nat) (B:Blk):Nat:=n+1+itL (blI (n+1) B)
def szB [W0] (n:Nat) (bs:List Blk):Nat:=bs.foldl enB n
end Go.Df
namespace Go.Proofs.YtemdlifojcgplaaGreatDoor
open Go Go.Vx Go.Hf Go.If Go.Df
variable [W0]
set_option maxRecDepth 4000
set_option linter.all false
omit [W0] in
def zm5:Blk→Nat
 |.st _=>324
 |.fx _=>323
 |.dn .. =>326
omit [W0] in
def zfp:Blk→Nat
 |.st _=>220
 |.fx _=>186
 |.dn .. =>228
theorem zpK:zfJ Tryz.prog 220 "stemma/deflate.end"=some 324:=by kernel_rfl
theorem zpJ:zfJ Tryz.prog 186 "stemma/deflate.end"=some 323:=by kernel_rfl
theorem zpI:zfJ Tryz.prog 228 "stemma/deflate.end"=some 326:=by kernel_rfl
theorem zg9 (B:Blk):zfJ Tryz.prog (zfp B) "stemma/deflate.end"=some (zm5 B):=by
 cases B with
 |st t=>exact zpK
 |fx ts=>exact zpJ
 |dn ts l dl n1 n2 o own rs=>exact zpI
instance (B:Blk):BD Tryz.prog (zm5 B):=by
 cases B with
 |st t=>exact (inferInstance:BD Tryz.prog 324)
 |fx ts=>exact (inferInstance:BD Tryz.prog 323)
 |dn ts l dl n1 n2 o own rs=>exact (inferInstance:BD Tryz.prog 326)
theorem zaI (v:Value) (B:Blk) (n:Nat) (L:List Chunk) (h:Zw L v B) (hn:n≤1000000000000):∃a,v=.iface (zfp B) a∧GvP Tryz.prog (zm5 B) [a,.int .i64 (n:Int)].toArray L (.int .i64 ((enB n B:Nat):Int)):=by
 have hle:=h.le (n+1)
 unfold enB
 cases B with
 |st t=>
  obtain ⟨vt,rfl,hrs,ht⟩:=h
  obtain ⟨ta,tc,rfl,_⟩:=hrs.room
  refine ⟨_,rfl,?_⟩
  have hsz:n+1+itL (blI (n+1) (.st t))=8 * ((n+10) / 8+t.length)+32:=by
   simp only [blI]
   rw [zw,zbj]
   simp only [itL]
   omega
  rw [hsz]
  show GvP Tryz.prog 324 _ _ _
  refine Gv.of_body (args:=[.agg #[.slice ta t.length tc],.int .i64 (n:Int)]) Tryz.func324 rfl rfl ?_
  (refine kW ?_;refine kU fun bk=>?_;refine kW ?_)
  refine ze (uN (n+10) 8 rfl rfl (by omega) rfl (by decide) (by omega)) rfl ?_
  refine kW ?_
  rw [show (8:Int) * (((n+10) / 8:Nat)+(t.length:Int))+32=((8 * ((n+10) / 8+t.length)+32:Nat):Int) from by omega]
  refine kR ?_
  exact ⟨_,iC,rfl,rfl⟩
 |fx ts=>
  obtain ⟨vt,v1,v2,v3,v4,rfl,hco⟩:=h
  refine ⟨_,rfl,?_⟩
  have hsz:n+1+itL (blI (n+1) (.fx ts))=n+3+itL (coI fxL fxD ts):=by
   simp only [blI,itL,coI]
   omega
  rw [hsz]
  have hle2:itL (coI fxL fxD ts)≤10000000:=by simp only [blI,itL] at hle;unfold coI;omega
  generalize itL (coI fxL fxD ts)=size at *
  unfold cdV
  show GvP Tryz.prog 323 _ _ _
  refine Gv.of_body (args:=[.agg #[vt,v1,v2,v3,v4,.int .i64 (size:Int)],.int .i64 (n:Int)]) Tryz.func323 rfl rfl ?_
  (refine kW ?_;refine kU fun bk=>?_;refine kW ?_)
  rw [show (n:Int)+3+(size:Int)=((n+3+size:Nat):Int) from by omega]
  refine kR ?_
  exact ⟨_,iC,rfl,rfl⟩
 |dn ts l dl n1 n2 o own rs=>
  obtain ⟨vt,v1,v2,v3,v4,vo,v5,v6,vr,rfl,hco,hhd⟩:=h
  refine ⟨_,rfl,?_⟩
  have hsz:n+1+itL (blI (n+1) (.dn ts l dl n1 n2 o own rs))=n+3+itL (hwI n1 n2 o own rs)+itL (coI l dl ts):=by
   simp only [blI,itL,coI]
   rw [zw]
   omega
  rw [hsz]
  have hle2:itL (hwI n1 n2 o own rs)+itL (coI l dl ts)≤10000000:=by simp only [blI,itL] at hle;rw [zw] at hle;unfold coI;omega
  have hds:=fun B=>zj9 vo v5 v6 vr n1 n2 o own rs (B::L) (hhd.sub yh)
  generalize itL (coI l dl ts)=size at *
  generalize itL (hwI n1 n2 o own rs)=hs at *
  unfold cdV hdV at *
  show GvP Tryz.prog 326 _ _ _
  refine Gv.of_body (args:=[.agg #[vt,v1,v2,v3,v4,.int .i64 (size:Int),.int .i64 (n1:Int),.int .i64 (n2:Int),vo,v5,v6,vr],.int .i64 (n:Int)]) Tryz.func326 rfl rfl ?_
  (refine kW ?_;refine kU fun bk=>?_;refine kW ?_)
  refine zk [10] mixed ?_
  (refine za 0 ?_;refine za 1 ?_;refine za 2 ?_;refine za 3 ?_;refine za 6 ?_;refine za 7 ?_;refine za 8 ?_)
  refine cI 4 rfl rfl ?_
  refine cP rfl rfl (hds _) ?_
  refine ⟨iC,?_⟩
  (refine za 5 ?_;refine za 9 ?_)
  refine cL 10 rfl rfl rfl ?_
  refine ze (yQ rfl) rfl ?_
  refine cD ?_
  refine kW ?_
  rw [show (n:Int)+3+(hs:Int)+(size:Int)=((n+3+hs+size:Nat):Int) from by omega]
  refine kR ?_
  exact ⟨_,iC,rfl,rfl⟩
end Go.Proofs.YtemdlifojcgplaaGreatDoor
namespace Go.Df
open Go.Vx Go.If Go.Hf
set_option linter.all false
theorem Qf [W0] (n:Nat) (x:List Blk) (B:Blk):szB n (x++[B])=enB (szB n x) B:=by simp [szB,List.foldl_append]
end Go.Df
namespace Go.Proofs.YtemdlifojcgplaaGreatDoor
open Go Go.Vx Go.Hf Go.If Go.Df
variable [W0]
set_option maxRecDepth 4000
set_option linter.all false
theorem zgP (x:Int) (L:List Chunk):GvP Tryz.prog 207 [.int .i64 x].toArray L (.bool false):=by
 refine Gv.of_body (args:=[.int .i64 x]) Tryz.func207 rfl rfl ?_
 refine kW ?_
 rw [show (x != x)=false from by simp]
 refine kR ?_
 exact ⟨_,iC,rfl,rfl⟩
theorem zd4 (x y:Nat) (L:List Chunk):Gv Tryz.prog 162 [.int .i64 (x:Int),.int .i64 (y:Int)].toArray L (fun r L'=>∃c:Int,r=.int .i64 c∧(c < 0↔x < y)∧L'=L):=by
 refine Gv.of_body (args:=[.int .i64 (x:Int),.int .i64 (y:Int)]) Tryz.func162 rfl rfl ?_
 refine kW ?_
 refine cP rfl rfl (zgP _ _) ?_
 refine kW ?_
 refine cP rfl rfl (zgP _ _) ?_
 (repeat' first|refine kW ?_|refine kU fun bk=>?_|refine kV fun hc=>?_|refine kZ (fun hc=>?_) fun hc=>?_|fail)
 ·refine kR ?_
  exact ⟨_,iC,_,rfl,by omega,rfl⟩
 ·refine kR ?_
  exact ⟨_,iC,_,rfl,by omega,rfl⟩
 ·refine kR ?_
  exact ⟨_,iC,_,rfl,by omega,rfl⟩
theorem zlU {L:List Chunk} {v:Value} {bs:List Blk} (h:Qi L v bs) (j:Nat) (hj:j≤bs.length):szB 0 (bs.take j)≤10000001 * j:=by
 obtain ⟨vs,_,_,h3⟩:=h.ex
 induction j with
 |zero=>simp [szB]
 |succ j ih=>
  have hjl:j < bs.length:=hj
  obtain ⟨B,hB⟩:∃B,bs[j]? =some B:=⟨bs[j],List.getElem?_eq_getElem hjl⟩
  obtain ⟨u,_,hu⟩:=h3 j B hB
  have h4:=hu.le (szB 0 (bs.take j)+1)
  have h5:=ih (by omega)
  rw [qd hB,Qf]
  unfold enB
  omega
theorem zlD (v:Value) (bs:List Blk) (L:List Chunk) (hK:Qi L v bs) (hn:bs.length≤90000) :
 GvP Tryz.prog 163 [v].toArray L (.int .i64 ((szB 0 bs:Nat):Int)):=by
 refine Gv.of_body (args:=[v]) Tryz.func163 rfl rfl ?_
 obtain ⟨vs,hrs,hon,hbl⟩:=hK.ex
 obtain ⟨va,vc,rfl,_⟩:=hrs.room
 refine kW ?_
 refine zn (X:=Nat) (fun x=>[(3,.int .i64 ((szB 0 (bs.take x):Nat):Int)),(6,.slice va bs.length vc),(7,.int .i64 (bs.length:Int)),(8,.int .i64 (x:Int))]) (fun _=>L) (fun x=>x≤bs.length) (fun x=>bs.length - x) 0 (Nat.zero_le _) iS (fun w h=>iH h) ?_
 intro j hj9
 have hj:j≤bs.length:=hj9
 have hsz:=zlU hK j hj
 (repeat' first|refine kW ?_|refine kU fun bk=>?_|refine kV fun hc=>?_|refine kZ (fun hc=>?_) fun hc=>?_|fail)
 ·have hjl:j < bs.length:=by omega
  obtain ⟨B,hB⟩:∃B,bs[j]? =some B:=⟨bs[j],List.getElem?_eq_getElem hjl⟩
  obtain ⟨u,hu,hbu⟩:=hbl j B hB
  obtain ⟨b1,o1,c1,cc1,T1,f1,hv9,hf1,hv1⟩:=yV hrs.sl hu
  injection hv9 with q1 q2 q3
  subst q1 q3
  clear q2
  refine ze (zi (j:=j) rfl rfl rfl (by omega)) rfl ?_
  refine kW ?_
  refine ze (zq rfl hf1 hv1) rfl ?_
  refine kW ?_
  obtain ⟨a,rfl,hen⟩:=zaI u B (szB 0 (bs.take j)) L hbu (by omega)
  refine ZR (zg9 B) rfl rfl hen rfl (fun r L' hp=>?_)
  obtain ⟨rfl,rfl⟩:=hp
  rw [←Qf,←qd hB]
  refine kW ?_
  refine zf (X:=Nat) (μ:=fun x=>bs.length - x) (x:=j) (j+1) (by omega) (by show j+1≤bs.length;omega) iS (fun w h=>iH h)
 ·obtain rfl:j=bs.length:=by omega
  rw [List.take_length]
  refine kR ?_
  exact ⟨_,iC,rfl,rfl⟩
theorem zfF (v:Value) (us:List Value) (m:Nat→Nat) (fc:FuncId) [BD Tryz.prog fc] (cap:Array Value) (L:List Chunk) (hK:Rs L 1 v us.length us) (h0:0 < us.length) (hl:us.length≤1000000)
 (hc9:∀(i j:Nat) (a b:Value),us[i]? =some a→us[j]? =some b→Gv Tryz.prog fc (#[]++[a,b].toArray++cap) L (fun r L'=>∃c:Int,r=.int .i64 c∧(c < 0↔m i < m j)∧L'=L)) :
 Gv Tryz.prog 160 [v,.func (.func fc) #[] cap].toArray L (fun r L'=>∃i,us[i]? =some r∧(∀j,j < us.length→m i≤m j)∧L'=L):=by
 refine Gv.of_body (args:=[v,.func (.func fc) #[] cap]) Tryz.func160 rfl rfl ?_
 obtain ⟨va,vc,rfl,_⟩:=hK.room
 have hld:∀(j:Nat) (u:Value),us[j]? =some u→∃b1 o1 c1 T1 f1,va=some ⟨b1,o1,none⟩∧Fnd L b1 (.cells c1 T1 f1)∧c1[o1+j * 1]? =some u:=fun j u hu=>by
  obtain ⟨b1,o1,c1,cc1,T1,f1,hv9,hf1,hv1⟩:=yV hK.sl hu
  injection hv9 with q1 q2 q3
  exact ⟨b1,o1,cc1,T1,f1,q1,hf1,hv1⟩
 obtain ⟨u0,hu0⟩:∃u,us[0]? =some u:=⟨us[0],List.getElem?_eq_getElem h0⟩
 obtain ⟨b0,o0,c0,T0,f0,rfl,hf0,hv0⟩:=hld 0 u0 hu0
 (refine kW ?_;refine kV fun hc=>?_;refine kW ?_)
 refine ze (zi (j:=0) rfl rfl rfl (by omega)) rfl ?_
 refine kW ?_
 refine ze (zq rfl hf0 hv0) rfl ?_
 refine kW ?_
 refine zn (X:=Nat × Nat × Value) (fun x=>[(0,.slice (some ⟨b0,o0,none⟩) us.length vc),(1,.func (.func fc) #[] cap),(5,x.2.2),(6,.int .i64 (x.1:Int))]) (fun _=>L) (fun x=>x.1≤us.length∧us[x.2.1]? =some x.2.2∧∀j,j < x.1→m x.2.1≤m j) (fun x=>us.length - x.1) (1,0,u0) ⟨by simp only;omega,hu0,fun j hj=>by simp only at hj ⊢;rw [show j=0 from by omega];exact Nat.le_refl _⟩ iS (fun w h=>iH h) ?_
 rintro ⟨j,i,u⟩ ⟨hj,hi,hle⟩
 simp only at hj hi hle ⊢
 (repeat' first|refine kW ?_|refine kU fun bk=>?_|refine kV fun hc=>?_|refine kZ (fun hc=>?_) fun hc=>?_|fail)
 ·obtain ⟨u2,hu2⟩:∃u,us[j]? =some u:=⟨us[j]'(by omega),List.getElem?_eq_getElem (by omega)⟩
  obtain ⟨b1,o1,c1,T1,f1,hq,hf1,hv1⟩:=hld j u2 hu2
  injection hq with hq
  injection hq with q1 q2
  subst q1 q2
  refine ze (zi (j:=j) rfl rfl rfl (by omega)) rfl ?_
  refine kW ?_
  refine ze (zq rfl hf1 hv1) rfl ?_
  refine kW ?_
  refine cC rfl rfl (hc9 j i u2 u hu2 hi) (fun r L' hp=>?_)
  obtain ⟨c,rfl,hc8,rfl⟩:=hp
  (repeat' first|refine kW ?_|refine kU fun bk=>?_|refine kV fun hc=>?_|refine kZ (fun hc=>?_) fun hc=>?_|fail)
  ·have hlt:m j < m i:=hc8.1 (by omega)
   refine ze (zi (j:=j) rfl rfl rfl (by omega)) rfl ?_
   refine kW ?_
   refine ze (zq rfl hf1 hv1) rfl ?_
   refine kW ?_
   refine zf (X:=Nat × Nat × Value) (μ:=fun x=>us.length - x.1) (x:=(j,i,u)) (j+1,j,u2) (by simp only;omega) ⟨by simp only;omega,hu2,fun k hk=>by
    simp only at hk ⊢
    rcases Nat.lt_or_ge k j with h|h
    ·exact Nat.le_trans (Nat.le_of_lt hlt) (hle k h)
    ·rw [show k=j from by omega];exact Nat.le_refl _⟩ iS (fun w h=>iH h)
  ·have hge:m i≤m j:=by
    rcases Nat.lt_or_ge (m j) (m i) with h|h
    ·have:=hc8.2 h;omega
    ·exact h
   refine zf (X:=Nat × Nat × Value) (μ:=fun x=>us.length - x.1) (x:=(j,i,u)) (j+1,i,u) (by simp only;omega) ⟨by simp only;omega,hi,fun k hk=>by
    simp only at hk ⊢
    rcases Nat.lt_or_ge k j with h|h
    ·exact hle k h
    ·rw [show k=j from by omega];exact hge⟩ iS (fun w h=>iH h)
 ·refine kR ?_
  exact ⟨_,iC,i,hi,fun k hk=>hle k (by omega),rfl⟩
theorem zeq (v:Value) (us:List Value) (m:Nat→Nat) (fc:FuncId) [BD Tryz.prog fc] (cap:Array Value) (L:List Chunk) (hK:Rs L 1 v us.length us) (h0:0 < us.length) (hl:us.length≤1000000)
 (hc9:∀(i j:Nat) (a b:Value),us[i]? =some a→us[j]? =some b→Gv Tryz.prog fc (#[]++[a,b].toArray++cap) L (fun r L'=>∃c:Int,r=.int .i64 c∧(c < 0↔m i < m j)∧L'=L)) :
 Gv Tryz.prog 165 [v,.func (.func fc) #[] cap].toArray L (fun r L'=>∃i,us[i]? =some r∧(∀j,j < us.length→m i≤m j)∧L'=L):=by
 refine Gv.of_body (args:=[v,.func (.func fc) #[] cap]) Tryz.func165 rfl rfl ?_
 obtain ⟨va,vc,rfl,_⟩:=hK.room
 have hld:∀(j:Nat) (u:Value),us[j]? =some u→∃b1 o1 c1 T1 f1,va=some ⟨b1,o1,none⟩∧Fnd L b1 (.cells c1 T1 f1)∧c1[o1+j * 1]? =some u:=fun j u hu=>by
  obtain ⟨b1,o1,c1,cc1,T1,f1,hv9,hf1,hv1⟩:=yV hK.sl hu
  injection hv9 with q1 q2 q3
  exact ⟨b1,o1,cc1,T1,f1,q1,hf1,hv1⟩
 obtain ⟨u0,hu0⟩:∃u,us[0]? =some u:=⟨us[0],List.getElem?_eq_getElem h0⟩
 obtain ⟨b0,o0,c0,T0,f0,rfl,hf0,hv0⟩:=hld 0 u0 hu0
 (refine kW ?_;refine kV fun hc=>?_;refine kW ?_)
 refine ze (zi (j:=0) rfl rfl rfl (by omega)) rfl ?_
 refine kW ?_
 refine ze (zq rfl hf0 hv0) rfl ?_
 refine kW ?_
 refine zn (X:=Nat × Nat × Value) (fun x=>[(0,.slice (some ⟨b0,o0,none⟩) us.length vc),(1,.func (.func fc) #[] cap),(5,x.2.2),(6,.int .i64 (x.1:Int))]) (fun _=>L) (fun x=>x.1≤us.length∧us[x.2.1]? =some x.2.2∧∀j,j < x.1→m x.2.1≤m j) (fun x=>us.length - x.1) (1,0,u0) ⟨by simp only;omega,hu0,fun j hj=>by simp only at hj ⊢;rw [show j=0 from by omega];exact Nat.le_refl _⟩ iS (fun w h=>iH h) ?_
 rintro ⟨j,i,u⟩ ⟨hj,hi,hle⟩
 simp only at hj hi hle ⊢
 (repeat' first|refine kW ?_|refine kU fun bk=>?_|refine kV fun hc=>?_|refine kZ (fun hc=>?_) fun hc=>?_|fail)
 ·obtain ⟨u2,hu2⟩:∃u,us[j]? =some u:=⟨us[j]'(by omega),List.getElem?_eq_getElem (by omega)⟩
  obtain ⟨b1,o1,c1,T1,f1,hq,hf1,hv1⟩:=hld j u2 hu2
  injection hq with hq
  injection hq with q1 q2
  subst q1 q2
  refine ze (zi (j:=j) rfl rfl rfl (by omega)) rfl ?_
  refine kW ?_
  refine ze (zq rfl hf1 hv1) rfl ?_
  refine kW ?_
  refine cC rfl rfl (hc9 j i u2 u hu2 hi) (fun r L' hp=>?_)
  obtain ⟨c,rfl,hc8,rfl⟩:=hp
  (repeat' first|refine kW ?_|refine kU fun bk=>?_|refine kV fun hc=>?_|refine kZ (fun hc=>?_) fun hc=>?_|fail)
  ·have hlt:m j < m i:=hc8.1 (by omega)
   refine ze (zi (j:=j) rfl rfl rfl (by omega)) rfl ?_
   refine kW ?_
   refine ze (zq rfl hf1 hv1) rfl ?_
   refine kW ?_
   refine zf (X:=Nat × Nat × Value) (μ:=fun x=>us.length - x.1) (x:=(j,i,u)) (j+1,j,u2) (by simp only;omega) ⟨by simp only;omega,hu2,fun k hk=>by
    simp only at hk ⊢
    rcases Nat.lt_or_ge k j with h|h
    ·exact Nat.le_trans (Nat.le_of_lt hlt) (hle k h)
    ·rw [show k=j from by omega];exact Nat.le_refl _⟩ iS (fun w h=>iH h)
  ·have hge:m i≤m j:=by
    rcases Nat.lt_or_ge (m j) (m i) with h|h
    ·have:=hc8.2 h;omega
    ·exact h
   refine zf (X:=Nat × Nat × Value) (μ:=fun x=>us.length - x.1) (x:=(j,i,u)) (j+1,i,u) (by simp only;omega) ⟨by simp only;omega,hi,fun k hk=>by
    simp only at hk ⊢
    rcases Nat.lt_or_ge k j with h|h
    ·exact hle k h
    ·rw [show k=j from by omega];exact hge⟩ iS (fun w h=>iH h)
 ·refine kR ?_
  exact ⟨_,iC,i,hi,fun k hk=>hle k (by omega),rfl⟩
theorem zn0 (x y:Value) (bs cs:List Blk) (L:List Chunk) (hx:Qi L x bs) (hy:Qi L y cs) (hn:bs.length≤90000) (hm:cs.length≤90000) :
 Gv Tryz.prog 161 [x,y].toArray L (fun r L'=>∃c:Int,r=.int .i64 c∧(c < 0↔szB 0 bs < szB 0 cs)∧L'=L):=by
 refine Gv.of_body (args:=[x,y]) Tryz.func161 rfl rfl ?_
 refine kW ?_
 refine cP rfl rfl (zlD x bs L hx hn) ?_
 refine kW ?_
 refine cP rfl rfl (zlD y cs L hy hm) ?_
 refine kW ?_
 refine cC rfl rfl (zd4 _ _ L) (fun r L' hp=>?_)
 obtain ⟨c,rfl,hc8,rfl⟩:=hp
 refine kW ?_
 refine kR ?_
 exact ⟨_,iC,c,rfl,hc8,rfl⟩
theorem zf8 (v:Value) (us:List Value) (bl:List (List Blk)) (L:List Chunk) (hK:Rs L 1 v us.length us) (h0:0 < us.length) (hl:us.length≤1000000) (hbl:bl.length=us.length)
 (hb:∀(i:Nat) (u:Value),us[i]? =some u→Qi L u (bl.getD i [])∧(bl.getD i []).length≤90000) :
 Gv Tryz.prog 120 [v].toArray L (fun r L'=>∃i,us[i]? =some r∧(∀j,j < us.length→szB 0 (bl.getD i [])≤szB 0 (bl.getD j []))∧L'=L):=by
 refine Gv.of_body (args:=[v]) Tryz.func120 rfl rfl ?_
 refine kW ?_
 refine cC rfl rfl (zfF v us (fun i=>szB 0 (bl.getD i [])) 161 #[] L hK h0 hl (fun i j a b hi hj=>zn0 a b _ _ L (hb i a hi).1 (hb j b hj).1 (hb i a hi).2 (hb j b hj).2)) (fun r L' hp=>?_)
 obtain ⟨i,hi,hle,rfl⟩:=hp
 refine kW ?_
 refine kR ?_
 exact ⟨_,iC,i,hi,hle,rfl⟩
def ChO (b:List UInt8) (ts:List (Nat × Nat)):Blk→Prop
 |.st t=>t=b
 |.fx k=>k=ts
 |.dn k l dl n1 n2 o own rs=>k=ts∧ts≠[]∧yP (inc (cA ts) 256) 15 l∧yP (cD ts) 15 dl∧yP (cR (rnS (hdL l dl))) 7 own∧n1=trN l 257 l.length∧n2=trN dl 1 dl.length∧o=(orN own).take (trN (orN own) 4 19)∧rs=rnS (hdL l dl)
theorem zpo (u1 u2:Value) (B1 B2:Blk) (n bk:Nat) (L:List Chunk) (h1:Zw L u1 B1) (h2:Zw L u2 B2) (hf:Fnd L bk (cl [.int .i64 (n:Int)] 3)) (hn:n≤1000000000000) :
 Gv Tryz.prog 167 [u1,u2,.pointer (some ⟨bk,0,none⟩)].toArray L (fun r L'=>∃c:Int,r=.int .i64 c∧(c < 0↔enB n B1 < enB n B2)∧L'=L):=by
 refine Gv.of_body (args:=[u1,u2,.pointer (some ⟨bk,0,none⟩)]) Tryz.func167 rfl rfl ?_
 obtain ⟨a1,rfl,he1⟩:=zaI u1 B1 n L h1 hn
 obtain ⟨a2,rfl,he2⟩:=zaI u2 B2 n L h2 hn
 refine kW ?_
 refine zk [7] mixed ?_
 (refine za 0 ?_;refine za 1 ?_;refine za 3 ?_;refine za 4 ?_)
 refine cI 2 rfl rfl ?_
 refine ZR (zg9 B1) rfl rfl he1 rfl (fun r L' hp=>?_)
 obtain ⟨rfl,rfl⟩:=hp
 refine ⟨iC,?_⟩
 refine cI 5 rfl rfl ?_
 refine ZR (zg9 B2) rfl rfl he2 rfl (fun r L' hp=>?_)
 obtain ⟨rfl,rfl⟩:=hp
 refine ⟨iC,?_⟩
 refine cI 6 rfl rfl ?_
 refine cC rfl rfl (zd4 _ _ L') (fun r L' hp=>?_)
 obtain ⟨c,rfl,hc8,rfl⟩:=hp
 refine ⟨iC,?_⟩
 refine cL 7 rfl rfl rfl ?_
 refine ze (yQ rfl) rfl ?_
 refine cD ?_
 refine kW ?_
 refine kR ?_
 exact ⟨_,iC,c,rfl,hc8,rfl⟩
theorem zhW (v vt:Value) (b:List UInt8) (ts:List (Nat × Nat)) (S L:List Chunk) (hi:Inc S L) (h:PcR S v vt b ts) (hb:b.length≤65535) (hor:qQ L) :
 Gv Tryz.prog 166 [.agg #[v,vt]].toArray L (fun r L'=>∃bs C T,ZL (T::S) r bs C∧2≤bs.length∧bs.length≤3∧bs[0]? =some (.st b)∧(∀B∈bs,ChO b ts B)∧L'=C::T::L):=by
 refine Gv.of_body (args:=[.agg #[v,vt]]) Tryz.func166 rfl rfl ?_
 obtain ⟨va,vc,rfl,_⟩:=h.x.room
 obtain ⟨ta,tc,rfl,_⟩:=h.t.rs.room
 have hnt:=h.nt
 (refine kW ?_;refine kU fun bk=>?_;refine kW ?_)
 rename_i q1
 refine zk [8] mixed ?_
 (refine za 0 ?_;refine za 1 ?_;refine za 2 ?_;refine za 3 ?_;refine za 4 ?_)
 refine cI 5 rfl rfl ?_
 refine cC rfl rfl (zb9 (.slice va b.length vc) (.slice ta ts.length tc) b ts S _ (Inc.skip hi) h) (fun r L' hp=>?_)
 obtain ⟨v1,v2,v3,v4,C1,rfl,hc1,rfl⟩:=hp
 refine ⟨iC,?_⟩
 (refine za 6 ?_)
 refine cI 7 rfl rfl ?_
 refine zl (cs:=[.iface 220 (.agg #[.slice va b.length vc]),.iface 186 (.agg (cdV (.slice ta ts.length tc) v1 v2 v3 v4 (itL (coI fxL fxD ts))).toArray)]) rfl (by rfl) (by first|(simp [zA,patch,Value.cells,zeros];done)|(simp [zA,patch,Value.cells,zeros];rfl)) (by omega) rfl rfl (fun bn=>?_)
 refine ⟨iC,?_⟩
 refine cL 8 rfl rfl rfl ?_
 refine ze (yQ rfl) rfl ?_
 refine cD ?_
 have hf1:Zw (C1::S) (.iface 186 (.agg (cdV (.slice ta ts.length tc) v1 v2 v3 v4 (itL (coI fxL fxD ts))).toArray)) (.fx ts):=⟨_,_,_,_,_,rfl,hc1⟩
 have hs1:Zw S (.iface 220 (.agg #[.slice va b.length vc])) (.st b):=⟨_,rfl,h.x,hb⟩
 have hlist:∀T,(∀x∈(C1::S).flatten,x∈(T::S).flatten)→∀(i:Nat) (B:Blk),[Blk.st b,Blk.fx ts][i]? =some B→∃u,[Value.iface 220 (.agg #[.slice va b.length vc]),Value.iface 186 (.agg (cdV (.slice ta ts.length tc) v1 v2 v3 v4 (itL (coI fxL fxD ts))).toArray)][i]? =some u∧Zw (T::S) u B:=fun T hT i B hiB=>by
  match i,hiB with
  |0,hiB=>injection hiB with hiB;subst hiB;exact ⟨_,rfl,hs1.sub yh⟩
  |1,hiB=>injection hiB with hiB;subst hiB;exact ⟨_,rfl,hf1.sub hT⟩
  |i+2,hiB=>simp at hiB
 (repeat' first|refine kW ?_|refine kU fun bk=>?_|refine kV fun hc=>?_|refine kZ (fun hc=>?_) fun hc=>?_|fail)
 ·refine cC rfl rfl (zeb (.slice va b.length vc) (.slice ta ts.length tc) b ts S _ (Inc.skip (Inc.skip (Inc.skip hi))) h (by repeat (first|exact hor|apply qQ.there))) (fun r L' hp=>?_)
  obtain ⟨l,dl,own,w1,w2,w3,w4,wo,w5,w6,wr,C2,rfl,hlo,hlo2,hlo3,hfc,hfh,rfl⟩:=hp
  have hne:ts≠[]:=fun h0=>by subst h0;simp at hc
  have hd1:Zw (C2::S) (Value.iface 228 (.agg (cdV (.slice ta ts.length tc) w1 w2 w3 w4 (itL (coI l dl ts))++hdV (trN l 257 l.length) (trN dl 1 dl.length) wo w5 w6 wr).toArray)) (.dn ts l dl (trN l 257 l.length) (trN dl 1 dl.length) ((orN own).take (trN (orN own) 4 19)) own (rnS (hdL l dl))):=⟨_,_,_,_,_,_,_,_,_,rfl,hfc,hfh⟩
  have hs2:∀x∈(C1::S).flatten,x∈((C2++C1)::S).flatten:=fun x hx=>by
   simp only [List.flatten_cons,List.mem_append] at hx ⊢
   rcases hx with hx|hx
   ·exact .inl (.inr hx)
   ·exact .inr hx
  have hs3:∀x∈(C2::S).flatten,x∈((C2++C1)::S).flatten:=fun x hx=>by
   simp only [List.flatten_cons,List.mem_append] at hx ⊢
   rcases hx with hx|hx
   ·exact .inl (.inl hx)
   ·exact .inr hx
  have ho:Ow 173 1 (.slice (some ⟨bn,0,none⟩) 2 2) 2 [Value.iface 220 (.agg #[.slice va b.length vc]),Value.iface 186 (.agg (cdV (.slice ta ts.length tc) v1 v2 v3 v4 (itL (coI fxL fxD ts))).toArray)] [(bn,cl [Value.iface 220 (.agg #[.slice va b.length vc]),Value.iface 186 (.agg (cdV (.slice ta ts.length tc) v1 v2 v3 v4 (itL (coI fxL fxD ts))).toArray)] 173)]:=
   .inr ⟨bn,2,[],rfl,by rw [List.append_nil],rfl,rfl,Nat.le_refl _,by simp [maxLen]⟩
  refine kW ?_
  refine zl (cs:=[Value.iface 228 (.agg (cdV (.slice ta ts.length tc) w1 w2 w3 w4 (itL (coI l dl ts))++hdV (trN l 257 l.length) (trN dl 1 dl.length) wo w5 w6 wr).toArray)]) rfl (by rfl) (by first|(simp [zA,patch,Value.cells,zeros];done)|(simp [zA,patch,Value.cells,zeros];rfl)) (by omega) rfl rfl (fun b3=>?_)
  refine jA ?_
  refine zu rfl rfl ho (zF (k:=1) (c:=#[Value.iface 228 (.agg (cdV (.slice ta ts.length tc) w1 w2 w3 w4 (itL (coI l dl ts))++hdV (trN l 257 l.length) (trN dl 1 dl.length) wo w5 w6 wr).toArray)]) (xs:=[Value.iface 228 (.agg (cdV (.slice ta ts.length tc) w1 w2 w3 w4 (itL (coI l dl ts))++hdV (trN l 257 l.length) (trN dl 1 dl.length) wo w5 w6 wr).toArray)]) (m:=1) Fnd.here rfl (by simp)) (by repeat (first|exact Zip.here _|apply Zip.there)) rfl (by rfl) (by omega) (by simp [maxLen]) rfl (fun v' C' ho' _ _=>?_)
  have hbl':=ZL.push (L:=(C2++C1)::S) (bs:=[Blk.st b,Blk.fx ts]) rfl (hlist _ hs2) rfl ho' rfl (hd1.sub hs3)
  generalize hdv:Value.iface 228 (.agg (cdV (.slice ta ts.length tc) w1 w2 w3 w4 (itL (coI l dl ts))++hdV (trN l 257 l.length) (trN dl 1 dl.length) wo w5 w6 wr).toArray)=dv at *
  refine kW ?_
  refine kH ?_
  refine ⟨C'::(C2++C1)::L,fun w h=>?_,?_⟩
  ·have h2:Holds w (C2::C1::C'::L):=iH h
   have h3:=two.2 h2
   exact iH h3
  exact ⟨[Blk.st b,Blk.fx ts]++[Blk.dn ts l dl (trN l 257 l.length) (trN dl 1 dl.length) ((orN own).take (trN (orN own) 4 19)) own (rnS (hdL l dl))],C',C2++C1,hbl',by simp,by simp,rfl,fun B hB=>by
   simp only [List.cons_append,List.nil_append,List.mem_cons,List.not_mem_nil,or_false] at hB
   rcases hB with rfl|rfl|rfl
   ·rfl
   ·rfl
   ·exact ⟨rfl,hne,hlo,hlo2,hlo3,rfl,rfl,rfl,rfl⟩,rfl⟩
 ·refine kR ?_
  exact ⟨[(bn,cl [Value.iface 220 (.agg #[.slice va b.length vc]),Value.iface 186 (.agg (cdV (.slice ta ts.length tc) v1 v2 v3 v4 (itL (coI fxL fxD ts))).toArray)] 173)]::C1::L,iC,[.st b,.fx ts],_,C1,⟨_,.inr ⟨bn,2,[],rfl,by rw [List.append_nil],rfl,rfl,Nat.le_refl _,by simp [maxLen]⟩,rfl,hlist C1 (fun x hx=>hx)⟩,by simp,by simp,rfl,fun B hB=>by
   simp only [List.mem_cons,List.not_mem_nil,or_false] at hB
   rcases hB with rfl|rfl<;>rfl,rfl⟩
end Go.Proofs.YtemdlifojcgplaaGreatDoor
namespace Go.Df
open Go.Vx Go.If Go.Hf
set_option linter.all false
structure Pc where
 a:Value
 t:Value
 i:Nat
 j:Nat
 ts:List (Nat × Nat)
def PcV (d:Pc):List Value:=[d.a,d.t]
def ZM:Nat→List Pc→Nat→Prop
 |i,[],k=>i=k
 |i,d::r,k=>d.i=i∧ZM d.j r k
theorem ZM.snoc:∀{ds:List Pc} {i k:Nat} {d:Pc},ZM i ds k→d.i=k→ZM i (ds++[d]) d.j
 |[],i,k,d,h,hd=>⟨by rw [hd];exact h.symm,rfl⟩
 |e::r,i,k,d,h,hd=>⟨h.1,h.2.snoc hd⟩
theorem Tks.one {b:List UInt8} {i j:Nat} {t:Nat × Nat} {r:List (Nat × Nat)} (h:Tks b i (t::r) j):Tks b i [t] (i+tsz t):=⟨h.1,h.2.1,h.2.2.1,h.2.2.2.1,rfl⟩
theorem zqj {t:Nat × Nat} (h:Zm t):tsz t≤258:=by
 unfold tsz
 rcases h with ⟨h1,h2⟩|⟨h1,h2,h3,h4⟩<;>split<;>omega
end Go.Df
namespace Go.Proofs.YtemdlifojcgplaaGreatDoor
open Go Go.Vx Go.Hf Go.If Go.Df
variable [W0]
set_option maxRecDepth 4000
set_option linter.all false
structure PcS (S:List Chunk) (b:List UInt8) (d:Pc):Prop where
 r:PcR S d.a d.t ((b.drop d.i).take (d.j - d.i)) d.ts
 k:Tks b d.i d.ts d.j
 lj:d.j≤b.length
 fit:d.j - d.i≤65535
omit [W0] in
structure CuX where
 k:Nat
 f:Nat
 m:Nat
 a:Nat
 v:Value
 ds:List Pc
 C:Chunk
theorem zo4 (v vt:Value) (b:List UInt8) (ts:List (Nat × Nat)) (S L:List Chunk) (hi:Inc S L) (h:PcR S v vt b ts) (hk:Tks b 0 ts b.length) :
 Gv Tryz.prog 164 [.agg #[v,vt]].toArray L (fun r L'=>∃ds C,Ow 179 2 r ds.length (flt PcV ds) C∧0 < ds.length∧ds.length≤4∧ZM 0 ds b.length∧(∀d∈ds,PcS S b d)∧L'=C::L):=by
 refine Gv.of_body (args:=[.agg #[v,vt]]) Tryz.func164 rfl rfl ?_
 obtain ⟨va,vc,rfl,_⟩:=h.x.room
 obtain ⟨ta,tc,rfl,_⟩:=h.t.rs.room
 have hnt:=h.nt
 have hnb:=h.nb
 have hL:=h.sub hi.mem
 (refine kW ?_;refine kU fun bk=>?_;refine kW ?_)
 revert bk
 intro q1
 refine zn (X:=CuX) (fun x=>[(1,.pointer (some ⟨q1,0,none⟩)),(3,x.v),(4,.int .i64 (x.f:Int)),(5,.int .i64 (x.m:Int)),(6,.int .i64 (x.a:Int)),(10,.slice ta ts.length tc),(11,.int .i64 (ts.length:Int)),(12,.int .i64 (x.k:Int))])
  (fun x=>x.C::[(q1,cl [.slice va b.length vc,.slice ta ts.length tc] 179)]::L)
  (fun x=>x.f≤x.k∧x.k≤ts.length∧Tks b x.m ((ts.drop x.f).take (x.k - x.f)) x.a∧x.a - x.m≤65535∧x.a≤b.length∧Tks b x.a (ts.drop x.k) b.length∧ZM 0 x.ds x.m∧(∀d∈x.ds,PcS S b d)∧x.ds.length * 65278≤x.m∧Ow 179 2 x.v x.ds.length (flt PcV x.ds) x.C)
  (fun x=>ts.length - x.k) ⟨0,0,0,0,.slice none 0 0,[],[]⟩
  ⟨Nat.le_refl _,Nat.zero_le _,rfl,by simp,Nat.zero_le _,hk,rfl,fun d hd=>by simp at hd,Nat.zero_le _,.inl ⟨rfl,rfl,rfl,rfl⟩⟩ iS (fun w h=>Holds.nil.2 h) ?_
 rintro ⟨k,f,m,a,lv,ds,C⟩ ⟨hf,hkl,htk,hfit,hab,hrest,hcut,hds,hdl,hov⟩
 simp only at hf hkl htk hfit hab hrest hcut hds hdl hov ⊢
 have hma:=htk.le.1
 (repeat' first|refine kW ?_|refine kU fun bk=>?_|refine kV fun hc=>?_|refine kZ (fun hc=>?_) fun hc=>?_|fail)
 ·have hjl:k < ts.length:=by omega
  obtain ⟨t,ht⟩:∃t,ts[k]? =some t:=⟨ts[k],List.getElem?_eq_getElem hjl⟩
  have hdr:ts.drop k=t::ts.drop (k+1):=by
   have hx:ts[k]=t:=by rw [List.getElem?_eq_getElem hjl] at ht;simpa using ht
   rw [List.drop_eq_getElem_cons hjl,hx]
  rw [hdr] at hrest
  have hto:=hrest.1
  have h1t:=hrest.one
  have hsz:=hrest.2.1
  have hnx:=hrest.2.2.2.2
  have hs258:=zqj hto
  obtain ⟨tb,toff,tcap,hv9,hrd⟩:=h.t.rs.elem hjl (by decide)
  injection hv9 with q2 q3 q4
  subst q2 q4
  clear q3
  rw [Yv uj ht] at hrd
  have hrd:=hrd.sub hi.mem
  refine ze (zi (j:=k) rfl rfl rfl hjl) rfl ?_
  refine kW ?_
  refine ze (zB rfl (y9 (y9 hrd)) rfl) rfl ?_
  unfold TkV
  (refine kW ?_;refine kU fun bk=>?_;refine kW ?_)
  refine cP rfl rfl (zdD t _) ?_
  (repeat' first|refine kW ?_|refine kU fun bk=>?_|refine kV fun hc=>?_|refine kZ (fun hc=>?_) fun hc=>?_|fail)
  ·obtain ⟨r1,hr1,hev1⟩:=yR (P:=Tryz.prog) (T:=22) h.x (l:=m) (h:=a) hma (by omega)
   obtain ⟨r2,hr2,hev2⟩:=yR (P:=Tryz.prog) (T:=177) h.t.rs (l:=f) (h:=k) hf (by omega)
   have e1:((bsv b).drop (m * 1)).take ((a - m) * 1)=bsv ((b.drop m).take (a - m)):=by simp [bsv,List.map_take,List.map_drop]
   rw [e1] at hr1
   rw [XY uj,zaZ uj] at hr2
   have hpc:PcS S b ⟨r1,r2,m,a,(ts.drop f).take (k - f)⟩:=by
    have l1:((b.drop m).take (a - m)).length=a - m:=by rw [List.length_take,List.length_drop];omega
    have l2:((ts.drop f).take (k - f)).length=k - f:=by rw [List.length_take,List.length_drop];omega
    exact ⟨⟨by rw [l1];exact hr1,⟨by rw [l2];exact hr2,fun x hx=>h.t.ok x (List.mem_of_mem_drop (List.mem_of_mem_take hx))⟩,by rw [l1];omega,by rw [l2];omega⟩,htk,hab,hfit⟩
   obtain ⟨a1,c1,rfl,_⟩:=hr1.room
   obtain ⟨a2,c2,rfl,_⟩:=hr2.room
   refine yO ([(q1,cl [.slice va b.length vc,.slice (some ⟨tb,toff,none⟩) ts.length tc] 179)]::L) [14] mixed ?_
   (refine za 0 ?_;refine za 1 ?_;refine za 3 ?_;refine za 4 ?_;refine za 6 ?_;refine za 8 ?_;refine za 9 ?_)
   (refine za 2 ?_;refine za 7 ?_)
   refine cT 5 rfl rfl (hev1 rfl rfl rfl) ?_
   refine cT 10 rfl rfl (hev2 rfl rfl rfl) ?_
   (refine za 11 ?_)
   refine cI 12 rfl rfl ?_
   refine zl (cs:=[.slice a1 (a - m) c1,.slice a2 (k - f) c2]) rfl (by rfl) (by first|(simp [zA,patch,Value.cells,zeros];done)|(simp [zA,patch,Value.cells,zeros];rfl)) (by omega) rfl rfl (fun b3=>?_)
   refine ⟨iC,?_⟩
   refine cI 13 rfl rfl ?_
   refine zu rfl rfl hov (zF (k:=2) (c:=#[.slice a1 (a - m) c1,.slice a2 (k - f) c2]) (xs:=[.slice a1 (a - m) c1,.slice a2 (k - f) c2]) (m:=1) Fnd.here rfl (by simp)) (by repeat (first|exact Zip.here _|apply Zip.there)) rfl (by rfl) (by omega) (by simp [maxLen];omega) rfl (fun v' C' ho' _ _=>?_)
   refine ⟨iC,?_⟩
   refine cL 14 rfl rfl rfl ?_
   refine ze (yQ rfl) rfl ?_
   refine cD ?_
   have h9:(ds.length+1) * 65278≤a:=by
    rw [Nat.succ_mul]
    have h8:m+65278≤a:=by omega
    exact Nat.le_trans (Nat.add_le_add_right hdl 65278) h8
   have hov':Ow 179 2 v' (ds++[(⟨.slice a1 (a - m) c1,.slice a2 (k - f) c2,m,a,(ts.drop f).take (k - f)⟩:Pc)]).length (flt PcV (ds++[⟨.slice a1 (a - m) c1,.slice a2 (k - f) c2,m,a,(ts.drop f).take (k - f)⟩])) C':=by
    rw [uR,List.length_append,List.length_singleton]
    exact ho'
   refine kW ?_
   refine cP rfl rfl (zdD t _) ?_
   refine kW ?_
   rw [show (a:Int)+(tsz t:Int)=((a+tsz t:Nat):Int) from by omega]
   refine zf (X:=CuX) (μ:=fun x=>ts.length - x.k) (x:=⟨k,f,m,a,lv,ds,C⟩) ⟨k+1,k,a,a+tsz t,v',ds++[⟨.slice a1 (a - m) c1,.slice a2 (k - f) c2,m,a,(ts.drop f).take (k - f)⟩],C'⟩ (by simp only;omega) ⟨by simp only;omega,by simp only;omega,?_,by simp only;omega,hsz,hnx,hcut.snoc rfl,fun d hd=>?_,?_,hov'⟩ iS (fun w h=>iH h)
   ·simp only
    rw [hdr,show k+1 - k=1 from by omega]
    exact h1t
   ·simp only [List.mem_append,List.mem_singleton] at hd
    rcases hd with hd|rfl
    ·exact hds d hd
    ·exact hpc
   ·simp only [List.length_append,List.length_singleton]
    exact h9
  ·refine cP rfl rfl (zdD t _) ?_
   refine kW ?_
   rw [show (a:Int)+(tsz t:Int)=((a+tsz t:Nat):Int) from by omega]
   refine zf (X:=CuX) (μ:=fun x=>ts.length - x.k) (x:=⟨k,f,m,a,lv,ds,C⟩) ⟨k+1,f,m,a+tsz t,lv,ds,C⟩ (by simp only;omega) ⟨by simp only;omega,by simp only;omega,?_,by simp only;omega,hsz,hnx,hcut,hds,by simp only;omega,hov⟩ iS (fun w h=>iH h)
   simp only
   have e2:(ts.drop f).take (k+1 - f)=(ts.drop f).take (k - f)++[t]:=by
    rw [show k+1 - f=(k - f)+1 from by omega]
    exact qd (by rw [List.getElem?_drop,show f+(k - f)=k from by omega];exact ht)
   rw [e2]
   exact htk.app h1t
 ·obtain rfl:k=ts.length:=by omega
  obtain rfl:a=b.length:=by
   rw [List.drop_length] at hrest;exact hrest
  obtain ⟨r1,hr1,hev1⟩:=yR (P:=Tryz.prog) (T:=22) h.x (l:=m) (h:=b.length) hma (Nat.le_refl _)
  obtain ⟨r2,hr2,hev2⟩:=yR (P:=Tryz.prog) (T:=177) h.t.rs (l:=f) (h:=ts.length) hf (Nat.le_refl _)
  have e1:((bsv b).drop (m * 1)).take ((b.length - m) * 1)=bsv ((b.drop m).take (b.length - m)):=by simp [bsv,List.map_take,List.map_drop]
  rw [e1] at hr1
  rw [XY uj,zaZ uj] at hr2
  have hpc:PcS S b ⟨r1,r2,m,b.length,(ts.drop f).take (ts.length - f)⟩:=by
   have l1:((b.drop m).take (b.length - m)).length=b.length - m:=by rw [List.length_take,List.length_drop];omega
   have l2:((ts.drop f).take (ts.length - f)).length=ts.length - f:=by rw [List.length_take,List.length_drop];omega
   exact ⟨⟨by rw [l1];exact hr1,⟨by rw [l2];exact hr2,fun x hx=>h.t.ok x (List.mem_of_mem_drop (List.mem_of_mem_take hx))⟩,by rw [l1];omega,by rw [l2];omega⟩,htk,hab,hfit⟩
  obtain ⟨a1,c1,rfl,_⟩:=hr1.room
  obtain ⟨a2,c2,rfl,_⟩:=hr2.room
  refine yO ([(q1,cl [.slice va b.length vc,.slice ta ts.length tc] 179)]::L) [12] mixed ?_
  (refine za 0 ?_;refine za 1 ?_;refine za 3 ?_;refine za 5 ?_;refine za 7 ?_)
  (refine za 2 ?_;refine za 6 ?_)
  refine cT 4 rfl rfl (hev1 rfl rfl rfl) ?_
  refine cT 8 rfl rfl (hev2 rfl rfl rfl) ?_
  (refine za 9 ?_)
  refine cI 10 rfl rfl ?_
  refine zl (cs:=[.slice a1 (b.length - m) c1,.slice a2 (ts.length - f) c2]) rfl (by rfl) (by first|(simp [zA,patch,Value.cells,zeros];done)|(simp [zA,patch,Value.cells,zeros];rfl)) (by omega) rfl rfl (fun b3=>?_)
  refine ⟨iC,?_⟩
  refine cI 11 rfl rfl ?_
  refine zu rfl rfl hov (zF (k:=2) (c:=#[.slice a1 (b.length - m) c1,.slice a2 (ts.length - f) c2]) (xs:=[.slice a1 (b.length - m) c1,.slice a2 (ts.length - f) c2]) (m:=1) Fnd.here rfl (by simp)) (by repeat (first|exact Zip.here _|apply Zip.there)) rfl (by rfl) (by omega) (by simp [maxLen];omega) rfl (fun v' C' ho' _ _=>?_)
  refine ⟨iC,?_⟩
  refine cL 12 rfl rfl rfl ?_
  refine ze (yQ rfl) rfl ?_
  refine cD ?_
  have hov':Ow 179 2 v' (ds++[(⟨.slice a1 (b.length - m) c1,.slice a2 (ts.length - f) c2,m,b.length,(ts.drop f).take (ts.length - f)⟩:Pc)]).length (flt PcV (ds++[⟨.slice a1 (b.length - m) c1,.slice a2 (ts.length - f) c2,m,b.length,(ts.drop f).take (ts.length - f)⟩])) C':=by
   rw [uR,List.length_append,List.length_singleton]
   exact ho'
  refine kW ?_
  refine kR ?_
  exact ⟨_,iC,_,C',hov',by simp,by rw [List.length_append,List.length_singleton];omega,hcut.snoc rfl,fun d hd=>by
   simp only [List.mem_append,List.mem_singleton] at hd
   rcases hd with hd|rfl
   ·exact hds d hd
   ·exact hpc,rfl⟩
def BlO (b:List UInt8) (i j:Nat):Blk→Prop
 |.st t=>t=(b.drop i).take (j - i)∧j - i≤65535
 |.fx k=>Tks b i k j
 |.dn k l dl n1 n2 o own rs=>Tks b i k j∧k≠[]∧yP (inc (cA k) 256) 15 l∧yP (cD k) 15 dl∧yP (cR (rnS (hdL l dl))) 7 own∧n1=trN l 257 l.length∧n2=trN dl 1 dl.length∧o=(orN own).take (trN (orN own) 4 19)∧rs=rnS (hdL l dl)
theorem ChO.o {b:List UInt8} {i j:Nat} {ts:List (Nat × Nat)} {B:Blk} (h:ChO ((b.drop i).take (j - i)) ts B) (hf:j - i≤65535) (hk:Tks b i ts j):BlO b i j B:=by
 cases B with
 |st t=>exact ⟨h,hf⟩
 |fx k=>have h:k=ts:=h;subst h;exact hk
 |dn k l dl n1 n2 o own rs=>obtain ⟨rfl,h2⟩:=h;exact ⟨hk,h2⟩
def BlC (b:List UInt8):Nat→List Blk→Nat→Prop
 |i,[],k=>i=k
 |i,B::r,k=>∃j,i≤j∧j≤b.length∧BlO b i j B∧BlC b j r k
theorem BlC.snoc {b:List UInt8}:∀{bs:List Blk} {i j k:Nat} {B:Blk},BlC b i bs j→j≤k→k≤b.length→BlO b j k B→BlC b i (bs++[B]) k
 |[],i,j,k,B,h,h1,h2,h3=>by
  have h:i=j:=h
  subst h;exact ⟨k,h1,h2,h3,rfl⟩
 |D::r,i,j,k,B,h,h1,h2,h3=>by
  obtain ⟨q,g1,g2,g3,g4⟩:=h
  exact ⟨q,g1,g2,g3,g4.snoc h1 h2 h3⟩
omit [W0] in
theorem ZM.at {b:Nat}:∀{ds:List Pc} {i k:Nat} (q:Nat) {d:Pc},ZM i ds k→ds[q]? =some d→∃m,ZM i (ds.take q) m∧d.i=m
 |[],i,k,q,d,h,hd=>by simp at hd
 |e::r,i,k,0,d,h,hd=>by
  simp only [List.getElem?_cons_zero,Option.some.injEq] at hd
  subst hd
  exact ⟨i,rfl,h.1⟩
 |e::r,i,k,q+1,d,h,hd=>by
  obtain ⟨m,h1,h2⟩:=ZM.at (b:=b) q h.2 (by simpa using hd)
  exact ⟨m,⟨h.1,h1⟩,h2⟩
omit [W0] in
theorem ZM.det:∀{ds:List Pc} {i k m:Nat},ZM i ds k→ZM i ds m→k=m
 |[],i,k,m,h1,h2=>by
  have h1:i=k:=h1
  have h2:i=m:=h2
  omega
 |e::r,i,k,m,h1,h2=>ZM.det h1.2 h2.2
omit [W0] in
structure MxX where
 k:Nat
 i:Nat
 bs:List Blk
 v:Value
 C:Chunk
 T:Chunk
theorem zqE (a:Value) (B:Blk) (n:Nat) (L:List Chunk) (h:Zw L (.iface (zfp B) a) B) (hn:n≤1000000000000):GvP Tryz.prog (zm5 B) [a,.int .i64 (n:Int)].toArray L (.int .i64 ((enB n B:Nat):Int)):=by
 obtain ⟨a',h1,h2⟩:=zaI _ B n L h hn
 injection h1 with h3 h4
 subst h4
 exact h2
theorem zny (v vt:Value) (b:List UInt8) (ts:List (Nat × Nat)) (S L:List Chunk) (hi:Inc S L) (h:PcR S v vt b ts) (hk:Tks b 0 ts b.length) (hor:qQ L) :
 Gv Tryz.prog 121 [.agg #[v,vt]].toArray L (fun r L'=>∃bs C T,ZL (T::S) r bs C∧0 < bs.length∧bs.length≤4∧BlC b 0 bs b.length∧L'=C::T::L):=by
 refine Gv.of_body (args:=[.agg #[v,vt]]) Tryz.func121 rfl rfl ?_
 obtain ⟨va,vc,rfl,_⟩:=h.x.room
 obtain ⟨ta,tc,rfl,_⟩:=h.t.rs.room
 (refine kW ?_;refine kU fun bk=>?_;refine kW ?_;refine kU fun bk=>?_;refine kW ?_)
 rename_i q1
 revert bk
 intro qb
 refine qL rfl rfl rfl iU (by simp [Value.cells]) ?_
 refine kW ?_
 refine cC rfl rfl (zo4 (.slice va b.length vc) (.slice ta ts.length tc) b ts S _ (Inc.skip (Inc.skip hi)) h hk) (fun r L' hp=>?_)
 obtain ⟨ds,Cc,ho,hd0,hd4,hcut,hds,rfl⟩:=hp
 have hrs:=Rs.ow (L:=[]) ho
 obtain ⟨ra,rc,rfl,_⟩:=hrs.room
 refine kW ?_
 refine zn (X:=MxX) (fun x=>[(1,.pointer (some ⟨q1,0,none⟩)),(3,x.v),(4,.pointer (some ⟨qb,0,none⟩)),(9,.slice ra ds.length rc),(10,.int .i64 (ds.length:Int)),(11,.int .i64 (x.k:Int))])
  (fun x=>x.C::[(qb,cl [.int .i64 ((szB 0 x.bs:Nat):Int)] 3)]::x.T::Cc::L)
  (fun x=>x.k≤ds.length∧x.bs.length=x.k∧ZM 0 (ds.take x.k) x.i∧BlC b 0 x.bs x.i∧szB 0 x.bs≤10000001 * x.k∧ZL (x.T::S) x.v x.bs x.C)
  (fun x=>ds.length - x.k) ⟨0,0,[],.slice none 0 0,[],[]⟩
  ⟨Nat.zero_le _,rfl,rfl,rfl,by simp [szB],ZL.nil _⟩ iS (fun w h=>?_) ?_
 ·show Holds w ([]::[(qb,cl [.int .i64 0] 3)]::[]::Cc::L)
  exact Holds.nil.2 (iH (Holds.nil.2 h))
 rintro ⟨k,i,bs,lv,C,T⟩ ⟨hkl,hbk,hct,hbc,hsz,hbl⟩
 simp only at hkl hbk hct hbc hsz hbl ⊢
 (repeat' first|refine kW ?_|refine kU fun bk=>?_|refine kV fun hc=>?_|refine kZ (fun hc=>?_) fun hc=>?_|fail)
 ·have hjl:k < ds.length:=by omega
  obtain ⟨d,hd⟩:∃d,ds[k]? =some d:=⟨ds[k],List.getElem?_eq_getElem hjl⟩
  have hdS:=hds d (List.mem_of_getElem? hd)
  obtain ⟨m9,hm1,hm2⟩:=ZM.at (b:=0) k hcut hd
  obtain rfl:=ZM.det hm1 hct
  obtain ⟨tb,toff,tcap,hv9,hrd⟩:=hrs.elem hjl (by decide)
  injection hv9 with q2 q3 q4
  subst q2 q4
  clear q3
  rw [Yv (k:=2) (fun _=>rfl) hd] at hrd
  obtain ⟨da,dt,di,dj,dts⟩:=d
  simp only at hm2
  subst hm2
  obtain ⟨hpr,hpk,hpl,hpf⟩:=hdS
  simp only at hpr hpk hpl hpf
  have hctn:ZM 0 (ds.take (k+1)) dj:=by rw [qd hd];exact hct.snoc rfl
  have hij:=hpk.le.1
  obtain ⟨pa,pc,rfl,_⟩:=hpr.x.room
  obtain ⟨pt,pq,rfl,_⟩:=hpr.t.rs.room
  generalize hpx:(b.drop di).take (dj - di)=px at *
  have hpxl:px.length≤65535:=by rw [←hpx,List.length_take];omega
  refine ze (zi (j:=k) rfl rfl rfl hjl) rfl ?_
  refine kW ?_
  refine ze (zB rfl (hrd.sub iM) rfl) rfl ?_
  unfold PcV
  (refine kW ?_;refine kU fun bk=>?_;refine kW ?_)
  refine cC rfl rfl (zhW (.slice pa px.length pc) (.slice pt dts.length pq) px dts S _ (Inc.skip (Inc.skip (Inc.skip (Inc.skip (Inc.skip hi))))) hpr hpxl (by repeat (first|exact hor|apply qQ.there))) (fun r L' hp=>?_)
  obtain ⟨bs9,C9,T9,hb9,hb2,hb3,hb0,hch,rfl⟩:=hp
  refine kW ?_
  obtain ⟨vs,hov9,hon9,hex9⟩:=hb9.ex
  have hvl:vs.length=bs9.length:=by rcases hov9 with ⟨_,h0,rfl,_⟩|⟨_,_,_,_,_,h,_⟩;simpa using h0.symm;omega
  rw [←hvl] at hov9
  obtain ⟨n0,hn0⟩:∃x,x=szB 0 bs:=⟨_,rfl⟩
  rw [←hn0] at hsz ⊢
  have hat:∀(i:Nat) (u:Value),vs[i]? =some u→∃B,bs9[i]? =some B∧bs9.getD i (.st [])=B∧B∈bs9∧Zw (T9::S) u B:=fun i u hu=>by
   have hlt:i < bs9.length:=by
    rw [←hvl]
    exact (List.getElem?_eq_some_iff.1 hu).1
   have hB:bs9[i]? =some bs9[i]:=List.getElem?_eq_getElem hlt
   obtain ⟨u',h4,h5⟩:=hex9 i _ hB
   rw [hu] at h4
   injection h4 with h4
   subst h4
   exact ⟨_,hB,by simp [List.getD,hB],List.getElem_mem hlt,h5⟩
  refine qF rfl rfl rfl (zeq _ vs (fun i=>enB n0 (bs9.getD i (.st []))) 167 #[.pointer (some ⟨qb,0,none⟩)] _ ((Rs.ow (L:=[]) hov9).sub iM) (by omega) (by omega) (fun i j x y hx hy=>by
   obtain ⟨B1,_,e1,_,r1⟩:=hat i x hx
   obtain ⟨B2,_,e2,_,r2⟩:=hat j y hy
   simp only [e1,e2]
   refine zpo x y B1 B2 n0 qb _ (r1.sub ?_) (r2.sub ?_) (by repeat (first|assumption|exact Fnd.here|refine Fnd.there ?_)) (by omega)
   ·exact Inc.mem (Inc.cons (by repeat (first|exact Take.here|apply Take.there)) (by repeat (first|exact hi|refine Inc.skip ?_)))
   ·exact Inc.mem (Inc.cons (by repeat (first|exact Take.here|apply Take.there)) (by repeat (first|exact hi|refine Inc.skip ?_))))) rfl (fun r L' hp=>?_)
  obtain ⟨i9,hi9,hle9,rfl⟩:=hp
  obtain ⟨B,_,_,hBm,hBr⟩:=hat i9 r hi9
  obtain ⟨e,rfl,_⟩:=zaI r B n0 _ hBr (by omega)
  have hen1:enB n0 B≤10000001 * (k+1):=by
   have h9:=hBr.le (n0+1)
   unfold enB
   omega
  have hev:=fun L (hL:Zw L (.iface (zfp B) e) B)=>zqE e B n0 L hL (by omega)
  refine kW ?_
  obtain ⟨vl,hovl,honl,hexl⟩:=hbl.ex
  have hvll:vl.length=bs.length:=by rcases hovl with ⟨_,h0,rfl,_⟩|⟨_,_,_,_,_,h,_⟩;simpa using h0.symm;omega
  refine zl (cs:=[.iface (zfp B) e]) rfl (by rfl) (by first|(simp [zA,patch,Value.cells,zeros];done)|(simp [zA,patch,Value.cells,zeros];rfl)) (by omega) rfl rfl (fun bn=>?_)
  refine jA ?_
  refine zu rfl rfl hovl (zF (k:=1) (c:=#[.iface (zfp B) e]) (xs:=[.iface (zfp B) e]) (m:=1) Fnd.here rfl (by simp)) (by repeat (first|exact Zip.here _|apply Zip.there)) rfl (by rfl) (by omega) (by simp [maxLen];omega) rfl (fun v' C' ho' _ _=>?_)
  have hbl':ZL ((T9++T)::S) v' (bs++[B]) C':=ZL.push (L:=(T9++T)::S) honl (fun i B hB=>by
   obtain ⟨u,h4,h5⟩:=hexl i B hB
   exact ⟨u,h4,h5.sub (fun x hx=>by
    simp only [List.flatten_cons,List.mem_append] at hx ⊢
    rcases hx with hx|hx
    ·exact .inl (.inr hx)
    ·exact .inr hx)⟩) hvll ho' rfl (hBr.sub (fun x hx=>by
    simp only [List.flatten_cons,List.mem_append] at hx ⊢
    rcases hx with hx|hx
    ·exact .inl (.inl hx)
    ·exact .inr hx))
  refine kW ?_
  refine ZR (zg9 B) rfl rfl (hev _ (hBr.sub ?_)) rfl (fun r L' hp=>?_)
  ·exact Inc.mem (Inc.cons (by repeat (first|exact Take.here|apply Take.there)) (by repeat (first|exact hi|refine Inc.skip ?_)))
  obtain ⟨rfl,rfl⟩:=hp
  refine jA ?_
  refine qL rfl rfl rfl iU (by simp [Value.cells]) ?_
  refine kW ?_
  refine zf (X:=MxX) (μ:=fun x=>ds.length - x.k) (x:=⟨k,di,bs,lv,C,T⟩) ⟨k+1,dj,bs++[B],v',C',T9++T⟩ (by simp only;omega) ⟨by simp only;omega,by simp only [List.length_append,List.length_singleton];omega,hctn,hbc.snoc hij hpl (ChO.o (by rw [hpx];exact hch B hBm) hpf hpk),?_,hbl'⟩ iS (fun w h=>?_)
  ·simp only
   rw [Qf,←hn0]
   exact hen1
  ·have h2:Holds w (T9::T::C'::[(qb,cl [.int .i64 ((enB n0 B:Nat):Int)] 3)]::Cc::L):=iH h
   have h3:=two.2 h2
   rw [hn0,←Qf] at h3
   exact iH h3
 ·obtain rfl:k=ds.length:=by omega
  rw [List.take_length] at hct
  obtain rfl:=ZM.det hct hcut
  refine kR ?_
  exact ⟨_,iC,bs,C,T,hbl,by omega,by omega,hbc,rfl⟩
end Go.Proofs.YtemdlifojcgplaaGreatDoor
namespace Go.Df
open Go.Vx Go.If Go.Hf
set_option linter.all false
theorem zdk (own:List Nat):(orN own).length=19:=by simp [orN]
theorem zhg (own:List Nat) {i:Nat} (h:i < 19):(orN own).getD i 0=own.getD (yY.getD i 0) 0:=by
 unfold orN
 rw [List.getD_eq_getElem?_getD,List.getElem?_map,List.getElem?_range h]
 rfl
theorem zoG (own:List Nat):∀k i,i+k≤19→orI (((orN own).drop i).take k)=owI own k i
 |0,i,h=>by rw [List.take_zero];rfl
 |k+1,i,h=>by
  have hi:i < (orN own).length:=by rw [zdk];omega
  have e:(orN own)[i]=own.getD (yY.getD i 0) 0:=by
   have:=zhg own (i:=i) (by omega)
   rw [List.getD_eq_getElem?_getD,List.getElem?_eq_getElem hi] at this
   exact this
  rw [List.drop_eq_getElem_cons hi,List.take_succ_cons,owI,←zoG own k (i+1) (by omega),e]
  rfl
theorem zgf [W0] {l dl:List Nat}:∀{ts:List Tok} {n:Nat},ze2 l dl n ts→ts.length≤itL (tsI l dl ts)
 |[],_,_=>Nat.le_refl _
 |k::r,n,h=>by
  have:=zgf h.2
  rw [tsI,zw,List.length_cons]
  have h1:1≤itL (tkI l dl k):=by
   have hk:=h.1
   cases k with
   |lit c=>
    have:0 < l.getD c.toNat 0:=hk
    simp only [tkI,itL,sc];omega
   |mt k x t y=>
    have:0 < l.getD k 0:=by
     simp only [zit] at hk
     obtain ⟨h1,h2,h3⟩:=hk
     first|exact h1|exact h2|exact h3.1|simp_all
    simp only [tkI,itL,sc];omega
  omega
theorem Bi.len {d:List UInt8} {t:Nat} {a:List (Nat × Nat)} (h:Bi d t a):t+itL a≤8 * d.length:=h.2
end Go.Df
namespace Go.Proofs.YtemdlifojcgplaaGreatDoor
open Go Go.Vx Go.Hf Go.If Go.Df
variable [W0]
set_option linter.all false
structure DnF (k:List (Nat × Nat)) (l dl:List Nat) (n1 n2:Nat) (o own:List Nat) (rs:List (Nat × Nat)):Prop where
 ll:l.length=286
 dll:dl.length=30
 n1a:257≤n1
 n1b:n1≤286
 n1z:∀i,n1≤i→i < l.length→l.getD i 0=0
 n2a:1≤n2
 n2b:n2≤30
 n2z:∀i,n2≤i→i < dl.length→dl.getD i 0=0
 hd:zhL own n1 n2 (o.length - 4) (rs.map vL)
 w:rsW (rs.map vL) []=l.take n1++dl.take n2
 h15:∀x∈l.take n1++dl.take n2,x≤15
 ro:∀r∈rs,zaE r
 o4:4≤o.length
 oo:orI o=owI own o.length 0
 pl:∀t∈k,0 < l.getD (tsy t) 0∧(t.2≠0→0 < dl.getD (odN t.2) 0)
theorem zaT {k:List (Nat × Nat)} {l dl own:List Nat} (hk:∀t∈k,Zm t) (hne:k≠[]) (h1:yP (inc (cA k) 256) 15 l) (h2:yP (cD k) 15 dl) (h3:yP (cR (rnS (hdL l dl))) 7 own) :
 DnF k l dl (trN l 257 l.length) (trN dl 1 dl.length) ((orN own).take (trN (orN own) 4 19)) own (rnS (hdL l dl)):=by
 have hll:l.length=286:=by rw [h1.len,uS,vv]
 have hdl:dl.length=30:=by rw [h2.len,Zz]
 obtain ⟨a1,a2,a3⟩:=Q0 (l:=l) (least:=257) l.length (by omega)
 obtain ⟨b1,b2,b3⟩:=Q0 (l:=dl) (least:=1) dl.length (by omega)
 obtain ⟨c1,c2,c3⟩:=Q0 (l:=orN own) (least:=4) 19 (by omega)
 have hA:∀t∈k,0 < (inc (cA k) 256).getD (tsy t) 0:=fun t ht=>by
  rw [wX (by rw [vv];decide)]
  have:=zpb hk ht
  omega
 have hA6:0 < (inc (cA k) 256).getD 256 0:=by
  rw [wX (by rw [vv];decide),if_pos rfl];omega
 have h256:0 < l.getD 256 0:=(h1.on (i:=256) (by rw [uS,vv];decide) hA6).1
 have hle:∀x∈hdL l dl,x≤15:=fun x hx=>by
  rcases List.mem_append.1 hx with hx|hx
  ·obtain ⟨i,hi,rfl⟩:=List.getElem_of_mem (List.mem_of_mem_take hx)
   have:=h1.le i
   rwa [show l.getD i 0=l[i] from by simp [List.getD,hi]] at this
  ·obtain ⟨i,hi,rfl⟩:=List.getElem_of_mem (List.mem_of_mem_take hx)
   have:=h2.le i
   rwa [show dl.getD i 0=dl[i] from by simp [List.getD,hi]] at this
 have hlen:(hdL l dl).length=trN l 257 l.length+trN dl 1 dl.length:=by
  unfold hdL
  rw [List.length_append,List.length_take,List.length_take];omega
 have h6:(hdL l dl).getD 256 0=l.getD 256 0:=by
  unfold hdL
  rw [List.getD_eq_getElem?_getD,List.getElem?_append_left (by rw [List.length_take];omega),List.getElem?_take,if_pos (by omega),←List.getD_eq_getElem?_getD]
 obtain ⟨w1,w2,w3⟩:=zlg hle
 obtain ⟨r,hr,q,hq,hrq⟩:=zl4 hle (by omega) (by rw [h6];exact h256)
 have hr19:∀r∈rnS (hdL l dl),r.1 < 19:=fun r hr=>by have:=(w1 r hr).1;omega
 have hown:own.length=19:=by rw [h3.len,Yp]
 obtain ⟨t,ht⟩:∃t,t∈k:=by
  cases k with
  |nil=>exact absurd rfl hne
  |cons t _=>exact ⟨t,List.mem_cons_self⟩
 have hol:((orN own).take (trN (orN own) 4 19)).length=trN (orN own) 4 19:=by rw [List.length_take,zdk];omega
 have hkl:kS l=32768:=h1.whole (YR (hk t ht)).2.2 (hA t ht) hA6
 refine ⟨hll,hdl,a1,by omega,a3,b1,by omega,b3,⟨a1,by omega,b1,by omega,hown,h3.le,h3.whole hrq (zfj hr19 hr) (zfj hr19 hq),by omega,fun i hi hi9=>?_,w3 own fun r hr=>?_,?_,?_,?_,?_⟩,w2,hle,w1,by omega,?_,fun t ht=>⟨?_,fun h0=>?_⟩⟩
 ·rw [←zhg own hi9]
  exact c3 i (by omega) hi9
 ·exact (h3.on (i:=r.1) (by rw [Yp];exact hr19 r hr) (zfj hr19 hr)).1
 ·have:=Z9 ((rnS (hdL l dl)).map vL) []
  rw [w2,hlen,List.length_nil,Nat.zero_add] at this
  exact this.symm
 ·rw [w2,h6];omega
 ·rw [w2]
  have:(hdL l dl).take (trN l 257 l.length)=l.take (trN l 257 l.length):=by
   unfold hdL
   rw [List.take_append_of_le_length (by rw [List.length_take];omega),List.take_take,Nat.min_self]
  rw [this,zda a3,hkl]
 ·rw [w2]
  have:(hdL l dl).drop (trN l 257 l.length)=dl.take (trN dl 1 dl.length):=by
   unfold hdL
   rw [List.drop_append_of_le_length (by rw [List.length_take];omega),List.drop_eq_nil_of_le (by rw [List.length_take];omega),List.nil_append]
  rw [this,zda b3,uU,zlN b3,←uU]
  exact h2.one
 ·rw [hol]
  have:=zoG own (trN (orN own) 4 19) 0 (by omega)
  rwa [List.drop_zero] at this
 ·exact (h1.on (by rw [uS,vv];exact (YR (hk t ht)).1) (hA t ht)).1
 ·have:odN t.2 < 30:=by
   rcases hk t ht with ⟨g1,_⟩|⟨g1,g2,_⟩
   ·exact absurd g1 h0
   ·exact Nat.lt_succ_of_le (Zj g1 g2).1
  exact (h2.on (by rw [Zz];exact this) (zpc hk ht h0)).1
set_option maxRecDepth 4000
theorem zhy (bb:List UInt8) (i:Nat) (hi:i≤bb.length) (h:bb.length - i≤65535):BlC bb i [.st (bb.drop i)] bb.length:=
 ⟨bb.length,hi,Nat.le_refl _,⟨by rw [List.take_of_length_le (by rw [List.length_drop];exact Nat.le_refl _)],h⟩,rfl⟩
theorem zoM (bb:List UInt8):∀(f i:Nat),i≤bb.length→bb.length - i≤f→BlC bb i (stF f (bb.drop i)) bb.length∧(stF f (bb.drop i)).length * 65535≤(bb.length - i)+65535∧0 < (stF f (bb.drop i)).length
 |0,i,hi,h=>⟨zhy bb i hi (by omega),by simp [stF],by simp [stF]⟩
 |f+1,i,hi,h=>by
  by_cases hc9:65535 < (bb.drop i).length
  ·rw [stF,if_pos hc9]
   rw [List.length_drop] at hc9
   rw [List.drop_drop]
   obtain ⟨g1,g2,g3⟩:=zoM bb f (i+65535) (by omega) (by omega)
   refine ⟨⟨i+65535,by omega,by omega,⟨by rw [show i+65535 - i=65535 from by omega],by omega⟩,g1⟩,?_,by simp⟩
   rw [List.length_cons,Nat.succ_mul]
   refine Nat.le_trans (Nat.add_le_add_right g2 65535) ?_
   omega
  ·rw [zeT hc9]
   rw [List.length_drop] at hc9
   exact ⟨zhy bb i hi (by omega),by simp,by simp⟩
theorem zq4 (b:List UInt8) (hb:b.length≤200000):BlC b 0 (stB b) b.length∧(stB b).length≤4∧0 < (stB b).length:=by
 obtain ⟨g1,g2,g3⟩:=zoM b b.length 0 (Nat.zero_le _) (by omega)
 rw [List.drop_zero] at g1 g2 g3
 refine ⟨g1,?_,g3⟩
 unfold stB
 generalize (stF b.length b).length=n at *
 rcases Nat.lt_or_ge 4 n with h|h
 ·have:5 * 65535≤n * 65535:=Nat.mul_le_mul_right 65535 h
  omega
 ·exact h
theorem za6 {w:World} {CS L:List Chunk}:Holds w (CS.flatten::L)↔Holds w (CS++L):=by
 simp [Holds,List.flatten_append]
omit [W0] in
theorem XW {A CS S:List Chunk} (h:∀x∈A.flatten,x∈(CS++S).flatten):∀x∈A.flatten,x∈(CS.flatten::S).flatten:=fun x hx=>by
 have:=h x hx
 rwa [List.flatten_append] at this
theorem zfh (v:Value) (level:Int) (b:List UInt8) (S L:List Chunk) (hi:Inc S L) (ht:Rs S 1 v b.length (bsv b)) (hb:b.length≤200000) (hor:qQ L) :
 Gv Tryz.prog 75 [v,.int .i64 level].toArray L (fun r L'=>∃bs C,Qi (C::S) r bs∧0 < bs.length∧bs.length≤4∧BlC b 0 bs b.length∧(1 < level→szB 0 bs≤szB 0 (stB b)∧szB 0 bs≤szB 0 [.fx (pcT b)])∧L'=C::L):=by
 refine Gv.of_body (args:=[v,.int .i64 level]) Tryz.func75 rfl rfl ?_
 have hst:=zq4 b hb
 (repeat' first|refine kW ?_|refine kU fun bk=>?_|refine kV fun hc=>?_|refine kZ (fun hc=>?_) fun hc=>?_|fail)
 ·refine cC rfl rfl (zbs v b S _ ht hb) (fun r L' hp=>?_)
  obtain ⟨C,hbo,rfl⟩:=hp
  refine kW ?_
  refine kR ?_
  exact ⟨_,iC,stB b,C,hbo.r,hst.2.2,hst.2.1,hst.1,fun h=>absurd h (by omega),rfl⟩
 ·refine cC rfl rfl (zih v b S _ hi ht hb) (fun r L' hp=>?_)
  obtain ⟨vt,Cp,rfl,hpc,rfl⟩:=hp
  obtain ⟨va,vc,rfl,_⟩:=hpc.x.room
  obtain ⟨ta,tc,rfl,_⟩:=hpc.t.rs.room
  (refine kW ?_;refine kU fun bk=>?_;refine kW ?_)
  refine cC rfl rfl (zb9 (.slice va b.length vc) (.slice ta (pcT b).length tc) b (pcT b) (Cp::S) _ (Inc.cons (by repeat (first|exact Take.here|apply Take.there)) (by repeat (first|exact hi|refine Inc.skip ?_))) hpc) (fun r L' hp=>?_)
  obtain ⟨v1,v2,v3,v4,Cf,rfl,hcf,rfl⟩:=hp
  refine kW ?_
  refine zl (cs:=[Value.iface 186 (.agg (cdV (.slice ta (pcT b).length tc) v1 v2 v3 v4 (itL (coI fxL fxD (pcT b)))).toArray)]) rfl (by rfl) (by first|(simp [zA,patch,Value.cells,zeros];done)|(simp [zA,patch,Value.cells,zeros];rfl)) (by omega) rfl rfl (fun bn=>?_)
  refine jA ?_
  have hfb:Zw (Cf::Cp::S) (Value.iface 186 (.agg (cdV (.slice ta (pcT b).length tc) v1 v2 v3 v4 (itL (coI fxL fxD (pcT b)))).toArray)) (.fx (pcT b)):=⟨_,_,_,_,_,rfl,hcf⟩
  have how:ZL (Cf::Cp::S) (.slice (some ⟨bn,0,none⟩) 1 1) [.fx (pcT b)] [(bn,cl [Value.iface 186 (.agg (cdV (.slice ta (pcT b).length tc) v1 v2 v3 v4 (itL (coI fxL fxD (pcT b)))).toArray)] 173)]:=
   ⟨_,.inr ⟨bn,1,[],rfl,by rw [List.append_nil],rfl,rfl,Nat.le_refl _,by simp [maxLen]⟩,rfl,fun i B hiB=>by
     match i,hiB with
     |0,hiB=>injection hiB with hiB;subst hiB;exact ⟨_,rfl,hfb⟩
     |i+1,hiB=>simp at hiB⟩
  generalize hfx:Value.iface 186 (.agg (cdV (.slice ta (pcT b).length tc) v1 v2 v3 v4 (itL (coI fxL fxD (pcT b)))).toArray)=fx at *
  (repeat' first|refine kW ?_|refine kU fun bk=>?_|refine kV fun hc=>?_|refine kZ (fun hc=>?_) fun hc=>?_|fail)
  ·have hl1:level=1:=by simpa using hc
   refine kH ?_
   obtain ⟨bc,hbc⟩:∃x,x=([(bn,cl [fx] 173)]:Chunk):=⟨_,rfl⟩
   rw [←hbc] at how ⊢
   refine ⟨[bc,Cf,Cp].flatten::L,fun w h=>?_,?_⟩
   ·exact za6.2 (iH h:Holds w (bc::Cf::Cp::L))
   exact ⟨[.fx (pcT b)],[bc,Cf,Cp].flatten,how.r.sub (XW fun x hx=>hx),by simp,by simp,⟨b.length,Nat.zero_le _,Nat.le_refl _,zdo b,rfl⟩,fun h=>absurd h (by omega),rfl⟩
  ·refine cC rfl rfl (zny (.slice va b.length vc) (.slice ta (pcT b).length tc) b (pcT b) (Cp::S) _ (Inc.cons (by repeat (first|exact Take.here|apply Take.there)) (by repeat (first|exact hi|refine Inc.skip ?_))) hpc (zdo b) (by repeat (first|exact hor|apply qQ.there))) (fun r L' hp=>?_)
   obtain ⟨bsm,Cm,Tm,hbm,hm0,hm4,hmc,rfl⟩:=hp
   refine kW ?_
   refine cC rfl rfl (zbs (.slice va b.length vc) b S _ ht hb) (fun r2 L' hp=>?_)
   obtain ⟨Cs,hbs,rfl⟩:=hp
   obtain ⟨vm,hvm1,hvm2⟩:=hbm.ex
   obtain ⟨ma,mc,rfl⟩:=zM hvm1
   obtain ⟨vst,hvs1,hvs2⟩:=hbs.ex
   obtain ⟨sa,sc9,rfl⟩:=zM hvs1
   refine kW ?_
   refine zl (cs:=[.slice ma bsm.length mc,.slice (some ⟨bn,0,none⟩) 1 1,.slice sa (stB b).length sc9]) rfl (by rfl) (by first|(simp [zA,patch,Value.cells,zeros];done)|(simp [zA,patch,Value.cells,zeros];rfl)) (by omega) rfl rfl (fun b3=>?_)
   refine jA ?_
   obtain ⟨bc,hbc⟩:∃x,x=([(bn,cl [fx] 173)]:Chunk):=⟨_,rfl⟩
   rw [←hbc] at how ⊢
   have hu:Ow 113 1 (.slice (some ⟨b3,0,none⟩) 3 3) 3 [.slice ma bsm.length mc,.slice (some ⟨bn,0,none⟩) 1 1,.slice sa (stB b).length sc9] [(b3,cl [.slice ma bsm.length mc,.slice (some ⟨bn,0,none⟩) 1 1,.slice sa (stB b).length sc9] 113)]:=.inr ⟨b3,3,[],rfl,by rw [List.append_nil],rfl,rfl,Nat.le_refl _,by simp [maxLen]⟩
   have hall:∀H,(∀x∈(Cm::Tm::Cp::S).flatten,x∈H.flatten)→(∀x∈(bc::Cf::Cp::S).flatten,x∈H.flatten)→(∀x∈(Cs::S).flatten,x∈H.flatten)→∀(i:Nat) (u:Value),[Value.slice ma bsm.length mc,.slice (some ⟨bn,0,none⟩) 1 1,.slice sa (stB b).length sc9][i]? =some u→Qi H u ([bsm,[.fx (pcT b)],stB b].getD i [])∧([bsm,[.fx (pcT b)],stB b].getD i []).length≤90000∧([bsm,[.fx (pcT b)],stB b].getD i []).length≤4∧0 < ([bsm,[.fx (pcT b)],stB b].getD i []).length∧BlC b 0 ([bsm,[.fx (pcT b)],stB b].getD i []) b.length:=fun H h1 h2 h3 i u hiu=>by
    match i,hiu with
    |0,hiu=>injection hiu with hiu;subst hiu;exact ⟨hbm.r.sub h1,Nat.le_trans hm4 (by decide),hm4,hm0,hmc⟩
    |1,hiu=>injection hiu with hiu;subst hiu;exact ⟨how.r.sub h2,(show (1:Nat)≤90000 from by decide),(show (1:Nat)≤4 from by decide),(show (0:Nat) < 1 from by decide),b.length,Nat.zero_le _,Nat.le_refl _,zdo b,rfl⟩
    |2,hiu=>injection hiu with hiu;subst hiu;exact ⟨hbs.r.sub h3,Nat.le_trans hst.2.1 (by decide),hst.2.1,hst.2.2,hst.1⟩
    |i+3,hiu=>simp at hiu
   refine qF rfl rfl rfl (zf8 _ [.slice ma bsm.length mc,.slice (some ⟨bn,0,none⟩) 1 1,.slice sa (stB b).length sc9] [bsm,[.fx (pcT b)],stB b] _ ((Rs.ow (L:=[]) hu).sub iM) (show (0:Nat) < 3 from by decide) (show (3:Nat)≤1000000 from by decide) rfl (fun i u hiu=>by
    refine ⟨(hall _ ?_ ?_ ?_ i u hiu).1,(hall (Cm::Tm::Cs::bc::Cf::Cp::S) iM iM iM i u hiu).2.1⟩
    ·exact Inc.mem (Inc.cons (by repeat (first|exact Take.here|apply Take.there)) (Inc.cons (by repeat (first|exact Take.here|apply Take.there)) (Inc.cons (by repeat (first|exact Take.here|apply Take.there)) (by repeat (first|exact hi|refine Inc.skip ?_)))))
    ·exact Inc.mem (Inc.cons (by repeat (first|exact Take.here|apply Take.there)) (Inc.cons (by repeat (first|exact Take.here|apply Take.there)) (Inc.cons (by repeat (first|exact Take.here|apply Take.there)) (by repeat (first|exact hi|refine Inc.skip ?_)))))
    ·exact Inc.mem (Inc.cons (by repeat (first|exact Take.here|apply Take.there)) (by repeat (first|exact hi|refine Inc.skip ?_))))) rfl (fun r L' hp=>?_)
   obtain ⟨i9,hi9,hle9,rfl⟩:=hp
   have hfin:=hall ([Cm,Tm,Cs,bc,Cf,Cp].flatten::S) (XW (S:=S) (A:=Cm::Tm::Cp::S) (CS:=[Cm,Tm,Cs,bc,Cf,Cp]) (show ∀x∈(Cm::Tm::Cp::S).flatten,x∈(Cm::Tm::Cs::bc::Cf::Cp::S).flatten from iM)) (XW (S:=S) (A:=bc::Cf::Cp::S) (CS:=[Cm,Tm,Cs,bc,Cf,Cp]) (show ∀x∈(bc::Cf::Cp::S).flatten,x∈(Cm::Tm::Cs::bc::Cf::Cp::S).flatten from iM)) (XW (S:=S) (A:=Cs::S) (CS:=[Cm,Tm,Cs,bc,Cf,Cp]) (show ∀x∈(Cs::S).flatten,x∈(Cm::Tm::Cs::bc::Cf::Cp::S).flatten from iM)) i9 r hi9
   have hs0:=hle9 1 (show (1:Nat) < 3 from by decide)
   have hs1:=hle9 2 (show (2:Nat) < 3 from by decide)
   refine kW ?_
   refine kH ?_
   refine ⟨[Cm,Tm,Cs,bc,Cf,Cp].flatten::L,fun w h=>?_,?_⟩
   ·exact za6.2 (iH h:Holds w (Cm::Tm::Cs::bc::Cf::Cp::L))
   exact ⟨_,_,hfin.1,hfin.2.2.2.1,hfin.2.2.1,hfin.2.2.2.2,fun _=>⟨hs1,hs0⟩,rfl⟩
def RwO (b:List UInt8) (level:Int) (o:List UInt8):Prop:=∃x q,o=wrB x q∧x.length≤3∧BlC b 0 (x++[q]) b.length∧itL (wrI x q)≤100000000∧(1 < level→szB 0 (x++[q])≤szB 0 (stB b)∧szB 0 (x++[q])≤szB 0 [.fx (pcT b)])
theorem zi9:∀(x:List Blk) (a:List (Nat × Nat)),itL (bsI a x)=szB (itL a) x
 |[],a=>rfl
 |B::x,a=>by
  rw [bsI,zi9 x,zw,zw]
  rfl
theorem zme (x:List Blk) (q:Blk):itL (wrI x q)=szB 0 (x++[q]):=by
 unfold wrI
 rw [Qf,zw,zw,zi9]
 rfl
theorem zpY (v:Value) (level:Int) (b:List UInt8) (L:List Chunk) (ht:Rs L 1 v b.length (bsv b)) (hb:b.length≤200000) (hor:qQ L) :
 Gv Tryz.prog 46 [v,.int .i64 level].toArray L (fun r L'=>∃C o,RwO b level o∧o.length≤1000000000∧Ow 5 1 r o.length (bsv o) C∧L'=C::L):=by
 refine Gv.of_body (args:=[v,.int .i64 level]) Tryz.func46 rfl rfl ?_
 refine kW ?_
 refine cC rfl rfl (zfh v level b L _ Inc.refl ht hb hor) (fun r L' hp=>?_)
 obtain ⟨bs,C,hbl,h0,h4,hc9,hs,rfl⟩:=hp
 obtain ⟨x,q,rfl⟩:∃x q,bs=x++[q]:=by
  have hne:bs≠[]:=fun h=>by subst h;simp at h0
  exact ⟨bs.dropLast,bs.getLast hne,(List.dropLast_concat_getLast hne).symm⟩
 rw [List.length_append,List.length_singleton] at h4
 have hsz:=zlU hbl (x++[q]).length (Nat.le_refl _)
 rw [List.take_length,←zme,List.length_append,List.length_singleton] at hsz
 have hsz2:itL (wrI x q)≤100000000:=by omega
 refine kW ?_
 refine cC rfl rfl (ziv r x q _ hbl (by omega)) (fun r2 L' hp=>?_)
 obtain ⟨C2,ho,rfl⟩:=hp
 have hlen:(wrB x q).length=(itL (wrI x q)+7) / 8:=qy _ _
 refine kW ?_
 refine kR ?_
 exact ⟨_,iC,C2,wrB x q,⟨x,q,rfl,by omega,hc9,hsz2,hs⟩,by omega,by rw [hlen];exact ho,rfl⟩
theorem zom (v:Value) (level:Int) (b:List UInt8) (L:List Chunk) (ht:Rs L 1 v b.length (bsv b)) (hb:b.length≤200000) (hor:qQ L) :
 Gv Tryz.prog 21 [v,.int .i64 level].toArray L (fun r L'=>∃C o,RwO b level o∧o.length≤1000000000∧Ow 5 1 r (2+o.length+4) (bsv ([120,flB level]++o++be4 (Ql (uO (1#32,0#32) b)).toNat)) C∧L'=C::L):=by
 exact zqq v level b [] L (RwO b level) qQ (fun _ _ h=>h.there) hor ht hb (fun L' hR hT=>zpY v level b L' hT hb hR)
end Go.Proofs.YtemdlifojcgplaaGreatDoor
namespace Go.Df
open Go.Vx Go.If Go.Hf
set_option linter.all false
theorem Tks.ok {b:List UInt8}:∀{ts:List (Nat × Nat)} {i j:Nat},Tks b i ts j→∀t∈ts,Zm t
 |[],_,_,_,t,ht=>by cases ht
 |u::r,i,j,h,t,ht=>by
  rcases List.mem_cons.1 ht with rfl|ht
  ·exact h.1
  ·exact Tks.ok h.2.2.2.2 t ht
theorem zki {a a' c c':List (Nat × Nat)} (h1:itV a=itV a'∧itL a=itL a') (h2:itV c=itV c'∧itL c=itL c'):itV (a++c)=itV (a'++c')∧itL (a++c)=itL (a'++c'):=by
 rw [Zt,Zt,zw,zw,h1.1,h1.2,h2.1,h2.2]
 exact ⟨rfl,rfl⟩
theorem Bi.two {d:List UInt8} {t h ty:Nat} {a:List (Nat × Nat)} (hb:Bi d t ((h,1)::(ty,2)::a)):Bi d t ((h+2 * ty,3)::a):=by
 have e1:itV ((h+2 * ty,3)::a)=itV ((h,1)::(ty,2)::a):=by
  simp only [itV]
  omega
 have e2:itL ((h+2 * ty,3)::a)=itL ((h,1)::(ty,2)::a):=by
  simp only [itL]
  omega
 unfold Bi
 rw [e1,e2]
 exact hb
theorem zjZ {t:Nat × Nat} (h:Zm t):0 < fxL.getD (tsy t) 0∧(t.2≠0→0 < fxD.getD (odN t.2) 0):=by
 have hl:∀i,i < 286→0 < fxL.getD i 0:=by decide+kernel
 have hd:∀i,i < 30→0 < fxD.getD i 0:=by decide+kernel
 refine ⟨hl _ (YR h).1,fun h0=>hd _ ?_⟩
 rcases h with ⟨g1,_⟩|⟨g1,g2,_⟩
 ·exact absurd g1 h0
 ·exact Nat.lt_succ_of_le (Zj g1 g2).1
end Go.Df
namespace Go.Proofs.YtemdlifojcgplaaGreatDoor
open Go Go.Vx Go.Hf Go.If Go.Df
variable [W0]
set_option linter.all false
theorem DnF.eq {k:List (Nat × Nat)} {l dl own o:List Nat} {n1 n2:Nat} {rs:List (Nat × Nat)} (h:DnF k l dl n1 n2 o own rs) :
 itV (hwI n1 n2 o own rs++coI l dl k)=itV (hdI own n1 n2 (o.length - 4) (rs.map vL)++(tsI (l.take n1) (dl.take n2) (k.map tok)++[sc (l.take n1) 256]))∧itL (hwI n1 n2 o own rs++coI l dl k)=itL (hdI own n1 n2 (o.length - 4) (rs.map vL)++(tsI (l.take n1) (dl.take n2) (k.map tok)++[sc (l.take n1) 256])):=by
 have hs1:=zht h.n1z
 have hs2:=zht h.n2z
 rw [zct hs1 hs2,hs1]
 obtain ⟨r1,r2⟩:=zle (own:=own) h.ro
 have ho:4+(o.length - 4)=o.length:=by have:=h.o4;omega
 have e:hwI n1 n2 o own rs=((n1 - 257,5)::(n2 - 1,5)::((o.length - 4,4)::owI own (4+(o.length - 4)) 0))++rnI own rs:=by
  rw [ho,←h.oo]
  rfl
 unfold hdI coI
 rw [e]
 exact zki (zki ⟨rfl,rfl⟩ ⟨r1,r2⟩) ⟨rfl,rfl⟩
theorem zpk {d b:List UInt8} {most i j:Nat} {k:List (Nat × Nat)} {l dl own o:List Nat} {n1 n2:Nat} {rs:List (Nat × Nat)} {s:S6} (hf:DnF k l dl n1 n2 o own rs) (hk:Tks b i k j) (hi:i≤b.length) (he:s.e=0) (ho:s.out=b.take i) (hm:b.length≤most)
 (h:Bi d s.t (hwI n1 n2 o own rs++coI l dl k)):bkS d most 2 s=⟨s.t+itL (hwI n1 n2 o own rs++coI l dl k),b.take j,0⟩:=by
 have hjb:=hk.le.2 hi
 obtain ⟨e1,e2⟩:=hf.eq
 unfold Bi at h
 rw [e1,e2] at h
 rw [e2]
 have hn1:=hf.n1b
 have hw:=hf.w
 have hll:=hf.ll
 have hdll:=hf.dll
 have hn2:=hf.n2b
 have ht1:(rsW (rs.map vL) []).take n1=l.take n1:=by
  rw [hw,List.take_append_of_le_length (by rw [List.length_take];omega),List.take_take,Nat.min_self]
 have ht2:(rsW (rs.map vL) []).drop n1=dl.take n2:=by
  rw [hw,List.drop_append_of_le_length (by rw [List.length_take];omega),List.drop_eq_nil_of_le (by rw [List.length_take];omega),List.nil_append]
 obtain ⟨k1,k2⟩:=zdC (l:=l.take n1) (dl:=dl.take n2) hk (fun t ht=>by
  rw [Y1 hf.n1z,Y1 hf.n2z]
  exact hf.pl t ht)
 have hil:(b.take i).length=i:=by rw [List.length_take];omega
 have hb:Bi d s.t (hdI own n1 n2 (o.length - 4) (rs.map vL)++(tsI (l.take n1) (dl.take n2) (k.map tok)++[sc (l.take n1) 256])):=h
 have hge:=zgf k1
 have hbl:=hb.len
 rw [zw,zw] at hbl
 have:=zqB (most:=most) hf.hd ht1 ht2 (fun x hx=>hf.h15 x (by rwa [hw] at hx)) he (by omega) (by rw [ho,hil];exact k1) (by rw [ho,hil];omega) hb
 rw [this,ho,zl1 hi hk]
theorem zi5 {d b:List UInt8} {most i j f hd:Nat} {B:Blk} {s:S6} (hB:BlO b i j B) (hij:i≤j) (hj:j≤b.length) (he:s.e=0) (ho:s.out=b.take i) (hm:b.length≤most) (hd1:hd≤1)
 (h:Bi d s.t ((hd,1)::blI (s.t+1) B)) :
 rwS d most (f+1) s=if hd=1 then ⟨s.t+1+itL (blI (s.t+1) B),b.take j,0⟩ else rwS d most f ⟨s.t+1+itL (blI (s.t+1) B),b.take j,0⟩:=by
 have hil:(b.take i).length=i:=by rw [List.length_take];omega
 cases B with
 |st t=>
  obtain ⟨hB,hf⟩:=hB
  have htl:t.length=j - i:=by rw [hB,List.length_take,List.length_drop];omega
  have h2:=Bi.two (ty:=0) h
  obtain ⟨h3,h4⟩:=Bi.cons h2 (show hd+2 * 0 < 2 ^ 3 by omega)
  obtain ⟨_,h6⟩:=Bi.cons h4 (Nat.pow_pos (by decide))
  have hL:itL (blI (s.t+1) (.st t))=2+(8 * ((s.t+1+2+7) / 8) - (s.t+1+2))+32+8 * t.length:=by
   simp only [blI]
   rw [zw,zbj]
   simp only [itL]
   omega
  have ha:s.t+3+(8 * ((s.t+1+2+7) / 8) - (s.t+1+2))=8 * ((s.t+3+7) / 8):=by omega
  rw [show (hd+2 * 0,3).2=3 from rfl] at h6
  have hp:=zq9 (d:=d) (p:=t) (most:=most) (a:=8 * ((s.t+3+7) / 8)) (s:=⟨s.t+3,s.out,0⟩) rfl rfl (by omega) (by simp only;rw [ho,hil];omega) (by
   rw [←ha]
   have h7:Bi d (s.t+3+(8 * ((s.t+1+2+7) / 8) - (s.t+1+2))) ([(t.length,16),(65535 - t.length,16)]++raI t):=h6
   unfold Bi at h7
   rw [Zt,zw,zk5,zbj] at h7
   simp only [itV,itL] at h7
   have e1:t.length+2 ^ 16 * (65535 - t.length+2 ^ 16 * val t)=t.length+2 ^ 16 * (65535 - t.length+2 ^ 16 * 0)+2 ^ (16+(16+0)) * val t:=by
    rw [Nat.mul_add,Nat.mul_add,←Nat.mul_assoc,←Nat.pow_add];omega
   rw [e1,show 16+(16+8 * t.length)=16+(16+0)+8 * t.length from by omega]
   exact h7)
  rw [zlr (ty:=0) he hd1 (by decide) h3 hp rfl]
  have e9:s.out++t=b.take j:=by
   rw [ho,hB,show j=i+(j - i) from by omega,List.take_add]
   simp
  rw [e9,hL,show 8 * ((s.t+3+7) / 8)+32+8 * t.length=s.t+1+(2+(8 * ((s.t+1+2+7) / 8) - (s.t+1+2))+32+8 * t.length) from by omega]
 |fx k=>
  have hk:Tks b i k j:=hB
  have h2:=Bi.two (ty:=1) h
  obtain ⟨h3,h4⟩:=Bi.cons h2 (show hd+2 * 1 < 2 ^ 3 by omega)
  obtain ⟨k1,k2⟩:=zdC (l:=fxL) (dl:=fxD) hk (fun t ht=>zjZ (hk.ok t ht))
  have hge:=zgf k1
  have hbl:=Bi.len h4
  rw [zw] at hbl
  have hp:=zqL (d:=d) (most:=most) (ts:=k.map tok) (s:=⟨s.t+3,s.out,0⟩) rfl (by omega) (by simp only;rw [ho,hil];exact k1) (by simp only;rw [ho,hil];omega) h4
  rw [zlr (ty:=1) he hd1 (by decide) h3 hp rfl]
  simp only
  rw [ho,zl1 (by omega) hk,show s.t+1+itL (blI (s.t+1) (.fx k))=s.t+3+itL (tsI fxL fxD (k.map tok)++[sc fxL 256]) from by simp only [blI,itL];omega]
 |dn k l dl n1 n2 o own rs=>
  obtain ⟨hk,hne,h1,h2,h3,rfl,rfl,rfl,rfl⟩:=hB
  have hF:=zaT hk.ok hne h1 h2 h3
  generalize trN l 257 l.length=n1 at *
  generalize trN dl 1 dl.length=n2 at *
  generalize (orN own).take (trN (orN own) 4 19)=o at *
  generalize rnS (hdL l dl)=rs at *
  have h4:=Bi.two (ty:=2) h
  obtain ⟨h5,h6⟩:=Bi.cons h4 (show hd+2 * 2 < 2 ^ 3 by omega)
  have hp:=zpk (most:=most) (s:=⟨s.t+3,s.out,0⟩) hF hk (by omega) rfl ho hm h6
  rw [zlr (ty:=2) he hd1 (by decide) h5 hp rfl]
  simp only
  rw [show s.t+1+itL (blI (s.t+1) (.dn k l dl n1 n2 o own rs))=s.t+3+itL (hwI n1 n2 o own rs++coI l dl k) from by simp only [blI,itL,coI];omega]
end Go.Proofs.YtemdlifojcgplaaGreatDoor
namespace Go.Df
open Go.Vx Go.If Go.Hf
set_option linter.all false
def chI [W0]:Nat→List Blk→List (Nat × Nat)
 |_,[]=>[]
 |n,B::r=>((0,1)::blI (n+1) B)++chI (n+1+itL (blI (n+1) B)) r
theorem zi8 [W0]:∀(x:List Blk) (a:List (Nat × Nat)),bsI a x=a++chI (itL a) x
 |[],a=>by rw [bsI,chI,List.append_nil]
 |B::r,a=>by
  rw [bsI,zi8 r,chI]
  have e:itL (a++[(0,1)]++blI (itL a+1) B)=itL a+1+itL (blI (itL a+1) B):=by
   rw [zw,zw];rfl
  rw [e]
  simp [List.append_assoc]
theorem zdI [W0] (x:List Blk) (q:Blk):wrI x q=chI 0 x++((1,1)::blI (itL (chI 0 x)+1) q):=by
 unfold wrI
 rw [zi8]
 simp only [List.nil_append,show itL ([]:List (Nat × Nat))=0 from rfl]
 rw [List.append_assoc]
 rfl
end Go.Df
namespace Go.Proofs.YtemdlifojcgplaaGreatDoor
open Go Go.Vx Go.Hf Go.If Go.Df
variable [W0]
set_option linter.all false
theorem zhD {l dl:List Nat} {b:List UInt8} {k:List (Nat × Nat)} {i j:Nat} (hk:Tks b i k j) (hp:∀t∈k,0 < l.getD (tsy t) 0∧(t.2≠0→0 < dl.getD (odN t.2) 0)):∀x∈coI l dl k,x.1 < 2 ^ x.2:=fun x hx=>by
 rcases List.mem_append.1 hx with hx|hx
 ·exact zgg (zdC hk hp).1 x hx
 ·rw [List.mem_singleton.1 hx];exact uJ _ _
theorem zlf {own:List Nat}:∀{rs:List (Nat × Nat)},(∀r∈rs,zaE r)→∀x∈rnI own rs,x.1 < 2 ^ x.2
 |[],_,x,hx=>by cases hx
 |r::q,h,x,hx=>by
  rw [rnI] at hx
  rcases List.mem_cons.1 hx with rfl|hx
  ·exact uJ _ _
  rcases List.mem_cons.1 hx with rfl|hx
  ·exact (h r List.mem_cons_self).2
  ·exact zlf (fun y hy=>h y (List.mem_cons_of_mem _ hy)) x hx
theorem zfg {b:List UInt8} {i j n:Nat} {B:Blk} (hB:BlO b i j B) (hij:i≤j) (hj:j≤b.length):∀x∈blI n B,x.1 < 2 ^ x.2:=fun x hx=>by
 cases B with
 |st t=>
  obtain ⟨hB,hf⟩:=hB
  have htl:t.length=j - i:=by rw [hB,List.length_take,List.length_drop];omega
  simp only [blI] at hx
  rcases List.mem_append.1 hx with hx|hx
  ·simp only [List.mem_cons,List.not_mem_nil,or_false] at hx
   rcases hx with rfl|rfl|rfl|rfl
   ·decide
   ·exact Nat.pow_pos (by decide)
   ·show t.length < 2 ^ 16;omega
   ·show 65535 - t.length < 2 ^ 16;omega
  ·obtain ⟨c,_,rfl⟩:=List.mem_map.1 hx
   exact c.toNat_lt
 |fx k=>
  have hk:Tks b i k j:=hB
  simp only [blI] at hx
  rcases List.mem_cons.1 hx with rfl|hx
  ·decide
  ·exact zhD (l:=fxL) (dl:=fxD) hk (fun t ht=>zjZ (hk.ok t ht)) x hx
 |dn k l dl n1 n2 o own rs=>
  obtain ⟨hk,hne,h1,h2,h3,rfl,rfl,rfl,rfl⟩:=hB
  have hF:=zaT hk.ok hne h1 h2 h3
  generalize trN l 257 l.length=n1 at *
  generalize trN dl 1 dl.length=n2 at *
  generalize (orN own).take (trN (orN own) 4 19)=o at *
  generalize rnS (hdL l dl)=rs at *
  simp only [blI] at hx
  rcases List.mem_cons.1 hx with rfl|hx
  ·decide
  rcases List.mem_append.1 hx with hx|hx
  ·unfold hwI at hx
   have b1:=hF.n1b
   have b2:=hF.n2b
   have b3:=hF.hd.zb
   rcases List.mem_append.1 hx with hx|hx
   ·simp only [List.mem_cons,List.not_mem_nil,or_false] at hx
    rcases hx with rfl|rfl|rfl
    ·show n1 - 257 < 2 ^ 5;omega
    ·show n2 - 1 < 2 ^ 5;omega
    ·show o.length - 4 < 2 ^ 4;omega
   ·rcases List.mem_append.1 hx with hx|hx
    ·rw [hF.oo] at hx
     exact zdl hF.hd.o7 _ _ x hx
    ·exact zlf hF.ro x hx
  ·exact zhD hk hF.pl x hx
theorem zjj {b:List UInt8}:∀{x:List Blk} {i k n:Nat},BlC b i x k→∀y∈chI n x,y.1 < 2 ^ y.2
 |[],_,_,_,_,y,hy=>by cases hy
 |B::r,i,k,n,h,y,hy=>by
  obtain ⟨j,h1,h2,h3,h4⟩:=h
  rw [chI] at hy
  rcases List.mem_append.1 hy with hy|hy
  ·rcases List.mem_cons.1 hy with rfl|hy
   ·decide
   ·exact zfg h3 h1 h2 y hy
  ·exact zjj h4 y hy
theorem BlC.split {b:List UInt8}:∀{x y:List Blk} {i k:Nat},BlC b i (x++y) k→∃j,BlC b i x j∧BlC b j y k
 |[],y,i,k,h=>⟨i,rfl,h⟩
 |B::x,y,i,k,h=>by
  obtain ⟨j,h1,h2,h3,h4⟩:=h
  obtain ⟨m,g1,g2⟩:=BlC.split h4
  exact ⟨m,⟨j,h1,h2,h3,g1⟩,g2⟩
theorem zqn {b:List UInt8} {x:List Blk} {q:Blk} {k:Nat} (h:BlC b 0 (x++[q]) k):∀y∈wrI x q,y.1 < 2 ^ y.2:=fun y hy=>by
 rw [zdI] at hy
 obtain ⟨j,h1,m,h2,h3,h4,_⟩:=h.split
 rcases List.mem_append.1 hy with hy|hy
 ·exact zjj h1 y hy
 ·rcases List.mem_cons.1 hy with rfl|hy
  ·decide
  ·exact zfg h4 h2 h3 y hy
theorem zlp {d b:List UInt8} {most:Nat} (hm:b.length≤most) (q:Blk):∀(x:List Blk) (i f:Nat) (s:S6),BlC b i (x++[q]) b.length→s.e=0→s.out=b.take i→x.length < f→
 Bi d s.t (chI s.t x++((1,1)::blI (s.t+itL (chI s.t x)+1) q))→rwS d most f s=⟨s.t+itL (chI s.t x++((1,1)::blI (s.t+itL (chI s.t x)+1) q)),b,0⟩
 |[],i,f,s,h,he,ho,hf,hb=>by
  obtain ⟨j,h1,h2,h3,h4⟩:=h
  have h4:j=b.length:=h4
  subst h4
  obtain ⟨g,rfl⟩:∃g,f=g+1:=⟨f - 1,by simp at hf;omega⟩
  have hb:Bi d s.t ((1,1)::blI (s.t+1) q):=hb
  rw [zi5 (f:=g) h3 h1 h2 he ho hm (Nat.le_refl _) hb,if_pos rfl,List.take_length]
  simp only [chI,List.nil_append,itL,Nat.add_zero,Nat.add_assoc]
 |B::r,i,f,s,h,he,ho,hf,hb=>by
  obtain ⟨j,h1,h2,h3,h4⟩:=h
  obtain ⟨g,rfl⟩:∃g,f=g+1:=⟨f - 1,by simp at hf;omega⟩
  have hlt:∀y∈((0,1)::blI (s.t+1) B:List (Nat × Nat)),y.1 < 2 ^ y.2:=fun y hy=>by
   rcases List.mem_cons.1 hy with rfl|hy
   ·decide
   ·exact zfg h3 h1 h2 y hy
  rw [chI,List.append_assoc] at hb ⊢
  obtain ⟨b1,b2⟩:=Bi.app hb hlt
  rw [zi5 (f:=g) h3 h1 h2 he ho hm (Nat.zero_le _) b1,if_neg (by decide)]
  have e1:s.t+itL ((0,1)::blI (s.t+1) B)=s.t+1+itL (blI (s.t+1) B):=by simp only [itL];omega
  have e2:s.t+itL ((0,1)::blI (s.t+1) B++chI (s.t+1+itL (blI (s.t+1) B)) r)+1=s.t+1+itL (blI (s.t+1) B)+itL (chI (s.t+1+itL (blI (s.t+1) B)) r)+1:=by
   rw [zw];omega
  rw [e1,e2] at b2
  rw [e2,zw,←Nat.add_assoc,e1]
  exact zlp hm q r j g ⟨s.t+1+itL (blI (s.t+1) B),b.take j,0⟩ h4 rfl rfl (by simp at hf;omega) b2
theorem znR {b z:List UInt8} {x:List Blk} {q:Blk} {most:Nat} (h:BlC b 0 (x++[q]) b.length) (hx:x.length≤3) (hm:b.length≤most):yZ (wrB x q++z) most=⟨itL (wrI x q),b,0⟩:=by
 have hb:=zo5 (zqn h) z
 have hpos:1≤itL (wrI x q):=by rw [zdI,zw];simp only [itL];omega
 have hl:1≤(wrB x q++z).length:=by
  rw [List.length_append,show (wrB x q).length=(itL (wrI x q)+7) / 8 from qy _ _];omega
 unfold yZ
 have hb2:Bi (wrB x q++z) 0 (wrI x q):=hb
 rw [zdI] at hb2
 have:=zlp (d:=wrB x q++z) hm q x 0 (8 * (wrB x q++z).length+1) ⟨0,[],0⟩ h rfl rfl (by omega) (by simpa using hb2)
 rw [this]
 simp only [Nat.zero_add]
 rw [←zdI]
end Go.Proofs.YtemdlifojcgplaaGreatDoor
namespace Go.Df
open Go.Vx Go.If Go.Hf
set_option linter.all false
theorem Tks.count {b:List UInt8}:∀{ts:List (Nat × Nat)} {i j:Nat},Tks b i ts j→ts.length≤j - i
 |[],i,j,h=>Nat.zero_le _
 |t::r,i,j,h=>by
  have h1:=h.2.2.2.2.count
  have h2:=h.2.2.2.2.le.1
  have h3:1≤tsz t:=by
   unfold tsz
   rcases h.1 with ⟨g1,g2⟩|⟨g1,g2,g3,g4⟩
   ·rw [if_pos g1];exact Nat.le_refl _
   ·rw [if_neg (by omega)];omega
  rw [List.length_cons]
  omega
end Go.Df
namespace Go.Proofs.YtemdlifojcgplaaGreatDoor
open Go Go.Vx Go.Hf Go.If Go.Df
variable [W0]
set_option linter.all false
theorem zin {l:List Nat} (h:∀x∈l,x≤15):(rnS l).length≤l.length:=by
 have w:=(zlg h).2.1
 have h1:=Z9 ((rnS l).map vL) []
 rw [w,List.length_nil,Nat.zero_add] at h1
 have key:∀rs:List Rl,rs.length≤rsN rs:=by
  intro rs
  induction rs with
  |nil=>exact Nat.le_refl _
  |cons r q ih=>
   have:=zho r
   rw [List.length_cons,rsN];omega
 have:=key ((rnS l).map vL)
 rw [List.length_map] at this
 omega
theorem zjr {l dl:List Nat} (hl:Cok l) (hd:Cok dl) {ts:List (Nat × Nat)} (h:∀t∈ts,Zm t):itL (coI l dl ts)≤48 * ts.length+15:=by
 have h1:=zbA hl hd h
 have h2:=hl.at 256
 unfold coI
 rw [zw]
 simp only [itL,sc]
 omega
theorem zo8 {b:List UInt8} {i j n:Nat} {B:Blk} (hB:BlO b i j B) (hij:i≤j) (hj:j≤b.length):itL (blI n B)≤48 * (j - i)+10000:=by
 cases B with
 |st t=>
  obtain ⟨hB,hf⟩:=hB
  have htl:t.length=j - i:=by rw [hB,List.length_take,List.length_drop];omega
  simp only [blI]
  rw [zw,zbj]
  simp only [itL]
  omega
 |fx k=>
  have hk:Tks b i k j:=hB
  have:=zjr za3 za2 hk.ok
  have:=hk.count
  simp only [blI,itL]
  unfold coI at *
  omega
 |dn k l dl n1 n2 o own rs=>
  obtain ⟨hk,hne,h1,h2,h3,rfl,rfl,rfl,rfl⟩:=hB
  have hF:=zaT hk.ok hne h1 h2 h3
  have h15:=hF.h15
  have hcl:Cok l:=⟨by have:=hF.hd.kl;rw [hF.w,List.take_append_of_le_length (by rw [List.length_take];have:=hF.n1b;have:=hF.ll;omega),List.take_take,Nat.min_self,zda hF.n1z] at this;omega,fun x hx=>by
   obtain ⟨i,hi,rfl⟩:=List.getElem_of_mem hx
   have:=h1.le i
   rwa [show l.getD i 0=l[i] from by simp [List.getD,hi]] at this⟩
  have hcd:Cok dl:=⟨zoA h2.one,fun x hx=>by
   obtain ⟨i,hi,rfl⟩:=List.getElem_of_mem hx
   have:=h2.le i
   rwa [show dl.getD i 0=dl[i] from by simp [List.getD,hi]] at this⟩
  have c1:=zjr hcl hcd hk.ok
  have c2:=hk.count
  have c3:=zc9 (own:=own) (o:=(orN own).take (trN (orN own) 4 19)) hF.hd.own (by rw [List.length_take,zdk];omega) (rnS (hdL l dl)) (trN l 257 l.length) (trN dl 1 dl.length)
  have c4:=zin (l:=hdL l dl) h15
  have c5:(hdL l dl).length≤316:=by
   unfold hdL
   have:=hF.ll
   have:=hF.dll
   rw [List.length_append,List.length_take,List.length_take];omega
  simp only [blI,itL]
  rw [zw]
  unfold coI at c1
  omega
theorem zlV {b:List UInt8}:∀{bs:List Blk} {i k n:Nat},BlC b i bs k→szB n bs≤n+48 * (k - i)+10001 * bs.length
 |[],i,k,n,h=>by simp [szB]
 |B::r,i,k,n,h=>by
  obtain ⟨j,h1,h2,h3,h4⟩:=h
  have e:=zo8 (n:=n+1) h3 h1 h2
  have ih:=zlV (n:=enB n B) h4
  have hle:j≤k:=by
   clear ih e h3 h2 h1
   revert j
   induction r with
   |nil=>intro j h4;exact Nat.le_of_eq h4
   |cons D q ihq=>
    intro j h4
    obtain ⟨m,g1,g2,g3,g4⟩:=h4
    exact Nat.le_trans g1 (ihq m g4)
  have hs:szB n (B::r)=szB (enB n B) r:=rfl
  rw [hs,List.length_cons]
  have he:enB n B=n+1+itL (blI (n+1) B):=rfl
  omega
theorem RwO.len {b o:List UInt8} {level:Int} (h:RwO b level o):o.length≤6 * b.length+5010:=by
 obtain ⟨x,q,rfl,hx,hc9,_,_⟩:=h
 have:=zlV (n:=0) hc9
 rw [←zme,List.length_append,List.length_singleton] at this
 rw [show (wrB x q).length=(itL (wrI x q)+7) / 8 from qy _ _]
 omega
end Go.Proofs.YtemdlifojcgplaaGreatDoor
namespace Go.Proofs.YtemdlifojcgplaaGreatDoor
open Go Go.Vx Go.Ob Go.Hf Go.If
open Go.Df (flB be4 wrB wrI)
variable [W0]
set_option linter.all false
set_option maxRecDepth 4000
omit [W0] in
def Xa:List UInt8:=[111,98,106,101,99,116,115,47]
omit [W0] in
def ptL (s:List UInt8):List UInt8:=if X3 s then Xa++s.take 2++[47]++s.drop 2 else []
theorem zc8 {s:List UInt8} (h:X3 s=true):s.length=40:=by
 unfold X3 at h
 simp only [Bool.and_eq_true,decide_eq_true_eq] at h
 exact h.1
theorem Qx (s:List UInt8) (L:List Chunk) (hs:s.length≤9223372036854775807):GvP Tryz.prog 10 [.string (str s)].toArray L (.string (str (ptL s))):=by
 refine Gv.of_body (args:=[.string (str s)]) Tryz.func10 rfl rfl ?_
 have hh:=zj6 s L hs
 unfold ptL
 cases hb:X3 s with
 |false=>
  rw [hb] at hh
  refine kW ?_
  refine cP rfl rfl hh ?_
  refine kW ?_
  exact kE
 |true=>
  have hl:=zc8 hb
  rw [hb] at hh
  refine kW ?_
  refine cP rfl rfl hh ?_
  refine kW ?_
  refine zk [] mixed ?_
  (refine za 0 ?_)
  refine cT 1 rfl rfl (ZN s 0 2 rfl rfl rfl (by omega) (by omega)) ?_
  refine cT 2 rfl rfl (wV Xa (s.take 2) rfl rfl (by simp [Xa];omega)) ?_
  refine cT 3 rfl rfl (wV (Xa++s.take 2) [47] rfl rfl (by simp [Xa];omega)) ?_
  (refine za 4 ?_)
  refine cT 5 rfl rfl (ZN s 2 s.length rfl rfl rfl (by omega) (Nat.le_refl _)) ?_
  rw [List.take_of_length_le (l:=s.drop 2) (i:=s.length - 2) (by rw [List.length_drop];exact Nat.le_refl _)]
  refine cT 6 rfl rfl (wV (Xa++s.take 2++[47]) (s.drop 2) rfl rfl (by simp [Xa];omega)) ?_
  (refine za 7 ?_)
  refine cD ?_
  refine kW ?_
  exact kE
theorem zqp {b o:List UInt8} {level:Int} {m:Nat} (h:RwO b level o) (A:Nat) (hA:A=(Ql (uO (1#32,0#32) b)).toNat) (hm:b.length≤m) :
 zlE ([120,flB level]++o++be4 A) m=0∧usd ([120,flB level]++o++be4 A) m=o.length∧(yZ (([120,flB level]++o++be4 A).drop 2) m).out=b:=by
 obtain ⟨x,q,rfl,hx,hc9,_,_⟩:=h
 have hA2:A < 4294967296:=by rw [hA];exact (Ql (uO (1#32,0#32) b)).isLt
 have hd:([120,flB level]++wrB x q++be4 A).drop 2=wrB x q++be4 A:=rfl
 have hr:=znR (z:=be4 A) hc9 hx hm
 have hl:(wrB x q).length=(itL (wrI x q)+7) / 8:=qy _ _
 have hu:usd ([120,flB level]++wrB x q++be4 A) m=(wrB x q).length:=by
  unfold usd
  rw [hd,hr,hl]
 have ho:(yZ (([120,flB level]++wrB x q++be4 A).drop 2) m).out=b:=by rw [hd,hr]
 refine ⟨?_,hu,ho⟩
 have hlen:([120,flB level]++wrB x q++be4 A).length=2+(wrB x q).length+4:=by
  simp [be4];omega
 have hbt:∀k,byt ([120,flB level]++wrB x q++be4 A) (2+(wrB x q).length+k)=((be4 A).getD k 0).toNat:=fun k=>by
  unfold byt
  rw [List.getD_eq_getElem?_getD,List.getElem?_append_right (by simp;omega),show 2+(wrB x q).length+k - ([120,flB level]++wrB x q).length=k from by simp;omega,←List.getD_eq_getElem?_getD]
 have b0:=hbt 0
 rw [Nat.add_zero] at b0
 have hh:hdK (byt ([120,flB level]++wrB x q++be4 A) 0) (byt ([120,flB level]++wrB x q++be4 A) 1)=true:=by
  show hdK 120 (flB level).toNat=true
  unfold flB
  split
  ·decide
  ·split<;>decide
 unfold zlE
 rw [if_neg (by omega),if_neg (by rw [hh];decide),hd,hr,if_neg (fun h=>h rfl),hu,if_neg (by omega),b0,hbt 1,hbt 2,hbt 3,if_neg]
 unfold adS
 rw [hd,hr,←hA]
 intro hne
 apply hne
 simp only [be4,List.getD_cons_zero,List.getD_cons_succ,wdN,UInt8.toNat_ofNat']
 omega
structure FlO (k:Nat) (b z:List UInt8):Prop where
 e:psE z=0
 k:psK (psO z)=k
 b:psB (psO z)=b
 l:6≤z.length∧z.length≤500000
theorem zjR (k:Nat) (v:Value) (b:List UInt8) (L:List Chunk) (h1:1≤k) (h2:k≤4) (hl:b.length≤5000) (hv:Rs L 1 v b.length (bsv b)) (hb:wP L) (hor:qQ L) :
 Gv Tryz.prog 8 [.int .i64 (k:Int),v].toArray L (fun r L'=>∃C z,FlO k b z∧Ow 5 1 r z.length (bsv z) C∧L'=C::L):=by
 obtain ⟨va,vc,rfl,hroom⟩:=hv.room
 refine Gv.of_body (args:=[.int .i64 (k:Int),.slice va b.length vc]) Tryz.func8 rfl rfl ?_
 refine kW ?_
 refine cC rfl rfl (zeh (k:Int) (b.length:Int) L hb (by omega)) (fun r L' hp=>?_)
 obtain ⟨C,ho,rfl⟩:=hp
 have hhl:=zc7 (k:Int) (b.length:Int) (by omega)
 refine kW ?_
 refine XD rfl rfl ho (zm hv.sl) (by repeat (first|exact Zip.here _|apply Zip.there)) (by rfl) yj (by omega) (by unfold maxLen;omega) rfl (fun v1 C1 g1=>?_)
 rw [←yt,←List.length_append] at g1
 refine kW ?_
 have hlen:(hdL (k:Int) (b.length:Int)++b).length≤5028:=by rw [List.length_append];omega
 refine cC rfl rfl (zom v1 2 (hdL (k:Int) (b.length:Int)++b) _ ⟨g1.sl,g1.room⟩ (by omega) (by repeat (first|exact hor|apply qQ.there))) (fun r L' hp=>?_)
 obtain ⟨C2,o,hO,hol,g2,rfl⟩:=hp
 have hol2:=hO.len
 obtain ⟨z1,z2,z3⟩:=zqp (m:=65568) hO _ rfl (by omega)
 obtain ⟨z,hz⟩:∃z,z=[120,flB 2]++o++be4 (Ql (uO (1#32,0#32) (hdL (k:Int) (b.length:Int)++b))).toNat:=⟨_,rfl⟩
 have hzl:z.length=2+o.length+4:=by rw [hz];simp [be4];omega
 rw [←hz] at z1 z2 z3 g2
 rw [←hzl] at g2
 refine kW ?_
 refine kR ?_
 have hk:=zqY h1 h2 b
 have hpo:psO z=hdL (k:Int) (b.length:Int)++b:=z3
 refine ⟨C2::L,iC,C2,z,⟨?_,by rw [hpo];exact hk.1,by rw [hpo];exact hk.2,by omega,by omega⟩,g2,rfl⟩
 unfold psE psF
 rw [z1,z2,hpo,hk.1,hk.2,if_neg (fun h=>h rfl),if_neg (fun h=>h.elim (by omega) (fun h=>h (by omega))),if_neg (by omega)]
theorem FlO.prK {k:Nat} {b z:List UInt8} (h:FlO k b z):prK z=k:=by unfold Go.Proofs.YtemdlifojcgplaaGreatDoor.prK;rw [if_pos h.e,h.k]
theorem FlO.prB {k:Nat} {b z:List UInt8} (h:FlO k b z):prB z=b:=by unfold Go.Proofs.YtemdlifojcgplaaGreatDoor.prB;rw [if_pos h.e,h.b]
end Go.Proofs.YtemdlifojcgplaaGreatDoor
namespace Go.Proofs.YtemdlifojcgplaaGreatDoor
open Go Go.Vx
variable [W0]
set_option maxRecDepth 4000
set_option linter.all false
theorem zqO (s:ByteArray) (L:List Chunk):GvP Tryz.prog 123 [.string s,.int .u8 0].toArray L (.int .i64 (firstIdx s 0)):=by
 refine Gv.of_body Tryz.func123 rfl rfl ?_
 refine kW ?_
 refine ze (YU (f:=172) rfl rfl Tryz.func172 (by kernel_rfl) (by kernel_rfl) (by kernel_rfl) rfl (fun w _=>run_indexByte_string s 0 w)) rfl ?_
 refine kW ?_
 exact kE
theorem zqN (s:ByteArray) (L:List Chunk):GvP Tryz.prog 80 [.string s,.int .u8 0].toArray L (.int .i64 (firstIdx s 0)):=by
 refine Gv.of_body Tryz.func80 rfl rfl ?_
 refine kW ?_
 refine cP rfl rfl (zqO s _) ?_
 refine kW ?_
 exact kE
theorem zqx (s r:ByteArray) (L:List Chunk):GvP Tryz.prog 124 [.string s,.string r].toArray L (.int .i64 (Lib.compareBytes s.data.toList r.data.toList)):=by
 refine Gv.of_body Tryz.func124 rfl rfl ?_
 refine kW ?_
 refine ze (YU (f:=173) rfl rfl Tryz.func173 (by kernel_rfl) (by kernel_rfl) (by kernel_rfl) rfl (fun w _=>Lib.run_compareString s r w)) rfl ?_
 refine kW ?_
 exact kE
theorem zqw (s r:ByteArray) (L:List Chunk):GvP Tryz.prog 83 [.string s,.string r].toArray L (.int .i64 (Lib.compareBytes s.data.toList r.data.toList)):=by
 refine Gv.of_body Tryz.func83 rfl rfl ?_
 refine kW ?_
 refine cP rfl rfl (zqx s r _) ?_
 refine kW ?_
 exact kE
theorem zot (s r:ByteArray) (f:Value) (L:List Chunk) (hf:f.oneCell'=true):GvP Tryz.prog 82 [.agg #[.string s,f],.string r].toArray L (.int .i64 (Lib.compareBytes s.data.toList r.data.toList)):=by
 refine Gv.of_body Tryz.func82 rfl rfl ?_
 (refine kW ?_;refine kU fun bk=>?_;refine kW ?_)
 refine cP rfl rfl (zqw s r _) ?_
 refine kW ?_
 exact kE
omit [W0] in
def vK (s:ByteArray):Bool:=decide (1≤s.size)&&decide (s.size≤200)&&decide (firstIdx s 0 < 0)
theorem zhG (s:ByteArray) (L:List Chunk):GvP Tryz.prog 49 [.string s].toArray L (.bool (vK s)):=by
 refine Gv.of_body Tryz.func49 rfl rfl ?_
 (repeat' first|refine kW ?_|refine kU fun bk=>?_|refine kV fun hc=>?_|refine kZ (fun hc=>?_) fun hc=>?_|fail)
 ·refine cP rfl rfl (zqN s _) ?_
  refine kW ?_
  refine kR ?_
  refine ⟨_,iC,?_,rfl⟩
  have h3:1≤s.size:=by omega
  have h4:s.size≤200:=by omega
  simp [zV,vK,h3,h4]
 ·refine kR ?_
  refine ⟨_,iC,?_,rfl⟩
  have h4:¬s.size≤200:=by omega
  simp [zV,vK,h4]
 ·refine kR ?_
  refine ⟨_,iC,?_,rfl⟩
  have h4:¬1≤s.size:=by omega
  simp [zV,vK]
  intro h;omega
end Go.Proofs.YtemdlifojcgplaaGreatDoor
namespace Go.Vx
open Go
set_option linter.all false
def uF (a b:ByteArray):Int:=Lib.compareBytes a.data.toList b.data.toList
theorem zor:∀(a b:List UInt8),Lib.compareBytes a b=0↔a=b
 |[],[]=>by simp [Lib.compareBytes]
 |[],_::_=>by simp [Lib.compareBytes]
 |_::_,[]=>by simp [Lib.compareBytes]
 |a::la,b::bs=>by
  unfold Lib.compareBytes
  have ih:=zor la bs
  by_cases h1:a < b
  ·have:a≠b:=by intro e;subst e;exact absurd h1 (UInt8.lt_irrefl a)
   simp [h1,this]
  ·by_cases h2:b < a
   ·have:a≠b:=by intro e;subst e;exact absurd h2 (UInt8.lt_irrefl a)
    simp [h1,h2,this]
   ·have:a=b:=UInt8.le_antisymm (UInt8.not_lt.1 h2) (UInt8.not_lt.1 h1)
    subst this
    simp [h1,ih]
theorem zjg:∀(a b:List UInt8),Lib.compareBytes a b < 0↔0 < Lib.compareBytes b a
 |[],[]=>by simp [Lib.compareBytes]
 |[],_::_=>by simp [Lib.compareBytes]
 |_::_,[]=>by simp [Lib.compareBytes]
 |a::la,b::bs=>by
  unfold Lib.compareBytes
  have ih:=zjg la bs
  by_cases h1:a < b
  ·have h2:¬b < a:=fun h=>absurd (UInt8.lt_trans h1 h) (UInt8.lt_irrefl a)
   simp [h1,h2]
  ·by_cases h2:b < a
   ·simp [h1,h2]
   ·simp [h1,h2,ih]
theorem zd1:∀(a b c:List UInt8),Lib.compareBytes a b < 0→Lib.compareBytes b c < 0→Lib.compareBytes a c < 0
 |[],[],_,h,_=>by simp [Lib.compareBytes] at h
 |[],_::_,[],_,h=>by simp [Lib.compareBytes] at h
 |[],_::_,_::_,_,_=>by simp [Lib.compareBytes]
 |_::_,[],_,h,_=>by simp [Lib.compareBytes] at h
 |_::_,_::_,[],_,h=>by simp [Lib.compareBytes] at h
 |a::la,b::bs,c::cs,h1,h2=>by
  have ih:=zd1 la bs cs
  unfold Lib.compareBytes at h1 h2 ⊢
  by_cases e1:a < b
  ·by_cases e2:b < c
   ·have:=UInt8.lt_trans e1 e2;simp [this]
   ·by_cases e3:c < b
    ·simp [e2,e3] at h2
    ·have:b=c:=UInt8.le_antisymm (UInt8.not_lt.1 e3) (UInt8.not_lt.1 e2)
     subst this;simp [e1]
  ·by_cases e1':b < a
   ·simp [e1,e1'] at h1
   ·have:a=b:=UInt8.le_antisymm (UInt8.not_lt.1 e1') (UInt8.not_lt.1 e1)
    subst this
    by_cases e2:a < c
    ·simp [e2]
    ·by_cases e3:c < a
     ·simp [e2,e3] at h2
     ·simp [e1] at h1
      simp [e2,e3] at h2 ⊢
      exact ih h1 h2
theorem X5 {a b:ByteArray}:uF a b=0↔a=b:=by
 unfold uF
 rw [zor]
 constructor
 ·intro h;cases a;cases b;simp only [ByteArray.mk.injEq];exact Array.ext' h
 ·intro h;rw [h]
theorem zel {a b:ByteArray}:uF a b < 0↔0 < uF b a:=zjg _ _
theorem Xv {a b c:ByteArray} (h1:uF a b < 0) (h2:uF b c < 0):uF a c < 0:=zd1 _ _ _ h1 h2
theorem QS {a:ByteArray}:¬uF a a < 0:=by have:uF a a=0:=X5.2 rfl;omega
structure En where
 name:ByteArray
 file:Nat
def Asc:List En→Prop
 |[]=>True
 |e::r=>(∀x∈r,uF e.name x.name < 0)∧Asc r
def pos:List En→ByteArray→Nat
 |[],_=>0
 |e::r,s=>if uF e.name s < 0 then pos r s+1 else 0
def has (l:List En) (s:ByteArray):Bool:=l.any fun e=>decide (e.name=s)
theorem uf:∀(l:List En) (s:ByteArray),pos l s≤l.length
 |[],_=>by simp [pos]
 |e::r,s=>by unfold pos;have:=uf r s;split<;>simp<;>omega
theorem YB:∀{l:List En} {s:ByteArray} {k:Nat} {e:En},Asc l→l[k]? =some e→(uF e.name s < 0↔k < pos l s)
 |[],_,_,_,_,h=>by simp at h
 |x::r,s,0,e,ha,h=>by
  simp at h;subst h
  unfold pos;split<;>simp_all
 |x::r,s,k+1,e,ha,h=>by
  have hr:r[k]? =some e:=by simpa using h
  have hm:e∈r:=List.mem_of_getElem? hr
  have ih:=YB (s:=s) ha.2 hr
  unfold pos
  split
  ·rw [ih];omega
  ·rename_i hx
   constructor
   ·intro he;exact absurd (Xv (ha.1 e hm) he) hx
   ·intro h0;omega
theorem Xy {l:List En} {s:ByteArray} {i:Nat} (ha:Asc l) (hi:i≤l.length) (h1:∀k e,k < i→l[k]? =some e→uF e.name s < 0) (h2:∀k e,i≤k→l[k]? =some e→¬uF e.name s < 0):pos l s=i:=by
 have hp:=uf l s
 rcases Nat.lt_trichotomy (pos l s) i with h|h|h
 ·have hlt:pos l s < l.length:=by omega
  have hg:l[pos l s]? =some l[pos l s]:=by simp [hlt]
  have:=(YB (s:=s) ha hg).1 (h1 _ _ h hg)
  omega
 ·exact h
 ·have hlt:i < l.length:=by omega
  have hg:l[i]? =some l[i]:=by simp [hlt]
  exact absurd ((YB (s:=s) ha hg).2 h) (h2 _ _ (Nat.le_refl _) hg)
theorem YV:∀{l:List En} {i j:Nat} {a b:En},Asc l→i < j→l[i]? =some a→l[j]? =some b→uF a.name b.name < 0
 |[],_,_,_,_,_,_,h,_=>by simp at h
 |x::r,0,j+1,a,b,ha,_,h1,h2=>by
  simp at h1;subst h1
  exact ha.1 b (List.mem_of_getElem? (by simpa using h2))
 |x::r,i+1,j+1,a,b,ha,hij,h1,h2=>YV (i:=i) (j:=j) ha.2 (by omega) (by simpa using h1) (by simpa using h2)
 |x::r,i,0,a,b,ha,hij,h1,h2=>by omega
theorem pos_at {l:List En} {e:En} {k:Nat} (ha:Asc l) (hk:l[k]? =some e):pos l e.name=k:=by
 have hlt:k < l.length:=by
  rcases Nat.lt_or_ge k l.length with h|h
  ·exact h
  ·simp [List.getElem?_eq_none h] at hk
 refine Xy ha (by omega) (fun j x hj hx=>YV ha hj hx hk) (fun j x hj hx h=>?_)
 rcases Nat.lt_or_ge k j with h2|h2
 ·have h3:=YV ha h2 hk hx
  rw [zel] at h3;omega
 ·have:j=k:=by omega
  subst this
  rw [hk] at hx;cases hx
  exact QS h
theorem zc6 {l:List En} {s:ByteArray} (ha:Asc l):has l s=true↔∃e,l[pos l s]? =some e∧uF e.name s=0:=by
 unfold has
 rw [List.any_eq_true]
 constructor
 ·rintro ⟨e,hm,he⟩
  simp at he
  subst he
  obtain ⟨k,hk⟩:=List.getElem?_of_mem hm
  exact ⟨e,by rw [pos_at ha hk];exact hk,X5.2 rfl⟩
 ·rintro ⟨e,hk,hz⟩
  exact ⟨e,List.mem_of_getElem? hk,by simpa using X5.1 hz⟩
end Go.Vx
namespace Go.Proofs.YtemdlifojcgplaaGreatDoor
open Go Go.Vx
variable [W0]
set_option maxRecDepth 4000
set_option linter.all false
omit [W0] in
def ents:List En→List Value
 |[]=>[]
 |e::r=>.string e.name::.int .i64 (e.file:Int)::ents r
theorem yL:∀l:List En,(ents l).length=l.length * 2
 |[]=>rfl
 |e::r=>by simp [ents,yL r];omega
theorem YZ:∀{l:List En} {k:Nat} {e:En},l[k]? =some e→(ents l)[k * 2]? =some (.string e.name)∧(ents l)[k * 2+1]? =some (.int .i64 (e.file:Int))
 |[],_,_,h=>by simp at h
 |x::r,0,e,h=>by simp at h;subst h;simp [ents]
 |x::r,k+1,e,h=>by
  have:=YZ (l:=r) (k:=k) (by simpa using h)
  simpa [ents,Nat.add_mul,Nat.add_assoc] using this
theorem qB:∀a b:List En,ents (a++b)=ents a++ents b
 |[],b=>rfl
 |e::r,b=>by simp [ents,qB r b]
omit [W0] in
def NSl (L:List Chunk) (v:Value) (es:List En):Prop:=
 (v=.slice none 0 0∧es=[])∨∃b cap rest,v=.slice (some ⟨b,0,none⟩) es.length cap∧es.length≤cap∧Fnd L b (cl (ents es++rest) 95)
theorem z8 {l r:List Value} {i:Nat} {v:Value} (h:l[i]? =some v):(l++r)[i]? =some v:=by
 have:i < l.length:=by
  rcases Nat.lt_or_ge i l.length with h'|h'
  ·exact h'
  ·simp [List.getElem?_eq_none h'] at h
 rw [List.getElem?_append_left this];exact h
theorem znS {L:List Chunk} {b:Nat} {T:TypeId} {es:List En} {rest:List Value} {k:Nat} {e:En} (hf:Fnd L b (cl (ents es++rest) T)) (hk:es[k]? =some e) :
 zK L ⟨b,k * 2,none⟩ [.string e.name,.int .i64 (e.file:Int)]:=by
 obtain ⟨h1,h2⟩:=YZ hk
 refine .inr ⟨b,k * 2,_,T,(0,0),rfl,hf,fun j u hj=>?_⟩
 simp only [List.getElem?_toArray]
 match j,hj with
 |0,hj=>simp at hj;subst hj;exact z8 h1
 |1,hj=>simp at hj;subst hj;exact z8 h2
theorem zlv (v:Value) (es:List En) (s:ByteArray) (L:List Chunk) (hv:NSl L v es) (ha:Asc es) (hlen:es.length≤4611686018427387904) :
 GvP Tryz.prog 81 [v,.string s,.func (.func 82) #[] #[]].toArray L (.tuple #[.int .i64 (pos es s:Int),.bool (has es s)]):=by
 refine Gv.of_body Tryz.func81 rfl rfl ?_
 rcases hv with ⟨rfl,rfl⟩|⟨b,cap,rest,rfl,hcap,hf⟩
 ·refine kW ?_
  refine zn (X:=Unit) (fun _=>[(8,.int .i64 0),(9,.int .i64 0),(10,.int .i64 0)]) (fun _=>L) (fun _=>True) (fun _=>0) () trivial iS (fun w h=>h) ?_
  intro _ _
  refine kW ?_
  refine kR ?_
  exact ⟨_,iC,by simp [zV,pos,has],rfl⟩
 ·have hr:∀k e,es[k]? =some e→k < es.length:=fun k e h=>by
   rcases Nat.lt_or_ge k es.length with h'|h'
   ·exact h'
   ·simp [List.getElem?_eq_none h'] at h
  refine kW ?_
  refine zn (X:=Nat × Nat) (fun x=>[(0,.slice (some ⟨b,0,none⟩) es.length cap),(1,.string s),(2,.func (.func 82) #[] #[]),(8,.int .i64 (es.length:Int)),(9,.int .i64 (x.1:Int)),(10,.int .i64 (x.2:Int))])
   (fun _=>L) (fun x=>x.1≤x.2∧x.2≤es.length∧(∀k e,k < x.1→es[k]? =some e→uF e.name s < 0)∧(∀k e,x.2≤k→es[k]? =some e→¬uF e.name s < 0)) (fun x=>x.2 - x.1) (0,es.length)
   ⟨Nat.zero_le _,Nat.le_refl _,fun k e h=>by omega,fun k e h he=>by simp [List.getElem?_eq_none h] at he⟩ iS (fun w h=>h) ?_
  rintro ⟨i,j⟩ ⟨hij,hj,hlo,hhi⟩
  (repeat' first|refine kW ?_|refine kU fun bk=>?_|refine kV fun hc=>?_|refine kZ (fun hc=>?_) fun hc=>?_|fail)
  ·have hm:(i+j) / 2 < es.length:=by omega
   obtain ⟨e,he⟩:∃e,es[(i+j) / 2]? =some e:=⟨es[(i+j) / 2],by simp [hm]⟩
   refine ze (zh (j:=(i+j) / 2) rfl rfl (by omega) hm) rfl ?_
   refine kW ?_
   refine ze (zB rfl (znS hf he) rfl) rfl ?_
   refine kW ?_
   refine cP rfl rfl (zot e.name s _ _ rfl) ?_
   (repeat' first|refine kW ?_|refine kU fun bk=>?_|refine kV fun hc=>?_|refine kZ (fun hc=>?_) fun hc=>?_|fail)
   ·refine zf ((i+j) / 2+1,j) (by simp;omega) ⟨by simp;omega,hj,fun k x hk hx=>?_,hhi⟩ iS (fun w h=>h)
    have hc2:uF e.name s < 0:=by assumption
    rcases Nat.lt_or_ge k ((i+j) / 2) with h2|h2
    ·exact Xv (YV ha h2 hx he) hc2
    ·have:k=(i+j) / 2:=by simp at hk;omega
     subst this
     rw [he] at hx;cases hx;exact hc2
   ·refine zf (i,(i+j) / 2) (by simp;omega) ⟨by simp;omega,by simp;omega,hlo,fun k x hk hx hlt=>?_⟩ iS (fun w h=>h)
    have hc2:¬uF e.name s < 0:=by assumption
    rcases Nat.lt_or_ge ((i+j) / 2) k with h2|h2
    ·exact hc2 (Xv (YV ha h2 he hx) hlt)
    ·have:k=(i+j) / 2:=by simp at hk;omega
     subst this
     rw [he] at hx;cases hx;exact hc2 hlt
  ·have hi:pos es s=i:=Xy ha (by simp at hij hj;omega) hlo (fun k e hk=>hhi k e (by simp;omega))
   have hm:i < es.length:=by omega
   obtain ⟨e,he⟩:∃e,es[i]? =some e:=⟨es[i],by simp [hm]⟩
   refine ze (zh (j:=i) rfl rfl (by omega) hm) rfl ?_
   refine kW ?_
   refine ze (zB rfl (znS hf he) rfl) rfl ?_
   refine kW ?_
   refine cP rfl rfl (zot e.name s _ _ rfl) ?_
   refine kW ?_
   refine kR ?_
   refine ⟨_,iC,?_,rfl⟩
   have hh:has es s=(uF e.name s == 0):=by
    rw [Bool.eq_iff_iff,zc6 ha,hi]
    simp only [he,Option.some.injEq,beq_iff_eq]
    exact ⟨fun ⟨x,hx,h0⟩=>by subst hx;exact h0,fun h0=>⟨e,rfl,h0⟩⟩
   rw [hh,hi]
   rfl
  ·have hi:pos es s=i:=Xy ha (by simp at hij hj;omega) hlo (fun k e hk=>hhi k e (by simp;omega))
   refine kR ?_
   refine ⟨_,iC,?_,rfl⟩
   have hh:has es s=false:=by
    rw [Bool.eq_false_iff]
    intro h
    obtain ⟨e,he,_⟩:=(zc6 ha).1 h
    have:=hr _ _ he
    omega
   rw [hh,hi]
   rfl
theorem zc2 (v:Value) (es:List En) (s:ByteArray) (L:List Chunk) (hv:NSl L v es) (ha:Asc es) (hlen:es.length≤4611686018427387904) :
 GvP Tryz.prog 50 [v,.string s].toArray L (.tuple #[.int .i64 (pos es s:Int),.bool (has es s)]):=by
 refine Gv.of_body Tryz.func50 rfl rfl ?_
 refine kW ?_
 refine cP rfl rfl (zlv v es s _ hv ha hlen) ?_
 refine kW ?_
 exact kE
theorem ziF {w:World} {C:Chunk} {L:List Chunk} {b b':Nat} {o o':Obj} (hw:Holds w (C::L)) (h1:(b,o)∈C) (h2:Fnd L b' o'):b≠b':=by
 have h:=hw.1
 simp only [List.flatten_cons,List.map_append,List.nodup_append] at h
 intro e
 exact h.2.2 b (List.mem_map_of_mem (f:=Prod.fst) h1) b' (List.mem_map_of_mem (f:=Prod.fst) h2) e
theorem vZ {a x y c:List Value} {off:Nat} (ho:off=a.length) (hl:y.length=x.length):patch (a++(x++c)) off y=a++(y++c):=by
 subst ho
 unfold patch
 rw [List.take_left]
 have:a.length+y.length=(a++x).length:=by simp [hl]
 rw [this,←List.append_assoc a x c,List.drop_left]
 simp
theorem ZE:∀l:List En,ones (ents l)=true
 |[]=>rfl
 |e::r=>by have:=ZE r;simp only [ones,ents,List.all_cons,Value.oneCell',Bool.true_and] at *;exact this
theorem zb6 (e:En) (r:List En):ents (e::r)=ents [e]++ents r:=rfl
omit [W0] in
def Z5 (es:List En) (i:Nat) (e:En):List En:=es.take i++e::es.drop i
theorem zkg (v:Value) (es:List En) (i:Nat) (e:En) (bn:Nat) (C:Chunk) (L:List Chunk) (hi:i≤es.length) (hown:Ow 95 2 v es.length (ents es) C) (hlen:es.length≤1000000) :
 Gv Tryz.prog 125 [v,.int .i64 (i:Int),.slice (some ⟨bn,0,none⟩) 1 1].toArray ([(bn,cl (ents [e]) 95)]::C::L)
  (fun r L'=>∃C',L'=C'::L∧Ow 95 2 r (es.length+1) (ents (Z5 es i e)) C'):=by
 refine Gv.of_body Tryz.func125 rfl rfl ?_
 rcases hown with ⟨rfl,h0,h1,rfl⟩|⟨b,cap,rest,rfl,rfl,hxl,hrl,hmc,hcm⟩
 ·have he:es=[]:=List.eq_nil_of_length_eq_zero h0
  subst he
  have:i=0:=by simpa using hi
  subst this
  refine kW ?_
  refine ze (Yn rfl rfl rfl) rfl ?_
  refine kW ?_
  refine zu rfl rfl (e:=95) (k:=2) (m:=0) (xs:=[]) (C:=[]) (.inl ⟨rfl,rfl,rfl,rfl⟩) (c:=1) (ys:=ents [e]) (.inr ⟨_,_,rfl,zK.cl' (off:=0) Fnd.here rfl,rfl⟩) (by repeat (first|exact Zip.here _|apply Zip.there)) (by rfl) rfl (by omega) (by simp [maxLen]) rfl (fun v' C' ho hn1 hn2=>?_)
  refine kW ?_
  refine kR ?_
  exact ⟨C'::L,iC,C',rfl,by simpa [zV,Z5] using ho⟩
 ·have hz:(ents [e]).length=2:=rfl
  have htk:(es.take i).length=i:=by simp;omega
  have hxt:(ents (es.take i)).length=i * 2:=by rw [yL,htk]
  have hxd:(ents (es.drop i)).length=(es.length - i) * 2:=by rw [yL];simp
  have hes:ents es=ents (es.take i)++ents (es.drop i):=by rw [←qB,List.take_append_drop]
  refine kW ?_
  refine ze (yS (l:=i) (h:=es.length) rfl rfl rfl hi hmc) rfl ?_
  (repeat' first|refine kW ?_|refine kU fun bk=>?_|refine kV fun hc=>?_|refine kZ (fun hc=>?_) fun hc=>?_|fail)
  ·have hin:i=es.length:=by omega
   refine zu rfl rfl (e:=95) (k:=2) (m:=es.length) (xs:=ents es) (.inr ⟨b,cap,rest,rfl,rfl,hxl,hrl,hmc,hcm⟩) (c:=1) (ys:=ents [e]) (.inr ⟨_,_,rfl,zK.cl' (off:=0) Fnd.here rfl,rfl⟩) (by repeat (first|exact Zip.here _|apply Zip.there)) (by rfl) rfl (by omega) (by simp only [maxLen];omega) rfl (fun v' C' ho hn1 hn2=>?_)
   refine kW ?_
   refine kR ?_
   refine ⟨C'::L,iC,C',rfl,?_⟩
   have:Z5 es i e=es++[e]:=by subst hin;simp [Z5]
   rw [this,qB]
   exact ho
  ·have hlt:i < es.length:=by omega
   refine ze (qE (h:=i) rfl rfl rfl (by omega)) rfl ?_
   refine kW ?_
   refine zaC (c:=es.length+1 - i) (old:=ents (es.take i)) rfl (zfC rfl (by omega)) (by rfl) (zK.cl' (l:=ents es++rest) (off:=0) (by repeat (first|assumption|exact Fnd.here|refine Fnd.there ?_)) ?_) hxt (by omega) (by omega) (by omega) rfl (fun b2 cap2 rest2 hcap2 hcm2 hrl2=>?_)
   ·unfold cut;rw [hxt,hes];simp only [List.drop_zero,List.append_assoc];rw [←hxt,List.take_left]
   obtain ⟨q,hq⟩:∃q,es.length+1 - i=q+1:=⟨es.length - i,by omega⟩
   have hcap3:i+(es.length+1 - i)=es.length+1:=by omega
   rw [hcap3] at hcap2 hrl2 ⊢
   refine kW ?_
   refine ze (yx (l:=i) (h:=es.length+1) rfl rfl rfl (by omega) (by omega) (by omega)) rfl ?_
   refine kW ?_
   rw [hq]
   refine vR (sl:=1) (zs:=ents [e]) (ents (es.take i)++(ents [e]++(zeros [.string ByteArray.empty,.int .i64 0] q++rest2))) rfl rfl (.inr ⟨_,_,rfl,zK.cl' (off:=0) (by repeat (first|assumption|exact Fnd.here|refine Fnd.there ?_)) rfl,rfl⟩) (by rw [List.take_of_length_le (by rw [hz];omega)];rfl) ?_ iU ?_ rfl ?_
   ·rw [show min 1 (q+1) * 2=2 from by omega]
    show patch (ents (es.take i)++([.string ByteArray.empty,.int .i64 0]++zeros [.string ByteArray.empty,.int .i64 0] q)++rest2) (i * 2) (ents [e])=_
    rw [List.append_assoc,List.append_assoc]
    exact vZ hxt.symm rfl
   ·simp only [List.length_append,hxt,zeros_length]
    have:(Value.agg #[Value.string ByteArray.empty,Value.int IntKind.i64 0]).cells.toList.length=2:=rfl
    rw [this];omega
   refine kW ?_
   refine zk [8] mixed ?_
   (refine za 0 ?_;refine za 1 ?_;refine za 2 ?_;refine za 3 ?_)
   refine cT 4 rfl rfl (yx (l:=i+1) (h:=es.length+1) rfl (qH rfl (by omega)) rfl (by omega) (by omega) (by omega)) ?_
   (refine za 5 ?_;refine za 6 ?_)
   refine cT 7 rfl rfl (yx (l:=i) (h:=es.length) rfl rfl rfl (by omega) (by omega) (by omega)) ?_
   refine cL 8 rfl rfl rfl ?_
   have hq2:es.length - i=q:=by omega
   refine vR (sl:=es.length - i) (zs:=ents (es.drop i)) (ents (Z5 es i e)++rest2) rfl rfl (.inr ⟨_,_,rfl,zK.cl' (l:=ents es++rest) (by repeat (first|assumption|exact Fnd.here|refine Fnd.there ?_)) ?_,hxd⟩) ?_ ?_ iU ?_ rfl ?_
   ·unfold cut
    rw [hes,List.append_assoc,←hxt,List.drop_left,List.take_left]
   ·rw [List.take_of_length_le (by rw [hxd];omega)];exact ZE _
   ·have e1:(ents (es.drop i)).take (min (es.length - i) (es.length+1 - (i+1)) * 2)=ents (es.drop i):=List.take_of_length_le (by rw [hxd];omega)
    rw [e1,←List.append_assoc]
    rw [vZ (by rw [List.length_append,hxt];show (i+1) * 2=i * 2+2;omega) (by rw [hxd,zeros_length,hq2];rfl)]
    unfold Z5
    rw [qB,zb6 e (es.drop i)]
    simp only [List.append_assoc]
   ·simp only [List.length_append,hxt,zeros_length,hz]
    have:([Value.string ByteArray.empty,Value.int IntKind.i64 0]:List Value).length=2:=rfl
    rw [this,show es.length+1 - (i+1)=es.length - i from by omega,Nat.min_self];omega
   refine cD ?_
   refine kW ?_
   refine kR ?_
   refine ⟨_::L,iC,_,rfl,.inr ⟨b2,cap2,rest2,rfl,rfl,?_,hrl2,hcap2,hcm2⟩⟩
   rw [yL];simp [Z5];omega
  ·have hlt:i < es.length:=by omega
   have hroom:es.length+1≤cap:=by omega
   refine ze (qE (h:=es.length+1) rfl rfl (qH rfl (by omega)) (by omega)) rfl ?_
   refine kW ?_
   refine ze (yx (l:=i+1) (h:=es.length+1) rfl (qH rfl (by omega)) rfl (by omega) (by omega) (by omega)) rfl ?_
   refine kW ?_
   refine ze (YU (f:=174) (v:=.bool false) rfl rfl Tryz.func174 (by kernel_rfl) (by kernel_rfl) (by kernel_rfl) rfl (fun w hw=>?_)) rfl ?_
   ·have hb1:w.heap[bn]? =_:=(Fnd.here:Fnd ([(bn,cl (ents [e]) 95)]::[(b,cl (ents es++rest) 95)]::L) bn _).get hw
    have hb2:w.heap[b]? =_:=((Fnd.here.there:Fnd ([(bn,cl (ents [e]) 95)]::[(b,cl (ents es++rest) 95)]::L) b (cl (ents es++rest) 95))).get hw
    refine Lib.run_overlaps_apart w 44 4 95 Tryz.underlying44 2 (fun w=>wz (by kernel_rfl) w) ⟨bn,0,none⟩ ⟨b,_,none⟩ _ _ _ _ (ziF (o:=cl (ents [e]) 95) hw (by simp) Fnd.here) 95 95 2 (cap * 2) ?_ ?_ (by omega) ?_ ?_
    ·simp [World.shape?,hb1,cl,ents]
    ·simp [World.shape?,hb2,cl,hxl,hrl];omega
    ·simp [World.frozen?,hb1,cl]
    ·simp [World.frozen?,hb1,cl]
   refine kW ?_
   obtain ⟨y,r2,hr2,hy2⟩:∃y r2,rest=y++r2∧y.length=2:=⟨rest.take 2,rest.drop 2,(List.take_append_drop 2 rest).symm,by simp;omega⟩
   have hr2l:r2.length=(cap - (es.length+1)) * 2:=by
    have:=congrArg List.length hr2
    simp only [List.length_append,hy2,hrl] at this;omega
   obtain ⟨c2,hc2,hc2l⟩:∃c2,ents (es.drop i)++y=c2∧c2.length=(es.length+1 - i) * 2:=⟨_,rfl,by simp [hxd,hy2];omega⟩
   have hblk:ents es++rest=ents (es.take i)++(c2++r2):=by rw [hes,hr2,←hc2];simp only [List.append_assoc]
   obtain ⟨p2,q2,hpq,hp2⟩:∃p2 q2,c2=p2++q2∧p2.length=2:=⟨c2.take 2,c2.drop 2,(List.take_append_drop 2 c2).symm,by simp;omega⟩
   have hq2l:q2.length=(es.length - i) * 2:=by
    have:=congrArg List.length hpq
    simp only [List.length_append,hp2,hc2l] at this;omega
   refine zk [8] mixed ?_
   (refine za 0 ?_;refine za 1 ?_;refine za 2 ?_;refine za 3 ?_)
   refine cT 4 rfl rfl (yx (l:=i+1) (h:=es.length+1) rfl (qH rfl (by omega)) rfl (by omega) (by omega) (by omega)) ?_
   (refine za 5 ?_;refine za 6 ?_)
   refine cT 7 rfl rfl (yx (l:=i) (h:=es.length+1) rfl rfl rfl (by omega) (by omega) (by omega)) ?_
   refine cL 8 rfl rfl rfl ?_
   rw [hblk]
   refine vR (sl:=es.length+1 - i) (zs:=c2) (ents (es.take i)++(p2++(ents (es.drop i)++r2))) rfl rfl (.inr ⟨_,_,rfl,zK.cl' (l:=ents (es.take i)++(c2++r2)) (by repeat (first|assumption|exact Fnd.here|refine Fnd.there ?_)) ?_,hc2l⟩) ?_ ?_ iU ?_ rfl ?_
   ·unfold cut
    rw [←hxt,List.drop_left,List.take_left]
   ·have e1:c2.take (min (es.length+1 - i) (es.length+1 - (i+1)) * 2)=ents (es.drop i):=by
     rw [show min (es.length+1 - i) (es.length+1 - (i+1)) * 2=(ents (es.drop i)).length from by rw [hxd];omega,←hc2,List.take_left]
    rw [e1];exact ZE _
   ·have e1:c2.take (min (es.length+1 - i) (es.length+1 - (i+1)) * 2)=ents (es.drop i):=by
     rw [show min (es.length+1 - i) (es.length+1 - (i+1)) * 2=(ents (es.drop i)).length from by rw [hxd];omega,←hc2,List.take_left]
    rw [e1,hpq,List.append_assoc,←List.append_assoc,vZ (by simp only [List.length_append,hxt,hp2];omega) (by rw [hxd,hq2l]),List.append_assoc]
   ·simp only [List.length_append,hxt,hc2l,hr2l];omega
   refine cD ?_
   refine kW ?_
   refine ze (yx (l:=i) (h:=es.length+1) rfl rfl rfl (by omega) (by omega) (by omega)) rfl ?_
   refine kW ?_
   refine vR (sl:=1) (zs:=ents [e]) (ents (Z5 es i e)++r2) rfl rfl (.inr ⟨_,_,rfl,zK.cl' (off:=0) (by repeat (first|assumption|exact Fnd.here|refine Fnd.there ?_)) rfl,rfl⟩) (by rw [List.take_of_length_le (by rw [hz];omega)];rfl) ?_ iU ?_ rfl ?_
   ·rw [show min 1 (es.length+1 - i) * 2=2 from by omega]
    show patch _ _ (ents [e])=_
    rw [vZ hxt.symm (by rw [hz,hp2])]
    unfold Z5
    rw [qB,zb6 e (es.drop i)]
    simp only [List.append_assoc]
   ·simp only [List.length_append,hxt,hp2,hxd,hr2l];omega
   refine kW ?_
   refine kR ?_
   refine ⟨_::L,iC,_,rfl,.inr ⟨b,cap,r2,rfl,rfl,?_,hr2l,hroom,hcm⟩⟩
   rw [yL];simp [Z5];omega
theorem zjA (v:Value) (es:List En) (i:Nat) (C:Chunk) (L:List Chunk) (hi:i < es.length) (hown:Ow 95 2 v es.length (ents es) C) (hlen:es.length≤1000000) :
 Gv Tryz.prog 126 [v,.int .i64 (i:Int),.int .i64 ((i:Int)+1)].toArray (C::L)
  (fun r L'=>∃C',L'=C'::L∧Ow 95 2 r (es.length - 1) (ents (es.eraseIdx i)) C'):=by
 refine Gv.of_body Tryz.func126 rfl rfl ?_
 rcases hown with ⟨rfl,h0,h1,rfl⟩|⟨b,cap,rest,rfl,rfl,hxl,hrl,hmc,hcm⟩
 ·omega
 ·have htk:(es.take i).length=i:=by simp;omega
  have hxt:(ents (es.take i)).length=i * 2:=by rw [yL,htk]
  have hxd:(ents (es.drop (i+1))).length=(es.length - (i+1)) * 2:=by rw [yL];simp
  obtain ⟨x,hes,hx2⟩:∃x,ents es=ents (es.take i)++(x++ents (es.drop (i+1)))∧x.length=2:=⟨ents [es[i]],by
   rw [←qB,←qB];congr 1
   simp,rfl⟩
  obtain ⟨w1,z2,hw,hz2⟩:∃w1 z2,x++ents (es.drop (i+1))=w1++z2∧z2.length=2:=
   ⟨(x++ents (es.drop (i+1))).take ((es.length - (i+1)) * 2),(x++ents (es.drop (i+1))).drop ((es.length - (i+1)) * 2),(List.take_append_drop _ _).symm,by simp [hx2,hxd]⟩
  have hw1:w1.length=(es.length - (i+1)) * 2:=by
   have:=congrArg List.length hw
   simp only [List.length_append,hx2,hxd,hz2] at this;omega
  refine kW ?_
  refine ze (zbM (l:=i) (h:=i+1) (m:=es.length) rfl rfl (zfC rfl (by omega)) rfl (by omega) (by omega) hmc) rfl ?_
  (refine kW ?_;refine kV fun hc=>?_;refine kW ?_)
  refine zk [6,7] mixed ?_
  (refine za 0 ?_;refine za 1 ?_)
  refine cT 2 rfl rfl (qE (h:=i) rfl rfl rfl (by omega)) ?_
  (refine za 3 ?_;refine za 4 ?_)
  refine cT 5 rfl rfl (yS (l:=i+1) (h:=es.length) rfl (qH rfl (by omega)) rfl (by omega) (by omega)) ?_
  refine cL 6 rfl rfl rfl ?_
  refine Q5 (m:=es.length - (i+1)) (ys:=ents (es.drop (i+1))) (ents (es.take i)++(ents (es.drop (i+1))++(z2++rest))) rfl rfl ?_ (ZE _) (by omega) ?_ iU ?_ rfl ?_
  ·refine .inr ⟨_,_,rfl,?_,hxd⟩
   by_cases hc:cap=i+1
   ·have:ents (es.drop (i+1))=[]:=List.eq_nil_of_length_eq_zero (by rw [hxd];omega)
    rw [this];exact .inl rfl
   ·rw [if_neg hc,Nat.zero_add]
    refine zK.cl' (l:=ents es++rest) (by repeat (first|assumption|exact Fnd.here|refine Fnd.there ?_)) ?_
    unfold cut
    rw [hes]
    have e1:ents (es.take i)++(x++ents (es.drop (i+1)))++rest=(ents (es.take i)++x)++(ents (es.drop (i+1))++rest):=by simp only [List.append_assoc]
    have e2:(i+1) * 2=(ents (es.take i)++x).length:=by simp only [List.length_append,hxt,hx2];omega
    rw [e1,e2,List.drop_left,List.take_left]
  ·rw [hes,hw]
   have e1:ents (es.take i)++(w1++z2)++rest=ents (es.take i)++(w1++(z2++rest)):=by simp only [List.append_assoc]
   rw [e1,vZ hxt.symm (by rw [hxd,hw1])]
  ·simp only [List.length_append,hxl,hrl,hxd];omega
  refine cL 7 rfl rfl rfl ?_
  refine kW ?_
  refine cD ?_
  refine kW ?_
  have hn1:i+(es.length - (i+1))=es.length - 1:=by omega
  rw [hn1]
  refine ze (yx (l:=es.length - 1) (h:=es.length) rfl rfl rfl (by omega) hmc (by omega)) rfl ?_
  have hn2:es.length - (es.length - 1)=1:=by omega
  rw [hn2]
  refine kW ?_
  refine zfc (ents (es.take i)++(ents (es.drop (i+1))++(zeros [.string ByteArray.empty,.int .i64 0] 1++rest))) rfl (by rfl) rfl ?_ iU ?_ ?_
  ·have e1:ents (es.take i)++(ents (es.drop (i+1))++(z2++rest))=(ents (es.take i)++ents (es.drop (i+1)))++(z2++rest):=by simp only [List.append_assoc]
   rw [e1,vZ (by simp only [List.length_append,hxt,hxd];omega) (by rw [hz2];rfl)]
   simp only [List.append_assoc]
   rfl
  ·simp only [List.length_append,hxt,hxd,hz2];omega
  refine kW ?_
  refine kR ?_
  have hee:ents (es.eraseIdx i)=ents (es.take i)++ents (es.drop (i+1)):=by rw [List.eraseIdx_eq_take_drop_succ,qB]
  refine ⟨_::L,iC,_,rfl,.inr ⟨b,cap,zeros [.string ByteArray.empty,.int .i64 0] 1++rest,rfl,?_,?_,?_,by omega,hcm⟩⟩
  ·rw [hee];simp only [List.append_assoc]
  ·rw [yL,List.length_eraseIdx_of_lt hi]
  ·simp only [List.length_append,hrl,zeros_length]
   have:([Value.string ByteArray.empty,Value.int IntKind.i64 0]:List Value).length=2:=rfl
   rw [this];omega
theorem zfO {v:Value} {es:List En} {C:Chunk} {L:List Chunk} (h:Ow 95 2 v es.length (ents es) C):NSl (C::L) v es:=by
 rcases h with ⟨rfl,h0,h1,rfl⟩|⟨b,cap,rest,rfl,rfl,hxl,hrl,hmc,hcm⟩
 ·exact .inl ⟨rfl,List.eq_nil_of_length_eq_zero h0⟩
 ·exact .inr ⟨b,cap,rest,rfl,hmc,Fnd.here⟩
omit [W0] in
def YC (es:List En) (s:ByteArray) (f:Nat):List En:=if has es s then es.set (pos es s) ⟨s,f⟩ else Z5 es (pos es s) ⟨s,f⟩
omit [W0] in
def uE (es:List En) (s:ByteArray):List En:=es.eraseIdx (pos es s)
omit [W0] in
def zP (es:List En) (s:ByteArray):Nat:=((es[pos es s]?).map En.file).getD 0
theorem vJ {es:List En} {s:ByteArray} (ha:Asc es) (h:has es s=true):∃f,es[pos es s]? =some ⟨s,f⟩∧zP es s=f∧pos es s < es.length:=by
 obtain ⟨e,he,hz⟩:=(zc6 ha).1 h
 have:=X5.1 hz
 subst this
 refine ⟨e.file,by rw [he],by simp [zP,he],?_⟩
 rcases Nat.lt_or_ge (pos es e.name) es.length with h'|h'
 ·exact h'
 ·simp [List.getElem?_eq_none h'] at he
theorem zaU:∀{es:List En} {i f:Nat} {e:En},es[i]? =some e→(ents es).set (i * 2+1) (.int .i64 (f:Int))=ents (es.set i ⟨e.name,f⟩)
 |[],_,_,_,h=>by simp at h
 |x::r,0,f,e,h=>by simp at h;subst h;simp [ents]
 |x::r,i+1,f,e,h=>by
  have:=zaU (es:=r) (i:=i) (f:=f) (e:=e) (by simpa using h)
  have e2:(i+1) * 2+1=(i * 2+1)+1+1:=by omega
  rw [e2]
  simp [ents,this]
theorem zoH (v:Value) (es:List En) (s:ByteArray) (f:Nat) (C:Chunk) (L:List Chunk) (hown:Ow 95 2 v es.length (ents es) C) (ha:Asc es) (hlen:es.length≤1000000) :
 Gv Tryz.prog 84 [v,.string s,.int .i64 (f:Int)].toArray (C::L)
  (fun r L'=>∃C',L'=C'::L∧Ow 95 2 r (YC es s f).length (ents (YC es s f)) C'):=by
 refine Gv.of_body Tryz.func84 rfl rfl ?_
 refine kW ?_
 refine cP rfl rfl (zc2 v es s _ (zfO hown) ha (by omega)) ?_
 cases hh:has es s
 ·refine kW ?_
  refine zl (cs:=ents [⟨s,f⟩]) rfl (by rfl) (by simp [zA,patch,Value.cells,zeros,ents]) (by omega) rfl rfl (fun bn=>?_)
  refine kW ?_
  refine cC rfl rfl (zkg v es (pos es s) ⟨s,f⟩ bn C L (uf es s) hown hlen) (fun r L' hp=>?_)
  obtain ⟨C',rfl,ho⟩:=hp
  refine kW ?_
  refine kR ?_
  refine ⟨C'::L,iC,C',rfl,?_⟩
  have:YC es s f=Z5 es (pos es s) ⟨s,f⟩:=by simp [YC,hh]
  rw [this]
  have hl:(Z5 es (pos es s) ⟨s,f⟩).length=es.length+1:=by have:=uf es s;simp [Z5];omega
  rw [hl];exact ho
 ·obtain ⟨g,hg,hfe,hlt⟩:=vJ ha hh
  rcases hown with ⟨rfl,h0,h1,rfl⟩|⟨b,cap,rest,rfl,rfl,hxl,hrl,hmc,hcm⟩
  ·omega
  ·refine kW ?_
   refine ze (zh (j:=pos es s) rfl rfl rfl hlt) rfl ?_
   refine kW ?_
   refine kR ?_
   have hp:YC es s f=es.set (pos es s) ⟨s,f⟩:=by simp [YC,hh]
   have hset:=zaU (f:=f) hg
   refine ⟨_::L,iC,_,rfl,.inr ⟨b,cap,rest,?_,?_,?_,?_,?_,hcm⟩⟩
   ·rw [hp,List.length_set];rfl
   ·rw [hp,←hset,List.set_append_left _ _ (by rw [hxl];omega)]
   ·rw [yL]
   ·rw [hp,List.length_set];exact hrl
   ·rw [hp,List.length_set];exact hmc
theorem zjH (v:Value) (es:List En) (s:ByteArray) (C:Chunk) (L:List Chunk) (hown:Ow 95 2 v es.length (ents es) C) (ha:Asc es) (hh:has es s=true) (hlen:es.length≤1000000) :
 Gv Tryz.prog 85 [v,.string s].toArray (C::L)
  (fun r L'=>∃C' v',r=.tuple #[v',.int .i64 (zP es s:Int)]∧L'=C'::L∧Ow 95 2 v' (uE es s).length (ents (uE es s)) C'):=by
 refine Gv.of_body Tryz.func85 rfl rfl ?_
 obtain ⟨g,hg,hfe,hlt⟩:=vJ ha hh
 have hd:(uE es s).length=es.length - 1:=by unfold uE;rw [List.length_eraseIdx_of_lt hlt]
 refine kW ?_
 refine cP rfl rfl (zc2 v es s _ (zfO hown) ha (by omega)) ?_
 have hown2:=hown
 rcases hown2 with ⟨rfl,h0,h1,rfl⟩|⟨b,cap,rest,rfl,rfl,hxl,hrl,hmc,hcm⟩
 ·omega
 ·refine kW ?_
  refine ze (zh (j:=pos es s) rfl rfl rfl hlt) rfl ?_
  refine kW ?_
  refine ze (zy (v:=.int .i64 (g:Int)) rfl (by repeat (first|assumption|exact Fnd.here|refine Fnd.there ?_)) (by rw [yu];exact z8 (YZ hg).2)) rfl ?_
  refine kW ?_
  refine cC rfl rfl (zjA _ es (pos es s) _ L hlt hown hlen) (fun r L' hp=>?_)
  obtain ⟨C',rfl,ho⟩:=hp
  refine kW ?_
  refine kR ?_
  refine ⟨C'::L,iC,C',r,?_,rfl,?_⟩
  ·rw [hfe];rfl
  ·rw [hd];exact ho
omit [W0] in
inductive Ch where
 |cr (s:ByteArray) (f:Nat)
 |rn (a b:ByteArray)
 |rm (a:ByteArray)
omit [W0] in
def chV:Ch→Value
 |.cr s f=>.iface 64 (.agg #[.string s,.int .i64 (f:Int)])
 |.rn a b=>.iface 126 (.agg #[.string a,.string b])
 |.rm a=>.iface 131 (.agg #[.string a])
omit [W0] in
def zmL (es:List En):Ch→Bool
 |.cr _ _=>true
 |.rn a _=>has es a
 |.rm a=>has es a
omit [W0] in
def vk (es:List En):Ch→List En
 |.cr s f=>YC es s f
 |.rn a b=>YC (uE es a) b (zP es a)
 |.rm a=>uE es a
theorem zbU:∀{es:List En} (i:Nat),Asc es→Asc (es.eraseIdx i)
 |[],i,_=>by simp [Asc]
 |e::r,0,h=>by simpa using h.2
 |e::r,i+1,h=>by
  simp only [List.eraseIdx_cons_succ]
  exact ⟨fun x hx=>h.1 x (List.mem_of_mem_eraseIdx hx),zbU i h.2⟩
theorem zdR {es:List En} (s:ByteArray) (h:Asc es):Asc (uE es s):=zbU _ h
theorem zmz (v:Value) (es:List En) (c:Ch) (C:Chunk) (L:List Chunk) (hown:Ow 95 2 v es.length (ents es) C) (ha:Asc es) (hc:zmL es c=true) (hlen:es.length≤1000000) :
 Gv Tryz.prog 51 [v,chV c].toArray (C::L)
  (fun r L'=>∃C',L'=C'::L∧Ow 95 2 r (vk es c).length (ents (vk es c)) C'):=by
 refine Gv.of_body Tryz.func51 rfl rfl ?_
 cases c with
 |cr s f=>
  (refine kW ?_;refine kU fun bk=>?_;refine kW ?_)
  refine cC rfl rfl ((zoH v es s f C _ hown ha hlen).take (by repeat (first|exact Take.here|apply Take.there))) (fun r L' hp=>?_)
  obtain ⟨C',rfl,ho⟩:=hp
  refine kW ?_
  refine kR ?_
  exact ⟨C'::L,iC,C',rfl,ho⟩
 |rn a b=>
  (refine kW ?_;refine kU fun bk=>?_;refine kW ?_;refine kU fun bk=>?_;refine kW ?_)
  refine cC rfl rfl ((zjH v es a C _ hown ha hc hlen).take (by repeat (first|exact Take.here|apply Take.there))) (fun r L' hp=>?_)
  obtain ⟨C',v',rfl,rfl,ho⟩:=hp
  refine kW ?_
  have hle:(uE es a).length≤1000000:=by unfold uE;have:=List.length_eraseIdx_le es (pos es a);omega
  refine cC rfl rfl ((zoH v' (uE es a) b (zP es a) C' _ ho (zdR a ha) hle).take (by repeat (first|exact Take.here|apply Take.there))) (fun r L' hp=>?_)
  obtain ⟨C2,rfl,ho2⟩:=hp
  refine kW ?_
  refine kR ?_
  exact ⟨C2::L,iC,C2,rfl,ho2⟩
 |rm a=>
  (refine kW ?_;refine kU fun bk=>?_;refine kW ?_;refine kU fun bk=>?_;refine kW ?_;refine kU fun bk=>?_;refine kW ?_)
  refine cC rfl rfl ((zjH v es a C _ hown ha hc hlen).take (by repeat (first|exact Take.here|apply Take.there))) (fun r L' hp=>?_)
  obtain ⟨C',v',rfl,rfl,ho⟩:=hp
  refine kW ?_
  refine kR ?_
  exact ⟨C'::L,iC,C',rfl,ho⟩
omit [W0] in
structure Fi where
 data:List UInt8
 synced:Nat
omit [W0] in
structure Fsy where
 quota:Nat
 files:List Fi
 names:List En
 durable:List En
 journal:List Ch
 left:Int
 dead:Bool
omit [W0] in
def fcl:List Fi→List Value→List Value
 |f::fs,v::vs=>v::.int .i64 (f.synced:Int)::fcl fs vs
 |_,_=>[]
theorem Zg:∀{fs:List Fi} {vs:List Value},vs.length=fs.length→(fcl fs vs).length=fs.length * 2
 |[],[],_=>rfl
 |f::fs,v::vs,h=>by
  have:=Zg (fs:=fs) (vs:=vs) (by simpa using h)
  simp [fcl,this];omega
theorem Xt:∀{fs:List Fi} {vs:List Value} {i:Nat} {f:Fi} {v:Value},fs[i]? =some f→vs[i]? =some v→(fcl fs vs)[i * 2]? =some v∧(fcl fs vs)[i * 2+1]? =some (.int .i64 (f.synced:Int))
 |[],_,_,_,_,h,_=>by simp at h
 |_::_,[],_,_,_,_,h=>by simp at h
 |f::fs,v::vs,0,_,_,h1,h2=>by simp at h1 h2;subst h1 h2;simp [fcl]
 |f::fs,v::vs,i+1,_,_,h1,h2=>by
  have:=Xt (fs:=fs) (vs:=vs) (i:=i) (by simpa using h1) (by simpa using h2)
  simpa [fcl,Nat.add_mul,Nat.add_assoc] using this
theorem Xr:∀{fs:List Fi} {vs:List Value} {gs:List Fi} {us:List Value},vs.length=fs.length→fcl (fs++gs) (vs++us)=fcl fs vs++fcl gs us
 |[],[],gs,us,_=>by simp [fcl]
 |f::fs,v::vs,gs,us,h=>by
  have:=Xr (fs:=fs) (vs:=vs) (gs:=gs) (us:=us) (by simpa using h)
  simp [fcl,this]
omit [W0] in
structure FR (fs:List Fi) (vs:List Value) (Cs:List Chunk):Prop where
 lv:vs.length=fs.length
 lc:Cs.length=fs.length
 at_:∀(i:Nat) (f:Fi),fs[i]? =some f→∃v C,vs[i]? =some v∧Cs[i]? =some C∧Ow 5 1 v f.data.length (bsv f.data) C
omit [W0] in
def Qq (S:Fsy) (fv nv dv jv:Value):Obj:=cl [.int .i64 (S.quota:Int),fv,nv,dv,jv,.int .i64 S.left,.bool S.dead] 47
omit [W0] in
def hdr (S:Fsy) (p:Nat) (fv nv dv jv:Value):Chunk:=[(p,Qq S fv nv dv jv)]
omit [W0] in
def zS (S:Fsy):Fsy:=if S.dead=true∨S.left=0 then { S with dead:=true } else if S.left > 0 then { S with left:=S.left - 1 } else S
omit [W0] in
def zW (S:Fsy):Int:=if S.dead=true∨S.left=0 then 50 else 0
theorem Y9 (S:Fsy) (p:Nat) (fv nv dv jv:Value) (L:List Chunk) (hl: -9223372036854775808≤S.left∧S.left≤9223372036854775807) :
 Gv Tryz.prog 24 [.pointer (some ⟨p,0,none⟩)].toArray (hdr S p fv nv dv jv::L) (fun r L'=>r=.int .i64 (zW S)∧L'=hdr (zS S) p fv nv dv jv::L):=by
 obtain ⟨q,fs,ns,ds,js,left,dead⟩:=S
 refine Gv.of_body Tryz.func24 rfl rfl ?_
 simp only [hdr,Qq] at *
 cases dead
 ·(repeat' first|refine kW ?_|refine kU fun bk=>?_|refine kV fun hc=>?_|refine kZ (fun hc=>?_) fun hc=>?_|fail)
  ·refine kR ?_
   have h0:left=0:=by assumption
   exact ⟨_,iC,by simp [zV,zW,h0],by simp [zS,h0]⟩
  ·refine kR ?_
   have h0:¬left=0:=by assumption
   have h1:left > 0:=by assumption
   exact ⟨_,iC,by simp [zV,zW,h0],by simp [zS,h0,h1]⟩
  ·refine kR ?_
   have h0:¬left=0:=by assumption
   have h1:¬left > 0:=by assumption
   exact ⟨_,iC,by simp [zV,zW,h0],by simp [zS,h0,h1]⟩
 ·refine kW ?_
  refine kR ?_
  exact ⟨_,iC,by simp [zV,zW],by simp [zS]⟩
omit [W0] in
def zU (S:Fsy) (s:ByteArray):Int:=if S.dead=true then 50 else if vK s=false then 1 else if has S.names s=false then 61 else 0
omit [W0] in
def Yh (S:Fsy) (s:ByteArray):Nat:=if zU S s=0 then zP S.names s else 0
theorem zcj {L:List Chunk} {C:Chunk} {v:Value} {es:List En} (h:NSl L v es):NSl (C::L) v es:=by
 rcases h with h|⟨b,cap,rest,h1,h2,h3⟩
 ·exact .inl h
 ·exact .inr ⟨b,cap,rest,h1,h2,h3.there⟩
theorem Qw (S:Fsy) (p:Nat) (fv nv dv jv:Value) (s:ByteArray) (L:List Chunk) (hp:Fnd L p (Qq S fv nv dv jv)) (hn:NSl L nv S.names) (ha:Asc S.names) (hl:S.names.length≤100000) :
 GvP Tryz.prog 23 [.pointer (some ⟨p,0,none⟩),.string s].toArray L (.tuple #[.int .i64 (Yh S s:Int),.int .i64 (zU S s)]):=by
 obtain ⟨q,fs,ns,ds,js,left,dead⟩:=S
 refine Gv.of_body Tryz.func23 rfl rfl ?_
 simp only [Qq] at *
 cases dead
 ·refine kW ?_
  refine cP rfl rfl (zhG s _) ?_
  cases hv:vK s
  ·refine kW ?_
   refine kR ?_
   exact ⟨_,iC,by simp [zV,Yh,zU,hv],rfl⟩
  ·refine kW ?_
   refine cP rfl rfl (zc2 nv ns s _ hn ha (by omega)) ?_
   cases hh:has ns s
   ·refine kW ?_
    refine kR ?_
    exact ⟨_,iC,by simp [zV,Yh,zU,hv,hh],rfl⟩
   ·obtain ⟨g,hg,hfe,hlt⟩:=vJ ha hh
    rcases hn with ⟨rfl,h0⟩|⟨b,cap,rest,rfl,hmc,hfn⟩
    ·subst h0;simp at hlt
    ·refine kW ?_
     refine ze (zh (j:=pos ns s) rfl rfl rfl hlt) rfl ?_
     refine kW ?_
     refine ze (zy (v:=.int .i64 (g:Int)) rfl (by repeat (first|assumption|exact Fnd.here|refine Fnd.there ?_)) (by rw [yu];exact z8 (YZ hg).2)) rfl ?_
     refine kW ?_
     refine kR ?_
     exact ⟨_,iC,by simp [zV,Yh,zU,hv,hh,hfe],rfl⟩
 ·refine kW ?_
  refine kR ?_
  exact ⟨_,iC,by simp [zV,Yh,zU],rfl⟩
theorem zmO (s:ByteArray) (L:List Chunk) (hs:s.size≤1000):GvP Tryz.prog 52 [.string s].toArray L (.string s):=by
 refine Gv.of_body Tryz.func52 rfl rfl ?_
 (repeat' first|refine kW ?_|refine kU fun bk=>?_|refine kV fun hc=>?_|refine kZ (fun hc=>?_) fun hc=>?_|fail)
 ·refine kR ?_
  have h0:(s.size:Int)=0:=by assumption
  have:s=ByteArray.empty:=by
   cases s with|mk d=>cases d with|mk l=>cases l with|nil=>rfl|cons a r=>simp [ByteArray.size] at h0;omega
  subst this
  exact ⟨_,iC,rfl,rfl⟩
 ·have h0:¬(s.size:Int)=0:=by assumption
  refine zJ (m:=s.size) (c:=s.size) rfl rfl (by rfl) (Nat.le_refl _) (by omega) (by omega) rfl (fun b=>?_)
  refine kW ?_
  refine zfd (l:=_) rfl rfl rfl iU (by rw [zeros_length];simp [Value.cells]) rfl ?_
  have hlen:s.data.toList.length=s.size:=rfl
  have he:patch (zeros (Value.int IntKind.u8 0).cells.toList s.size) 0 (bsv s.data.toList)=bsv s.data.toList++[]:=by
   unfold patch
   rw [List.drop_eq_nil_of_le (by rw [zeros_length,zH,hlen];simp [Value.cells])]
   simp
  rw [he]
  refine kW ?_
  refine ze (zh (j:=0) rfl rfl rfl (by omega)) rfl ?_
  refine kW ?_
  refine Q6 (l:=s.data.toList) (rest:=[]) (e:=5) Tryz.underlying133 (by kernel_rfl) (by rw [Nat.zero_mul];rfl) rfl (by rw [hlen]) (by intro h;rw [h] at hlen;simp at hlen;omega) (by omega) iU rfl ?_
  refine kW ?_
  refine kR ?_
  exact ⟨_,iC,rfl,rfl⟩
theorem zal (s:ByteArray) (L:List Chunk) (hs:s.size≤1000):GvP Tryz.prog 26 [.string s].toArray L (.string s):=by
 refine Gv.of_body Tryz.func26 rfl rfl ?_
 refine kW ?_
 refine cP rfl rfl (zmO s _ hs) ?_
 refine kW ?_
 exact kE
theorem zmM (c:Ch):(chV c).oneCell'=true:=by cases c<;>rfl
theorem uK {e k m:Nat} {v:Value} {xs:List Value} {C:Chunk} (h:Ow e k v m xs C):v.oneCell'=true:=by
 rcases h with ⟨rfl,_⟩|⟨b,cap,rest,rfl,_⟩<;>rfl
theorem zM {e k m:Nat} {v:Value} {xs:List Value} {C:Chunk} (h:Ow e k v m xs C):∃a c,v=.slice a m c:=by
 rcases h with ⟨rfl,rfl,_⟩|⟨b,cap,rest,rfl,_⟩
 ·exact ⟨_,_,rfl⟩
 ·exact ⟨_,_,rfl⟩
theorem qz {e k m:Nat} {v:Value} {xs:List Value} {C:Chunk} {L:List Chunk} (h:Ow e k v m xs C):Sl (C::L) k v m xs:=by
 rcases h with ⟨rfl,rfl,rfl,rfl⟩|⟨b,cap,rest,rfl,rfl,hxl,hrl,hmc,hcm⟩
 ·exact .inl ⟨_,rfl,rfl,rfl⟩
 ·exact .inr ⟨_,_,rfl,zK.cl' Fnd.here (by simp [cut]),hxl⟩
theorem zfN (S:Fsy) (p:Nat) (fv nv dv jv:Value) (c:Ch) (Cn Cj:Chunk) (L:List Chunk) (hn:Ow 95 2 nv S.names.length (ents S.names) Cn) (hj:Ow 97 1 jv S.journal.length (S.journal.map chV) Cj) (han:Asc S.names) (hln:S.names.length≤100000) (hlj:S.journal.length≤100000) (hc:zmL S.names c=true) :
 Gv Tryz.prog 25 [.pointer (some ⟨p,0,none⟩),chV c].toArray (hdr S p fv nv dv jv::Cn::Cj::L)
  (fun r L'=>∃nv' jv' Cn' Cj',r=.tuple #[]∧L'=hdr S p fv nv' dv jv'::Cn'::Cj'::L∧Ow 95 2 nv' (vk S.names c).length (ents (vk S.names c)) Cn'∧Ow 97 1 jv' (S.journal.length+1) ((S.journal++[c]).map chV) Cj'):=by
 obtain ⟨q,fs,ns,ds,js,left,dead⟩:=S
 refine Gv.of_body Tryz.func25 rfl rfl ?_
 simp only [hdr,Qq] at *
 refine kW ?_
 refine cC rfl rfl ((zmz nv ns c Cn _ hn han hc (by omega)).take (by repeat (first|exact Take.here|apply Take.there))) (fun r L' hp=>?_)
 obtain ⟨Cn',rfl,ho⟩:=hp
 refine kW ?_
 refine qL rfl rfl (uK ho) iU (by simp) ?_
 refine kW ?_
 refine zl (cs:=[chV c]) rfl (by rfl) (by cases c<;>simp [zA,patch,Value.cells,zeros,chV]) (by omega) rfl rfl (fun bn=>?_)
 refine kW ?_
 refine zu rfl rfl hj (c:=1) (ys:=[chV c]) (.inr ⟨_,_,rfl,zK.cl' (off:=0) (by repeat (first|assumption|exact Fnd.here|refine Fnd.there ?_)) rfl,rfl⟩) (by repeat (first|exact Zip.here _|apply Zip.there)) (by rfl) (by simp [ones,zmM]) (by omega) (by simp only [maxLen];omega) rfl (fun v' C' ho2 hn1 hn2=>?_)
 refine kW ?_
 refine qL rfl rfl (uK ho2) iU (by simp) ?_
 refine kW ?_
 refine kR ?_
 exact ⟨_::Cn'::C'::L,iC,r,v',Cn',C',rfl,rfl,ho,by simpa using ho2⟩
theorem zgA (v:Value) (m:Nat) (xs:List Value) (L:List Chunk) (hs:Sl L 2 v m xs) (h1:ones xs=true) (hm:m≤100000000) :
 Gv Tryz.prog 143 [v].toArray L (fun r L'=>∃C',L'=C'::L∧Ow 95 2 r m xs C'):=by
 refine Gv.of_body Tryz.func143 rfl rfl ?_
 rcases hs with ⟨c,rfl,rfl,rfl⟩|⟨a,cap,rfl,hrd,hl⟩
 ·refine kW ?_
  refine kH ?_
  exact ⟨[]::L,fun w h=>Holds.nil.2 h,[],rfl,.inl ⟨rfl,rfl,rfl,rfl⟩⟩
 ·refine kW ?_
  refine zl (cs:=[]) rfl (by rfl) (by simp [zA,zeros]) (by omega) rfl rfl (fun bn=>?_)
  refine kW ?_
  refine zu rfl rfl (m:=0) (xs:=[]) (C:=[(bn,cl [] 95)]) (.inr ⟨bn,0,[],rfl,rfl,rfl,rfl,Nat.le_refl _,by simp [maxLen]⟩) (c:=m) (ys:=xs) (.inr ⟨_,_,rfl,?_,hl⟩) (by repeat (first|exact Zip.here _|apply Zip.there)) (by rfl) h1 (by omega) (by simp only [maxLen];omega) rfl (fun v' C' ho hn1 hn2=>?_)
  ·rcases hrd with h|⟨b,off,c,T,fr,h2,h3,h4⟩
   ·exact .inl h
   ·exact .inr ⟨b,off,c,T,fr,h2,h3.there,h4⟩
  refine kW ?_
  refine kR ?_
  exact ⟨C'::L,iC,C',rfl,by simpa [zV] using ho⟩
theorem zmP (v:Value) (m:Nat) (xs:List Value) (L:List Chunk) (hs:Sl L 1 v m xs) (h1:ones xs=true) (hm:m≤100000000) :
 Gv Tryz.prog 54 [v].toArray L (fun r L'=>∃C',L'=C'::L∧Ow 5 1 r m xs C'):=by
 refine Gv.of_body Tryz.func54 rfl rfl ?_
 rcases hs with ⟨c,rfl,rfl,rfl⟩|⟨a,cap,rfl,hrd,hl⟩
 ·refine kW ?_
  refine kH ?_
  exact ⟨[]::L,fun w h=>Holds.nil.2 h,[],rfl,.inl ⟨rfl,rfl,rfl,rfl⟩⟩
 ·refine kW ?_
  refine zl (cs:=[]) rfl (by rfl) (by simp [zA,zeros]) (by omega) rfl rfl (fun bn=>?_)
  refine kW ?_
  refine zu rfl rfl (m:=0) (xs:=[]) (C:=[(bn,cl [] 5)]) (.inr ⟨bn,0,[],rfl,rfl,rfl,rfl,Nat.le_refl _,by simp [maxLen]⟩) (c:=m) (ys:=xs) (.inr ⟨_,_,rfl,?_,hl⟩) (by repeat (first|exact Zip.here _|apply Zip.there)) (by rfl) h1 (by omega) (by simp only [maxLen];omega) rfl (fun v' C' ho hn1 hn2=>?_)
  ·rcases hrd with h|⟨b,off,c,T,fr,h2,h3,h4⟩
   ·exact .inl h
   ·exact .inr ⟨b,off,c,T,fr,h2,h3.there,h4⟩
  refine kW ?_
  refine kR ?_
  exact ⟨C'::L,iC,C',rfl,by simpa [zV] using ho⟩
omit [W0] in
def y7:Nat→List En→List En
 |_,[]=>[]
 |i,e::r=>⟨e.name,i⟩::y7 (i+1) r
theorem wN:∀(i:Nat) (es:List En),(y7 i es).length=es.length
 |_,[]=>rfl
 |i,e::r=>by simp [y7,wN (i+1) r]
theorem Qb:∀(i:Nat) (a b:List En),y7 i (a++b)=y7 i a++y7 (i+a.length) b
 |_,[],b=>by simp [y7]
 |i,e::r,b=>by simp [y7,Qb (i+1) r b];congr 1;omega
omit [W0] in
def yG (fs:List Fi) (e:En):Fi:=fs.getD e.file ⟨[],0⟩
omit [W0] in
def vAt (vs:List Value) (e:En):Value:=vs.getD e.file undef
omit [W0] in
def yJ (S:Fsy):Fsy:={ S with files:=S.names.map (yG S.files),names:=y7 0 S.names,durable:=y7 0 S.names,journal:=[] }
theorem zly (S:Fsy) (p:Nat) (fv nv dv jv:Value) (vs:List Value) (Cf Cn:Chunk) (L:List Chunk) (hf:Ow 61 2 fv S.files.length (fcl S.files vs) Cf) (hvs:vs.length=S.files.length) (h1:∀v∈vs,v.oneCell'=true) (hn:Ow 95 2 nv S.names.length (ents S.names) Cn)
 (hl:S.names.length≤100000) (hin:∀e∈S.names,e.file < S.files.length) :
 Gv Tryz.prog 106 [.pointer (some ⟨p,0,none⟩)].toArray (hdr S p fv nv dv jv::Cf::Cn::L)
  (fun r L'=>∃fv' nv' dv' Cf' Cn' Cd',r=.tuple #[]∧L'=hdr (yJ S) p fv' nv' dv' (.slice none 0 0)::Cf'::Cn'::Cd'::L∧
    Ow 61 2 fv' S.names.length (fcl (S.names.map (yG S.files)) (S.names.map (vAt vs))) Cf'∧Ow 95 2 nv' S.names.length (ents (y7 0 S.names)) Cn'∧Ow 95 2 dv' S.names.length (ents (y7 0 S.names)) Cd'):=by
 obtain ⟨q,fs,ns,ds,js,left,dead⟩:=S
 refine Gv.of_body Tryz.func106 rfl rfl ?_
 simp only [hdr,Qq] at *
 rcases hn with ⟨rfl,h0,hh,rfl⟩|⟨b,cap,rest,rfl,rfl,hxl,hrl,hmc,hcm⟩
 ·have hnil:ns=[]:=List.eq_nil_of_length_eq_zero h0
  subst hnil
  refine kW ?_
  refine zJ (m:=0) (c:=0) rfl rfl (by rfl) (Nat.le_refl _) (by omega) (by omega) rfl (fun kb=>?_)
  refine kW ?_
  refine zn (X:=Unit) (fun _=>[(0,.pointer (some ⟨p,0,none⟩)),(2,.slice (some ⟨kb,0,none⟩) 0 0),(15,.int .i64 0),(16,.int .i64 0)]) (fun _=>[(kb,cl [] 61)]::[(p,cl [.int .i64 (q:Int),fv,.slice none 0 0,dv,jv,.int .i64 left,.bool dead] 47)]::L) (fun _=>True) (fun _=>0) () trivial iS ?_ ?_
  ·exact fun w h=>iH h
  intro _ _
  refine kW ?_
  refine qF rfl rfl rfl (zgA (.slice none 0 0) 0 [] _ (.inl ⟨_,rfl,rfl,rfl⟩) rfl (by omega)) rfl (fun r L' hp=>?_)
  obtain ⟨C',rfl,ho⟩:=hp
  refine kW ?_
  refine qL rfl rfl (uK ho) iU (by simp) ?_
  refine kW ?_
  refine kH ?_
  refine ⟨_::[(kb,cl [] 61)]::[]::C'::L,fun w h=>?_,_,_,_,[(kb,cl [] 61)],[],C',rfl,rfl,.inr ⟨kb,0,[],rfl,rfl,rfl,rfl,Nat.le_refl _,by simp [maxLen]⟩,.inl ⟨rfl,rfl,rfl,rfl⟩,ho⟩
  exact (iC:Inc _ ([]::_)).holds (Holds.nil.2 h)
 ·have hr:∀{i:Nat} {e:En},ns[i]? =some e→i < ns.length:=fun {i e} h=>by
   rcases Nat.lt_or_ge i ns.length with h'|h'
   ·exact h'
   ·simp [List.getElem?_eq_none h'] at h
  have hrt:∀i,i≤ns.length→(y7 0 (ns.take i)).length=i:=fun i hi=>by rw [wN];simp;omega
  have hkl:∀i,i≤ns.length→(fcl ((ns.take i).map (yG fs)) ((ns.take i).map (vAt vs))).length=i * 2:=fun i hi=>by rw [Zg (by simp)];simp;omega
  have hsucc:∀{i:Nat} {e:En},ns[i]? =some e→ns.take (i+1)=ns.take i++[e]∧ns.drop i=e::ns.drop (i+1):=fun {i e} h=>by
   have hlt:=hr h
   have he:e=ns[i]:=by rw [List.getElem?_eq_getElem hlt] at h;exact (Option.some.inj h).symm
   subst he
   exact ⟨by rw [List.take_succ_eq_append_getElem hlt],by rw [List.drop_eq_getElem_cons hlt]⟩
  refine kW ?_
  refine zJ (m:=ns.length) (c:=ns.length) rfl rfl (by rfl) (Nat.le_refl _) (by omega) (by omega) rfl (fun kb=>?_)
  refine kW ?_
  refine zn (X:=Nat) (fun i=>[(0,.pointer (some ⟨p,0,none⟩)),(2,.slice (some ⟨kb,0,none⟩) ns.length ns.length),(14,.slice (some ⟨b,0,none⟩) ns.length cap),(15,.int .i64 (ns.length:Int)),(16,.int .i64 (i:Int))])
   (fun i=>[(kb,cl (fcl ((ns.take i).map (yG fs)) ((ns.take i).map (vAt vs))++zeros [.slice none 0 0,.int .i64 0] (ns.length - i)) 61)]::[(p,cl [.int .i64 (q:Int),fv,.slice (some ⟨b,0,none⟩) ns.length cap,dv,jv,.int .i64 left,.bool dead] 47)]::Cf::[(b,cl (ents (y7 0 (ns.take i)++ns.drop i)++rest) 95)]::L)
   (fun i=>i≤ns.length) (fun i=>ns.length - i) 0 (Nat.zero_le _) iS (fun w h=>?_) ?_
  ·simp [fcl,y7];exact h
  intro i hi
  (repeat' first|refine kW ?_|refine kU fun bk=>?_|refine kV fun hc=>?_|refine kZ (fun hc=>?_) fun hc=>?_|fail)
  ·have hlt:i < ns.length:=by omega
   obtain ⟨e,he⟩:∃e,ns[i]? =some e:=⟨ns[i],by simp [hlt]⟩
   obtain ⟨hs1,hs2⟩:=hsucc he
   have hef:e.file < fs.length:=hin e (List.mem_of_getElem? he)
   have hfi:fs[e.file]? =some (yG fs e):=by simp [yG,List.getD,List.getElem?_eq_getElem hef]
   have hvi:vs[e.file]? =some (vAt vs e):=by simp [vAt,List.getD,List.getElem?_eq_getElem (show e.file < vs.length by omega)]
   have hmix:(y7 0 (ns.take i)++ns.drop i)[i]? =some e:=by
    rw [List.getElem?_append_right (by rw [hrt i hi];exact Nat.le_refl _),hrt i hi,hs2];simp
   have hv1:(vAt vs e).oneCell'=true:=h1 _ (List.mem_of_getElem? hvi)
   rcases hf with ⟨rfl,hf0,_,rfl⟩|⟨fb,fcap,frest,rfl,rfl,hfl,hfr,hfm,hfc⟩
   ·omega
   ·refine ze (zh (j:=i) rfl rfl rfl hlt) rfl ?_
    refine kW ?_
    refine ze (zB rfl (znS (by repeat (first|assumption|exact Fnd.here|refine Fnd.there ?_)) hmix) rfl) rfl ?_
    (refine kW ?_;refine kU fun bk=>?_;refine kW ?_)
    refine zk [11] mixed ?_
    (refine za 0 ?_;refine za 1 ?_;refine za 2 ?_;refine za 3 ?_;refine za 4 ?_;refine za 5 ?_;refine za 6 ?_;refine za 7 ?_)
    refine cT 8 rfl rfl (zh (j:=e.file) rfl rfl rfl hef) ?_
    refine cT 9 rfl rfl (zB (vs:=[vAt vs e,.int .i64 ((yG fs e).synced:Int)]) rfl (.inr ⟨fb,e.file * 2,_,_,(0,0),rfl,(by repeat (first|assumption|exact Fnd.here|refine Fnd.there ?_)),fun j u hj=>?_⟩) rfl) ?_
    ·simp only [List.getElem?_toArray]
     match j,hj with
     |0,hj=>simp at hj;subst hj;exact z8 (Xt hfi hvi).1
     |1,hj=>simp at hj;subst hj;exact z8 (Xt hfi hvi).2
    refine cT 10 rfl rfl (zh (j:=i) rfl rfl rfl hlt) ?_
    refine cL 11 rfl rfl rfl ?_
    refine zo (fcl ((ns.take (i+1)).map (yG fs)) ((ns.take (i+1)).map (vAt vs))++zeros [.slice none 0 0,.int .i64 0] (ns.length - (i+1))) rfl rfl rfl (by simp only [ones,List.all_cons,hv1];rfl) ?_ iU ?_ ?_
    ·obtain ⟨q2,hq2⟩:∃q2,ns.length - i=q2+1:=⟨ns.length - (i+1),by omega⟩
     have hq3:ns.length - (i+1)=q2:=by omega
     rw [hq2,hq3]
     show patch (_++([Value.slice none 0 0,Value.int IntKind.i64 0]++zeros _ q2)) _ _=_
     rw [vZ (x:=[Value.slice none 0 0,Value.int IntKind.i64 0]) (by rw [hkl i hi]) (by rfl),hs1,List.map_append,List.map_append,Xr (by simp)]
     simp [fcl]
    ·simp only [List.length_append,hkl i hi,zeros_length,List.length_cons,List.length_nil];omega
    refine cD ?_
    refine kW ?_
    refine ze (zh (j:=i) rfl rfl rfl hlt) rfl ?_
    refine kW ?_
    refine zG (ents (y7 0 (ns.take (i+1))++ns.drop (i+1))++rest) rfl rfl rfl ?_ iU ?_ ?_
    ·have:=zaU (f:=i) hmix
     rw [List.set_append_left _ _ (by rw [yL,List.length_append,hrt i hi];simp;omega),this]
     congr 2
     rw [List.set_append_right _ _ (by rw [hrt i hi];exact Nat.le_refl _),hrt i hi,hs2,hs1,Qb]
     simp [y7]
     omega
    ·rw [List.length_append,yL,List.length_append,hrt i hi];simp;omega
    refine kW ?_
    refine zf (i+1) (by omega) (by omega) iS (fun w h=>iH h)
  ·have hin:i=ns.length:=by omega
   subst hin
   have hen:ents (y7 0 (ns.take ns.length)++ns.drop ns.length)=ents (y7 0 ns):=by simp
   have hel:(ents (y7 0 ns)).length=ns.length * 2:=by rw [yL,wN]
   have hkn:fcl ((ns.take ns.length).map (yG fs)) ((ns.take ns.length).map (vAt vs))++zeros [.slice none 0 0,.int .i64 0] (ns.length - ns.length)=fcl (ns.map (yG fs)) (ns.map (vAt vs))++[]:=by simp [zeros]
   rw [hen,hkn]
   refine qF rfl rfl rfl (zgA _ ns.length (ents (y7 0 ns)) _ (.inr ⟨_,_,rfl,zK.cl' (l:=ents (y7 0 ns)++rest) (by repeat (first|assumption|exact Fnd.here|refine Fnd.there ?_)) (by simp [cut]),hel⟩) (ZE _) (by omega)) rfl (fun r L' hp=>?_)
   obtain ⟨C',rfl,ho⟩:=hp
   refine kW ?_
   refine qL rfl rfl (uK ho) iU (by simp) ?_
   refine kW ?_
   refine kR ?_
   refine ⟨_::_::_::C'::L,iC,_,_,_,_,_,C',rfl,rfl,.inr ⟨kb,ns.length,[],rfl,rfl,?_,by simp,Nat.le_refl _,by simp only [maxLen];omega⟩,.inr ⟨b,cap,rest,rfl,rfl,hel,hrl,hmc,hcm⟩,ho⟩
   rw [Zg (by simp)];simp
omit [W0] in
def FSl (L:List Chunk) (v:Value) (fs:List Fi) (vs:List Value):Prop:=
 (v=.slice none 0 0∧fs=[])∨∃b cap rest,v=.slice (some ⟨b,0,none⟩) fs.length cap∧fs.length≤cap∧Fnd L b (cl (fcl fs vs++rest) 61)
omit [W0] in
structure See (L:List Chunk) (S:Fsy) (p:Nat) (fv nv dv jv:Value) (vs:List Value):Prop where
 h:Fnd L p (Qq S fv nv dv jv)
 f:FSl L fv S.files vs
 n:NSl L nv S.names
 lv:vs.length=S.files.length
 b:∀(i:Nat) (f:Fi),S.files[i]? =some f→∃v,vs[i]? =some v∧Sl L 1 v f.data.length (bsv f.data)∧v.oneCell'=true
 an:Asc S.names
 ln:S.names.length≤100000
 inn:∀e∈S.names,e.file < S.files.length
omit [W0] in
def lens (fs:List Fi) (es:List En):Nat:=(es.map fun e=>(yG fs e).data.length).sum
omit [W0] in
def Xh (S:Fsy):Nat:=lens S.files S.names
theorem QU {fs:List Fi} {a b:List En}:lens fs (a++b)=lens fs a+lens fs b:=by simp [lens]
theorem YI {L:List Chunk} {k:Nat} {v:Value} {m:Nat} {xs:List Value} (h:Sl L k v m xs):∃a c,v=.slice a m c:=by
 rcases h with ⟨c,rfl,rfl,rfl⟩|⟨a,cap,rfl,_⟩
 ·exact ⟨_,_,rfl⟩
 ·exact ⟨_,_,rfl⟩
theorem zqk (S:Fsy) (p:Nat) (fv nv dv jv:Value) (vs:List Value) (L:List Chunk) (hS:See L S p fv nv dv jv vs) (hu:Xh S≤1000000000000000) :
 GvP Tryz.prog 28 [.pointer (some ⟨p,0,none⟩)].toArray L (.int .i64 (Xh S:Int)):=by
 obtain ⟨q,fs,ns,ds,js,left,dead⟩:=S
 obtain ⟨hh,hf,hn,hlv,hb,han,hln,hin⟩:=hS
 refine Gv.of_body Tryz.func28 rfl rfl ?_
 simp only [Qq] at *
 have hun:Xh ⟨q,fs,ns,ds,js,left,dead⟩=lens fs ns:=rfl
 rw [hun] at hu ⊢
 rcases hn with ⟨rfl,rfl⟩|⟨b,cap,rest,rfl,hmc,hfn⟩
 ·refine kW ?_
  refine zn (X:=Unit) (fun _=>[(3,.int .i64 0),(10,.int .i64 0),(11,.int .i64 0)]) (fun _=>L) (fun _=>True) (fun _=>0) () trivial iS (fun w h=>h) ?_
  intro _ _
  refine kW ?_
  exact kE
 ·refine kW ?_
  refine zn (X:=Nat) (fun i=>[(0,.pointer (some ⟨p,0,none⟩)),(3,.int .i64 (lens fs (ns.take i):Int)),(9,.slice (some ⟨b,0,none⟩) ns.length cap),(10,.int .i64 (ns.length:Int)),(11,.int .i64 (i:Int))]) (fun _=>L) (fun i=>i≤ns.length) (fun i=>ns.length - i) 0 (Nat.zero_le _) iS (fun w h=>h) ?_
  intro i hi
  (repeat' first|refine kW ?_|refine kU fun bk=>?_|refine kV fun hc=>?_|refine kZ (fun hc=>?_) fun hc=>?_|fail)
  ·have hlt:i < ns.length:=by omega
   obtain ⟨e,he⟩:∃e,ns[i]? =some e:=⟨ns[i],by simp [hlt]⟩
   have he':ns[i]=e:=by rw [List.getElem?_eq_getElem hlt] at he;exact Option.some.inj he
   have hs1:ns.take (i+1)=ns.take i++[e]:=by rw [List.take_succ_eq_append_getElem hlt,he']
   have hef:e.file < fs.length:=hin e (List.mem_of_getElem? he)
   have hfi:fs[e.file]? =some (yG fs e):=by simp [yG,List.getD,List.getElem?_eq_getElem hef]
   obtain ⟨v,hvi,hsl,_⟩:=hb _ _ hfi
   obtain ⟨va,vc,rfl⟩:=YI hsl
   rcases hf with ⟨rfl,rfl⟩|⟨fb,fcap,frest,rfl,hfm,hff⟩
   ·simp at hef
   ·refine ze (zh (j:=i) rfl rfl rfl hlt) rfl ?_
    refine kW ?_
    refine ze (zB rfl (znS hfn he) rfl) rfl ?_
    (refine kW ?_;refine kU fun bk=>?_;refine kW ?_)
    have hsum:lens fs (ns.take (i+1))=lens fs (ns.take i)+(yG fs e).data.length:=by rw [hs1,QU];simp [lens]
    have hle:lens fs (ns.take (i+1))≤lens fs ns:=by
     have:lens fs ns=lens fs (ns.take (i+1))+lens fs (ns.drop (i+1)):=by rw [←QU,List.take_append_drop]
     omega
    refine zk [] mixed ?_
    (refine za 0 ?_;refine za 1 ?_;refine za 2 ?_;refine za 3 ?_;refine za 4 ?_;refine za 5 ?_;refine za 6 ?_)
    refine cT 7 rfl rfl (zh (j:=e.file) rfl rfl rfl hef) ?_
    (refine za 8 ?_)
    refine cT 9 rfl rfl (zy (v:=.slice va (yG fs e).data.length vc) rfl (by repeat (first|assumption|exact Fnd.here|refine Fnd.there ?_)) (by rw [yu];exact z8 (Xt hfi hvi).1)) ?_
    (refine za 10 ?_;refine za 11 ?_;refine za 12 ?_)
    refine cD ?_
    refine kW ?_
    refine zf (i+1) (by omega) (by omega) iS (fun w h=>iH h)
  ·have hie:i=ns.length:=by omega
   subst hie
   refine kR ?_
   refine ⟨_,iC,?_,rfl⟩
   simp [zV]
omit [W0] in
def zc5 (s pre:ByteArray):Bool:=decide (pre.size≤s.size)&&decide (s.extract 0 pre.size=pre)
theorem zpt (s pre:ByteArray) (L:List Chunk):GvP Tryz.prog 107 [.string s,.string pre].toArray L (.bool (zc5 s pre)):=by
 refine Gv.of_body Tryz.func107 rfl rfl ?_
 (repeat' first|refine kW ?_|refine kU fun bk=>?_|refine kV fun hc=>?_|refine kZ (fun hc=>?_) fun hc=>?_|fail)
 ·have hle:pre.size≤s.size:=by omega
  refine ze (QI (l:=0) (h:=pre.size) rfl rfl rfl (Nat.zero_le _) hle) rfl ?_
  refine kW ?_
  refine kR ?_
  exact ⟨_,iC,by simp [zV,zc5,hle],rfl⟩
 ·have hle:¬pre.size≤s.size:=by omega
  refine kR ?_
  exact ⟨_,iC,by simp [zV,zc5,hle],rfl⟩
theorem zps (s pre:ByteArray) (L:List Chunk):GvP Tryz.prog 72 [.string s,.string pre].toArray L (.bool (zc5 s pre)):=by
 refine Gv.of_body Tryz.func72 rfl rfl ?_
 refine kW ?_
 refine cP rfl rfl (zpt s pre _) ?_
 refine kW ?_
 exact kE
theorem wh {S:Fsy} {s:ByteArray} (h:zU S s=0):S.dead=false∧vK s=true∧has S.names s=true:=by
 unfold zU at h
 cases h1:S.dead<;>cases h2:vK s<;>cases h3:has S.names s<;>simp [h1,h2,h3] at h ⊢
theorem zp1 (S:Fsy) (p:Nat) (fv nv dv jv:Value) (vs:List Value) (s:ByteArray) (L:List Chunk) (hS:See L S p fv nv dv jv vs) (hbig:∀f∈S.files,f.data.length≤100000000) :
 Gv Tryz.prog 29 [.pointer (some ⟨p,0,none⟩),.string s].toArray L
  (fun r L'=>∃v C',r=.tuple #[v,.int .i64 (zU S s)]∧L'=C'::L∧(zU S s=0→Ow 5 1 v (yG S.files ⟨s,zP S.names s⟩).data.length (bsv (yG S.files ⟨s,zP S.names s⟩).data) C')∧(zU S s≠0→v=.slice none 0 0∧C'=[])):=by
 have hS':=hS
 obtain ⟨q,fs,ns,ds,js,left,dead⟩:=S
 obtain ⟨hh,hf,hn,hlv,hb,han,hln,hin⟩:=hS
 refine Gv.of_body Tryz.func29 rfl rfl ?_
 simp only [Qq] at hh hf hn hlv hb han hln hin hbig ⊢
 refine kW ?_
 refine cP rfl rfl (Qw ⟨q,fs,ns,ds,js,left,dead⟩ p fv nv dv jv s _ hS'.h hS'.n hS'.an hS'.ln) ?_
 have hpo:zU ⟨q,fs,ns,ds,js,left,dead⟩ s=0→Yh ⟨q,fs,ns,ds,js,left,dead⟩ s=zP ns s∧has ns s=true:=fun h0=>by
  exact ⟨by simp [Yh,h0],(wh h0).2.2⟩
 generalize zU ⟨q,fs,ns,ds,js,left,dead⟩ s=oe at *
 generalize Yh ⟨q,fs,ns,ds,js,left,dead⟩ s=on at *
 (repeat' first|refine kW ?_|refine kU fun bk=>?_|refine kV fun hc=>?_|refine kZ (fun hc=>?_) fun hc=>?_|fail)
 ·have h0:¬oe=0:=by assumption
  refine kH ?_
  exact ⟨[]::L,fun w h=>Holds.nil.2 h,_,[],rfl,rfl,fun h=>absurd h h0,fun _=>⟨rfl,rfl⟩⟩
 ·have h0:oe=0:=by omega
  obtain ⟨ho1,ho2⟩:=hpo h0
  subst ho1
  obtain ⟨g,hg,hfe,hlt⟩:=vJ han ho2
  have hef:zP ns s < fs.length:=by rw [hfe];exact hin _ (List.mem_of_getElem? hg)
  have hfi:fs[zP ns s]? =some (yG fs ⟨s,zP ns s⟩):=by simp [yG,List.getD,List.getElem?_eq_getElem hef]
  obtain ⟨v,hvi,hsl,_⟩:=hb _ _ hfi
  rcases hf with ⟨rfl,rfl⟩|⟨fb,fcap,frest,rfl,hfm,hff⟩
  ·simp at hef
  ·refine ze (zh (j:=zP ns s) rfl rfl rfl hef) rfl ?_
   refine kW ?_
   refine ze (zy (v:=v) rfl (by repeat (first|assumption|exact Fnd.here|refine Fnd.there ?_)) (by rw [yu];exact z8 (Xt hfi hvi).1)) rfl ?_
   refine kW ?_
   refine cC rfl rfl (zmP v _ _ _ hsl yj (hbig _ (List.mem_of_getElem? hfi))) (fun r L' hp=>?_)
   obtain ⟨C',rfl,ho⟩:=hp
   refine kW ?_
   refine kR ?_
   exact ⟨_,iC,r,C',by rw [h0];rfl,rfl,fun _=>ho,fun h=>absurd h0 h⟩
theorem zhE {α:Type} (P:α→Bool):∀(l:List α) (k:Nat) (e:α),k≤(l.takeWhile P).length→l[k]? =some e→(P e=true→k+1≤(l.takeWhile P).length∧(l.takeWhile P)[k]? =some e)∧(P e=false→(l.takeWhile P).length=k)
 |[],k,e,_,h=>by simp at h
 |x::r,0,e,_,h=>by
  simp at h;subst h
  constructor
  ·intro hp;simp [List.takeWhile_cons,hp]
  ·intro hp;simp [List.takeWhile_cons,hp]
 |x::r,k+1,e,hk,h=>by
  cases hp:P x with
  |false=>simp [List.takeWhile_cons,hp] at hk
  |true=>
   simp only [List.takeWhile_cons,hp,if_true,List.length_cons] at hk ⊢
   have ih:=zhE P r k e (by omega) (by simpa using h)
   exact ⟨fun he=>by have:=ih.1 he;simp;exact ⟨by omega,this.2⟩,fun he=>by have:=ih.2 he;omega⟩
theorem zoR {α:Type} (P:α→Bool) (l:List α):(l.takeWhile P).length≤l.length:=(List.takeWhile_prefix P).length_le
theorem zdA {α:Type} {l:List α} {k:Nat} {e:α} (h:l[k]? =some e):l.take (k+1)=l.take k++[e]:=by
 have hlt:k < l.length:=by
  rcases Nat.lt_or_ge k l.length with h'|h'
  ·exact h'
  ·simp [List.getElem?_eq_none h'] at h
 rw [List.getElem?_eq_getElem hlt] at h
 rw [List.take_succ_eq_append_getElem hlt,Option.some.inj h]
omit [W0] in
def zeW (es:List En):List Value:=es.map fun e=>.string e.name
omit [W0] in
def uH (es:List En) (pre:ByteArray):List En:=(es.drop (pos es pre)).takeWhile fun e=>zc5 e.name pre
omit [W0] in
def Xd (S:Fsy) (pre:ByteArray):List En:=if S.dead=true then [] else uH S.names pre
theorem zpC (S:Fsy) (p:Nat) (fv nv dv jv:Value) (vs:List Value) (pre:ByteArray) (L:List Chunk) (hS:See L S p fv nv dv jv vs) :
 Gv Tryz.prog 39 [.pointer (some ⟨p,0,none⟩),.string pre].toArray L
  (fun r L'=>∃C',L'=C'::L∧Ow 9 1 r (Xd S pre).length (zeW (Xd S pre)) C'):=by
 obtain ⟨q,fs,ns,ds,js,left,dead⟩:=S
 obtain ⟨hh,hf,hn,hlv,hb,han,hln,hin⟩:=hS
 refine Gv.of_body Tryz.func39 rfl rfl ?_
 simp only [Qq] at *
 cases dead
 ·refine kW ?_
  refine cP rfl rfl (zc2 nv ns pre _ hn han (by omega)) ?_
  refine kW ?_
  have hpl:=uf ns pre
  have hlist:Xd ⟨q,fs,ns,ds,js,left,false⟩ pre=uH ns pre:=by simp [Xd]
  rw [hlist]
  refine qP (L':=[]::L) (fun w h=>Holds.nil.2 h) ?_
  refine zn (X:=Nat × Value × Chunk) (fun x=>[(0,.pointer (some ⟨p,0,none⟩)),(1,.string pre),(5,x.2.1),(6,.int .i64 ((pos ns pre+x.1:Nat):Int))]) (fun x=>x.2.2::L)
   (fun x=>pos ns pre+x.1≤ns.length∧x.1≤(uH ns pre).length∧Ow 9 1 x.2.1 x.1 (zeW ((uH ns pre).take x.1)) x.2.2) (fun x=>ns.length - (pos ns pre+x.1)) (0,.slice none 0 0,[]) ⟨hpl,Nat.zero_le _,.inl ⟨rfl,rfl,rfl,rfl⟩⟩ iS (fun w h=>h) ?_
  rintro ⟨k,lv,C⟩ ⟨hk1,hk2,ho⟩
  simp only at hk1 hk2 ho
  have hdr1:∀e,ns[pos ns pre+k]? =some e→(ns.drop (pos ns pre)).drop k=e::ns.drop (pos ns pre+k+1):=fun e he=>by
   have hlt:pos ns pre+k < ns.length:=by
    rcases Nat.lt_or_ge (pos ns pre+k) ns.length with h'|h'
    ·exact h'
    ·simp [List.getElem?_eq_none h'] at he
   rw [List.drop_drop,List.drop_eq_getElem_cons hlt]
   rw [List.getElem?_eq_getElem hlt] at he
   rw [Option.some.inj he]
  rcases hn with ⟨rfl,rfl⟩|⟨b,cap,rest,rfl,hmc,hfn⟩
  ·refine kW ?_
   refine kR ?_
   have:k=0:=by simp at hk1;omega
   subst this
   exact ⟨_,iC,C,rfl,by simpa [uH,zV] using ho⟩
  ·(repeat' first|refine kW ?_|refine kU fun bk=>?_|refine kV fun hc=>?_|refine kZ (fun hc=>?_) fun hc=>?_|fail)
   ·have hlt:pos ns pre+k < ns.length:=by omega
    obtain ⟨e,he⟩:∃e,ns[pos ns pre+k]? =some e:=⟨ns[pos ns pre+k],by simp [hlt]⟩
    have htw:=zhE (fun e:En=>zc5 e.name pre) (ns.drop (pos ns pre)) k e hk2 (by rw [List.getElem?_drop];exact he)
    refine ze (zh (j:=pos ns pre+k) rfl rfl rfl hlt) rfl ?_
    refine kW ?_
    refine ze (zy (v:=.string e.name) rfl (by repeat (first|assumption|exact Fnd.here|refine Fnd.there ?_)) (by rw [yu];exact z8 (YZ he).1)) rfl ?_
    refine kW ?_
    refine cP rfl rfl (zps e.name pre _) ?_
    cases hpx:zc5 e.name pre
    ·refine kW ?_
     refine kR ?_
     refine ⟨_,iC,C,rfl,?_⟩
     have hle:=htw.2 hpx
     have:uH ns pre=(uH ns pre).take k:=(List.take_of_length_le (by unfold uH;omega)).symm
     rw [this]
     have hl2:((uH ns pre).take k).length=k:=by rw [←this];exact hle
     rw [hl2];exact ho
    ·refine kW ?_
     refine ze (zh (j:=pos ns pre+k) rfl rfl rfl hlt) rfl ?_
     refine kW ?_
     refine ze (zy (v:=.string e.name) rfl (by repeat (first|assumption|exact Fnd.here|refine Fnd.there ?_)) (by rw [yu];exact z8 (YZ he).1)) rfl ?_
     refine kW ?_
     refine zl (cs:=[.string e.name]) rfl (by rfl) (by simp [zA,patch,Value.cells,zeros]) (by omega) rfl rfl (fun bn=>?_)
     refine kW ?_
     have hlen:(uH ns pre).length≤ns.length:=by unfold uH;have:=zoR (fun e:En=>zc5 e.name pre) (ns.drop (pos ns pre));simp at this;omega
     refine zu rfl rfl ho (c:=1) (ys:=[.string e.name]) (.inr ⟨_,_,rfl,zK.cl' (off:=0) (by repeat (first|assumption|exact Fnd.here|refine Fnd.there ?_)) rfl,rfl⟩) (by repeat (first|exact Zip.here _|apply Zip.there)) (by rfl) rfl (by omega) (by simp only [maxLen];omega) rfl (fun v' C' ho2 hn1 hn2=>?_)
     refine kW ?_
     refine zf (k+1,v',C') (by simp only;omega) ⟨by simp only;omega,(htw.1 hpx).1,?_⟩ iS (fun w h=>iH h)
     have:=zdA (htw.1 hpx).2
     simp only
     rw [show (uH ns pre).take (k+1)=(uH ns pre).take k++[e] from this]
     simpa [zeW] using ho2
   ·refine kR ?_
    refine ⟨_,iC,C,rfl,?_⟩
    have hle:(uH ns pre).length=k:=by
     have:=zoR (fun e:En=>zc5 e.name pre) (ns.drop (pos ns pre))
     simp only [List.length_drop] at this
     unfold uH at hk2 ⊢
     omega
    have:uH ns pre=(uH ns pre).take k:=(List.take_of_length_le (by omega)).symm
    rw [hle,this];exact ho
 ·refine kW ?_
  refine kH ?_
  exact ⟨[]::L,fun w h=>Holds.nil.2 h,[],rfl,.inl ⟨rfl,by simp [Xd],by simp [Xd,zeW],rfl⟩⟩
theorem zkE {es:List En} {i:Nat} {e x:En}:x∈Z5 es i e↔x=e∨x∈es:=by
 unfold Z5
 rw [List.mem_append,List.mem_cons]
 constructor
 ·rintro (h|h|h)
  ·exact .inr (List.mem_of_mem_take h)
  ·exact .inl h
  ·exact .inr (List.mem_of_mem_drop h)
 ·rintro (h|h)
  ·exact .inr (.inl h)
  ·rw [←List.take_append_drop i es,List.mem_append] at h
   rcases h with h|h
   ·exact .inl h
   ·exact .inr (.inr h)
theorem zaH:∀{a b:List En},Asc a→Asc b→(∀x∈a,∀y∈b,uF x.name y.name < 0)→Asc (a++b)
 |[],b,_,hb,_=>hb
 |e::r,b,ha,hb,h=>by
  refine ⟨fun x hx=>?_,zaH ha.2 hb (fun x hx=>h x (by simp [hx]))⟩
  rcases List.mem_append.1 hx with h2|h2
  ·exact ha.1 x h2
  ·exact h e (by simp) x h2
theorem zdS:∀{es:List En} (i:Nat),Asc es→Asc (es.take i)
 |[],i,_=>by simp [Asc]
 |e::r,0,_=>by simp [Asc]
 |e::r,i+1,h=>by
  simp only [List.take_succ_cons]
  exact ⟨fun x hx=>h.1 x (List.mem_of_mem_take hx),zdS i h.2⟩
theorem zbT:∀{es:List En} (i:Nat),Asc es→Asc (es.drop i)
 |[],i,_=>by simp [Asc]
 |e::r,0,h=>by simpa using h
 |e::r,i+1,h=>by simpa using zbT i h.2
theorem zde {es:List En} {i:Nat} {x:En} (h:x∈es.take i):∃k,k < i∧es[k]? =some x:=by
 obtain ⟨k,hk⟩:=List.getElem?_of_mem h
 rw [List.getElem?_take] at hk
 split at hk
 ·exact ⟨k,by assumption,hk⟩
 ·simp at hk
theorem X7 {es:List En} {i:Nat} {x:En} (h:x∈es.drop i):∃k,i≤k∧es[k]? =some x:=by
 obtain ⟨k,hk⟩:=List.getElem?_of_mem h
 rw [List.getElem?_drop] at hk
 exact ⟨i+k,by omega,hk⟩
theorem zh2 {es:List En} {s:ByteArray} (h:has es s=false) {e:En} (he:e∈es):e.name≠s:=by
 intro hn
 have:has es s=true:=by unfold has;rw [List.any_eq_true];exact ⟨e,he,by simpa using hn⟩
 rw [h] at this;cases this
theorem zmE {es:List En} (s:ByteArray) (f:Nat) (ha:Asc es):Asc (YC es s f):=by
 unfold YC
 split
 ·rename_i hh
  obtain ⟨g,hg,_,hlt⟩:=vJ ha hh
  have key:∀(l:List En) (i:Nat) (e e':En),l[i]? =some e→e.name=e'.name→Asc l→Asc (l.set i e'):=by
   intro l
   induction l with
   |nil=>intro i e e' h;simp at h
   |cons x r ih=>
    intro i e e' h hn hl
    cases i with
    |zero=>
     simp at h;subst h
     exact ⟨fun y hy=>by rw [←hn];exact hl.1 y hy,hl.2⟩
    |succ i=>
     simp only [List.set_cons_succ]
     refine ⟨fun y hy=>?_,ih i e e' (by simpa using h) hn hl.2⟩
     rcases List.mem_or_eq_of_mem_set hy with h2|h2
     ·exact hl.1 y h2
     ·subst h2
      rw [←hn];exact hl.1 e (List.mem_of_getElem? (by simpa using h))
  exact key _ _ _ _ hg rfl ha
 ·rename_i hh
  have hh':has es s=false:=by simpa using hh
  unfold Z5
  refine zaH (zdS _ ha) ⟨fun y hy=>?_,zbT _ ha⟩ (fun x hx y hy=>?_)
  ·obtain ⟨k,hk,hky⟩:=X7 hy
   have h1:¬uF y.name s < 0:=fun h=>by have:=(YB (s:=s) ha hky).1 h;omega
   have h2:uF y.name s≠0:=fun h=>zh2 hh' (List.mem_of_getElem? hky) (X5.1 h)
   rw [zel];simp only;omega
  ·obtain ⟨k,hk,hkx⟩:=zde hx
   have h1:uF x.name s < 0:=(YB (s:=s) ha hkx).2 hk
   rcases List.mem_cons.1 hy with h2|h2
   ·subst h2;exact h1
   ·obtain ⟨j,hj,hjy⟩:=X7 h2
    exact YV ha (by omega) hkx hjy
theorem zfW {es:List En} {s:ByteArray} {f:Nat}:(YC es s f).length≤es.length+1:=by
 unfold YC Z5
 split
 ·simp
 ·simp;omega
theorem znw {es:List En} {s:ByteArray} {f:Nat} {x:En} (h:x∈YC es s f):x=⟨s,f⟩∨x∈es:=by
 unfold YC at h
 split at h
 ·rcases List.mem_or_eq_of_mem_set h with h2|h2
  ·exact .inr h2
  ·exact .inl h2
 ·exact zkE.1 h
theorem zic {es:List En} {s:ByteArray} {f:Nat} (hn:(es.map En.file).Nodup) (hf:f∉es.map En.file):((YC es s f).map En.file).Nodup:=by
 unfold YC
 split
 ·rw [List.map_set]
  have key:∀(l:List Nat) (i:Nat),l.Nodup→f∉l→(l.set i f).Nodup:=by
   intro l
   induction l with
   |nil=>intro i _ _;simp
   |cons x r ih=>
    intro i hl hf
    simp only [List.nodup_cons,List.mem_cons,not_or] at hl hf
    cases i with
    |zero=>simp only [List.set_cons_zero,List.nodup_cons];exact ⟨hf.2,hl.2⟩
    |succ i=>
     simp only [List.set_cons_succ,List.nodup_cons]
     refine ⟨fun hm=>?_,ih i hl.2 hf.2⟩
     rcases List.mem_or_eq_of_mem_set hm with h2|h2
     ·exact hl.1 h2
     ·exact hf.1 h2.symm
  exact key _ _ hn hf
 ·unfold Z5
  rw [List.map_append,List.map_cons]
  have hsp:es.map En.file=(es.take (pos es s)).map En.file++(es.drop (pos es s)).map En.file:=by rw [←List.map_append,List.take_append_drop]
  rw [hsp] at hn hf
  have hp:((es.take (pos es s)).map En.file++f::(es.drop (pos es s)).map En.file).Perm (f::((es.take (pos es s)).map En.file++(es.drop (pos es s)).map En.file)):=List.perm_middle
  exact hp.nodup_iff.2 (List.nodup_cons.2 ⟨hf,hn⟩)
theorem zia {es:List En} {s:ByteArray} {x:En} (h:x∈uE es s):x∈es:=List.mem_of_mem_eraseIdx h
theorem drop_length {es:List En} {s:ByteArray}:(uE es s).length≤es.length:=List.length_eraseIdx_le _ _
theorem Xe {α β:Type} (f:α→β):∀(l:List α) (i:Nat),(l.eraseIdx i).map f=(l.map f).eraseIdx i
 |[],i=>by simp
 |x::r,0=>by simp
 |x::r,i+1=>by simp [Xe f r i]
theorem zfM {es:List En} {s:ByteArray} (hn:(es.map En.file).Nodup):((uE es s).map En.file).Nodup:=by
 unfold uE
 rw [Xe]
 exact hn.sublist (List.eraseIdx_sublist _ _)
theorem zbI {es:List En} {s:ByteArray} (ha:Asc es) (hh:has es s=true) (hn:(es.map En.file).Nodup):zP es s∉(uE es s).map En.file:=by
 obtain ⟨g,hg,hfe,hlt⟩:=vJ ha hh
 rw [hfe]
 unfold uE
 rw [List.eraseIdx_eq_take_drop_succ,List.map_append,List.mem_append]
 have hsp:es=es.take (pos es s)++⟨s,g⟩::es.drop (pos es s+1):=by
  have h2:es[pos es s]=⟨s,g⟩:=by rw [List.getElem?_eq_getElem hlt] at hg;exact Option.some.inj hg
  rw [←h2,←List.drop_eq_getElem_cons hlt,List.take_append_drop]
 have hn2:(((es.take (pos es s)).map En.file)++g::(es.drop (pos es s+1)).map En.file).Nodup:=by
  have:=congrArg (List.map En.file) hsp
  rw [List.map_append,List.map_cons] at this
  rw [←this];exact hn
 have hn3:=(List.perm_middle.nodup_iff).1 hn2
 simp only [List.nodup_cons,List.mem_append,not_or] at hn3
 intro h
 rcases h with h|h
 ·exact hn3.1.1 h
 ·exact hn3.1.2 h
omit [W0] in
structure WN (F m:Nat) (es:List En):Prop where
 asc:Asc es
 len:es.length≤m
 inn:∀e∈es,e.file < F
 dist:(es.map En.file).Nodup
theorem WN.mono {F m F' m':Nat} {es:List En} (h:WN F m es) (hF:F≤F') (hm:m≤m'):WN F' m' es:=
 ⟨h.asc,Nat.le_trans h.len hm,fun e he=>Nat.lt_of_lt_of_le (h.inn e he) hF,h.dist⟩
theorem zjQ {F m:Nat} {es:List En} {s:ByteArray} (h:WN F m es) (hh:has es s=true):zP es s < F:=by
 obtain ⟨g,hg,hfe,hlt⟩:=vJ h.asc hh
 rw [hfe];exact h.inn _ (List.mem_of_getElem? hg)
theorem zoj {F m:Nat} {es:List En} (s:ByteArray) (h:WN F m es):WN F m (uE es s):=
 ⟨zdR s h.asc,Nat.le_trans drop_length h.len,fun e he=>h.inn e (zia he),zfM h.dist⟩
theorem zma {F m:Nat} {es:List En} (s:ByteArray) {f:Nat} (h:WN F m es) (hf:f < F) (hn:f∉es.map En.file):WN F (m+1) (YC es s f):=
 ⟨zmE s f h.asc,Nat.le_trans zfW (by have:=h.len;omega),fun e he=>by
   rcases znw he with h2|h2
   ·subst h2;exact hf
   ·exact h.inn e h2,zic h.dist hn⟩
theorem zrl {F m:Nat} {es:List En} {a:ByteArray} (b:ByteArray) (h:WN F m es) (hh:has es a=true):WN F (m+1) (vk es (.rn a b)):=
 zma b (zoj a h) (zjQ h hh) (zbI h.asc hh h.dist)
omit [W0] in
def Rp (F m:Nat):List En→List Ch→List En→Prop
 |ds,[],ns=>ds=ns∧WN F m ds
 |ds,c::j,ns=>zmL ds c=true∧WN F m ds∧Rp F m (vk ds c) j ns
theorem Rp.mono {F m F' m':Nat} (hF:F≤F') (hm:m≤m'):∀{ds:List En} {j:List Ch} {ns:List En},Rp F m ds j ns→Rp F' m' ds j ns
 |_,[],_,h=>⟨h.1,h.2.mono hF hm⟩
 |_,_::_,_,h=>⟨h.1,h.2.1.mono hF hm,Rp.mono hF hm h.2.2⟩
theorem Rp.snoc {F m:Nat} {c:Ch}:∀{ds:List En} {j:List Ch} {ns:List En},Rp F m ds j ns→zmL ns c=true→WN F m (vk ns c)→Rp F m ds (j++[c]) (vk ns c)
 |_,[],_,h,hc,hw=>by obtain ⟨h1,h2⟩:=h;subst h1;exact ⟨hc,h2,rfl,hw⟩
 |_,_::_,_,h,hc,hw=>⟨h.1,h.2.1,Rp.snoc h.2.2 hc hw⟩
theorem Rp.now {F m:Nat}:∀{ds:List En} {j:List Ch} {ns:List En},Rp F m ds j ns→WN F m ns
 |_,[],_,h=>by obtain ⟨h1,h2⟩:=h;subst h1;exact h2
 |_,_::_,_,h=>Rp.now h.2.2
omit [W0] in
structure Good (S:Fsy) (m:Nat):Prop where
 rp:Rp S.files.length m S.durable S.journal S.names
 lf:S.files.length≤m
 lj:S.journal.length≤m
 m:m≤90000
 q:S.quota≤16777216
 left: -9223372036854775808≤S.left∧S.left≤9223372036854775807
 dl:∀f∈S.files,f.data.length≤S.quota∧f.synced≤f.data.length
omit [W0] in
def Zd (S:Fsy) (p:Nat) (C:Chunk):Prop:=∃fv nv dv jv vs Cs Cf Cn Cd Cj,
 C=hdr S p fv nv dv jv++(Cf++(Cn++(Cd++(Cj++Cs.flatten))))∧Ow 61 2 fv S.files.length (fcl S.files vs) Cf∧FR S.files vs Cs∧
 Ow 95 2 nv S.names.length (ents S.names) Cn∧Ow 95 2 dv S.durable.length (ents S.durable) Cd∧Ow 97 1 jv S.journal.length (S.journal.map chV) Cj
theorem six {w:World} {A B C D E F:Chunk} {L:List Chunk}:Holds w ((A++(B++(C++(D++(E++F)))))::L)↔Holds w (A::B::C::D::E::F::L):=by
 simp [Holds,List.append_assoc]
theorem zm {L:List Chunk} {C:Chunk} {k m:Nat} {v:Value} {xs:List Value} (h:Sl L k v m xs):Sl (C::L) k v m xs:=by
 rcases h with h|⟨a,cap,e1,h5,h6⟩
 ·exact .inl h
 ·refine .inr ⟨a,cap,e1,?_,h6⟩
  rcases h5 with h|⟨b,off,c,T,fr,e2,h7,h8⟩
  ·exact .inl h
  ·exact .inr ⟨b,off,c,T,fr,e2,h7.there,h8⟩
theorem zof {S:Fsy} {m:Nat} (h:Good S m):Xh S≤1600000000000:=by
 have hw:=h.rp.now
 have key:∀es:List En,(∀e∈es,e.file < S.files.length)→lens S.files es≤es.length * 16777216:=by
  intro es
  induction es with
  |nil=>intro _;simp [lens]
  |cons e r ih=>
   intro hin
   have h1:=ih (fun x hx=>hin x (by simp [hx]))
   have he:=hin e (by simp)
   have h2:(yG S.files e).data.length≤16777216:=by
    have:yG S.files e∈S.files:=by
     have:S.files[e.file]? =some (yG S.files e):=by simp [yG,List.getD,List.getElem?_eq_getElem he]
     exact List.mem_of_getElem? this
    have h3:=(h.dl _ this).1
    have:=h.q;omega
   have:lens S.files (e::r)=(yG S.files e).data.length+lens S.files r:=by simp [lens]
   rw [this];simp only [List.length_cons];omega
 have h1:=key S.names hw.inn
 have h2:=hw.len
 have h3:=h.m
 have h4:S.names.length * 16777216≤90000 * 16777216:=Nat.mul_le_mul_right _ (by omega)
 unfold Xh
 omega
theorem FR.split {fs:List Fi} {vs:List Value} {Cs:List Chunk} {i:Nat} {f:Fi} (h:FR fs vs Cs) (hi:fs[i]? =some f) :
 ∃v C D1 D2,vs[i]? =some v∧Ow 5 1 v f.data.length (bsv f.data) C∧Cs.flatten=D1++(C++D2)∧
  ∀f' v' C',Ow 5 1 v' f'.data.length (bsv f'.data) C'→∃Cs',FR (fs.set i f') (vs.set i v') Cs'∧Cs'.flatten=D1++(C'++D2):=by
 obtain ⟨v,C,h1,h2,h3⟩:=h.at_ i f hi
 have hlt:i < Cs.length:=by
  rcases Nat.lt_or_ge i Cs.length with h'|h'
  ·exact h'
  ·simp [List.getElem?_eq_none h'] at h2
 have hC:Cs[i]=C:=by rw [List.getElem?_eq_getElem hlt] at h2;exact Option.some.inj h2
 refine ⟨v,C,(Cs.take i).flatten,(Cs.drop (i+1)).flatten,h1,h3,?_,fun f' v' C' ho=>⟨Cs.set i C',⟨by simp [h.lv],by simp [h.lc],fun j g hj=>?_⟩,?_⟩⟩
 ·conv=>lhs;rw [←List.take_append_drop i Cs,List.drop_eq_getElem_cons hlt,hC]
  simp
 ·by_cases hij:i=j
  ·subst hij
   have hfl:i < fs.length:=by rw [←h.lc];exact hlt
   rw [List.getElem?_set_self hfl] at hj
   cases hj
   exact ⟨v',C',by rw [List.getElem?_set_self (by rw [h.lv];exact hfl)],by rw [List.getElem?_set_self hlt],ho⟩
  ·rw [List.getElem?_set_ne hij] at hj
   obtain ⟨u,D,a1,a2,a3⟩:=h.at_ j g hj
   exact ⟨u,D,by rw [List.getElem?_set_ne hij];exact a1,by rw [List.getElem?_set_ne hij];exact a2,a3⟩
 ·rw [List.set_eq_take_append_cons_drop,if_pos hlt]
  simp
theorem zb8:∀{fs:List Fi} {vs:List Value} {i:Nat} {f:Fi} {v':Value} {d:List UInt8},fs[i]? =some f→vs.length=fs.length→(fcl fs vs).set (i * 2) v'=fcl (fs.set i ⟨d,f.synced⟩) (vs.set i v')
 |[],_,_,_,_,_,h,_=>by simp at h
 |_::_,[],_,_,_,_,_,h=>by simp at h
 |g::fs,u::vs,0,f,v',d,h,_=>by simp at h;subst h;simp [fcl]
 |g::fs,u::vs,i+1,f,v',d,h,hl=>by
  have:=zb8 (fs:=fs) (vs:=vs) (i:=i) (f:=f) (v':=v') (d:=d) (by simpa using h) (by simpa using hl)
  rw [show (i+1) * 2=i * 2+1+1 from by omega]
  simp [fcl,this]
theorem zb7:∀{fs:List Fi} {vs:List Value} {i:Nat} {f:Fi} {n:Nat},fs[i]? =some f→vs.length=fs.length→(fcl fs vs).set (i * 2+1) (.int .i64 (n:Int))=fcl (fs.set i ⟨f.data,n⟩) vs
 |[],_,_,_,_,h,_=>by simp at h
 |_::_,[],_,_,_,_,h=>by simp at h
 |g::fs,u::vs,0,f,n,h,_=>by simp at h;subst h;simp [fcl]
 |g::fs,u::vs,i+1,f,n,h,hl=>by
  have:=zb7 (fs:=fs) (vs:=vs) (i:=i) (f:=f) (n:=n) (by simpa using h) (by simpa using hl)
  rw [show (i+1) * 2+1=i * 2+1+1+1 from by omega]
  simp [fcl,this]
theorem zlx {α:Type} {l:List α} {i:Nat} {a:α} (h:l[i]? =some a):l.set i a=l:=by
 have hlt:i < l.length:=by
  rcases Nat.lt_or_ge i l.length with h'|h'
  ·exact h'
  ·simp [List.getElem?_eq_none h'] at h
 rw [List.getElem?_eq_getElem hlt] at h
 rw [←Option.some.inj h];simp
theorem Qy {S:Fsy} {p m:Nat} {fv nv dv jv:Value} {vs:List Value} {Cs:List Chunk} {Cf Cn Cd Cj:Chunk} {L:List Chunk} (hG:Good S m)
 (hf:Ow 61 2 fv S.files.length (fcl S.files vs) Cf) (hr:FR S.files vs Cs) (hn:Ow 95 2 nv S.names.length (ents S.names) Cn) :
 See (hdr S p fv nv dv jv::Cf::Cn::Cd::Cj::Cs.flatten::L) S p fv nv dv jv vs:=by
 have hw:=hG.rp.now
 refine ⟨Fnd.here,?_,zcj (zcj (zfO hn)),hr.lv,fun i f hi=>?_,hw.asc,by have:=hw.len;have:=hG.m;omega,hw.inn⟩
 ·rcases hf with ⟨rfl,h0,h1,rfl⟩|⟨b,cap,rest,rfl,rfl,hxl,hrl,hmc,hcm⟩
  ·exact .inl ⟨rfl,List.eq_nil_of_length_eq_zero h0⟩
  ·exact .inr ⟨b,cap,rest,rfl,hmc,Fnd.here.there⟩
 ·obtain ⟨v,C,h1,h2,h3⟩:=hr.at_ i f hi
  refine ⟨v,h1,?_,uK h3⟩
  have h4:=qz (L:=[]) h3
  rcases h4 with h|⟨a,cap,e1,h5,h6⟩
  ·exact .inl h
  ·refine .inr ⟨a,cap,e1,?_,h6⟩
   rcases h5 with h|⟨b,off,c,T,fr,e2,h7,h8⟩
   ·exact .inl h
   ·refine .inr ⟨b,off,c,T,fr,e2,?_,h8⟩
    have hm:(b,Obj.cells c T fr)∈C:=by simpa [Fnd] using h7
    refine Fnd.there (Fnd.there (Fnd.there (Fnd.there (Fnd.there (Fnd.mem ?_)))))
    exact List.mem_flatten.2 ⟨C,List.mem_of_getElem? h2,hm⟩
omit [W0] in
def qh (S:Fsy) (s:ByteArray):Int × Fsy:=
 if zU S s=0 then (64,S) else if zU S s≠61 then (zU S s,S) else
 if zW S≠0 then (zW S,zS S) else
 (0,{ zS S with files:=S.files++[⟨[],0⟩],names:=vk S.names (.cr s S.files.length),journal:=S.journal++[.cr s S.files.length] })
theorem zfP {S:Fsy} {s:ByteArray} (h:zU S s=61):S.dead=false∧vK s=true∧has S.names s=false:=by
 unfold zU at h
 cases h1:S.dead<;>cases h2:vK s<;>cases h3:has S.names s<;>simp [h1,h2,h3] at h ⊢
theorem Zu {s:ByteArray} (h:vK s=true):1≤s.size∧s.size≤200:=by
 simp [vK] at h;exact ⟨h.1.1,h.1.2⟩
theorem qc (S:Fsy):(zS S).files=S.files∧(zS S).names=S.names∧(zS S).durable=S.durable∧(zS S).journal=S.journal∧(zS S).quota=S.quota:=by
 unfold zS;(repeat' split)<;>exact ⟨rfl,rfl,rfl,rfl,rfl⟩
theorem zjy (S:Fsy) (p m:Nat) (s:ByteArray) (C:Chunk) (L:List Chunk) (hA:Zd S p C) (hG:Good S m) :
 Gv Tryz.prog 9 [.pointer (some ⟨p,0,none⟩),.string s].toArray (C::L)
  (fun r L'=>∃C',r=.int .i64 (qh S s).1∧L'=C'::L∧Zd (qh S s).2 p C'):=by
 obtain ⟨fv,nv,dv,jv,vs,Cs,Cf,Cn,Cd,Cj,rfl,hf,hr,hn,hd,hj⟩:=hA
 refine Gv.holds (L':=hdr S p fv nv dv jv::Cf::Cn::Cd::Cj::Cs.flatten::L) ?_ (fun w h=>six.1 h)
 refine Gv.of_body Tryz.func9 rfl rfl ?_
 refine kW ?_
 have hS:=Qy (p:=p) (dv:=dv) (jv:=jv) (Cd:=Cd) (Cj:=Cj) (L:=L) hG hf hr hn
 refine cP rfl rfl (Qw S p fv nv dv jv s _ hS.h hS.n hS.an hS.ln) ?_
 have hL:∀w,Holds w (hdr S p fv nv dv jv::Cf::Cn::Cd::Cj::Cs.flatten::L)→Holds w ((hdr S p fv nv dv jv++(Cf++(Cn++(Cd++(Cj++Cs.flatten)))))::L):=fun w h=>six.2 h
 (repeat' first|refine kW ?_|refine kU fun bk=>?_|refine kV fun hc=>?_|refine kZ (fun hc=>?_) fun hc=>?_|fail)
 ·have h0:zU S s=0:=by assumption
  refine kH ?_
  exact ⟨_,hL,_,by simp [qh,h0];rfl,rfl,fv,nv,dv,jv,vs,Cs,Cf,Cn,Cd,Cj,by simp [qh,h0],by simpa [qh,h0] using hf,by simpa [qh,h0] using hr,by simpa [qh,h0] using hn,by simpa [qh,h0] using hd,by simpa [qh,h0] using hj⟩
 ·have h0:¬zU S s=0:=by assumption
  have h1:¬zU S s=61:=by assumption
  have hc:qh S s=(zU S s,S):=by simp [qh,h0,h1]
  refine kH ?_
  rw [hc]
  exact ⟨_,hL,_,rfl,rfl,fv,nv,dv,jv,vs,Cs,Cf,Cn,Cd,Cj,rfl,hf,hr,hn,hd,hj⟩
 ·have h0:¬zU S s=0:=by assumption
  have h1:zU S s=61:=by omega
  obtain ⟨_,hok,hno⟩:=zfP h1
  obtain ⟨e1,e2,e3,e4,e5⟩:=qc S
  refine cC rfl rfl (Y9 S p fv nv dv jv _ hG.left) (fun r L' hp=>?_)
  obtain ⟨rfl,rfl⟩:=hp
  (repeat' first|refine kW ?_|refine kU fun bk=>?_|refine kV fun hc=>?_|refine kZ (fun hc=>?_) fun hc=>?_|fail)
  ·have h2:¬zW S=0:=by assumption
   have hc:qh S s=(zW S,zS S):=by simp [qh,h0,h1,h2]
   refine kH ?_
   rw [hc]
   exact ⟨_,fun w h=>six.2 h,_,rfl,rfl,fv,nv,dv,jv,vs,Cs,Cf,Cn,Cd,Cj,rfl,by rw [e1];exact hf,by rw [e1];exact hr,by rw [e2];exact hn,by rw [e3];exact hd,by rw [e4];exact hj⟩
  ·have h2:zW S=0:=by omega
   have hc:qh S s=(0,{ zS S with files:=S.files++[⟨[],0⟩],names:=vk S.names (.cr s S.files.length),journal:=S.journal++[.cr s S.files.length] }):=by simp [qh,h0,h1,h2]
   refine zl (cs:=[.slice none 0 0,.int .i64 0]) rfl (by rfl) (by simp [zA,patch,Value.cells,zeros]) (by omega) rfl rfl (fun bn=>?_)
   refine kW ?_
   have hlf:=hG.lf
   have hgm:=hG.m
   refine zu rfl rfl hf (c:=1) (ys:=[.slice none 0 0,.int .i64 0]) (.inr ⟨_,_,rfl,zK.cl' (off:=0) (by repeat (first|assumption|exact Fnd.here|refine Fnd.there ?_)) rfl,rfl⟩) (by repeat (first|exact Zip.here _|apply Zip.there)) (by rfl) rfl (by omega) (by simp only [maxLen];omega) rfl (fun fv' Cf' ho hn1 hn2=>?_)
   obtain ⟨fa,fc,rfl⟩:=zM ho
   refine kW ?_
   have hsz:=Zu hok
   have hnow:=hG.rp.now
   have hlj:=hG.lj
   refine qP (L':=hdr { zS S with files:=S.files++[⟨[],0⟩] } p (.slice fa (S.files.length+1) fc) nv dv jv::Cf'::Cn::Cd::Cj::Cs.flatten::L) (fun w h=>iH h) ?_
   refine zk [11] mixed ?_
   (refine za 0 ?_;refine za 1 ?_;refine za 3 ?_;refine za 4 ?_;refine za 5 ?_;refine za 6 ?_;refine za 7 ?_;refine za 8 ?_)
   rw [show ((S.files.length+1:Nat):Int) - 1=(S.files.length:Int) from by omega]
   refine cI 2 rfl rfl ?_
   refine cP rfl rfl (zal s _ (by omega)) ?_
   refine ⟨iC,?_⟩
   (refine za 9 ?_;refine za 10 ?_)
   refine cL 11 rfl rfl rfl ?_
   refine cC rfl rfl (Gv.holds (zfN { zS S with files:=S.files++[⟨[],0⟩] } p (.slice fa (S.files.length+1) fc) nv dv jv (.cr s S.files.length) Cn Cj (Cf'::Cd::Cs.flatten::L) (by simp only;rw [e2];exact hn) (by simp only;rw [e4];exact hj) (by simp only;rw [e2];exact hnow.asc) (by simp only;rw [e2];have:=hnow.len;omega) (by simp only;rw [e4];omega) rfl) (fun w h=>iH h)) (fun r L' hp=>?_)
   obtain ⟨nv',jv',Cn',Cj',rfl,rfl,hn',hj'⟩:=hp
   refine cD ?_
   refine kW ?_
   refine kH ?_
   rw [hc]
   refine ⟨_,fun w h=>six.2 ((iC:Inc (hdr _ p _ nv' dv jv'::Cf'::Cn'::Cd::Cj'::Cs.flatten::L) _).holds h),_,rfl,rfl,.slice fa (S.files.length+1) fc,nv',dv,jv',vs++[.slice none 0 0],Cs++[[]],Cf',Cn',Cd,Cj',by simp;rfl,?_,?_,?_,?_,?_⟩
   ·simp only [List.length_append,List.length_cons,List.length_nil]
    rw [Xr hr.lv];exact ho
   ·refine ⟨by simp [hr.lv],by simp [hr.lc],fun i f hi=>?_⟩
    rcases Nat.lt_or_ge i S.files.length with hlt|hge
    ·rw [List.getElem?_append_left hlt] at hi
     obtain ⟨v,C,a1,a2,a3⟩:=hr.at_ i f hi
     exact ⟨v,C,by rw [List.getElem?_append_left (by rw [hr.lv];exact hlt)];exact a1,by rw [List.getElem?_append_left (by rw [hr.lc];exact hlt)];exact a2,a3⟩
    ·rw [List.getElem?_append_right hge] at hi
     have hi0:i - S.files.length=0:=by
      rcases Nat.eq_zero_or_pos (i - S.files.length) with h|h
      ·exact h
      ·obtain ⟨q,hq⟩:∃q,i - S.files.length=q+1:=⟨i - S.files.length - 1,by omega⟩
       rw [hq] at hi;simp at hi
     rw [hi0] at hi;simp at hi;subst hi
     exact ⟨.slice none 0 0,[],by rw [List.getElem?_append_right (by rw [hr.lv];exact hge),hr.lv,hi0];rfl,by rw [List.getElem?_append_right (by rw [hr.lc];exact hge),hr.lc,hi0];rfl,.inl ⟨rfl,rfl,rfl,rfl⟩⟩
   ·simpa [e2] using hn'
   ·simpa [e3] using hd
   ·simpa [e4] using hj'
omit [W0] in
def qR (S:Fsy) (s:ByteArray) (b:List UInt8):Int × Fsy:=
 if zU S s≠0 then (zU S s,S) else if Xh S+b.length > S.quota then (60,S) else
 if zW S≠0 then (zW S,zS S) else
 (0,{ zS S with files:=S.files.set (zP S.names s) ⟨(yG S.files ⟨s,zP S.names s⟩).data++b,(yG S.files ⟨s,zP S.names s⟩).synced⟩ })
theorem ziY (S:Fsy) (p m:Nat) (s:ByteArray) (b:List UInt8) (v:Value) (C:Chunk) (L:List Chunk) (hA:Zd S p C) (hG:Good S m) (hv:Sl L 1 v b.length (bsv b)) (hb:b.length≤281474976710656) :
 Gv Tryz.prog 11 [.pointer (some ⟨p,0,none⟩),.string s,v].toArray (C::L)
  (fun r L'=>∃C',r=.int .i64 (qR S s b).1∧L'=C'::L∧Zd (qR S s b).2 p C'):=by
 obtain ⟨fv,nv,dv,jv,vs,Cs,Cf,Cn,Cd,Cj,rfl,hf,hr,hn,hd,hj⟩:=hA
 refine Gv.holds (L':=hdr S p fv nv dv jv::Cf::Cn::Cd::Cj::Cs.flatten::L) ?_ (fun w h=>six.1 h)
 obtain ⟨va,vc,rfl⟩:=YI hv
 refine Gv.of_body Tryz.func11 rfl rfl ?_
 refine kW ?_
 have hS:=Qy (p:=p) (dv:=dv) (jv:=jv) (Cd:=Cd) (Cj:=Cj) (L:=L) hG hf hr hn
 refine cP rfl rfl (Qw S p fv nv dv jv s _ hS.h hS.n hS.an hS.ln) ?_
 have hub:=zof hG
 have hq:=hG.q
 (repeat' first|refine kW ?_|refine kU fun bk=>?_|refine kV fun hc=>?_|refine kZ (fun hc=>?_) fun hc=>?_|fail)
 ·have h0:¬zU S s=0:=by assumption
  have hc:qR S s b=(zU S s,S):=by simp [qR,h0]
  refine kH ?_
  rw [hc]
  exact ⟨_,fun w h=>six.2 h,_,rfl,rfl,fv,nv,dv,jv,vs,Cs,Cf,Cn,Cd,Cj,rfl,hf,hr,hn,hd,hj⟩
 ·have h0:zU S s=0:=by omega
  obtain ⟨hdead,hok,hhas⟩:=wh h0
  refine zk [] mixed ?_
  (refine za 0 ?_;refine za 2 ?_;refine za 3 ?_;refine za 5 ?_;refine za 6 ?_;refine za 7 ?_;refine za 8 ?_)
  refine cI 1 rfl rfl ?_
  refine cP rfl rfl (zqk S p fv nv dv jv vs _ hS (by omega)) ?_
  refine ⟨iC,?_⟩
  (refine za 4 ?_;refine za 9 ?_)
  refine cD ?_
  (repeat' first|refine kW ?_|refine kU fun bk=>?_|refine kV fun hc=>?_|refine kZ (fun hc=>?_) fun hc=>?_|fail)
  ·have h1:(Xh S:Int)+(b.length:Int) > (S.quota:Int):=by assumption
   have hc:qR S s b=(60,S):=by
    unfold qR;rw [if_neg (by simpa using h0),if_pos (by omega)]
   refine kH ?_
   rw [hc]
   exact ⟨_,fun w h=>six.2 h,_,rfl,rfl,fv,nv,dv,jv,vs,Cs,Cf,Cn,Cd,Cj,rfl,hf,hr,hn,hd,hj⟩
  ·have h1:¬(Xh S:Int)+(b.length:Int) > (S.quota:Int):=by assumption
   obtain ⟨e1,e2,e3,e4,e5⟩:=qc S
   refine cC rfl rfl (Y9 S p fv nv dv jv _ hG.left) (fun r L' hp=>?_)
   obtain ⟨rfl,rfl⟩:=hp
   (repeat' first|refine kW ?_|refine kU fun bk=>?_|refine kV fun hc=>?_|refine kZ (fun hc=>?_) fun hc=>?_|fail)
   ·have h2:¬zW S=0:=by assumption
    have hc:qR S s b=(zW S,zS S):=by
     unfold qR;rw [if_neg (by simpa using h0),if_neg (by omega),if_pos h2]
    refine kH ?_
    rw [hc]
    exact ⟨_,fun w h=>six.2 h,_,rfl,rfl,fv,nv,dv,jv,vs,Cs,Cf,Cn,Cd,Cj,rfl,by rw [e1];exact hf,by rw [e1];exact hr,by rw [e2];exact hn,by rw [e3];exact hd,by rw [e4];exact hj⟩
   ·have h2:zW S=0:=by omega
    have hpo:Yh S s=zP S.names s:=by simp [Yh,h0]
    rw [hpo]
    obtain ⟨g,hg,hfe,hlt⟩:=vJ hS.an hhas
    have hef:zP S.names s < S.files.length:=by rw [hfe];exact hS.inn _ (List.mem_of_getElem? hg)
    have hfi:S.files[zP S.names s]? =some (yG S.files ⟨s,zP S.names s⟩):=by simp [yG,List.getD,List.getElem?_eq_getElem hef]
    have hdl:=(hG.dl _ (List.mem_of_getElem? hfi)).1
    obtain ⟨x,Ci,D1,D2,hxi,hxo,hfl,hset⟩:=hr.split hfi
    obtain ⟨xa,xc,rfl⟩:=zM hxo
    rcases hf with ⟨rfl,hf0,_,rfl⟩|⟨fb,fcap,frest,rfl,rfl,hfxl,hfrl,hfmc,hfcm⟩
    ·omega
    ·rw [hfl]
     refine qP (L':=hdr (zS S) p (.slice (some ⟨fb,0,none⟩) S.files.length fcap) nv dv jv::[(fb,cl (fcl S.files vs++frest) 61)]::Cn::Cd::Cj::D1::Ci::D2::L) (fun w h=>?_) ?_
     ·simpa [Holds,List.append_assoc] using h
     refine yO [hdr (zS S) p (.slice (some ⟨fb,0,none⟩) S.files.length fcap) nv dv jv,[(fb,cl (fcl S.files vs++frest) 61)]] [17] mixed ?_
     (refine za 0 ?_;refine za 1 ?_;refine za 2 ?_;refine za 3 ?_;refine za 4 ?_;refine za 5 ?_;refine za 6 ?_;refine za 7 ?_;refine za 8 ?_;refine za 9 ?_)
     refine cT 10 rfl rfl (zh (j:=zP S.names s) rfl rfl rfl hef) ?_
     (refine za 11 ?_)
     refine cT 12 rfl rfl (zy (v:=.slice xa _ xc) rfl (by repeat (first|assumption|exact Fnd.here|refine Fnd.there ?_)) (by rw [yu];exact z8 (Xt hfi hxi).1)) ?_
     (refine za 13 ?_)
     refine cI 14 rfl rfl ?_
     refine zu rfl rfl hxo (c:=b.length) (ys:=bsv b) (zm (zm (zm (zm (zm (zm (zm (zm hv)))))))) (by repeat (first|exact Zip.here _|apply Zip.there)) (by rfl) yj (by omega) (by simp only [maxLen];omega) rfl (fun v' Ci' ho hn1 hn2=>?_)
     refine ⟨iC,?_⟩
     refine cT 15 rfl rfl (zh (j:=zP S.names s) rfl rfl rfl hef) ?_
     (refine za 16 ?_)
     refine cL 17 rfl rfl rfl ?_
     refine zG (fcl (S.files.set (zP S.names s) ⟨(yG S.files ⟨s,zP S.names s⟩).data++b,(yG S.files ⟨s,zP S.names s⟩).synced⟩) (vs.set (zP S.names s) v')++frest) rfl rfl (uK ho) ?_ iU ?_ ?_
     ·rw [Nat.add_zero,List.set_append_left _ _ (by rw [hfxl];omega),zb8 hfi hr.lv]
     ·rw [List.length_append,hfxl];omega
     refine cD ?_
     refine kW ?_
     obtain ⟨Cs',hr',hfl'⟩:=hset ⟨(yG S.files ⟨s,zP S.names s⟩).data++b,(yG S.files ⟨s,zP S.names s⟩).synced⟩ v' Ci' (by simp only [List.length_append,yt];exact ho)
     have hc:qR S s b=(0,{ zS S with files:=S.files.set (zP S.names s) ⟨(yG S.files ⟨s,zP S.names s⟩).data++b,(yG S.files ⟨s,zP S.names s⟩).synced⟩ }):=by
      unfold qR;rw [if_neg (by simpa using h0),if_neg (by omega),if_neg (by simpa using h2)]
     refine kH ?_
     rw [hc]
     refine ⟨_,fun w h=>?_,_,rfl,rfl,.slice (some ⟨fb,0,none⟩) S.files.length fcap,nv,dv,jv,vs.set (zP S.names s) v',Cs',[(fb,cl (fcl (S.files.set (zP S.names s) ⟨(yG S.files ⟨s,zP S.names s⟩).data++b,(yG S.files ⟨s,zP S.names s⟩).synced⟩) (vs.set (zP S.names s) v')++frest) 61)],Cn,Cd,Cj,rfl,?_,hr',by simpa [e2] using hn,by simpa [e3] using hd,by simpa [e4] using hj⟩
     ·rw [hfl']
      simpa [Holds,List.append_assoc,hdr,Qq] using h
     ·refine .inr ⟨fb,fcap,frest,by simp,rfl,?_,by simpa using hfrl,by simpa using hfmc,hfcm⟩
      rw [Zg (by simp [hr.lv])]
omit [W0] in
def newS (q:Nat):Fsy:=⟨q,[],[],[],[],-1,false⟩
theorem znA (q:Nat) (L:List Chunk) (hq:q≤16777216) :
 Gv Tryz.prog 5 [.int .i64 (q:Int)].toArray L (fun r L'=>∃p C',r=.tuple #[.pointer (some ⟨p,0,none⟩),.int .i64 0]∧L'=C'::L∧Zd (newS q) p C'):=by
 refine Gv.of_body Tryz.func5 rfl rfl ?_
 (refine kW ?_;refine kV fun hc=>?_;refine kW ?_;refine kU fun bk=>?_;refine kW ?_)
 refine kR ?_
 refine ⟨_::L,iC,_,_,rfl,rfl,.slice none 0 0,.slice none 0 0,.slice none 0 0,.slice none 0 0,[],[],[],[],[],[],?_,.inl ⟨rfl,rfl,rfl,rfl⟩,⟨rfl,rfl,fun i f h=>by simp [newS] at h⟩,.inl ⟨rfl,rfl,rfl,rfl⟩,.inl ⟨rfl,rfl,rfl,rfl⟩,.inl ⟨rfl,rfl,rfl,rfl⟩⟩
 simp [hdr,Qq,newS]
 rfl
theorem za4 (q:Nat) (hq:q≤16777216):Good (newS q) 0:=
 ⟨⟨rfl,trivial,Nat.le_refl _,fun e h=>by simp [newS] at h,by simp [newS]⟩,Nat.le_refl _,Nat.le_refl _,by omega,hq,by simp [newS],fun f h=>by simp [newS] at h⟩
theorem zif {α:Type} [Inhabited α] (l:List α) (is:List Nat) (hn:is.Nodup) (hi:∀i∈is,i < l.length):∃R,l.Perm (is.map (fun i=>l.getD i default)++R):=by
 refine ⟨((List.range l.length).filter (fun i=>!decide (i∈is))).map (fun i=>l.getD i default),?_⟩
 rw [←List.map_append]
 have h1:l=(List.range l.length).map (fun i=>l.getD i default):=by
  apply List.ext_getElem?
  intro i
  by_cases h:i < l.length
  ·simp [h,List.getD]
  ·simp [List.getElem?_eq_none (Nat.le_of_not_lt h),h]
 have h2:(List.range l.length).Perm (is++(List.range l.length).filter (fun i=>!decide (i∈is))):=by
  refine (List.filter_append_perm (fun i=>decide (i∈is)) (List.range l.length)).symm.trans (List.Perm.append_right _ ?_)
  refine (List.perm_ext_iff_of_nodup (List.nodup_range.filter _) hn).2 (fun a=>?_)
  simp only [List.mem_filter,List.mem_range,decide_eq_true_eq]
  exact ⟨fun h=>h.2,fun h=>⟨hi a h,h⟩⟩
 conv=>lhs;rw [h1]
 exact h2.map _
theorem zfx {w:World} {D D' R:Chunk} {L:List Chunk} (hp:D.Perm (D'++R)) (h:Holds w (D::L)):Holds w (D'::L):=by
 have h1:Holds w ((D'++R)::L):=by
  refine ⟨?_,fun x hx=>h.2.1 x ?_,h.2.2⟩
  ·have:=h.1
   simp only [List.flatten_cons,List.map_append] at this ⊢
   have hpm:=(hp.map Prod.fst).append_right (L.flatten.map Prod.fst)
   rw [List.map_append] at hpm
   exact hpm.nodup_iff.1 this
  ·simp only [List.flatten_cons,List.mem_append] at hx ⊢
   rcases hx with hx|hx
   ·exact .inl (hp.mem_iff.2 (List.mem_append.2 hx))
   ·exact .inr hx
 have h2:=(Holds.split.1 h1)
 exact ((h2.perm (List.Perm.swap R D' L)).drop)
theorem zlz (S:Fsy) (p m:Nat) (fv nv dv jv:Value) (vs:List Value) (Cs:List Chunk) (Cf Cn:Chunk) (L:List Chunk) (hf:Ow 61 2 fv S.files.length (fcl S.files vs) Cf) (hr:FR S.files vs Cs) (hn:Ow 95 2 nv S.names.length (ents S.names) Cn)
 (hw:WN S.files.length m S.names) (hm:m≤100000) :
 Gv Tryz.prog 106 [.pointer (some ⟨p,0,none⟩)].toArray (hdr S p fv nv dv jv::Cf::Cn::Cs.flatten::L)
  (fun r L'=>∃fv' nv' dv' Cf' Cn' Cd' vs' Cs',r=.tuple #[]∧L'=hdr (yJ S) p fv' nv' dv' (.slice none 0 0)::Cf'::Cn'::Cd'::[]::Cs'.flatten::L∧
    Ow 61 2 fv' (yJ S).files.length (fcl (yJ S).files vs') Cf'∧FR (yJ S).files vs' Cs'∧Ow 95 2 nv' (yJ S).names.length (ents (yJ S).names) Cn'∧Ow 95 2 dv' (yJ S).durable.length (ents (yJ S).durable) Cd'):=by
 have h1:∀v∈vs,v.oneCell'=true:=fun v hv=>by
  obtain ⟨i,hi⟩:=List.getElem?_of_mem hv
  have hlt:i < S.files.length:=by
   rw [←hr.lv]
   rcases Nat.lt_or_ge i vs.length with h'|h'
   ·exact h'
   ·simp [List.getElem?_eq_none h'] at hi
  obtain ⟨u,C,a1,a2,a3⟩:=hr.at_ i S.files[i] (by simp [hlt])
  rw [hi] at a1;cases a1
  exact uK a3
 have base:=zly S p fv nv dv jv vs Cf Cn (Cs.flatten::L) hf hr.lv h1 hn (by have:=hw.len;omega) hw.inn
 refine ⟨fun w hh=>(base.out w hh).mono fun _ w' he=>?_⟩
 obtain ⟨v,L',e1,⟨fv',nv',dv',Cf',Cn',Cd',e2,e3,e4,e5,e6⟩,hw'⟩:=he
 subst e2 e3
 have hnd:(S.names.map En.file).Nodup:=hw.dist
 obtain ⟨R,hR⟩:=zif Cs (S.names.map En.file) hnd (fun i hi=>by
  obtain ⟨e,he,rfl⟩:=List.mem_map.1 hi
  rw [hr.lc];exact hw.inn e he)
 have hRf:=hR.flatten
 rw [List.flatten_append] at hRf
 refine ⟨_,_,e1,⟨fv',nv',dv',Cf',Cn',Cd',S.names.map (vAt vs),(S.names.map En.file).map (fun i=>Cs.getD i default),rfl,rfl,?_,?_,?_,?_⟩,?_⟩
 ·simpa [yJ] using e4
 ·refine ⟨by simp [yJ],by simp [yJ],fun i f hi=>?_⟩
  simp only [yJ,List.getElem?_map] at hi
  cases hni:S.names[i]? with
  |none=>simp [hni] at hi
  |some e=>
   simp [hni] at hi
   subst hi
   have hef:=hw.inn e (List.mem_of_getElem? hni)
   have hfi:S.files[e.file]? =some (yG S.files e):=by simp [yG,List.getD,List.getElem?_eq_getElem hef]
   obtain ⟨u,C,a1,a2,a3⟩:=hr.at_ _ _ hfi
   refine ⟨u,C,?_,?_,a3⟩
   ·simp [hni,vAt,List.getD,a1]
   ·simp [hni,List.getD,a2]
 ·simpa [yJ,wN] using e5
 ·simpa [yJ,wN] using e6
 ·have h5:Holds w' (Cs.flatten::hdr (yJ S) p fv' nv' dv' (.slice none 0 0)::Cf'::Cn'::Cd'::L):=iH hw'
  have h6:=zfx hRf h5
  have h7:=Holds.nil.2 h6
  exact iH h7
theorem qx {S:Fsy} {m:Nat} (h:Good S m):Good (zS S) m:=by
 obtain ⟨e1,e2,e3,e4,e5⟩:=qc S
 refine ⟨by rw [e1,e2,e3,e4];exact h.rp,by rw [e1];exact h.lf,by rw [e4];exact h.lj,h.m,by rw [e5];exact h.q,?_,by rw [e1,e5];exact h.dl⟩
 have:=h.left
 unfold zS
 (repeat' split)<;>(try simp only)<;>omega
theorem Good.mono {S:Fsy} {m m':Nat} (h:Good S m) (hm:m≤m') (h2:m'≤90000):Good S m':=
 ⟨h.rp.mono (Nat.le_refl _) hm,Nat.le_trans h.lf hm,Nat.le_trans h.lj hm,h2,h.q,h.left,h.dl⟩
theorem zrk {F m:Nat} {es:List En} (s:ByteArray) (h:WN F m es):WN (F+1) (m+1) (vk es (.cr s F)):=
 zma s (h.mono (Nat.le_succ F) (Nat.le_refl m)) (Nat.lt_succ_self F) (fun hm=>by
  obtain ⟨e,he,hf⟩:=List.mem_map.1 hm
  have:=h.inn e he;omega)
theorem QN {S:Fsy} {m:Nat} (s:ByteArray) (h:Good S m) (hm:m+1≤90000):Good (qh S s).2 (m+1):=by
 have hmono:=h.mono (Nat.le_succ m) hm
 unfold qh
 split
 ·exact hmono
 ·split
  ·exact hmono
  ·split
   ·exact qx hmono
   ·have hs:=qx h
    obtain ⟨e1,e2,e3,e4,e5⟩:=qc S
    refine ⟨?_,?_,?_,hm,hs.q,hs.left,?_⟩
    ·simp only [List.length_append,List.length_cons,List.length_nil,e3]
     refine Rp.snoc ?_ rfl (zrk s h.rp.now)
     exact h.rp.mono (Nat.le_succ _) (Nat.le_succ _)
    ·simp;exact h.lf
    ·simp;exact h.lj
    ·intro f hf
     simp only [List.mem_append,List.mem_singleton] at hf
     rcases hf with hf|hf
     ·simp only [e5];exact h.dl f hf
     ·subst hf;simp
theorem zfs {fs:List Fi} {e:En} (h:e.file < fs.length):yG fs e∈fs:=by
 have:fs[e.file]? =some (yG fs e):=by simp [yG,List.getD,List.getElem?_eq_getElem h]
 exact List.mem_of_getElem? this
theorem zgX {fs:List Fi}:∀{es:List En} {e:En},e∈es→(yG fs e).data.length≤lens fs es
 |[],_,h=>by simp at h
 |x::r,e,h=>by
  have e1:lens fs (x::r)=(yG fs x).data.length+lens fs r:=by simp [lens]
  rcases List.mem_cons.1 h with h2|h2
  ·subst h2;omega
  ·have:=zgX (fs:=fs) h2;omega
theorem QM {S:Fsy} {m:Nat} (s:ByteArray) (b:List UInt8) (h:Good S m):Good (qR S s b).2 m:=by
 unfold qR
 split
 ·exact h
 ·rename_i h0
  split
  ·exact h
  ·rename_i h1
   split
   ·exact qx h
   ·have h0':zU S s=0:=by simpa using h0
    obtain ⟨_,_,hh⟩:=wh h0'
    have hnow:=h.rp.now
    obtain ⟨g,hg,hfe,hlt⟩:=vJ hnow.asc hh
    have hmem:(⟨s,zP S.names s⟩:En)∈S.names:=by rw [hfe];exact List.mem_of_getElem? hg
    have hef:=hnow.inn _ hmem
    have hge:=zgX (fs:=S.files) hmem
    have hs:=qx h
    obtain ⟨e1,e2,e3,e4,e5⟩:=qc S
    refine ⟨?_,?_,?_,h.m,hs.q,hs.left,?_⟩
    ·simp only [List.length_set,e2,e3,e4];exact h.rp
    ·simp;exact h.lf
    ·simp only [e4];exact h.lj
    ·intro f hf
     simp only [e5]
     rcases List.mem_or_eq_of_mem_set hf with hf|hf
     ·exact h.dl f hf
     ·subst hf
      have:=h.dl _ (zfs hef)
      unfold Xh at h1
      simp only [List.length_append]
      omega
theorem zbV:∀{es:List En} (i:Nat),Asc es→Asc (y7 i es)
 |[],_,_=>trivial
 |e::r,i,h=>by
  refine ⟨fun x hx=>?_,zbV (i+1) h.2⟩
  have key:∀(l:List En) (j:Nat) (x:En),x∈y7 j l→∃y∈l,y.name=x.name:=by
   intro l
   induction l with
   |nil=>intro j x hx;simp [y7] at hx
   |cons y r ih=>
    intro j x hx
    simp only [y7,List.mem_cons] at hx
    rcases hx with hx|hx
    ·subst hx;exact ⟨y,by simp,rfl⟩
    ·obtain ⟨z,hz,hn⟩:=ih (j+1) x hx;exact ⟨z,by simp [hz],hn⟩
  obtain ⟨y,hy,hn⟩:=key r (i+1) x hx
  show uF e.name x.name < 0
  rw [←hn];exact h.1 y hy
theorem QX:∀(es:List En) (i:Nat),(y7 i es).map En.file=List.range' i es.length
 |[],i=>by simp [y7]
 |e::r,i=>by simp [y7,QX r (i+1),List.range'_succ]
theorem zmb {F m:Nat} {es:List En} (h:WN F m es):WN es.length m (y7 0 es):=by
 have hr:=QX es 0
 refine ⟨zbV 0 h.asc,by rw [wN];exact h.len,fun e he=>?_,by rw [hr];exact List.nodup_range'⟩
 have:e.file∈(y7 0 es).map En.file:=List.mem_map_of_mem he
 rw [hr,List.mem_range'_1] at this
 omega
theorem zee {S:Fsy} {m:Nat} (hw:WN S.files.length m S.names) (hm:m≤90000) (hq:S.quota≤16777216) (hl: -9223372036854775808≤S.left∧S.left≤9223372036854775807) (hd:∀f∈S.files,f.data.length≤S.quota∧f.synced≤f.data.length):Good (yJ S) m:=by
 refine ⟨⟨rfl,?_⟩,by simp [yJ];exact hw.len,by simp [yJ],hm,hq,hl,fun f hf=>?_⟩
 ·simp only [yJ,List.length_map];exact zmb hw
 ·simp only [yJ,List.mem_map] at hf
  obtain ⟨e,he,rfl⟩:=hf
  exact hd _ (zfs (hw.inn e he))
theorem zcb {S:Fsy} {p m:Nat} {C:Chunk} {L:List Chunk} (hA:Zd S p C) (hG:Good S m):∃fv nv dv jv vs L',See L' S p fv nv dv jv vs∧(∀w,Holds w (C::L)↔Holds w L')∧(∀C0 w,Holds w (C0::C::L)↔Holds w (C0::L')):=by
 obtain ⟨fv,nv,dv,jv,vs,Cs,Cf,Cn,Cd,Cj,rfl,hf,hr,hn,hd,hj⟩:=hA
 refine ⟨fv,nv,dv,jv,vs,_,Qy (p:=p) (dv:=dv) (jv:=jv) (Cd:=Cd) (Cj:=Cj) (L:=L) hG hf hr hn,fun w=>six,fun C0 w=>?_⟩
 simp [Holds,List.append_assoc]
theorem zp2 (S:Fsy) (p m:Nat) (s:ByteArray) (C:Chunk) (L:List Chunk) (hA:Zd S p C) (hG:Good S m) :
 Gv Tryz.prog 29 [.pointer (some ⟨p,0,none⟩),.string s].toArray (C::L)
  (fun r L'=>∃v C',r=.tuple #[v,.int .i64 (zU S s)]∧L'=C'::C::L∧(zU S s=0→Ow 5 1 v (yG S.files ⟨s,zP S.names s⟩).data.length (bsv (yG S.files ⟨s,zP S.names s⟩).data) C')∧(zU S s≠0→v=.slice none 0 0∧C'=[])):=by
 obtain ⟨fv,nv,dv,jv,vs,L',hS,h1,h2⟩:=zcb (L:=L) hA hG
 have base:=zp1 S p fv nv dv jv vs s L' hS (fun f hf=>by have:=hG.dl f hf;have:=hG.q;omega)
 refine ⟨fun w hw=>(base.out w ((h1 w).1 hw)).mono fun _ w' he=>?_⟩
 obtain ⟨r,L2,e1,⟨v,C',e2,e3,e4,e5⟩,hw'⟩:=he
 subst e3
 exact ⟨r,_,e1,⟨v,C',e2,rfl,e4,e5⟩,(h2 C' w').2 hw'⟩
theorem zkz (S:Fsy) (p m:Nat) (pre:ByteArray) (C:Chunk) (L:List Chunk) (hA:Zd S p C) (hG:Good S m) :
 Gv Tryz.prog 39 [.pointer (some ⟨p,0,none⟩),.string pre].toArray (C::L)
  (fun r L'=>∃C',L'=C'::C::L∧Ow 9 1 r (Xd S pre).length (zeW (Xd S pre)) C'):=by
 obtain ⟨fv,nv,dv,jv,vs,L',hS,h1,h2⟩:=zcb (L:=L) hA hG
 have base:=zpC S p fv nv dv jv vs pre L' hS
 refine ⟨fun w hw=>(base.out w ((h1 w).1 hw)).mono fun _ w' he=>?_⟩
 obtain ⟨r,L2,e1,⟨C',e3,e4⟩,hw'⟩:=he
 subst e3
 exact ⟨r,_,e1,⟨C',rfl,e4⟩,(h2 C' w').2 hw'⟩
omit [W0] in
def qK (S:Fsy):Int × Fsy:=if zW S≠0 then (zW S,zS S) else (0,yJ (zS S))
theorem ze0 (S:Fsy) (p m:Nat) (C:Chunk) (L:List Chunk) (hA:Zd S p C) (hG:Good S m) :
 Gv Tryz.prog 71 [.pointer (some ⟨p,0,none⟩)].toArray (C::L)
  (fun r L'=>∃C',r=.int .i64 (qK S).1∧L'=C'::L∧Zd (qK S).2 p C'):=by
 obtain ⟨fv,nv,dv,jv,vs,Cs,Cf,Cn,Cd,Cj,rfl,hf,hr,hn,hd,hj⟩:=hA
 refine Gv.holds (L':=hdr S p fv nv dv jv::Cf::Cn::Cd::Cj::Cs.flatten::L) ?_ (fun w h=>six.1 h)
 refine Gv.of_body Tryz.func71 rfl rfl ?_
 obtain ⟨e1,e2,e3,e4,e5⟩:=qc S
 refine kW ?_
 refine cC rfl rfl (Y9 S p fv nv dv jv _ hG.left) (fun r L' hp=>?_)
 obtain ⟨rfl,rfl⟩:=hp
 (repeat' first|refine kW ?_|refine kU fun bk=>?_|refine kV fun hc=>?_|refine kZ (fun hc=>?_) fun hc=>?_|fail)
 ·have h2:¬zW S=0:=by assumption
  have hc:qK S=(zW S,zS S):=by simp [qK,h2]
  refine kH ?_
  rw [hc]
  exact ⟨_,fun w h=>six.2 h,_,rfl,rfl,fv,nv,dv,jv,vs,Cs,Cf,Cn,Cd,Cj,rfl,by rw [e1];exact hf,by rw [e1];exact hr,by rw [e2];exact hn,by rw [e3];exact hd,by rw [e4];exact hj⟩
 ·have h2:zW S=0:=by omega
  have hc:qK S=(0,yJ (zS S)):=by simp [qK,h2]
  have hgm:=hG.m
  refine cC rfl rfl (Gv.holds (zlz (zS S) p m fv nv dv jv vs Cs Cf Cn L (by rw [e1];exact hf) (by rw [e1];exact hr) (by rw [e2];exact hn) (by rw [e1,e2];exact hG.rp.now) (by omega)) (fun w h=>iH h)) (fun r L' hp=>?_)
  obtain ⟨fv',nv',dv',Cf',Cn',Cd',vs',Cs',rfl,rfl,hf',hr',hn',hd'⟩:=hp
  refine kW ?_
  refine kH ?_
  rw [hc]
  exact ⟨_,fun w h=>six.2 h,_,rfl,rfl,fv',nv',dv',.slice none 0 0,vs',Cs',Cf',Cn',Cd',[],rfl,hf',hr',hn',hd',.inl ⟨rfl,rfl,rfl,rfl⟩⟩
theorem za5 {S:Fsy} {m:Nat} (h:Good S m):Good (qK S).2 m:=by
 have hs:=qx h
 unfold qK
 split
 ·exact hs
 ·exact zee hs.rp.now hs.m hs.q hs.left hs.dl
omit [W0] in
def uT (S:Fsy) (s:ByteArray):Int × Fsy:=
 if zU S s≠0 then (zU S s,S) else
 if zW S≠0 then (zW S,zS S) else
 (0,{ zS S with names:=vk S.names (.rm s),journal:=S.journal++[.rm s] })
theorem zk8 (S:Fsy) (p m:Nat) (s:ByteArray) (C:Chunk) (L:List Chunk) (hA:Zd S p C) (hG:Good S m) :
 Gv Tryz.prog 68 [.pointer (some ⟨p,0,none⟩),.string s].toArray (C::L)
  (fun r L'=>∃C',r=.int .i64 (uT S s).1∧L'=C'::L∧Zd (uT S s).2 p C'):=by
 obtain ⟨fv,nv,dv,jv,vs,Cs,Cf,Cn,Cd,Cj,rfl,hf,hr,hn,hd,hj⟩:=hA
 refine Gv.holds (L':=hdr S p fv nv dv jv::Cf::Cn::Cd::Cj::Cs.flatten::L) ?_ (fun w h=>six.1 h)
 refine Gv.of_body Tryz.func68 rfl rfl ?_
 obtain ⟨e1,e2,e3,e4,e5⟩:=qc S
 refine kW ?_
 have hS:=Qy (p:=p) (dv:=dv) (jv:=jv) (Cd:=Cd) (Cj:=Cj) (L:=L) hG hf hr hn
 refine cP rfl rfl (Qw S p fv nv dv jv s _ hS.h hS.n hS.an hS.ln) ?_
 (repeat' first|refine kW ?_|refine kU fun bk=>?_|refine kV fun hc=>?_|refine kZ (fun hc=>?_) fun hc=>?_|fail)
 ·have h0:¬zU S s=0:=by assumption
  have hc:uT S s=(zU S s,S):=by simp [uT,h0]
  refine kH ?_
  rw [hc]
  exact ⟨_,fun w h=>six.2 h,_,rfl,rfl,fv,nv,dv,jv,vs,Cs,Cf,Cn,Cd,Cj,rfl,hf,hr,hn,hd,hj⟩
 ·have h0:zU S s=0:=by omega
  obtain ⟨hdead,hok,hhas⟩:=wh h0
  refine cC rfl rfl (Y9 S p fv nv dv jv _ hG.left) (fun r L' hp=>?_)
  obtain ⟨rfl,rfl⟩:=hp
  (repeat' first|refine kW ?_|refine kU fun bk=>?_|refine kV fun hc=>?_|refine kZ (fun hc=>?_) fun hc=>?_|fail)
  ·have h2:¬zW S=0:=by assumption
   have hc:uT S s=(zW S,zS S):=by simp [uT,h0,h2]
   refine kH ?_
   rw [hc]
   exact ⟨_,fun w h=>six.2 h,_,rfl,rfl,fv,nv,dv,jv,vs,Cs,Cf,Cn,Cd,Cj,rfl,by rw [e1];exact hf,by rw [e1];exact hr,by rw [e2];exact hn,by rw [e3];exact hd,by rw [e4];exact hj⟩
  ·have h2:zW S=0:=by omega
   have hc:uT S s=(0,{ zS S with names:=vk S.names (.rm s),journal:=S.journal++[.rm s] }):=by simp [uT,h0,h2]
   have hsz:=Zu hok
   have hnow:=hG.rp.now
   have hlj:=hG.lj
   have hgm:=hG.m
   refine cP rfl rfl (zal s _ (by omega)) ?_
   refine kW ?_
   refine cC rfl rfl (Gv.holds (zfN (zS S) p fv nv dv jv (.rm s) Cn Cj (Cf::Cd::Cs.flatten::L) (by rw [e2];exact hn) (by rw [e4];exact hj) (by rw [e2];exact hnow.asc) (by rw [e2];have:=hnow.len;omega) (by rw [e4];omega) (by rw [e2];exact hhas)) (fun w h=>iH h)) (fun r L' hp=>?_)
   obtain ⟨nv',jv',Cn',Cj',rfl,rfl,hn',hj'⟩:=hp
   refine kW ?_
   refine kH ?_
   rw [hc]
   exact ⟨_,fun w h=>six.2 ((iC:Inc (hdr _ p fv nv' dv jv'::Cf::Cn'::Cd::Cj'::Cs.flatten::L) _).holds h),_,rfl,rfl,fv,nv',dv,jv',vs,Cs,Cf,Cn',Cd,Cj',rfl,by simpa [e1] using hf,by simpa [e1] using hr,by simpa [e2] using hn',by simpa [e3] using hd,by simpa [e4] using hj'⟩
omit [W0] in
def YK (S:Fsy) (s:ByteArray):Int × Fsy:=
 if zU S s≠0 then (zU S s,S) else
 if zW S≠0 then (zW S,zS S) else
 (0,{ zS S with files:=S.files.set (zP S.names s) ⟨(yG S.files ⟨s,zP S.names s⟩).data,(yG S.files ⟨s,zP S.names s⟩).data.length⟩ })
theorem zcc {S:Fsy} {m:Nat} (s:ByteArray) (h:Good S m):Good (YK S s).2 m:=by
 unfold YK
 split
 ·exact h
 ·rename_i h0
  split
  ·exact qx h
  ·have h0':zU S s=0:=by simpa using h0
   obtain ⟨_,_,hh⟩:=wh h0'
   have hnow:=h.rp.now
   obtain ⟨g,hg,hfe,hlt⟩:=vJ hnow.asc hh
   have hmem:(⟨s,zP S.names s⟩:En)∈S.names:=by rw [hfe];exact List.mem_of_getElem? hg
   have hef:=hnow.inn _ hmem
   have hs:=qx h
   obtain ⟨e1,e2,e3,e4,e5⟩:=qc S
   refine ⟨?_,?_,?_,h.m,hs.q,hs.left,?_⟩
   ·simp only [List.length_set,e2,e3,e4];exact h.rp
   ·simp;exact h.lf
   ·simp only [e4];exact h.lj
   ·intro f hf
    simp only [e5]
    rcases List.mem_or_eq_of_mem_set hf with hf|hf
    ·exact h.dl f hf
    ·subst hf
     have:=h.dl _ (zfs hef)
     exact ⟨this.1,Nat.le_refl _⟩
theorem zqd (S:Fsy) (p m:Nat) (s:ByteArray) (C:Chunk) (L:List Chunk) (hA:Zd S p C) (hG:Good S m) :
 Gv Tryz.prog 69 [.pointer (some ⟨p,0,none⟩),.string s].toArray (C::L)
  (fun r L'=>∃C',r=.int .i64 (YK S s).1∧L'=C'::L∧Zd (YK S s).2 p C'):=by
 obtain ⟨fv,nv,dv,jv,vs,Cs,Cf,Cn,Cd,Cj,rfl,hf,hr,hn,hd,hj⟩:=hA
 refine Gv.holds (L':=hdr S p fv nv dv jv::Cf::Cn::Cd::Cj::Cs.flatten::L) ?_ (fun w h=>six.1 h)
 refine Gv.of_body Tryz.func69 rfl rfl ?_
 obtain ⟨e1,e2,e3,e4,e5⟩:=qc S
 refine kW ?_
 have hS:=Qy (p:=p) (dv:=dv) (jv:=jv) (Cd:=Cd) (Cj:=Cj) (L:=L) hG hf hr hn
 refine cP rfl rfl (Qw S p fv nv dv jv s _ hS.h hS.n hS.an hS.ln) ?_
 (repeat' first|refine kW ?_|refine kU fun bk=>?_|refine kV fun hc=>?_|refine kZ (fun hc=>?_) fun hc=>?_|fail)
 ·have h0:¬zU S s=0:=by assumption
  have hc:YK S s=(zU S s,S):=by simp [YK,h0]
  refine kH ?_
  rw [hc]
  exact ⟨_,fun w h=>six.2 h,_,rfl,rfl,fv,nv,dv,jv,vs,Cs,Cf,Cn,Cd,Cj,rfl,hf,hr,hn,hd,hj⟩
 ·have h0:zU S s=0:=by omega
  obtain ⟨hdead,hok,hhas⟩:=wh h0
  refine cC rfl rfl (Y9 S p fv nv dv jv _ hG.left) (fun r L' hp=>?_)
  obtain ⟨rfl,rfl⟩:=hp
  (repeat' first|refine kW ?_|refine kU fun bk=>?_|refine kV fun hc=>?_|refine kZ (fun hc=>?_) fun hc=>?_|fail)
  ·have h2:¬zW S=0:=by assumption
   have hc:YK S s=(zW S,zS S):=by simp [YK,h0,h2]
   refine kH ?_
   rw [hc]
   exact ⟨_,fun w h=>six.2 h,_,rfl,rfl,fv,nv,dv,jv,vs,Cs,Cf,Cn,Cd,Cj,rfl,by rw [e1];exact hf,by rw [e1];exact hr,by rw [e2];exact hn,by rw [e3];exact hd,by rw [e4];exact hj⟩
  ·have h2:zW S=0:=by omega
   have hpo:Yh S s=zP S.names s:=by simp [Yh,h0]
   rw [hpo]
   obtain ⟨g,hg,hfe,hlt⟩:=vJ hS.an hhas
   have hef:zP S.names s < S.files.length:=by rw [hfe];exact hS.inn _ (List.mem_of_getElem? hg)
   have hfi:S.files[zP S.names s]? =some (yG S.files ⟨s,zP S.names s⟩):=by simp [yG,List.getD,List.getElem?_eq_getElem hef]
   obtain ⟨x,Ci,D1,D2,hxi,hxo,hfl,hset⟩:=hr.split hfi
   obtain ⟨xa,xc,rfl⟩:=zM hxo
   rcases hf with ⟨rfl,hf0,_,rfl⟩|⟨fb,fcap,frest,rfl,rfl,hfxl,hfrl,hfmc,hfcm⟩
   ·omega
   ·refine zk [16] mixed ?_
    (refine za 0 ?_;refine za 1 ?_;refine za 2 ?_;refine za 3 ?_;refine za 4 ?_;refine za 5 ?_;refine za 6 ?_;refine za 7 ?_;refine za 8 ?_;refine za 9 ?_)
    refine cT 10 rfl rfl (zh (j:=zP S.names s) rfl rfl rfl hef) ?_
    (refine za 11 ?_)
    refine cT 12 rfl rfl (zy (v:=.slice xa _ xc) rfl (by repeat (first|assumption|exact Fnd.here|refine Fnd.there ?_)) (by rw [yu];exact z8 (Xt hfi hxi).1)) ?_
    (refine za 13 ?_)
    refine cT 14 rfl rfl (zh (j:=zP S.names s) rfl rfl rfl hef) ?_
    (refine za 15 ?_)
    refine cL 16 rfl rfl rfl ?_
    refine zG (fcl (S.files.set (zP S.names s) ⟨(yG S.files ⟨s,zP S.names s⟩).data,(yG S.files ⟨s,zP S.names s⟩).data.length⟩) vs++frest) rfl rfl rfl ?_ iU ?_ ?_
    ·rw [List.set_append_left _ _ (by rw [hfxl];omega),zb7 hfi hr.lv]
    ·rw [List.length_append,hfxl];omega
    refine cD ?_
    refine kW ?_
    obtain ⟨Cs',hr',hfl'⟩:=hset ⟨(yG S.files ⟨s,zP S.names s⟩).data,(yG S.files ⟨s,zP S.names s⟩).data.length⟩ (.slice xa _ xc) Ci hxo
    rw [zlx hxi] at hr'
    have hc:YK S s=(0,{ zS S with files:=S.files.set (zP S.names s) ⟨(yG S.files ⟨s,zP S.names s⟩).data,(yG S.files ⟨s,zP S.names s⟩).data.length⟩ }):=by
     simp [YK,h0,h2]
    refine kH ?_
    rw [hc]
    refine ⟨_,fun w h=>?_,_,rfl,rfl,.slice (some ⟨fb,0,none⟩) S.files.length fcap,nv,dv,jv,vs,Cs',[(fb,cl (fcl (S.files.set (zP S.names s) ⟨(yG S.files ⟨s,zP S.names s⟩).data,(yG S.files ⟨s,zP S.names s⟩).data.length⟩) vs++frest) 61)],Cn,Cd,Cj,rfl,?_,hr',by simpa [e2] using hn,by simpa [e3] using hd,by simpa [e4] using hj⟩
    ·rw [hfl',←hfl]
     simpa [Holds,List.append_assoc,hdr,Qq] using h
    ·refine .inr ⟨fb,fcap,frest,by simp,rfl,?_,by simpa using hfrl,by simpa using hfmc,hfcm⟩
     rw [Zg (by simp [hr.lv])]
omit [W0] in
def y5 (S:Fsy) (a b:ByteArray):Int × Fsy:=
 if zU S a≠50∧vK b=false then (1,S) else
 if zU S a≠0 then (zU S a,S) else
 if zW S≠0 then (zW S,zS S) else
 if a=b then (0,zS S) else
 (0,{ zS S with names:=vk S.names (.rn a b),journal:=S.journal++[.rn a b] })
theorem QO {S:Fsy} {m:Nat} (a b:ByteArray) (h:Good S m) (hm:m+1≤90000):Good (y5 S a b).2 (m+1):=by
 have hmono:=h.mono (Nat.le_succ m) hm
 unfold y5
 split
 ·exact hmono
 split
 ·exact hmono
 ·rename_i _ h0
  split
  ·exact qx hmono
  split
  ·exact qx hmono
  ·have h0':zU S a=0:=by simpa using h0
   obtain ⟨_,_,hh⟩:=wh h0'
   have hs:=qx h
   obtain ⟨e1,e2,e3,e4,e5⟩:=qc S
   refine ⟨?_,by simp only [e1];exact hmono.lf,by simp;exact h.lj,hm,hs.q,hs.left,by simp only [e1,e5];exact h.dl⟩
   simp only [e1,e3]
   exact Rp.snoc (h.rp.mono (Nat.le_refl _) (Nat.le_succ m)) hh (zrl b h.rp.now hh)
theorem zk9 (S:Fsy) (p m:Nat) (a b:ByteArray) (C:Chunk) (L:List Chunk) (hA:Zd S p C) (hG:Good S m) :
 Gv Tryz.prog 70 [.pointer (some ⟨p,0,none⟩),.string a,.string b].toArray (C::L)
  (fun r L'=>∃C',r=.int .i64 (y5 S a b).1∧L'=C'::L∧Zd (y5 S a b).2 p C'):=by
 obtain ⟨fv,nv,dv,jv,vs,Cs,Cf,Cn,Cd,Cj,rfl,hf,hr,hn,hd,hj⟩:=hA
 refine Gv.holds (L':=hdr S p fv nv dv jv::Cf::Cn::Cd::Cj::Cs.flatten::L) ?_ (fun w h=>six.1 h)
 refine Gv.of_body Tryz.func70 rfl rfl ?_
 obtain ⟨e1,e2,e3,e4,e5⟩:=qc S
 refine kW ?_
 have hS:=Qy (p:=p) (dv:=dv) (jv:=jv) (Cd:=Cd) (Cj:=Cj) (L:=L) hG hf hr hn
 refine cP rfl rfl (Qw S p fv nv dv jv a _ hS.h hS.n hS.an hS.ln) ?_
 cases hnb:vK b
 all_goals ((repeat' first|refine kW ?_|refine kU fun bk=>?_|refine kV fun hc=>?_|refine kZ (fun hc=>?_) fun hc=>?_|fail))
 all_goals (try (refine cP rfl rfl (zhG b _) ?_;rw [hnb];((repeat' first|refine kW ?_|refine kU fun bk=>?_|refine kV fun hc=>?_|refine kZ (fun hc=>?_) fun hc=>?_|fail))))
 ·have h0:¬zU S a=50:=by assumption
  have hc:y5 S a b=(1,S):=by simp [y5,h0,hnb]
  refine kH ?_
  rw [hc]
  exact ⟨_,fun w h=>six.2 h,_,rfl,rfl,fv,nv,dv,jv,vs,Cs,Cf,Cn,Cd,Cj,rfl,hf,hr,hn,hd,hj⟩
 ·have h0:zU S a=50:=by assumption
  have hc:y5 S a b=(zU S a,S):=by simp [y5,h0]
  refine kH ?_
  rw [hc]
  exact ⟨_,fun w h=>six.2 h,_,rfl,rfl,fv,nv,dv,jv,vs,Cs,Cf,Cn,Cd,Cj,rfl,hf,hr,hn,hd,hj⟩
 ·have h0:¬zU S a=0:=by assumption
  have hc:y5 S a b=(zU S a,S):=by simp [y5,h0,hnb]
  refine kH ?_
  rw [hc]
  exact ⟨_,fun w h=>six.2 h,_,rfl,rfl,fv,nv,dv,jv,vs,Cs,Cf,Cn,Cd,Cj,rfl,hf,hr,hn,hd,hj⟩
 ·have h0:zU S a=0:=by assumption
  obtain ⟨hdead,hok,hhas⟩:=wh h0
  refine cC rfl rfl (Y9 S p fv nv dv jv _ hG.left) (fun r L' hp=>?_)
  obtain ⟨rfl,rfl⟩:=hp
  (repeat' first|refine kW ?_|refine kU fun bk=>?_|refine kV fun hc=>?_|refine kZ (fun hc=>?_) fun hc=>?_|fail)
  ·have h2:¬zW S=0:=by assumption
   have hc:y5 S a b=(zW S,zS S):=by simp [y5,h0,h2,hnb]
   refine kH ?_
   rw [hc]
   exact ⟨_,fun w h=>six.2 h,_,rfl,rfl,fv,nv,dv,jv,vs,Cs,Cf,Cn,Cd,Cj,rfl,by rw [e1];exact hf,by rw [e1];exact hr,by rw [e2];exact hn,by rw [e3];exact hd,by rw [e4];exact hj⟩
  ·have h2:zW S=0:=by omega
   have hab:¬a=b:=by assumption
   have hc:y5 S a b=(0,{ zS S with names:=vk S.names (.rn a b),journal:=S.journal++[.rn a b] }):=by simp [y5,h0,h2,hnb,hab]
   have hsz:=Zu hok
   have hsz2:=Zu hnb
   have hnow:=hG.rp.now
   have hlj:=hG.lj
   have hgm:=hG.m
   refine cP rfl rfl (zal a _ (by omega)) ?_
   refine kW ?_
   refine cP rfl rfl (zal b _ (by omega)) ?_
   refine kW ?_
   refine cC rfl rfl (Gv.holds (zfN (zS S) p fv nv dv jv (.rn a b) Cn Cj (Cf::Cd::Cs.flatten::L) (by rw [e2];exact hn) (by rw [e4];exact hj) (by rw [e2];exact hnow.asc) (by rw [e2];have:=hnow.len;omega) (by rw [e4];omega) (by rw [e2];exact hhas)) (fun w h=>iH h)) (fun r L' hp=>?_)
   obtain ⟨nv',jv',Cn',Cj',rfl,rfl,hn',hj'⟩:=hp
   refine kW ?_
   refine kH ?_
   rw [hc]
   exact ⟨_,fun w h=>six.2 ((iC:Inc (hdr _ p fv nv' dv jv'::Cf::Cn'::Cd::Cj'::Cs.flatten::L) _).holds h),_,rfl,rfl,fv,nv',dv,jv',vs,Cs,Cf,Cn',Cd,Cj',rfl,by simpa [e1] using hf,by simpa [e1] using hr,by simpa [e2] using hn',by simpa [e3] using hd,by simpa [e4] using hj'⟩
  ·have h2:zW S=0:=by omega
   have hab:a=b:=by assumption
   have hc:y5 S a b=(0,zS S):=by simp [y5,h0,h2,hnb,hab];intro hx;rw [←hab,h0] at hx;exact absurd rfl hx
   refine kH ?_
   rw [hc]
   exact ⟨_,fun w h=>six.2 h,_,rfl,rfl,fv,nv,dv,jv,vs,Cs,Cf,Cn,Cd,Cj,rfl,by rw [e1];exact hf,by rw [e1];exact hr,by rw [e2];exact hn,by rw [e3];exact hd,by rw [e4];exact hj⟩
 ·have h0:zU S a=50:=by assumption
  have hc:y5 S a b=(zU S a,S):=by simp [y5,h0]
  refine kH ?_
  rw [hc]
  exact ⟨_,fun w h=>six.2 h,_,rfl,rfl,fv,nv,dv,jv,vs,Cs,Cf,Cn,Cd,Cj,rfl,hf,hr,hn,hd,hj⟩
end Go.Proofs.YtemdlifojcgplaaGreatDoor
namespace Go.Proofs.YtemdlifojcgplaaGreatDoor
open Go Go.Vx Go.Ob Go.Hf Go.If
variable [W0]
set_option linter.all false
set_option maxRecDepth 4000
def rdE (s d:List UInt8):Nat:=if psE d≠0 then psE d else if idL (prK d:Int) (prB d)≠s then 6 else 0
def rdK (s d:List UInt8):Nat:=if rdE s d=0 then prK d else 0
def rdB (s d:List UInt8):List UInt8:=if rdE s d=0 then prB d else []
theorem znM (d:List UInt8):(prB d).length≤65568:=by
 unfold prB psB
 split
 ·have h1:(psO d).length≤65568:=zdq (d.drop 2) 65568
  have h2:=(YW 0 (psO d)).2
  omega
 ·simp
theorem znP {s:List UInt8} (h:X3 s=true):ptL s=Xa++s.take 2++[47]++s.drop 2:=by unfold ptL;rw [if_pos h]
theorem znv (S:Fsy) (p m:Nat) (s d:List UInt8) (C:Chunk) (L:List Chunk) (hA:Zd S p C) (hG:Good S m) (hh:X3 s=true) (ho:zU S (str (ptL s))=0) (hd:(yG S.files ⟨str (ptL s),zP S.names (str (ptL s))⟩).data=d) (hdl:d.length≤1000000) (hb:wP L) (hor:qQ L) :
 Gv Tryz.prog 12 [.pointer (some ⟨p,0,none⟩),.string (str s)].toArray (C::L) (fun r L'=>∃v D,r=.tuple #[.int .i64 (rdK s d:Int),v,.int .i64 (rdE s d:Int)]∧(∀L0,SlC (D::L0) 1 v (rdB s d).length (bsv (rdB s d)))∧L'=D::C::L):=by
 refine Gv.of_body (args:=[.pointer (some ⟨p,0,none⟩),.string (str s)]) Tryz.func12 rfl rfl ?_
 have hl:=zc8 hh
 have hash:=zj6 s (C::L) (by omega)
 rw [hh] at hash
 have hnil:∀L0:List Chunk,SlC L0 1 (.slice none 0 0) ([]:List UInt8).length (bsv []):=fun L0=>⟨.inl ⟨0,rfl,rfl,rfl⟩,_,_,rfl,Nat.le_refl _⟩
 refine kW ?_
 refine cP rfl rfl hash ?_
 refine kW ?_
 refine cP rfl rfl (Qx s _ (by omega)) ?_
 refine kW ?_
 refine cC rfl rfl (zp2 S p m (str (ptL s)) C L hA hG) (fun r L' hp=>?_)
 obtain ⟨v1,D1,rfl,rfl,h1,_⟩:=hp
 have h1:=h1 ho
 rw [hd] at h1
 rw [ho]
 obtain ⟨a1,c1,rfl,hc1⟩:=(SlC.ow (L:=[]) h1).room
 have hx:=znM d
 refine kW ?_
 refine cC rfl rfl (zdn a1 c1 d _ (qz h1) (by omega) hc1 (by repeat (first|exact hb|apply wP.there)) (by repeat (first|exact hor|apply qQ.there))) (fun r L' hp=>?_)
 obtain ⟨v2,D2,rfl,h2,rfl⟩:=hp
 obtain ⟨a2,c2,rfl,hc2⟩:=(h2 []).room
 by_cases he:psE d=0
 ·have hid:=id_n (prK d:Int) (.slice a2 (prB d).length c2) (prB d) (D2::D1::C::L) hb.there.there.there (by omega) (h2 _)
  rw [he]
  by_cases hi:idL (prK d:Int) (prB d)=s
  ·have e0:rdE s d=0:=by unfold rdE;rw [if_neg (fun h=>h he),if_neg (fun h=>h hi)]
   have e1:rdK s d=prK d:=if_pos e0
   have e2:rdB s d=prB d:=if_pos e0
   rw [e0,e1,e2]
   refine kW ?_
   refine cP rfl rfl hid ?_
   (repeat' first|refine kW ?_|refine kU fun bk=>?_|refine kV fun hc=>?_|refine kZ (fun hc=>?_) fun hc=>?_|fail)
   ·exact absurd (by rw [hi]) hc
   ·refine kR ?_
    exact ⟨D2::C::L,iC,_,D2,rfl,h2,rfl⟩
  ·have e0:rdE s d=6:=by unfold rdE;rw [if_neg (fun h=>h he),if_pos hi]
   have e1:rdK s d=0:=if_neg (by omega)
   have e2:rdB s d=[]:=if_neg (by omega)
   rw [e0,e1,e2]
   refine kW ?_
   refine cP rfl rfl hid ?_
   (repeat' first|refine kW ?_|refine kU fun bk=>?_|refine kV fun hc=>?_|refine kZ (fun hc=>?_) fun hc=>?_|fail)
   ·refine kR ?_
    exact ⟨D2::C::L,iC,_,D2,rfl,fun L0=>hnil _,rfl⟩
   ·exact absurd (str_inj.1 hc) hi
 ·have e0:rdE s d=psE d:=if_pos he
  have e1:rdK s d=0:=if_neg (by omega)
  have e2:rdB s d=[]:=if_neg (by omega)
  rw [e0,e1,e2]
  (refine kW ?_;refine kV fun hc=>?_;refine kW ?_)
  refine kR ?_
  exact ⟨D2::C::L,iC,_,D2,rfl,fun L0=>hnil _,rfl⟩
end Go.Proofs.YtemdlifojcgplaaGreatDoor
namespace Go.Proofs.YtemdlifojcgplaaGreatDoor
open Go Go.Vx Go.Ob Go.Hf Go.If Go.RowKit
variable [W0]
set_option linter.all false
set_option maxRecDepth 4000
omit [W0] in
def blB:List UInt8:=[101,54,57,100,101,50,57,98,98,50,100,49,100,54,52,51,52,98,56,98,50,57,97,101,55,55,53,97,100,56,99,50,101,52,56,99,53,51,57,49]
omit [W0] in
def ptB:List UInt8:=[111,98,106,101,99,116,115,47,101,54,47,57,100,101,50,57,98,98,50,100,49,100,54,52,51,52,98,56,98,50,57,97,101,55,55,53,97,100,56,99,50,101,52,56,99,53,51,57,49]
omit [W0] in
def tmB:List UInt8:=[116,109,112,47,101,54,57,100,101,50,57,98,98,50,100,49,100,54,52,51,52,98,56,98,50,57,97,101,55,55,53,97,100,56,99,50,101,52,56,99,53,51,57,49]
theorem zoz:idL 3 []=blB:=by kernel_rfl
theorem zpv:X3 blB=true:=by kernel_rfl
theorem zcn:ptL blB=ptB:=by kernel_rfl
theorem zp4:Lib.replaceAll (ptB.drop 8) [47] []=blB:=by kernel_rfl
omit [W0] in
def wA:Fsy:=⟨1048576,[⟨[],0⟩],[⟨str tmB,0⟩],[],[.cr (str tmB) 0],-1,false⟩
omit [W0] in
def wB (d:List UInt8):Fsy:=⟨1048576,[⟨d,0⟩],[⟨str tmB,0⟩],[],[.cr (str tmB) 0],-1,false⟩
omit [W0] in
def wC (d:List UInt8):Fsy:=⟨1048576,[⟨d,d.length⟩],[⟨str tmB,0⟩],[],[.cr (str tmB) 0],-1,false⟩
omit [W0] in
def wD (d:List UInt8):Fsy:=⟨1048576,[⟨d,d.length⟩],[⟨str ptB,0⟩],[],[.cr (str tmB) 0,.rn (str tmB) (str ptB)],-1,false⟩
omit [W0] in
def wE (d:List UInt8):Fsy:=⟨1048576,[⟨d,d.length⟩],[⟨str ptB,0⟩],[⟨str ptB,0⟩],[],-1,false⟩
theorem zqF:uT (newS 1048576) (str tmB)=(61,newS 1048576):=by kernel_rfl
theorem zjL:qh (newS 1048576) (str tmB)=(0,wA):=by kernel_rfl
theorem zjM (d:List UInt8) (h:d.length≤1000000):qR wA (str tmB) d=(0,wB d):=by
 unfold qR
 rw [if_neg (by rw [show zU wA (str tmB)=0 from by kernel_rfl];simp),if_neg (by simp [wA,Xh,lens,yG];omega)]
 simp [wA,wB,zW,zS,zP,Vx.pos,yG,QS]
theorem zjN (d:List UInt8):YK (wB d) (str tmB)=(0,wC d):=by kernel_rfl
theorem zjO (d:List UInt8):y5 (wC d) (str tmB) (str ptB)=(0,wD d):=by kernel_rfl
theorem zow (d:List UInt8):qK (wD d)=(0,wE d):=by kernel_rfl
theorem zqJ (d:List UInt8):zU (wE d) (str ptB)=0:=by kernel_rfl
theorem zqI (d:List UInt8):(yG (wE d).files ⟨str ptB,zP (wE d).names (str ptB)⟩).data=d:=by kernel_rfl
theorem zqG:Xd (newS 1048576) (str ptB)=[]:=by kernel_rfl
theorem zqH (d:List UInt8):Xd (wE d) (str Xa)=[⟨str ptB,0⟩]:=by kernel_rfl
theorem znf {d:List UInt8} (h:d.length≤1000000):Good (wE d) 2:=by
 have g0:=za4 1048576 (by omega)
 have gA:=QN (str tmB) g0 (by omega)
 rw [zjL] at gA
 have gB:=QM (str tmB) d gA
 rw [zjM d h] at gB
 have gC:=zcc (str tmB) gB
 rw [zjN] at gC
 have gD:=QO (str tmB) (str ptB) gC (by omega)
 rw [zjO] at gD
 have gE:=za5 gD
 rw [zow] at gE
 exact gE
theorem zds (s old new:List UInt8) (L:List Chunk) (hb:wP L) (hs:s.length < 4294967281) (h1:1≤old.length) (hl:s.length+Lib.count s old * new.length≤140737488355328) :
 GvP Tryz.prog 40 [.string (str s),.string (str old),.string (str new)].toArray L (.string (str (Lib.replaceAll s old new))):=by
 obtain ⟨m,hm⟩:=hb.mx
 exact GvP.of_below fun w hw=>Any.strings_ReplaceAll zlA zq3 (str s) (str old) (str new) m w hs (hm w hw) h1 hl
theorem zh0 (p:Nat) (C:Chunk) (L:List Chunk) (hA:Zd (newS 1048576) p C) :
 Gv Tryz.prog 37 [.pointer (some ⟨p,0,none⟩),.string (str ptB)].toArray (C::L) (fun r L'=>r=.bool false∧L'=C::L):=by
 refine Gv.of_body (args:=[.pointer (some ⟨p,0,none⟩),.string (str ptB)]) Tryz.func37 rfl rfl ?_
 refine kW ?_
 refine cC rfl rfl (zkz (newS 1048576) p 0 (str ptB) C L hA (za4 1048576 (by omega))) (fun r L' hp=>?_)
 obtain ⟨D,rfl,h1⟩:=hp
 rw [zqG] at h1
 obtain ⟨a1,c1,rfl⟩:=zM h1
 refine kW ?_
 refine kR ?_
 exact ⟨C::L,iC,rfl,rfl⟩
theorem znk (p:Nat) (v:Value) (d:List UInt8) (C:Chunk) (L:List Chunk) (hA:Zd (newS 1048576) p C) (hv:Sl L 1 v d.length (bsv d)) (hd:d.length≤1000000) :
 Gv Tryz.prog 38 [.pointer (some ⟨p,0,none⟩),.string (str blB),v].toArray (C::L) (fun r L'=>∃C',r=.int .i64 0∧L'=C'::L∧Zd (wE d) p C'):=by
 refine Gv.of_body (args:=[.pointer (some ⟨p,0,none⟩),.string (str blB),v]) Tryz.func38 rfl rfl ?_
 have g0:=za4 1048576 (by omega)
 have gA:=QN (str tmB) g0 (by omega)
 rw [zjL] at gA
 have gB:=QM (str tmB) d gA
 rw [zjM d hd] at gB
 have gC:=zcc (str tmB) gB
 rw [zjN] at gC
 have gD:=QO (str tmB) (str ptB) gC (by omega)
 rw [zjO] at gD
 have hpt:=Qx blB
 rw [zcn] at hpt
 refine kW ?_
 refine ze (wV [116,109,112,47] blB rfl rfl (by simp [blB])) rfl ?_
 rw [show ([116,109,112,47]++blB:List UInt8)=tmB from rfl]
 refine kW ?_
 refine cC rfl rfl (zk8 (newS 1048576) p 0 (str tmB) C L hA g0) (fun r L' hp=>?_)
 obtain ⟨C1,rfl,rfl,h1⟩:=hp
 rw [zqF] at h1 ⊢
 refine kW ?_
 refine cC rfl rfl (zjy (newS 1048576) p 0 (str tmB) C1 L h1 g0) (fun r L' hp=>?_)
 obtain ⟨C2,rfl,rfl,h2⟩:=hp
 rw [zjL] at h2 ⊢
 refine kW ?_
 refine cC rfl rfl (ziY wA p 1 (str tmB) d v C2 L h2 gA hv (by omega)) (fun r L' hp=>?_)
 obtain ⟨C3,rfl,rfl,h3⟩:=hp
 rw [zjM d hd] at h3 ⊢
 refine kW ?_
 refine cC rfl rfl (zqd (wB d) p 1 (str tmB) C3 L h3 gB) (fun r L' hp=>?_)
 obtain ⟨C4,rfl,rfl,h4⟩:=hp
 rw [zjN] at h4 ⊢
 refine kW ?_
 refine cP rfl rfl (hpt _ (by decide)) ?_
 refine kW ?_
 refine cC rfl rfl (zk9 (wC d) p 1 (str tmB) (str ptB) C4 L h4 gC) (fun r L' hp=>?_)
 obtain ⟨C5,rfl,rfl,h5⟩:=hp
 rw [zjO] at h5 ⊢
 refine kW ?_
 refine cC rfl rfl (ze0 (wD d) p 2 C5 L h5 gD) (fun r L' hp=>?_)
 obtain ⟨C6,rfl,rfl,h6⟩:=hp
 rw [zow] at h6 ⊢
 refine kW ?_
 refine kR ?_
 exact ⟨C6::L,iC,C6,rfl,rfl,h6⟩
theorem zmf (p:Nat) (C:Chunk) (L:List Chunk) (hA:Zd (newS 1048576) p C) (hb:wP L) (hor:qQ L) :
 Gv Tryz.prog 16 [.pointer (some ⟨p,0,none⟩),.int .i64 3,.slice none 0 0].toArray (C::L) (fun r L'=>∃C' d,r=.tuple #[.string (str blB),.int .i64 0]∧L'=C'::L∧FlO 3 [] d∧Zd (wE d) p C'):=by
 refine Gv.of_body (args:=[.pointer (some ⟨p,0,none⟩),.int .i64 3,.slice none 0 0]) Tryz.func16 rfl rfl ?_
 have hn:=zbe 3
 rw [show nmI 3=zls from rfl] at hn
 have hi:=fun L0 (h0:wP L0)=>id_n 3 (.slice none 0 0) [] L0 h0 (by decide) ⟨.inl ⟨0,rfl,rfl,rfl⟩,_,_,rfl,Nat.le_refl _⟩
 rw [zoz] at hi
 have hpt:=Qx blB
 rw [zcn] at hpt
 refine kW ?_
 refine cP rfl rfl (hn _) ?_
 refine kW ?_
 all_goals (try (exfalso;exact absurd (str_inj.1 (b:=[]) hc) (by decide)))
 refine cP rfl rfl (hi _ hb.there) ?_
 refine kW ?_
 refine cP rfl rfl (hpt _ (by decide)) ?_
 refine kW ?_
 refine cC rfl rfl (zh0 p C L hA) (fun r L' hp=>?_)
 obtain ⟨rfl,rfl⟩:=hp
 refine kW ?_
 refine cC rfl rfl (zjR 3 (.slice none 0 0) [] (C::L) (by omega) (by omega) (by simp) ⟨.inl ⟨0,rfl,rfl,rfl⟩,_,_,rfl,Nat.le_refl _⟩ hb.there hor.there) (fun r L' hp=>?_)
 obtain ⟨C1,d,hF,h1,rfl⟩:=hp
 have hdl:=hF.l
 refine kW ?_
 refine cC rfl rfl (Gv.take (znk p r d C (C1::L) hA (qz h1) (by omega)) (by repeat (first|exact Take.here|apply Take.there))) (fun r L' hp=>?_)
 obtain ⟨C2,rfl,rfl,h2⟩:=hp
 refine kW ?_
 refine kR ?_
 exact ⟨C2::L,iC,C2,d,rfl,rfl,hF,h2⟩
theorem zpw (p:Nat) (d:List UInt8) (C:Chunk) (L:List Chunk) (hA:Zd (wE d) p C) (hG:Good (wE d) 2) (hb:wP L) :
 Gv Tryz.prog 17 [.pointer (some ⟨p,0,none⟩)].toArray (C::L) (fun r L'=>(∃a c,r=.slice a 1 c)∧L'=C::L):=by
 refine Gv.of_body (args:=[.pointer (some ⟨p,0,none⟩)]) Tryz.func17 rfl rfl ?_
 have hpt:=Qx blB
 rw [zcn] at hpt
 have hrp:=fun L0 (h0:wP L0)=>zds (ptB.drop 8) [47] [] L0 h0 (by decide) (by decide) (by decide)
 rw [zp4] at hrp
 refine kW ?_
 refine cC rfl rfl (zkz (wE d) p 2 (str Xa) C L hA hG) (fun r L' hp=>?_)
 obtain ⟨D,rfl,h1⟩:=hp
 rw [zqH] at h1
 change Ow 9 1 r 1 [.string (str ptB)] D at h1
 rcases h1 with ⟨_,h1,_⟩|⟨lb,lcap,lrest,rfl,rfl,hxl,hrl,hm1,hm2⟩
 ·exact absurd h1 (by decide)
 refine kW ?_
 refine qP (L':=[]::[(lb,cl ([.string (str ptB)]++lrest) 9)]::C::L) (fun w h=>Holds.nil.2 h) ?_
 refine zn (X:=Nat × Value × Chunk) (fun x=>[(0,.pointer (some ⟨p,0,none⟩)),(3,x.2.1),(8,.slice (some ⟨lb,0,none⟩) 1 lcap),(9,.int .i64 1),(10,.int .i64 (x.1:Int))]) (fun x=>x.2.2::[(lb,cl ([.string (str ptB)]++lrest) 9)]::C::L)
  (fun x=>x.1≤1∧Ow 9 1 x.2.1 x.1 (List.replicate x.1 (.string (str blB))) x.2.2) (fun x=>1 - x.1) (0,.slice none 0 0,[]) ⟨by omega,.inl ⟨rfl,rfl,rfl,rfl⟩⟩ iS (fun w h=>h) ?_
 rintro ⟨k,lv,lD⟩ ⟨hk,hL⟩
 simp only at hk hL ⊢
 (repeat' first|refine kW ?_|refine kU fun bk=>?_|refine kV fun hc=>?_|refine kZ (fun hc=>?_) fun hc=>?_|fail)
 ·have hk0:k=0:=by omega
  subst hk0
  refine ze (zh (j:=0) rfl rfl rfl (by omega)) rfl ?_
  refine kW ?_
  refine ze (ZN ptB 8 ptB.length rfl rfl rfl (by decide) (Nat.le_refl _)) rfl ?_
  rw [List.take_of_length_le (l:=ptB.drop 8) (i:=ptB.length - 8) (by decide)]
  refine kW ?_
  refine cP rfl rfl (hrp _ (by repeat (first|exact hb|apply wP.there))) ?_
  refine kW ?_
  refine cP rfl rfl (hpt _ (by decide)) ?_
  refine kW ?_
  refine zl (cs:=[.string (str blB)]) rfl (by rfl) (by first|(simp [zA,patch,Value.cells,zeros];done)|(simp [zA,patch,Value.cells,zeros];rfl)) (by omega) rfl rfl (fun b1=>?_)
  refine kW ?_
  refine zu rfl rfl hL (zF (k:=1) (c:=#[.string (str blB)]) (xs:=[.string (str blB)]) (m:=1) Fnd.here rfl rfl) (by repeat (first|exact Zip.here _|apply Zip.there)) (by rfl) (by rfl) (by omega) (by decide) rfl (fun v1 D1 h1 _ _=>?_)
  refine kW ?_
  refine zf (X:=Nat × Value × Chunk) (μ:=fun x=>1 - x.1) (x:=(0,lv,lD)) (1,v1,D1) (by simp) ⟨by simp,h1⟩ iS (fun w h=>iH h)
 ·have hk1:k=1:=by omega
  subst hk1
  obtain ⟨a,c,rfl⟩:=zM hL
  skip
  refine kR ?_
  exact ⟨C::L,iC,⟨_,_,rfl⟩,rfl⟩
end Go.Proofs.YtemdlifojcgplaaGreatDoor
namespace Go.Proofs.YtemdlifojcgplaaGreatDoor
open Go Go.Vx Go.Ob Go.Hf Go.If
variable [W0]
set_option linter.all false
set_option maxRecDepth 4000
theorem XK (L:List Chunk) (hb:wP L) (hor:qQ L):GvP Tryz.prog 6 [].toArray L (.bool true):=by
 refine Gv.of_body Tryz.func6 rfl rfl ?_
 have hpt:=Qx blB
 rw [zcn] at hpt
 refine kW ?_
 refine cC rfl rfl (znA 1048576 L (by omega)) (fun r L' hp=>?_)
 obtain ⟨p,C0,rfl,rfl,hA0⟩:=hp
 refine kW ?_
 refine cC rfl rfl (zmf p C0 L hA0 hb hor) (fun r L' hp=>?_)
 obtain ⟨C1,d,rfl,rfl,hF,hA1⟩:=hp
 have hdl:=hF.l
 have hG:=znf (d:=d) (by omega)
 have e0:rdE blB d=0:=by unfold rdE;rw [if_neg (fun h=>h hF.e),hF.prK,hF.prB,if_neg (fun h=>h zoz)]
 have e1:rdK blB d=3:=by unfold rdK;rw [if_pos e0,hF.prK]
 have e2:rdB blB d=[]:=by unfold rdB;rw [if_pos e0,hF.prB]
 have hr:=znv (wE d) p 2 blB d C1 L hA1 hG zpv (by rw [zcn];exact zqJ d) (by rw [zcn];exact zqI d) (by omega) hb hor
 rw [e0,e1,e2] at hr
 refine kW ?_
 refine cC rfl rfl hr (fun r L' hp=>?_)
 obtain ⟨v,D,rfl,hv,rfl⟩:=hp
 obtain ⟨a,c,rfl,_⟩:=(hv []).room
 refine kW ?_
 refine cP rfl rfl (hpt _ (by decide)) ?_
 refine kW ?_
 refine cC rfl rfl (Gv.take (zpw p d C1 (D::L) hA1 hG hb.there) (by repeat (first|exact Take.here|apply Take.there))) (fun r L' hp=>?_)
 obtain ⟨⟨a3,c3,rfl⟩,rfl⟩:=hp
 refine kW ?_
 exact kE
theorem zmV (s:List UInt8) (h:s.length=40):(s.drop 2).take (s.length - 2)=s.drop 2:=List.take_of_length_le (by rw [List.length_drop];exact Nat.le_refl _)
theorem zdd (k:Int) (a1:Option Addr) (c1:Nat) (b:List UInt8) (a2:Option Addr) (c2:Nat) (f s:List UInt8) (L:List Chunk) (g1:SlC L 1 (.slice a1 b.length c1) b.length (bsv b)) (g2:SlC L 1 (.slice a2 f.length c2) f.length (bsv f))
 (hl1:b.length≤140737488351232) (hl2:f.length≤140737488351232) (hs:s.length≤140737488351232) (hb:wP L) (hor:qQ L) :
 GvP Tryz.prog 4 [.int .i64 k,.slice a1 b.length c1,.slice a2 f.length c2,.string (str s)].toArray L (.bool true):=by
 refine Gv.of_body (args:=[.int .i64 k,.slice a1 b.length c1,.slice a2 f.length c2,.string (str s)]) Tryz.func4 rfl rfl ?_
 have hcap1:b.length≤c1:=by obtain ⟨x,y,h,hh⟩:=g1.room;injection h with _ _ h;omega
 have hcap2:f.length≤c2:=by obtain ⟨x,y,h,hh⟩:=g2.room;injection h with _ _ h;omega
 ((repeat' first|refine kW ?_|refine kU fun bk=>?_|refine kV fun hc=>?_|refine kZ (fun hc=>?_) fun hc=>?_|fail)<;>try exact absurd trivial hc)
 ·refine cP rfl rfl (XK _ hb hor) ?_
  (refine kW ?_)
  exact kE
 ·refine cP rfl rfl (XK _ hb hor) ?_
  (refine kW ?_)
  exact kE
 refine cC rfl rfl (zdn a2 c2 f L g2.sl (by omega) hcap2 hb hor) (fun r L' hp=>?_)
 obtain ⟨v1,C1,rfl,h1,rfl⟩:=hp
 (refine kW ?_)
 refine cP rfl rfl (zfo a2 c2 f _ (zm g2.sl) (by omega) hcap2) ?_
 ((repeat' first|refine kW ?_|refine kU fun bk=>?_|refine kV fun hc=>?_|refine kZ (fun hc=>?_) fun hc=>?_|fail)<;>try exact absurd trivial hc)
 refine ze (qD (m:=(prB f).length) (b:=prB f) rfl (h1 _).sl) rfl ?_
 ((repeat' first|refine kW ?_|refine kU fun bk=>?_|refine kV fun hc=>?_|refine kZ (fun hc=>?_) fun hc=>?_|fail)<;>try exact absurd trivial hc)
 all_goals (try exact absurd rfl hc)
 refine cP rfl rfl (zil s _ (by omega)) ?_
 have hpa:=Qx s
 cases hsh:X3 s
 all_goals first
  |(have hp0:ptL s=[]:=by unfold ptL;rw [hsh];rfl
    rw [hp0] at hpa
    (refine kW ?_)
    refine cP rfl rfl (hpa _ (by omega)) ?_
    ((repeat' first|refine kW ?_|refine kU fun bk=>?_|refine kV fun hc=>?_|refine kZ (fun hc=>?_) fun hc=>?_|fail)<;>try exact absurd trivial hc))
  |(have hl40:=zc8 hsh
    have hp0:=znP hsh
    rw [hp0] at hpa
    (refine kW ?_)
    refine zk [] mixed ?_
    (refine za 0 ?_)
    refine cT 1 rfl rfl (ZN s 0 2 rfl rfl rfl (by omega) (by omega)) ?_
    refine cT 2 rfl rfl (wV Xa (s.take 2) rfl rfl (by simp [Xa];omega)) ?_
    refine cT 3 rfl rfl (wV (Xa++s.take 2) [47] rfl rfl (by simp [Xa];omega)) ?_
    (refine za 4 ?_)
    refine cT 5 rfl rfl (ZN s 2 s.length rfl rfl rfl (by omega) (Nat.le_refl _)) ?_
    rw [zmV s hl40]
    refine cT 6 rfl rfl (wV (Xa++s.take 2++[47]) (s.drop 2) rfl rfl (by simp [Xa];omega)) ?_
    (refine za 7 ?_)
    refine cD ?_
    (refine kW ?_)
    refine cP rfl rfl (hpa _ (by omega)) ?_
    ((repeat' first|refine kW ?_|refine kU fun bk=>?_|refine kV fun hc=>?_|refine kZ (fun hc=>?_) fun hc=>?_|fail)<;>try exact absurd trivial hc))
 all_goals first
  |(refine cP rfl rfl (XK _ (by repeat (first|exact hb|apply wP.there)) (by repeat (first|exact hor|apply qQ.there))) ?_
    (refine kW ?_)
    exact kE)
  |(obtain ⟨kn,rfl⟩:∃kn:Nat,k=(kn:Int):=⟨k.toNat,by omega⟩
    refine cC rfl rfl (zjR kn (.slice a1 b.length c1) b _ (by omega) (by omega) (by omega) ⟨zm g1.sl,g1.room⟩ hb.there hor.there) (fun r L' hp=>?_)
    obtain ⟨C2,z,hF,h2,rfl⟩:=hp
    obtain ⟨az,cz,rfl,hcz⟩:=(SlC.ow (L:=[]) h2).room
    have hzl:=hF.l
    (refine kW ?_)
    refine cC rfl rfl (zdn az cz z _ (qz h2) (by omega) hcz hb.there.there hor.there.there) (fun r L' hp=>?_)
    obtain ⟨v3,C3,rfl,h3,rfl⟩:=hp
    rw [hF.prB] at h3
    rw [hF.e,hF.prK]
    ((repeat' first|refine kW ?_|refine kU fun bk=>?_|refine kV fun hc=>?_|refine kZ (fun hc=>?_) fun hc=>?_|fail)<;>try exact absurd trivial hc)
    refine ze (qD (m:=b.length) (b:=b) rfl (h3 _).sl) rfl ?_
    (refine kW ?_)
    refine ze (qD (m:=b.length) (b:=b) rfl (by repeat (first|exact g1.sl|apply zm))) rfl ?_
    ((repeat' first|refine kW ?_|refine kU fun bk=>?_|refine kV fun hc=>?_|refine kZ (fun hc=>?_) fun hc=>?_|fail)<;>try exact absurd trivial hc)
    refine cP rfl rfl (XK _ (by repeat (first|exact hb|apply wP.there)) (by repeat (first|exact hor|apply qQ.there))) ?_
    (refine kW ?_)
    exact kE)
end Go.Proofs.YtemdlifojcgplaaGreatDoor
namespace Go.Proofs.YtemdlifojcgplaaGreatDoor
open Go Go.Vx Go.ChangeShapes Go.WideShapes Go.ChangeAt Go.RowKit
set_option maxRecDepth 4000
set_option linter.all false
theorem zbg {H:Type} {enc:TypeId × Value→H} {P:Program} {W:World} {t e:TypeId} {a:Option Addr} {len cap:Nat} {d:DataW H} {ps:List MemPlace} (ht:P.underlying t=some (.slice e)) (he:P.underlying e=some (.int .u8)) (hc:P.cellsOf e=1)
 (h:DataW.Trod enc P W 0 (fun _=>true) true t (.slice a len cap) d ps) :
 ∃xs:List UInt8,xs.length=len∧SlC [blks W] 1 (.slice a len cap) len (bsv xs)∧len≤Rows.uptoBulk d∧(len=0∨∃el sp,d=.slice el sp∧el.length=len):=by
 have hx:len≤cap∧(len=0∨∃el sp,d=.slice el sp∧el.length=len):=by
  obtain ⟨fuel,hf⟩:=h
  rcases open_ints ht he hc hf with ⟨hcs,_⟩|⟨x,l,c,zs,hcs,_,hl,hm,hz,hx,hcell,hwz⟩
  ·simp [Value.cells] at hcs
   obtain ⟨rfl,rfl,rfl⟩:=hcs
   exact ⟨Nat.le_refl _,.inl rfl⟩
  ·simp [Value.cells] at hcs
   obtain ⟨rfl,rfl,rfl⟩:=hcs
   have hzl:zs.length=cap:=by simpa using hz
   have hd:d=.slice (lits .u8 (zs.take len)) (lits .u8 (zs.drop len)):=by injection hx
   exact ⟨hl,.inr ⟨_,_,hd,by simp [lits];omega⟩⟩
 obtain ⟨xs,h1,h2,h3,h4⟩:=open_row ht he hc h
 refine ⟨xs.map fun n=>UInt8.ofNat n.toNat,by simpa using h1,⟨?_,_,_,rfl,hx.1⟩,h4,hx.2⟩
 rw [zjb xs h2]
 exact h3
theorem zco {H:Type} {P:Program} {ts:List TypeId} {ds:List (DataW H)} (h:(DataW.weightsEach P ts ds).all (·≤reachBytes)=true) {j:Nat} {t e:TypeId} {d:DataW H} {len:Nat} (ht:ts[j]? =some t) (hd:ds[j]? =some d) (hu:P.underlying t=some (.slice e)) (hb:P.bytesOf e=1)
 (hl:len=0∨∃el sp,d=.slice el sp∧el.length=len):len≤140737488351232:=by
 rcases hl with rfl|⟨el,sp,rfl,rfl⟩
 ·omega
 ·have:=sized_slice h ht hd hu
  rw [hb,Nat.mul_one] at this
  simp [reachBytes] at this
  omega
end Go.Proofs.YtemdlifojcgplaaGreatDoor
