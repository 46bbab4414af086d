/- Contracts and facts on the way to the top. It proves no statement by itself. No conditions. -/
import Derived.Test.YtfbfcapoobmdpaaGreatDoorPG5
set_option maxHeartbeats 16000000
namespace Go.So
set_option linter.all false
variable {α : Type}
theorem zlg (f:Nat→α) {s m e:Nat} (h1:s≤m) (h2:m≤e) (h:¬(s < m∧m < e)):rot f s m e=f:=by
 funext k
 simp only [rot]
 repeat' split
 all_goals first
  |rfl
  |(exfalso;omega)
  |(congr 1;omega)
theorem Y3 {key:α→Nat} {a mid b:Nat} {g1 g2 g3:Nat→α} (ha:a≤mid) (hc:∀i j,a≤i→i < mid→mid≤j→j < b→key (g1 i)≤key (g1 j)) (m2:Mv a mid g1 g2) (m3:Mv mid b g2 g3) (s2:Srt key a mid g2) (s3:Srt key mid b g3):Srt key a b g3:=by
 refine Srt.join (m:=mid) (s2.congr fun k hk1 hk2=>m3.out (.inl hk2)) s3 ?_
 intro i j hi hi2 hj hj2
 rw [m3.out (.inl hi2)]
 refine m3.all (p:=fun x=>key (g2 i)≤key x) (fun j hj hj2=>?_) j hj hj2
 rw [m2.out (.inr hj)]
 exact m2.all (p:=fun x=>key x≤key (g1 j)) (fun i hi hi2=>hc i j hi hi2 hj hj2) i hi hi2
theorem zcf {key:α→Nat} {a s m mid e b:Nat} {f:Nat→α} (h1:a≤s) (h2:s≤m) (h3:m≤e) (h4:e≤b) (hm:s+(e - m)=mid) (sl:Srt key a m f) (sr:Srt key m b f)
 (hab:a < s→e < b→key (f (s - 1))≤key (f e)) (hba:m < e→s < m→key (f (e - 1))≤key (f s)) :
 (∀i j,a≤i→i < mid→mid≤j→j < b→key (rot f s m e i)≤key (rot f s m e j))∧Srt key a s (rot f s m e)∧Srt key s mid (rot f s m e)∧Srt key mid e (rot f s m e)∧Srt key e b (rot f s m e):=by
 have v1:∀k,k < s→rot f s m e k=f k:=fun k hk=>by simp only [rot];rw [if_neg (by omega),if_neg (by omega)]
 have v2:∀k,s≤k→k < mid→rot f s m e k=f (k - s+m):=fun k hk hk2=>by simp only [rot];rw [if_pos (by omega)]
 have v3:∀k,mid≤k→k < e→rot f s m e k=f (k - (e - m)):=fun k hk hk2=>by simp only [rot];rw [if_neg (by omega),if_pos (by omega)]
 have v4:∀k,e≤k→rot f s m e k=f k:=fun k hk=>by simp only [rot];rw [if_neg (by omega),if_neg (by omega)]
 refine ⟨fun i j hi hi2 hj hj2=>?_,fun i j p q r=>?_,fun i j p q r=>?_,fun i j p q r=>?_,fun i j p q r=>?_⟩
 ·by_cases ci:i < s
  ·rw [v1 i ci]
   by_cases cj:j < e
   ·rw [v3 j hj cj]
    exact sl i _ hi (by omega) (by omega)
   ·rw [v4 j (by omega)]
    exact Nat.le_trans (sl i (s - 1) hi (by omega) (by omega)) (Nat.le_trans (hab (by omega) (by omega)) (sr e j (by omega) (by omega) hj2))
  ·rw [v2 i (by omega) hi2]
   by_cases cj:j < e
   ·rw [v3 j hj cj]
    exact Nat.le_trans (sr _ (e - 1) (by omega) (by omega) (by omega)) (Nat.le_trans (hba (by omega) (by omega)) (sl s _ (by omega) (by omega) (by omega)))
   ·rw [v4 j (by omega)]
    exact sr _ _ (by omega) (by omega) hj2
 ·rw [v1 i (by omega),v1 j r];exact sl i j p q (by omega)
 ·rw [v2 i (by omega) (by omega),v2 j (by omega) r];exact sr _ _ (by omega) (by omega) (by omega)
 ·rw [v3 i (by omega) (by omega),v3 j (by omega) r];exact sl _ _ (by omega) (by omega) (by omega)
 ·rw [v4 i (by omega),v4 j (by omega)];exact sr _ _ (by omega) (by omega) (by omega)
end Go.So
namespace Go.Proofs.YtfbfcapoobmdpaaGreatDoor
open Go Go.Vx Go.So
variable [W0]
set_option maxRecDepth 4000
set_option linter.all false
def zoS (N k:Nat):Prop:=∀(f:Nat→Nat × Nat) (b0 cap a m b:Nat) (rest:List Value) (L:List Chunk),b - a≤k→a < m→m < b→b≤N→Srt ky a m f→Srt ky m b f→
 Gv Tryz.prog 298 [.slice (some ⟨b0,0,none⟩) N cap,.int .i64 (a:Int),.int .i64 (m:Int),.int .i64 (b:Int),uz].toArray ([(b0,cl (cvs f N++rest) 352)]::L)
  (fun r L'=>r=.tuple #[]∧∃g,Mv a b f g∧Srt ky a b g∧L'=[(b0,cl (cvs g N++rest) 352)]::L)
theorem zg4 (N:Nat) (hN:N≤1000):∀k,zoS N k:=by
 intro k
 induction k with
 |zero=>intro f b0 cap a m b rest L h;omega
 |succ k ih=>
  intro f b0 cap a m b rest L hk h1 h2 h3 sl sr
  refine Gv.of_body Tryz.func298 rfl rfl ?_
  (repeat' first|refine kW ?_|refine kU fun bk=>?_|refine kV fun hc=>?_|refine kZ (fun hc=>?_) fun hc=>?_|fail)
  ·have hma:m=a+1:=by omega
   refine zn (X:=Nat × Nat) (fun x=>[(0,.slice (some ⟨b0,0,none⟩) N cap),(1,.int .i64 (a:Int)),(2,.int .i64 (m:Int)),(3,.int .i64 (b:Int)),(4,uz),(10,.int .i64 (x.1:Int)),(11,.int .i64 (x.2:Int))])
    (fun x=>[(b0,cl (cvs f N++rest) 352)]::L) (fun x=>m≤x.1∧x.1≤x.2∧x.2≤b∧(∀t,m≤t→t < x.1→ky (f t) < ky (f a))∧∀t,x.2≤t→t < b→ky (f a)≤ky (f t)) (fun x=>x.2 - x.1) (m,b)
    ⟨Nat.le_refl _,by simp only;omega,Nat.le_refl _,fun t p q=>by simp only at q;omega,fun t p q=>by simp only at p;omega⟩ iS (fun w h=>h) ?_
   rintro ⟨i,j⟩ ⟨q1,q2,q3,q4,q5⟩
   simp only at q1 q2 q3 q4 q5 ⊢
   (repeat' first|refine kW ?_|refine kU fun bk=>?_|refine kV fun hc=>?_|refine kZ (fun hc=>?_) fun hc=>?_|fail)
   ·rw [show ((i:Int)+(j:Int)) / 2=(((i+j) / 2:Nat):Int) from by omega]
    obtain ⟨h,hh⟩:∃h,h=(i+j) / 2:=⟨_,rfl⟩
    rw [←hh]
    refine zk [] mixed ?_
    (refine za 0 ?_;refine za 1 ?_;refine za 2 ?_)
    refine cT 3 rfl rfl (zh (j:=h) (len:=N) rfl rfl rfl (by omega)) ?_
    refine cT 4 rfl rfl (zB rfl (vC (f:=f) (n:=N) (j:=h) (rest:=rest) (by omega) (by repeat (first|assumption|exact Fnd.here|refine Fnd.there ?_))) rfl) ?_
    (refine za 5 ?_;refine za 6 ?_)
    refine cT 7 rfl rfl (zh (j:=a) (len:=N) rfl rfl rfl (by omega)) ?_
    refine cT 8 rfl rfl (zB rfl (vC (f:=f) (n:=N) (j:=a) (rest:=rest) (by omega) (by repeat (first|assumption|exact Fnd.here|refine Fnd.there ?_))) rfl) ?_
    refine cI 9 rfl rfl ?_
    refine cP rfl rfl (zaM (f h) (f a) _) ?_
    refine ⟨iC,?_⟩
    (refine za 10 ?_)
    rw [XM]
    refine cD ?_
    (repeat' first|refine kW ?_|refine kU fun bk=>?_|refine kV fun hc=>?_|refine kZ (fun hc=>?_) fun hc=>?_|fail)
    ·have hky:ky (f h) < ky (f a):=by assumption
     refine zf (X:=Nat × Nat) (μ:=fun x=>x.2 - x.1) (x:=(i,j)) (h+1,j) (by simp only;omega) ⟨by simp only;omega,by simp only;omega,q3,fun t p q=>?_,q5⟩ iS (fun w h=>h)
     simp only at q
     exact Nat.lt_of_le_of_lt (sr t h p (by omega) (by omega)) hky
    ·have hky:¬ky (f h) < ky (f a):=by assumption
     refine zf (X:=Nat × Nat) (μ:=fun x=>x.2 - x.1) (x:=(i,j)) (i,h) (by simp only;omega) ⟨q1,by simp only;omega,by simp only;omega,q4,fun t p q=>?_⟩ iS (fun w h=>h)
     simp only at p
     exact Nat.le_trans (by omega) (sr h t (by omega) p q)
   ·have hij:i=j:=by omega
    refine zn (X:=Nat × (Nat→Nat × Nat)) (fun x=>[(0,.slice (some ⟨b0,0,none⟩) N cap),(10,.int .i64 (i:Int)),(13,.int .i64 (x.1:Int))])
     (fun x=>[(b0,cl (cvs x.2 N++rest) 352)]::L) (fun x=>a≤x.1∧x.1≤i - 1∧Mv a b f x.2∧x.2 x.1=f a∧(∀t,a≤t→t < x.1→x.2 t=f (t+1))∧∀t,x.1 < t→x.2 t=f t) (fun x=>i - x.1) (a,f)
     ⟨Nat.le_refl _,by simp only;omega,.refl f,rfl,fun t p q=>by simp only at q;omega,fun t p=>rfl⟩ iS (fun w h=>h) ?_
    rintro ⟨k,g⟩ ⟨r1,r2,r3,r4,r5,r6⟩
    simp only at r1 r2 r3 r4 r5 r6 ⊢
    (repeat' first|refine kW ?_|refine kU fun bk=>?_|refine kV fun hc=>?_|refine kZ (fun hc=>?_) fun hc=>?_|fail)
    ·refine zk [2,3,4,15,16,17] mixed ?_
     (refine Qj 2 ?_;refine Qj 3 ?_;refine Qj 4 ?_)
     (refine yU 0 ?_;refine yU 1 ?_;refine yU 5 ?_;refine yU 6 ?_;refine yU 7 ?_)
     (refine yB 8 rfl rfl (by kernel_rfl) iP iC (zh (j:=k+1) (len:=N) rfl rfl (by omega) (by omega)) (by rfl) ?_)
     (refine yB 9 rfl rfl (by kernel_rfl) iP iC (zB rfl (vC (f:=g) (n:=N) (j:=k+1) (rest:=rest) (by omega) (by repeat (first|assumption|exact Fnd.here|refine Fnd.there ?_))) rfl) (by rfl) ?_)
     (refine yU 10 ?_;refine yU 11 ?_)
     (refine yB 12 rfl rfl (by kernel_rfl) iP iC (zh (j:=k) (len:=N) rfl rfl rfl (by omega)) (by rfl) ?_)
     (refine yB 13 rfl rfl (by kernel_rfl) iP iC (zB rfl (vC (f:=g) (n:=N) (j:=k) (rest:=rest) (by omega) (by repeat (first|assumption|exact Fnd.here|refine Fnd.there ?_))) rfl) (by rfl) ?_)
     (refine yB 14 rfl rfl (by kernel_rfl) iP iC (zh (j:=k) (len:=N) rfl rfl rfl (by omega)) (by rfl) ?_)
     refine cL 15 rfl rfl rfl ?_
     refine zo (vs:=cv (g (k+1))) (cvs (upd g (k) (g (k+1))) N++rest) rfl rfl rfl rfl (uD (by omega)) iU (by rw [List.length_append,y8];simp [cv];omega) ?_
     refine cL 16 rfl rfl rfl ?_
     refine ze (zh (j:=k+1) (len:=N) rfl rfl (by omega) (by omega)) rfl ?_
     refine cL 17 rfl rfl rfl ?_
     refine zo (l:=cvs (upd g (k) (g (k+1))) N++rest) (vs:=cv (g (k))) (cvs (swp g (k) (k+1)) N++rest) rfl rfl rfl rfl (by rw [uD (n:=N) (rest:=rest) (j:=k+1) (by omega),zax]) iU (by rw [List.length_append,y8];simp [cv];omega) ?_
     refine cD ?_
     refine kW ?_
     refine zf (X:=Nat × (Nat→Nat × Nat)) (μ:=fun x=>i - x.1) (x:=(k,g)) (k+1,swp g k (k+1)) (by simp only;omega) ⟨by simp only;omega,by simp only;omega,r3.step (by omega) (by omega) (by omega) (by omega),?_,fun t p q=>?_,fun t p=>?_⟩ iS (fun w h=>h)
     ·show swp g k (k+1) (k+1)=f a
      unfold swp
      rw [if_neg (by omega),if_pos rfl]
      exact r4
     ·show swp g k (k+1) t=f (t+1)
      unfold swp
      simp only at q
      by_cases e:t=k
      ·rw [if_pos e,r6 (k+1) (by omega),e]
      ·rw [if_neg e,if_neg (by omega)]
       exact r5 t p (by omega)
     ·show swp g k (k+1) t=f t
      unfold swp
      simp only at p
      rw [if_neg (by omega),if_neg (by omega)]
      exact r6 t (by omega)
    ·have hki:k=i - 1:=by omega
     refine kR ?_
     refine ⟨_,iC,rfl,g,r3,fun p q hp hpq hq=>?_,rfl⟩
     by_cases e1:p < k
     ·rw [r5 p hp e1]
      by_cases e2:q < k
      ·rw [r5 q (by omega) e2];exact sr _ _ (by omega) (by omega) (by omega)
      ·by_cases e3:q=k
       ·rw [e3,r4];exact Nat.le_of_lt (q4 _ (by omega) (by omega))
       ·rw [r6 q (by omega)];exact sr _ _ (by omega) (by omega) hq
     ·by_cases e2:p=k
      ·rw [e2,r4]
       by_cases e3:q=k
       ·rw [e3,r4];exact Nat.le_refl _
       ·rw [r6 q (by omega)];exact q5 q (by omega) hq
      ·rw [r6 p (by omega),r6 q (by omega)];exact sr _ _ (by omega) hpq hq
  ·have hmb:b=m+1:=by omega
   refine zn (X:=Nat × Nat) (fun x=>[(0,.slice (some ⟨b0,0,none⟩) N cap),(1,.int .i64 (a:Int)),(2,.int .i64 (m:Int)),(3,.int .i64 (b:Int)),(4,uz),(14,.int .i64 (x.1:Int)),(15,.int .i64 (x.2:Int))])
    (fun x=>[(b0,cl (cvs f N++rest) 352)]::L) (fun x=>a≤x.1∧x.1≤x.2∧x.2≤m∧(∀t,a≤t→t < x.1→ky (f t)≤ky (f m))∧∀t,x.2≤t→t < m→ky (f m)≤ky (f t)) (fun x=>x.2 - x.1) (a,m)
    ⟨Nat.le_refl _,by simp only;omega,Nat.le_refl _,fun t p q=>by simp only at q;omega,fun t p q=>by simp only at p;omega⟩ iS (fun w h=>h) ?_
   rintro ⟨i,j⟩ ⟨q1,q2,q3,q4,q5⟩
   simp only at q1 q2 q3 q4 q5 ⊢
   (repeat' first|refine kW ?_|refine kU fun bk=>?_|refine kV fun hc=>?_|refine kZ (fun hc=>?_) fun hc=>?_|fail)
   ·rw [show ((i:Int)+(j:Int)) / 2=(((i+j) / 2:Nat):Int) from by omega]
    obtain ⟨h,hh⟩:∃h,h=(i+j) / 2:=⟨_,rfl⟩
    rw [←hh]
    refine zk [] mixed ?_
    (refine za 0 ?_;refine za 1 ?_;refine za 2 ?_)
    refine cT 3 rfl rfl (zh (j:=m) (len:=N) rfl rfl rfl (by omega)) ?_
    refine cT 4 rfl rfl (zB rfl (vC (f:=f) (n:=N) (j:=m) (rest:=rest) (by omega) (by repeat (first|assumption|exact Fnd.here|refine Fnd.there ?_))) rfl) ?_
    (refine za 5 ?_;refine za 6 ?_)
    refine cT 7 rfl rfl (zh (j:=h) (len:=N) rfl rfl rfl (by omega)) ?_
    refine cT 8 rfl rfl (zB rfl (vC (f:=f) (n:=N) (j:=h) (rest:=rest) (by omega) (by repeat (first|assumption|exact Fnd.here|refine Fnd.there ?_))) rfl) ?_
    refine cI 9 rfl rfl ?_
    refine cP rfl rfl (zaM (f m) (f h) _) ?_
    refine ⟨iC,?_⟩
    (refine za 10 ?_)
    rw [XM]
    (refine za 11 ?_)
    refine cD ?_
    (repeat' first|refine kW ?_|refine kU fun bk=>?_|refine kV fun hc=>?_|refine kZ (fun hc=>?_) fun hc=>?_|fail)
    ·have hky:¬ky (f m) < ky (f h):=by assumption
     refine zf (X:=Nat × Nat) (μ:=fun x=>x.2 - x.1) (x:=(i,j)) (h+1,j) (by simp only;omega) ⟨by simp only;omega,by simp only;omega,q3,fun t p q=>?_,q5⟩ iS (fun w h=>h)
     simp only at q
     exact Nat.le_trans (sl t h p (by omega) (by omega)) (by omega)
    ·have hky:ky (f m) < ky (f h):=by assumption
     refine zf (X:=Nat × Nat) (μ:=fun x=>x.2 - x.1) (x:=(i,j)) (i,h) (by simp only;omega) ⟨q1,by simp only;omega,by simp only;omega,q4,fun t p q=>?_⟩ iS (fun w h=>h)
     simp only at p
     exact Nat.le_trans (Nat.le_of_lt hky) (sl h t (by omega) p q)
   ·have hij:i=j:=by omega
    refine zn (X:=Nat × (Nat→Nat × Nat)) (fun x=>[(0,.slice (some ⟨b0,0,none⟩) N cap),(14,.int .i64 (i:Int)),(17,.int .i64 (x.1:Int))])
     (fun x=>[(b0,cl (cvs x.2 N++rest) 352)]::L) (fun x=>i≤x.1∧x.1≤m∧Mv a b f x.2∧x.2 x.1=f m∧(∀t,x.1 < t→t≤m→x.2 t=f (t - 1))∧∀t,t < x.1→x.2 t=f t) (fun x=>x.1) (m,f)
     ⟨by simp only;omega,Nat.le_refl _,.refl f,rfl,fun t p q=>by simp only at p;omega,fun t p=>rfl⟩ iS (fun w h=>h) ?_
    rintro ⟨k,g⟩ ⟨r1,r2,r3,r4,r5,r6⟩
    simp only at r1 r2 r3 r4 r5 r6 ⊢
    (repeat' first|refine kW ?_|refine kU fun bk=>?_|refine kV fun hc=>?_|refine kZ (fun hc=>?_) fun hc=>?_|fail)
    ·refine zk [2,3,4,15,16,17] mixed ?_
     (refine Qj 2 ?_;refine Qj 3 ?_;refine Qj 4 ?_)
     (refine yU 0 ?_;refine yU 1 ?_;refine yU 5 ?_;refine yU 6 ?_;refine yU 7 ?_)
     (refine yB 8 rfl rfl (by kernel_rfl) iP iC (zh (j:=k - 1) (len:=N) rfl rfl (by omega) (by omega)) (by rfl) ?_)
     (refine yB 9 rfl rfl (by kernel_rfl) iP iC (zB rfl (vC (f:=g) (n:=N) (j:=k - 1) (rest:=rest) (by omega) (by repeat (first|assumption|exact Fnd.here|refine Fnd.there ?_))) rfl) (by rfl) ?_)
     (refine yU 10 ?_;refine yU 11 ?_)
     (refine yB 12 rfl rfl (by kernel_rfl) iP iC (zh (j:=k) (len:=N) rfl rfl rfl (by omega)) (by rfl) ?_)
     (refine yB 13 rfl rfl (by kernel_rfl) iP iC (zB rfl (vC (f:=g) (n:=N) (j:=k) (rest:=rest) (by omega) (by repeat (first|assumption|exact Fnd.here|refine Fnd.there ?_))) rfl) (by rfl) ?_)
     (refine yB 14 rfl rfl (by kernel_rfl) iP iC (zh (j:=k) (len:=N) rfl rfl rfl (by omega)) (by rfl) ?_)
     refine cL 15 rfl rfl rfl ?_
     refine zo (vs:=cv (g (k - 1))) (cvs (upd g (k) (g (k - 1))) N++rest) rfl rfl rfl rfl (uD (by omega)) iU (by rw [List.length_append,y8];simp [cv];omega) ?_
     refine cL 16 rfl rfl rfl ?_
     refine ze (zh (j:=k - 1) (len:=N) rfl rfl (by omega) (by omega)) rfl ?_
     refine cL 17 rfl rfl rfl ?_
     refine zo (l:=cvs (upd g (k) (g (k - 1))) N++rest) (vs:=cv (g (k))) (cvs (swp g (k) (k - 1)) N++rest) rfl rfl rfl rfl (by rw [uD (n:=N) (rest:=rest) (j:=k - 1) (by omega),zax]) iU (by rw [List.length_append,y8];simp [cv];omega) ?_
     refine cD ?_
     refine kW ?_
     refine zf (X:=Nat × (Nat→Nat × Nat)) (μ:=fun x=>x.1) (x:=(k,g)) (k - 1,swp g k (k - 1)) (by simp only;omega) ⟨by simp only;omega,by simp only;omega,r3.step (by omega) (by omega) (by omega) (by omega),?_,fun t p q=>?_,fun t p=>?_⟩ iS (fun w h=>h)
     ·show swp g k (k - 1) (k - 1)=f m
      unfold swp
      rw [if_neg (by omega),if_pos rfl]
      exact r4
     ·show swp g k (k - 1) t=f (t - 1)
      unfold swp
      simp only at p
      by_cases e:t=k
      ·rw [if_pos e,r6 (k - 1) (by omega),e]
      ·rw [if_neg e,if_neg (by omega)]
       exact r5 t (by omega) q
     ·show swp g k (k - 1) t=f t
      unfold swp
      simp only at p
      rw [if_neg (by omega),if_neg (by omega)]
      exact r6 t (by omega)
    ·have hki:k=i:=by omega
     refine kR ?_
     refine ⟨_,iC,rfl,g,r3,fun p q hp hpq hq=>?_,rfl⟩
     by_cases e1:p < k
     ·rw [r6 p e1]
      by_cases e2:q < k
      ·rw [r6 q e2];exact sl _ _ hp hpq (by omega)
      ·by_cases e3:q=k
       ·rw [e3,r4];exact q4 _ hp (by omega)
       ·rw [r5 q (by omega) (by omega)];exact sl _ _ hp (by omega) (by omega)
     ·by_cases e2:p=k
      ·rw [e2,r4]
       by_cases e3:q=k
       ·rw [e3,r4];exact Nat.le_refl _
       ·rw [r5 q (by omega) (by omega)];exact q5 _ (by omega) (by omega)
      ·rw [r5 p (by omega) (by omega),r5 q (by omega) (by omega)];exact sl _ _ (by omega) (by omega) (by omega)
  ·obtain ⟨mid,hmid⟩:∃mid,mid=(a+b) / 2:=⟨_,rfl⟩
   obtain ⟨s0,hs0⟩:∃s0,s0=mid+m - b:=⟨_,rfl⟩
   obtain ⟨r0,hr0⟩:∃r0,r0=mid:=⟨_,rfl⟩
   have hsr:s0≤r0:=by omega
   refine zn (X:=Nat × Nat) (fun x=>[(0,.slice (some ⟨b0,0,none⟩) N cap),(1,.int .i64 (a:Int)),(2,.int .i64 (m:Int)),(3,.int .i64 (b:Int)),(4,uz),(18,.int .i64 (mid:Int)),(19,.int .i64 ((mid+m:Nat):Int)),(20,.int .i64 (x.1:Int)),(21,.int .i64 (x.2:Int)),(22,.int .i64 ((mid+m - 1:Nat):Int))])
    (fun x=>[(b0,cl (cvs f N++rest) 352)]::L) (fun x=>s0≤x.1∧x.1≤x.2∧x.2≤r0∧(∀t,s0≤t→t < x.1→ky (f t)≤ky (f (mid+m - 1 - t)))∧∀t,x.2≤t→t < r0→ky (f (mid+m - 1 - t)) < ky (f t)) (fun x=>x.2 - x.1) (s0,r0)
    ⟨Nat.le_refl _,hsr,Nat.le_refl _,fun t p q=>by simp only at q;omega,fun t p q=>by simp only at p;omega⟩ iS (fun w h=>h) ?_
   rintro ⟨s,r⟩ ⟨q1,q2,q3,q4,q5⟩
   simp only at q1 q2 q3 q4 q5 ⊢
   refine vg ?_
   (repeat' first|refine kY ?_|refine kU fun bk=>?_|refine kV fun hc=>?_|refine kZ (fun hc=>?_) fun hc=>?_|fail)
   refine vg ?_
   (repeat' first|refine kY ?_|refine kU fun bk=>?_|refine kV fun hc=>?_|refine kZ (fun hc=>?_) fun hc=>?_|fail)
   ·refine kW ?_
    rw [show ((s:Int)+(r:Int)) / 2=(((s+r) / 2:Nat):Int) from by omega]
    obtain ⟨h,hh⟩:∃h,h=(s+r) / 2:=⟨_,rfl⟩
    rw [←hh]
    refine zk [] mixed ?_
    (refine za 0 ?_;refine za 1 ?_;refine za 2 ?_;refine za 3 ?_;refine za 4 ?_)
    refine cT 5 rfl rfl (zh (j:=mid+m - 1 - h) (len:=N) rfl rfl (by omega) (by omega)) ?_
    refine cT 6 rfl rfl (zB rfl (vC (f:=f) (n:=N) (j:=mid+m - 1 - h) (rest:=rest) (by omega) (by repeat (first|assumption|exact Fnd.here|refine Fnd.there ?_))) rfl) ?_
    (refine za 7 ?_;refine za 8 ?_)
    refine cT 9 rfl rfl (zh (j:=h) (len:=N) rfl rfl rfl (by omega)) ?_
    refine cT 10 rfl rfl (zB rfl (vC (f:=f) (n:=N) (j:=h) (rest:=rest) (by omega) (by repeat (first|assumption|exact Fnd.here|refine Fnd.there ?_))) rfl) ?_
    refine cI 11 rfl rfl ?_
    refine cP rfl rfl (zaM (f (mid+m - 1 - h)) (f h) _) ?_
    refine ⟨iC,?_⟩
    (refine za 12 ?_)
    rw [XM]
    (refine za 13 ?_)
    refine cD ?_
    (repeat' first|refine kW ?_|refine kU fun bk=>?_|refine kV fun hc=>?_|refine kZ (fun hc=>?_) fun hc=>?_|fail)
    ·have hky:¬ky (f (mid+m - 1 - h)) < ky (f h):=by assumption
     refine zf (X:=Nat × Nat) (μ:=fun x=>x.2 - x.1) (x:=(s,r)) (h+1,r) (by simp only;omega) ⟨by simp only;omega,by simp only;omega,q3,fun t p q=>?_,q5⟩ iS (fun w h=>h)
     simp only at q
     have e1:=sl t h (by omega) (by omega) (by omega)
     have e2:=sr (mid+m - 1 - h) (mid+m - 1 - t) (by omega) (by omega) (by omega)
     omega
    ·have hky:ky (f (mid+m - 1 - h)) < ky (f h):=by assumption
     refine zf (X:=Nat × Nat) (μ:=fun x=>x.2 - x.1) (x:=(s,r)) (s,h) (by simp only;omega) ⟨q1,by simp only;omega,by simp only;omega,q4,fun t p q=>?_⟩ iS (fun w h=>h)
     simp only at p
     have e1:=sl h t (by omega) (by omega) (by omega)
     have e2:=sr (mid+m - 1 - t) (mid+m - 1 - h) (by omega) (by omega) (by omega)
     omega
   ·have hsr2:s=r:=by omega
    obtain ⟨e,he⟩:∃e,e=mid+m - s:=⟨_,rfl⟩
    have hem:m≤e:=by omega
    have heb:e≤b:=by omega
    have hsm:s≤m:=by omega
    obtain ⟨hc1,k1,k2,k3,k4⟩:=zcf (key:=ky) (f:=f) (a:=a) (s:=s) (m:=m) (mid:=mid) (e:=e) (b:=b) (by omega) hsm hem heb (by omega) sl sr
     (fun p q=>by
       have:=q4 (s - 1) (by omega) (by omega)
       rw [show mid+m - 1 - (s - 1)=e from by omega] at this
       exact this)
     (fun p q=>by
       have:=q5 s (by omega) (by omega)
       rw [show mid+m - 1 - s=e - 1 from by omega] at this
       exact Nat.le_of_lt this)
    refine vg ?_
    (repeat' first|refine kY ?_|refine kU fun bk=>?_|refine kV fun hc=>?_|refine kZ (fun hc=>?_) fun hc=>?_|fail)
    refine Zx (X:=Nat→Nat × Nat) (fun g=>[(0,.slice (some ⟨b0,0,none⟩) N cap),(1,.int .i64 (a:Int)),(2,.int .i64 (m:Int)),(3,.int .i64 (b:Int)),(4,uz),(18,.int .i64 (mid:Int)),(20,.int .i64 (s:Int)),(24,.int .i64 (e:Int))])
     (fun g=>[(b0,cl (cvs g N++rest) 352)]::L) (fun g=>Mv a b f g∧g=rot f s m e) ?_ ?_
    ·have hid:¬(s < m∧m < e)→f=rot f s m e:=fun h=>(zlg f hsm hem h).symm
     refine wJ (fun w h=>h) (WC.sub (M':=[(0,.slice (some ⟨b0,0,none⟩) N cap),(1,.int .i64 (a:Int)),(2,.int .i64 (m:Int)),(3,.int .i64 (b:Int)),(4,uz),(18,.int .i64 (mid:Int)),(20,.int .i64 (s:Int)),(24,.int .i64 (e:Int))]) ?_ iS)
     (repeat' first|refine kW ?_|refine kU fun bk=>?_|refine kV fun hc=>?_|refine kZ (fun hc=>?_) fun hc=>?_|fail)
     all_goals first
      |exact yA f ⟨.refl f,hid (by omega)⟩ iS (fun w h=>h)
      |skip
     refine cC rfl rfl (zeF f N b0 cap s m e rest L hN (by omega) (by omega) (by omega)) (fun r L' hp=>?_)
     obtain ⟨rfl,g,hg1,hg2,rfl⟩:=hp
     refine kW ?_
     exact yA g ⟨hg1.mono (by omega) heb,hg2⟩ iS (fun w h=>h)
    rintro g1 ⟨hg1,hg2⟩
    rw [←hg2] at hc1 k1 k2 k3 k4
    refine Zx (X:=Nat→Nat × Nat) (fun g=>[(0,.slice (some ⟨b0,0,none⟩) N cap),(1,.int .i64 (a:Int)),(2,.int .i64 (m:Int)),(3,.int .i64 (b:Int)),(4,uz),(18,.int .i64 (mid:Int)),(20,.int .i64 (s:Int)),(24,.int .i64 (e:Int))])
     (fun g=>[(b0,cl (cvs g N++rest) 352)]::L) (fun g=>Mv a mid g1 g∧Srt ky a mid g) ?_ ?_
    ·have hid:¬(a < s∧s < mid)→Srt ky a mid g1:=fun h=>by
      by_cases e1:s=a
      ·rw [e1] at k2;exact k2
      ·rw [show mid=s from by omega];exact k1
     (repeat' first|refine kW ?_|refine kU fun bk=>?_|refine kV fun hc=>?_|refine kZ (fun hc=>?_) fun hc=>?_|fail)
     all_goals first
      |exact yA g1 ⟨.refl g1,hid (by omega)⟩ iS (fun w h=>h)
      |skip
     refine cC rfl rfl (ih g1 b0 cap a s mid rest L (by omega) (by omega) (by omega) (by omega) k1 k2) (fun r L' hp=>?_)
     obtain ⟨rfl,g,hg3,hg4,rfl⟩:=hp
     refine kW ?_
     exact yA g ⟨hg3,hg4⟩ iS (fun w h=>h)
    rintro g2 ⟨hg3,hg4⟩
    have k3':Srt ky mid e g2:=k3.congr fun k p q=>hg3.out (.inr p)
    have k4':Srt ky e b g2:=k4.congr fun k p q=>hg3.out (.inr (by omega))
    have hmv:Mv a b f g2:=hg1.trans (hg3.mono (Nat.le_refl _) (by omega))
    have hid:¬(mid < e∧e < b)→Srt ky mid b g2:=fun h=>by
     by_cases e1:e=mid
     ·rw [e1] at k4';exact k4'
     ·rw [show b=e from by omega];exact k3'
    (repeat' first|refine kW ?_|refine kU fun bk=>?_|refine kV fun hc=>?_|refine kZ (fun hc=>?_) fun hc=>?_|fail)
    all_goals first
     |(refine kR ?_
       exact ⟨_,iC,rfl,g2,hmv,Y3 (by omega) hc1 hg3 (.refl g2) hg4 (hid (by omega)),rfl⟩)
     |skip
    refine cC rfl rfl (ih g2 b0 cap mid e b rest L (by omega) (by omega) (by omega) (by omega) k3' k4') (fun r L' hp=>?_)
    obtain ⟨rfl,g,hg5,hg6,rfl⟩:=hp
    refine kW ?_
    refine kR ?_
    exact ⟨_,iC,rfl,g,hmv.trans (hg5.mono (by omega) (Nat.le_refl _)),Y3 (by omega) hc1 hg3 hg5 hg4 hg6,rfl⟩
  ·obtain ⟨mid,hmid⟩:∃mid,mid=(a+b) / 2:=⟨_,rfl⟩
   obtain ⟨s0,hs0⟩:∃s0,s0=a:=⟨_,rfl⟩
   obtain ⟨r0,hr0⟩:∃r0,r0=m:=⟨_,rfl⟩
   have hsr:s0≤r0:=by omega
   refine zn (X:=Nat × Nat) (fun x=>[(0,.slice (some ⟨b0,0,none⟩) N cap),(1,.int .i64 (a:Int)),(2,.int .i64 (m:Int)),(3,.int .i64 (b:Int)),(4,uz),(18,.int .i64 (mid:Int)),(19,.int .i64 ((mid+m:Nat):Int)),(20,.int .i64 (x.1:Int)),(21,.int .i64 (x.2:Int)),(22,.int .i64 ((mid+m - 1:Nat):Int))])
    (fun x=>[(b0,cl (cvs f N++rest) 352)]::L) (fun x=>s0≤x.1∧x.1≤x.2∧x.2≤r0∧(∀t,s0≤t→t < x.1→ky (f t)≤ky (f (mid+m - 1 - t)))∧∀t,x.2≤t→t < r0→ky (f (mid+m - 1 - t)) < ky (f t)) (fun x=>x.2 - x.1) (s0,r0)
    ⟨Nat.le_refl _,hsr,Nat.le_refl _,fun t p q=>by simp only at q;omega,fun t p q=>by simp only at p;omega⟩ iS (fun w h=>h) ?_
   rintro ⟨s,r⟩ ⟨q1,q2,q3,q4,q5⟩
   simp only at q1 q2 q3 q4 q5 ⊢
   refine vg ?_
   (repeat' first|refine kY ?_|refine kU fun bk=>?_|refine kV fun hc=>?_|refine kZ (fun hc=>?_) fun hc=>?_|fail)
   refine vg ?_
   (repeat' first|refine kY ?_|refine kU fun bk=>?_|refine kV fun hc=>?_|refine kZ (fun hc=>?_) fun hc=>?_|fail)
   ·refine kW ?_
    rw [show ((s:Int)+(r:Int)) / 2=(((s+r) / 2:Nat):Int) from by omega]
    obtain ⟨h,hh⟩:∃h,h=(s+r) / 2:=⟨_,rfl⟩
    rw [←hh]
    refine zk [] mixed ?_
    (refine za 0 ?_;refine za 1 ?_;refine za 2 ?_;refine za 3 ?_;refine za 4 ?_)
    refine cT 5 rfl rfl (zh (j:=mid+m - 1 - h) (len:=N) rfl rfl (by omega) (by omega)) ?_
    refine cT 6 rfl rfl (zB rfl (vC (f:=f) (n:=N) (j:=mid+m - 1 - h) (rest:=rest) (by omega) (by repeat (first|assumption|exact Fnd.here|refine Fnd.there ?_))) rfl) ?_
    (refine za 7 ?_;refine za 8 ?_)
    refine cT 9 rfl rfl (zh (j:=h) (len:=N) rfl rfl rfl (by omega)) ?_
    refine cT 10 rfl rfl (zB rfl (vC (f:=f) (n:=N) (j:=h) (rest:=rest) (by omega) (by repeat (first|assumption|exact Fnd.here|refine Fnd.there ?_))) rfl) ?_
    refine cI 11 rfl rfl ?_
    refine cP rfl rfl (zaM (f (mid+m - 1 - h)) (f h) _) ?_
    refine ⟨iC,?_⟩
    (refine za 12 ?_)
    rw [XM]
    (refine za 13 ?_)
    refine cD ?_
    (repeat' first|refine kW ?_|refine kU fun bk=>?_|refine kV fun hc=>?_|refine kZ (fun hc=>?_) fun hc=>?_|fail)
    ·have hky:¬ky (f (mid+m - 1 - h)) < ky (f h):=by assumption
     refine zf (X:=Nat × Nat) (μ:=fun x=>x.2 - x.1) (x:=(s,r)) (h+1,r) (by simp only;omega) ⟨by simp only;omega,by simp only;omega,q3,fun t p q=>?_,q5⟩ iS (fun w h=>h)
     simp only at q
     have e1:=sl t h (by omega) (by omega) (by omega)
     have e2:=sr (mid+m - 1 - h) (mid+m - 1 - t) (by omega) (by omega) (by omega)
     omega
    ·have hky:ky (f (mid+m - 1 - h)) < ky (f h):=by assumption
     refine zf (X:=Nat × Nat) (μ:=fun x=>x.2 - x.1) (x:=(s,r)) (s,h) (by simp only;omega) ⟨q1,by simp only;omega,by simp only;omega,q4,fun t p q=>?_⟩ iS (fun w h=>h)
     simp only at p
     have e1:=sl h t (by omega) (by omega) (by omega)
     have e2:=sr (mid+m - 1 - t) (mid+m - 1 - h) (by omega) (by omega) (by omega)
     omega
   ·have hsr2:s=r:=by omega
    obtain ⟨e,he⟩:∃e,e=mid+m - s:=⟨_,rfl⟩
    have hem:m≤e:=by omega
    have heb:e≤b:=by omega
    have hsm:s≤m:=by omega
    obtain ⟨hc1,k1,k2,k3,k4⟩:=zcf (key:=ky) (f:=f) (a:=a) (s:=s) (m:=m) (mid:=mid) (e:=e) (b:=b) (by omega) hsm hem heb (by omega) sl sr
     (fun p q=>by
       have:=q4 (s - 1) (by omega) (by omega)
       rw [show mid+m - 1 - (s - 1)=e from by omega] at this
       exact this)
     (fun p q=>by
       have:=q5 s (by omega) (by omega)
       rw [show mid+m - 1 - s=e - 1 from by omega] at this
       exact Nat.le_of_lt this)
    refine vg ?_
    (repeat' first|refine kY ?_|refine kU fun bk=>?_|refine kV fun hc=>?_|refine kZ (fun hc=>?_) fun hc=>?_|fail)
    refine Zx (X:=Nat→Nat × Nat) (fun g=>[(0,.slice (some ⟨b0,0,none⟩) N cap),(1,.int .i64 (a:Int)),(2,.int .i64 (m:Int)),(3,.int .i64 (b:Int)),(4,uz),(18,.int .i64 (mid:Int)),(20,.int .i64 (s:Int)),(24,.int .i64 (e:Int))])
     (fun g=>[(b0,cl (cvs g N++rest) 352)]::L) (fun g=>Mv a b f g∧g=rot f s m e) ?_ ?_
    ·have hid:¬(s < m∧m < e)→f=rot f s m e:=fun h=>(zlg f hsm hem h).symm
     refine wJ (fun w h=>h) (WC.sub (M':=[(0,.slice (some ⟨b0,0,none⟩) N cap),(1,.int .i64 (a:Int)),(2,.int .i64 (m:Int)),(3,.int .i64 (b:Int)),(4,uz),(18,.int .i64 (mid:Int)),(20,.int .i64 (s:Int)),(24,.int .i64 (e:Int))]) ?_ iS)
     (repeat' first|refine kW ?_|refine kU fun bk=>?_|refine kV fun hc=>?_|refine kZ (fun hc=>?_) fun hc=>?_|fail)
     all_goals first
      |exact yA f ⟨.refl f,hid (by omega)⟩ iS (fun w h=>h)
      |skip
     refine cC rfl rfl (zeF f N b0 cap s m e rest L hN (by omega) (by omega) (by omega)) (fun r L' hp=>?_)
     obtain ⟨rfl,g,hg1,hg2,rfl⟩:=hp
     refine kW ?_
     exact yA g ⟨hg1.mono (by omega) heb,hg2⟩ iS (fun w h=>h)
    rintro g1 ⟨hg1,hg2⟩
    rw [←hg2] at hc1 k1 k2 k3 k4
    refine Zx (X:=Nat→Nat × Nat) (fun g=>[(0,.slice (some ⟨b0,0,none⟩) N cap),(1,.int .i64 (a:Int)),(2,.int .i64 (m:Int)),(3,.int .i64 (b:Int)),(4,uz),(18,.int .i64 (mid:Int)),(20,.int .i64 (s:Int)),(24,.int .i64 (e:Int))])
     (fun g=>[(b0,cl (cvs g N++rest) 352)]::L) (fun g=>Mv a mid g1 g∧Srt ky a mid g) ?_ ?_
    ·have hid:¬(a < s∧s < mid)→Srt ky a mid g1:=fun h=>by
      by_cases e1:s=a
      ·rw [e1] at k2;exact k2
      ·rw [show mid=s from by omega];exact k1
     (repeat' first|refine kW ?_|refine kU fun bk=>?_|refine kV fun hc=>?_|refine kZ (fun hc=>?_) fun hc=>?_|fail)
     all_goals first
      |exact yA g1 ⟨.refl g1,hid (by omega)⟩ iS (fun w h=>h)
      |skip
     refine cC rfl rfl (ih g1 b0 cap a s mid rest L (by omega) (by omega) (by omega) (by omega) k1 k2) (fun r L' hp=>?_)
     obtain ⟨rfl,g,hg3,hg4,rfl⟩:=hp
     refine kW ?_
     exact yA g ⟨hg3,hg4⟩ iS (fun w h=>h)
    rintro g2 ⟨hg3,hg4⟩
    have k3':Srt ky mid e g2:=k3.congr fun k p q=>hg3.out (.inr p)
    have k4':Srt ky e b g2:=k4.congr fun k p q=>hg3.out (.inr (by omega))
    have hmv:Mv a b f g2:=hg1.trans (hg3.mono (Nat.le_refl _) (by omega))
    have hid:¬(mid < e∧e < b)→Srt ky mid b g2:=fun h=>by
     by_cases e1:e=mid
     ·rw [e1] at k4';exact k4'
     ·rw [show b=e from by omega];exact k3'
    (repeat' first|refine kW ?_|refine kU fun bk=>?_|refine kV fun hc=>?_|refine kZ (fun hc=>?_) fun hc=>?_|fail)
    all_goals first
     |(refine kR ?_
       exact ⟨_,iC,rfl,g2,hmv,Y3 (by omega) hc1 hg3 (.refl g2) hg4 (hid (by omega)),rfl⟩)
     |skip
    refine cC rfl rfl (ih g2 b0 cap mid e b rest L (by omega) (by omega) (by omega) (by omega) k3' k4') (fun r L' hp=>?_)
    obtain ⟨rfl,g,hg5,hg6,rfl⟩:=hp
    refine kW ?_
    refine kR ?_
    exact ⟨_,iC,rfl,g,hmv.trans (hg5.mono (by omega) (Nat.le_refl _)),Y3 (by omega) hc1 hg3 hg5 hg4 hg6,rfl⟩
end Go.Proofs.YtfbfcapoobmdpaaGreatDoor
namespace Go.So
set_option linter.all false
variable {α : Type}
def Blk (key:α→Nat) (s n:Nat) (f:Nat→α):Prop:=∀c,s ∣ c→Srt key c (min (c+s) n) f
theorem ZA {d c a:Nat} (h1:d ∣ c) (h2:d ∣ a) (h:c < a):c+d≤a:=by
 obtain ⟨x,rfl⟩:=h1
 obtain ⟨y,rfl⟩:=h2
 have hxy:x < y:=by
  rcases Nat.lt_or_ge x y with h'|h'
  ·exact h'
  ·have:=Nat.mul_le_mul_left d h'
   omega
 have:=Nat.mul_le_mul_left d hxy
 rw [Nat.mul_succ] at this
 exact this
structure Half (key:α→Nat) (s n a:Nat) (f:Nat→α):Prop where
 al:2 * s ∣ a
 le:a≤n
 lo:∀c,2 * s ∣ c→c+2 * s≤a→Srt key c (c+2 * s) f
 hi:∀c,s ∣ c→a≤c→Srt key c (min (c+s) n) f
theorem Half.start {key:α→Nat} {s n:Nat} {f:Nat→α} (hs:0 < s) (h:Blk key s n f):Half key s n 0 f:=⟨Nat.dvd_zero _,Nat.zero_le _,fun c hc h2=>by omega,fun c hc _=>h c hc⟩
theorem Half.dv {key:α→Nat} {s n a:Nat} {f:Nat→α} (h:Half key s n a f):s ∣ a:=Nat.dvd_trans (Nat.dvd_mul_left s 2) h.al
theorem Half.two {key:α→Nat} {s n a:Nat} {f:Nat→α} (h:Half key s n a f) (hb:a+s≤n):Srt key a (a+s) f∧Srt key (a+s) (min (a+2 * s) n) f:=by
 have h1:=h.hi a h.dv (Nat.le_refl _)
 have h2:=h.hi (a+s) (Nat.dvd_add h.dv (Nat.dvd_refl s)) (by omega)
 rw [Nat.min_eq_left hb] at h1
 rw [show a+s+s=a+2 * s from by omega] at h2
 exact ⟨h1,h2⟩
theorem Half.step {key:α→Nat} {s n a:Nat} {f g:Nat→α} (hs:0 < s) (h:Half key s n a f) (hb:a+2 * s≤n) (hm:Mv a (a+2 * s) f g) (ho:Srt key a (a+2 * s) g):Half key s n (a+2 * s) g:=by
 refine ⟨Nat.dvd_add h.al (Nat.dvd_refl _),hb,fun c hc h2=>?_,fun c hc h2=>?_⟩
 ·by_cases e:c=a
  ·rw [e];exact ho
  ·have h3:c < a:=by omega
   have h4:=ZA hc h.al h3
   exact (h.lo c hc h4).congr fun k p q=>hm.out (.inl (by omega))
 ·exact (h.hi c hc (by omega)).congr fun k p q=>hm.out (.inr (by omega))
theorem Half.fin {key:α→Nat} {s n a:Nat} {f g:Nat→α} (hs:0 < s) (h:Half key s n a f) (hb:n < a+2 * s) (hm:Mv a n f g) (ho:Srt key a n g):Blk key (2 * s) n g:=by
 intro c hc
 by_cases e:c < a
 ·have h4:=ZA hc h.al e
  rw [Nat.min_eq_left (by have:=h.le;omega)]
  exact (h.lo c hc h4).congr fun k p q=>hm.out (.inl (by omega))
 ·by_cases e2:c=a
  ·rw [e2,Nat.min_eq_right (by omega)];exact ho
  ·have h4:=ZA h.al hc (by omega)
   intro i j p q r
   omega
end Go.So
namespace Go.Proofs.YtfbfcapoobmdpaaGreatDoor
open Go Go.Vx Go.So
variable [W0]
set_option maxRecDepth 4000
set_option linter.all false
theorem insert_nil (v:Value) (L:List Chunk):GvP Tryz.prog 297 [v,.int .i64 0,.int .i64 0,uz].toArray L (.tuple #[]):=by
 refine Gv.of_body Tryz.func297 rfl rfl ?_
 refine kW ?_
 refine zn (X:=Unit) (fun _=>[(2,.int .i64 0),(8,.int .i64 1)]) (fun _=>L) (fun _=>True) (fun _=>0) () trivial iS (fun w h=>h) ?_
 intro _ _
 refine kW ?_
 exact kE
theorem zlL (f:Nat→Nat × Nat) (N b0 cap:Nat) (rest:List Value) (L:List Chunk) (hN:N≤1000) :
 Gv Tryz.prog 293 [.slice (some ⟨b0,0,none⟩) N cap,.int .i64 (N:Int),uz].toArray ([(b0,cl (cvs f N++rest) 352)]::L)
  (fun r L'=>r=.tuple #[]∧∃g,Mv 0 N f g∧Srt ky 0 N g∧L'=[(b0,cl (cvs g N++rest) 352)]::L):=by
 refine Gv.of_body Tryz.func293 rfl rfl ?_
 refine kW ?_
 refine zn (X:=Nat × (Nat→Nat × Nat)) (fun x=>[(0,.slice (some ⟨b0,0,none⟩) N cap),(1,.int .i64 (N:Int)),(2,uz),(6,.int .i64 20),(7,.int .i64 (x.1:Int)),(8,.int .i64 ((x.1+20:Nat):Int))])
  (fun x=>[(b0,cl (cvs x.2 N++rest) 352)]::L) (fun x=>20 ∣ x.1∧x.1≤N∧Mv 0 N f x.2∧∀c,20 ∣ c→c+20≤x.1→Srt ky c (c+20) x.2) (fun x=>N - x.1) (0,f)
  ⟨Nat.dvd_zero _,Nat.zero_le _,.refl f,fun c hc h=>by simp only at h;omega⟩ iS (fun w h=>h) ?_
 rintro ⟨a,g⟩ ⟨q1,q2,q3,q4⟩
 simp only at q1 q2 q3 q4 ⊢
 (repeat' first|refine kW ?_|refine kU fun bk=>?_|refine kV fun hc=>?_|refine kZ (fun hc=>?_) fun hc=>?_|fail)
 ·refine cC rfl rfl (zek g N b0 cap a (a+20) rest L hN (by omega) (by omega)) (fun r L' hp=>?_)
  obtain ⟨rfl,g1,hg1,hg2,rfl⟩:=hp
  refine kW ?_
  refine zf (X:=Nat × (Nat→Nat × Nat)) (μ:=fun x=>N - x.1) (x:=(a,g)) (a+20,g1) (by simp only;omega) ⟨Nat.dvd_add q1 (Nat.dvd_refl _),by simp only;omega,q3.trans (hg1.mono (Nat.zero_le _) (by omega)),fun c hc h=>?_⟩ iS (fun w h=>h)
  simp only at h
  by_cases e:c=a
  ·rw [e];exact hg2
  ·have h4:=ZA hc q1 (by omega)
   exact (q4 c hc h4).congr fun k p q=>hg1.out (.inl (by omega))
 ·refine cC rfl rfl (zek g N b0 cap a N rest L hN q2 (Nat.le_refl _)) (fun r L' hp=>?_)
  obtain ⟨rfl,g1,hg1,hg2,rfl⟩:=hp
  have hblk:Blk ky 20 N g1:=by
   intro c hc
   by_cases e:c < a
   ·have h4:=ZA hc q1 e
    rw [Nat.min_eq_left (by omega)]
    exact (q4 c hc h4).congr fun k p q=>hg1.out (.inl (by omega))
   ·by_cases e2:c=a
    ·rw [e2,Nat.min_eq_right (by omega)];exact hg2
    ·have h4:=ZA q1 hc (by omega)
     intro i j p q r
     omega
  have hmv:Mv 0 N f g1:=q3.trans (hg1.mono (Nat.zero_le _) (Nat.le_refl _))
  clear hg1 hg2 q1 q2 q3 q4
  refine kW ?_
  refine zn (X:=Nat × (Nat→Nat × Nat)) (fun x=>[(0,.slice (some ⟨b0,0,none⟩) N cap),(1,.int .i64 (N:Int)),(2,uz),(6,.int .i64 (x.1:Int))])
   (fun x=>[(b0,cl (cvs x.2 N++rest) 352)]::L) (fun x=>0 < x.1∧Mv 0 N f x.2∧Blk ky x.1 N x.2) (fun x=>N - x.1) (20,g1)
   ⟨by simp only;omega,hmv,hblk⟩ iS (fun w h=>h) ?_
  rintro ⟨s,g2⟩ ⟨r1,r2,r3⟩
  simp only at r1 r2 r3 ⊢
  (repeat' first|refine kW ?_|refine kU fun bk=>?_|refine kV fun hc=>?_|refine kZ (fun hc=>?_) fun hc=>?_|fail)
  ·refine zn (X:=Nat × (Nat→Nat × Nat)) (fun x=>[(0,.slice (some ⟨b0,0,none⟩) N cap),(1,.int .i64 (N:Int)),(2,uz),(6,.int .i64 (s:Int)),(7,.int .i64 (x.1:Int)),(8,.int .i64 ((x.1+2 * s:Nat):Int))])
    (fun x=>[(b0,cl (cvs x.2 N++rest) 352)]::L) (fun x=>Mv 0 N f x.2∧Half ky s N x.1 x.2) (fun x=>N - x.1) (0,g2)
    ⟨r2,Half.start r1 r3⟩ iS (fun w h=>h) ?_
   rintro ⟨a2,g3⟩ ⟨t1,t2⟩
   simp only at t1 t2 ⊢
   have t3:=t2.le
   (repeat' first|refine kW ?_|refine kU fun bk=>?_|refine kV fun hc=>?_|refine kZ (fun hc=>?_) fun hc=>?_|fail)
   ·rw [show (a2:Int)+(s:Int)=((a2+s:Nat):Int) from by omega]
    obtain ⟨u1,u2⟩:=t2.two (by omega)
    rw [Nat.min_eq_left (by omega)] at u2
    refine cC rfl rfl (zg4 N hN (2 * s) g3 b0 cap a2 (a2+s) (a2+2 * s) rest L (by omega) (by omega) (by omega) (by omega) u1 u2) (fun r L' hp=>?_)
    obtain ⟨rfl,g4,hg1,hg2,rfl⟩:=hp
    refine kW ?_
    refine zf (X:=Nat × (Nat→Nat × Nat)) (μ:=fun x=>N - x.1) (x:=(a2,g3)) (a2+2 * s,g4) (by simp only;omega) ⟨t1.trans (hg1.mono (Nat.zero_le _) (by omega)),t2.step r1 (by omega) hg1 hg2⟩ iS (fun w h=>h)
   ·rw [show (a2:Int)+(s:Int)=((a2+s:Nat):Int) from by omega]
    obtain ⟨u1,u2⟩:=t2.two (by omega)
    rw [Nat.min_eq_right (by omega)] at u2
    refine cC rfl rfl (zg4 N hN N g3 b0 cap a2 (a2+s) N rest L (by omega) (by omega) (by omega) (Nat.le_refl _) u1 u2) (fun r L' hp=>?_)
    obtain ⟨rfl,g4,hg1,hg2,rfl⟩:=hp
    refine kW ?_
    refine zf (X:=Nat × (Nat→Nat × Nat)) (μ:=fun x=>N - x.1) (x:=(s,g2)) (2 * s,g4) (by simp only;omega) ⟨by simp only;omega,t1.trans (hg1.mono (Nat.zero_le _) (Nat.le_refl _)),t2.fin r1 (by omega) hg1 hg2⟩ iS (fun w h=>h)
   ·have u1:=t2.hi a2 t2.dv (Nat.le_refl _)
    rw [Nat.min_eq_right (by omega)] at u1
    refine zf (X:=Nat × (Nat→Nat × Nat)) (μ:=fun x=>N - x.1) (x:=(s,g2)) (2 * s,g3) (by simp only;omega) ⟨by simp only;omega,t1,t2.fin r1 (by omega) (.refl g3) u1⟩ iS (fun w h=>h)
  ·have u1:=r3 0 (Nat.dvd_zero _)
   rw [Nat.min_eq_right (by omega)] at u1
   refine kR ?_
   exact ⟨_,iC,rfl,g2,r2,u1,rfl⟩
theorem zgb (v:Value) (L:List Chunk):GvP Tryz.prog 293 [v,.int .i64 0,uz].toArray L (.tuple #[]):=by
 refine Gv.of_body Tryz.func293 rfl rfl ?_
 refine kW ?_
 refine zn (X:=Unit) (fun _=>[(0,v),(1,.int .i64 0),(2,uz),(6,.int .i64 20),(7,.int .i64 0),(8,.int .i64 20)]) (fun _=>L) (fun _=>True) (fun _=>0) () trivial iS (fun w h=>h) ?_
 intro _ _
 refine kW ?_
 refine cP rfl rfl (insert_nil v L) ?_
 refine kW ?_
 refine zn (X:=Unit) (fun _=>[(1,.int .i64 0),(6,.int .i64 20)]) (fun _=>L) (fun _=>True) (fun _=>0) () trivial iS (fun w h=>h) ?_
 intro _ _
 refine kW ?_
 exact kE
theorem zlG (f:Nat→Nat × Nat) (N b0 cap:Nat) (rest:List Value) (L:List Chunk) (hN:N≤1000) :
 Gv Tryz.prog 286 [.slice (some ⟨b0,0,none⟩) N cap,uz].toArray ([(b0,cl (cvs f N++rest) 352)]::L)
  (fun r L'=>r=.tuple #[]∧∃g,Mv 0 N f g∧Srt ky 0 N g∧L'=[(b0,cl (cvs g N++rest) 352)]::L):=by
 refine Gv.of_body Tryz.func286 rfl rfl ?_
 refine kW ?_
 refine cC rfl rfl (zlL f N b0 cap rest L hN) (fun r L' hp=>?_)
 obtain ⟨rfl,g,h1,h2,rfl⟩:=hp
 refine kW ?_
 refine kR ?_
 exact ⟨_,iC,rfl,g,h1,h2,rfl⟩
theorem zf9 (L:List Chunk):GvP Tryz.prog 286 [.slice none 0 0,uz].toArray L (.tuple #[]):=by
 refine Gv.of_body Tryz.func286 rfl rfl ?_
 refine kW ?_
 refine cP rfl rfl (zgb _ L) ?_
 refine kW ?_
 exact kE
end Go.Proofs.YtfbfcapoobmdpaaGreatDoor
namespace Go.Proofs.YtfbfcapoobmdpaaGreatDoor
open Go Go.Vx
variable [W0]
set_option maxRecDepth 4000
set_option linter.all false
omit [W0] in
def ckV (a:Option Addr) (m k:Nat):Value:=match a with
 |some ⟨b,off,none⟩=>.slice (some ⟨b,off+2 * k * 2,none⟩) (min 2 (m - 2 * k)) (min 2 (m - 2 * k))
 |x=>.slice x 0 0
omit [W0] in
def ckS (a:Option Addr) (m:Nat):List (List Value):=(List.range ((m+1) / 2)).map fun k=>[ckV a m k]
theorem qI (a:Option Addr) (m:Nat):(ckS a m).length=(m+1) / 2:=by simp [ckS]
theorem zcS (a:Option Addr) (m:Nat) {k:Nat} (h:k < (m+1) / 2):(ckS a m).getD k []=[ckV a m k]:=by simp [ckS,List.getD,h]
omit [W0] in
def HdS (a:Option Addr) (m c:Nat):Prop:=m≤c∧((a=none∧m=0)∨∃b off,a=some ⟨b,off,none⟩)
theorem zmM (a:Option Addr) (m c:Nat) (L:List Chunk) :
 Gv Tryz.prog 299 [.slice a m c,.int .i64 2].toArray L
  (fun r L'=>∃p q,r=.func (.func 301) #[] #[.pointer (some ⟨p,0,none⟩),.pointer (some ⟨q,0,none⟩)]∧L'=[(q,cl [.int .i64 2] 3)]::[(p,cl [.slice a m c] 363)]::L):=by
 refine Gv.of_body Tryz.func299 rfl rfl ?_
 (refine kW ?_;refine kU fun bk=>?_;refine kW ?_;refine kU fun bk=>?_;refine kW ?_)
 refine kH ?_
 exact ⟨_,fun w h=>h,_,_,rfl,rfl⟩
theorem zjl (a:Option Addr) (m c p q:Nat) (hm:m≤100000) (hh:HdS a m c) :
 It Tryz.prog 301 [.pointer (some ⟨p,0,none⟩),.pointer (some ⟨q,0,none⟩)].toArray ([(q,cl [.int .i64 2] 3)]::[(p,cl [.slice a m c] 363)]::[]) (ckS a m):=by
 refine It.of_body Tryz.func301 rfl rfl fun l J L0 h0 hy=>?_
 obtain ⟨Lit,hLit⟩:∃Lit:List Chunk,Lit=[(q,cl [.int .i64 2] 3)]::[(p,cl [.slice a m c] 363)]::[]:=⟨_,rfl⟩
 rw [←hLit]
 have fq:∀L',Fnd (L'++Lit) q (cl [.int .i64 2] 3):=fun L'=>by rw [hLit];exact Fnd.right Fnd.here
 have fp:∀L',Fnd (L'++Lit) p (cl [.slice a m c] 363):=fun L'=>by rw [hLit];exact Fnd.right (Fnd.there Fnd.here)
 (repeat' first|refine kI ?_|refine kU fun bk=>?_|refine kJ fun hc=>?_|refine kK (fun hc=>?_) fun hc=>?_|fail)
 refine zcC (X:=Nat × List Chunk) (fun x=>[(0,.func (.yield l) #[] #[]),(1,.pointer (some ⟨p,0,none⟩)),(2,.pointer (some ⟨q,0,none⟩)),(4,.int .i64 ((2 * x.1:Nat):Int))])
  (fun x=>x.2++Lit) (fun x=>x.1≤(ckS a m).length∧J x.1 x.2) (fun x=>(ckS a m).length - x.1) (0,L0) ⟨Nat.zero_le _,h0⟩ iS (fun w h=>h) ?_
 rintro ⟨k,L'⟩ ⟨hk,hj⟩
 simp only at hk hj ⊢
 rw [qI] at hk
 (repeat' first|refine kI ?_|refine kU fun bk=>?_|refine kJ fun hc=>?_|refine kK (fun hc=>?_) fun hc=>?_|fail)
 refine ze (zx rfl (fp L') rfl) rfl ?_
 (repeat' first|refine kI ?_|refine kU fun bk=>?_|refine kJ fun hc=>?_|refine kK (fun hc=>?_) fun hc=>?_|fail)
 ·have hlt:2 * k < m:=by omega
  obtain ⟨hmc,hh⟩:=hh
  obtain ⟨b,off,rfl⟩:∃b off,a=some ⟨b,off,none⟩:=by
   rcases hh with ⟨_,h⟩|h
   ·omega
   ·exact h
  refine zgp (L'++Lit) [] (by repeat (first|with_reducible exact NL.body|with_reducible exact zbO|with_reducible exact zbK|with_reducible refine NL.then ?_|with_reducible refine NL.block ?_)) rfl mixed ?_
  refine cT 0 rfl rfl (zx rfl (fq L') rfl) ?_
  refine cT 1 rfl rfl (zx rfl (fp L') rfl) ?_
  (refine za 2 ?_)
  refine cT 3 rfl rfl (yS (l:=2 * k) (h:=m) rfl (qH rfl rfl) rfl (by omega) hmc) ?_
  (refine za 4 ?_;refine za 5 ?_)
  obtain ⟨e,he⟩:∃e,e=min 2 (m - 2 * k):=⟨_,rfl⟩
  rw [show min (2:Int) ((m - 2 * k:Nat):Int)=(e:Int) from by omega]
  (refine za 6 ?_)
  refine cD ?_
  have hck:ckV (some ⟨b,off,none⟩) m k=.slice (some ⟨b,off+2 * k * 2,none⟩) e e:=by rw [he];rfl
  (repeat' first|refine kI ?_|refine kU fun bk=>?_|refine kJ fun hc=>?_|refine kK (fun hc=>?_) fun hc=>?_|fail)
  refine zgq ?_
  (repeat' first|refine kL ?_|refine kU fun bk=>?_|refine kJ fun hc=>?_|refine kK (fun hc=>?_) fun hc=>?_|fail)
  refine ze (zx rfl (fp L') rfl) rfl ?_
  (repeat' first|refine kL ?_|refine kU fun bk=>?_|refine kJ fun hc=>?_|refine kK (fun hc=>?_) fun hc=>?_|fail)
  rw [show ((2 * k:Nat):Int)+(e:Int)=((2 * k+e:Nat):Int) from by omega]
  refine ze (zbL (l:=2 * k) (h:=2 * k+e) (m:=2 * k+e) rfl rfl rfl rfl (by omega) (Nat.le_refl _) (by omega)) rfl ?_
  rw [if_neg (by omega),show 2 * k+e - 2 * k=e from by omega,←hck]
  have hyk:=hy Lit k L' (by rw [qI];omega) hj
  rw [zcS _ _ (by omega)] at hyk
  refine zdL rfl rfl hyk rfl ?_
  rintro L'' ⟨L3,hj3,rfl⟩
  (repeat' first|refine kL ?_|refine kU fun bk=>?_|refine kJ fun hc=>?_|refine kK (fun hc=>?_) fun hc=>?_|fail)
  (repeat' first|refine kI ?_|refine kU fun bk=>?_|refine kJ fun hc=>?_|refine kK (fun hc=>?_) fun hc=>?_|fail)
  refine ze (zx rfl (fq L3) rfl) rfl ?_
  (repeat' first|refine kI ?_|refine kU fun bk=>?_|refine kJ fun hc=>?_|refine kK (fun hc=>?_) fun hc=>?_|fail)
  refine zf (X:=Nat × List Chunk) (μ:=fun x=>(ckS (some ⟨b,off,none⟩) m).length - x.1) (x:=(k,L')) (k+1,L3) (by simp only [qI];omega) ⟨by simp only [qI];omega,hj3⟩ iS (fun w h=>h)
 ·have hke:k=(m+1) / 2:=by omega
  refine kH ?_
  refine ⟨_,fun w h=>h,L',?_,rfl⟩
  rw [qI,←hke]
  exact hj
end Go.Proofs.YtfbfcapoobmdpaaGreatDoor
namespace Go.Pm
set_option linter.all false
theorem zck:∀{l:List Pm.It} {k:Nat} {x y:Pm.It},l[2 * k]? =some x→l[2 * k+1]? =some y→(pairs l)[k]? =some (pack x y)
 |[],k,x,y,h,_=>by simp at h
 |[_],0,x,y,_,h=>by simp at h
 |[_],k+1,x,y,h,_=>by simp at h
 |a::b::r,0,x,y,h1,h2=>by
  simp at h1 h2
  subst h1 h2
  rfl
 |a::b::r,k+1,x,y,h1,h2=>by
  rw [show 2 * (k+1)=2 * k+1+1 from by omega,List.getElem?_cons_succ,List.getElem?_cons_succ] at h1
  rw [show 2 * (k+1)+1=2 * k+1+1+1 from by omega,List.getElem?_cons_succ,List.getElem?_cons_succ] at h2
  rw [pairs,List.getElem?_cons_succ]
  exact zck h1 h2
end Go.Pm
namespace Go.Proofs.YtfbfcapoobmdpaaGreatDoor
open Go Go.Vx
variable [W0]
set_option maxRecDepth 4000
set_option linter.all false
omit [W0] in
def itv (x:Pm.It):List Value:=[.int .i64 (x.w:Int),.bool (!Pm.isC x)]
omit [W0] in
def qz (l:List Pm.It):List Value:=l.flatMap itv
theorem Yy (l:List Pm.It):(qz l).length=l.length * 2:=by
 induction l with
 |nil=>rfl
 |cons x r ih=>simp [qz,itv] at ih ⊢;omega
theorem ZE (a b:List Pm.It):qz (a++b)=qz a++qz b:=by simp [qz]
theorem zh6 (l:List Pm.It):ones (qz l)=true:=by
 induction l with
 |nil=>rfl
 |cons x r ih=>
  have e:qz (x::r)=.int .i64 (x.w:Int)::.bool (!Pm.isC x)::qz r:=rfl
  rw [e]
  simpa [ones,Value.oneCell'] using ih
theorem Zg:∀{l:List Pm.It} {i:Nat} {x:Pm.It},l[i]? =some x→(qz l)[i * 2]? =some (.int .i64 (x.w:Int))∧(qz l)[i * 2+1]? =some (.bool (!Pm.isC x))
 |[],i,x,h=>by simp at h
 |a::r,0,x,h=>by
  simp at h
  subst h
  exact ⟨rfl,rfl⟩
 |a::r,i+1,x,h=>by
  simp at h
  have ih:=Zg h
  have e:qz (a::r)=.int .i64 (a.w:Int)::.bool (!Pm.isC a)::qz r:=rfl
  rw [e,show (i+1) * 2=i * 2+1+1 from by omega]
  exact ih
theorem znH {e k m:Nat} {v:Value} {xs:List Value} {C:Chunk} (h:Ow e k v m xs C):v.oneCell'=true:=by
 rcases h with ⟨rfl,_⟩|⟨b,cap,rest,rfl,_⟩<;>rfl
theorem znJ (v:Value) (l:List Pm.It) (Cb:Chunk) (L:List Chunk) (hO:Ow 372 2 v l.length (qz l) Cb) (hl:l.length≤1000) (hw:∀x∈l,x.w≤2305843009213693952) :
 Gv Tryz.prog 295 [v].toArray (Cb::L) (fun r L'=>∃C,L'=C::Cb::L∧Ow 372 2 r (Pm.pairs l).length (qz (Pm.pairs l)) C):=by
 obtain ⟨a,c,rfl,hh⟩:∃a c,v=.slice a l.length c∧HdS a l.length c:=by
  rcases hO with ⟨rfl,h1,_⟩|⟨b,cap,rest,rfl,_,_,_,h2,_⟩
  ·rw [h1];exact ⟨_,_,rfl,Nat.le_refl _,.inl ⟨rfl,rfl⟩⟩
  ·exact ⟨_,_,rfl,h2,.inr ⟨b,0,rfl⟩⟩
 refine Gv.of_bodyM Tryz.func295 rfl rfl ?_
 (refine kW ?_;refine kU fun bk=>?_;refine kW ?_)
 obtain ⟨b3,hb3⟩:∃b3,b3=bk:=⟨_,rfl⟩
 rw [←hb3]
 clear hb3
 refine cC rfl rfl (zmM a l.length c _) (fun r L' hp=>?_)
 obtain ⟨p,q,rfl,rfl⟩:=hp
 refine kW ?_
 obtain ⟨J,hJ⟩:∃J:Nat→List Chunk→Prop,∀k L',J k L'↔∃v C,Ow 372 2 v ((Pm.pairs l).take k).length (qz ((Pm.pairs l).take k)) C∧L'=[(b3,cl [v] 363)]::C::Cb::L:=⟨fun k L'=>∃v C,Ow 372 2 v ((Pm.pairs l).take k).length (qz ((Pm.pairs l).take k)) C∧L'=[(b3,cl [v] 363)]::C::Cb::L,fun _ _=>Iff.rfl⟩
 refine zdK (ps:=[7]) rfl (zjl a l.length c p q (by omega) hh) J ([(b3,cl [.slice none 0 0] 363)]::[]::Cb::L) ((hJ _ _).2 ⟨_,[],.inl ⟨rfl,rfl,rfl,rfl⟩,rfl⟩) (fun w h=>?_) (fun k hk=>by rw [qI] at hk;rw [zcS _ _ hk];rfl) rfl
  (fun k _=>[(3,.pointer (some ⟨b3,0,none⟩)),(4,ckV a l.length k)]) (fun lp k L' R hk hj=>?_) (fun lp k L' R hk hj=>?_) (fun D a' w L3 hst hd hj hw'=>?_)
 ·have h2:=h.perm (List.perm_append_comm (l₁:=[[(q,cl [.int .i64 2] 3)],[(p,cl [.slice a l.length c] 363)]]) (l₂:=[(b3,cl [.slice none 0 0] 363)]::Cb::L))
  exact Holds.gap.2 h2
 ·rw [qI] at hk
  rw [zcS _ _ hk]
  show Wic _ _ _ _ _ ((7,ckV a l.length k)::_) _
  (repeat' first|refine kI ?_|refine kU fun bk=>?_|refine kJ fun hc=>?_|refine kK (fun hc=>?_) fun hc=>?_|fail)
  exact zoo iS (fun w h=>h)
 ·rw [qI] at hk
  obtain ⟨v,C,ho,rfl⟩:=(hJ _ _).1 hj
  rcases hO with ⟨_,h1,_⟩|⟨b,cap,rest,hv,rfl,hxl,hrl,hmc,_⟩
  ·omega
  injection hv with e1 e2 e3
  subst e1 e3
  clear e2
  show Wic _ _ _ _ _ _ ([(b3,cl [v] 363)]::C::[(b,cl (qz l++rest) 372)]::(L++R))
  have hpl:=Pm.wL l
  by_cases h2:2 * k+2≤l.length
  ·have hck:ckV (some ⟨b,0,none⟩) l.length k=.slice (some ⟨b,0+2 * k * 2,none⟩) 2 2:=by
    show Value.slice (some ⟨b,0+2 * k * 2,none⟩) (min 2 (l.length - 2 * k)) (min 2 (l.length - 2 * k))=_
    rw [Nat.min_eq_left (by omega)]
   obtain ⟨x,hx⟩:∃x,l[2 * k]? =some x:=⟨l[2 * k],by simp [show 2 * k < l.length from by omega]⟩
   obtain ⟨y,hy⟩:∃y,l[2 * k+1]? =some y:=⟨l[2 * k+1],by simp [show 2 * k+1 < l.length from by omega]⟩
   have hwx:=hw x (List.mem_of_getElem? hx)
   have hwy:=hw y (List.mem_of_getElem? hy)
   have hpg:=Pm.zck hx hy
   have hgx:nth (qz l++rest) (0+2 * k * 2+0 * 2+0)=some (.int .i64 (x.w:Int)):=by
    have h3:=(Zg hx).1
    rw [yu,show 0+2 * k * 2+0 * 2+0=2 * k * 2 from by omega,List.getElem?_append_left (List.getElem?_eq_some_iff.1 h3).1]
    exact h3
   have hgy:nth (qz l++rest) (0+2 * k * 2+1 * 2+0)=some (.int .i64 (y.w:Int)):=by
    have h3:=(Zg hy).1
    rw [yu,show 0+2 * k * 2+1 * 2+0=(2 * k+1) * 2 from by omega,List.getElem?_append_left (List.getElem?_eq_some_iff.1 h3).1]
    exact h3
   have htk:(Pm.pairs l).take (k+1)=(Pm.pairs l).take k++[Pm.pack x y]:=by rw [List.take_add_one,hpg];rfl
   have htl:((Pm.pairs l).take k).length=k:=by rw [List.length_take,hpl];omega
   rw [hck]
   (repeat' first|refine kI ?_|refine kU fun bk=>?_|refine kJ fun hc=>?_|refine kK (fun hc=>?_) fun hc=>?_|fail)
   refine zgp [[(b3,cl [v] 363)],[(b,cl (qz l++rest) 372)]] [13] (by repeat (first|with_reducible exact NL.body|with_reducible exact zbO|with_reducible exact zbK|with_reducible refine NL.then ?_|with_reducible refine NL.block ?_)) rfl mixed ?_
   (refine ziW 0 ?_;refine ziW 1 ?_)
   refine cT 2 rfl rfl (zi (j:=0) rfl rfl rfl (by omega)) ?_
   refine cT 3 rfl rfl (yH rfl) ?_
   refine cT 4 rfl rfl (zx rfl (Fnd.there Fnd.here) hgx) ?_
   (refine ziW 5 ?_)
   refine cT 6 rfl rfl (zi (j:=1) rfl rfl rfl (by omega)) ?_
   refine cT 7 rfl rfl (yH rfl) ?_
   refine cT 8 rfl rfl (zx rfl (Fnd.there Fnd.here) hgy) ?_
   (refine ziW 9 ?_)
   rw [←Int.natCast_add]
   (refine ziW 10 ?_)
   refine cI 11 rfl rfl ?_
   refine zl (cs:=itv (Pm.pack x y)) rfl (by rfl) (by simp [zA,patch,Value.cells,zeros];rfl) (by omega) rfl rfl (fun bs=>?_)
   refine ⟨iC,?_⟩
   refine cI 12 rfl rfl ?_
   refine zu rfl rfl ho (zF (k:=2) (c:=(itv (Pm.pack x y)).toArray) (xs:=itv (Pm.pack x y)) (m:=1) Fnd.here rfl (by simp)) (by repeat (first|exact Zip.here _|apply Zip.there)) rfl (by rfl) (by omega) (by simp [maxLen];omega) rfl (fun v' C' ho' _ _=>?_)
   refine ⟨iC,?_⟩
   refine cL 13 rfl rfl rfl ?_
   refine zG [v'] rfl rfl (znH ho') rfl iU (by simp) ?_
   refine cD ?_
   (repeat' first|refine kI ?_|refine kU fun bk=>?_|refine kJ fun hc=>?_|refine kK (fun hc=>?_) fun hc=>?_|fail)
   refine ziT ([(b3,cl [v'] 363)]::C'::[(b,cl (qz l++rest) 372)]::L) ((hJ _ _).2 ⟨v',C',?_,rfl⟩) (fun w h=>h.drop)
   rw [htk,ZE,List.length_append]
   exact ho'
  ·have hck:ckV (some ⟨b,0,none⟩) l.length k=.slice (some ⟨b,0+2 * k * 2,none⟩) 1 1:=by
    show Value.slice (some ⟨b,0+2 * k * 2,none⟩) (min 2 (l.length - 2 * k)) (min 2 (l.length - 2 * k))=_
    rw [show min 2 (l.length - 2 * k)=1 from by omega]
   rw [hck]
   (repeat' first|refine kI ?_|refine kU fun bk=>?_|refine kJ fun hc=>?_|refine kK (fun hc=>?_) fun hc=>?_|fail)
   refine ziT ([(b3,cl [v] 363)]::C::[(b,cl (qz l++rest) 372)]::L) ((hJ _ _).2 ⟨v,C,?_,rfl⟩) (fun w h=>h)
   have e1:(Pm.pairs l).take (k+1)=(Pm.pairs l).take k:=by rw [List.take_of_length_le (by omega),List.take_of_length_le (by omega)]
   rw [e1]
   exact ho
 ·obtain ⟨v,C,ho,rfl⟩:=(hJ _ _).1 hj
  rw [qI,List.take_of_length_le (by rw [Pm.wL];omega)] at ho
  have hw2:Holds w (([(D,.deferred (some []))]::[(b3,cl [v] 363)]::C::Cb::L)++[[(q,cl [.int .i64 2] 3)],[(p,cl [.slice a l.length c] 363)]]):=hw'
  have hw3:=hw2.front
  change Code.wp _ _ _ a' w
  refine Wmc.out (M:=[(3,.pointer (some ⟨b3,0,none⟩))]) (L:=[(D,.deferred (some []))]::[(b3,cl [v] 363)]::C::Cb::L) ?_ a' w (hst.sub iS) hd hw3
  refine zoY (zhP (zon rfl (zx rfl (Fnd.there Fnd.here) rfl) rfl (zon rfl (yP rfl) rfl (zoZ (zms rfl (zoX ?_))))))
  exact ziS (.inl rfl) rfl rfl (L1:=C::Cb::L) (fun w h=>(iC:Inc ([(D,.deferred (some []))]::C::Cb::L) _).holds h) ⟨C,rfl,ho⟩
end Go.Proofs.YtfbfcapoobmdpaaGreatDoor
namespace Go.Pm
set_option linter.all false
theorem ZG:∀{l:List Pm.It},l.Pairwise (fun a b=>a.w≤b.w)→(pairs l).Pairwise (fun a b=>a.w≤b.w)
 |[],_=>.nil
 |[_],_=>.nil
 |a::b::r,h=>by
  have ha:=(List.pairwise_cons.1 h).1
  have h2:=(List.pairwise_cons.1 h).2
  have hb:=(List.pairwise_cons.1 h2).1
  have hr:=(List.pairwise_cons.1 h2).2
  refine List.pairwise_cons.2 ⟨fun x hx=>?_,ZG hr⟩
  obtain ⟨y,hy,hxy⟩:∃y∈r,∃z∈r,x.w=y.w+z.w:=by
   have key:∀l:List Pm.It,∀x∈pairs l,∃y∈l,∃z∈l,x.w=y.w+z.w:=by
    intro l
    induction l using pairs.induct with
    |case1 a b r ih=>
     intro x hx
     rcases List.mem_cons.1 hx with rfl|hx
     ·exact ⟨a,by simp,b,by simp,rfl⟩
     ·obtain ⟨y,hy,z,hz,e⟩:=ih x hx
      exact ⟨y,by simp [hy],z,by simp [hz],e⟩
    |case2 t ht=>
     intro x hx
     match t,ht with
     |[],_=>simp [pairs] at hx
     |[_],_=>simp [pairs] at hx
     |a::b::r,ht=>exact absurd rfl (ht a b r)
   exact key r x hx
  obtain ⟨z,hz,e⟩:=hxy
  have h1:=ha y (List.mem_cons_of_mem _ hy)
  have h3:=hb z hz
  show a.w+b.w≤x.w
  omega
structure Mp (cs ps:List Pm.It) (i t:Nat) (A:List Pm.It):Prop where
 ci:A.filter isC=cs.take i
 pt:A.filter (fun x=>!isC x)=ps.take t
 up:A.Pairwise fun a b=>a.w≤b.w
 lc:∀x∈A,∀y∈cs.drop i,x.w≤y.w
 lp:∀x∈A,∀y∈ps.drop t,x.w≤y.w
theorem Mp.nil (cs ps:List Pm.It):Mp cs ps 0 0 []:=⟨by simp,by simp,.nil,fun x hx=>by simp at hx,fun x hx=>by simp at hx⟩
theorem zl4 {A:List Pm.It} {x:Pm.It} (h:A.Pairwise fun a b=>a.w≤b.w) (hx:∀y∈A,y.w≤x.w):(A++[x]).Pairwise fun a b=>a.w≤b.w:=by
 rw [List.pairwise_append]
 exact ⟨h,List.pairwise_singleton _ _,fun a ha b hb=>by rw [List.mem_singleton.1 hb];exact hx a ha⟩
theorem zam {l:List Pm.It} {i:Nat} {x:Pm.It} (hl:l.Pairwise fun a b=>a.w≤b.w) (hx:l[i]? =some x):∀y∈l.drop i,x.w≤y.w:=by
 intro y hy
 have hlt:=(List.getElem?_eq_some_iff.1 hx).1
 have h2:=hl.sublist (List.drop_sublist i l)
 rw [List.drop_eq_getElem_cons hlt] at h2 hy
 have he:l[i]=x:=by rw [List.getElem?_eq_getElem hlt] at hx;exact Option.some.inj hx
 rw [he] at h2 hy
 rcases List.mem_cons.1 hy with h|h
 ·rw [h];exact Nat.le_refl _
 ·exact (List.pairwise_cons.1 h2).1 y h
theorem X0 {l:List Pm.It} {i:Nat} {x:Pm.It} (hx:l[i]? =some x):x∈l.drop i:=by
 have hlt:=(List.getElem?_eq_some_iff.1 hx).1
 rw [List.drop_eq_getElem_cons hlt]
 have he:l[i]=x:=by rw [List.getElem?_eq_getElem hlt] at hx;exact Option.some.inj hx
 rw [he];exact List.mem_cons_self
theorem XT {l:List Pm.It} {i:Nat} {y:Pm.It} (hy:y∈l.drop (i+1)):y∈l.drop i:=by
 rw [←List.drop_drop] at hy
 exact List.mem_of_mem_drop hy
theorem Mp.pack {cs ps:List Pm.It} {i t:Nat} {A:List Pm.It} {x z:Pm.It} (h:Mp cs ps i t A) (hcs:cs.Pairwise fun a b=>a.w≤b.w) (hps:ps.Pairwise fun a b=>a.w≤b.w) (hpp:∀x∈ps,isC x=false)
 (hx:ps[t]? =some x) (hz:cs[i]? =some z) (hlt:x.w < z.w):Mp cs ps i (t+1) (A++[x]):=by
 have hxc:=hpp x (List.mem_of_getElem? hx)
 refine ⟨?_,?_,zl4 h.up fun y hy=>h.lp y hy x (X0 hx),fun a ha y hy=>?_,fun a ha y hy=>?_⟩
 ·rw [List.filter_append,h.ci];simp [hxc]
 ·rw [List.filter_append,h.pt,List.take_add_one,hx];simp [hxc]
 ·rcases List.mem_append.1 ha with ha|ha
  ·exact h.lc a ha y hy
  ·rw [List.mem_singleton.1 ha];exact Nat.le_trans (Nat.le_of_lt hlt) (zam hcs hz y hy)
 ·rcases List.mem_append.1 ha with ha|ha
  ·exact h.lp a ha y (XT hy)
  ·rw [List.mem_singleton.1 ha];exact zam hps hx y (XT hy)
theorem Mp.Zm {cs ps:List Pm.It} {i t:Nat} {A:List Pm.It} {z:Pm.It} (h:Mp cs ps i t A) (hcs:cs.Pairwise fun a b=>a.w≤b.w) (hps:ps.Pairwise fun a b=>a.w≤b.w) (hcc:∀x∈cs,isC x=true)
 (hz:cs[i]? =some z) (hge:∀x,ps[t]? =some x→z.w≤x.w):Mp cs ps (i+1) t (A++[z]):=by
 have hzc:=hcc z (List.mem_of_getElem? hz)
 refine ⟨?_,?_,zl4 h.up fun y hy=>h.lc y hy z (X0 hz),fun a ha y hy=>?_,fun a ha y hy=>?_⟩
 ·rw [List.filter_append,h.ci,List.take_add_one,hz];simp [hzc]
 ·rw [List.filter_append,h.pt];simp [hzc]
 ·rcases List.mem_append.1 ha with ha|ha
  ·exact h.lc a ha y (XT hy)
  ·rw [List.mem_singleton.1 ha];exact zam hcs hz y (XT hy)
 ·rcases List.mem_append.1 ha with ha|ha
  ·exact h.lp a ha y hy
  ·rw [List.mem_singleton.1 ha]
   cases hp:ps[t]? with
   |none=>rw [List.drop_of_length_le (List.getElem?_eq_none_iff.1 hp)] at hy;simp at hy
   |some x=>exact Nat.le_trans (hge x hp) (zam hps hp y hy)
theorem Mp.fin {cs ps:List Pm.It} {t:Nat} {A:List Pm.It} (h:Mp cs ps cs.length t A) (hps:ps.Pairwise fun a b=>a.w≤b.w) (hpp:∀x∈ps,isC x=false):Mg cs ps (A++ps.drop t):=by
 have h1:(ps.drop t).filter isC=[]:=List.filter_eq_nil_iff.2 fun x hx=>by rw [hpp x (List.mem_of_mem_drop hx)];simp
 have h2:(ps.drop t).filter (fun x=>!isC x)=ps.drop t:=List.filter_eq_self.2 fun x hx=>by rw [hpp x (List.mem_of_mem_drop hx)];rfl
 refine ⟨?_,?_,?_⟩
 ·rw [List.pairwise_append]
  exact ⟨h.up,hps.sublist (List.drop_sublist _ _),fun a ha b hb=>h.lp a ha b hb⟩
 ·rw [List.filter_append,h.ci,h1,List.take_length,List.append_nil]
 ·rw [List.filter_append,h.pt,h2,List.take_append_drop]
theorem Mp.len {cs ps:List Pm.It} {i t:Nat} {A:List Pm.It} (h:Mp cs ps i t A):A.length≤cs.length+ps.length:=by
 have h1:=(Zp isC A).length_eq
 rw [List.length_append,h.ci,h.pt,List.length_take,List.length_take] at h1
 omega
end Go.Pm
namespace Go.Proofs.YtfbfcapoobmdpaaGreatDoor
open Go Go.Vx Go.So
variable [W0]
set_option maxRecDepth 4000
set_option linter.all false
omit [W0] in
def PsV (ps:List Pm.It) (Cp:Chunk) (v:Value) (t:Nat):Prop:=(ps.length≤t∧∃a c,v=.slice a 0 c)∨
 (t < ps.length∧∃bp cp rp,v=.slice (some ⟨bp,t * 2,none⟩) (ps.length - t) (cp - t)∧ps.length≤cp∧Cp=[(bp,cl (qz ps++rp) 372)])
theorem PsV.new {ps:List Pm.It} {Cp:Chunk} {v:Value} (h:Ow 372 2 v ps.length (qz ps) Cp):PsV ps Cp v 0:=by
 rcases h with ⟨rfl,h1,_⟩|⟨b,cap,rest,rfl,rfl,_,_,hmc,_⟩
 ·exact .inl ⟨by omega,_,_,rfl⟩
 ·rcases Nat.eq_zero_or_pos ps.length with h0|h0
  ·rw [h0];exact .inl ⟨by omega,_,_,rfl⟩
  ·exact .inr ⟨h0,b,cap,rest,by simp,hmc,rfl⟩
theorem zh5 (l:List Pm.It) (t:Nat):qz (l.drop t)=(qz l).drop (t * 2):=by
 conv=>rhs;rw [←List.take_append_drop t l,ZE]
 rcases Nat.lt_or_ge t l.length with h|h
 ·have e:(qz (l.take t)).length=t * 2:=by rw [Yy,List.length_take];omega
  rw [←e,List.drop_left]
 ·have e:(qz (l.take t)).length≤t * 2:=by rw [Yy,List.length_take];omega
  rw [List.drop_of_length_le h]
  show []=_
  rw [show qz ([]:List Pm.It)=[] from rfl,List.append_nil,List.drop_of_length_le e]
theorem PsV.sl {ps:List Pm.It} {Cp:Chunk} {v:Value} {t:Nat} {L:List Chunk} (h:PsV ps Cp v t) (hL:∀x∈Cp,x∈L.flatten):Sl L 2 v (ps.drop t).length (qz (ps.drop t)):=by
 rcases h with ⟨h1,a,c,rfl⟩|⟨h1,bp,cp,rp,rfl,h2,rfl⟩
 ·rw [List.drop_of_length_le h1]
  cases a with
  |none=>exact .inl ⟨c,rfl,rfl,rfl⟩
  |some a=>exact .inr ⟨a,c,rfl,.inl rfl,rfl⟩
 ·refine .inr ⟨⟨bp,t * 2,none⟩,cp - t,by rw [List.length_drop],?_,Yy _⟩
  refine .inr ⟨bp,t * 2,_,_,(0,0),rfl,hL (bp,_) (by simp;rfl),fun j u hj=>?_⟩
  rw [zh5,List.getElem?_drop] at hj
  rw [List.getElem?_toArray,List.getElem?_append_left (List.getElem?_eq_some_iff.1 hj).1]
  exact hj
omit [W0] in
def qg (wt:Nat→Nat) (g:Nat→Nat × Nat) (N:Nat):List Pm.It:=(List.range N).map fun r=>Pm.Zm wt (g r).1
theorem zd4 (wt:Nat→Nat) (g:Nat→Nat × Nat) {N i:Nat} (h:i < N):(qg wt g N)[i]? =some (Pm.Zm wt (g i).1):=by simp [qg,h]
theorem q8 (wt:Nat→Nat) (g:Nat→Nat × Nat) (N:Nat):(qg wt g N).length=N:=by simp [qg]
theorem QK (wt:Nat→Nat) (g:Nat→Nat × Nat) (N:Nat):∀x∈qg wt g N,Pm.isC x=true:=by
 intro x hx
 obtain ⟨r,_,rfl⟩:=List.mem_map.1 hx
 rfl
theorem zaP {wt:Nat→Nat} {g:Nat→Nat × Nat} {N:Nat} (hs:Srt ky 0 N g) (hw:∀r,r < N→(g r).2=wt (g r).1):(qg wt g N).Pairwise fun a b=>a.w≤b.w:=by
 rw [qg,List.pairwise_map]
 refine List.Pairwise.imp_of_mem (fun {a b} ha hb (hab:a < b)=>?_) List.pairwise_lt_range
 have hb':=List.mem_range.1 hb
 have:=hs a b (Nat.zero_le _) (by omega) hb'
 unfold ky at this
 rw [hw a (by omega),hw b hb'] at this
 exact this
theorem zkE (wt:Nat→Nat) (g:Nat→Nat × Nat) (N b0 c0:Nat) (rest:List Value) (v:Value) (lb:List Pm.It) (Cb:Chunk) (L:List Chunk) (hN:N≤400) (hs:Srt ky 0 N g) (hgw:∀r,r < N→(g r).2=wt (g r).1) (hgb:∀r,r < N→(g r).2≤1073741824)
 (hO:Ow 372 2 v lb.length (qz lb) Cb) (hl:lb.length≤1000) (hw:∀x∈lb,x.w≤2305843009213693952) (hup:lb.Pairwise fun a b=>a.w≤b.w) :
 Gv Tryz.prog 290 [.slice (some ⟨b0,0,none⟩) N c0,v].toArray ([(b0,cl (cvs g N++rest) 352)]::Cb::L)
  (fun r L'=>∃A C,L'=C::[(b0,cl (cvs g N++rest) 352)]::Cb::L∧Ow 372 2 r A.length (qz A) C∧Pm.Mg (qg wt g N) (Pm.pairs lb) A):=by
 have hcs:=zaP hs hgw
 have hps:=Pm.ZG hup
 have hpp:=Pm.uY lb
 have hcc:=QK wt g N
 have hcl:=q8 wt g N
 have hpl:=Pm.wL lb
 have hpc:=znJ v lb Cb ([(b0,cl (cvs g N++rest) 352)]::L) hO hl hw
 obtain ⟨va,vc,hvs⟩:∃a c,v=.slice a lb.length c:=by
  rcases hO with ⟨rfl,h1,_⟩|⟨b,cap,rest,rfl,_⟩
  ·rw [h1];exact ⟨_,_,rfl⟩
  ·exact ⟨_,_,rfl⟩
 refine Gv.of_body Tryz.func290 rfl rfl ?_
 refine kW ?_
 refine cC rfl rfl (Gv.take hpc (by repeat (first|exact Take.here|apply Take.there))) (fun r L' hp=>?_)
 obtain ⟨Cp,rfl,hop⟩:=hp
 obtain ⟨ps,hpse⟩:∃ps,ps=Pm.pairs lb:=⟨_,rfl⟩
 rw [←hpse] at hop hps hpp hpl ⊢
 have hpv:=PsV.new hop
 refine kW ?_
 refine zn (X:=Nat × Nat × List Pm.It × Value × Chunk × Value) (fun x=>[(5,x.2.2.2.1),(6,x.2.2.2.2.2),(11,.slice (some ⟨b0,0,none⟩) N c0),(12,.int .i64 (N:Int)),(13,.int .i64 (x.1:Int))])
  (fun x=>[(b0,cl (cvs g N++rest) 352)]::x.2.2.2.2.1::Cp::Cb::L)
  (fun x=>x.1≤N∧Pm.Mp (qg wt g N) ps x.1 x.2.1 x.2.2.1∧Ow 372 2 x.2.2.2.1 x.2.2.1.length (qz x.2.2.1) x.2.2.2.2.1∧PsV ps Cp x.2.2.2.2.2 x.2.1) (fun x=>N - x.1) (0,0,[],.slice none 0 0,[],r)
  ⟨Nat.zero_le _,Pm.Mp.nil _ _,.inl ⟨rfl,rfl,rfl,rfl⟩,hpv⟩ iS (fun w h=>?_) ?_
 ·show Holds w ([(b0,cl (cvs g N++rest) 352)]::[]::Cp::Cb::L)
  exact Holds.gap.2 (iH h)
 clear hpv hpc
 rintro ⟨i,t,A,vi,Ci,vp⟩ ⟨q1,q2,q3,q4⟩
 simp only at q1 q2 q3 q4 ⊢
 (repeat' first|refine kW ?_|refine kU fun bk=>?_|refine kV fun hc=>?_|refine kZ (fun hc=>?_) fun hc=>?_|fail)
 ·have hiN:i < N:=by omega
  refine ze (zh (j:=i) (len:=N) rfl rfl rfl hiN) rfl ?_
  refine kW ?_
  refine ze (zB rfl (vC (f:=g) (n:=N) (j:=i) (rest:=rest) hiN Fnd.here) rfl) rfl ?_
  (refine kW ?_;refine kU fun bk=>?_;refine kW ?_)
  obtain ⟨bc,hbc⟩:∃bc,bc=bk:=⟨_,rfl⟩
  rw [←hbc]
  clear hbc
  refine yC (L':=[(bc,cl [.int .i64 0,.int .i64 0] 352)]::[(b0,cl (cvs g N++rest) 352)]::Ci::Cp::Cb::L) (fun w h=>h) ?_
  refine zo (l:=[.int .i64 0,.int .i64 0]) (vs:=cv (g i)) (cv (g i)) rfl rfl rfl rfl rfl iU (by simp [cv]) ?_
  refine kW ?_
  refine zn (X:=Nat × List Pm.It × Value × Chunk × Value) (fun x=>[(5,x.2.2.1),(6,x.2.2.2.2),(8,.pointer (some ⟨bc,0,none⟩)),(11,.slice (some ⟨b0,0,none⟩) N c0),(12,.int .i64 (N:Int)),(13,.int .i64 (i:Int))])
   (fun x=>[(bc,cl (cv (g i)) 352)]::[(b0,cl (cvs g N++rest) 352)]::x.2.2.2.1::Cp::Cb::L)
   (fun x=>Pm.Mp (qg wt g N) ps i x.1 x.2.1∧Ow 372 2 x.2.2.1 x.2.1.length (qz x.2.1) x.2.2.2.1∧PsV ps Cp x.2.2.2.2 x.1) (fun x=>ps.length - x.1) (t,A,vi,Ci,vp)
   ⟨q2,q3,q4⟩ iS (fun w h=>h) ?_
  clear q2 q3 q4 t A vi Ci vp
  rintro ⟨t,A,vi,Ci,vp⟩ ⟨q2,q3,q4⟩
  simp only at q2 q3 q4 ⊢
  have hcz:=zd4 wt g hiN
  have hzw:(Pm.Zm wt (g i).1).w=(g i).2:=(hgw i hiN).symm
  have hAl:=q2.len
  rw [hcl] at hAl
  have hitv:itv (Pm.Zm wt (g i).1)=[.int .i64 ((g i).2:Int),.bool false]:=by unfold itv;rw [hzw];rfl
  have hq4:=q4
  rcases q4 with ⟨h1,a,c,rfl⟩|⟨h1,bp,cp,rp,rfl,h2,rfl⟩
  ·refine kW ?_
   refine zk [] mixed ?_
   (refine za 0 ?_;refine za 1 ?_;refine za 2 ?_;refine za 3 ?_)
   rw [show decide ((((0:Nat):Nat):Int) > 0)=false from by decide]
   (refine zD 4 ?_;refine zD 5 ?_;refine zD 6 ?_;refine zD 7 ?_;refine zD 8 ?_;refine zD 9 ?_;refine zD 10 ?_)
   (refine za 11 ?_)
   refine cD ?_
   refine kW ?_
   refine zl (cs:=itv (Pm.Zm wt (g i).1)) rfl (by rfl) (by rw [hitv];first|(simp [zA,patch,Value.cells,zeros];done)|(simp [zA,patch,Value.cells,zeros];rfl)) (by omega) rfl rfl (fun bs=>?_)
   refine kW ?_
   refine zu rfl rfl q3 (zF (k:=2) (c:=(itv (Pm.Zm wt (g i).1)).toArray) (xs:=itv (Pm.Zm wt (g i).1)) (m:=1) Fnd.here rfl (by simp)) (by repeat (first|exact Zip.here _|apply Zip.there)) rfl (by rfl) (by omega) (by simp [maxLen];omega) rfl (fun v' C' ho' _ _=>?_)
   refine kW ?_
   refine zf (X:=Nat × Nat × List Pm.It × Value × Chunk × Value) (μ:=fun x=>N - x.1) (x:=(i,0,[],.slice none 0 0,[],.slice none 0 0)) (i+1,t,A++[Pm.Zm wt (g i).1],v',C',.slice a 0 c) (by simp only;omega) ⟨by simp only;omega,q2.Zm hcs hps hcc hcz (fun x hx=>by rw [List.getElem?_eq_none h1] at hx;cases hx),by rw [ZE,List.length_append];exact ho',hq4⟩ iS (fun w h=>iH h)
  ·obtain ⟨x,hx⟩:∃x,ps[t]? =some x:=⟨ps[t],by simp [h1]⟩
   have hgx:=(Zg hx).1
   have hxl:=(List.getElem?_eq_some_iff.1 hgx).1
   have hgx2:nth (qz ps++rp) (t * 2+0 * 2+0)=some (.int .i64 (x.w:Int)):=by
    rw [yu,show t * 2+0 * 2+0=t * 2 from by omega,List.getElem?_append_left hxl]
    exact hgx
   refine kW ?_
   refine zk [] mixed ?_
   (refine za 0 ?_;refine za 1 ?_;refine za 2 ?_;refine za 3 ?_)
   rw [show decide (((ps.length - t:Nat):Int) > 0)=true from by simp;omega]
   (refine zN 4 ?_)
   refine cO 5 rfl rfl rfl (zi (j:=0) rfl rfl rfl (by omega)) ?_
   refine cO 6 rfl rfl rfl (yH rfl) ?_
   refine cO 7 rfl rfl rfl (zx rfl (Fnd.there (Fnd.there (Fnd.there Fnd.here))) hgx2) ?_
   (refine zN 8 ?_;refine zN 9 ?_;refine zN 10 ?_)
   (refine za 11 ?_)
   refine cD ?_
   (repeat' first|refine kW ?_|refine kU fun bk=>?_|refine kV fun hc=>?_|refine kZ (fun hc=>?_) fun hc=>?_|fail)
   ·have hgx1:=(Zg hx).2
    have hrd:zK [[(bp,cl (qz ps++rp) 372)]] ⟨bp,t * 2+0 * 2,none⟩ (itv x):=by
     refine .inr ⟨bp,_,_,_,(0,0),rfl,Fnd.here,fun j u hj=>?_⟩
     rw [List.getElem?_toArray]
     match j,hj with
     |0,hj=>
      rw [show t * 2+0 * 2+0=t * 2 from by omega,List.getElem?_append_left hxl,hgx]
      exact hj
     |1,hj=>
      rw [show t * 2+0 * 2+1=t * 2+1 from by omega,List.getElem?_append_left (List.getElem?_eq_some_iff.1 hgx1).1,hgx1]
      exact hj
     |n+2,hj=>simp [itv] at hj
    refine yQ [[(bp,cl (qz ps++rp) 372)]] [] mixed ?_
    (refine za 0 ?_;refine za 1 ?_)
    refine cT 2 rfl rfl (zi (j:=0) rfl rfl rfl (by omega)) ?_
    refine cT 3 rfl rfl (zB rfl hrd rfl) ?_
    (refine za 6 ?_)
    refine cT 7 rfl rfl (yS (l:=1) (h:=ps.length - t) rfl rfl rfl (by omega) (by omega)) ?_
    refine cI 4 rfl rfl ?_
    refine zl (cs:=itv x) rfl (by rfl) (by simp [zA,patch,Value.cells,zeros,itv];done) (by omega) rfl rfl (fun bs=>?_)
    refine ⟨iC,?_⟩
    refine cI 5 rfl rfl ?_
    refine zu rfl rfl q3 (zF (k:=2) (c:=(itv x).toArray) (xs:=itv x) (m:=1) Fnd.here rfl (by simp)) (by repeat (first|exact Zip.here _|apply Zip.there)) rfl (by rfl) (by omega) (by simp [maxLen];omega) rfl (fun v' C' ho' _ _=>?_)
    refine ⟨iC,?_⟩
    (refine za 8 ?_;refine za 9 ?_)
    refine cD ?_
    refine kW ?_
    refine zf (X:=Nat × List Pm.It × Value × Chunk × Value) (μ:=fun x=>ps.length - x.1) (x:=(t,A,vi,Ci,vi)) (t+1,A++[x],v',C',_) (by simp only;omega) ⟨q2.pack hcs hps hpp hx hcz (by rw [hzw];omega),by rw [ZE,List.length_append];exact ho',?_⟩ iS (fun w h=>iH h)
    by_cases h3:t+1 < ps.length
    ·refine .inr ⟨h3,bp,cp,rp,?_,h2,rfl⟩
     rw [if_neg (by omega)]
     simp only
     rw [show t * 2+1 * 2=(t+1) * 2 from by omega,Nat.sub_sub,Nat.sub_sub]
    ·have e0:ps.length - t - 1=0:=by omega
     rw [e0]
     exact .inl ⟨by simp only;omega,_,_,rfl⟩
   ·refine zl (cs:=itv (Pm.Zm wt (g i).1)) rfl (by rfl) (by rw [hitv];first|(simp [zA,patch,Value.cells,zeros];done)|(simp [zA,patch,Value.cells,zeros];rfl)) (by omega) rfl rfl (fun bs=>?_)
    refine kW ?_
    refine zu rfl rfl q3 (zF (k:=2) (c:=(itv (Pm.Zm wt (g i).1)).toArray) (xs:=itv (Pm.Zm wt (g i).1)) (m:=1) Fnd.here rfl (by simp)) (by repeat (first|exact Zip.here _|apply Zip.there)) rfl (by rfl) (by omega) (by simp [maxLen];omega) rfl (fun v' C' ho' _ _=>?_)
    refine kW ?_
    refine zf (X:=Nat × Nat × List Pm.It × Value × Chunk × Value) (μ:=fun x=>N - x.1) (x:=(i,0,[],.slice none 0 0,[],.slice none 0 0)) (i+1,t,A++[Pm.Zm wt (g i).1],v',C',.slice (some ⟨bp,t * 2,none⟩) (ps.length - t) (cp - t)) (by simp only;omega) ⟨by simp only;omega,q2.Zm hcs hps hcc hcz (fun y hy=>by rw [hx] at hy;injection hy with hy;subst hy;rw [hzw];omega),by rw [ZE,List.length_append];exact ho',hq4⟩ iS (fun w h=>iH h)
 ·have hie:i=N:=by omega
  refine zu rfl rfl q3 (q4.sl (fun x hx=>?_)) (by repeat (first|exact Zip.here _|apply Zip.there)) rfl (zh6 _) ?_ ?_ rfl (fun v' C' ho' _ _=>?_)
  ·simp only [List.flatten_cons,List.mem_append]
   exact .inr (.inr (.inl hx))
  ·have:=q2.len
   rw [hcl] at this
   rw [List.length_drop]
   omega
  ·have:=q2.len
   rw [hcl] at this
   rw [List.length_drop]
   simp [maxLen]
   omega
  ·refine kW ?_
   refine kR ?_
   rw [hie] at q2
   have hfin:=Pm.Mp.fin (cs:=qg wt g N) (by rw [hcl];exact q2) hps hpp
   refine ⟨C'::[(b0,cl (cvs g N++rest) 352)]::Cb::L,iC,A++ps.drop t,C',rfl,?_,hfin⟩
   rw [List.length_append,ZE]
   exact ho'
end Go.Proofs.YtfbfcapoobmdpaaGreatDoor
namespace Go.Hf
set_option linter.all false
def okc (x:Int):Bool:=!(decide (x < 0)||decide (1073741824 < x))
theorem zdi (x:Int):okc x=true↔0≤x∧x≤1073741824:=by
 unfold okc
 by_cases h1:x < 0<;>by_cases h2:1073741824 < x<;>simp [h1,h2]<;>omega
def pos (cs:List Nat):Nat→List (Nat × Nat)
 |0=>[]
 |k+1=>pos cs k++if 0 < cs.getD k 0 then [(k,cs.getD k 0)] else []
theorem uf (cs:List Nat):∀k,(pos cs k).length≤k
 |0=>Nat.le_refl _
 |k+1=>by
  have:=uf cs k
  rw [pos,List.length_append]
  split<;>simp<;>omega
theorem zas (cs:List Nat):∀k x,x∈pos cs k↔x.1 < k∧0 < cs.getD x.1 0∧x.2=cs.getD x.1 0
 |0,x=>by simp [pos]
 |k+1,x=>by
  rw [pos,List.mem_append,zas cs k]
  by_cases h:0 < cs.getD k 0
  ·rw [if_pos h,List.mem_singleton]
   constructor
   ·rintro (⟨h1,h2,h3⟩|rfl)
    ·exact ⟨by omega,h2,h3⟩
    ·exact ⟨Nat.lt_succ_self _,h,rfl⟩
   ·rintro ⟨h1,h2,h3⟩
    rcases Nat.lt_or_ge x.1 k with h4|h4
    ·exact .inl ⟨h4,h2,h3⟩
    ·have e:x.1=k:=by omega
     refine .inr ?_
     obtain ⟨x1,x2⟩:=x
     simp only at e h3 ⊢
     subst e h3
     rfl
  ·rw [if_neg h]
   constructor
   ·rintro (⟨h1,h2,h3⟩|h1)
    ·exact ⟨by omega,h2,h3⟩
    ·cases h1
   ·rintro ⟨h1,h2,h3⟩
    refine .inl ⟨?_,h2,h3⟩
    rcases Nat.lt_or_ge x.1 k with h4|h4
    ·exact h4
    ·have e:x.1=k:=by omega
     rw [e] at h2
     exact absurd h2 h
theorem zcl (cs:List Nat):∀k,((pos cs k).map fun x=>x.1).Nodup
 |0=>by simp [pos]
 |k+1=>by
  rw [pos,List.map_append,List.nodup_append]
  refine ⟨zcl cs k,by split<;>simp,fun a ha b hb=>?_⟩
  obtain ⟨x,hx,rfl⟩:=List.mem_map.1 ha
  have h1:=((zas cs k x).1 hx).1
  split at hb
  ·simp at hb;omega
  ·simp at hb
structure Cn (cs:List Nat) (n N:Nat) (g:Nat→Nat × Nat):Prop where
 le:N≤n
 up:Go.So.Srt (fun x=>x.2) 0 N g
 sy:∀r,r < N→(g r).1 < n∧0 < cs.getD (g r).1 0∧(g r).2=cs.getD (g r).1 0
 inj:∀r p,r < N→p < N→(g r).1=(g p).1→r=p
 onto:∀i,i < n→0 < cs.getD i 0→∃r,r < N∧(g r).1=i
theorem zqy {cs:List Nat} {n:Nat} {g:Nat→Nat × Nat} (hu:Go.So.Srt (fun x=>x.2) 0 (pos cs n).length g)
 (hp:((List.range (pos cs n).length).map g).Perm (pos cs n)):Cn cs n (pos cs n).length g where
 le:=uf cs n
 up:=hu
 sy r hr:=(zas cs n (g r)).1 (hp.mem_iff.1 (List.mem_map.2 ⟨r,List.mem_range.2 hr,rfl⟩))
 inj r p hr hq he:=by
  have h1:(((List.range (pos cs n).length).map g).map fun x=>x.1).Nodup:=(hp.map _).nodup_iff.2 (zcl cs n)
  rw [List.map_map] at h1
  have h2:((List.range (pos cs n).length).map ((fun x=>x.1) ∘ g))[r]? =((List.range (pos cs n).length).map ((fun x=>x.1) ∘ g))[p]? :=by
   rw [List.getElem?_map,List.getElem?_map,List.getElem?_range hr,List.getElem?_range hq]
   exact congrArg some he
  exact (List.getElem?_inj (by simpa using hr) h1).1 h2
 onto i hi h0:=by
  have h1:=(zas cs n (i,cs.getD i 0)).2 ⟨hi,h0,rfl⟩
  obtain ⟨r,hr,he⟩:=List.mem_map.1 (hp.mem_iff.2 h1)
  exact ⟨r,List.mem_range.1 hr,by rw [he]⟩
end Go.Hf
namespace Go.Proofs.YtfbfcapoobmdpaaGreatDoor
open Go Go.Vx Go.So Go.Hf
variable [W0]
set_option maxRecDepth 4000
set_option linter.all false
theorem zqV (x:Int) (L:List Chunk):GvP Tryz.prog 285 [.int .i64 x].toArray L (.bool (!okc x)):=by
 refine Gv.of_body Tryz.func285 rfl rfl ?_
 (repeat' first|refine kW ?_|refine kU fun bk=>?_|refine kV fun hc=>?_|refine kZ (fun hc=>?_) fun hc=>?_|fail)
 ·refine kR ?_
  exact ⟨L,iC,congrArg Value.bool (show true=!okc x by simp [okc,hc]),rfl⟩
 ·refine kR ?_
  exact ⟨L,iC,congrArg Value.bool (show decide (x > 1073741824)=!okc x by simp [okc,hc]),rfl⟩
omit [W0] in
def zpN:Value:=.func (.func 285) #[] #[]
theorem znh (a:Option Addr) (c:Nat) (ls:List Int) (L:List Chunk) (h:Sl L 1 (.slice a ls.length c) ls.length (yg ls)) (hl:ls.length≤17592186044416) :
 Gv Tryz.prog 292 [.slice a ls.length c,zpN].toArray L (fun r L'=>∃k:Int,r=.int .i64 k∧(0≤k↔ls.all okc=false)∧L'=L):=by
 refine Gv.of_body Tryz.func292 rfl rfl ?_
 refine kW ?_
 refine zn (X:=Nat) (fun i=>[(0,.slice a ls.length c),(1,zpN),(7,.int .i64 (ls.length:Int)),(8,.int .i64 (i:Int))]) (fun _=>L)
  (fun i=>i≤ls.length∧(ls.take i).all okc=true) (fun i=>ls.length - i) 0 ⟨Nat.zero_le _,rfl⟩ iS (fun w h=>h) ?_
 rintro i ⟨hi,hal⟩
 (repeat' first|refine kW ?_|refine kU fun bk=>?_|refine kV fun hc=>?_|refine kZ (fun hc=>?_) fun hc=>?_|fail)
 ·have hlt:i < ls.length:=by omega
  obtain ⟨b,off,cap,cc,T,fr,hve,hfn,hcell⟩:=yV h (wT hlt)
  injection hve with q1 q2 q3
  subst q1 q3
  clear q2
  have htk:(ls.take (i+1)).all okc=((ls.take i).all okc&&okc (ls.getD i 0)):=by
   rw [List.take_add_one,List.all_append,List.getElem?_eq_getElem hlt]
   simp [List.getD,hlt]
  obtain ⟨x,hx⟩:∃x,x=ls.getD i 0:=⟨_,rfl⟩
  have hxm:x∈ls:=by rw [hx];simp [List.getD,hlt]
  rw [←hx] at hcell htk
  refine ze (zi (j:=i) rfl rfl rfl hlt) rfl ?_
  refine kW ?_
  refine ze (zq rfl hfn hcell) rfl ?_
  refine kW ?_
  refine cP rfl rfl (zqV x _) ?_
  (repeat' first|refine kW ?_|refine kU fun bk=>?_|refine kV fun hc=>?_|refine kZ (fun hc=>?_) fun hc=>?_|fail)
  ·refine kR ?_
   refine ⟨L,iC,_,rfl,⟨fun _=>?_,fun _=>by omega⟩,rfl⟩
   rw [Bool.eq_false_iff]
   intro hh
   have:=List.all_eq_true.1 hh x hxm
   rw [this] at hc
   cases hc
  ·have hox:okc x=true:=by simpa using hc
   refine zf (X:=Nat) (μ:=fun i=>ls.length - i) (x:=i) (i+1) (by omega) ⟨by omega,by rw [htk,hal,hox];rfl⟩ iS (fun w h=>h)
 ·refine kR ?_
  refine ⟨L,iC,_,rfl,⟨fun h=>absurd h (by decide),fun hh=>?_⟩,rfl⟩
  rw [List.take_of_length_le (by omega)] at hal
  rw [hal] at hh
  cases hh
theorem zfn (a:Option Addr) (c:Nat) (ls:List Int) (L:List Chunk) (h:Sl L 1 (.slice a ls.length c) ls.length (yg ls)) (hl:ls.length≤17592186044416) :
 GvP Tryz.prog 284 [.slice a ls.length c,zpN].toArray L (.bool (!ls.all okc)):=by
 refine Gv.of_body Tryz.func284 rfl rfl ?_
 refine kW ?_
 refine cC rfl rfl (znh a c ls L h hl) (fun r L' hp=>?_)
 obtain ⟨k,rfl,hk,rfl⟩:=hp
 refine kW ?_
 refine kR ?_
 refine ⟨L',iC,congrArg Value.bool ?_,rfl⟩
 rw [Bool.eq_iff_iff]
 simp only [Bool.not_eq_true']
 rw [←hk]
 simp
theorem zd6 (a:Option Addr) (c:Nat) (ls:List Int) (L:List Chunk) (h:Sl L 1 (.slice a ls.length c) ls.length (yg ls)) (hl:ls.length≤17592186044416) :
 GvP Tryz.prog 277 [.slice a ls.length c].toArray L (.bool (ls.all okc)):=by
 refine Gv.of_body Tryz.func277 rfl rfl ?_
 refine kW ?_
 refine cP rfl rfl (zfn a c ls L h hl) ?_
 refine kW ?_
 refine kR ?_
 exact ⟨L,iC,congrArg Value.bool (Bool.not_not _),rfl⟩
omit [W0] in
def psv (l:List (Nat × Nat)):List Value:=l.flatMap cv
theorem zhl (l:List (Nat × Nat)) (x:Nat × Nat):psv (l++[x])=psv l++cv x:=by simp [psv]
theorem zgE (f:Nat→Nat × Nat):∀n,cvs f n=psv ((List.range n).map f)
 |0=>rfl
 |n+1=>by rw [cvs,zgE f n,List.range_succ,List.map_append,List.map_singleton,zhl]
omit [W0] in
def fof (l:List (Nat × Nat)):Nat→Nat × Nat:=fun k=>l.getD k (0,0)
theorem zc2 (l:List (Nat × Nat)):(List.range l.length).map (fof l)=l:=by
 apply List.ext_getElem?
 intro k
 rw [List.getElem?_map]
 rcases Nat.lt_or_ge k l.length with h|h
 ·rw [List.getElem?_range h]
  simp [fof,List.getD,h]
 ·rw [List.getElem?_eq_none (by simpa using h),List.getElem?_eq_none h]
  rfl
theorem znN (l:List (Nat × Nat)):psv l=cvs (fof l) l.length:=by rw [zgE,zc2]
theorem zkJ {ls:List Int} {i:Nat} (h:i < ls.length):(nl ls).getD i 0=(ls.getD i 0).toNat:=by simp [nl,List.getD,h]
theorem zmT (a:Option Addr) (c:Nat) (ls:List Int) (L:List Chunk) (h:Sl L 1 (.slice a ls.length c) ls.length (yg ls)) (hl:ls.length≤400) (hok:ls.all okc=true) :
 Gv Tryz.prog 278 [.slice a ls.length c].toArray L (fun r L'=>∃g C,Cn (nl ls) ls.length (pos (nl ls) ls.length).length g∧L'=C::L∧Ow 352 2 r (pos (nl ls) ls.length).length (cvs g (pos (nl ls) ls.length).length) C):=by
 refine Gv.of_body Tryz.func278 rfl rfl ?_
 refine kW ?_
 refine zn (X:=Nat × Value × Chunk) (fun x=>[(3,x.2.1),(6,.slice a ls.length c),(7,.int .i64 (ls.length:Int)),(8,.int .i64 (x.1:Int))]) (fun x=>x.2.2::L)
  (fun x=>x.1≤ls.length∧Ow 352 2 x.2.1 (pos (nl ls) x.1).length (psv (pos (nl ls) x.1)) x.2.2) (fun x=>ls.length - x.1) (0,.slice none 0 0,[]) ⟨Nat.zero_le _,.inl ⟨rfl,rfl,rfl,rfl⟩⟩ iS (fun w h=>Holds.nil.2 h) ?_
 rintro ⟨i,v,C⟩ ⟨hi,ho⟩
 simp only at hi ho ⊢
 (repeat' first|refine kW ?_|refine kU fun bk=>?_|refine kV fun hc=>?_|refine kZ (fun hc=>?_) fun hc=>?_|fail)
 ·have hlt:i < ls.length:=by omega
  obtain ⟨b,off,cap,cc,T,fr,hve,hfn,hcell⟩:=yV h (wT hlt)
  injection hve with q1 q2 q3
  subst q1 q3
  clear q2
  have hg:=zkJ hlt
  have hox:okc (ls.getD i 0)=true:=List.all_eq_true.1 hok _ (by simp [List.getD,hlt])
  obtain ⟨ho1,ho2⟩:=(zdi _).1 hox
  obtain ⟨x,hx⟩:∃x,x=(nl ls).getD i 0:=⟨_,rfl⟩
  have hxe:ls.getD i 0=(x:Int):=by rw [hx,hg];omega
  have hps:pos (nl ls) (i+1)=pos (nl ls) i++if 0 < x then [(i,x)] else []:=by rw [hx];rfl
  have hpl:=uf (nl ls) i
  rw [hxe] at hcell
  refine ze (zi (j:=i) rfl rfl rfl hlt) rfl ?_
  refine kW ?_
  refine ze (zq rfl hfn.there hcell) rfl ?_
  (repeat' first|refine kW ?_|refine kU fun bk=>?_|refine kV fun hc=>?_|refine kZ (fun hc=>?_) fun hc=>?_|fail)
  ·have h0:0 < x:=by omega
   rw [if_pos h0] at hps
   refine zl (cs:=cv (i,x)) rfl (by rfl) (by first|(simp [zA,patch,Value.cells,zeros,cv];done)|(simp [zA,patch,Value.cells,zeros,cv];rfl)) (by omega) rfl rfl (fun bs=>?_)
   refine kW ?_
   refine zu rfl rfl ho (zF (k:=2) (c:=(cv (i,x)).toArray) (xs:=cv (i,x)) (m:=1) Fnd.here rfl (by simp)) (by repeat (first|exact Zip.here _|apply Zip.there)) rfl (by rfl) (by omega) (by simp [maxLen];omega) rfl (fun v' C' ho' _ _=>?_)
   refine kW ?_
   refine zf (X:=Nat × Value × Chunk) (μ:=fun x=>ls.length - x.1) (x:=(i,v,C)) (i+1,v',C') (by simp only;omega) ⟨by simp only;omega,by simp only;rw [hps,List.length_append,zhl];exact ho'⟩ iS (fun w h=>h.drop)
  ·have h0:¬0 < x:=by omega
   rw [if_neg h0,List.append_nil] at hps
   refine zf (X:=Nat × Value × Chunk) (μ:=fun x=>ls.length - x.1) (x:=(i,v,C)) (i+1,v,C) (by simp only;omega) ⟨by simp only;omega,by simp only;rw [hps];exact ho⟩ iS (fun w h=>h)
 ·have hie:i=ls.length:=by omega
  subst hie
  have hpl:=uf (nl ls) ls.length
  obtain ⟨P,hP⟩:∃P,P=pos (nl ls) ls.length:=⟨_,rfl⟩
  rw [←hP] at ho hpl ⊢
  rw [znN] at ho
  have hcn:=fun g h1 h2=>zqy (cs:=nl ls) (n:=ls.length) (g:=g) (by rw [←hP];exact h1) (by rw [←hP];exact h2)
  rw [←hP] at hcn
  rcases ho with ⟨rfl,h1,h2,rfl⟩|⟨b,cap,rest,rfl,rfl,hxl,hrl,hmc,hcm⟩
  ·refine cP rfl rfl (zf9 _) ?_
   refine kW ?_
   refine kR ?_
   have hP0:P=[]:=List.length_eq_zero_iff.1 h1
   refine ⟨[]::L,iC,fof P,[],hcn _ (fun p q _ _ hq=>by omega) (by rw [zc2]),rfl,.inl ⟨rfl,h1,h2,rfl⟩⟩
  ·refine cC rfl rfl (zlG (fof P) P.length b cap rest L (by omega)) (fun r L' hp=>?_)
   obtain ⟨rfl,g,hm,hs,rfl⟩:=hp
   refine kW ?_
   refine kR ?_
   refine ⟨[(b,cl (cvs g P.length++rest) 352)]::L,iC,g,_,hcn _ hs ?_,rfl,.inr ⟨b,cap,rest,rfl,rfl,y8 g _,hrl,hmc,hcm⟩⟩
   ·have:=hm.perm (Nat.le_refl _)
    rw [zc2] at this
    exact this
end Go.Proofs.YtfbfcapoobmdpaaGreatDoor
namespace Go.Pm
set_option linter.all false
theorem zny {cs ps:List Pm.It} (hcs:cs.Pairwise fun a b=>a.w≤b.w) (hps:ps.Pairwise fun a b=>a.w≤b.w) (hcc:∀x∈cs,isC x=true) (hpp:∀x∈ps,isC x=false):∀i,i≤cs.length→∃t A,Mp cs ps i t A:=by
 intro i
 induction i with
 |zero=>intro _;exact ⟨0,[],Mp.nil _ _⟩
 |succ i ih=>
  intro hi
  obtain ⟨t,A,h⟩:=ih (by omega)
  obtain ⟨z,hz⟩:∃z,cs[i]? =some z:=⟨cs[i],by simp [show i < cs.length from by omega]⟩
  have key:∀m t A,ps.length - t≤m→Mp cs ps i t A→∃t A,Mp cs ps (i+1) t A:=by
   intro m
   induction m with
   |zero=>
    intro t A hm h
    exact ⟨t,_,h.Zm hcs hps hcc hz fun x hx=>by have:=(List.getElem?_eq_some_iff.1 hx).1;omega⟩
   |succ m ih=>
    intro t A hm h
    cases hp:ps[t]? with
    |none=>exact ⟨t,_,h.Zm hcs hps hcc hz fun x hx=>by rw [hp] at hx;cases hx⟩
    |some x=>
     rcases Nat.lt_or_ge x.w z.w with hlt|hge
     ·have hl:=(List.getElem?_eq_some_iff.1 hp).1
      exact ih (t+1) _ (by omega) (h.pack hcs hps hpp hp hz hlt)
     ·exact ⟨t,_,h.Zm hcs hps hcc hz fun y hy=>by rw [hp] at hy;injection hy with hy;subst hy;exact hge⟩
  exact key _ t A (Nat.le_refl _) h
theorem zar {cs ps:List Pm.It} (hcs:cs.Pairwise fun a b=>a.w≤b.w) (hps:ps.Pairwise fun a b=>a.w≤b.w) (hcc:∀x∈cs,isC x=true) (hpp:∀x∈ps,isC x=false):∃A,Mg cs ps A:=by
 obtain ⟨t,A,h⟩:=zny hcs hps hcc hpp cs.length (Nat.le_refl _)
 exact ⟨_,h.fin hps hpp⟩
open Classical in
noncomputable def QW (cs ps:List Pm.It):List Pm.It:=if h:∃A,Mg cs ps A then Classical.choose h else []
noncomputable def zaa (cs:List Pm.It) (lv:Nat→List Pm.It) (k:Nat) (A:List Pm.It):Nat→List Pm.It
 |0=>[]
 |j+1=>if j < k then lv (j+1) else if j=k then A else QW cs (pairs (zaa cs lv k A j))
theorem wS {cs:List Pm.It} {lv:Nat→List Pm.It} {k:Nat} {A:List Pm.It} (h0:lv 0=[]):∀{j:Nat},j≤k→zaa cs lv k A j=lv j
 |0,_=>h0.symm
 |j+1,h=>by unfold zaa;rw [if_pos (by omega)]
theorem XV {cs:List Pm.It} {lv:Nat→List Pm.It} {k:Nat} {A:List Pm.It}:zaa cs lv k A (k+1)=A:=by
 unfold zaa;rw [if_neg (by omega),if_pos rfl]
theorem zm8 {cs:List Pm.It} {lv:Nat→List Pm.It} {k:Nat} {A:List Pm.It} (hcs:cs.Pairwise fun a b=>a.w≤b.w) (hcc:∀x∈cs,isC x=true) (h:Lv cs lv) (hA:Mg cs (pairs (lv k)) A):Lv cs (zaa cs lv k A):=by
 refine ⟨rfl,fun j=>?_⟩
 induction j with
 |zero=>
  by_cases h0:0 < k
  ·rw [wS h.zero (by omega),wS h.zero (by omega)];exact h.next 0
  ·have hk:k=0:=by omega
   subst hk
   rw [XV,wS h.zero (Nat.le_refl _)]
   exact hA
 |succ j ih=>
  by_cases h1:j+1 < k
  ·rw [wS h.zero (by omega),wS h.zero (by omega)];exact h.next (j+1)
  ·by_cases h2:j+1=k
   ·subst h2
    rw [XV,wS h.zero (Nat.le_refl _)]
    exact hA
   ·have hup:(pairs (zaa cs lv k A (j+1))).Pairwise fun a b=>a.w≤b.w:=ZG ih.up
    have hex:=zar hcs hup hcc (uY _)
    have e:zaa cs lv k A (j+1+1)=QW cs (pairs (zaa cs lv k A (j+1))):=by
     rw [zaa,if_neg (by omega),if_neg h2]
    rw [e]
    unfold QW
    rw [dif_pos hex]
    exact Classical.choose_spec hex
theorem zpE {cs:List Pm.It} (hcs:cs.Pairwise fun a b=>a.w≤b.w) (hcc:∀x∈cs,isC x=true):∃lv,Lv cs lv:=by
 have key:∀k,∃lv:Nat→List Pm.It,lv 0=[]∧∀j,j < k→Mg cs (pairs (lv j)) (lv (j+1)):=fun k=>by
  induction k with
  |zero=>exact ⟨fun _=>[],rfl,fun j h=>by omega⟩
  |succ k ih=>
   obtain ⟨lv,h0,h1⟩:=ih
   have hup:(pairs (lv k)).Pairwise fun a b=>a.w≤b.w:=by
    refine ZG ?_
    cases k with
    |zero=>rw [h0];exact .nil
    |succ k=>exact (h1 k (by omega)).up
   obtain ⟨A,hA⟩:=zar hcs hup hcc (uY _)
   refine ⟨zaa cs lv k A,rfl,fun j hj=>?_⟩
   by_cases h2:j=k
   ·subst h2;rw [XV,wS h0 (Nat.le_refl _)];exact hA
   ·rw [wS h0 (by omega),wS h0 (by omega)];exact h1 j (by omega)
 let lv:Nat→List Pm.It:=fun n=>Nat.rec [] (fun j A=>QW cs (pairs A)) n
 refine ⟨lv,rfl,fun j=>?_⟩
 have hup:∀j,(lv j).Pairwise fun a b=>a.w≤b.w:=fun j=>by
  induction j with
  |zero=>exact .nil
  |succ j ih=>
   have hex:=zar hcs (ZG ih) hcc (uY _)
   have e:lv (j+1)=QW cs (pairs (lv j)):=rfl
   rw [e];unfold QW;rw [dif_pos hex]
   exact (Classical.choose_spec hex).up
 have hex:=zar hcs (ZG (hup j)) hcc (uY _)
 have e:lv (j+1)=QW cs (pairs (lv j)):=rfl
 rw [e];unfold QW;rw [dif_pos hex]
 exact Classical.choose_spec hex
theorem QV:∀{l:List Pm.It} {x:Pm.It},x∈pairs l→∃y∈l,∃z∈l,x.w=y.w+z.w
 |[],x,h=>by simp [pairs] at h
 |[_],x,h=>by simp [pairs] at h
 |a::b::r,x,h=>by
  rcases List.mem_cons.1 h with rfl|h
  ·exact ⟨a,by simp,b,by simp,rfl⟩
  ·obtain ⟨y,hy,z,hz,e⟩:=QV h
   exact ⟨y,by simp [hy],z,by simp [hz],e⟩
theorem zpF {cs:List Pm.It} {lv:Nat→List Pm.It} {B:Nat} (h:Lv cs lv) (hB:∀x∈cs,x.w≤B):∀k,∀x∈lv k,x.w≤B * 2 ^ k
 |0,x,hx=>by rw [h.zero] at hx;simp at hx
 |k+1,x,hx=>by
  cases hc:isC x with
  |true=>
   have:x∈(lv (k+1)).filter isC:=List.mem_filter.2 ⟨hx,hc⟩
   rw [(h.next k).cs] at this
   exact Nat.le_trans (hB x this) (Nat.le_mul_of_pos_right _ (Nat.pow_pos (by decide)))
  |false=>
   have:x∈(lv (k+1)).filter (fun x=>!isC x):=List.mem_filter.2 ⟨hx,by rw [hc];rfl⟩
   rw [(h.next k).ps] at this
   obtain ⟨y,hy,z,hz,e⟩:=QV this
   have h1:=zpF h hB k y hy
   have h2:=zpF h hB k z hz
   rw [e,Nat.pow_succ,←Nat.mul_assoc]
   omega
theorem zqR {cs:List Pm.It} {lv:Nat→List Pm.It} (h:Lv cs lv):∀k,(lv k).Pairwise fun a b=>a.w≤b.w
 |0=>by rw [h.zero];exact .nil
 |k+1=>(h.next k).up
theorem zfD {cs:List Pm.It} {lv:Nat→List Pm.It} (h:Lv cs lv):∀k,(lv k).length≤2 * cs.length
 |0=>by rw [h.zero];simp
 |k+1=>by
  have:=Y2 h k
  have:=zfD h k
  omega
end Go.Pm
namespace Go.Proofs.YtfbfcapoobmdpaaGreatDoor
open Go Go.Vx Go.So
variable [W0]
set_option maxRecDepth 4000
set_option linter.all false
omit [W0] in
structure LvR (lv:Nat→List Pm.It) (k:Nat) (vs:List Value) (Cs:List Chunk):Prop where
 lv_:vs.length=k
 lc:Cs.length=k+1
 at_:∀j,j < k→∃v C,vs[j]? =some v∧Cs[j+1]? =some C∧Ow 372 2 v (lv (j+1)).length (qz (lv (j+1))) C
theorem zkw (wt:Nat→Nat) (g:Nat→Nat × Nat) (N b0 c0 M:Nat) (rest:List Value) (L:List Chunk) (hN:N≤400) (hM:M≤15) (hs:Srt ky 0 N g) (hgw:∀r,r < N→(g r).2=wt (g r).1) (hgb:∀r,r < N→(g r).2≤1073741824) :
 Gv Tryz.prog 280 [.slice (some ⟨b0,0,none⟩) N c0,.int .i64 (M:Int)].toArray ([(b0,cl (cvs g N++rest) 352)]::L)
  (fun r L'=>∃lv vs Cs Cl,L'=Cl::Cs.flatten::[(b0,cl (cvs g N++rest) 352)]::L∧Pm.Lv (qg wt g N) lv∧LvR lv M vs Cs∧Ow 363 1 r M vs Cl):=by
 have hcs:=zaP hs hgw
 have hcc:=QK wt g N
 have hcl:=q8 wt g N
 have hcw:∀x∈qg wt g N,x.w≤1073741824:=fun x hx=>by
  obtain ⟨r,hr,rfl⟩:=List.mem_map.1 hx
  have:=hgb r (List.mem_range.1 hr)
  rw [hgw r (List.mem_range.1 hr)] at this
  exact this
 obtain ⟨lv0,hlv0⟩:=Pm.zpE hcs hcc
 refine Gv.of_body Tryz.func280 rfl rfl ?_
 refine kW ?_
 refine zn (X:=Nat × (Nat→List Pm.It) × List Value × List Chunk × Chunk × Value × Value × Chunk) (fun x=>[(0,.slice (some ⟨b0,0,none⟩) N c0),(5,x.2.2.2.2.2.1),(6,x.2.2.2.2.2.2.1),(7,.int .i64 (M:Int)),(8,.int .i64 (x.1:Int))])
  (fun x=>x.2.2.2.2.1::x.2.2.2.1.flatten::x.2.2.2.2.2.2.2::[(b0,cl (cvs g N++rest) 352)]::L)
  (fun x=>x.1≤M∧Pm.Lv (qg wt g N) x.2.1∧LvR x.2.1 x.1 x.2.2.1 (x.2.2.2.1++[x.2.2.2.2.2.2.2])∧Ow 363 1 x.2.2.2.2.2.1 x.1 x.2.2.1 x.2.2.2.2.1∧Ow 372 2 x.2.2.2.2.2.2.1 (x.2.1 x.1).length (qz (x.2.1 x.1)) x.2.2.2.2.2.2.2) (fun x=>M - x.1) (0,lv0,[],[],[],.slice none 0 0,.slice none 0 0,[])
  ⟨Nat.zero_le _,hlv0,⟨rfl,rfl,fun j hj=>by omega⟩,.inl ⟨rfl,rfl,rfl,rfl⟩,by simp only;rw [hlv0.zero];exact .inl ⟨rfl,rfl,rfl,rfl⟩⟩ iS (fun w h=>?_) ?_
 ·show Holds w ([]::[]::[]::[(b0,cl (cvs g N++rest) 352)]::L)
  exact Holds.nil.2 (Holds.nil.2 (Holds.nil.2 h))
 rintro ⟨k,lv,vs,Cs,Cl,rv,bv,Cb⟩ ⟨q1,q2,q3,q4,q5⟩
 simp only at q1 q2 q3 q4 q5 ⊢
 have hlen:=Pm.zfD q2 k
 rw [hcl] at hlen
 (repeat' first|refine kW ?_|refine kU fun bk=>?_|refine kV fun hc=>?_|refine kZ (fun hc=>?_) fun hc=>?_|fail)
 ·have hkM:k < M:=by omega
  have hpw:2 ^ k≤2 ^ 15:=Nat.pow_le_pow_right (by decide) (by omega)
  have hmg:=zkE wt g N b0 c0 rest bv (lv k) Cb (Cl::Cs.flatten::L) hN hs hgw hgb q5 (by omega) (fun x hx=>by
   have h1:=Pm.zpF q2 hcw k x hx
   have h2:1073741824 * 2 ^ k≤1073741824 * 2 ^ 15:=Nat.mul_le_mul_left _ hpw
   omega) (Pm.zqR q2 k)
  refine cC rfl rfl (Gv.holds hmg (fun w h=>iH h)) (fun r L' hp=>?_)
  obtain ⟨A,C,rfl,hoA,hA⟩:=hp
  have hlv':=Pm.zm8 hcs hcc q2 hA
  obtain ⟨ra,rc,rfl⟩:=zM hoA
  refine kW ?_
  refine zl (cs:=[.slice ra A.length rc]) rfl (by rfl) (by simp [zA,patch,Value.cells,zeros];done) (by omega) rfl rfl (fun bs=>?_)
  refine kW ?_
  refine zu rfl rfl q4 (zF (k:=1) (c:=#[.slice ra A.length rc]) (xs:=[.slice ra A.length rc]) (m:=1) Fnd.here rfl (by simp)) (by repeat (first|exact Zip.here _|apply Zip.there)) rfl (by rfl) (by omega) (by simp [maxLen];omega) rfl (fun v' C' ho' _ _=>?_)
  refine kW ?_
  refine zf (X:=Nat × (Nat→List Pm.It) × List Value × List Chunk × Chunk × Value × Value × Chunk) (μ:=fun x=>M - x.1) (x:=(k,lv,vs,Cs,Cl,rv,bv,Cb)) (k+1,Pm.zaa (qg wt g N) lv k A,vs++[.slice ra A.length rc],Cs++[Cb],C',v',.slice ra A.length rc,C) (by simp only;omega)
   ⟨by simp only;omega,hlv',?_,ho',by simp only;rw [Pm.XV];exact hoA⟩ iS (fun w h=>?_)
  ·refine ⟨by simp only [List.length_append,q3.lv_,List.length_cons,List.length_nil],by have:=q3.lc;simp only [List.length_append,List.length_cons,List.length_nil] at this ⊢;omega,fun j hj=>?_⟩
   have hlc:(Cs++[Cb]).length=k+1:=q3.lc
   by_cases e:j=k
   ·subst e
    refine ⟨_,C,by simp only;rw [List.getElem?_append_right (by rw [q3.lv_];omega),q3.lv_,Nat.sub_self];rfl,by simp only;rw [List.getElem?_append_right (by rw [hlc];omega),hlc,Nat.sub_self];rfl,?_⟩
    simp only
    rw [Pm.XV]
    exact hoA
   ·obtain ⟨v1,C1,h1,h2,h3⟩:=q3.at_ j (by simp only at hj;omega)
    refine ⟨v1,C1,by simp only;rw [List.getElem?_append_left (List.getElem?_eq_some_iff.1 h1).1];exact h1,by simp only;rw [List.getElem?_append_left (List.getElem?_eq_some_iff.1 h2).1];exact h2,?_⟩
    simp only
    rw [Pm.wS q2.zero (by simp only at hj;omega)]
    exact h3
  ·have h2:=(iC:Inc (C'::Cs.flatten::Cb::C::[(b0,cl (cvs g N++rest) 352)]::L) _).holds h
   simp only [List.flatten_append,List.flatten_cons,List.flatten_nil,List.append_nil]
   simpa [Holds,List.append_assoc] using h2
 ·have hk:k=M:=by omega
  subst hk
  refine kH ?_
  refine ⟨_,fun w h=>?_,lv,vs,Cs++[Cb],Cl,rfl,q2,q3,q4⟩
  simp only [List.flatten_append,List.flatten_cons,List.flatten_nil,List.append_nil]
  simpa [Holds,List.append_assoc] using h
theorem zmC (l:List Pm.It) (b m c:Nat) (rest:List Value) (L:List Chunk) (hf:Fnd L b (cl (qz l++rest) 372)) (hm:m≤l.length) (hl:l.length≤1000) :
 GvP Tryz.prog 289 [.slice (some ⟨b,0,none⟩) m c].toArray L (.int .i64 ((((l.take m).filter fun x=>!Pm.isC x).length:Nat):Int)):=by
 refine Gv.of_body Tryz.func289 rfl rfl ?_
 refine kW ?_
 refine zn (X:=Nat) (fun i=>[(3,.int .i64 ((((l.take i).filter fun x=>!Pm.isC x).length:Nat):Int)),(6,.slice (some ⟨b,0,none⟩) m c),(7,.int .i64 (m:Int)),(8,.int .i64 (i:Int))]) (fun _=>L) (fun i=>i≤m) (fun i=>m - i) 0 (Nat.zero_le _) iS (fun w h=>h) ?_
 intro i hi
 have hb:((l.take i).filter fun x=>!Pm.isC x).length≤i:=by
  have h1:=List.length_filter_le (fun x=>!Pm.isC x) (l.take i)
  rw [List.length_take] at h1
  omega
 (repeat' first|refine kW ?_|refine kU fun bk=>?_|refine kV fun hc=>?_|refine kZ (fun hc=>?_) fun hc=>?_|fail)
 ·have hlt:i < m:=by omega
  obtain ⟨x,hx⟩:∃x,l[i]? =some x:=⟨l[i],by simp [show i < l.length from by omega]⟩
  have hgx:=(Zg hx).1
  have hgx1:=(Zg hx).2
  have hst:((l.take (i+1)).filter fun x=>!Pm.isC x).length=((l.take i).filter fun x=>!Pm.isC x).length+(if Pm.isC x then 0 else 1):=by
   rw [List.take_add_one,hx,List.filter_append,List.length_append]
   congr 1
   cases hc:Pm.isC x<;>simp [hc]
  have hrd:zK L ⟨b,i * 2,none⟩ (itv x):=by
   refine .inr ⟨b,_,_,_,(0,0),rfl,hf,fun j u hj=>?_⟩
   rw [List.getElem?_toArray]
   match j,hj with
   |0,hj=>
    rw [Nat.add_zero,List.getElem?_append_left (List.getElem?_eq_some_iff.1 hgx).1,hgx]
    exact hj
   |1,hj=>
    rw [List.getElem?_append_left (List.getElem?_eq_some_iff.1 hgx1).1,hgx1]
    exact hj
   |n+2,hj=>simp [itv] at hj
  refine ze (zh (j:=i) (len:=m) rfl rfl rfl hlt) rfl ?_
  refine kW ?_
  refine ze (zB rfl hrd rfl) rfl ?_
  (refine kW ?_;refine kU fun bk=>?_;refine kW ?_)
  refine yC (L':=[(bk,cl [.int .i64 0,.bool false] 372)]::L) (fun w h=>h) ?_
  refine zo (l:=[.int .i64 0,.bool false]) (vs:=itv x) (itv x) rfl rfl rfl rfl rfl iU (by simp [itv]) ?_
  cases hcx:Pm.isC x with
  |true=>
   rw [hcx] at hst
   have hst2:((l.take (i+1)).filter fun x=>!Pm.isC x).length=((l.take i).filter fun x=>!Pm.isC x).length:=hst
   rw [show itv x=[.int .i64 (x.w:Int),.bool false] from by unfold itv;rw [hcx];rfl]
   refine kW ?_
   rw [←hst2]
   refine zf (X:=Nat) (μ:=fun i=>m - i) (x:=i) (i+1) (by omega) (by omega) iS (fun w h=>h.drop)
  |false=>
   rw [hcx] at hst
   have hst2:((l.take (i+1)).filter fun x=>!Pm.isC x).length=((l.take i).filter fun x=>!Pm.isC x).length+1:=hst
   rw [show itv x=[.int .i64 (x.w:Int),.bool true] from by unfold itv;rw [hcx];rfl]
   refine kW ?_
   rw [show ((((l.take i).filter fun x=>!Pm.isC x).length:Nat):Int)+1=((((l.take (i+1)).filter fun x=>!Pm.isC x).length:Nat):Int) from by rw [hst2];omega]
   refine zf (X:=Nat) (μ:=fun i=>m - i) (x:=i) (i+1) (by omega) (by omega) iS (fun w h=>h.drop)
 ·rw [show i=m from by omega]
  exact kE
theorem zmE (v:Value) (L:List Chunk):Gv Tryz.prog 288 [v].toArray L
 (fun r L'=>∃p,r=.func (.func 294) #[] #[.pointer (some ⟨p,0,none⟩)]∧L'=[(p,cl v.cells.toList 354)]::L):=by
 refine Gv.of_body Tryz.func288 rfl rfl ?_
 (refine kW ?_;refine kU fun bk=>?_;refine kW ?_)
 refine kH ?_
 exact ⟨_,fun w h=>h,_,rfl,rfl⟩
omit [W0] in
def bwS (vs:List Value):List (List Value):=(List.range vs.length).map fun k=>[.int .i64 ((vs.length - 1 - k:Nat):Int),vs.getD (vs.length - 1 - k) undef]
theorem vT (vs:List Value):(bwS vs).length=vs.length:=by simp [bwS]
theorem zcO (vs:List Value) {k:Nat} (h:k < vs.length):(bwS vs).getD k []=[.int .i64 ((vs.length - 1 - k:Nat):Int),vs.getD (vs.length - 1 - k) undef]:=by simp [bwS,List.getD,h]
theorem zi0 (vs:List Value) (p b c:Nat) (rest:List Value) (hm:vs.length≤1000) :
 It Tryz.prog 294 [.pointer (some ⟨p,0,none⟩)].toArray ([(p,cl [.slice (some ⟨b,0,none⟩) vs.length c] 354)]::[(b,cl (vs++rest) 363)]::[]) (bwS vs):=by
 refine It.of_body Tryz.func294 rfl rfl fun l J L0 h0 hy=>?_
 obtain ⟨Lit,hLit⟩:∃Lit:List Chunk,Lit=[(p,cl [.slice (some ⟨b,0,none⟩) vs.length c] 354)]::[(b,cl (vs++rest) 363)]::[]:=⟨_,rfl⟩
 rw [←hLit]
 have fp:∀L',Fnd (L'++Lit) p (cl [.slice (some ⟨b,0,none⟩) vs.length c] 354):=fun L'=>by rw [hLit];exact Fnd.right Fnd.here
 have fb:∀L',Fnd (L'++Lit) b (cl (vs++rest) 363):=fun L'=>by rw [hLit];exact Fnd.right (Fnd.there Fnd.here)
 (repeat' first|refine kI ?_|refine kU fun bk=>?_|refine kJ fun hc=>?_|refine kK (fun hc=>?_) fun hc=>?_|fail)
 refine ze (zx rfl (fp L0) rfl) rfl ?_
 (repeat' first|refine kI ?_|refine kU fun bk=>?_|refine kJ fun hc=>?_|refine kK (fun hc=>?_) fun hc=>?_|fail)
 refine zcC (X:=Nat × List Chunk) (fun x=>[(0,.func (.yield l) #[] #[]),(1,.pointer (some ⟨p,0,none⟩)),(3,.int .i64 ((vs.length:Int) - 1 - (x.1:Int)))])
  (fun x=>x.2++Lit) (fun x=>x.1≤vs.length∧J x.1 x.2) (fun x=>vs.length - x.1) (0,L0) ⟨Nat.zero_le _,h0⟩ iS (fun w h=>h) ?_
 rintro ⟨k,L'⟩ ⟨hk,hj⟩
 simp only at hk hj ⊢
 (repeat' first|refine kI ?_|refine kU fun bk=>?_|refine kJ fun hc=>?_|refine kK (fun hc=>?_) fun hc=>?_|fail)
 ·have hlt:k < vs.length:=by omega
  obtain ⟨u,hu⟩:∃u,vs[vs.length - 1 - k]? =some u:=⟨vs[vs.length - 1 - k],by simp [show vs.length - 1 - k < vs.length from by omega]⟩
  have hgu:nth (vs++rest) ((vs.length - 1 - k) * 1)=some u:=by
   rw [yu,Nat.mul_one,List.getElem?_append_left (List.getElem?_eq_some_iff.1 hu).1]
   exact hu
  rw [show (vs.length:Int) - 1 - (k:Int)=((vs.length - 1 - k:Nat):Int) from by omega]
  refine zgq ?_
  (repeat' first|refine kL ?_|refine kU fun bk=>?_|refine kJ fun hc=>?_|refine kK (fun hc=>?_) fun hc=>?_|fail)
  refine ze (zx rfl (fp L') rfl) rfl ?_
  (repeat' first|refine kL ?_|refine kU fun bk=>?_|refine kJ fun hc=>?_|refine kK (fun hc=>?_) fun hc=>?_|fail)
  refine ze (zh (j:=vs.length - 1 - k) (len:=vs.length) rfl rfl rfl (by omega)) rfl ?_
  (repeat' first|refine kL ?_|refine kU fun bk=>?_|refine kJ fun hc=>?_|refine kK (fun hc=>?_) fun hc=>?_|fail)
  refine ze (zx rfl (fb L') hgu) rfl ?_
  have hyk:=hy Lit k L' (by rw [vT];omega) hj
  rw [zcO _ hlt,show vs.getD (vs.length - 1 - k) undef=u from by simp [List.getD,hu]] at hyk
  refine zdL rfl rfl hyk rfl ?_
  rintro L'' ⟨L3,hj3,rfl⟩
  (repeat' first|refine kL ?_|refine kU fun bk=>?_|refine kJ fun hc=>?_|refine kK (fun hc=>?_) fun hc=>?_|fail)
  (repeat' first|refine kI ?_|refine kU fun bk=>?_|refine kJ fun hc=>?_|refine kK (fun hc=>?_) fun hc=>?_|fail)
  refine zf (X:=Nat × List Chunk) (μ:=fun x=>vs.length - x.1) (x:=(k,L')) (k+1,L3) (by simp only;omega) ⟨by simp only;omega,hj3⟩ iS (fun w h=>h)
 ·have hke:k=vs.length:=by omega
  refine kH ?_
  refine ⟨_,fun w h=>h,L',?_,rfl⟩
  rw [vT,←hke]
  exact hj
end Go.Proofs.YtfbfcapoobmdpaaGreatDoor
namespace Go.Pm
set_option linter.all false
def bt (lv:Nat→List Pm.It) (M m:Nat):Nat→Nat
 |0=>m
 |k+1=>2 * pC lv (M - k) (bt lv M m k)
theorem zeL (lv:Nat→List Pm.It) (M m:Nat):∀k,k≤M→(sel lv M m).drop k=sel lv (M - k) (bt lv M m k)
 |0,_=>rfl
 |k+1,h=>by
  have ih:=zeL lv M m k (by omega)
  obtain ⟨j,hj⟩:∃j,M - k=j+1:=⟨M - k - 1,by omega⟩
  rw [←List.drop_drop,ih,hj,show M - (k+1)=j from by omega]
  simp only [sel,List.drop_succ_cons,List.drop_zero,bt,hj]
theorem zlv {lv:Nat→List Pm.It} {M m k:Nat} (h:k < M):(sel lv M m).take (k+1)=(sel lv M m).take k++[sC lv (M - k) (bt lv M m k)]:=by
 have hd:=zeL lv M m k (by omega)
 obtain ⟨j,hj⟩:∃j,M - k=j+1:=⟨M - k - 1,by omega⟩
 have h0:(sel lv M m)[k]? =some (sC lv (M - k) (bt lv M m k)):=by
  have:((sel lv M m).drop k)[0]? =(sel lv M m)[k]? :=by rw [List.getElem?_drop,Nat.add_zero]
  rw [←this,hd,hj];rfl
 rw [List.take_add_one,h0];rfl
theorem bt_le {cs:List Pm.It} {lv:Nat→List Pm.It} (h:Lv cs lv) {M m:Nat} (hm:m≤(lv M).length):∀k,k≤M→bt lv M m k≤(lv (M - k)).length
 |0,_=>hm
 |k+1,hk=>by
  obtain ⟨j,hj⟩:∃j,M - k=j+1:=⟨M - k - 1,by omega⟩
  rw [bt,hj,show M - (k+1)=j from by omega]
  exact zkW h j _
theorem zpD (A:List Nat) (s r:Nat):ln (A++[s]) r=ln A r+if r < s then 1 else 0:=by
 unfold ln
 rw [List.filter_append,List.length_append]
 congr 1
 by_cases h:r < s
 ·simp [h]
 ·simp [h]
end Go.Pm
namespace Go.Proofs.YtfbfcapoobmdpaaGreatDoor
open Go Go.Vx Go.So
variable [W0]
set_option maxRecDepth 4000
set_option linter.all false
omit [W0] in
structure LsI (S:List Nat) (N n:Nat) (sy:Nat→Nat) (q:Nat) (ls:List Nat):Prop where
 len:ls.length=n
 on:∀r,r < N→ls.getD (sy r) 0=Pm.ln S r+if r < q then 1 else 0
 off:∀i,(∀r,r < N→sy r≠i)→ls.getD i 0=0
theorem LsI.start {N n:Nat} {sy:Nat→Nat}:LsI [] N n sy 0 (List.replicate n 0):=by
 refine ⟨by simp,fun r hr=>?_,fun i hi=>?_⟩
 ·rw [if_neg (by omega)]
  simp only [List.getD,List.getElem?_replicate]
  split<;>rfl
 ·simp only [List.getD,List.getElem?_replicate]
  split<;>rfl
theorem LsI.step {S:List Nat} {N n:Nat} {sy:Nat→Nat} {q:Nat} {ls:List Nat} (h:LsI S N n sy q ls) (hi:∀r p,r < N→p < N→sy r=sy p→r=p) (hq:q < N) (hn:sy q < n):LsI S N n sy (q+1) (ls.set (sy q) (ls.getD (sy q) 0+1)):=by
 have hl:sy q < ls.length:=by rw [h.len];exact hn
 refine ⟨by rw [List.length_set];exact h.len,fun r hr=>?_,fun i hx=>?_⟩
 ·by_cases e:r=q
  ·subst e
   have e1:(ls.set (sy r) (ls.getD (sy r) 0+1)).getD (sy r) 0=ls.getD (sy r) 0+1:=by simp only [List.getD,List.getElem?_set_self hl,Option.getD_some]
   rw [e1,h.on r hr,if_neg (by omega),if_pos (by omega)]
  ·have hne:sy q≠sy r:=fun hh=>e (hi r q hr hq hh.symm)
   have e1:(ls.set (sy q) (ls.getD (sy q) 0+1)).getD (sy r) 0=ls.getD (sy r) 0:=by simp only [List.getD,List.getElem?_set_ne hne]
   rw [e1,h.on r hr]
   congr 1
   have:(r < q)=(r < q+1):=by apply propext;omega
   simp only [this]
 ·have e1:(ls.set (sy q) (ls.getD (sy q) 0+1)).getD i 0=ls.getD i 0:=by simp only [List.getD,List.getElem?_set_ne (hx q hq)]
  rw [e1,h.off i hx]
theorem LsI.turn {S:List Nat} {N n:Nat} {sy:Nat→Nat} {q:Nat} {ls:List Nat} (h:LsI S N n sy q ls):LsI (S++[q]) N n sy 0 ls:=by
 refine ⟨h.len,fun r hr=>?_,h.off⟩
 rw [h.on r hr,Pm.zpD,if_neg (show ¬r < 0 by omega),Nat.add_zero]
theorem zfB (wt:Nat→Nat) (g:Nat→Nat × Nat) (N n b0 c0 bl bv cw M:Nat) (rest restv:List Value) (lv:Nat→List Pm.It) (vs:List Value) (Cs:List Chunk) (L:List Chunk) (hN2:2≤N) (hN:N≤400) (hn:n≤400) (hc0:N≤c0) (hM:M≤15) (hM1:1≤M) (hMN:N≤2 ^ M)
 (hlv:Pm.Lv (qg wt g N) lv) (hR:LvR lv M vs Cs) (hinj:∀r p,r < N→p < N→(g r).1=(g p).1→r=p) (hsy:∀r,r < N→(g r).1 < n) :
 Gv Tryz.prog 279 [.slice (some ⟨bl,0,none⟩) n n,.slice (some ⟨b0,0,none⟩) N c0,.slice (some ⟨bv,0,none⟩) M cw].toArray ([(bl,cl (ivn (List.replicate n 0)) 3)]::[(b0,cl (cvs g N++rest) 352)]::[(bv,cl (vs++restv) 363)]::Cs.flatten::L)
  (fun r L'=>r=.tuple #[]∧∃ls,LsI (Pm.sel lv M (2 * N - 2)) N n (fun r=>(g r).1) 0 ls∧L'=[(bl,cl (ivn ls) 3)]::L):=by
 have hcl:=q8 wt g N
 obtain ⟨k0,hk0⟩:∃k0,M=k0+1:=⟨M - 1,by omega⟩
 have hfull:2 * N - 2≤(lv M).length:=by
  have:=Pm.zg1 hlv k0 (by rw [hcl];omega) (by rw [hcl,←hk0];exact hMN)
  rw [hcl,←hk0] at this
  exact this
 have hbt:=Pm.bt_le hlv hfull
 have hvl:=hR.lv_
 obtain ⟨B,hB⟩:∃B,B=Pm.bt lv M (2 * N - 2):=⟨_,rfl⟩
 refine Gv.of_bodyM Tryz.func279 rfl rfl ?_
 (refine kW ?_;refine kU fun bk=>?_;refine kW ?_;refine kU fun bk=>?_;refine kW ?_;refine kU fun bk=>?_;refine kW ?_)
 rename_i b3 b4
 obtain ⟨b6,hb6⟩:∃b6,b6=bk:=⟨_,rfl⟩
 rw [←hb6]
 clear hb6
 rw [show (2:Int) * (N:Int) - 2=((2 * N - 2:Nat):Int) from by omega]
 refine yC (L':=[(b6,cl [.int .i64 0] 3)]::[(b4,cl [.slice (some ⟨b0,0,none⟩) N c0] 349)]::[(b3,cl [.slice (some ⟨bl,0,none⟩) n n] 154)]::[(bl,cl (ivn (List.replicate n 0)) 3)]::[(b0,cl (cvs g N++rest) 352)]::[(bv,cl (vs++restv) 363)]::Cs.flatten::L) (fun w h=>h) ?_
 refine zG [.int .i64 ((2 * N - 2:Nat):Int)] rfl rfl rfl rfl iU (by simp) ?_
 refine kW ?_
 refine cC rfl rfl (zmE (.slice (some ⟨bv,0,none⟩) M cw) _) (fun r L' hp=>?_)
 obtain ⟨p,rfl,rfl⟩:=hp
 refine kW ?_
 obtain ⟨J,hJ⟩:∃J:Nat→List Chunk→Prop,∀k L',J k L'↔∃ls,LsI ((Pm.sel lv M (2 * N - 2)).take k) N n (fun r=>(g r).1) 0 ls∧L'=[(b6,cl [.int .i64 ((Pm.bt lv M (2 * N - 2) k:Nat):Int)] 3)]::[(b4,cl [.slice (some ⟨b0,0,none⟩) N c0] 349)]::[(b3,cl [.slice (some ⟨bl,0,none⟩) n n] 154)]::[(bl,cl (ivn ls) 3)]::[(b0,cl (cvs g N++rest) 352)]::Cs.flatten::L:=
  ⟨fun k L'=>∃ls,LsI ((Pm.sel lv M (2 * N - 2)).take k) N n (fun r=>(g r).1) 0 ls∧L'=[(b6,cl [.int .i64 ((Pm.bt lv M (2 * N - 2) k:Nat):Int)] 3)]::[(b4,cl [.slice (some ⟨b0,0,none⟩) N c0] 349)]::[(b3,cl [.slice (some ⟨bl,0,none⟩) n n] 154)]::[(bl,cl (ivn ls) 3)]::[(b0,cl (cvs g N++rest) 352)]::Cs.flatten::L,fun _ _=>Iff.rfl⟩
 have hit:=zi0 vs p bv cw restv (by rw [hvl];omega)
 rw [hvl] at hit
 refine zdK (ps:=[18,19]) rfl hit J ([(b6,cl [.int .i64 ((Pm.bt lv M (2 * N - 2) 0:Nat):Int)] 3)]::[(b4,cl [.slice (some ⟨b0,0,none⟩) N c0] 349)]::[(b3,cl [.slice (some ⟨bl,0,none⟩) n n] 154)]::[(bl,cl (ivn (List.replicate n 0)) 3)]::[(b0,cl (cvs g N++rest) 352)]::Cs.flatten::L) ((hJ _ _).2 ⟨_,LsI.start,rfl⟩) (fun w h=>?_)
  (fun k hk=>by rw [vT] at hk;rw [zcO _ hk];rfl) rfl
  (fun k _=>[(3,.pointer (some ⟨b3,0,none⟩)),(4,.pointer (some ⟨b4,0,none⟩)),(6,.pointer (some ⟨b6,0,none⟩)),(8,vs.getD (vs.length - 1 - k) undef)]) (fun lp k L' R hk hj=>?_) (fun lp k L' R hk hj=>?_) (fun D a' w L3 hst hd hj hw'=>?_)
 ·have h2:=(iC:Inc ([(b6,cl [.int .i64 ((Pm.bt lv M (2 * N - 2) 0:Nat):Int)] 3)]::[(b4,cl [.slice (some ⟨b0,0,none⟩) N c0] 349)]::[(b3,cl [.slice (some ⟨bl,0,none⟩) n n] 154)]::[(bl,cl (ivn (List.replicate n 0)) 3)]::[(b0,cl (cvs g N++rest) 352)]::Cs.flatten::[(p,cl [.slice (some ⟨bv,0,none⟩) M cw] 354)]::[(bv,cl (vs++restv) 363)]::L) _).holds h
  refine h2.perm ?_
  exact List.Perm.append_left [_,_,_,_,_,_] (List.perm_append_comm (l₁:=[_,_]) (l₂:=L))
 ·rw [vT] at hk
  rw [zcO _ hk]
  show Wic _ _ _ _ _ ((19,vs.getD (vs.length - 1 - k) undef)::(18,_)::_) _
  (repeat' first|refine kI ?_|refine kU fun bk=>?_|refine kJ fun hc=>?_|refine kK (fun hc=>?_) fun hc=>?_|fail)
  exact zoo iS (fun w h=>h)
 ·rw [vT,hvl] at hk
  obtain ⟨ls,hls,rfl⟩:=(hJ _ _).1 hj
  obtain ⟨v1,C1,hv1,hC1,ho1⟩:=hR.at_ (M - 1 - k) (by omega)
  rw [show M - 1 - k+1=M - k from by omega] at hC1 ho1
  have hge:N≤(lv (M - k)).length:=by
   have:=Pm.Y2 hlv (M - k - 1)
   rw [show M - k - 1+1=M - k from by omega,hcl] at this
   omega
  rcases ho1 with ⟨_,h1,_⟩|⟨b1,c1,r1,rfl,rfl,hxl,hrl,hmc,_⟩
  ·omega
  have hbk:=hbt k (by omega)
  have hsp:=Pm.sp lv (M - k) (Pm.bt lv M (2 * N - 2) k) hbk
  have hsc:Pm.sC lv (M - k) (Pm.bt lv M (2 * N - 2) k)≤N:=by
   have:=Pm.zls hlv (M - k - 1) (Pm.bt lv M (2 * N - 2) k)
   rw [show M - k - 1+1=M - k from by omega,hcl] at this
   exact this
  have hbs:Pm.bt lv M (2 * N - 2) (k+1)=2 * Pm.pC lv (M - k) (Pm.bt lv M (2 * N - 2) k):=rfl
  have hst:=Pm.zlv (lv:=lv) (m:=2 * N - 2) hk
  have hll:=Pm.zfD hlv (M - k)
  rw [hcl] at hll
  have hfl:Fnd (Cs.flatten::(L++R)) b1 (cl (qz (lv (M - k))++r1) 372):=Fnd.mem (List.mem_flatten.2 ⟨_,List.mem_of_getElem? hC1,by simp⟩)
  have ham:=fun L' h'=>zmC (lv (M - k)) b1 (Pm.bt lv M (2 * N - 2) k) c1 r1 L' h' hbk (by omega)
  have hpc:(((lv (M - k)).take (Pm.bt lv M (2 * N - 2) k)).filter fun x=>!Pm.isC x).length=Pm.pC lv (M - k) (Pm.bt lv M (2 * N - 2) k):=rfl
  rw [hpc] at ham
  obtain ⟨T,hT⟩:∃T,T=Pm.bt lv M (2 * N - 2) k:=⟨_,rfl⟩
  obtain ⟨T2,hT2⟩:∃T2,T2=Pm.bt lv M (2 * N - 2) (k+1):=⟨_,rfl⟩
  obtain ⟨pc,hpce⟩:∃pc,pc=Pm.pC lv (M - k) (Pm.bt lv M (2 * N - 2) k):=⟨_,rfl⟩
  obtain ⟨sc,hsce⟩:∃sc,sc=Pm.sC lv (M - k) (Pm.bt lv M (2 * N - 2) k):=⟨_,rfl⟩
  rw [←hsce] at hst
  rw [←hpce] at ham hbs hsp
  rw [←hsce] at hsp hsc
  rw [←hT] at hbk hsp ham ⊢
  rw [←hT2] at hbs
  rw [hvl,show vs.getD (M - 1 - k) undef=.slice (some ⟨b1,0,none⟩) (lv (M - k)).length c1 from by simp [List.getD,hv1]]
  show Wic _ _ _ _ _ _ ([(b6,cl [.int .i64 (T:Int)] 3)]::[(b4,cl [.slice (some ⟨b0,0,none⟩) N c0] 349)]::[(b3,cl [.slice (some ⟨bl,0,none⟩) n n] 154)]::[(bl,cl (ivn ls) 3)]::[(b0,cl (cvs g N++rest) 352)]::Cs.flatten::(L++R))
  (repeat' first|refine kI ?_|refine kU fun bk=>?_|refine kJ fun hc=>?_|refine kK (fun hc=>?_) fun hc=>?_|fail)
  refine ze (qE (h:=T) rfl rfl (qH rfl rfl) (by omega)) rfl ?_
  (repeat' first|refine kI ?_|refine kU fun bk=>?_|refine kJ fun hc=>?_|refine kK (fun hc=>?_) fun hc=>?_|fail)
  refine cP rfl rfl (ham _ (Fnd.there (Fnd.there (Fnd.there (Fnd.there (Fnd.there hfl)))))) ?_
  (repeat' first|refine kI ?_|refine kU fun bk=>?_|refine kJ fun hc=>?_|refine kK (fun hc=>?_) fun hc=>?_|fail)
  rw [show (T:Int) - (pc:Int)=(sc:Int) from by omega]
  refine ze (qE (h:=sc) rfl rfl (qH rfl rfl) (by omega)) rfl ?_
  (repeat' first|refine kI ?_|refine kU fun bk=>?_|refine kJ fun hc=>?_|refine kK (fun hc=>?_) fun hc=>?_|fail)
  refine zcC (X:=Nat × List Nat) (fun x=>[(3,.pointer (some ⟨b3,0,none⟩)),(6,.pointer (some ⟨b6,0,none⟩)),(9,.int .i64 (pc:Int)),(28,.slice (some ⟨b0,0,none⟩) sc c0),(29,.int .i64 (sc:Int)),(30,.int .i64 (x.1:Int))])
   (fun x=>[(b6,cl [.int .i64 (T:Int)] 3)]::[(b4,cl [.slice (some ⟨b0,0,none⟩) N c0] 349)]::[(b3,cl [.slice (some ⟨bl,0,none⟩) n n] 154)]::[(bl,cl (ivn x.2) 3)]::[(b0,cl (cvs g N++rest) 352)]::Cs.flatten::(L++R))
   (fun x=>x.1≤sc∧LsI ((Pm.sel lv M (2 * N - 2)).take k) N n (fun r=>(g r).1) x.1 x.2) (fun x=>sc - x.1) (0,ls) ⟨Nat.zero_le _,hls⟩ iS (fun w h=>h) ?_
  clear hls
  rintro ⟨q,ls⟩ ⟨hq,hls⟩
  simp only at hq hls ⊢
  (repeat' first|refine kI ?_|refine kU fun bk=>?_|refine kJ fun hc=>?_|refine kK (fun hc=>?_) fun hc=>?_|fail)
  ·have hqs:q < sc:=by omega
   have hqN:q < N:=by omega
   have hsq:=hsy q hqN
   have hlq:ls.getD (g q).1 0≤15:=by
    have h1:=hls.on q hqN
    rw [if_neg (by omega)] at h1
    have h2:=Pm.zkA ((Pm.sel lv M (2 * N - 2)).take k) q
    rw [List.length_take,Pm.vB] at h2
    omega
   have hld:nth (ivn ls) ((g q).1 * 1)=some (.int .i64 ((ls.getD (g q).1 0:Nat):Int)):=by
    rw [yu,Nat.mul_one]
    exact yF (by simp [List.getD,show (g q).1 < ls.length from by rw [hls.len];exact hsq])
   have hls2:=hls.step hinj hqN hsq
   refine ze (zh (j:=q) (len:=sc) rfl rfl rfl hqs) rfl ?_
   (repeat' first|refine kI ?_|refine kU fun bk=>?_|refine kJ fun hc=>?_|refine kK (fun hc=>?_) fun hc=>?_|fail)
   refine ze (zB rfl (vC (f:=g) (n:=N) (j:=q) (rest:=rest) hqN (Fnd.there (Fnd.there (Fnd.there (Fnd.there Fnd.here))))) rfl) rfl ?_
   (repeat' first|refine kI ?_|refine kU fun bk=>?_|refine kJ fun hc=>?_|refine kK (fun hc=>?_) fun hc=>?_|fail)
   refine yC (L':=[(bk,cl [.int .i64 0,.int .i64 0] 352)]::[(b6,cl [.int .i64 (T:Int)] 3)]::[(b4,cl [.slice (some ⟨b0,0,none⟩) N c0] 349)]::[(b3,cl [.slice (some ⟨bl,0,none⟩) n n] 154)]::[(bl,cl (ivn ls) 3)]::[(b0,cl (cvs g N++rest) 352)]::Cs.flatten::(L++R)) (fun w h=>h) ?_
   refine zo (l:=[.int .i64 0,.int .i64 0]) (vs:=cv (g q)) (cv (g q)) rfl rfl rfl rfl rfl iU (by simp [cv]) ?_
   (repeat' first|refine kI ?_|refine kU fun bk=>?_|refine kJ fun hc=>?_|refine kK (fun hc=>?_) fun hc=>?_|fail)
   refine ze (zh (j:=(g q).1) (len:=n) rfl rfl rfl hsq) rfl ?_
   (repeat' first|refine kI ?_|refine kU fun bk=>?_|refine kJ fun hc=>?_|refine kK (fun hc=>?_) fun hc=>?_|fail)
   refine ze (zx rfl (Fnd.there (Fnd.there (Fnd.there (Fnd.there Fnd.here)))) hld) rfl ?_
   (repeat' first|refine kI ?_|refine kU fun bk=>?_|refine kJ fun hc=>?_|refine kK (fun hc=>?_) fun hc=>?_|fail)
   refine ze (zh (j:=(g q).1) (len:=n) rfl rfl rfl hsq) rfl ?_
   (repeat' first|refine kI ?_|refine kU fun bk=>?_|refine kJ fun hc=>?_|refine kK (fun hc=>?_) fun hc=>?_|fail)
   refine zG (l:=ivn ls) (ivn (ls.set (g q).1 (ls.getD (g q).1 0+1))) rfl rfl rfl (by rw [Nat.mul_one];simp [ivn,List.map_set]) iU (by rw [zC,hls.len];omega) ?_
   (repeat' first|refine kI ?_|refine kU fun bk=>?_|refine kJ fun hc=>?_|refine kK (fun hc=>?_) fun hc=>?_|fail)
   refine zf (X:=Nat × List Nat) (μ:=fun x=>sc - x.1) (x:=(q,ls)) (q+1,ls.set (g q).1 (ls.getD (g q).1 0+1)) (by simp only;omega) ⟨by simp only;omega,hls2⟩ iS (fun w h=>h.drop)
  ·have hqe:q=sc:=by omega
   subst hqe
   rw [show (2:Int) * (pc:Int)=(T2:Int) from by omega]
   refine ziT ([(b6,cl [.int .i64 (T2:Int)] 3)]::[(b4,cl [.slice (some ⟨b0,0,none⟩) N c0] 349)]::[(b3,cl [.slice (some ⟨bl,0,none⟩) n n] 154)]::[(bl,cl (ivn ls) 3)]::[(b0,cl (cvs g N++rest) 352)]::Cs.flatten::L) ((hJ _ _).2 ⟨ls,?_,by rw [hT2]⟩) (fun w h=>h)
   rw [hst]
   exact hls.turn
 ·obtain ⟨ls,hls,rfl⟩:=(hJ _ _).1 hj
  rw [vT,hvl,List.take_of_length_le (by rw [Pm.vB];exact Nat.le_refl _)] at hls
  obtain ⟨T,hT⟩:∃T,T=Pm.bt lv M (2 * N - 2) (bwS vs).length:=⟨_,rfl⟩
  rw [←hT] at hw'
  have hw2:Holds w (([(D,.deferred (some []))]::[(b6,cl [.int .i64 (T:Int)] 3)]::[(b4,cl [.slice (some ⟨b0,0,none⟩) N c0] 349)]::[(b3,cl [.slice (some ⟨bl,0,none⟩) n n] 154)]::[(bl,cl (ivn ls) 3)]::[(b0,cl (cvs g N++rest) 352)]::Cs.flatten::L)++[[(p,cl [.slice (some ⟨bv,0,none⟩) M cw] 354)],[(bv,cl (vs++restv) 363)]]):=hw'
  have hw3:=hw2.front
  refine (ziS (e:=.normal) (.inr rfl) rfl rfl (L1:=[(bl,cl (ivn ls) 3)]::L) (fun w h=>(iC:Inc ([(D,.deferred (some []))]::[(bl,cl (ivn ls) 3)]::L) _).holds h) ⟨rfl,ls,hls,rfl⟩).out a' w hst hd hw3
end Go.Proofs.YtfbfcapoobmdpaaGreatDoor
namespace Go.Proofs.YtfbfcapoobmdpaaGreatDoor
open Go Go.Vx Go.So Go.Hf
variable [W0]
set_option maxRecDepth 4000
set_option linter.all false
omit [W0] in
def nC (ls:List Int):Nat:=(pos (nl ls) ls.length).length
omit [W0] in
def zfq (ls:List Int) (most:Int):Prop:=most < 1∨15 < most∨400 < ls.length∨ls.all okc=false∨2 ^ most.toNat < nC ls
omit [W0] in
structure yO (cs:List Nat) (M:Nat) (lens:List Nat):Prop where
 len:lens.length=cs.length
 m1:1≤M
 m15:M≤15
 n400:cs.length≤400
 off:∀i,cs.getD i 0=0→lens.getD i 0=0
 ex:∃N g,N=(pos cs cs.length).length∧Cn cs cs.length N g∧N≤2 ^ M∧(N=1→∀r,r < N→lens.getD (g r).1 0=1)∧
  (2≤N→∃lv,Pm.Lv (qg (fun i=>cs.getD i 0) g N) lv∧∀r,r < N→lens.getD (g r).1 0=Pm.ln (Pm.sel lv M (2 * N - 2)) r)
theorem zcw:∀n,zeros [.int .i64 0] n=ivn (List.replicate n 0)
 |0=>rfl
 |n+1=>by simp only [zeros,List.replicate_succ];rw [zcw n];rfl
theorem zeD (n i:Nat):(List.replicate n 0).getD i 0=0:=by
 simp only [List.getD,List.getElem?_replicate]
 split<;>rfl
theorem zh7 (a:Option Addr) (c:Nat) (ls:List Int) (most:Int) (L:List Chunk) (h:Sl L 1 (.slice a ls.length c) ls.length (yg ls)) (hl:ls.length≤17592186044416) :
 Gv Tryz.prog 261 [.slice a ls.length c,.int .i64 most].toArray L (fun r L'=>(zfq ls most∧r=.tuple #[.slice none 0 0,.int .i64 1]∧L'=L)∨
  (¬zfq ls most∧∃lens v C,r=.tuple #[v,.int .i64 0]∧L'=C::L∧Ow 3 1 v ls.length (ivn lens) C∧yO (nl ls) most.toNat lens)):=by
 refine Gv.of_body Tryz.func261 rfl rfl ?_
 obtain ⟨Q,hQ⟩:∃Q:Value→List Chunk→Prop,∀r L',Q r L'↔((zfq ls most∧r=.tuple #[.slice none 0 0,.int .i64 1]∧L'=L)∨
  (¬zfq ls most∧∃lens v C,r=.tuple #[v,.int .i64 0]∧L'=C::L∧Ow 3 1 v ls.length (ivn lens) C∧yO (nl ls) most.toNat lens)):=⟨fun r L'=>_,fun _ _=>Iff.rfl⟩
 simp only [←hQ]
 have hno:zfq ls most→∀(M:List (Nat × Value)) (L1:List Chunk),lk M 4=some (.slice none 0 0)→lk M 5=some (.int .i64 1)→(∀w,Holds w L1→Holds w L)→
  WQ Tryz.f261.ntmps (bodyPost Tryz.prog Tryz.f261 (fun e w'=>∃v L',e=.returned v∧Q v L'∧Holds w' L') .ret) M L1:=by
  intro he M L1 h2 h3 h4
  refine um (rs:=[.tmp 4,.tmp 5]) (vs:=[.slice none 0 0,.int .i64 1]) rfl (by simp [Yi,h2,h3]) ?_
  exact ⟨L,h4,(hQ _ _).2 (.inl ⟨he,rfl,rfl⟩)⟩
 (repeat' first|refine kW ?_|refine kU fun bk=>?_|refine kV fun hc=>?_|refine kZ (fun hc=>?_) fun hc=>?_|fail)
 ·exact hno (.inl hc) _ _ rfl rfl (fun w h=>h)
 ·exact hno (.inr (.inl hc)) _ _ rfl rfl (fun w h=>h)
 ·exact hno (.inr (.inr (.inl (by omega)))) _ _ rfl rfl (fun w h=>h)
 refine cP rfl rfl (zd6 a c ls L h hl) ?_
 (repeat' first|refine kW ?_|refine kU fun bk=>?_|refine kV fun hc=>?_|refine kZ (fun hc=>?_) fun hc=>?_|fail)
 ·exact hno (.inr (.inr (.inr (.inl (by simpa using hc))))) _ _ rfl rfl (fun w h=>h)
 rename_i hm1 hm2 hm3
 have hok:ls.all okc=true:=by simpa using hc
 obtain ⟨M,rfl⟩:∃M:Nat,most=(M:Int):=⟨most.toNat,by omega⟩
 refine cC rfl rfl (zmT a c ls L h (by omega) hok) (fun r L' hp=>?_)
 obtain ⟨g,C,hcn,rfl,ho⟩:=hp
 obtain ⟨N,hN⟩:∃N,N=(pos (nl ls) ls.length).length:=⟨_,rfl⟩
 rw [←hN] at hcn ho
 obtain ⟨va,vc,rfl⟩:=zM ho
 have hp15:2 ^ M≤2 ^ 15:=Nat.pow_le_pow_right (by decide) (by omega)
 refine kW ?_
 refine ze (uq 1 M rfl rfl rfl rfl (by omega) (by omega)) rfl ?_
 (repeat' first|refine kW ?_|refine kU fun bk=>?_|refine kV fun hc=>?_|refine kZ (fun hc=>?_) fun hc=>?_|fail)
 ·refine hno (.inr (.inr (.inr (.inr ?_)))) _ _ rfl rfl (fun w h=>h.drop)
  unfold nC
  rw [←hN,Int.toNat_natCast]
  omega
 have hNM:N≤2 ^ M:=by omega
 refine zJ (m:=ls.length) (c:=ls.length) rfl rfl (by rfl) (by omega) (by omega) (by omega) rfl (fun bn=>?_)
 rw [show zeros (Value.int .i64 0).cells.toList ls.length=ivn (List.replicate ls.length 0) from zcw _]
 have hne:¬zfq ls (M:Int):=by
  rintro (h1|h1|h1|h1|h1)
  ·omega
  ·omega
  ·omega
  ·rw [hok] at h1;cases h1
  ·unfold nC at h1
   rw [←hN,Int.toNat_natCast] at h1
   omega
 have hfin:∀lens,lens.length=ls.length→yO (nl ls) M lens→∀(L1:List Chunk),(∀w,Holds w L1→Holds w ([(bn,cl (ivn lens) 3)]::L))→∃L',(∀w,Holds w L1→Holds w L')∧Q (.tuple #[.slice (some ⟨bn,0,none⟩) ls.length ls.length,.int .i64 0]) L':=by
  intro lens hll hlo L1 h1
  refine ⟨_,h1,(hQ _ _).2 (.inr ⟨hne,lens,_,_,rfl,rfl,.inr ⟨bn,ls.length,[],rfl,by rw [List.append_nil],by rw [zC,hll,Nat.mul_one],by simp,Nat.le_refl _,by simp [maxLen];omega⟩,by rw [Int.toNat_natCast];exact hlo⟩)⟩
 (repeat' first|refine kW ?_|refine kU fun bk=>?_|refine kV fun hc=>?_|refine kZ (fun hc=>?_) fun hc=>?_|fail)
 ·have hN1:N=1:=by omega
  rcases ho with ⟨_,h1,_⟩|⟨b,cap,rest,hv,rfl,hxl,hrl,hmc,hcm⟩
  ·omega
  injection hv with e1 e2 e3
  subst e1 e3
  clear e2
  have hsy:=hcn.sy 0 (by omega)
  have hld:nth (cvs g N++rest) (0 * 2+0)=some (.int .i64 ((g 0).1:Int)):=by
   rw [hN1];rfl
  refine ze (zh (j:=0) (len:=N) rfl rfl rfl (by omega)) rfl ?_
  refine kW ?_
  refine ze (zx rfl (Fnd.there Fnd.here) hld) rfl ?_
  refine kW ?_
  refine ze (zh (j:=(g 0).1) (len:=ls.length) rfl rfl rfl hsy.1) rfl ?_
  refine kW ?_
  refine zG (l:=ivn (List.replicate ls.length 0)) (ivn ((List.replicate ls.length 0).set (g 0).1 1)) rfl rfl rfl (by rw [Nat.mul_one];simp [ivn,List.map_set]) iU (by rw [zC,List.length_replicate,Nat.mul_one];exact hsy.1) ?_
  refine kW ?_
  refine um (rs:=[.tmp 4,.tmp 5]) (vs:=[.slice (some ⟨bn,0,none⟩) ls.length ls.length,.int .i64 0]) rfl rfl ?_
  refine hfin ((List.replicate ls.length 0).set (g 0).1 1) (by simp) ⟨by simp [zS],by omega,by omega,by rw [zS];omega,fun i hi=>?_,N,g,by rw [zS];exact hN,by rw [zS];exact hcn,hNM,fun _ r hr=>?_,fun h2=>by omega⟩ _ (fun w h=>iH h)
  ·have hne2:(g 0).1≠i:=fun e=>by rw [e] at hsy;omega
   simp only [List.getD,List.getElem?_set_ne hne2]
   exact zeD _ _
  ·have e0:r=0:=by omega
   subst e0
   simp [List.getD,hsy.1]
 ·have hN1:2≤N:=by omega
  rcases ho with ⟨_,h1,_⟩|⟨b,cap,rest,hv,rfl,hxl,hrl,hmc,hcm⟩
  ·omega
  injection hv with e1 e2 e3
  subst e1 e3
  clear e2
  have hle:=hcn.le
  have hgb:∀r,r < N→(g r).2≤1073741824:=by
   intro r hr
   obtain ⟨h1,h2,h3⟩:=hcn.sy r hr
   have hox:okc (ls.getD (g r).1 0)=true:=List.all_eq_true.1 hok _ (by simp [List.getD,h1])
   have h4:=(zdi _).1 hox
   rw [h3,zkJ h1]
   omega
  refine yC (L':=[(b,cl (cvs g N++rest) 352)]::[(bn,cl (ivn (List.replicate ls.length 0)) 3)]::L) (fun w h=>iH h) ?_
  refine cC rfl rfl (zkw (fun i=>(nl ls).getD i 0) g N b vc M rest _ (by omega) (by omega) hcn.up (fun r hr=>(hcn.sy r hr).2.2) hgb) (fun r L' hp=>?_)
  obtain ⟨lv,vs,Cs,Cl,rfl,hlv,hR,hO⟩:=hp
  rcases hO with ⟨_,h1,_⟩|⟨bv,cw,restv,rfl,rfl,hxl2,hrl2,hmc2,hcm2⟩
  ·omega
  refine kW ?_
  refine yC (L':=[(bn,cl (ivn (List.replicate ls.length 0)) 3)]::[(b,cl (cvs g N++rest) 352)]::[(bv,cl (vs++restv) 363)]::Cs.flatten::L) (fun w h=>iH h) ?_
  refine cC rfl rfl (zfB (fun i=>(nl ls).getD i 0) g N ls.length b vc bn bv cw M rest restv lv vs Cs L hN1 (by omega) (by omega) hmc (by omega) (by omega) hNM hlv hR hcn.inj (fun r hr=>(hcn.sy r hr).1)) (fun r L' hp=>?_)
  obtain ⟨rfl,lst,hI,rfl⟩:=hp
  refine kW ?_
  refine um (rs:=[.tmp 4,.tmp 5]) (vs:=[.slice (some ⟨bn,0,none⟩) ls.length ls.length,.int .i64 0]) rfl rfl ?_
  refine hfin lst hI.len ⟨by rw [hI.len,zS],by omega,by omega,by rw [zS];omega,fun i hi=>?_,N,g,by rw [zS];exact hN,by rw [zS];exact hcn,hNM,fun h1=>by omega,fun _=>⟨lv,hlv,fun r hr=>?_⟩⟩ _ (fun w h=>h)
  ·refine hI.off i fun r hr he=>?_
   have h1:=(hcn.sy r hr).2.1
   rw [he] at h1
   omega
  ·have h1:=hI.on r hr
   rw [if_neg (by omega),Nat.add_zero] at h1
   exact h1
 ·have hN0:N=0:=by omega
  refine um (rs:=[.tmp 4,.tmp 5]) (vs:=[.slice (some ⟨bn,0,none⟩) ls.length ls.length,.int .i64 0]) rfl rfl ?_
  refine hfin (List.replicate ls.length 0) (by simp) ⟨by simp [zS],by omega,by omega,by rw [zS];omega,fun i hi=>zeD _ _,N,g,by rw [zS];exact hN,by rw [zS];exact hcn,hNM,fun _ r hr=>by omega,fun h2=>by omega⟩ _ (fun w h=>iH h)
end Go.Proofs.YtfbfcapoobmdpaaGreatDoor
namespace Go.Hf
open Go.Pm
set_option linter.all false
theorem getD_map (is:List Nat):(List.range is.length).map (fun i=>is.getD i 0)=is:=by
 apply List.ext_getElem?
 intro k
 rw [List.getElem?_map]
 rcases Nat.lt_or_ge k is.length with h|h
 ·rw [List.getElem?_range h]
  simp [List.getD,h]
 ·rw [List.getElem?_eq_none (by simpa using h),List.getElem?_eq_none h]
  rfl
section
variable {cs : List Nat} {n N : Nat} {g : Nat → Nat × Nat} (h : Cn cs n N g)
include h
theorem Cn.perm:((List.range N).map fun r=>(g r).1).Perm ((List.range n).filter fun i=>decide (0 < cs.getD i 0)):=by
 have hn1:((List.range N).map fun r=>(g r).1).Nodup:=by
  unfold List.Nodup
  rw [List.pairwise_map]
  refine List.Pairwise.imp_of_mem (fun {a b} ha hb (hab:a≠b) he=>hab ?_) List.nodup_range
  exact h.inj a b (List.mem_range.1 ha) (List.mem_range.1 hb) he
 refine (List.perm_ext_iff_of_nodup hn1 (List.nodup_range.filter _)).2 fun i=>?_
 rw [List.mem_map,List.mem_filter,List.mem_range]
 constructor
 ·rintro ⟨r,hr,rfl⟩
  have h1:=h.sy r (List.mem_range.1 hr)
  exact ⟨h1.1,by simpa using h1.2.1⟩
 ·rintro ⟨h1,h2⟩
  obtain ⟨r,hr,he⟩:=h.onto i h1 (by simpa using h2)
  exact ⟨r,List.mem_range.2 hr,he⟩
theorem Cn.ws (hl:cs.length=n):((List.range N).map fun r=>cs.getD (g r).1 0).Perm (cs.filter fun x=>decide (0 < x)):=by
 have h1:=h.perm.map fun i=>cs.getD i 0
 rw [List.map_map] at h1
 refine h1.trans (List.Perm.of_eq ?_)
 subst hl
 conv=>rhs;rw [←getD_map cs]
 rw [List.filter_map]
 rfl
end
end Go.Hf
namespace Go.Proofs.YtfbfcapoobmdpaaGreatDoor
open Go Go.Vx Go.So Go.Hf Go.Pm
variable [W0]
set_option maxRecDepth 4000
set_option linter.all false
theorem zgB {cs:List Nat} {n N:Nat} {g:Nat→Nat × Nat} (h:Cn cs n N g):∀x∈qg (fun i=>cs.getD i 0) g N,0 < x.w:=by
 intro x hx
 obtain ⟨r,hr,rfl⟩:=List.mem_map.1 hx
 exact (h.sy r (List.mem_range.1 hr)).2.1
theorem yO.on {cs lens:List Nat} {M:Nat} (h:yO cs M lens) {i:Nat} (hi:i < cs.length) (h0:0 < cs.getD i 0):1≤lens.getD i 0∧lens.getD i 0≤M:=by
 obtain ⟨N,g,hN,hcn,hNM,hone,htwo⟩:=h.ex
 obtain ⟨r,hr,rfl⟩:=hcn.onto i hi h0
 have hm1:=h.m1
 by_cases h2:2≤N
 ·obtain ⟨lv,hlv,hln⟩:=htwo h2
  obtain ⟨k,rfl⟩:∃k,M=k+1:=⟨M - 1,by omega⟩
  have hcl:=q8 (fun i=>cs.getD i 0) g N
  have h3:=taken hlv (zgB hcn) k (by omega) (by omega) r (by omega)
  rw [hcl] at h3
  have h4:=zkA (sel lv (k+1) (2 * N - 2)) r
  rw [vB] at h4
  rw [hln r hr]
  exact ⟨h3,h4⟩
 ·have:=hone (by omega) r hr
  omega
theorem yO.pos {cs lens:List Nat} {M:Nat} (h:yO cs M lens) {i:Nat} (hi:i < cs.length):0 < lens.getD i 0↔0 < cs.getD i 0:=by
 rcases Nat.eq_zero_or_pos (cs.getD i 0) with h0|h0
 ·rw [h.off i h0,h0]
 ·have:=h.on hi h0
  omega
theorem yO.le {cs lens:List Nat} {M:Nat} (h:yO cs M lens) (i:Nat):lens.getD i 0≤M:=by
 rcases Nat.lt_or_ge i cs.length with hi|hi
 ·rcases Nat.eq_zero_or_pos (cs.getD i 0) with h0|h0
  ·rw [h.off i h0];omega
  ·exact (h.on hi h0).2
 ·have:lens.getD i 0=0:=by simp [List.getD,List.getElem?_eq_none (show lens.length≤i by rw [h.len];exact hi)]
  omega
theorem yO.nC {cs lens:List Nat} {M:Nat} (h:yO cs M lens):(cs.filter fun x=>decide (0 < x)).length=(Go.Hf.pos cs cs.length).length:=by
 obtain ⟨N,g,hN,hcn,_⟩:=h.ex
 have:=(hcn.ws rfl).length_eq
 rw [List.length_map,List.length_range] at this
 rw [←this,hN]
theorem yO.all {cs lens:List Nat} {M:Nat} (h:yO cs M lens) (h2:2≤(Go.Hf.pos cs cs.length).length):kS lens=32768:=by
 have hle:=h.le
 have hpos:=fun i=>h.pos (i:=i)
 have hm1:=h.m1
 have hm15:=h.m15
 have hlen:=h.len
 obtain ⟨N,g,hN,hcn,hNM,hone,htwo⟩:=h.ex
 rw [←hN] at h2
 obtain ⟨lv,hlv,hln⟩:=htwo h2
 have hcl:=q8 (fun i=>cs.getD i 0) g N
 have hgl:((List.range N).map fun r=>(g r).1).length=N:=by simp
 obtain ⟨k,rfl⟩:∃k,M=k+1:=⟨M - 1,by omega⟩
 have hw:=whole hlv (zgB hcn) k (by omega) (by omega)
 rw [hcl] at hw
 refine zkj (l:=lens) (is:=(List.range N).map fun r=>(g r).1) (L:=k+1) (g:=fun r=>ln (sel lv (k+1) (2 * N - 2)) r) ?_ hm15 (fun r hr=>?_) (fun r hr=>?_) ?_
 ·refine hcn.perm.trans (List.Perm.of_eq ?_)
  rw [hlen]
  refine List.filter_congr fun i hi=>?_
  exact decide_eq_decide.2 (hpos i (List.mem_range.1 hi)).symm
 ·rw [hgl] at hr
  have:((List.range N).map fun r=>(g r).1).getD r 0=(g r).1:=by simp [List.getD,List.getElem?_range hr]
  rw [this]
  exact hln r hr
 ·have h4:=zkA (sel lv (k+1) (2 * N - 2)) r
  rw [vB] at h4
  exact h4
 ·rw [hgl];exact hw
theorem yO.fits {cs lens:List Nat} {M:Nat} (h:yO cs M lens):kS lens≤32768:=by
 by_cases h2:2≤(Go.Hf.pos cs cs.length).length
 ·exact Nat.le_of_eq (h.all h2)
 ·have hpos:=fun i=>h.pos (i:=i)
  have hlen:=h.len
  obtain ⟨N,g,hN,hcn,hNM,hone,htwo⟩:=h.ex
  rw [←hN] at h2
  have hp:((List.range N).map fun r=>(g r).1).Perm ((List.range lens.length).filter fun i=>decide (0 < lens.getD i 0)):=by
   refine hcn.perm.trans (List.Perm.of_eq ?_)
   rw [hlen]
   refine List.filter_congr fun i hi=>?_
   exact decide_eq_decide.2 (hpos i (List.mem_range.1 hi)).symm
  rw [zgS hp]
  rcases Nat.eq_zero_or_pos N with h0|h0
  ·subst h0;simp
  ·obtain rfl:N=1:=by omega
   have h3:=hone rfl 0 (by omega)
   show ((([0].map fun r=>(g r).1).map fun i=>2 ^ (15 - lens.getD i 0)).sum)≤_
   simp only [List.map_cons,List.map_nil,List.sum_cons,List.sum_nil,h3]
   decide
end Go.Proofs.YtfbfcapoobmdpaaGreatDoor
namespace Go.Df
theorem gD {l:List Nat} {i:Nat} (h:i < l.length):l[i]? =some (l.getD i 0):=by rw [List.getD_eq_getElem?_getD,List.getElem?_eq_getElem h];rfl
end Go.Df
namespace Go.Proofs.YtfbfcapoobmdpaaGreatDoor
open Go Go.Vx Go.Hf Go.If Go.Df
variable [W0]
set_option maxRecDepth 4000
set_option linter.all false
theorem Yt (v:Value) (rs:List (Nat × Nat)) (L:List Chunk) (h:Rs L 2 v rs.length (flt TkV rs)) (hr:∀r∈rs,r.1 < 19) (hn:rs.length≤1000) :
 Gv Tryz.prog 264 [v].toArray L (fun r L'=>∃C,Rs [C] 1 r 19 (ivn (cR rs))∧L'=C::L):=by
 refine Gv.of_body (args:=[v]) Tryz.func264 rfl rfl ?_
 obtain ⟨va,vc,rfl,_⟩:=h.room
 refine kW ?_
 refine zJ (m:=19) (c:=19) rfl rfl (by rfl) (by omega) (by omega) (by omega) rfl (fun b=>?_)
 rw [yN]
 refine kW ?_
 refine zn (X:=Nat) (fun x=>[(3,.slice (some ⟨b,0,none⟩) 19 19),(7,.slice va rs.length vc),(8,.int .i64 (rs.length:Int)),(9,.int .i64 (x:Int))]) (fun x=>[(b,cl (ivn (cR (rs.take x))) 3)]::L)
  (fun x=>x≤rs.length) (fun x=>rs.length - x) 0 (Nat.zero_le _) iS (fun w h=>h) ?_
 intro j hj9
 have hj:j≤rs.length:=hj9
 have hla:=Yp (rs.take j)
 have hga:=fun i=>zje (rs:=rs.take j) (fun r h'=>hr r (List.mem_of_mem_take h')) i
 rw [List.length_take,Nat.min_eq_left hj] at hga
 (repeat' first|refine kW ?_|refine kU fun bk=>?_|refine kV fun hc=>?_|refine kZ (fun hc=>?_) fun hc=>?_|fail)
 ·have hjl:j < rs.length:=by omega
  obtain ⟨t,ht⟩:∃t,rs[j]? =some t:=⟨rs[j],List.getElem?_eq_getElem hjl⟩
  have hto:=hr t (List.mem_of_getElem? ht)
  have hsA:=zaL (rs.take j) t
  rw [←qd ht] at hsA
  obtain ⟨tb,toff,tcap,hv9,hrd⟩:=h.elem hjl (by decide)
  injection hv9 with q1 q2 q3
  subst q1 q3
  clear q2
  rw [Yv uj ht] at hrd
  obtain ⟨t1,t2⟩:=t
  simp only at hto hsA
  have h1:=hga t1
  obtain ⟨n1,hn1⟩:∃n1,n1=(cR (rs.take j)).getD t1 0:=⟨_,rfl⟩
  have hget1:(ivn (cR (rs.take j)))[t1]? =some (.int .i64 (n1:Int)):=yF (by rw [hn1];simp [List.getD,show t1 < (cR (rs.take j)).length by omega])
  have hset1:(ivn (cR (rs.take j))).set (t1 * 1) (.int .i64 ((n1+1:Nat):Int))=ivn (cR (rs.take (j+1))):=by
   rw [hsA];unfold inc;rw [←hn1];simp [ivn,List.map_set]
  rw [←hn1] at h1
  have hrd:zK L ⟨tb,toff+j * 2,none⟩ [.int .i64 (t1:Int),.int .i64 (t2:Int)]:=hrd
  refine ze (zi (j:=j) rfl rfl rfl hjl) rfl ?_
  refine kW ?_
  refine ze (zB rfl (y9 hrd) rfl) rfl ?_
  (refine kW ?_;refine kU fun bk=>?_;refine kW ?_)
  refine ze (zh (j:=t1) (len:=19) rfl rfl rfl hto) rfl ?_
  refine kW ?_
  refine ze (zx rfl (.there .here) (by rw [yu,Nat.mul_one];exact hget1)) rfl ?_
  refine kW ?_
  refine ze (zh (j:=t1) (len:=19) rfl rfl rfl hto) rfl ?_
  refine kW ?_
  rw [show (n1:Int)+1=((n1+1:Nat):Int) from by omega]
  refine zG (ivn (cR (rs.take (j+1)))) rfl rfl rfl hset1 iU (by rw [zC];omega) ?_
  refine kW ?_
  refine zf (X:=Nat) (μ:=fun x=>rs.length - x) (x:=j) (j+1) (by show rs.length - (j+1) < rs.length - j;omega) (by show j+1≤rs.length;omega) iS (fun w h=>iH h)
 ·obtain rfl:j=rs.length:=by omega
  rw [List.take_length] at hla ⊢
  refine kR ?_
  exact ⟨_,iC,[(b,cl (ivn (cR rs)) 3)],⟨zF (c:=(ivn (cR rs)).toArray) .here (by rw [zC,hla]) (by simp),_,_,rfl,Nat.le_refl _⟩,rfl⟩
theorem zew (v:Value) (own:List Nat) (L:List Chunk) (h:Rs L 1 v own.length (ivn own)) (h19:own.length=19) (hor:qP L) :
 Gv Tryz.prog 265 [v].toArray L (fun r L'=>∃C,Rs [C] 1 r (trN (orN own) 4 19) (ivn ((orN own).take (trN (orN own) 4 19)))∧L'=C::L):=by
 refine Gv.of_body (args:=[v]) Tryz.func265 rfl rfl ?_
 rw [h19] at h
 obtain ⟨va,vc,rfl,_⟩:=h.room
 have hol:(orN own).length=19:=by simp [orN]
 refine kW ?_
 refine zn (X:=Nat × Value × Chunk) (fun x=>[(0,.slice va 19 vc),(3,x.2.1),(6,.int .i64 19),(7,.int .i64 (x.1:Int))]) (fun x=>x.2.2::L)
  (fun x=>x.1≤19∧Ow 3 1 x.2.1 x.1 (ivn ((orN own).take x.1)) x.2.2) (fun x=>19 - x.1) (0,.slice none 0 0,[]) ⟨by simp only;omega,.inl ⟨rfl,rfl,rfl,rfl⟩⟩ iS (fun w h=>Holds.nil.2 h) ?_
 rintro ⟨j,vl,Cl⟩ ⟨hj,hov⟩
 simp only at hj hov ⊢
 (repeat' first|refine kW ?_|refine kU fun bk=>?_|refine kV fun hc=>?_|refine kZ (fun hc=>?_) fun hc=>?_|fail)
 ·have hjl:j < 19:=by omega
  have ho19:yY.getD j 0 < 19:=by
   have:∀j,j < 19→yY.getD j 0 < 19:=by decide
   exact this j hjl
  have hnx:(orN own)[j]? =some (own.getD (yY.getD j 0) 0):=by simp [orN,hjl]
  have hord:=zbo j (Cl::L) hor.there hjl
  have hget:(ivn own)[yY.getD j 0]? =some (.int .i64 ((own.getD (yY.getD j 0) 0:Nat):Int)):=yF (gD (by omega))
  generalize yY.getD j 0=o at *
  generalize own.getD o 0=x at *
  obtain ⟨tb,toff,tcap,tcc,T1,f1,hv9,hf1,hv1⟩:=yV h.sl hget
  injection hv9 with q1 q2 q3
  subst q1 q3
  clear q2
  refine cP rfl rfl hord ?_
  refine kW ?_
  refine ze (zi (j:=o) rfl rfl rfl ho19) rfl ?_
  refine kW ?_
  refine ze (zq rfl (.there hf1) hv1) rfl ?_
  refine kW ?_
  refine zl (cs:=[.int .i64 (x:Int)]) rfl (by rfl) (by first|(simp [zA,patch,Value.cells,zeros];done)|(simp [zA,patch,Value.cells,zeros];rfl)) (by omega) rfl rfl (fun bn=>?_)
  refine kW ?_
  refine zu rfl rfl hov (zF (k:=1) (c:=#[.int .i64 (x:Int)]) (xs:=[.int .i64 (x:Int)]) (m:=1) Fnd.here rfl (by simp)) (by repeat (first|exact Zip.here _|apply Zip.there)) rfl (by rfl) (by omega) (by simp [maxLen];omega) rfl (fun vl2 Cl2 hov2 _ _=>?_)
  rw [show ivn ((orN own).take j)++[Value.int .i64 (x:Int)]=ivn ((orN own).take (j+1)) from by rw [qd hnx];simp [ivn]] at hov2
  refine kW ?_
  refine zf (X:=Nat × Value × Chunk) (μ:=fun x=>19 - x.1) (x:=(j,vl,Cl)) (j+1,vl2,Cl2) (by simp only;omega) ⟨by simp only;omega,hov2⟩ iS (fun w h=>iH h)
 ·obtain rfl:j=19:=by omega
  rw [List.take_of_length_le (by omega)] at hov
  have htr:=QD vl (orN own) 4 [Cl] (Cl::L) iC (by rw [hol];exact Rs.ow hov) (by omega) (by omega)
  rw [hol] at htr
  refine cC rfl rfl htr (fun r L' hp=>?_)
  obtain ⟨hr,rfl⟩:=hp
  refine kW ?_
  refine kR ?_
  exact ⟨_,iC,Cl,hr,rfl⟩
theorem vS (v:Value) (cs:List Nat) (most:Nat) (L:List Chunk) (h:Rs L 1 v cs.length (ivn cs)) (h1:1≤most) (h15:most≤15) (hn:cs.length≤400) (hb:∀i,cs.getD i 0≤1000000) (hm:(pos cs cs.length).length≤2 ^ most) :
 Gv Tryz.prog 243 [v,.int .i64 (most:Int)].toArray L (fun r L'=>∃lens w u C,r=.agg #[w,u]∧yO cs most lens∧CdR [C] w u lens∧L'=C::L):=by
 refine Gv.of_body (args:=[v,.int .i64 (most:Int)]) Tryz.func243 rfl rfl ?_
 obtain ⟨va,vc,rfl,_⟩:=h.room
 have hle:=fun L' (h':Rs L' 1 (.slice va cs.length vc) cs.length (ivn cs))=>zh7 (a:=va) (c:=vc) (icn cs) (most:Int) L' (by rw [zL,vW];exact h'.sl) (by rw [zL];omega)
 have hne:¬zfq (icn cs) (most:Int):=by
  rintro (h'|h'|h'|h'|h')
  ·omega
  ·omega
  ·rw [zL] at h';omega
  ·have:(icn cs).all okc=true:=by
    rw [List.all_eq_true]
    intro x hx
    obtain ⟨i,hi,rfl⟩:=List.getElem_of_mem hx
    have h2:=hb i
    have h3:(icn cs)[i]=((cs.getD i 0:Nat):Int):=by rw [←zej];simp [List.getD,hi]
    rw [h3,zdi]
    omega
   rw [this] at h';cases h'
  ·unfold nC at h'
   rw [Zh,zL,Int.toNat_natCast] at h'
   omega
 rw [zL,Zh,Int.toNat_natCast] at hle
 (refine kW ?_;refine kU fun bk=>?_;refine kW ?_)
 refine cC rfl rfl (hle _ h.there) (fun r L' hp=>?_)
 rcases hp with ⟨h',_⟩|⟨_,lens,w,C,rfl,rfl,ho,hlo⟩
 ·exact absurd h' hne
 have hll:=hlo.len
 have hco:Cok lens:=⟨hlo.fits,fun x hx=>by
  obtain ⟨i,hi,rfl⟩:=List.getElem_of_mem hx
  have:=hlo.le i
  rw [show lens.getD i 0=lens[i] from by simp [List.getD,hi]] at this
  omega⟩
 rw [←hll] at ho
 have hw:=Rs.ow (L:=[]) ho
 obtain ⟨wa,wc,rfl⟩:=zM ho
 refine kW ?_
 refine cC rfl rfl (zaO (.slice wa lens.length wc) lens _ (hw.sub iM) hco (by omega)) (fun r L' hp=>?_)
 obtain ⟨u,C2,rfl,hu,rfl⟩:=hp
 obtain ⟨ua,uc,rfl,_⟩:=hu.room
 refine kW ?_
 (first|refine zX (vs:=[.agg ([.slice wa lens.length wc,.slice ua lens.length uc]).toArray]) rfl (.agg ⟨by kernel_rfl,by kernel_rfl⟩ rfl (zK.cl' (vs:=[.slice wa lens.length wc,.slice ua lens.length uc]) (by repeat (first|assumption|exact Fnd.here|refine Fnd.there ?_)) rfl) rfl .nil) ?_|refine yE (vs:=[.agg ([.slice wa lens.length wc,.slice ua lens.length uc]).toArray]) rfl (.agg ⟨by kernel_rfl,by kernel_rfl⟩ rfl (zK.cl' (vs:=[.slice wa lens.length wc,.slice ua lens.length uc]) (by repeat (first|assumption|exact Fnd.here|refine Fnd.there ?_)) rfl) rfl .nil) ?_)
 refine ⟨(C2++C)::L,fun w h=>two.2 (iH h),lens,_,_,C2++C,rfl,hlo,?_,rfl⟩
 refine CdR.sub (L:=C2::C::[]) (fun x hx=>by simpa [List.append_assoc] using hx) ⟨hw.sub iM,hu.sub iM,hco,by omega⟩
end Go.Proofs.YtfbfcapoobmdpaaGreatDoor
namespace Go.Df
open Go.Vx Go.If Go.Hf
set_option linter.all false
theorem zhf (x:Nat) (hx:x≤15):∀f n bf,∀r∈Zn x f n bf,r.1 < 19∧r.2 < 2 ^ rpB r.1
 |0,n,bf,r,h=>by cases h
 |f+1,n,bf,r,h=>by
  rw [Zn] at h
  split at h
  ·cases h
  ·have hb:=zeR hx (n:=n) (by omega) bf
   have h18:=zf5 (n:=n) hx bf
   rcases List.mem_cons.1 h with rfl|h
   ·exact ⟨by simp only;omega,hb.2.2.2⟩
   ·exact zhf x hx f _ _ r h
theorem zlc:∀(f:Nat) (l:List Nat),(∀x∈l,x≤15)→∀r∈rnF f l,r.1 < 19∧r.2 < 2 ^ rpB r.1
 |0,l,_,r,h=>by cases h
 |f+1,l,hl,r,h=>by
  rw [rnF] at h
  split at h
  ·cases h
  ·rename_i hne
   rcases List.mem_append.1 h with h|h
   ·refine zhf _ ?_ _ _ _ r h
    cases l with
    |nil=>exact absurd rfl hne
    |cons y q=>exact hl y (by simp)
   ·exact zlc f _ (fun x hx=>hl x (List.mem_of_mem_drop hx)) r h
def hdL (l dl:List Nat):List Nat:=l.take (trN l 257 l.length)++dl.take (trN dl 1 dl.length)
end Go.Df
namespace Go.Proofs.YtfbfcapoobmdpaaGreatDoor
open Go Go.Vx Go.Hf Go.If Go.Df
variable [W0]
set_option maxRecDepth 4000
set_option linter.all false
theorem HdR.bits {L:List Chunk} {vo v1 v2 vr:Value} {n1 n2:Nat} {o own:List Nat} {rs:List (Nat × Nat)} (h:HdR L vo v1 v2 vr n1 n2 o own rs):itL (hwI n1 n2 o own rs)≤100+22 * 400:=by
 have:=zc8 h.c.ok h.ol.2 rs n1 n2
 have:=h.rn
 omega
theorem zj9 (v1 v3:Value) (l dl:List Nat) (L:List Chunk) (h1:Rs L 1 v1 l.length (ivn l)) (h3:Rs L 1 v3 dl.length (ivn dl)) (hl:l.length=286) (hd:dl.length=30) (x1:∀x∈l,x≤15) (x3:∀x∈dl,x≤15) (hor:qP L) :
 Gv Tryz.prog 244 [v1,v3].toArray L (fun r L'=>∃own vo v5 v6 vr C,r=.agg (hdV (trN l 257 l.length) (trN dl 1 dl.length) vo v5 v6 vr).toArray∧yO (cR (rnS (hdL l dl))) 7 own∧
  HdR [C] vo v5 v6 vr (trN l 257 l.length) (trN dl 1 dl.length) ((orN own).take (trN (orN own) 4 19)) own (rnS (hdL l dl))∧L'=C::L):=by
 refine Gv.of_body (args:=[v1,v3]) Tryz.func244 rfl rfl ?_
 have b1:=Q0 (l:=l) (least:=257) l.length (by omega)
 have b3:=Q0 (l:=dl) (least:=1) dl.length (by omega)
 have ht1:=fun S L' hi hs=>QD v1 l 257 S L' hi hs (by omega) (by omega)
 have ht3:=fun S L' hi hs=>QD v3 dl 1 S L' hi hs (by omega) (by omega)
 have hlst:∀x∈hdL l dl,x≤15:=fun x hx=>by
  rcases List.mem_append.1 hx with h|h
  ·exact x1 x (List.mem_of_mem_take h)
  ·exact x3 x (List.mem_of_mem_take h)
 have hlen:(hdL l dl).length=trN l 257 l.length+trN dl 1 dl.length:=by unfold hdL;rw [List.length_append,List.length_take,List.length_take];omega
 have hrl:=zds (hdL l dl).length (hdL l dl) hlst
 have hro:=zlc (hdL l dl).length (hdL l dl) hlst
 have hcl:hdL l dl=l.take (trN l 257 l.length)++dl.take (trN dl 1 dl.length):=rfl
 have hlt1:(l.take (trN l 257 l.length)).length=trN l 257 l.length:=by rw [List.length_take];omega
 have hlt3:(dl.take (trN dl 1 dl.length)).length=trN dl 1 dl.length:=by rw [List.length_take];omega
 generalize trN l 257 l.length=n1 at *
 generalize trN dl 1 dl.length=n2 at *
 rw [hl] at b1
 rw [hd] at b3
 have hrn:rnS (hdL l dl)=rnF (hdL l dl).length (hdL l dl):=rfl
 (refine kW ?_;refine kU fun bk=>?_;refine kW ?_)
 refine cC rfl rfl (ht1 L _ iC h1) (fun r1 L' hp=>?_)
 obtain ⟨hr1,rfl⟩:=hp
 refine kW ?_
 refine cC rfl rfl (ht3 L _ iC h3) (fun r3 L' hp=>?_)
 obtain ⟨hr3,rfl⟩:=hp
 obtain ⟨a1,c1,rfl,_⟩:=hr1.room
 obtain ⟨a3,c3,rfl,_⟩:=hr3.room
 refine kW ?_
 refine zl (cs:=[.slice a1 n1 c1,.slice a3 n2 c3]) rfl (by rfl) (by first|(simp [zA,patch,Value.cells,zeros];done)|(simp [zA,patch,Value.cells,zeros];rfl)) (by omega) rfl rfl (fun bn=>?_)
 refine kW ?_
 have hcat:=fun B=>zd5 (some ⟨bn,0,none⟩) 2 [(.slice a1 n1 c1,l.take n1),(.slice a3 n2 c3,dl.take n2)] ([(bn,cl [.slice a1 n1 c1,.slice a3 n2 c3] 154)]::B::L) (zF (c:=#[.slice a1 n1 c1,.slice a3 n2 c3]) .here rfl (by simp)) (by
  intro x hx
  simp only [List.mem_cons,List.not_mem_nil,or_false] at hx
  rcases hx with rfl|rfl
  ·simp only [hlt1];exact hr1.sl |> zm |> zm
  ·simp only [hlt3];exact hr3.sl |> zm |> zm) (by simp) (by
  have:ccL [((.slice a1 n1 c1:Value),l.take n1),(.slice a3 n2 c3,dl.take n2)] 2=hdL l dl:=by rw [hcl];simp [ccL]
  show 1≤(ccL _ 2).length
  rw [this];omega) (by
  have:ccL [((.slice a1 n1 c1:Value),l.take n1),(.slice a3 n2 c3,dl.take n2)] 2=hdL l dl:=by rw [hcl];simp [ccL]
  show (ccL _ 2).length≤_
  rw [this];omega)
 rw [show ccL [((.slice a1 n1 c1:Value),l.take n1),(.slice a3 n2 c3,dl.take n2)] [((.slice a1 n1 c1:Value),l.take n1),(.slice a3 n2 c3,dl.take n2)].length=hdL l dl from by rw [hcl];simp [ccL]] at hcat
 refine cC rfl rfl (hcat _) (fun r L' hp=>?_)
 obtain ⟨C1,rfl,ho1⟩:=hp
 have hr1:=Rs.ow (L:=[]) ho1
 refine kW ?_
 refine cC rfl rfl (zlp r (hdL l dl) _ (hr1.sub iM) hlst (by omega)) (fun r2 L' hp=>?_)
 obtain ⟨C2,ho2,rfl⟩:=hp
 have hr2:=Rs.ow (L:=[]) ho2
 rw [←hrn] at hrl hro
 generalize rnS (hdL l dl)=rs at *
 refine kW ?_
 refine cC rfl rfl (Yt r2 rs _ (hr2.sub iM) (fun x hx=>(hro x hx).1) (by omega)) (fun r4 L' hp=>?_)
 obtain ⟨C3,hr4,rfl⟩:=hp
 have hcr:=Yp rs
 have hcb:=fun i=>zje (rs:=rs) (fun x hx=>(hro x hx).1) i
 have hpl:=uf (cR rs) (cR rs).length
 refine kW ?_
 refine cC rfl rfl (vS r4 (cR rs) 7 _ (by rw [hcr];exact hr4.sub iM) (by decide) (by decide) (by omega) (fun i=>by have:=hcb i;omega) (by omega)) (fun r5 L' hp=>?_)
 obtain ⟨own,w,u,C4,rfl,hlo,hcd,rfl⟩:=hp
 have hol:=hlo.len
 rw [hcr] at hol
 obtain ⟨wa,wc,rfl,_⟩:=hcd.l.room
 obtain ⟨ua,uc,rfl,_⟩:=hcd.c.room
 (refine kW ?_;refine kU fun bk=>?_;refine kW ?_)
 refine zk [10] mixed ?_
 (refine za 0 ?_;refine za 1 ?_;refine za 2 ?_;refine za 3 ?_;refine za 4 ?_;refine za 5 ?_;refine za 7 ?_;refine za 8 ?_)
 refine cI 6 rfl rfl ?_
 refine cC rfl rfl (zew (.slice wa own.length wc) own _ (hcd.l.sub iM) hol (by repeat (first|exact hor|apply qP.there))) (fun r6 L' hp=>?_)
 obtain ⟨C5,ho5,rfl⟩:=hp
 refine ⟨iC,?_⟩
 have hoN:(orN own).length=19:=by simp [orN]
 have hb4:=Q0 (l:=orN own) (least:=4) 19 (by decide)
 have hot:((orN own).take (trN (orN own) 4 19)).length=trN (orN own) 4 19:=by rw [List.length_take];omega
 have hfin:HdR ((C5++(C4++C2))::[]) r6 (.slice wa own.length wc) (.slice ua own.length uc) r2 n1 n2 ((orN own).take (trN (orN own) 4 19)) own rs:=by
  refine HdR.sub (L:=C5::C4::C2::[]) (fun x hx=>by simpa [List.append_assoc] using hx) ⟨?_,hcd.sub iM,hr2.sub iM,b1.imp id (fun h=>h.1),b3.imp id (fun h=>h.1),by rw [hot];omega,fun x hx=>?_,hol,by omega,hro⟩
  ·rw [hot];exact ho5.sub iM
  ·have hx2:=List.mem_of_mem_take hx
   unfold orN at hx2
   obtain ⟨i,_,rfl⟩:=List.mem_map.1 hx2
   have:=hlo.le (yY.getD i 0)
   omega
 obtain ⟨on,hon⟩:∃on,on=trN (orN own) 4 19:=⟨_,rfl⟩
 rw [←hon] at ho5
 obtain ⟨oa,oc,rfl,_⟩:=ho5.room
 obtain ⟨ra,rc,rfl,_⟩:=hr2.room
 (refine za 9 ?_)
 refine cL 10 rfl rfl rfl ?_
 refine zo (l:=[.int .i64 0,.int .i64 0,.slice none 0 0,.slice none 0 0,.slice none 0 0,.slice none 0 0]) [.int .i64 (n1:Int),.int .i64 (n2:Int),.slice oa on oc,.slice wa own.length wc,.slice ua own.length uc,.slice ra rs.length rc] rfl rfl rfl rfl rfl iU (by simp) ?_
 refine cD ?_
 refine kW ?_
 (first|refine zX (vs:=[.agg ([.int .i64 (n1:Int),.int .i64 (n2:Int),.slice oa on oc,.slice wa own.length wc,.slice ua own.length uc,.slice ra rs.length rc]).toArray]) rfl (.agg ⟨by kernel_rfl,by kernel_rfl⟩ rfl (zK.cl' (vs:=[.int .i64 (n1:Int),.int .i64 (n2:Int),.slice oa on oc,.slice wa own.length wc,.slice ua own.length uc,.slice ra rs.length rc]) (by repeat (first|assumption|exact Fnd.here|refine Fnd.there ?_)) rfl) rfl .nil) ?_|refine yE (vs:=[.agg ([.int .i64 (n1:Int),.int .i64 (n2:Int),.slice oa on oc,.slice wa own.length wc,.slice ua own.length uc,.slice ra rs.length rc]).toArray]) rfl (.agg ⟨by kernel_rfl,by kernel_rfl⟩ rfl (zK.cl' (vs:=[.int .i64 (n1:Int),.int .i64 (n2:Int),.slice oa on oc,.slice wa own.length wc,.slice ua own.length uc,.slice ra rs.length rc]) (by repeat (first|assumption|exact Fnd.here|refine Fnd.there ?_)) rfl) rfl .nil) ?_)
 exact ⟨(C5++(C4++C2))::L,fun w h=>three.2 (iH h),own,_,_,_,_,_,rfl,hlo,by rw [←hon] at hfin ⊢;exact hfin,rfl⟩
end Go.Proofs.YtfbfcapoobmdpaaGreatDoor
namespace Go.Df
open Go.Vx Go.If Go.Hf
set_option linter.all false
def vL (r:Nat × Nat):Rl:=if r.1=16 then .rep r.2 else if r.1=17 then .few r.2 else if r.1=18 then .more r.2 else .len r.1
def zaE (r:Nat × Nat):Prop:=r.1≤18∧r.2 < 2 ^ rpB r.1
theorem zaE.cases {r:Nat × Nat} (h:zaE r):(r.1≤15∧r.2=0∧vL r=.len r.1∧rpB r.1=0)∨(r.1=16∧r.2 < 4∧vL r=.rep r.2)∨(r.1=17∧r.2 < 8∧vL r=.few r.2)∨(r.1=18∧r.2 < 128∧vL r=.more r.2):=by
 obtain ⟨s,m⟩:=r
 obtain ⟨h1,h2⟩:=h
 simp only at h1 h2 ⊢
 by_cases h16:s=16
 ·subst h16;exact .inr (.inl ⟨rfl,h2,rfl⟩)
 by_cases h17:s=17
 ·subst h17;exact .inr (.inr (.inl ⟨rfl,h2,rfl⟩))
 by_cases h18:s=18
 ·subst h18;exact .inr (.inr (.inr ⟨rfl,h2,rfl⟩))
 have hb:rpB s=0:=by unfold rpB;rw [if_neg h16,if_neg h17,if_neg h18]
 rw [hb] at h2
 exact .inl ⟨by omega,by omega,by unfold vL;rw [if_neg h16,if_neg h17,if_neg h18],hb⟩
theorem zld [W0] {own:List Nat}:∀{rs:List (Nat × Nat)},(∀r∈rs,zaE r)→itV (rnI own rs)=itV (rsI own (rs.map vL))∧itL (rnI own rs)=itL (rsI own (rs.map vL))
 |[],_=>⟨rfl,rfl⟩
 |r::q,h=>by
  obtain ⟨h1,h2⟩:=zld (own:=own) (rs:=q) (fun x hx=>h x (List.mem_cons_of_mem _ hx))
  rw [List.map_cons,rsI,rnI,Zq,zw]
  obtain ⟨s,m⟩:=r
  rcases (h _ List.mem_cons_self).cases with ⟨_,g2,g3,g4⟩|⟨g1,_,g3⟩|⟨g1,_,g3⟩|⟨g1,_,g3⟩
  ·simp only at g2 g3 g4
   rw [g3,g2,g4]
   simp only [rlI,itV,itL,h1,h2,Nat.pow_zero]
   exact ⟨by simp,by omega⟩
  ·simp only at g1
   subst g1
   rw [g3]
   simp only [rlI,itV,itL,h1,h2,show rpB 16=2 from rfl]
   exact ⟨by rw [Nat.pow_add,Nat.mul_add,Nat.mul_add,Nat.mul_assoc];simp [Nat.add_assoc],by omega⟩
  ·simp only at g1
   subst g1
   rw [g3]
   simp only [rlI,itV,itL,h1,h2,show rpB 17=3 from rfl]
   exact ⟨by rw [Nat.pow_add,Nat.mul_add,Nat.mul_add,Nat.mul_assoc];simp [Nat.add_assoc],by omega⟩
  ·simp only at g1
   subst g1
   rw [g3]
   simp only [rlI,itV,itL,h1,h2,show rpB 18=7 from rfl]
   exact ⟨by rw [Nat.pow_add,Nat.mul_add,Nat.mul_add,Nat.mul_assoc];simp [Nat.add_assoc],by omega⟩
theorem zkt (a:List Nat) (m x:Nat) (h:1≤m):(a++List.replicate m x).getD ((a++List.replicate m x).length - 1) 0=x:=by
 rw [List.length_append,List.length_replicate,List.getD_eq_getElem?_getD,List.getElem?_append_right (by omega),List.getElem?_replicate,if_pos (by omega)]
 rfl
theorem step_ok {x n:Nat} (hx:x≤15) (hn:1≤n) (bf:Bool) (a:List Nat) (hb:bf=true→a≠[]∧a.getD (a.length - 1) 0=x) :
 zaE (sfN x n bf,smN x n bf - rpA (sfN x n bf))∧rlW (vL (sfN x n bf,smN x n bf - rpA (sfN x n bf))) a=a++List.replicate (smN x n bf) x∧(∀own:List Nat,0 < own.getD (sfN x n bf) 0→znU own a.length (vL (sfN x n bf,smN x n bf - rpA (sfN x n bf)))):=by
 have hs:=zeR hx hn bf
 have hr:zaE (sfN x n bf,smN x n bf - rpA (sfN x n bf)):=⟨zf5 hx bf,hs.2.2.2⟩
 refine ⟨hr,?_⟩
 by_cases h1:x=0∧11≤n
 ·have e:sfN x n bf=18:=by unfold sfN;rw [if_pos h1]
  rw [e] at hr hs ⊢
  generalize smN x n bf=m at *
  have e2:rpA 18=11:=rfl
  rw [e2] at hs ⊢
  refine ⟨?_,fun own ho=>⟨hs.2.2.2,ho⟩⟩
  show a++List.replicate (11+(m - 11)) 0=_
  rw [show 11+(m - 11)=m from by omega,h1.1]
 by_cases h2:x=0∧3≤n
 ·have e:sfN x n bf=17:=by unfold sfN;rw [if_neg h1,if_pos h2]
  rw [e] at hr hs ⊢
  generalize smN x n bf=m at *
  have e2:rpA 17=3:=rfl
  rw [e2] at hs ⊢
  refine ⟨?_,fun own ho=>⟨hs.2.2.2,ho⟩⟩
  show a++List.replicate (3+(m - 3)) 0=_
  rw [show 3+(m - 3)=m from by omega,h2.1]
 by_cases h3:0 < x∧bf=true∧3≤n
 ·have e:sfN x n bf=16:=by unfold sfN;rw [if_neg h1,if_neg h2,if_pos h3]
  rw [e] at hr hs ⊢
  generalize smN x n bf=m at *
  have e2:rpA 16=3:=rfl
  rw [e2] at hs ⊢
  obtain ⟨g1,g2⟩:=hb h3.2.1
  refine ⟨?_,fun own ho=>⟨List.length_pos_iff.2 g1,hs.2.2.2,ho⟩⟩
  show a++List.replicate (3+(m - 3)) (a.getD (a.length - 1) 0)=_
  rw [show 3+(m - 3)=m from by omega,g2]
 ·have e:sfN x n bf=x:=by unfold sfN;rw [if_neg h1,if_neg h2,if_neg h3]
  have e1:rpA x=1:=by unfold rpA;rw [if_neg (by omega),if_neg (by omega),if_neg (by omega)]
  have e2:rpB x=0:=by unfold rpB;rw [if_neg (by omega),if_neg (by omega),if_neg (by omega)]
  have e3:smN x n bf=1:=by unfold smN;rw [e,e1,e2];show min n (1+1 - 1)=1;omega
  rw [e,e1,e3]
  have e4:vL (x,1 - 1)=.len x:=by unfold vL;rw [if_neg (by simp only;omega),if_neg (by simp only;omega),if_neg (by simp only;omega)]
  rw [e4]
  exact ⟨rfl,fun own ho=>⟨hx,ho⟩⟩
theorem zkP {x:Nat} (hx:x≤15):∀(f n:Nat) (bf:Bool) (a:List Nat),n≤f→(bf=true→a≠[]∧a.getD (a.length - 1) 0=x)→
 (∀r∈Zn x f n bf,zaE r)∧rsW ((Zn x f n bf).map vL) a=a++List.replicate n x∧(∀own:List Nat,(∀r∈Zn x f n bf,0 < own.getD r.1 0)→zbI own a.length ((Zn x f n bf).map vL))
 |0,n,bf,a,hn,hb=>by
  obtain rfl:n=0:=by omega
  exact ⟨fun r hr=>(by cases hr),by simp [Zn,rsW],fun own _=>trivial⟩
 |f+1,n,bf,a,hn,hb=>by
  rw [Zn]
  by_cases h0:n=0
  ·rw [if_pos h0]
   subst h0
   exact ⟨fun r hr=>(by cases hr),by simp [rsW],fun own _=>trivial⟩
  rw [if_neg h0]
  obtain ⟨g1,g2,g3⟩:=step_ok hx (n:=n) (by omega) bf a hb
  have hs:=zeR hx (n:=n) (by omega) bf
  obtain ⟨i1,i2,i3⟩:=zkP hx f (n - smN x n bf) true (a++List.replicate (smN x n bf) x) (by omega) (fun _=>⟨by
   intro h
   have:=congrArg List.length h
   simp only [List.length_append,List.length_replicate,List.length_nil] at this
   omega,zkt _ _ _ hs.2.2.1⟩)
  refine ⟨fun r hr=>?_,?_,fun own ho=>?_⟩
  ·rcases List.mem_cons.1 hr with rfl|hr
   ·exact g1
   ·exact i1 r hr
  ·rw [List.map_cons,rsW,g2,i2,List.append_assoc,List.replicate_append_replicate,show smN x n bf+(n - smN x n bf)=n from by omega]
  ·rw [List.map_cons]
   refine ⟨g3 own (ho _ List.mem_cons_self),?_⟩
   have:=i3 own (fun r hr=>ho r (List.mem_cons_of_mem _ hr))
   rw [←Zj,g2]
   exact this
theorem zhr:∀(x y:List Rl) (a:List Nat),rsW (x++y) a=rsW y (rsW x a)
 |[],y,a=>rfl
 |r::x,y,a=>by rw [List.cons_append,rsW,zhr x,rsW]
theorem zeG {own:List Nat}:∀{x y:List Rl} {n:Nat},zbI own n x→zbI own (n+rsN x) y→zbI own n (x++y)
 |[],y,n,h1,h2=>by simpa [rsN] using h2
 |r::x,y,n,h1,h2=>by
  refine ⟨h1.1,zeG h1.2 ?_⟩
  rw [rsN] at h2
  rw [Nat.add_assoc]
  exact h2
theorem zm5 {l:List Nat} (h:l≠[]):l.take (eqN l)=List.replicate (eqN l) (l.getD 0 0):=by
 cases l with
 |nil=>exact absurd rfl h
 |cons x r=>
  have key:∀(r:List Nat),r.take (r.takeWhile fun y=>decide (y=x)).length=List.replicate (r.takeWhile fun y=>decide (y=x)).length x:=by
   intro r
   induction r with
   |nil=>rfl
   |cons y r ih=>
    by_cases hy:y=x
    ·rw [List.takeWhile_cons_of_pos (by simpa using hy),List.length_cons,List.take_succ_cons,ih,List.replicate_succ,hy]
    ·rw [List.takeWhile_cons_of_neg (by simpa using hy)];rfl
  rw [eqN,Nat.add_comm,List.take_succ_cons,key,List.replicate_succ]
  rfl
theorem zoH:∀(f:Nat) (l a:List Nat),(∀x∈l,x≤15)→l.length≤f→
 (∀r∈rnF f l,zaE r)∧rsW ((rnF f l).map vL) a=a++l∧(∀own:List Nat,(∀r∈rnF f l,0 < own.getD r.1 0)→zbI own a.length ((rnF f l).map vL))
 |0,l,a,h15,hf=>by
  obtain rfl:l=[]:=List.length_eq_zero_iff.1 (by omega)
  exact ⟨fun r hr=>(by cases hr),by simp [rnF,rsW],fun own _=>trivial⟩
 |f+1,l,a,h15,hf=>by
  rw [rnF]
  by_cases h0:l=[]
  ·rw [if_pos h0,h0]
   exact ⟨fun r hr=>(by cases hr),by simp [rsW],fun own _=>trivial⟩
  rw [if_neg h0]
  have hb:=zgI h0
  have hx:l.getD 0 0≤15:=by
   cases l with
   |nil=>exact absurd rfl h0
   |cons y r=>exact h15 y List.mem_cons_self
  obtain ⟨g1,g2,g3⟩:=zkP hx (eqN l) (eqN l) false a (Nat.le_refl _) (fun h=>by cases h)
  obtain ⟨i1,i2,i3⟩:=zoH f (l.drop (eqN l)) (a++List.replicate (eqN l) (l.getD 0 0)) (fun x hx=>h15 x (List.mem_of_mem_drop hx)) (by rw [List.length_drop];omega)
  refine ⟨fun r hr=>?_,?_,fun own ho=>?_⟩
  ·rcases List.mem_append.1 hr with hr|hr
   ·exact g1 r hr
   ·exact i1 r hr
  ·rw [List.map_append,zhr,g2,i2,List.append_assoc,←zm5 h0,List.take_append_drop]
  ·rw [List.map_append]
   refine zeG (g3 own fun r hr=>ho r (List.mem_append_left _ hr)) ?_
   have:=i3 own (fun r hr=>ho r (List.mem_append_right _ hr))
   have hl:=Z8 ((Zn (l.getD 0 0) (eqN l) (eqN l) false).map vL) a
   rw [g2] at hl
   rw [←hl]
   exact this
theorem zlf {l:List Nat} (h15:∀x∈l,x≤15):(∀r∈rnS l,zaE r)∧rsW ((rnS l).map vL) []=l∧(∀own:List Nat,(∀r∈rnS l,0 < own.getD r.1 0)→zbI own 0 ((rnS l).map vL)):=by
 have:=zoH l.length l [] h15 (Nat.le_refl _)
 exact this
def exR (rs:List (Nat × Nat)):Nat:=(rs.map fun r=>rpB r.1).sum
theorem zgJ (a:List (Nat × Nat)) (r:Nat × Nat):exR (a++[r])=exR a+rpB r.1:=by simp [exR]
theorem znW [W0] {own:List Nat} {rs:List (Nat × Nat)} (h:∀r∈rs,r.1 < 19):itL (rnI own rs)=sS (fun i=>own.getD i 0) 19 (cR rs)+exR rs:=by
 induction rs using wz with
 |h0=>
  rw [show cR []=List.replicate 19 0 from rfl,Y8]
  rfl
 |h1 a t ih=>
  have ht:=h t (by simp)
  rw [zdu,zw,ih (fun x hx=>h x (by simp [hx])),zaL,YD (by rw [Yp];exact ht),if_pos ht,zgJ]
  simp only [rnI,itL,sc]
  omega
theorem zng [W0] {n1 n2:Nat} {o own:List Nat} {rs:List (Nat × Nat)} (h:∀r∈rs,r.1 < 19):itL (hwI n1 n2 o own rs)=14+3 * o.length+sS (fun i=>own.getD i 0) 19 (cR rs)+exR rs:=by
 unfold hwI
 rw [zw,zw,zev,znW h]
 simp only [itL]
 omega
end Go.Df
namespace Go.Proofs.YtfbfcapoobmdpaaGreatDoor
open Go Go.Vx Go.Hf Go.If Go.Df
variable [W0]
set_option maxRecDepth 4000
set_option linter.all false
theorem zj8 (vo v1 v2 vr:Value) (n1 n2:Nat) (o own:List Nat) (rs:List (Nat × Nat)) (L:List Chunk) (hK:HdR L vo v1 v2 vr n1 n2 o own rs) :
 GvP Tryz.prog 325 [.agg (hdV n1 n2 vo v1 v2 vr).toArray].toArray L (.int .i64 ((itL (hwI n1 n2 o own rs):Nat):Int)):=by
 refine Gv.of_body Tryz.func325 rfl rfl ?_
 have hbit:=hK.bits
 rw [zng (fun r h=>(hK.ro r h).1)] at hbit ⊢
 have hcr:=Yp rs
 have hrn:=hK.rn
 have hol:=hK.ol
 have hcb:=fun i=>zje (rs:=rs) (fun x hx=>(hK.ro x hx).1) i
 obtain ⟨oa,oc,rfl,_⟩:=hK.ord.room
 obtain ⟨a1,c1,rfl,_⟩:=hK.c.l.room
 obtain ⟨a2,c2,rfl,_⟩:=hK.c.c.room
 obtain ⟨ra,rc,rfl,_⟩:=hK.run.room
 unfold hdV
 (refine kW ?_;refine kU fun bk=>?_;refine kW ?_)
 have hm:min (cR rs).length own.length=19:=by rw [hcr,hK.o19];rfl
 refine zk [12] mixed ?_
 (refine za 0 ?_;refine za 1 ?_;refine za 2 ?_;refine za 3 ?_;refine za 4 ?_;refine za 5 ?_;refine za 6 ?_;refine za 7 ?_;refine za 8 ?_)
 refine cI 9 rfl rfl ?_
 refine cC rfl rfl (Yt (.slice ra rs.length rc) rs _ (hK.run.sub iM) (fun x hx=>(hK.ro x hx).1) (by omega)) (fun r L' hp=>?_)
 obtain ⟨C1,hr1,rfl⟩:=hp
 refine ⟨iC,?_⟩
 have hco:=zcP (.slice a1 own.length c1) (.slice a2 own.length c2) r own (cR rs) (C1::[(bk,cl (hdV n1 n2 (.slice oa o.length oc) (.slice a1 own.length c1) (.slice a2 own.length c2) (.slice ra rs.length rc)) 226)]::L) (hK.c.l.sub iM) (by rw [hcr];exact hr1.sub iM) (by omega) (fun i=>by have:=hcb i;omega) (fun i=>by have:=hK.c.ok.at i;omega)
 rw [hm] at hco
 generalize sS (fun i=>own.getD i 0) 19 (cR rs)=z at *
 refine cI 10 rfl rfl ?_
 refine cP rfl rfl hco ?_
 refine ⟨iC,?_⟩
 (refine za 11 ?_)
 refine cL 12 rfl rfl rfl ?_
 rw [show (14:Int)+3 * (o.length:Int)+(z:Int)=((14+3 * o.length+z:Nat):Int) from by omega]
 generalize 14+3 * o.length+z=bs at *
 refine ze (yP rfl) rfl ?_
 refine cD ?_
 refine kW ?_
 refine zn (X:=Nat) (fun x=>[(3,.int .i64 ((bs+exR (rs.take x):Nat):Int)),(21,.slice ra rs.length rc),(22,.int .i64 (rs.length:Int)),(23,.int .i64 (x:Int))]) (fun _=>L) (fun x=>x≤rs.length∧exR (rs.take x)≤7 * x) (fun x=>rs.length - x) 0 ⟨Nat.zero_le _,by simp [exR]⟩ (by
  rw [show exR (rs.take 0)=0 from rfl,Nat.add_zero]
  exact iS) (fun w h=>iH h) ?_
 intro j hj9
 have hj:j≤rs.length∧exR (rs.take j)≤7 * j:=hj9
 (repeat' first|refine kW ?_|refine kU fun bk=>?_|refine kV fun hc=>?_|refine kZ (fun hc=>?_) fun hc=>?_|fail)
 ·have hjl:j < rs.length:=by omega
  obtain ⟨t,ht⟩:∃t,rs[j]? =some t:=⟨rs[j],List.getElem?_eq_getElem hjl⟩
  have hto:=(hK.ro t (List.mem_of_getElem? ht)).1
  have hsA:=zgJ (rs.take j) t
  rw [←qd ht] at hsA
  obtain ⟨tb,toff,tcap,hv9,hrd⟩:=hK.run.elem hjl (by decide)
  injection hv9 with q1 q2 q3
  subst q1 q3
  clear q2
  rw [Yv uj ht] at hrd
  obtain ⟨t1,t2⟩:=t
  simp only at hto hsA
  have hrd:zK L ⟨tb,toff+j * 2,none⟩ [.int .i64 (t1:Int),.int .i64 (t2:Int)]:=hrd
  have hru:=fun L=>zbp t1 L (by omega)
  have hb7:rpB t1≤7:=by unfold rpB;split<;>(try split)<;>(try split)<;>omega
  refine ze (zi (j:=j) rfl rfl rfl hjl) rfl ?_
  refine kW ?_
  refine ze (zB rfl hrd rfl) rfl ?_
  (refine kW ?_;refine kU fun bk=>?_;refine kW ?_)
  refine cP rfl rfl (hru _) ?_
  refine kW ?_
  rw [show ((bs+exR (rs.take j):Nat):Int)+(rpB t1:Int)=((bs+exR (rs.take (j+1)):Nat):Int) from by rw [hsA];omega]
  refine zf (X:=Nat) (μ:=fun x=>rs.length - x) (x:=j) (j+1) (by show rs.length - (j+1) < rs.length - j;omega) ⟨by omega,by rw [hsA];omega⟩ iS (fun w h=>iH h)
 ·obtain rfl:j=rs.length:=by omega
  rw [List.take_length]
  refine kR ?_
  exact ⟨_,iC,rfl,rfl⟩
omit [W0] in
structure DyX where
 l:List Nat
 dl:List Nat
 v1:Value
 v2:Value
 v3:Value
 v4:Value
 C1:Chunk
 C2:Chunk
 b:Nat
theorem zea (v vt:Value) (b:List UInt8) (ts:List (Nat × Nat)) (S L:List Chunk) (hi:Inc S L) (h:PcR S v vt b ts) (hor:qP L) :
 Gv Tryz.prog 209 [.agg #[v,vt]].toArray L (fun r L'=>∃l dl own v1 v2 v3 v4 vo v5 v6 vr C,r=.agg (cdV vt v1 v2 v3 v4 (itL (coI l dl ts))++hdV (trN l 257 l.length) (trN dl 1 dl.length) vo v5 v6 vr).toArray∧yO (inc (cA ts) 256) 15 l∧yO (cD ts) 15 dl∧yO (cR (rnS (hdL l dl))) 7 own∧
  CoR (C::S) vt v1 v2 v3 v4 ts l dl∧HdR (C::S) vo v5 v6 vr (trN l 257 l.length) (trN dl 1 dl.length) ((orN own).take (trN (orN own) 4 19)) own (rnS (hdL l dl))∧L'=C::L):=by
 refine Gv.of_body (args:=[.agg #[v,vt]]) Tryz.func209 rfl rfl ?_
 obtain ⟨va,vc,rfl,_⟩:=h.x.room
 obtain ⟨ta,tc,rfl,_⟩:=h.t.rs.room
 have hL:=h.sub hi.mem
 have hnt:=h.nt
 have hla:(inc (cA ts) 256).length=286:=by rw [uS,vv]
 have hld:=Zy ts
 have hca:∀i,(inc (cA ts) 256).getD i 0≤200001:=fun i=>by
  have:=zjc h.t.ok i
  rw [wX (by rw [vv];decide)]
  split<;>omega
 have hcdb:∀i,(cD ts).getD i 0≤200000:=fun i=>by have:=zjd h.t.ok i;omega
 have hp1:=uf (inc (cA ts) 256) (inc (cA ts) 256).length
 have hp2:=uf (cD ts) (cD ts).length
 refine vg ?_
 (repeat' first|refine kY ?_|refine kU fun bk=>?_|refine kV fun hc=>?_|refine kZ (fun hc=>?_) fun hc=>?_|fail)
 rename_i q1
 obtain ⟨q2,hq2⟩:∃x,x=bk:=⟨_,rfl⟩
 subst hq2
 refine vg ?_
 (repeat' first|refine kY ?_|refine kU fun bk=>?_|refine kV fun hc=>?_|refine kZ (fun hc=>?_) fun hc=>?_|fail)
 refine cC rfl rfl (zaQ (.slice ta ts.length tc) ts _ (hL.t.sub iM) h.nt) (fun r L' hp=>?_)
 obtain ⟨x1,x2,C0,rfl,hx1,hx2,rfl⟩:=hp
 obtain ⟨xa,xc,rfl,_⟩:=hx1.room
 obtain ⟨ya,yc,rfl,_⟩:=hx2.room
 (repeat' first|refine kY ?_|refine kU fun bk=>?_|refine kV fun hc=>?_|refine kZ (fun hc=>?_) fun hc=>?_|fail)
 refine Zx (X:=DyX) (fun z=>[(1,.pointer (some ⟨q1,0,none⟩)),(2,.pointer (some ⟨q2,0,none⟩)),(4,.pointer (some ⟨z.b,0,none⟩))])
  (fun z=>[(z.b,cl (cdV (.slice ta ts.length tc) z.v1 z.v2 z.v3 z.v4 (itL (coI z.l z.dl ts))) 184)]::z.C2::z.C1::[(q2,cl [.slice none 0 0,.slice none 0 0,.slice none 0 0,.slice none 0 0,.slice none 0 0,.int .i64 0,.int .i64 0,.int .i64 0,.slice none 0 0,.slice none 0 0,.slice none 0 0,.slice none 0 0] 228)]::[(q1,cl [.slice va b.length vc,.slice ta ts.length tc] 179)]::L)
  (fun z=>yO (inc (cA ts) 256) 15 z.l∧yO (cD ts) 15 z.dl∧CdR [z.C1] z.v1 z.v2 z.l∧CdR [z.C2] z.v3 z.v4 z.dl) ?_ ?_
 ·refine zk [11] mixed ?_
  (refine za 0 ?_;refine za 1 ?_;refine za 3 ?_;refine za 4 ?_;refine za 6 ?_;refine za 7 ?_;refine za 8 ?_)
  refine Xn (js:=[2,10]) (by kernel_rfl) (by simp) (fun j hj=>?_)
  simp only [List.mem_cons,List.not_mem_nil,or_false] at hj
  rcases hj with rfl|rfl
  ·refine ⟨_,rfl,rfl,?_⟩
   refine cC rfl rfl (vS (.slice xa 286 xc) (inc (cA ts) 256) 15 _ (by rw [hla];exact hx1.sub iM) (by decide) (by decide) (by omega) (fun i=>by have:=hca i;omega) (by omega)) (fun r L' hp=>?_)
   obtain ⟨l,v1,v2,C1,rfl,hlo,hcd,rfl⟩:=hp
   refine ⟨iC,?_⟩
   refine Xn (js:=[5,10]) (by kernel_rfl) (by simp) (fun j hj=>?_)
   simp only [List.mem_cons,List.not_mem_nil,or_false] at hj
   rcases hj with rfl|rfl
   ·refine ⟨_,rfl,rfl,?_⟩
    refine cC rfl rfl (vS (.slice ya 30 yc) (cD ts) 15 _ (by rw [hld];exact hx2.sub iM) (by decide) (by decide) (by omega) (fun i=>by have:=hcdb i;omega) (by omega)) (fun r L' hp=>?_)
    obtain ⟨dl,v3,v4,C2,rfl,hlo2,hcd2,rfl⟩:=hp
    refine ⟨iC,?_⟩
    refine Xn (js:=[9,10]) (by kernel_rfl) (by simp) (fun j hj=>?_)
    simp only [List.mem_cons,List.not_mem_nil,or_false] at hj
    rcases hj with rfl|rfl
    ·refine ⟨_,rfl,rfl,?_⟩
     have hl286:286≤l.length:=by rw [hlo.len,hla];exact Nat.le_refl _
     have hd30:30≤dl.length:=by rw [hlo2.len,hld];exact Nat.le_refl _
     refine cP rfl rfl (Zz v1 v2 v3 v4 (.slice ta ts.length tc) (.slice xa 286 xc) (.slice ya 30 yc) l dl ts _ (hcd.sub iM) (hcd2.sub iM) (hL.t.sub iM) h.nt hl286 hd30 (hx1.sub iM) (hx2.sub iM)) ?_
     refine ⟨iC,?_⟩
     refine cI 10 rfl rfl ?_
     refine wQ rfl (fun b4=>?_)
     refine ⟨iC,?_⟩
     refine cL 11 rfl rfl rfl ?_
     obtain ⟨a1,e1,rfl,_⟩:=hcd.l.room
     obtain ⟨a2,e2,rfl,_⟩:=hcd.c.room
     obtain ⟨a3,e3,rfl,_⟩:=hcd2.l.room
     obtain ⟨a4,e4,rfl,_⟩:=hcd2.c.room
     refine zo (l:=[.slice none 0 0,.slice none 0 0,.slice none 0 0,.slice none 0 0,.slice none 0 0,.int .i64 0]) (cdV (.slice ta ts.length tc) (.slice a1 l.length e1) (.slice a2 l.length e2) (.slice a3 dl.length e3) (.slice a4 dl.length e4) (itL (coI l dl ts))) rfl rfl rfl rfl rfl iU (by simp [cdV]) ?_
     refine cD ?_
     refine kW ?_
     exact yA (⟨l,dl,_,_,_,_,C1,C2,b4⟩:DyX) ⟨hlo,hlo2,hcd,hcd2⟩ iS (fun w h=>iH h)
    ·refine ⟨_,rfl,rfl,?_⟩
     refine wQ rfl (fun b4=>?_)
     refine ⟨iC,?_⟩
     refine cI 9 rfl rfl ?_
     have hl286:286≤l.length:=by rw [hlo.len,hla];exact Nat.le_refl _
     have hd30:30≤dl.length:=by rw [hlo2.len,hld];exact Nat.le_refl _
     refine cP rfl rfl (Zz v1 v2 v3 v4 (.slice ta ts.length tc) (.slice xa 286 xc) (.slice ya 30 yc) l dl ts _ (hcd.sub iM) (hcd2.sub iM) (hL.t.sub iM) h.nt hl286 hd30 (hx1.sub iM) (hx2.sub iM)) ?_
     refine ⟨iC,?_⟩
     refine cL 11 rfl rfl rfl ?_
     obtain ⟨a1,e1,rfl,_⟩:=hcd.l.room
     obtain ⟨a2,e2,rfl,_⟩:=hcd.c.room
     obtain ⟨a3,e3,rfl,_⟩:=hcd2.l.room
     obtain ⟨a4,e4,rfl,_⟩:=hcd2.c.room
     refine zo (l:=[.slice none 0 0,.slice none 0 0,.slice none 0 0,.slice none 0 0,.slice none 0 0,.int .i64 0]) (cdV (.slice ta ts.length tc) (.slice a1 l.length e1) (.slice a2 l.length e2) (.slice a3 dl.length e3) (.slice a4 dl.length e4) (itL (coI l dl ts))) rfl rfl rfl rfl rfl iU (by simp [cdV]) ?_
     refine cD ?_
     refine kW ?_
     exact yA (⟨l,dl,_,_,_,_,C1,C2,b4⟩:DyX) ⟨hlo,hlo2,hcd,hcd2⟩ iS (fun w h=>iH h)
   ·refine ⟨_,rfl,rfl,?_⟩
    refine wQ rfl (fun b4=>?_)
    refine ⟨iC,?_⟩
    refine cI 5 rfl rfl ?_
    refine cC rfl rfl (vS (.slice ya 30 yc) (cD ts) 15 _ (by rw [hld];exact hx2.sub iM) (by decide) (by decide) (by omega) (fun i=>by have:=hcdb i;omega) (by omega)) (fun r L' hp=>?_)
    obtain ⟨dl,v3,v4,C2,rfl,hlo2,hcd2,rfl⟩:=hp
    refine ⟨iC,?_⟩
    refine cI 9 rfl rfl ?_
    have hl286:286≤l.length:=by rw [hlo.len,hla];exact Nat.le_refl _
    have hd30:30≤dl.length:=by rw [hlo2.len,hld];exact Nat.le_refl _
    refine cP rfl rfl (Zz v1 v2 v3 v4 (.slice ta ts.length tc) (.slice xa 286 xc) (.slice ya 30 yc) l dl ts _ (hcd.sub iM) (hcd2.sub iM) (hL.t.sub iM) h.nt hl286 hd30 (hx1.sub iM) (hx2.sub iM)) ?_
    refine ⟨iC,?_⟩
    refine cL 11 rfl rfl rfl ?_
    obtain ⟨a1,e1,rfl,_⟩:=hcd.l.room
    obtain ⟨a2,e2,rfl,_⟩:=hcd.c.room
    obtain ⟨a3,e3,rfl,_⟩:=hcd2.l.room
    obtain ⟨a4,e4,rfl,_⟩:=hcd2.c.room
    refine zo (l:=[.slice none 0 0,.slice none 0 0,.slice none 0 0,.slice none 0 0,.slice none 0 0,.int .i64 0]) (cdV (.slice ta ts.length tc) (.slice a1 l.length e1) (.slice a2 l.length e2) (.slice a3 dl.length e3) (.slice a4 dl.length e4) (itL (coI l dl ts))) rfl rfl rfl rfl rfl iU (by simp [cdV]) ?_
    refine cD ?_
    refine kW ?_
    exact yA (⟨l,dl,_,_,_,_,C1,C2,b4⟩:DyX) ⟨hlo,hlo2,hcd,hcd2⟩ iS (fun w h=>iH h)
  ·refine ⟨_,rfl,rfl,?_⟩
   refine wQ rfl (fun b4=>?_)
   refine ⟨iC,?_⟩
   refine cI 2 rfl rfl ?_
   refine cC rfl rfl (vS (.slice xa 286 xc) (inc (cA ts) 256) 15 _ (by rw [hla];exact hx1.sub iM) (by decide) (by decide) (by omega) (fun i=>by have:=hca i;omega) (by omega)) (fun r L' hp=>?_)
   obtain ⟨l,v1,v2,C1,rfl,hlo,hcd,rfl⟩:=hp
   refine ⟨iC,?_⟩
   refine cI 5 rfl rfl ?_
   refine cC rfl rfl (vS (.slice ya 30 yc) (cD ts) 15 _ (by rw [hld];exact hx2.sub iM) (by decide) (by decide) (by omega) (fun i=>by have:=hcdb i;omega) (by omega)) (fun r L' hp=>?_)
   obtain ⟨dl,v3,v4,C2,rfl,hlo2,hcd2,rfl⟩:=hp
   refine ⟨iC,?_⟩
   refine cI 9 rfl rfl ?_
   have hl286:286≤l.length:=by rw [hlo.len,hla];exact Nat.le_refl _
   have hd30:30≤dl.length:=by rw [hlo2.len,hld];exact Nat.le_refl _
   refine cP rfl rfl (Zz v1 v2 v3 v4 (.slice ta ts.length tc) (.slice xa 286 xc) (.slice ya 30 yc) l dl ts _ (hcd.sub iM) (hcd2.sub iM) (hL.t.sub iM) h.nt hl286 hd30 (hx1.sub iM) (hx2.sub iM)) ?_
   refine ⟨iC,?_⟩
   refine cL 11 rfl rfl rfl ?_
   obtain ⟨a1,e1,rfl,_⟩:=hcd.l.room
   obtain ⟨a2,e2,rfl,_⟩:=hcd.c.room
   obtain ⟨a3,e3,rfl,_⟩:=hcd2.l.room
   obtain ⟨a4,e4,rfl,_⟩:=hcd2.c.room
   refine zo (l:=[.slice none 0 0,.slice none 0 0,.slice none 0 0,.slice none 0 0,.slice none 0 0,.int .i64 0]) (cdV (.slice ta ts.length tc) (.slice a1 l.length e1) (.slice a2 l.length e2) (.slice a3 dl.length e3) (.slice a4 dl.length e4) (itL (coI l dl ts))) rfl rfl rfl rfl rfl iU (by simp [cdV]) ?_
   refine cD ?_
   refine kW ?_
   exact yA (⟨l,dl,_,_,_,_,C1,C2,b4⟩:DyX) ⟨hlo,hlo2,hcd,hcd2⟩ iS (fun w h=>iH h)
 rintro ⟨l,dl,v1,v2,v3,v4,C1,C2,b4⟩ ⟨hlo,hlo2,hcd,hcd2⟩
 simp only at hlo hlo2 hcd hcd2 ⊢
 have hl286:l.length=286:=by rw [hlo.len,hla]
 have hd30:dl.length=30:=by rw [hlo2.len,hld]
 obtain ⟨a1,e1,rfl,_⟩:=hcd.l.room
 obtain ⟨a2,e2,rfl,_⟩:=hcd.c.room
 obtain ⟨a3,e3,rfl,_⟩:=hcd2.l.room
 obtain ⟨a4,e4,rfl,_⟩:=hcd2.c.room
 generalize hsz:itL (coI l dl ts)=size
 unfold cdV
 refine kW ?_
 refine zk [9] mixed ?_
 (refine za 0 ?_;refine za 1 ?_;refine za 2 ?_;refine za 3 ?_;refine za 4 ?_;refine za 5 ?_;refine za 6 ?_)
 refine cI 7 rfl rfl ?_
 refine cC rfl rfl (zj9 (.slice a1 l.length e1) (.slice a3 dl.length e3) l dl _ (hcd.l.sub iM) (hcd2.l.sub iM) hl286 hd30 hcd.ok.le hcd2.ok.le (by repeat (first|exact hor|apply qP.there))) (fun r L' hp=>?_)
 obtain ⟨own,vo,v5,v6,vr,C3,rfl,hlo3,hhd,rfl⟩:=hp
 refine ⟨iC,?_⟩
 have hfc:CoR ((C3++(C2++C1))::S) (.slice ta ts.length tc) (.slice a1 l.length e1) (.slice a2 l.length e2) (.slice a3 dl.length e3) (.slice a4 dl.length e4) ts l dl:=
  CoR.sub (L:=C3::C2::C1::S) (fun x hx=>by simpa [List.append_assoc] using hx) ⟨h.t.sub iM,hcd.sub iM,hcd2.sub iM,by omega,by omega,h.nt⟩
 have hfh:HdR ((C3++(C2++C1))::S) vo v5 v6 vr (trN l 257 l.length) (trN dl 1 dl.length) ((orN own).take (trN (orN own) 4 19)) own (rnS (hdL l dl)):=
  HdR.sub (L:=C3::C2::C1::S) (fun x hx=>by simpa [List.append_assoc] using hx) (hhd.sub iM)
 have hord:=hhd.ord
 obtain ⟨on,hon⟩:∃on,on=((orN own).take (trN (orN own) 4 19)).length:=⟨_,rfl⟩
 rw [←hon] at hord
 obtain ⟨ao,eo,rfl,_⟩:=hord.room
 obtain ⟨a5,e5,rfl,_⟩:=hhd.c.l.room
 obtain ⟨a6,e6,rfl,_⟩:=hhd.c.c.room
 obtain ⟨ar,er,rfl,_⟩:=hhd.run.room
 unfold hdV
 (refine za 8 ?_)
 refine cL 9 rfl rfl rfl ?_
 refine zo (l:=[.slice none 0 0,.slice none 0 0,.slice none 0 0,.slice none 0 0,.slice none 0 0,.int .i64 0,.int .i64 0,.int .i64 0,.slice none 0 0,.slice none 0 0,.slice none 0 0,.slice none 0 0]) [.slice ta ts.length tc,.slice a1 l.length e1,.slice a2 l.length e2,.slice a3 dl.length e3,.slice a4 dl.length e4,.int .i64 (size:Int),.int .i64 ((trN l 257 l.length:Nat):Int),.int .i64 ((trN dl 1 dl.length:Nat):Int),.slice ao on eo,.slice a5 own.length e5,.slice a6 own.length e6,.slice ar (rnS (hdL l dl)).length er] rfl rfl rfl rfl rfl iU (by simp) ?_
 refine cD ?_
 refine kW ?_
 (first|refine zX (vs:=[.agg ([.slice ta ts.length tc,.slice a1 l.length e1,.slice a2 l.length e2,.slice a3 dl.length e3,.slice a4 dl.length e4,.int .i64 (size:Int),.int .i64 ((trN l 257 l.length:Nat):Int),.int .i64 ((trN dl 1 dl.length:Nat):Int),.slice ao on eo,.slice a5 own.length e5,.slice a6 own.length e6,.slice ar (rnS (hdL l dl)).length er]).toArray]) rfl (.agg ⟨by kernel_rfl,by kernel_rfl⟩ rfl (zK.cl' (vs:=[.slice ta ts.length tc,.slice a1 l.length e1,.slice a2 l.length e2,.slice a3 dl.length e3,.slice a4 dl.length e4,.int .i64 (size:Int),.int .i64 ((trN l 257 l.length:Nat):Int),.int .i64 ((trN dl 1 dl.length:Nat):Int),.slice ao on eo,.slice a5 own.length e5,.slice a6 own.length e6,.slice ar (rnS (hdL l dl)).length er]) (by repeat (first|assumption|exact Fnd.here|refine Fnd.there ?_)) rfl) rfl .nil) ?_|refine yE (vs:=[.agg ([.slice ta ts.length tc,.slice a1 l.length e1,.slice a2 l.length e2,.slice a3 dl.length e3,.slice a4 dl.length e4,.int .i64 (size:Int),.int .i64 ((trN l 257 l.length:Nat):Int),.int .i64 ((trN dl 1 dl.length:Nat):Int),.slice ao on eo,.slice a5 own.length e5,.slice a6 own.length e6,.slice ar (rnS (hdL l dl)).length er]).toArray]) rfl (.agg ⟨by kernel_rfl,by kernel_rfl⟩ rfl (zK.cl' (vs:=[.slice ta ts.length tc,.slice a1 l.length e1,.slice a2 l.length e2,.slice a3 dl.length e3,.slice a4 dl.length e4,.int .i64 (size:Int),.int .i64 ((trN l 257 l.length:Nat):Int),.int .i64 ((trN dl 1 dl.length:Nat):Int),.slice ao on eo,.slice a5 own.length e5,.slice a6 own.length e6,.slice ar (rnS (hdL l dl)).length er]) (by repeat (first|assumption|exact Fnd.here|refine Fnd.there ?_)) rfl) rfl .nil) ?_)
 exact ⟨(C3++(C2++C1))::L,fun w h=>three.2 (iH h),l,dl,own,_,_,_,_,_,_,_,_,_,by rw [hsz];rfl,hlo,hlo2,hlo3,hfc,hfh,rfl⟩
end Go.Proofs.YtfbfcapoobmdpaaGreatDoor
namespace Go.Df
open Go.Vx Go.If Go.Hf
set_option linter.all false
theorem zfj {rs:List (Nat × Nat)} (h:∀r∈rs,r.1 < 19) {r:Nat × Nat} (hr:r∈rs):0 < (cR rs).getD r.1 0:=by
 induction rs using wz with
 |h0=>cases hr
 |h1 a t ih=>
  rw [zaL,wX (by rw [Yp];exact h t (by simp))]
  rcases List.mem_append.1 hr with hr|hr
  ·have:=ih (fun x hx=>h x (by simp [hx])) hr
   omega
  ·rw [List.mem_singleton.1 hr,if_pos rfl];omega
theorem zpa {ts:List (Nat × Nat)} (h:∀t∈ts,Zl t) {t:Nat × Nat} (hr:t∈ts):0 < (cA ts).getD (tsy t) 0:=by
 induction ts using wz with
 |h0=>cases hr
 |h1 a u ih=>
  rw [zaJ,wX (by rw [vv];exact (YR (h u (by simp))).1)]
  rcases List.mem_append.1 hr with hr|hr
  ·have:=ih (fun x hx=>h x (by simp [hx])) hr
   omega
  ·rw [List.mem_singleton.1 hr,if_pos rfl];omega
theorem zpb {ts:List (Nat × Nat)} (h:∀t∈ts,Zl t) {t:Nat × Nat} (hr:t∈ts) (h0:t.2≠0):0 < (cD ts).getD (odN t.2) 0:=by
 induction ts using wz with
 |h0=>cases hr
 |h1 a u ih=>
  rw [zaK]
  rcases List.mem_append.1 hr with hr|hr
  ·have:=ih (fun x hx=>h x (by simp [hx])) hr
   split
   ·exact this
   ·rename_i hu
    have hu2:=h u (by simp)
    have:odN u.2 < 30:=by
     rcases hu2 with ⟨g1,_⟩|⟨g1,g2,_⟩
     ·exact absurd g1 hu
     ·exact Nat.lt_succ_of_le (Zi g1 g2).1
    rw [wX (by rw [Zy];exact this)]
    omega
  ·rw [List.mem_singleton.1 hr] at h0 ⊢
   rw [if_neg h0]
   have hu2:=h u (by simp)
   have:odN u.2 < 30:=by
    rcases hu2 with ⟨g1,_⟩|⟨g1,g2,_⟩
    ·exact absurd g1 h0
    ·exact Nat.lt_succ_of_le (Zi g1 g2).1
   rw [wX (by rw [Zy];exact this),if_pos rfl]
   omega
theorem two_pos:∀{l:List Nat} {i j:Nat},i < j→0 < l.getD i 0→0 < l.getD j 0→2≤(l.filter fun x=>decide (0 < x)).length
 |[],i,j,h,h1,h2=>by simp at h1
 |x::r,0,j+1,h,h1,h2=>by
  have h1:0 < x:=by simpa using h1
  have h2:0 < r.getD j 0:=by simpa using h2
  rw [List.filter_cons_of_pos (by simpa using h1),List.length_cons]
  have:r.getD j 0∈(r.filter fun x=>decide (0 < x)):=by
   refine List.mem_filter.2 ⟨?_,by simpa using h2⟩
   have hj:=Qu h2
   rw [List.getD_eq_getElem?_getD,List.getElem?_eq_getElem hj]
   exact List.getElem_mem hj
  have:=List.length_pos_of_mem this
  omega
 |x::r,i+1,j+1,h,h1,h2=>by
  have:=two_pos (l:=r) (i:=i) (j:=j) (by omega) (by simpa using h1) (by simpa using h2)
  have h3:((x::r).filter fun x=>decide (0 < x)).length≥(r.filter fun x=>decide (0 < x)).length:=by
   rw [List.filter_cons]
   split
   ·rw [List.length_cons];omega
   ·exact Nat.le_refl _
  omega
theorem zgT:∀{l:List Nat},(∀x∈l,x=0)→kS l=0
 |[],_=>rfl
 |x::r,h=>by
  rw [kS,h x List.mem_cons_self,zgT (fun y hy=>h y (List.mem_cons_of_mem _ hy))]
  rfl
theorem drop_zero {l:List Nat} {n:Nat} (h:∀i,n≤i→i < l.length→l.getD i 0=0):∀x∈l.drop n,x=0:=by
 intro x hx
 obtain ⟨i,hi,rfl⟩:=List.getElem_of_mem hx
 rw [List.length_drop] at hi
 have:=h (n+i) (by omega) (by omega)
 rw [List.getElem_drop]
 simpa [List.getD,show n+i < l.length by omega] using this
theorem zc9 {l:List Nat} {n:Nat} (h:∀i,n≤i→i < l.length→l.getD i 0=0):kS (l.take n)=kS l:=by
 have:=zfz (l.take n) (l.drop n)
 rw [List.take_append_drop,zgT (drop_zero h)] at this
 omega
theorem zbs:∀{l:List Nat},(∀x∈l,x=0)→l.sum=0
 |[],_=>rfl
 |x::r,h=>by rw [List.sum_cons,h x List.mem_cons_self,zbs (fun y hy=>h y (List.mem_cons_of_mem _ hy))]
theorem zlM {l:List Nat} {n:Nat} (h:∀i,n≤i→i < l.length→l.getD i 0=0):(l.take n).sum=l.sum:=by
 have:(l.take n++l.drop n).sum=(l.take n).sum+(l.drop n).sum:=List.sum_append
 rw [List.take_append_drop,zbs (drop_zero h)] at this
 omega
theorem zhz:∀{l:List Nat},(∀x∈l,x≤1)→(l.filter fun x=>decide (0 < x)).length≤1→l.sum≤1
 |[],_,_=>by simp
 |x::r,h,h2=>by
  have hx:=h x List.mem_cons_self
  have ih:=zhz (l:=r) (fun y hy=>h y (List.mem_cons_of_mem _ hy))
  rw [List.filter_cons] at h2
  rw [List.sum_cons]
  by_cases h0:0 < x
  ·rw [if_pos (by simpa using h0),List.length_cons] at h2
   have h3:(r.filter fun x=>decide (0 < x))=[]:=List.length_eq_zero_iff.1 (by omega)
   have h4:∀y∈r,y=0:=fun y hy=>by
    rcases Nat.eq_zero_or_pos y with g|g
    ·exact g
    ·have:y∈(r.filter fun x=>decide (0 < x)):=List.mem_filter.2 ⟨hy,by simpa using g⟩
     rw [h3] at this
     cases this
   rw [zbs h4]
   omega
  ·rw [if_neg (by simpa using h0)] at h2
   have:=ih h2
   omega
end Go.Df
namespace Go.Proofs.YtfbfcapoobmdpaaGreatDoor
open Go Go.Vx Go.Hf Go.If Go.Df
variable [W0]
set_option linter.all false
theorem yO.whole {cs lens:List Nat} {M:Nat} (h:yO cs M lens) {i j:Nat} (hij:i≠j) (hi:0 < cs.getD i 0) (hj:0 < cs.getD j 0):kS lens=32768:=by
 refine h.all ?_
 rw [←h.nC]
 rcases Nat.lt_or_ge i j with hl|hl
 ·exact two_pos hl hi hj
 ·exact two_pos (show j < i by omega) hj hi
theorem yO.one {cs lens:List Nat} {M:Nat} (h:yO cs M lens):kS lens=32768∨sgl lens=true:=by
 by_cases h2:2≤(Go.Hf.pos cs cs.length).length
 ·exact .inl (h.all h2)
 ·refine .inr ?_
  rw [uU]
  have hN:=h.nC
  have hle:=h.le
  have hpos:=fun i=>h.pos (i:=i)
  have hlen:=h.len
  obtain ⟨N,g,hg,hcn,hNM,hone,htwo⟩:=h.ex
  have h1:∀x∈lens,x≤1:=fun x hx=>by
   obtain ⟨i,hi,rfl⟩:=List.getElem_of_mem hx
   have e:lens.getD i 0=lens[i]:=by simp [List.getD,hi]
   rcases Nat.eq_zero_or_pos lens[i] with h0|h0
   ·omega
   ·have h3:=(hpos i (by omega)).1 (by omega)
    obtain ⟨r,hr,hri⟩:=hcn.onto i (by omega) h3
    have:=hone (by omega) r hr
    rw [hri] at this
    omega
  have h3:(lens.filter fun x=>decide (0 < x)).length≤1:=by
   rcases Nat.lt_or_ge 1 (lens.filter fun x=>decide (0 < x)).length with hlt|hge
   ·exfalso
    have key:∀(l c:List Nat),l.length=c.length→(∀i,i < c.length→(0 < l.getD i 0↔0 < c.getD i 0))→(l.filter fun x=>decide (0 < x)).length=(c.filter fun x=>decide (0 < x)).length:=by
     intro l
     induction l with
     |nil=>intro c hc _;cases c with
      |nil=>rfl
      |cons y c=>simp at hc
     |cons x l ih=>
      intro c hc hp
      cases c with
      |nil=>simp at hc
      |cons y c=>
       have h0:=hp 0 (by simp)
       simp only [List.getD_cons_zero] at h0
       have:=ih c (by simpa using hc) (fun i hi=>by simpa using hp (i+1) (by simpa using hi))
       rw [List.filter_cons,List.filter_cons]
       by_cases hx:0 < x
       ·rw [if_pos (by simpa using hx),if_pos (by simpa using h0.1 hx),List.length_cons,List.length_cons,this]
       ·rw [if_neg (by simpa using hx),if_neg (by simpa using fun hy=>hx (h0.2 hy)),this]
    have:=key lens cs hlen hpos
    omega
   ·exact hge
  have:=zhz h1 h3
  exact decide_eq_true (by omega)
end Go.Proofs.YtfbfcapoobmdpaaGreatDoor
namespace Go.Df
open Go.Vx Go.If Go.Hf
set_option linter.all false
theorem zbG (s:Nat):∀n,eqN (List.replicate (n+1) s)=n+1:=fun n=>by
 rw [List.replicate_succ,eqN]
 have:((List.replicate n s).takeWhile fun y=>decide (y=s)).length=n:=by
  induction n with
  |zero=>rfl
  |succ n ih=>rw [List.replicate_succ,List.takeWhile_cons_of_pos (by simp),List.length_cons,ih]
 omega
theorem zhQ {s n:Nat} (h0:0 < s) (h15:s≤15) (hn:4≤n):∃r∈rnS (List.replicate n s),r.1=16:=by
 obtain ⟨k,rfl⟩:∃k,n=k+2:=⟨n - 2,by omega⟩
 have e1:sfN s (k+2) false=s:=by unfold sfN;rw [if_neg (by omega),if_neg (by omega),if_neg (by simp)]
 have e2:rpA s=1:=by unfold rpA;rw [if_neg (by omega),if_neg (by omega),if_neg (by omega)]
 have e3:rpB s=0:=by unfold rpB;rw [if_neg (by omega),if_neg (by omega),if_neg (by omega)]
 have e4:smN s (k+2) false=1:=by unfold smN;rw [e1,e2,e3];show min (k+2) (1+1 - 1)=1;omega
 have e5:sfN s (k+1) true=16:=by unfold sfN;rw [if_neg (by omega),if_neg (by omega),if_pos ⟨h0,rfl,by omega⟩]
 have hg:(List.replicate (k+2) s).getD 0 0=s:=by rw [List.replicate_succ];rfl
 refine ⟨(sfN s (k+1) true,smN s (k+1) true - rpA (sfN s (k+1) true)),?_,e5⟩
 unfold rnS
 rw [List.length_replicate,rnF,if_neg (by simp),hg,zbG]
 refine List.mem_append_left _ ?_
 rw [Zn,if_neg (by omega),e4]
 refine List.mem_cons_of_mem _ ?_
 rw [show k+2 - 1=k+1 from by omega,Zn,if_neg (by omega)]
 exact List.mem_cons_self
theorem Qd {s v:Nat}:∀{rs:List (Nat × Nat)} {a:List Nat},(∀r∈rs,zaE r∧r.1=s)→(s≤15∧v=s∨(s=17∨s=18)∧v=0)→(∀x∈a,x=v)→∀x∈rsW (rs.map vL) a,x=v
 |[],a,_,_,ha,x,hx=>ha x hx
 |r::q,a,h,hs,ha,x,hx=>by
  rw [List.map_cons,rsW] at hx
  refine Qd (rs:=q) (fun y hy=>h y (List.mem_cons_of_mem _ hy)) hs ?_ x hx
  obtain ⟨h1,h2⟩:=h r List.mem_cons_self
  intro y hy
  rcases h1.cases with ⟨g1,_,g3,_⟩|⟨g1,_,g3⟩|⟨g1,_,g3⟩|⟨g1,_,g3⟩
  ·rw [g3] at hy
   rcases List.mem_append.1 hy with hy|hy
   ·exact ha y hy
   ·rw [List.mem_singleton.1 hy];omega
  ·omega
  ·rw [g3] at hy
   rcases List.mem_append.1 hy with hy|hy
   ·exact ha y hy
   ·rw [(List.mem_replicate.1 hy).2];omega
  ·rw [g3] at hy
   rcases List.mem_append.1 hy with hy|hy
   ·exact ha y hy
   ·rw [(List.mem_replicate.1 hy).2];omega
theorem zl3 {l:List Nat} (h15:∀x∈l,x≤15) (hl:258≤l.length) (hc:0 < l.getD 256 0):∃r∈rnS l,∃q∈rnS l,r.1≠q.1:=by
 obtain ⟨w1,w2,w3⟩:=zlf h15
 cases hr:rnS l with
 |nil=>
  rw [hr] at w2
  have:l=[]:=w2.symm
  rw [this] at hl
  simp at hl
 |cons r0 q0=>
  by_cases hall:∀r∈rnS l,r.1=r0.1
  ·exfalso
   have hr0:r0∈rnS l:=by rw [hr];exact List.mem_cons_self
   have h256:l.getD 256 0∈l:=by
    rw [List.getD_eq_getElem?_getD,List.getElem?_eq_getElem (show 256 < l.length by omega)]
    exact List.getElem_mem _
   rcases (w1 r0 hr0).cases with ⟨g1,_,g3,_⟩|⟨g1,_,g3⟩|⟨g1,_,g3⟩|⟨g1,_,g3⟩
   ·have hsame:=Qd (v:=r0.1) (a:=[]) (fun r hr=>⟨w1 r hr,hall r hr⟩) (.inl ⟨g1,rfl⟩) (fun x hx=>by cases hx)
    rw [w2] at hsame
    have hrep:l=List.replicate l.length r0.1:=List.eq_replicate_iff.2 ⟨rfl,hsame⟩
    have hpos:0 < r0.1:=by rw [←hsame _ h256];exact hc
    obtain ⟨r,hr1,hr2⟩:=zhQ (n:=l.length) hpos g1 (by omega)
    rw [←hrep] at hr1
    have:=hall r hr1
    omega
   ·have hok:=w3 (List.replicate 19 1) (fun r hr=>by
     have:=(w1 r hr).1
     rw [List.getD_eq_getElem?_getD,List.getElem?_replicate,if_pos (by omega)]
     exact Nat.one_pos)
    rw [hr,List.map_cons,g3] at hok
    exact absurd hok.1.1 (Nat.lt_irrefl _)
   ·have hsame:=Qd (v:=0) (a:=[]) (fun r hr=>⟨w1 r hr,hall r hr⟩) (.inr ⟨.inl g1,rfl⟩) (fun x hx=>by cases hx)
    rw [w2] at hsame
    have:=hsame _ h256
    omega
   ·have hsame:=Qd (v:=0) (a:=[]) (fun r hr=>⟨w1 r hr,hall r hr⟩) (.inr ⟨.inr g1,rfl⟩) (fun x hx=>by cases hx)
    rw [w2] at hsame
    have:=hsame _ h256
    omega
  ·rw [←hr]
   have:∃r,r∈rnS l∧r.1≠r0.1:=by
    apply Classical.byContradiction
    intro hno
    exact hall fun r hr=>Classical.byContradiction fun hne=>hno ⟨r,hr,hne⟩
   obtain ⟨r,h1,h2⟩:=this
   exact ⟨r,h1,r0,by rw [hr];exact List.mem_cons_self,h2⟩
theorem Y1 {l:List Nat} {n:Nat} (h:∀i,n≤i→i < l.length→l.getD i 0=0) (i:Nat):(l.take n).getD i 0=l.getD i 0:=by
 rcases Nat.lt_or_ge i n with hi|hi
 ·simp only [List.getD_eq_getElem?_getD,List.getElem?_take,if_pos hi]
 ·have e1:(l.take n).getD i 0=0:=by simp only [List.getD_eq_getElem?_getD,List.getElem?_take,if_neg (show ¬i < n by omega)];rfl
  rw [e1]
  rcases Nat.lt_or_ge i l.length with h2|h2
  ·exact (h i hi h2).symm
  ·simp [List.getD,List.getElem?_eq_none h2]
theorem zmP {l:List Nat} {n k:Nat} (h:∀i,n≤i→i < l.length→l.getD i 0=0) (hk:0 < k):cn (l.take n) k=cn l k:=by
 have:=Yr (l.take n) (l.drop n) k
 rw [List.take_append_drop] at this
 have h0:cn (l.drop n) k=0:=by
  unfold cn
  have hz:=drop_zero h
  have:(l.drop n).filter (fun x=>x == k)=[]:=List.filter_eq_nil_iff.2 fun x hx=>by
   rw [hz x hx];simp;omega
  rw [this];rfl
 omega
theorem zgK {l:List Nat} {n:Nat} (h:∀i,n≤i→i < l.length→l.getD i 0=0):∀k,fs (l.take n) k=fs l k
 |0=>rfl
 |k+1=>by
  rw [fs,fs,zgK h k]
  by_cases hk:k=0
  ·rw [if_pos hk,if_pos hk]
  ·rw [if_neg hk,if_neg hk,zmP h (by omega)]
theorem zht [W0] {l:List Nat} {n:Nat} (h:∀i,n≤i→i < l.length→l.getD i 0=0):sc (l.take n)=sc l:=by
 funext i
 unfold sc
 rw [Y1 h]
 have:cd (l.take n) i=cd l i:=by
  unfold cd
  rw [Y1 h]
  by_cases h0:l.getD i 0=0
  ·rw [if_pos h0,if_pos h0]
  ·rw [if_neg h0,if_neg h0,zgK h]
   have hi:i < n:=by
    rcases Nat.lt_or_ge i n with g|g
    ·exact g
    ·exact absurd (h i g (Qu (Nat.pos_of_ne_zero h0))) h0
   rw [List.take_take,Nat.min_eq_left (Nat.le_of_lt hi)]
 rw [this]
theorem zcs [W0] {l l' dl dl':List Nat} (h1:sc l'=sc l) (h2:sc dl'=sc dl):∀ts,tsI l' dl' ts=tsI l dl ts
 |[]=>rfl
 |k::r=>by
  rw [tsI,tsI,zcs h1 h2 r]
  have:tkI l' dl' k=tkI l dl k:=by cases k<;>simp only [tkI,h1,h2]
  rw [this]
def zfJ (P:Program) (t:Nat) (name:String):Option FuncId:=match P.info? t with
 |some i=>match i.methods.find? (·.name == name) with
  |some m=>match m.path.toList,m.func,P.underlying t with
   |[],some (f,false),some (.struct _)=>some f
   |_,_,_=>none
  |none=>none
 |none=>none
theorem zep {P:Program} {t:Nat} {name:String} {f:FuncId} (h:zfJ P t name=some f) (fuel:Nat) (v:Value) [W0] (w:World):(method (fuel+1) t v name).run P w=.ok (f,v) w:=by
 unfold zfJ at h
 split at h
 ·rename_i i hi
  split at h
  ·rename_i m hm
   split at h
   ·rename_i f' e h1 h2 h3
    simp at h
    subst h
    unfold method
    simp [typeInfo,hi,hm,h1,follow,h2,receiverAt,run_underlying h3,Place.get]
   ·simp at h
  ·simp at h
 ·simp at h
section
variable [W0]
variable {P : Program} {n : Nat} {M : List (Nat × Value)} {L : List Chunk} {K : List (Nat × Value) → List Chunk → Prop}
variable {d : Nat} {ty : TypeId} {ps : String} {af : Array Edge} {g : Option (Nat × Bool)} {x : Operand} {v : Value}
theorem ZQ {t:Nat} {f:FuncId} {name:String} (hm:zfJ P t name=some f) [hb:BD P f] {xs:List Operand} {ats:Array TypeId} {vs:List Value} {post:Value→List Chunk→Prop}
 (hx:ev M x=some (.iface t v)) (hvs:evs M xs=some vs) (hspec:Gv P f (v::vs).toArray L post)
 (hn:Nat.blt d n=true) (h:∀v L',post v L'→K ((d,v)::M) L'):OW P n ⟨some d,.call ⟨.invoke x name,xs.toArray,ats⟩,ty,ps,af,g⟩ K M L:=⟨fun a w next Q ha hw hk=>by
 have hrun:(execOp a.eval ⟨some d,.call ⟨.invoke x name,xs.toArray,ats⟩,ty,ps,af,g⟩).run P w=.ok (.enter f (v::vs).toArray) w:=by
  have e1:Array.map a.eval xs.toArray=vs.toArray:=by rw [←ha.evals hvs];simp
  have e2:(#[Value.iface t v]++vs.toArray)[0]? =some (.iface t v):=by simp
  have e3:(#[Value.iface t v]++vs.toArray).extract 1 (#[Value.iface t v]++vs.toArray).size=vs.toArray:=by
   apply Array.ext';simp
  have e4:#[v]++vs.toArray=(v::vs).toArray:=by apply Array.ext';simp
  have hfuel:P.types.size+Made.depth=(P.types.size+Made.depth - 1)+1:=by
   have:0 < Made.depth:=by decide
   omega
  have hmr:=zep hm (P.types.size+Made.depth - 1) v w
  rw [←hfuel] at hmr
  simp only [execOp,resolve,ha.eval hx,e1,Sem.run_bind,Sem.run_pure,Result.andThen_ok,invoke,e2,e3,callMethod,run_program,hmr,e4,ZT hb.out]
 unfold Oper.wp
 rw [hrun,Oper.upon_enter]
 refine (hspec.out w hw).mono fun e w' he=>?_
 obtain ⟨v,L',rfl,hp,hw'⟩:=he
 exact (hk _ _ (h v L' hp)).out _ _ (ha.put v hn) hw'⟩
end
def enB [W0] (n:Nat) (B:Blk):Nat:=n+1+itL (blI (n+1) B)
def szB [W0] (n:Nat) (bs:List Blk):Nat:=bs.foldl enB n
end Go.Df
namespace Go.Proofs.YtfbfcapoobmdpaaGreatDoor
open Go Go.Vx Go.Hf Go.If Go.Df
variable [W0]
set_option maxRecDepth 4000
set_option linter.all false
omit [W0] in
def zm4:Blk→Nat
 |.st _=>324
 |.fx _=>323
 |.dn .. =>326
omit [W0] in
def zfp:Blk→Nat
 |.st _=>220
 |.fx _=>186
 |.dn .. =>228
theorem zpK:zfJ Tryz.prog 220 "stemma/deflate.end"=some 324:=by kernel_rfl
theorem zpJ:zfJ Tryz.prog 186 "stemma/deflate.end"=some 323:=by kernel_rfl
theorem zpI:zfJ Tryz.prog 228 "stemma/deflate.end"=some 326:=by kernel_rfl
theorem zg9 (B:Blk):zfJ Tryz.prog (zfp B) "stemma/deflate.end"=some (zm4 B):=by
 cases B with
 |st t=>exact zpK
 |fx ts=>exact zpJ
 |dn ts l dl n1 n2 o own rs=>exact zpI
instance (B:Blk):BD Tryz.prog (zm4 B):=by
 cases B with
 |st t=>exact (inferInstance:BD Tryz.prog 324)
 |fx ts=>exact (inferInstance:BD Tryz.prog 323)
 |dn ts l dl n1 n2 o own rs=>exact (inferInstance:BD Tryz.prog 326)
theorem zaI (v:Value) (B:Blk) (n:Nat) (L:List Chunk) (h:Zv L v B) (hn:n≤1000000000000):∃a,v=.iface (zfp B) a∧GvP Tryz.prog (zm4 B) [a,.int .i64 (n:Int)].toArray L (.int .i64 ((enB n B:Nat):Int)):=by
 have hle:=h.le (n+1)
 unfold enB
 cases B with
 |st t=>
  obtain ⟨vt,rfl,hrs,ht⟩:=h
  obtain ⟨ta,tc,rfl,_⟩:=hrs.room
  refine ⟨_,rfl,?_⟩
  have hsz:n+1+itL (blI (n+1) (.st t))=8 * ((n+10) / 8+t.length)+32:=by
   simp only [blI]
   rw [zw,zbi]
   simp only [itL]
   omega
  rw [hsz]
  show GvP Tryz.prog 324 _ _ _
  refine Gv.of_body (args:=[.agg #[.slice ta t.length tc],.int .i64 (n:Int)]) Tryz.func324 rfl rfl ?_
  (refine kW ?_;refine kU fun bk=>?_;refine kW ?_)
  refine ze (uN (n+10) 8 rfl rfl (by omega) rfl (by decide) (by omega)) rfl ?_
  refine kW ?_
  rw [show (8:Int) * (((n+10) / 8:Nat)+(t.length:Int))+32=((8 * ((n+10) / 8+t.length)+32:Nat):Int) from by omega]
  refine kR ?_
  exact ⟨_,iC,rfl,rfl⟩
 |fx ts=>
  obtain ⟨vt,v1,v2,v3,v4,rfl,hco⟩:=h
  refine ⟨_,rfl,?_⟩
  have hsz:n+1+itL (blI (n+1) (.fx ts))=n+3+itL (coI fxL fxD ts):=by
   simp only [blI,itL,coI]
   omega
  rw [hsz]
  have hle2:itL (coI fxL fxD ts)≤10000000:=by simp only [blI,itL] at hle;unfold coI;omega
  generalize itL (coI fxL fxD ts)=size at *
  unfold cdV
  show GvP Tryz.prog 323 _ _ _
  refine Gv.of_body (args:=[.agg #[vt,v1,v2,v3,v4,.int .i64 (size:Int)],.int .i64 (n:Int)]) Tryz.func323 rfl rfl ?_
  (refine kW ?_;refine kU fun bk=>?_;refine kW ?_)
  rw [show (n:Int)+3+(size:Int)=((n+3+size:Nat):Int) from by omega]
  refine kR ?_
  exact ⟨_,iC,rfl,rfl⟩
 |dn ts l dl n1 n2 o own rs=>
  obtain ⟨vt,v1,v2,v3,v4,vo,v5,v6,vr,rfl,hco,hhd⟩:=h
  refine ⟨_,rfl,?_⟩
  have hsz:n+1+itL (blI (n+1) (.dn ts l dl n1 n2 o own rs))=n+3+itL (hwI n1 n2 o own rs)+itL (coI l dl ts):=by
   simp only [blI,itL,coI]
   rw [zw]
   omega
  rw [hsz]
  have hle2:itL (hwI n1 n2 o own rs)+itL (coI l dl ts)≤10000000:=by simp only [blI,itL] at hle;rw [zw] at hle;unfold coI;omega
  have hds:=fun B=>zj8 vo v5 v6 vr n1 n2 o own rs (B::L) (hhd.sub yh)
  generalize itL (coI l dl ts)=size at *
  generalize itL (hwI n1 n2 o own rs)=hs at *
  unfold cdV hdV at *
  show GvP Tryz.prog 326 _ _ _
  refine Gv.of_body (args:=[.agg #[vt,v1,v2,v3,v4,.int .i64 (size:Int),.int .i64 (n1:Int),.int .i64 (n2:Int),vo,v5,v6,vr],.int .i64 (n:Int)]) Tryz.func326 rfl rfl ?_
  (refine kW ?_;refine kU fun bk=>?_;refine kW ?_)
  refine zk [10] mixed ?_
  (refine za 0 ?_;refine za 1 ?_;refine za 2 ?_;refine za 3 ?_;refine za 6 ?_;refine za 7 ?_;refine za 8 ?_)
  refine cI 4 rfl rfl ?_
  refine cP rfl rfl (hds _) ?_
  refine ⟨iC,?_⟩
  (refine za 5 ?_;refine za 9 ?_)
  refine cL 10 rfl rfl rfl ?_
  refine ze (yP rfl) rfl ?_
  refine cD ?_
  refine kW ?_
  rw [show (n:Int)+3+(hs:Int)+(size:Int)=((n+3+hs+size:Nat):Int) from by omega]
  refine kR ?_
  exact ⟨_,iC,rfl,rfl⟩
end Go.Proofs.YtfbfcapoobmdpaaGreatDoor
namespace Go.Df
open Go.Vx Go.If Go.Hf
set_option linter.all false
theorem Qf [W0] (n:Nat) (x:List Blk) (B:Blk):szB n (x++[B])=enB (szB n x) B:=by simp [szB,List.foldl_append]
end Go.Df
namespace Go.Proofs.YtfbfcapoobmdpaaGreatDoor
open Go Go.Vx Go.Hf Go.If Go.Df
variable [W0]
set_option maxRecDepth 4000
set_option linter.all false
theorem zgP (x:Int) (L:List Chunk):GvP Tryz.prog 207 [.int .i64 x].toArray L (.bool false):=by
 refine Gv.of_body (args:=[.int .i64 x]) Tryz.func207 rfl rfl ?_
 refine kW ?_
 rw [show (x != x)=false from by simp]
 refine kR ?_
 exact ⟨_,iC,rfl,rfl⟩
theorem zd3 (x y:Nat) (L:List Chunk):Gv Tryz.prog 162 [.int .i64 (x:Int),.int .i64 (y:Int)].toArray L (fun r L'=>∃c:Int,r=.int .i64 c∧(c < 0↔x < y)∧L'=L):=by
 refine Gv.of_body (args:=[.int .i64 (x:Int),.int .i64 (y:Int)]) Tryz.func162 rfl rfl ?_
 refine kW ?_
 refine cP rfl rfl (zgP _ _) ?_
 refine kW ?_
 refine cP rfl rfl (zgP _ _) ?_
 (repeat' first|refine kW ?_|refine kU fun bk=>?_|refine kV fun hc=>?_|refine kZ (fun hc=>?_) fun hc=>?_|fail)
 ·refine kR ?_
  exact ⟨_,iC,_,rfl,by omega,rfl⟩
 ·refine kR ?_
  exact ⟨_,iC,_,rfl,by omega,rfl⟩
 ·refine kR ?_
  exact ⟨_,iC,_,rfl,by omega,rfl⟩
theorem zlT {L:List Chunk} {v:Value} {bs:List Blk} (h:Qi L v bs) (j:Nat) (hj:j≤bs.length):szB 0 (bs.take j)≤10000001 * j:=by
 obtain ⟨vs,_,_,h3⟩:=h.ex
 induction j with
 |zero=>simp [szB]
 |succ j ih=>
  have hjl:j < bs.length:=hj
  obtain ⟨B,hB⟩:∃B,bs[j]? =some B:=⟨bs[j],List.getElem?_eq_getElem hjl⟩
  obtain ⟨u,_,hu⟩:=h3 j B hB
  have h4:=hu.le (szB 0 (bs.take j)+1)
  have h5:=ih (by omega)
  rw [qd hB,Qf]
  unfold enB
  omega
theorem zlC (v:Value) (bs:List Blk) (L:List Chunk) (hK:Qi L v bs) (hn:bs.length≤90000) :
 GvP Tryz.prog 163 [v].toArray L (.int .i64 ((szB 0 bs:Nat):Int)):=by
 refine Gv.of_body (args:=[v]) Tryz.func163 rfl rfl ?_
 obtain ⟨vs,hrs,hon,hbl⟩:=hK.ex
 obtain ⟨va,vc,rfl,_⟩:=hrs.room
 refine kW ?_
 refine zn (X:=Nat) (fun x=>[(3,.int .i64 ((szB 0 (bs.take x):Nat):Int)),(6,.slice va bs.length vc),(7,.int .i64 (bs.length:Int)),(8,.int .i64 (x:Int))]) (fun _=>L) (fun x=>x≤bs.length) (fun x=>bs.length - x) 0 (Nat.zero_le _) iS (fun w h=>iH h) ?_
 intro j hj9
 have hj:j≤bs.length:=hj9
 have hsz:=zlT hK j hj
 (repeat' first|refine kW ?_|refine kU fun bk=>?_|refine kV fun hc=>?_|refine kZ (fun hc=>?_) fun hc=>?_|fail)
 ·have hjl:j < bs.length:=by omega
  obtain ⟨B,hB⟩:∃B,bs[j]? =some B:=⟨bs[j],List.getElem?_eq_getElem hjl⟩
  obtain ⟨u,hu,hbu⟩:=hbl j B hB
  obtain ⟨b1,o1,c1,cc1,T1,f1,hv9,hf1,hv1⟩:=yV hrs.sl hu
  injection hv9 with q1 q2 q3
  subst q1 q3
  clear q2
  refine ze (zi (j:=j) rfl rfl rfl (by omega)) rfl ?_
  refine kW ?_
  refine ze (zq rfl hf1 hv1) rfl ?_
  refine kW ?_
  obtain ⟨a,rfl,hen⟩:=zaI u B (szB 0 (bs.take j)) L hbu (by omega)
  refine ZQ (zg9 B) rfl rfl hen rfl (fun r L' hp=>?_)
  obtain ⟨rfl,rfl⟩:=hp
  rw [←Qf,←qd hB]
  refine kW ?_
  refine zf (X:=Nat) (μ:=fun x=>bs.length - x) (x:=j) (j+1) (by omega) (by show j+1≤bs.length;omega) iS (fun w h=>iH h)
 ·obtain rfl:j=bs.length:=by omega
  rw [List.take_length]
  refine kR ?_
  exact ⟨_,iC,rfl,rfl⟩
theorem zfF (v:Value) (us:List Value) (m:Nat→Nat) (fc:FuncId) [BD Tryz.prog fc] (cap:Array Value) (L:List Chunk) (hK:Rs L 1 v us.length us) (h0:0 < us.length) (hl:us.length≤1000000)
 (hc9:∀(i j:Nat) (a b:Value),us[i]? =some a→us[j]? =some b→Gv Tryz.prog fc (#[]++[a,b].toArray++cap) L (fun r L'=>∃c:Int,r=.int .i64 c∧(c < 0↔m i < m j)∧L'=L)) :
 Gv Tryz.prog 160 [v,.func (.func fc) #[] cap].toArray L (fun r L'=>∃i,us[i]? =some r∧(∀j,j < us.length→m i≤m j)∧L'=L):=by
 refine Gv.of_body (args:=[v,.func (.func fc) #[] cap]) Tryz.func160 rfl rfl ?_
 obtain ⟨va,vc,rfl,_⟩:=hK.room
 have hld:∀(j:Nat) (u:Value),us[j]? =some u→∃b1 o1 c1 T1 f1,va=some ⟨b1,o1,none⟩∧Fnd L b1 (.cells c1 T1 f1)∧c1[o1+j * 1]? =some u:=fun j u hu=>by
  obtain ⟨b1,o1,c1,cc1,T1,f1,hv9,hf1,hv1⟩:=yV hK.sl hu
  injection hv9 with q1 q2 q3
  exact ⟨b1,o1,cc1,T1,f1,q1,hf1,hv1⟩
 obtain ⟨u0,hu0⟩:∃u,us[0]? =some u:=⟨us[0],List.getElem?_eq_getElem h0⟩
 obtain ⟨b0,o0,c0,T0,f0,rfl,hf0,hv0⟩:=hld 0 u0 hu0
 (refine kW ?_;refine kV fun hc=>?_;refine kW ?_)
 refine ze (zi (j:=0) rfl rfl rfl (by omega)) rfl ?_
 refine kW ?_
 refine ze (zq rfl hf0 hv0) rfl ?_
 refine kW ?_
 refine zn (X:=Nat × Nat × Value) (fun x=>[(0,.slice (some ⟨b0,o0,none⟩) us.length vc),(1,.func (.func fc) #[] cap),(5,x.2.2),(6,.int .i64 (x.1:Int))]) (fun _=>L) (fun x=>x.1≤us.length∧us[x.2.1]? =some x.2.2∧∀j,j < x.1→m x.2.1≤m j) (fun x=>us.length - x.1) (1,0,u0) ⟨by simp only;omega,hu0,fun j hj=>by simp only at hj ⊢;rw [show j=0 from by omega];exact Nat.le_refl _⟩ iS (fun w h=>iH h) ?_
 rintro ⟨j,i,u⟩ ⟨hj,hi,hle⟩
 simp only at hj hi hle ⊢
 (repeat' first|refine kW ?_|refine kU fun bk=>?_|refine kV fun hc=>?_|refine kZ (fun hc=>?_) fun hc=>?_|fail)
 ·obtain ⟨u2,hu2⟩:∃u,us[j]? =some u:=⟨us[j]'(by omega),List.getElem?_eq_getElem (by omega)⟩
  obtain ⟨b1,o1,c1,T1,f1,hq,hf1,hv1⟩:=hld j u2 hu2
  injection hq with hq
  injection hq with q1 q2
  subst q1 q2
  refine ze (zi (j:=j) rfl rfl rfl (by omega)) rfl ?_
  refine kW ?_
  refine ze (zq rfl hf1 hv1) rfl ?_
  refine kW ?_
  refine cC rfl rfl (hc9 j i u2 u hu2 hi) (fun r L' hp=>?_)
  obtain ⟨c,rfl,hc8,rfl⟩:=hp
  (repeat' first|refine kW ?_|refine kU fun bk=>?_|refine kV fun hc=>?_|refine kZ (fun hc=>?_) fun hc=>?_|fail)
  ·have hlt:m j < m i:=hc8.1 (by omega)
   refine ze (zi (j:=j) rfl rfl rfl (by omega)) rfl ?_
   refine kW ?_
   refine ze (zq rfl hf1 hv1) rfl ?_
   refine kW ?_
   refine zf (X:=Nat × Nat × Value) (μ:=fun x=>us.length - x.1) (x:=(j,i,u)) (j+1,j,u2) (by simp only;omega) ⟨by simp only;omega,hu2,fun k hk=>by
    simp only at hk ⊢
    rcases Nat.lt_or_ge k j with h|h
    ·exact Nat.le_trans (Nat.le_of_lt hlt) (hle k h)
    ·rw [show k=j from by omega];exact Nat.le_refl _⟩ iS (fun w h=>iH h)
  ·have hge:m i≤m j:=by
    rcases Nat.lt_or_ge (m j) (m i) with h|h
    ·have:=hc8.2 h;omega
    ·exact h
   refine zf (X:=Nat × Nat × Value) (μ:=fun x=>us.length - x.1) (x:=(j,i,u)) (j+1,i,u) (by simp only;omega) ⟨by simp only;omega,hi,fun k hk=>by
    simp only at hk ⊢
    rcases Nat.lt_or_ge k j with h|h
    ·exact hle k h
    ·rw [show k=j from by omega];exact hge⟩ iS (fun w h=>iH h)
 ·refine kR ?_
  exact ⟨_,iC,i,hi,fun k hk=>hle k (by omega),rfl⟩
theorem zeq (v:Value) (us:List Value) (m:Nat→Nat) (fc:FuncId) [BD Tryz.prog fc] (cap:Array Value) (L:List Chunk) (hK:Rs L 1 v us.length us) (h0:0 < us.length) (hl:us.length≤1000000)
 (hc9:∀(i j:Nat) (a b:Value),us[i]? =some a→us[j]? =some b→Gv Tryz.prog fc (#[]++[a,b].toArray++cap) L (fun r L'=>∃c:Int,r=.int .i64 c∧(c < 0↔m i < m j)∧L'=L)) :
 Gv Tryz.prog 165 [v,.func (.func fc) #[] cap].toArray L (fun r L'=>∃i,us[i]? =some r∧(∀j,j < us.length→m i≤m j)∧L'=L):=by
 refine Gv.of_body (args:=[v,.func (.func fc) #[] cap]) Tryz.func165 rfl rfl ?_
 obtain ⟨va,vc,rfl,_⟩:=hK.room
 have hld:∀(j:Nat) (u:Value),us[j]? =some u→∃b1 o1 c1 T1 f1,va=some ⟨b1,o1,none⟩∧Fnd L b1 (.cells c1 T1 f1)∧c1[o1+j * 1]? =some u:=fun j u hu=>by
  obtain ⟨b1,o1,c1,cc1,T1,f1,hv9,hf1,hv1⟩:=yV hK.sl hu
  injection hv9 with q1 q2 q3
  exact ⟨b1,o1,cc1,T1,f1,q1,hf1,hv1⟩
 obtain ⟨u0,hu0⟩:∃u,us[0]? =some u:=⟨us[0],List.getElem?_eq_getElem h0⟩
 obtain ⟨b0,o0,c0,T0,f0,rfl,hf0,hv0⟩:=hld 0 u0 hu0
 (refine kW ?_;refine kV fun hc=>?_;refine kW ?_)
 refine ze (zi (j:=0) rfl rfl rfl (by omega)) rfl ?_
 refine kW ?_
 refine ze (zq rfl hf0 hv0) rfl ?_
 refine kW ?_
 refine zn (X:=Nat × Nat × Value) (fun x=>[(0,.slice (some ⟨b0,o0,none⟩) us.length vc),(1,.func (.func fc) #[] cap),(5,x.2.2),(6,.int .i64 (x.1:Int))]) (fun _=>L) (fun x=>x.1≤us.length∧us[x.2.1]? =some x.2.2∧∀j,j < x.1→m x.2.1≤m j) (fun x=>us.length - x.1) (1,0,u0) ⟨by simp only;omega,hu0,fun j hj=>by simp only at hj ⊢;rw [show j=0 from by omega];exact Nat.le_refl _⟩ iS (fun w h=>iH h) ?_
 rintro ⟨j,i,u⟩ ⟨hj,hi,hle⟩
 simp only at hj hi hle ⊢
 (repeat' first|refine kW ?_|refine kU fun bk=>?_|refine kV fun hc=>?_|refine kZ (fun hc=>?_) fun hc=>?_|fail)
 ·obtain ⟨u2,hu2⟩:∃u,us[j]? =some u:=⟨us[j]'(by omega),List.getElem?_eq_getElem (by omega)⟩
  obtain ⟨b1,o1,c1,T1,f1,hq,hf1,hv1⟩:=hld j u2 hu2
  injection hq with hq
  injection hq with q1 q2
  subst q1 q2
  refine ze (zi (j:=j) rfl rfl rfl (by omega)) rfl ?_
  refine kW ?_
  refine ze (zq rfl hf1 hv1) rfl ?_
  refine kW ?_
  refine cC rfl rfl (hc9 j i u2 u hu2 hi) (fun r L' hp=>?_)
  obtain ⟨c,rfl,hc8,rfl⟩:=hp
  (repeat' first|refine kW ?_|refine kU fun bk=>?_|refine kV fun hc=>?_|refine kZ (fun hc=>?_) fun hc=>?_|fail)
  ·have hlt:m j < m i:=hc8.1 (by omega)
   refine ze (zi (j:=j) rfl rfl rfl (by omega)) rfl ?_
   refine kW ?_
   refine ze (zq rfl hf1 hv1) rfl ?_
   refine kW ?_
   refine zf (X:=Nat × Nat × Value) (μ:=fun x=>us.length - x.1) (x:=(j,i,u)) (j+1,j,u2) (by simp only;omega) ⟨by simp only;omega,hu2,fun k hk=>by
    simp only at hk ⊢
    rcases Nat.lt_or_ge k j with h|h
    ·exact Nat.le_trans (Nat.le_of_lt hlt) (hle k h)
    ·rw [show k=j from by omega];exact Nat.le_refl _⟩ iS (fun w h=>iH h)
  ·have hge:m i≤m j:=by
    rcases Nat.lt_or_ge (m j) (m i) with h|h
    ·have:=hc8.2 h;omega
    ·exact h
   refine zf (X:=Nat × Nat × Value) (μ:=fun x=>us.length - x.1) (x:=(j,i,u)) (j+1,i,u) (by simp only;omega) ⟨by simp only;omega,hi,fun k hk=>by
    simp only at hk ⊢
    rcases Nat.lt_or_ge k j with h|h
    ·exact hle k h
    ·rw [show k=j from by omega];exact hge⟩ iS (fun w h=>iH h)
 ·refine kR ?_
  exact ⟨_,iC,i,hi,fun k hk=>hle k (by omega),rfl⟩
theorem znZ (x y:Value) (bs cs:List Blk) (L:List Chunk) (hx:Qi L x bs) (hy:Qi L y cs) (hn:bs.length≤90000) (hm:cs.length≤90000) :
 Gv Tryz.prog 161 [x,y].toArray L (fun r L'=>∃c:Int,r=.int .i64 c∧(c < 0↔szB 0 bs < szB 0 cs)∧L'=L):=by
 refine Gv.of_body (args:=[x,y]) Tryz.func161 rfl rfl ?_
 refine kW ?_
 refine cP rfl rfl (zlC x bs L hx hn) ?_
 refine kW ?_
 refine cP rfl rfl (zlC y cs L hy hm) ?_
 refine kW ?_
 refine cC rfl rfl (zd3 _ _ L) (fun r L' hp=>?_)
 obtain ⟨c,rfl,hc8,rfl⟩:=hp
 refine kW ?_
 refine kR ?_
 exact ⟨_,iC,c,rfl,hc8,rfl⟩
theorem zf8 (v:Value) (us:List Value) (bl:List (List Blk)) (L:List Chunk) (hK:Rs L 1 v us.length us) (h0:0 < us.length) (hl:us.length≤1000000) (hbl:bl.length=us.length)
 (hb:∀(i:Nat) (u:Value),us[i]? =some u→Qi L u (bl.getD i [])∧(bl.getD i []).length≤90000) :
 Gv Tryz.prog 120 [v].toArray L (fun r L'=>∃i,us[i]? =some r∧(∀j,j < us.length→szB 0 (bl.getD i [])≤szB 0 (bl.getD j []))∧L'=L):=by
 refine Gv.of_body (args:=[v]) Tryz.func120 rfl rfl ?_
 refine kW ?_
 refine cC rfl rfl (zfF v us (fun i=>szB 0 (bl.getD i [])) 161 #[] L hK h0 hl (fun i j a b hi hj=>znZ a b _ _ L (hb i a hi).1 (hb j b hj).1 (hb i a hi).2 (hb j b hj).2)) (fun r L' hp=>?_)
 obtain ⟨i,hi,hle,rfl⟩:=hp
 refine kW ?_
 refine kR ?_
 exact ⟨_,iC,i,hi,hle,rfl⟩
def ChO (b:List UInt8) (ts:List (Nat × Nat)):Blk→Prop
 |.st t=>t=b
 |.fx k=>k=ts
 |.dn k l dl n1 n2 o own rs=>k=ts∧ts≠[]∧yO (inc (cA ts) 256) 15 l∧yO (cD ts) 15 dl∧yO (cR (rnS (hdL l dl))) 7 own∧n1=trN l 257 l.length∧n2=trN dl 1 dl.length∧o=(orN own).take (trN (orN own) 4 19)∧rs=rnS (hdL l dl)
theorem zpo (u1 u2:Value) (B1 B2:Blk) (n bk:Nat) (L:List Chunk) (h1:Zv L u1 B1) (h2:Zv L u2 B2) (hf:Fnd L bk (cl [.int .i64 (n:Int)] 3)) (hn:n≤1000000000000) :
 Gv Tryz.prog 167 [u1,u2,.pointer (some ⟨bk,0,none⟩)].toArray L (fun r L'=>∃c:Int,r=.int .i64 c∧(c < 0↔enB n B1 < enB n B2)∧L'=L):=by
 refine Gv.of_body (args:=[u1,u2,.pointer (some ⟨bk,0,none⟩)]) Tryz.func167 rfl rfl ?_
 obtain ⟨a1,rfl,he1⟩:=zaI u1 B1 n L h1 hn
 obtain ⟨a2,rfl,he2⟩:=zaI u2 B2 n L h2 hn
 refine kW ?_
 refine zk [7] mixed ?_
 (refine za 0 ?_;refine za 1 ?_;refine za 3 ?_;refine za 4 ?_)
 refine cI 2 rfl rfl ?_
 refine ZQ (zg9 B1) rfl rfl he1 rfl (fun r L' hp=>?_)
 obtain ⟨rfl,rfl⟩:=hp
 refine ⟨iC,?_⟩
 refine cI 5 rfl rfl ?_
 refine ZQ (zg9 B2) rfl rfl he2 rfl (fun r L' hp=>?_)
 obtain ⟨rfl,rfl⟩:=hp
 refine ⟨iC,?_⟩
 refine cI 6 rfl rfl ?_
 refine cC rfl rfl (zd3 _ _ L') (fun r L' hp=>?_)
 obtain ⟨c,rfl,hc8,rfl⟩:=hp
 refine ⟨iC,?_⟩
 refine cL 7 rfl rfl rfl ?_
 refine ze (yP rfl) rfl ?_
 refine cD ?_
 refine kW ?_
 refine kR ?_
 exact ⟨_,iC,c,rfl,hc8,rfl⟩
theorem zhW (v vt:Value) (b:List UInt8) (ts:List (Nat × Nat)) (S L:List Chunk) (hi:Inc S L) (h:PcR S v vt b ts) (hb:b.length≤65535) (hor:qP L) :
 Gv Tryz.prog 166 [.agg #[v,vt]].toArray L (fun r L'=>∃bs C T,ZK (T::S) r bs C∧2≤bs.length∧bs.length≤3∧bs[0]? =some (.st b)∧(∀B∈bs,ChO b ts B)∧L'=C::T::L):=by
 refine Gv.of_body (args:=[.agg #[v,vt]]) Tryz.func166 rfl rfl ?_
 obtain ⟨va,vc,rfl,_⟩:=h.x.room
 obtain ⟨ta,tc,rfl,_⟩:=h.t.rs.room
 have hnt:=h.nt
 (refine kW ?_;refine kU fun bk=>?_;refine kW ?_)
 rename_i q1
 refine zk [8] mixed ?_
 (refine za 0 ?_;refine za 1 ?_;refine za 2 ?_;refine za 3 ?_;refine za 4 ?_)
 refine cI 5 rfl rfl ?_
 refine cC rfl rfl (zb8 (.slice va b.length vc) (.slice ta ts.length tc) b ts S _ (Inc.skip hi) h) (fun r L' hp=>?_)
 obtain ⟨v1,v2,v3,v4,C1,rfl,hc1,rfl⟩:=hp
 refine ⟨iC,?_⟩
 (refine za 6 ?_)
 refine cI 7 rfl rfl ?_
 refine zl (cs:=[.iface 220 (.agg #[.slice va b.length vc]),.iface 186 (.agg (cdV (.slice ta ts.length tc) v1 v2 v3 v4 (itL (coI fxL fxD ts))).toArray)]) rfl (by rfl) (by first|(simp [zA,patch,Value.cells,zeros];done)|(simp [zA,patch,Value.cells,zeros];rfl)) (by omega) rfl rfl (fun bn=>?_)
 refine ⟨iC,?_⟩
 refine cL 8 rfl rfl rfl ?_
 refine ze (yP rfl) rfl ?_
 refine cD ?_
 have hf1:Zv (C1::S) (.iface 186 (.agg (cdV (.slice ta ts.length tc) v1 v2 v3 v4 (itL (coI fxL fxD ts))).toArray)) (.fx ts):=⟨_,_,_,_,_,rfl,hc1⟩
 have hs1:Zv S (.iface 220 (.agg #[.slice va b.length vc])) (.st b):=⟨_,rfl,h.x,hb⟩
 have hlist:∀T,(∀x∈(C1::S).flatten,x∈(T::S).flatten)→∀(i:Nat) (B:Blk),[Blk.st b,Blk.fx ts][i]? =some B→∃u,[Value.iface 220 (.agg #[.slice va b.length vc]),Value.iface 186 (.agg (cdV (.slice ta ts.length tc) v1 v2 v3 v4 (itL (coI fxL fxD ts))).toArray)][i]? =some u∧Zv (T::S) u B:=fun T hT i B hiB=>by
  match i,hiB with
  |0,hiB=>injection hiB with hiB;subst hiB;exact ⟨_,rfl,hs1.sub yh⟩
  |1,hiB=>injection hiB with hiB;subst hiB;exact ⟨_,rfl,hf1.sub hT⟩
  |i+2,hiB=>simp at hiB
 (repeat' first|refine kW ?_|refine kU fun bk=>?_|refine kV fun hc=>?_|refine kZ (fun hc=>?_) fun hc=>?_|fail)
 ·refine cC rfl rfl (zea (.slice va b.length vc) (.slice ta ts.length tc) b ts S _ (Inc.skip (Inc.skip (Inc.skip hi))) h (by repeat (first|exact hor|apply qP.there))) (fun r L' hp=>?_)
  obtain ⟨l,dl,own,w1,w2,w3,w4,wo,w5,w6,wr,C2,rfl,hlo,hlo2,hlo3,hfc,hfh,rfl⟩:=hp
  have hne:ts≠[]:=fun h0=>by subst h0;simp at hc
  have hd1:Zv (C2::S) (Value.iface 228 (.agg (cdV (.slice ta ts.length tc) w1 w2 w3 w4 (itL (coI l dl ts))++hdV (trN l 257 l.length) (trN dl 1 dl.length) wo w5 w6 wr).toArray)) (.dn ts l dl (trN l 257 l.length) (trN dl 1 dl.length) ((orN own).take (trN (orN own) 4 19)) own (rnS (hdL l dl))):=⟨_,_,_,_,_,_,_,_,_,rfl,hfc,hfh⟩
  have hs2:∀x∈(C1::S).flatten,x∈((C2++C1)::S).flatten:=fun x hx=>by
   simp only [List.flatten_cons,List.mem_append] at hx ⊢
   rcases hx with hx|hx
   ·exact .inl (.inr hx)
   ·exact .inr hx
  have hs3:∀x∈(C2::S).flatten,x∈((C2++C1)::S).flatten:=fun x hx=>by
   simp only [List.flatten_cons,List.mem_append] at hx ⊢
   rcases hx with hx|hx
   ·exact .inl (.inl hx)
   ·exact .inr hx
  have ho:Ow 173 1 (.slice (some ⟨bn,0,none⟩) 2 2) 2 [Value.iface 220 (.agg #[.slice va b.length vc]),Value.iface 186 (.agg (cdV (.slice ta ts.length tc) v1 v2 v3 v4 (itL (coI fxL fxD ts))).toArray)] [(bn,cl [Value.iface 220 (.agg #[.slice va b.length vc]),Value.iface 186 (.agg (cdV (.slice ta ts.length tc) v1 v2 v3 v4 (itL (coI fxL fxD ts))).toArray)] 173)]:=
   .inr ⟨bn,2,[],rfl,by rw [List.append_nil],rfl,rfl,Nat.le_refl _,by simp [maxLen]⟩
  refine kW ?_
  refine zl (cs:=[Value.iface 228 (.agg (cdV (.slice ta ts.length tc) w1 w2 w3 w4 (itL (coI l dl ts))++hdV (trN l 257 l.length) (trN dl 1 dl.length) wo w5 w6 wr).toArray)]) rfl (by rfl) (by first|(simp [zA,patch,Value.cells,zeros];done)|(simp [zA,patch,Value.cells,zeros];rfl)) (by omega) rfl rfl (fun b3=>?_)
  refine jA ?_
  refine zu rfl rfl ho (zF (k:=1) (c:=#[Value.iface 228 (.agg (cdV (.slice ta ts.length tc) w1 w2 w3 w4 (itL (coI l dl ts))++hdV (trN l 257 l.length) (trN dl 1 dl.length) wo w5 w6 wr).toArray)]) (xs:=[Value.iface 228 (.agg (cdV (.slice ta ts.length tc) w1 w2 w3 w4 (itL (coI l dl ts))++hdV (trN l 257 l.length) (trN dl 1 dl.length) wo w5 w6 wr).toArray)]) (m:=1) Fnd.here rfl (by simp)) (by repeat (first|exact Zip.here _|apply Zip.there)) rfl (by rfl) (by omega) (by simp [maxLen]) rfl (fun v' C' ho' _ _=>?_)
  have hbl':=ZK.push (L:=(C2++C1)::S) (bs:=[Blk.st b,Blk.fx ts]) rfl (hlist _ hs2) rfl ho' rfl (hd1.sub hs3)
  generalize hdv:Value.iface 228 (.agg (cdV (.slice ta ts.length tc) w1 w2 w3 w4 (itL (coI l dl ts))++hdV (trN l 257 l.length) (trN dl 1 dl.length) wo w5 w6 wr).toArray)=dv at *
  refine kW ?_
  refine kH ?_
  refine ⟨C'::(C2++C1)::L,fun w h=>?_,?_⟩
  ·have h2:Holds w (C2::C1::C'::L):=iH h
   have h3:=two.2 h2
   exact iH h3
  exact ⟨[Blk.st b,Blk.fx ts]++[Blk.dn ts l dl (trN l 257 l.length) (trN dl 1 dl.length) ((orN own).take (trN (orN own) 4 19)) own (rnS (hdL l dl))],C',C2++C1,hbl',by simp,by simp,rfl,fun B hB=>by
   simp only [List.cons_append,List.nil_append,List.mem_cons,List.not_mem_nil,or_false] at hB
   rcases hB with rfl|rfl|rfl
   ·rfl
   ·rfl
   ·exact ⟨rfl,hne,hlo,hlo2,hlo3,rfl,rfl,rfl,rfl⟩,rfl⟩
 ·refine kR ?_
  exact ⟨[(bn,cl [Value.iface 220 (.agg #[.slice va b.length vc]),Value.iface 186 (.agg (cdV (.slice ta ts.length tc) v1 v2 v3 v4 (itL (coI fxL fxD ts))).toArray)] 173)]::C1::L,iC,[.st b,.fx ts],_,C1,⟨_,.inr ⟨bn,2,[],rfl,by rw [List.append_nil],rfl,rfl,Nat.le_refl _,by simp [maxLen]⟩,rfl,hlist C1 (fun x hx=>hx)⟩,by simp,by simp,rfl,fun B hB=>by
   simp only [List.mem_cons,List.not_mem_nil,or_false] at hB
   rcases hB with rfl|rfl<;>rfl,rfl⟩
end Go.Proofs.YtfbfcapoobmdpaaGreatDoor
