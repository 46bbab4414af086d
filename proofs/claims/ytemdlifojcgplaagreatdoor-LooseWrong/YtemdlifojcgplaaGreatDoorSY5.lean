/- Contracts and facts on the way to the top. It proves no statement by itself. No conditions. -/
import Derived.Test.YtemdlifojcgplaaGreatDoorSY4
set_option maxHeartbeats 16000000
namespace Go.So
set_option linter.all false
variable {α : Type}
theorem rot_id (f:Nat→α) {s m e:Nat} (h1:s≤m) (h2:m≤e) (h:¬(s < m∧m < e)):rot f s m e=f:=by
 funext k
 simp only [rot]
 repeat' split
 all_goals first
  |rfl
  |(exfalso;omega)
  |(congr 1;omega)
theorem merge_end {key:α→Nat} {a mid b:Nat} {g1 g2 g3:Nat→α} (ha:a≤mid) (hc:∀i j,a≤i→i < mid→mid≤j→j < b→key (g1 i)≤key (g1 j)) (m2:Mv a mid g1 g2) (m3:Mv mid b g2 g3) (s2:Srt key a mid g2) (s3:Srt key mid b g3):Srt key a b g3:=by
 refine Srt.join (m:=mid) (s2.congr fun k hk1 hk2=>m3.out (.inl hk2)) s3 ?_
 intro i j hi hi2 hj hj2
 rw [m3.out (.inl hi2)]
 refine m3.all (p:=fun x=>key (g2 i)≤key x) (fun j hj hj2=>?_) j hj hj2
 rw [m2.out (.inr hj)]
 exact m2.all (p:=fun x=>key x≤key (g1 j)) (fun i hi hi2=>hc i j hi hi2 hj hj2) i hi hi2
theorem merge_mid {key:α→Nat} {a s m mid e b:Nat} {f:Nat→α} (h1:a≤s) (h2:s≤m) (h3:m≤e) (h4:e≤b) (hm:s+(e - m)=mid) (sl:Srt key a m f) (sr:Srt key m b f)
 (hab:a < s→e < b→key (f (s - 1))≤key (f e)) (hba:m < e→s < m→key (f (e - 1))≤key (f s)) :
 (∀i j,a≤i→i < mid→mid≤j→j < b→key (rot f s m e i)≤key (rot f s m e j))∧Srt key a s (rot f s m e)∧Srt key s mid (rot f s m e)∧Srt key mid e (rot f s m e)∧Srt key e b (rot f s m e):=by
 have v1:∀k,k < s→rot f s m e k=f k:=fun k hk=>by simp only [rot];rw [if_neg (by omega),if_neg (by omega)]
 have v2:∀k,s≤k→k < mid→rot f s m e k=f (k - s+m):=fun k hk hk2=>by simp only [rot];rw [if_pos (by omega)]
 have v3:∀k,mid≤k→k < e→rot f s m e k=f (k - (e - m)):=fun k hk hk2=>by simp only [rot];rw [if_neg (by omega),if_pos (by omega)]
 have v4:∀k,e≤k→rot f s m e k=f k:=fun k hk=>by simp only [rot];rw [if_neg (by omega),if_neg (by omega)]
 refine ⟨fun i j hi hi2 hj hj2=>?_,fun i j p q r=>?_,fun i j p q r=>?_,fun i j p q r=>?_,fun i j p q r=>?_⟩
 ·by_cases ci:i < s
  ·rw [v1 i ci]
   by_cases cj:j < e
   ·rw [v3 j hj cj]
    exact sl i _ hi (by omega) (by omega)
   ·rw [v4 j (by omega)]
    exact Nat.le_trans (sl i (s - 1) hi (by omega) (by omega)) (Nat.le_trans (hab (by omega) (by omega)) (sr e j (by omega) (by omega) hj2))
  ·rw [v2 i (by omega) hi2]
   by_cases cj:j < e
   ·rw [v3 j hj cj]
    exact Nat.le_trans (sr _ (e - 1) (by omega) (by omega) (by omega)) (Nat.le_trans (hba (by omega) (by omega)) (sl s _ (by omega) (by omega) (by omega)))
   ·rw [v4 j (by omega)]
    exact sr _ _ (by omega) (by omega) hj2
 ·rw [v1 i (by omega),v1 j r];exact sl i j p q (by omega)
 ·rw [v2 i (by omega) (by omega),v2 j (by omega) r];exact sr _ _ (by omega) (by omega) (by omega)
 ·rw [v3 i (by omega) (by omega),v3 j (by omega) r];exact sl _ _ (by omega) (by omega) (by omega)
 ·rw [v4 i (by omega),v4 j (by omega)];exact sr _ _ (by omega) (by omega) (by omega)
end Go.So
namespace Go.Proofs.YtemdlifojcgplaaGreatDoor
open Go Go.Vx Go.So
variable [W0]
set_option maxRecDepth 4000
set_option linter.all false
def MergeC (N k:Nat):Prop:=∀(f:Nat→Nat × Nat) (b0 cap a m b:Nat) (rest:List Value) (L:List Chunk),b - a≤k→a < m→m < b→b≤N→Srt ky a m f→Srt ky m b f→
 Gv Tryz.prog 298 [.slice (some ⟨b0,0,none⟩) N cap,.int .i64 (a:Int),.int .i64 (m:Int),.int .i64 (b:Int),cmpV].toArray ([(b0,cl (cvs f N++rest) 352)]::L)
  (fun r L'=>r=.tuple #[]∧∃g,Mv a b f g∧Srt ky a b g∧L'=[(b0,cl (cvs g N++rest) 352)]::L)
theorem merge_c (N:Nat) (hN:N≤1000):∀k,MergeC N k:=by
 intro k
 induction k with
 |zero=>intro f b0 cap a m b rest L h;omega
 |succ k ih=>
  intro f b0 cap a m b rest L hk h1 h2 h3 sl sr
  refine Gv.of_body Tryz.func298 rfl rfl ?_
  (repeat' first|refine kW ?_|refine kU fun bk=>?_|refine kV fun hc=>?_|refine kZ (fun hc=>?_) fun hc=>?_|fail)
  ·have hma:m=a+1:=by omega
   refine WC_loop (X:=Nat × Nat) (fun x=>[(0,.slice (some ⟨b0,0,none⟩) N cap),(1,.int .i64 (a:Int)),(2,.int .i64 (m:Int)),(3,.int .i64 (b:Int)),(4,cmpV),(10,.int .i64 (x.1:Int)),(11,.int .i64 (x.2:Int))])
    (fun x=>[(b0,cl (cvs f N++rest) 352)]::L) (fun x=>m≤x.1∧x.1≤x.2∧x.2≤b∧(∀t,m≤t→t < x.1→ky (f t) < ky (f a))∧∀t,x.2≤t→t < b→ky (f a)≤ky (f t)) (fun x=>x.2 - x.1) (m,b)
    ⟨Nat.le_refl _,by simp only;omega,Nat.le_refl _,fun t p q=>by simp only at q;omega,fun t p q=>by simp only at p;omega⟩ iS (fun w h=>h) ?_
   rintro ⟨i,j⟩ ⟨q1,q2,q3,q4,q5⟩
   simp only at q1 q2 q3 q4 q5 ⊢
   (repeat' first|refine kW ?_|refine kU fun bk=>?_|refine kV fun hc=>?_|refine kZ (fun hc=>?_) fun hc=>?_|fail)
   ·rw [show ((i:Int)+(j:Int)) / 2=(((i+j) / 2:Nat):Int) from by omega]
    obtain ⟨h,hh⟩:∃h,h=(i+j) / 2:=⟨_,rfl⟩
    rw [←hh]
    refine WC_drawAll [] mixed ?_
    (refine WR_t 0 ?_;refine WR_t 1 ?_;refine WR_t 2 ?_)
    refine cT 3 rfl rfl (EV_indexAddr0 (j:=h) (len:=N) rfl rfl rfl (by omega)) ?_
    refine cT 4 rfl rfl (EV_loadAgg rfl (cv_rd (f:=f) (n:=N) (j:=h) (rest:=rest) (by omega) (by repeat (first|assumption|exact Fnd.here|refine Fnd.there ?_))) rfl) ?_
    (refine WR_t 5 ?_;refine WR_t 6 ?_)
    refine cT 7 rfl rfl (EV_indexAddr0 (j:=a) (len:=N) rfl rfl rfl (by omega)) ?_
    refine cT 8 rfl rfl (EV_loadAgg rfl (cv_rd (f:=f) (n:=N) (j:=a) (rest:=rest) (by omega) (by repeat (first|assumption|exact Fnd.here|refine Fnd.there ?_))) rfl) ?_
    refine cI 9 rfl rfl ?_
    refine cP rfl rfl (ccmp_n (f h) (f a) _) ?_
    refine ⟨iC,?_⟩
    (refine WR_t 10 ?_)
    rw [cmpZ_lt]
    refine cD ?_
    (repeat' first|refine kW ?_|refine kU fun bk=>?_|refine kV fun hc=>?_|refine kZ (fun hc=>?_) fun hc=>?_|fail)
    ·have hky:ky (f h) < ky (f a):=by assumption
     refine WQ_round (X:=Nat × Nat) (μ:=fun x=>x.2 - x.1) (x:=(i,j)) (h+1,j) (by simp only;omega) ⟨by simp only;omega,by simp only;omega,q3,fun t p q=>?_,q5⟩ iS (fun w h=>h)
     simp only at q
     exact Nat.lt_of_le_of_lt (sr t h p (by omega) (by omega)) hky
    ·have hky:¬ky (f h) < ky (f a):=by assumption
     refine WQ_round (X:=Nat × Nat) (μ:=fun x=>x.2 - x.1) (x:=(i,j)) (i,h) (by simp only;omega) ⟨q1,by simp only;omega,by simp only;omega,q4,fun t p q=>?_⟩ iS (fun w h=>h)
     simp only at p
     exact Nat.le_trans (by omega) (sr h t (by omega) p q)
   ·have hij:i=j:=by omega
    refine WC_loop (X:=Nat × (Nat→Nat × Nat)) (fun x=>[(0,.slice (some ⟨b0,0,none⟩) N cap),(10,.int .i64 (i:Int)),(13,.int .i64 (x.1:Int))])
     (fun x=>[(b0,cl (cvs x.2 N++rest) 352)]::L) (fun x=>a≤x.1∧x.1≤i - 1∧Mv a b f x.2∧x.2 x.1=f a∧(∀t,a≤t→t < x.1→x.2 t=f (t+1))∧∀t,x.1 < t→x.2 t=f t) (fun x=>i - x.1) (a,f)
     ⟨Nat.le_refl _,by simp only;omega,.refl f,rfl,fun t p q=>by simp only at q;omega,fun t p=>rfl⟩ iS (fun w h=>h) ?_
    rintro ⟨k,g⟩ ⟨r1,r2,r3,r4,r5,r6⟩
    simp only at r1 r2 r3 r4 r5 r6 ⊢
    (repeat' first|refine kW ?_|refine kU fun bk=>?_|refine kV fun hc=>?_|refine kZ (fun hc=>?_) fun hc=>?_|fail)
    ·refine WC_drawAll [2,3,4,15,16,17] mixed ?_
     (refine WR_f 2 ?_;refine WR_f 3 ?_;refine WR_f 4 ?_)
     (refine WR_t2 0 ?_;refine WR_t2 1 ?_;refine WR_t2 5 ?_;refine WR_t2 6 ?_;refine WR_t2 7 ?_)
     (refine WR_take2 8 rfl rfl (by kernel_rfl) iP iC (EV_indexAddr0 (j:=k+1) (len:=N) rfl rfl (by omega) (by omega)) (by rfl) ?_)
     (refine WR_take2 9 rfl rfl (by kernel_rfl) iP iC (EV_loadAgg rfl (cv_rd (f:=g) (n:=N) (j:=k+1) (rest:=rest) (by omega) (by repeat (first|assumption|exact Fnd.here|refine Fnd.there ?_))) rfl) (by rfl) ?_)
     (refine WR_t2 10 ?_;refine WR_t2 11 ?_)
     (refine WR_take2 12 rfl rfl (by kernel_rfl) iP iC (EV_indexAddr0 (j:=k) (len:=N) rfl rfl rfl (by omega)) (by rfl) ?_)
     (refine WR_take2 13 rfl rfl (by kernel_rfl) iP iC (EV_loadAgg rfl (cv_rd (f:=g) (n:=N) (j:=k) (rest:=rest) (by omega) (by repeat (first|assumption|exact Fnd.here|refine Fnd.there ?_))) rfl) (by rfl) ?_)
     (refine WR_take2 14 rfl rfl (by kernel_rfl) iP iC (EV_indexAddr0 (j:=k) (len:=N) rfl rfl rfl (by omega)) (by rfl) ?_)
     refine cL 15 rfl rfl rfl ?_
     refine OW_storeAggTo (vs:=cv (g (k+1))) (cvs (upd g (k) (g (k+1))) N++rest) rfl rfl rfl rfl (cv_patch (by omega)) iU (by rw [List.length_append,cvs_length];simp [cv];omega) ?_
     refine cL 16 rfl rfl rfl ?_
     refine OW_EV (EV_indexAddr0 (j:=k+1) (len:=N) rfl rfl (by omega) (by omega)) rfl ?_
     refine cL 17 rfl rfl rfl ?_
     refine OW_storeAggTo (l:=cvs (upd g (k) (g (k+1))) N++rest) (vs:=cv (g (k))) (cvs (swp g (k) (k+1)) N++rest) rfl rfl rfl rfl (by rw [cv_patch (n:=N) (rest:=rest) (j:=k+1) (by omega),upd_swp]) iU (by rw [List.length_append,cvs_length];simp [cv];omega) ?_
     refine cD ?_
     refine kW ?_
     refine WQ_round (X:=Nat × (Nat→Nat × Nat)) (μ:=fun x=>i - x.1) (x:=(k,g)) (k+1,swp g k (k+1)) (by simp only;omega) ⟨by simp only;omega,by simp only;omega,r3.step (by omega) (by omega) (by omega) (by omega),?_,fun t p q=>?_,fun t p=>?_⟩ iS (fun w h=>h)
     ·show swp g k (k+1) (k+1)=f a
      unfold swp
      rw [if_neg (by omega),if_pos rfl]
      exact r4
     ·show swp g k (k+1) t=f (t+1)
      unfold swp
      simp only at q
      by_cases e:t=k
      ·rw [if_pos e,r6 (k+1) (by omega),e]
      ·rw [if_neg e,if_neg (by omega)]
       exact r5 t p (by omega)
     ·show swp g k (k+1) t=f t
      unfold swp
      simp only at p
      rw [if_neg (by omega),if_neg (by omega)]
      exact r6 t (by omega)
    ·have hki:k=i - 1:=by omega
     refine kR ?_
     refine ⟨_,iC,rfl,g,r3,fun p q hp hpq hq=>?_,rfl⟩
     by_cases e1:p < k
     ·rw [r5 p hp e1]
      by_cases e2:q < k
      ·rw [r5 q (by omega) e2];exact sr _ _ (by omega) (by omega) (by omega)
      ·by_cases e3:q=k
       ·rw [e3,r4];exact Nat.le_of_lt (q4 _ (by omega) (by omega))
       ·rw [r6 q (by omega)];exact sr _ _ (by omega) (by omega) hq
     ·by_cases e2:p=k
      ·rw [e2,r4]
       by_cases e3:q=k
       ·rw [e3,r4];exact Nat.le_refl _
       ·rw [r6 q (by omega)];exact q5 q (by omega) hq
      ·rw [r6 p (by omega),r6 q (by omega)];exact sr _ _ (by omega) hpq hq
  ·have hmb:b=m+1:=by omega
   refine WC_loop (X:=Nat × Nat) (fun x=>[(0,.slice (some ⟨b0,0,none⟩) N cap),(1,.int .i64 (a:Int)),(2,.int .i64 (m:Int)),(3,.int .i64 (b:Int)),(4,cmpV),(14,.int .i64 (x.1:Int)),(15,.int .i64 (x.2:Int))])
    (fun x=>[(b0,cl (cvs f N++rest) 352)]::L) (fun x=>a≤x.1∧x.1≤x.2∧x.2≤m∧(∀t,a≤t→t < x.1→ky (f t)≤ky (f m))∧∀t,x.2≤t→t < m→ky (f m)≤ky (f t)) (fun x=>x.2 - x.1) (a,m)
    ⟨Nat.le_refl _,by simp only;omega,Nat.le_refl _,fun t p q=>by simp only at q;omega,fun t p q=>by simp only at p;omega⟩ iS (fun w h=>h) ?_
   rintro ⟨i,j⟩ ⟨q1,q2,q3,q4,q5⟩
   simp only at q1 q2 q3 q4 q5 ⊢
   (repeat' first|refine kW ?_|refine kU fun bk=>?_|refine kV fun hc=>?_|refine kZ (fun hc=>?_) fun hc=>?_|fail)
   ·rw [show ((i:Int)+(j:Int)) / 2=(((i+j) / 2:Nat):Int) from by omega]
    obtain ⟨h,hh⟩:∃h,h=(i+j) / 2:=⟨_,rfl⟩
    rw [←hh]
    refine WC_drawAll [] mixed ?_
    (refine WR_t 0 ?_;refine WR_t 1 ?_;refine WR_t 2 ?_)
    refine cT 3 rfl rfl (EV_indexAddr0 (j:=m) (len:=N) rfl rfl rfl (by omega)) ?_
    refine cT 4 rfl rfl (EV_loadAgg rfl (cv_rd (f:=f) (n:=N) (j:=m) (rest:=rest) (by omega) (by repeat (first|assumption|exact Fnd.here|refine Fnd.there ?_))) rfl) ?_
    (refine WR_t 5 ?_;refine WR_t 6 ?_)
    refine cT 7 rfl rfl (EV_indexAddr0 (j:=h) (len:=N) rfl rfl rfl (by omega)) ?_
    refine cT 8 rfl rfl (EV_loadAgg rfl (cv_rd (f:=f) (n:=N) (j:=h) (rest:=rest) (by omega) (by repeat (first|assumption|exact Fnd.here|refine Fnd.there ?_))) rfl) ?_
    refine cI 9 rfl rfl ?_
    refine cP rfl rfl (ccmp_n (f m) (f h) _) ?_
    refine ⟨iC,?_⟩
    (refine WR_t 10 ?_)
    rw [cmpZ_lt]
    (refine WR_t 11 ?_)
    refine cD ?_
    (repeat' first|refine kW ?_|refine kU fun bk=>?_|refine kV fun hc=>?_|refine kZ (fun hc=>?_) fun hc=>?_|fail)
    ·have hky:¬ky (f m) < ky (f h):=by assumption
     refine WQ_round (X:=Nat × Nat) (μ:=fun x=>x.2 - x.1) (x:=(i,j)) (h+1,j) (by simp only;omega) ⟨by simp only;omega,by simp only;omega,q3,fun t p q=>?_,q5⟩ iS (fun w h=>h)
     simp only at q
     exact Nat.le_trans (sl t h p (by omega) (by omega)) (by omega)
    ·have hky:ky (f m) < ky (f h):=by assumption
     refine WQ_round (X:=Nat × Nat) (μ:=fun x=>x.2 - x.1) (x:=(i,j)) (i,h) (by simp only;omega) ⟨q1,by simp only;omega,by simp only;omega,q4,fun t p q=>?_⟩ iS (fun w h=>h)
     simp only at p
     exact Nat.le_trans (Nat.le_of_lt hky) (sl h t (by omega) p q)
   ·have hij:i=j:=by omega
    refine WC_loop (X:=Nat × (Nat→Nat × Nat)) (fun x=>[(0,.slice (some ⟨b0,0,none⟩) N cap),(14,.int .i64 (i:Int)),(17,.int .i64 (x.1:Int))])
     (fun x=>[(b0,cl (cvs x.2 N++rest) 352)]::L) (fun x=>i≤x.1∧x.1≤m∧Mv a b f x.2∧x.2 x.1=f m∧(∀t,x.1 < t→t≤m→x.2 t=f (t - 1))∧∀t,t < x.1→x.2 t=f t) (fun x=>x.1) (m,f)
     ⟨by simp only;omega,Nat.le_refl _,.refl f,rfl,fun t p q=>by simp only at p;omega,fun t p=>rfl⟩ iS (fun w h=>h) ?_
    rintro ⟨k,g⟩ ⟨r1,r2,r3,r4,r5,r6⟩
    simp only at r1 r2 r3 r4 r5 r6 ⊢
    (repeat' first|refine kW ?_|refine kU fun bk=>?_|refine kV fun hc=>?_|refine kZ (fun hc=>?_) fun hc=>?_|fail)
    ·refine WC_drawAll [2,3,4,15,16,17] mixed ?_
     (refine WR_f 2 ?_;refine WR_f 3 ?_;refine WR_f 4 ?_)
     (refine WR_t2 0 ?_;refine WR_t2 1 ?_;refine WR_t2 5 ?_;refine WR_t2 6 ?_;refine WR_t2 7 ?_)
     (refine WR_take2 8 rfl rfl (by kernel_rfl) iP iC (EV_indexAddr0 (j:=k - 1) (len:=N) rfl rfl (by omega) (by omega)) (by rfl) ?_)
     (refine WR_take2 9 rfl rfl (by kernel_rfl) iP iC (EV_loadAgg rfl (cv_rd (f:=g) (n:=N) (j:=k - 1) (rest:=rest) (by omega) (by repeat (first|assumption|exact Fnd.here|refine Fnd.there ?_))) rfl) (by rfl) ?_)
     (refine WR_t2 10 ?_;refine WR_t2 11 ?_)
     (refine WR_take2 12 rfl rfl (by kernel_rfl) iP iC (EV_indexAddr0 (j:=k) (len:=N) rfl rfl rfl (by omega)) (by rfl) ?_)
     (refine WR_take2 13 rfl rfl (by kernel_rfl) iP iC (EV_loadAgg rfl (cv_rd (f:=g) (n:=N) (j:=k) (rest:=rest) (by omega) (by repeat (first|assumption|exact Fnd.here|refine Fnd.there ?_))) rfl) (by rfl) ?_)
     (refine WR_take2 14 rfl rfl (by kernel_rfl) iP iC (EV_indexAddr0 (j:=k) (len:=N) rfl rfl rfl (by omega)) (by rfl) ?_)
     refine cL 15 rfl rfl rfl ?_
     refine OW_storeAggTo (vs:=cv (g (k - 1))) (cvs (upd g (k) (g (k - 1))) N++rest) rfl rfl rfl rfl (cv_patch (by omega)) iU (by rw [List.length_append,cvs_length];simp [cv];omega) ?_
     refine cL 16 rfl rfl rfl ?_
     refine OW_EV (EV_indexAddr0 (j:=k - 1) (len:=N) rfl rfl (by omega) (by omega)) rfl ?_
     refine cL 17 rfl rfl rfl ?_
     refine OW_storeAggTo (l:=cvs (upd g (k) (g (k - 1))) N++rest) (vs:=cv (g (k))) (cvs (swp g (k) (k - 1)) N++rest) rfl rfl rfl rfl (by rw [cv_patch (n:=N) (rest:=rest) (j:=k - 1) (by omega),upd_swp]) iU (by rw [List.length_append,cvs_length];simp [cv];omega) ?_
     refine cD ?_
     refine kW ?_
     refine WQ_round (X:=Nat × (Nat→Nat × Nat)) (μ:=fun x=>x.1) (x:=(k,g)) (k - 1,swp g k (k - 1)) (by simp only;omega) ⟨by simp only;omega,by simp only;omega,r3.step (by omega) (by omega) (by omega) (by omega),?_,fun t p q=>?_,fun t p=>?_⟩ iS (fun w h=>h)
     ·show swp g k (k - 1) (k - 1)=f m
      unfold swp
      rw [if_neg (by omega),if_pos rfl]
      exact r4
     ·show swp g k (k - 1) t=f (t - 1)
      unfold swp
      simp only at p
      by_cases e:t=k
      ·rw [if_pos e,r6 (k - 1) (by omega),e]
      ·rw [if_neg e,if_neg (by omega)]
       exact r5 t (by omega) q
     ·show swp g k (k - 1) t=f t
      unfold swp
      simp only at p
      rw [if_neg (by omega),if_neg (by omega)]
      exact r6 t (by omega)
    ·have hki:k=i:=by omega
     refine kR ?_
     refine ⟨_,iC,rfl,g,r3,fun p q hp hpq hq=>?_,rfl⟩
     by_cases e1:p < k
     ·rw [r6 p e1]
      by_cases e2:q < k
      ·rw [r6 q e2];exact sl _ _ hp hpq (by omega)
      ·by_cases e3:q=k
       ·rw [e3,r4];exact q4 _ hp (by omega)
       ·rw [r5 q (by omega) (by omega)];exact sl _ _ hp (by omega) (by omega)
     ·by_cases e2:p=k
      ·rw [e2,r4]
       by_cases e3:q=k
       ·rw [e3,r4];exact Nat.le_refl _
       ·rw [r5 q (by omega) (by omega)];exact q5 _ (by omega) (by omega)
      ·rw [r5 p (by omega) (by omega),r5 q (by omega) (by omega)];exact sl _ _ (by omega) (by omega) (by omega)
  ·obtain ⟨mid,hmid⟩:∃mid,mid=(a+b) / 2:=⟨_,rfl⟩
   obtain ⟨s0,hs0⟩:∃s0,s0=mid+m - b:=⟨_,rfl⟩
   obtain ⟨r0,hr0⟩:∃r0,r0=mid:=⟨_,rfl⟩
   have hsr:s0≤r0:=by omega
   refine WC_loop (X:=Nat × Nat) (fun x=>[(0,.slice (some ⟨b0,0,none⟩) N cap),(1,.int .i64 (a:Int)),(2,.int .i64 (m:Int)),(3,.int .i64 (b:Int)),(4,cmpV),(18,.int .i64 (mid:Int)),(19,.int .i64 ((mid+m:Nat):Int)),(20,.int .i64 (x.1:Int)),(21,.int .i64 (x.2:Int)),(22,.int .i64 ((mid+m - 1:Nat):Int))])
    (fun x=>[(b0,cl (cvs f N++rest) 352)]::L) (fun x=>s0≤x.1∧x.1≤x.2∧x.2≤r0∧(∀t,s0≤t→t < x.1→ky (f t)≤ky (f (mid+m - 1 - t)))∧∀t,x.2≤t→t < r0→ky (f (mid+m - 1 - t)) < ky (f t)) (fun x=>x.2 - x.1) (s0,r0)
    ⟨Nat.le_refl _,hsr,Nat.le_refl _,fun t p q=>by simp only at q;omega,fun t p q=>by simp only at p;omega⟩ iS (fun w h=>h) ?_
   rintro ⟨s,r⟩ ⟨q1,q2,q3,q4,q5⟩
   simp only at q1 q2 q3 q4 q5 ⊢
   refine WC_seq ?_
   (repeat' first|refine kY ?_|refine kU fun bk=>?_|refine kV fun hc=>?_|refine kZ (fun hc=>?_) fun hc=>?_|fail)
   refine WC_seq ?_
   (repeat' first|refine kY ?_|refine kU fun bk=>?_|refine kV fun hc=>?_|refine kZ (fun hc=>?_) fun hc=>?_|fail)
   ·refine kW ?_
    rw [show ((s:Int)+(r:Int)) / 2=(((s+r) / 2:Nat):Int) from by omega]
    obtain ⟨h,hh⟩:∃h,h=(s+r) / 2:=⟨_,rfl⟩
    rw [←hh]
    refine WC_drawAll [] mixed ?_
    (refine WR_t 0 ?_;refine WR_t 1 ?_;refine WR_t 2 ?_;refine WR_t 3 ?_;refine WR_t 4 ?_)
    refine cT 5 rfl rfl (EV_indexAddr0 (j:=mid+m - 1 - h) (len:=N) rfl rfl (by omega) (by omega)) ?_
    refine cT 6 rfl rfl (EV_loadAgg rfl (cv_rd (f:=f) (n:=N) (j:=mid+m - 1 - h) (rest:=rest) (by omega) (by repeat (first|assumption|exact Fnd.here|refine Fnd.there ?_))) rfl) ?_
    (refine WR_t 7 ?_;refine WR_t 8 ?_)
    refine cT 9 rfl rfl (EV_indexAddr0 (j:=h) (len:=N) rfl rfl rfl (by omega)) ?_
    refine cT 10 rfl rfl (EV_loadAgg rfl (cv_rd (f:=f) (n:=N) (j:=h) (rest:=rest) (by omega) (by repeat (first|assumption|exact Fnd.here|refine Fnd.there ?_))) rfl) ?_
    refine cI 11 rfl rfl ?_
    refine cP rfl rfl (ccmp_n (f (mid+m - 1 - h)) (f h) _) ?_
    refine ⟨iC,?_⟩
    (refine WR_t 12 ?_)
    rw [cmpZ_lt]
    (refine WR_t 13 ?_)
    refine cD ?_
    (repeat' first|refine kW ?_|refine kU fun bk=>?_|refine kV fun hc=>?_|refine kZ (fun hc=>?_) fun hc=>?_|fail)
    ·have hky:¬ky (f (mid+m - 1 - h)) < ky (f h):=by assumption
     refine WQ_round (X:=Nat × Nat) (μ:=fun x=>x.2 - x.1) (x:=(s,r)) (h+1,r) (by simp only;omega) ⟨by simp only;omega,by simp only;omega,q3,fun t p q=>?_,q5⟩ iS (fun w h=>h)
     simp only at q
     have e1:=sl t h (by omega) (by omega) (by omega)
     have e2:=sr (mid+m - 1 - h) (mid+m - 1 - t) (by omega) (by omega) (by omega)
     omega
    ·have hky:ky (f (mid+m - 1 - h)) < ky (f h):=by assumption
     refine WQ_round (X:=Nat × Nat) (μ:=fun x=>x.2 - x.1) (x:=(s,r)) (s,h) (by simp only;omega) ⟨q1,by simp only;omega,by simp only;omega,q4,fun t p q=>?_⟩ iS (fun w h=>h)
     simp only at p
     have e1:=sl h t (by omega) (by omega) (by omega)
     have e2:=sr (mid+m - 1 - t) (mid+m - 1 - h) (by omega) (by omega) (by omega)
     omega
   ·have hsr2:s=r:=by omega
    obtain ⟨e,he⟩:∃e,e=mid+m - s:=⟨_,rfl⟩
    have hem:m≤e:=by omega
    have heb:e≤b:=by omega
    have hsm:s≤m:=by omega
    obtain ⟨hc1,k1,k2,k3,k4⟩:=merge_mid (key:=ky) (f:=f) (a:=a) (s:=s) (m:=m) (mid:=mid) (e:=e) (b:=b) (by omega) hsm hem heb (by omega) sl sr
     (fun p q=>by
       have:=q4 (s - 1) (by omega) (by omega)
       rw [show mid+m - 1 - (s - 1)=e from by omega] at this
       exact this)
     (fun p q=>by
       have:=q5 s (by omega) (by omega)
       rw [show mid+m - 1 - s=e - 1 from by omega] at this
       exact Nat.le_of_lt this)
    refine WC_seq ?_
    (repeat' first|refine kY ?_|refine kU fun bk=>?_|refine kV fun hc=>?_|refine kZ (fun hc=>?_) fun hc=>?_|fail)
    refine WC_cut (X:=Nat→Nat × Nat) (fun g=>[(0,.slice (some ⟨b0,0,none⟩) N cap),(1,.int .i64 (a:Int)),(2,.int .i64 (m:Int)),(3,.int .i64 (b:Int)),(4,cmpV),(18,.int .i64 (mid:Int)),(20,.int .i64 (s:Int)),(24,.int .i64 (e:Int))])
     (fun g=>[(b0,cl (cvs g N++rest) 352)]::L) (fun g=>Mv a b f g∧g=rot f s m e) ?_ ?_
    ·have hid:¬(s < m∧m < e)→f=rot f s m e:=fun h=>(rot_id f hsm hem h).symm
     refine WC_holds' (fun w h=>h) (WC.sub (M':=[(0,.slice (some ⟨b0,0,none⟩) N cap),(1,.int .i64 (a:Int)),(2,.int .i64 (m:Int)),(3,.int .i64 (b:Int)),(4,cmpV),(18,.int .i64 (mid:Int)),(20,.int .i64 (s:Int)),(24,.int .i64 (e:Int))]) ?_ iS)
     (repeat' first|refine kW ?_|refine kU fun bk=>?_|refine kV fun hc=>?_|refine kZ (fun hc=>?_) fun hc=>?_|fail)
     all_goals first
      |exact WQ_cut f ⟨.refl f,hid (by omega)⟩ iS (fun w h=>h)
      |skip
     refine cC rfl rfl (rotate_c f N b0 cap s m e rest L hN (by omega) (by omega) (by omega)) (fun r L' hp=>?_)
     obtain ⟨rfl,g,hg1,hg2,rfl⟩:=hp
     refine kW ?_
     exact WQ_cut g ⟨hg1.mono (by omega) heb,hg2⟩ iS (fun w h=>h)
    rintro g1 ⟨hg1,hg2⟩
    rw [←hg2] at hc1 k1 k2 k3 k4
    refine WC_cut (X:=Nat→Nat × Nat) (fun g=>[(0,.slice (some ⟨b0,0,none⟩) N cap),(1,.int .i64 (a:Int)),(2,.int .i64 (m:Int)),(3,.int .i64 (b:Int)),(4,cmpV),(18,.int .i64 (mid:Int)),(20,.int .i64 (s:Int)),(24,.int .i64 (e:Int))])
     (fun g=>[(b0,cl (cvs g N++rest) 352)]::L) (fun g=>Mv a mid g1 g∧Srt ky a mid g) ?_ ?_
    ·have hid:¬(a < s∧s < mid)→Srt ky a mid g1:=fun h=>by
      by_cases e1:s=a
      ·rw [e1] at k2;exact k2
      ·rw [show mid=s from by omega];exact k1
     (repeat' first|refine kW ?_|refine kU fun bk=>?_|refine kV fun hc=>?_|refine kZ (fun hc=>?_) fun hc=>?_|fail)
     all_goals first
      |exact WQ_cut g1 ⟨.refl g1,hid (by omega)⟩ iS (fun w h=>h)
      |skip
     refine cC rfl rfl (ih g1 b0 cap a s mid rest L (by omega) (by omega) (by omega) (by omega) k1 k2) (fun r L' hp=>?_)
     obtain ⟨rfl,g,hg3,hg4,rfl⟩:=hp
     refine kW ?_
     exact WQ_cut g ⟨hg3,hg4⟩ iS (fun w h=>h)
    rintro g2 ⟨hg3,hg4⟩
    have k3':Srt ky mid e g2:=k3.congr fun k p q=>hg3.out (.inr p)
    have k4':Srt ky e b g2:=k4.congr fun k p q=>hg3.out (.inr (by omega))
    have hmv:Mv a b f g2:=hg1.trans (hg3.mono (Nat.le_refl _) (by omega))
    have hid:¬(mid < e∧e < b)→Srt ky mid b g2:=fun h=>by
     by_cases e1:e=mid
     ·rw [e1] at k4';exact k4'
     ·rw [show b=e from by omega];exact k3'
    (repeat' first|refine kW ?_|refine kU fun bk=>?_|refine kV fun hc=>?_|refine kZ (fun hc=>?_) fun hc=>?_|fail)
    all_goals first
     |(refine kR ?_
       exact ⟨_,iC,rfl,g2,hmv,merge_end (by omega) hc1 hg3 (.refl g2) hg4 (hid (by omega)),rfl⟩)
     |skip
    refine cC rfl rfl (ih g2 b0 cap mid e b rest L (by omega) (by omega) (by omega) (by omega) k3' k4') (fun r L' hp=>?_)
    obtain ⟨rfl,g,hg5,hg6,rfl⟩:=hp
    refine kW ?_
    refine kR ?_
    exact ⟨_,iC,rfl,g,hmv.trans (hg5.mono (by omega) (Nat.le_refl _)),merge_end (by omega) hc1 hg3 hg5 hg4 hg6,rfl⟩
  ·obtain ⟨mid,hmid⟩:∃mid,mid=(a+b) / 2:=⟨_,rfl⟩
   obtain ⟨s0,hs0⟩:∃s0,s0=a:=⟨_,rfl⟩
   obtain ⟨r0,hr0⟩:∃r0,r0=m:=⟨_,rfl⟩
   have hsr:s0≤r0:=by omega
   refine WC_loop (X:=Nat × Nat) (fun x=>[(0,.slice (some ⟨b0,0,none⟩) N cap),(1,.int .i64 (a:Int)),(2,.int .i64 (m:Int)),(3,.int .i64 (b:Int)),(4,cmpV),(18,.int .i64 (mid:Int)),(19,.int .i64 ((mid+m:Nat):Int)),(20,.int .i64 (x.1:Int)),(21,.int .i64 (x.2:Int)),(22,.int .i64 ((mid+m - 1:Nat):Int))])
    (fun x=>[(b0,cl (cvs f N++rest) 352)]::L) (fun x=>s0≤x.1∧x.1≤x.2∧x.2≤r0∧(∀t,s0≤t→t < x.1→ky (f t)≤ky (f (mid+m - 1 - t)))∧∀t,x.2≤t→t < r0→ky (f (mid+m - 1 - t)) < ky (f t)) (fun x=>x.2 - x.1) (s0,r0)
    ⟨Nat.le_refl _,hsr,Nat.le_refl _,fun t p q=>by simp only at q;omega,fun t p q=>by simp only at p;omega⟩ iS (fun w h=>h) ?_
   rintro ⟨s,r⟩ ⟨q1,q2,q3,q4,q5⟩
   simp only at q1 q2 q3 q4 q5 ⊢
   refine WC_seq ?_
   (repeat' first|refine kY ?_|refine kU fun bk=>?_|refine kV fun hc=>?_|refine kZ (fun hc=>?_) fun hc=>?_|fail)
   refine WC_seq ?_
   (repeat' first|refine kY ?_|refine kU fun bk=>?_|refine kV fun hc=>?_|refine kZ (fun hc=>?_) fun hc=>?_|fail)
   ·refine kW ?_
    rw [show ((s:Int)+(r:Int)) / 2=(((s+r) / 2:Nat):Int) from by omega]
    obtain ⟨h,hh⟩:∃h,h=(s+r) / 2:=⟨_,rfl⟩
    rw [←hh]
    refine WC_drawAll [] mixed ?_
    (refine WR_t 0 ?_;refine WR_t 1 ?_;refine WR_t 2 ?_;refine WR_t 3 ?_;refine WR_t 4 ?_)
    refine cT 5 rfl rfl (EV_indexAddr0 (j:=mid+m - 1 - h) (len:=N) rfl rfl (by omega) (by omega)) ?_
    refine cT 6 rfl rfl (EV_loadAgg rfl (cv_rd (f:=f) (n:=N) (j:=mid+m - 1 - h) (rest:=rest) (by omega) (by repeat (first|assumption|exact Fnd.here|refine Fnd.there ?_))) rfl) ?_
    (refine WR_t 7 ?_;refine WR_t 8 ?_)
    refine cT 9 rfl rfl (EV_indexAddr0 (j:=h) (len:=N) rfl rfl rfl (by omega)) ?_
    refine cT 10 rfl rfl (EV_loadAgg rfl (cv_rd (f:=f) (n:=N) (j:=h) (rest:=rest) (by omega) (by repeat (first|assumption|exact Fnd.here|refine Fnd.there ?_))) rfl) ?_
    refine cI 11 rfl rfl ?_
    refine cP rfl rfl (ccmp_n (f (mid+m - 1 - h)) (f h) _) ?_
    refine ⟨iC,?_⟩
    (refine WR_t 12 ?_)
    rw [cmpZ_lt]
    (refine WR_t 13 ?_)
    refine cD ?_
    (repeat' first|refine kW ?_|refine kU fun bk=>?_|refine kV fun hc=>?_|refine kZ (fun hc=>?_) fun hc=>?_|fail)
    ·have hky:¬ky (f (mid+m - 1 - h)) < ky (f h):=by assumption
     refine WQ_round (X:=Nat × Nat) (μ:=fun x=>x.2 - x.1) (x:=(s,r)) (h+1,r) (by simp only;omega) ⟨by simp only;omega,by simp only;omega,q3,fun t p q=>?_,q5⟩ iS (fun w h=>h)
     simp only at q
     have e1:=sl t h (by omega) (by omega) (by omega)
     have e2:=sr (mid+m - 1 - h) (mid+m - 1 - t) (by omega) (by omega) (by omega)
     omega
    ·have hky:ky (f (mid+m - 1 - h)) < ky (f h):=by assumption
     refine WQ_round (X:=Nat × Nat) (μ:=fun x=>x.2 - x.1) (x:=(s,r)) (s,h) (by simp only;omega) ⟨q1,by simp only;omega,by simp only;omega,q4,fun t p q=>?_⟩ iS (fun w h=>h)
     simp only at p
     have e1:=sl h t (by omega) (by omega) (by omega)
     have e2:=sr (mid+m - 1 - t) (mid+m - 1 - h) (by omega) (by omega) (by omega)
     omega
   ·have hsr2:s=r:=by omega
    obtain ⟨e,he⟩:∃e,e=mid+m - s:=⟨_,rfl⟩
    have hem:m≤e:=by omega
    have heb:e≤b:=by omega
    have hsm:s≤m:=by omega
    obtain ⟨hc1,k1,k2,k3,k4⟩:=merge_mid (key:=ky) (f:=f) (a:=a) (s:=s) (m:=m) (mid:=mid) (e:=e) (b:=b) (by omega) hsm hem heb (by omega) sl sr
     (fun p q=>by
       have:=q4 (s - 1) (by omega) (by omega)
       rw [show mid+m - 1 - (s - 1)=e from by omega] at this
       exact this)
     (fun p q=>by
       have:=q5 s (by omega) (by omega)
       rw [show mid+m - 1 - s=e - 1 from by omega] at this
       exact Nat.le_of_lt this)
    refine WC_seq ?_
    (repeat' first|refine kY ?_|refine kU fun bk=>?_|refine kV fun hc=>?_|refine kZ (fun hc=>?_) fun hc=>?_|fail)
    refine WC_cut (X:=Nat→Nat × Nat) (fun g=>[(0,.slice (some ⟨b0,0,none⟩) N cap),(1,.int .i64 (a:Int)),(2,.int .i64 (m:Int)),(3,.int .i64 (b:Int)),(4,cmpV),(18,.int .i64 (mid:Int)),(20,.int .i64 (s:Int)),(24,.int .i64 (e:Int))])
     (fun g=>[(b0,cl (cvs g N++rest) 352)]::L) (fun g=>Mv a b f g∧g=rot f s m e) ?_ ?_
    ·have hid:¬(s < m∧m < e)→f=rot f s m e:=fun h=>(rot_id f hsm hem h).symm
     refine WC_holds' (fun w h=>h) (WC.sub (M':=[(0,.slice (some ⟨b0,0,none⟩) N cap),(1,.int .i64 (a:Int)),(2,.int .i64 (m:Int)),(3,.int .i64 (b:Int)),(4,cmpV),(18,.int .i64 (mid:Int)),(20,.int .i64 (s:Int)),(24,.int .i64 (e:Int))]) ?_ iS)
     (repeat' first|refine kW ?_|refine kU fun bk=>?_|refine kV fun hc=>?_|refine kZ (fun hc=>?_) fun hc=>?_|fail)
     all_goals first
      |exact WQ_cut f ⟨.refl f,hid (by omega)⟩ iS (fun w h=>h)
      |skip
     refine cC rfl rfl (rotate_c f N b0 cap s m e rest L hN (by omega) (by omega) (by omega)) (fun r L' hp=>?_)
     obtain ⟨rfl,g,hg1,hg2,rfl⟩:=hp
     refine kW ?_
     exact WQ_cut g ⟨hg1.mono (by omega) heb,hg2⟩ iS (fun w h=>h)
    rintro g1 ⟨hg1,hg2⟩
    rw [←hg2] at hc1 k1 k2 k3 k4
    refine WC_cut (X:=Nat→Nat × Nat) (fun g=>[(0,.slice (some ⟨b0,0,none⟩) N cap),(1,.int .i64 (a:Int)),(2,.int .i64 (m:Int)),(3,.int .i64 (b:Int)),(4,cmpV),(18,.int .i64 (mid:Int)),(20,.int .i64 (s:Int)),(24,.int .i64 (e:Int))])
     (fun g=>[(b0,cl (cvs g N++rest) 352)]::L) (fun g=>Mv a mid g1 g∧Srt ky a mid g) ?_ ?_
    ·have hid:¬(a < s∧s < mid)→Srt ky a mid g1:=fun h=>by
      by_cases e1:s=a
      ·rw [e1] at k2;exact k2
      ·rw [show mid=s from by omega];exact k1
     (repeat' first|refine kW ?_|refine kU fun bk=>?_|refine kV fun hc=>?_|refine kZ (fun hc=>?_) fun hc=>?_|fail)
     all_goals first
      |exact WQ_cut g1 ⟨.refl g1,hid (by omega)⟩ iS (fun w h=>h)
      |skip
     refine cC rfl rfl (ih g1 b0 cap a s mid rest L (by omega) (by omega) (by omega) (by omega) k1 k2) (fun r L' hp=>?_)
     obtain ⟨rfl,g,hg3,hg4,rfl⟩:=hp
     refine kW ?_
     exact WQ_cut g ⟨hg3,hg4⟩ iS (fun w h=>h)
    rintro g2 ⟨hg3,hg4⟩
    have k3':Srt ky mid e g2:=k3.congr fun k p q=>hg3.out (.inr p)
    have k4':Srt ky e b g2:=k4.congr fun k p q=>hg3.out (.inr (by omega))
    have hmv:Mv a b f g2:=hg1.trans (hg3.mono (Nat.le_refl _) (by omega))
    have hid:¬(mid < e∧e < b)→Srt ky mid b g2:=fun h=>by
     by_cases e1:e=mid
     ·rw [e1] at k4';exact k4'
     ·rw [show b=e from by omega];exact k3'
    (repeat' first|refine kW ?_|refine kU fun bk=>?_|refine kV fun hc=>?_|refine kZ (fun hc=>?_) fun hc=>?_|fail)
    all_goals first
     |(refine kR ?_
       exact ⟨_,iC,rfl,g2,hmv,merge_end (by omega) hc1 hg3 (.refl g2) hg4 (hid (by omega)),rfl⟩)
     |skip
    refine cC rfl rfl (ih g2 b0 cap mid e b rest L (by omega) (by omega) (by omega) (by omega) k3' k4') (fun r L' hp=>?_)
    obtain ⟨rfl,g,hg5,hg6,rfl⟩:=hp
    refine kW ?_
    refine kR ?_
    exact ⟨_,iC,rfl,g,hmv.trans (hg5.mono (by omega) (Nat.le_refl _)),merge_end (by omega) hc1 hg3 hg5 hg4 hg6,rfl⟩
end Go.Proofs.YtemdlifojcgplaaGreatDoor
namespace Go.So
set_option linter.all false
variable {α : Type}
def Blk (key:α→Nat) (s n:Nat) (f:Nat→α):Prop:=∀c,s ∣ c→Srt key c (min (c+s) n) f
theorem dvd_step {d c a:Nat} (h1:d ∣ c) (h2:d ∣ a) (h:c < a):c+d≤a:=by
 obtain ⟨x,rfl⟩:=h1
 obtain ⟨y,rfl⟩:=h2
 have hxy:x < y:=by
  rcases Nat.lt_or_ge x y with h'|h'
  ·exact h'
  ·have:=Nat.mul_le_mul_left d h'
   omega
 have:=Nat.mul_le_mul_left d hxy
 rw [Nat.mul_succ] at this
 exact this
structure Half (key:α→Nat) (s n a:Nat) (f:Nat→α):Prop where
 al:2 * s ∣ a
 le:a≤n
 lo:∀c,2 * s ∣ c→c+2 * s≤a→Srt key c (c+2 * s) f
 hi:∀c,s ∣ c→a≤c→Srt key c (min (c+s) n) f
theorem Half.start {key:α→Nat} {s n:Nat} {f:Nat→α} (hs:0 < s) (h:Blk key s n f):Half key s n 0 f:=⟨Nat.dvd_zero _,Nat.zero_le _,fun c hc h2=>by omega,fun c hc _=>h c hc⟩
theorem Half.dv {key:α→Nat} {s n a:Nat} {f:Nat→α} (h:Half key s n a f):s ∣ a:=Nat.dvd_trans (Nat.dvd_mul_left s 2) h.al
theorem Half.two {key:α→Nat} {s n a:Nat} {f:Nat→α} (h:Half key s n a f) (hb:a+s≤n):Srt key a (a+s) f∧Srt key (a+s) (min (a+2 * s) n) f:=by
 have h1:=h.hi a h.dv (Nat.le_refl _)
 have h2:=h.hi (a+s) (Nat.dvd_add h.dv (Nat.dvd_refl s)) (by omega)
 rw [Nat.min_eq_left hb] at h1
 rw [show a+s+s=a+2 * s from by omega] at h2
 exact ⟨h1,h2⟩
theorem Half.step {key:α→Nat} {s n a:Nat} {f g:Nat→α} (hs:0 < s) (h:Half key s n a f) (hb:a+2 * s≤n) (hm:Mv a (a+2 * s) f g) (ho:Srt key a (a+2 * s) g):Half key s n (a+2 * s) g:=by
 refine ⟨Nat.dvd_add h.al (Nat.dvd_refl _),hb,fun c hc h2=>?_,fun c hc h2=>?_⟩
 ·by_cases e:c=a
  ·rw [e];exact ho
  ·have h3:c < a:=by omega
   have h4:=dvd_step hc h.al h3
   exact (h.lo c hc h4).congr fun k p q=>hm.out (.inl (by omega))
 ·exact (h.hi c hc (by omega)).congr fun k p q=>hm.out (.inr (by omega))
theorem Half.fin {key:α→Nat} {s n a:Nat} {f g:Nat→α} (hs:0 < s) (h:Half key s n a f) (hb:n < a+2 * s) (hm:Mv a n f g) (ho:Srt key a n g):Blk key (2 * s) n g:=by
 intro c hc
 by_cases e:c < a
 ·have h4:=dvd_step hc h.al e
  rw [Nat.min_eq_left (by have:=h.le;omega)]
  exact (h.lo c hc h4).congr fun k p q=>hm.out (.inl (by omega))
 ·by_cases e2:c=a
  ·rw [e2,Nat.min_eq_right (by omega)];exact ho
  ·have h4:=dvd_step h.al hc (by omega)
   intro i j p q r
   omega
end Go.So
namespace Go.Proofs.YtemdlifojcgplaaGreatDoor
open Go Go.Vx Go.So
variable [W0]
set_option maxRecDepth 4000
set_option linter.all false
theorem insert_nil (v:Value) (L:List Chunk):GvP Tryz.prog 297 [v,.int .i64 0,.int .i64 0,cmpV].toArray L (.tuple #[]):=by
 refine Gv.of_body Tryz.func297 rfl rfl ?_
 refine kW ?_
 refine WC_loop (X:=Unit) (fun _=>[(2,.int .i64 0),(8,.int .i64 1)]) (fun _=>L) (fun _=>True) (fun _=>0) () trivial iS (fun w h=>h) ?_
 intro _ _
 refine kW ?_
 exact kE
theorem stable_c (f:Nat→Nat × Nat) (N b0 cap:Nat) (rest:List Value) (L:List Chunk) (hN:N≤1000) :
 Gv Tryz.prog 293 [.slice (some ⟨b0,0,none⟩) N cap,.int .i64 (N:Int),cmpV].toArray ([(b0,cl (cvs f N++rest) 352)]::L)
  (fun r L'=>r=.tuple #[]∧∃g,Mv 0 N f g∧Srt ky 0 N g∧L'=[(b0,cl (cvs g N++rest) 352)]::L):=by
 refine Gv.of_body Tryz.func293 rfl rfl ?_
 refine kW ?_
 refine WC_loop (X:=Nat × (Nat→Nat × Nat)) (fun x=>[(0,.slice (some ⟨b0,0,none⟩) N cap),(1,.int .i64 (N:Int)),(2,cmpV),(6,.int .i64 20),(7,.int .i64 (x.1:Int)),(8,.int .i64 ((x.1+20:Nat):Int))])
  (fun x=>[(b0,cl (cvs x.2 N++rest) 352)]::L) (fun x=>20 ∣ x.1∧x.1≤N∧Mv 0 N f x.2∧∀c,20 ∣ c→c+20≤x.1→Srt ky c (c+20) x.2) (fun x=>N - x.1) (0,f)
  ⟨Nat.dvd_zero _,Nat.zero_le _,.refl f,fun c hc h=>by simp only at h;omega⟩ iS (fun w h=>h) ?_
 rintro ⟨a,g⟩ ⟨q1,q2,q3,q4⟩
 simp only at q1 q2 q3 q4 ⊢
 (repeat' first|refine kW ?_|refine kU fun bk=>?_|refine kV fun hc=>?_|refine kZ (fun hc=>?_) fun hc=>?_|fail)
 ·refine cC rfl rfl (insert_c g N b0 cap a (a+20) rest L hN (by omega) (by omega)) (fun r L' hp=>?_)
  obtain ⟨rfl,g1,hg1,hg2,rfl⟩:=hp
  refine kW ?_
  refine WQ_round (X:=Nat × (Nat→Nat × Nat)) (μ:=fun x=>N - x.1) (x:=(a,g)) (a+20,g1) (by simp only;omega) ⟨Nat.dvd_add q1 (Nat.dvd_refl _),by simp only;omega,q3.trans (hg1.mono (Nat.zero_le _) (by omega)),fun c hc h=>?_⟩ iS (fun w h=>h)
  simp only at h
  by_cases e:c=a
  ·rw [e];exact hg2
  ·have h4:=dvd_step hc q1 (by omega)
   exact (q4 c hc h4).congr fun k p q=>hg1.out (.inl (by omega))
 ·refine cC rfl rfl (insert_c g N b0 cap a N rest L hN q2 (Nat.le_refl _)) (fun r L' hp=>?_)
  obtain ⟨rfl,g1,hg1,hg2,rfl⟩:=hp
  have hblk:Blk ky 20 N g1:=by
   intro c hc
   by_cases e:c < a
   ·have h4:=dvd_step hc q1 e
    rw [Nat.min_eq_left (by omega)]
    exact (q4 c hc h4).congr fun k p q=>hg1.out (.inl (by omega))
   ·by_cases e2:c=a
    ·rw [e2,Nat.min_eq_right (by omega)];exact hg2
    ·have h4:=dvd_step q1 hc (by omega)
     intro i j p q r
     omega
  have hmv:Mv 0 N f g1:=q3.trans (hg1.mono (Nat.zero_le _) (Nat.le_refl _))
  clear hg1 hg2 q1 q2 q3 q4
  refine kW ?_
  refine WC_loop (X:=Nat × (Nat→Nat × Nat)) (fun x=>[(0,.slice (some ⟨b0,0,none⟩) N cap),(1,.int .i64 (N:Int)),(2,cmpV),(6,.int .i64 (x.1:Int))])
   (fun x=>[(b0,cl (cvs x.2 N++rest) 352)]::L) (fun x=>0 < x.1∧Mv 0 N f x.2∧Blk ky x.1 N x.2) (fun x=>N - x.1) (20,g1)
   ⟨by simp only;omega,hmv,hblk⟩ iS (fun w h=>h) ?_
  rintro ⟨s,g2⟩ ⟨r1,r2,r3⟩
  simp only at r1 r2 r3 ⊢
  (repeat' first|refine kW ?_|refine kU fun bk=>?_|refine kV fun hc=>?_|refine kZ (fun hc=>?_) fun hc=>?_|fail)
  ·refine WC_loop (X:=Nat × (Nat→Nat × Nat)) (fun x=>[(0,.slice (some ⟨b0,0,none⟩) N cap),(1,.int .i64 (N:Int)),(2,cmpV),(6,.int .i64 (s:Int)),(7,.int .i64 (x.1:Int)),(8,.int .i64 ((x.1+2 * s:Nat):Int))])
    (fun x=>[(b0,cl (cvs x.2 N++rest) 352)]::L) (fun x=>Mv 0 N f x.2∧Half ky s N x.1 x.2) (fun x=>N - x.1) (0,g2)
    ⟨r2,Half.start r1 r3⟩ iS (fun w h=>h) ?_
   rintro ⟨a2,g3⟩ ⟨t1,t2⟩
   simp only at t1 t2 ⊢
   have t3:=t2.le
   (repeat' first|refine kW ?_|refine kU fun bk=>?_|refine kV fun hc=>?_|refine kZ (fun hc=>?_) fun hc=>?_|fail)
   ·rw [show (a2:Int)+(s:Int)=((a2+s:Nat):Int) from by omega]
    obtain ⟨u1,u2⟩:=t2.two (by omega)
    rw [Nat.min_eq_left (by omega)] at u2
    refine cC rfl rfl (merge_c N hN (2 * s) g3 b0 cap a2 (a2+s) (a2+2 * s) rest L (by omega) (by omega) (by omega) (by omega) u1 u2) (fun r L' hp=>?_)
    obtain ⟨rfl,g4,hg1,hg2,rfl⟩:=hp
    refine kW ?_
    refine WQ_round (X:=Nat × (Nat→Nat × Nat)) (μ:=fun x=>N - x.1) (x:=(a2,g3)) (a2+2 * s,g4) (by simp only;omega) ⟨t1.trans (hg1.mono (Nat.zero_le _) (by omega)),t2.step r1 (by omega) hg1 hg2⟩ iS (fun w h=>h)
   ·rw [show (a2:Int)+(s:Int)=((a2+s:Nat):Int) from by omega]
    obtain ⟨u1,u2⟩:=t2.two (by omega)
    rw [Nat.min_eq_right (by omega)] at u2
    refine cC rfl rfl (merge_c N hN N g3 b0 cap a2 (a2+s) N rest L (by omega) (by omega) (by omega) (Nat.le_refl _) u1 u2) (fun r L' hp=>?_)
    obtain ⟨rfl,g4,hg1,hg2,rfl⟩:=hp
    refine kW ?_
    refine WQ_round (X:=Nat × (Nat→Nat × Nat)) (μ:=fun x=>N - x.1) (x:=(s,g2)) (2 * s,g4) (by simp only;omega) ⟨by simp only;omega,t1.trans (hg1.mono (Nat.zero_le _) (Nat.le_refl _)),t2.fin r1 (by omega) hg1 hg2⟩ iS (fun w h=>h)
   ·have u1:=t2.hi a2 t2.dv (Nat.le_refl _)
    rw [Nat.min_eq_right (by omega)] at u1
    refine WQ_round (X:=Nat × (Nat→Nat × Nat)) (μ:=fun x=>N - x.1) (x:=(s,g2)) (2 * s,g3) (by simp only;omega) ⟨by simp only;omega,t1,t2.fin r1 (by omega) (.refl g3) u1⟩ iS (fun w h=>h)
  ·have u1:=r3 0 (Nat.dvd_zero _)
   rw [Nat.min_eq_right (by omega)] at u1
   refine kR ?_
   exact ⟨_,iC,rfl,g2,r2,u1,rfl⟩
theorem stable_nil (v:Value) (L:List Chunk):GvP Tryz.prog 293 [v,.int .i64 0,cmpV].toArray L (.tuple #[]):=by
 refine Gv.of_body Tryz.func293 rfl rfl ?_
 refine kW ?_
 refine WC_loop (X:=Unit) (fun _=>[(0,v),(1,.int .i64 0),(2,cmpV),(6,.int .i64 20),(7,.int .i64 0),(8,.int .i64 20)]) (fun _=>L) (fun _=>True) (fun _=>0) () trivial iS (fun w h=>h) ?_
 intro _ _
 refine kW ?_
 refine cP rfl rfl (insert_nil v L) ?_
 refine kW ?_
 refine WC_loop (X:=Unit) (fun _=>[(1,.int .i64 0),(6,.int .i64 20)]) (fun _=>L) (fun _=>True) (fun _=>0) () trivial iS (fun w h=>h) ?_
 intro _ _
 refine kW ?_
 exact kE
theorem sortst_c (f:Nat→Nat × Nat) (N b0 cap:Nat) (rest:List Value) (L:List Chunk) (hN:N≤1000) :
 Gv Tryz.prog 286 [.slice (some ⟨b0,0,none⟩) N cap,cmpV].toArray ([(b0,cl (cvs f N++rest) 352)]::L)
  (fun r L'=>r=.tuple #[]∧∃g,Mv 0 N f g∧Srt ky 0 N g∧L'=[(b0,cl (cvs g N++rest) 352)]::L):=by
 refine Gv.of_body Tryz.func286 rfl rfl ?_
 refine kW ?_
 refine cC rfl rfl (stable_c f N b0 cap rest L hN) (fun r L' hp=>?_)
 obtain ⟨rfl,g,h1,h2,rfl⟩:=hp
 refine kW ?_
 refine kR ?_
 exact ⟨_,iC,rfl,g,h1,h2,rfl⟩
theorem sortst_nil (L:List Chunk):GvP Tryz.prog 286 [.slice none 0 0,cmpV].toArray L (.tuple #[]):=by
 refine Gv.of_body Tryz.func286 rfl rfl ?_
 refine kW ?_
 refine cP rfl rfl (stable_nil _ L) ?_
 refine kW ?_
 exact kE
end Go.Proofs.YtemdlifojcgplaaGreatDoor
namespace Go.Proofs.YtemdlifojcgplaaGreatDoor
open Go Go.Vx
variable [W0]
set_option maxRecDepth 4000
set_option linter.all false
omit [W0] in
def ckV (a:Option Addr) (m k:Nat):Value:=match a with
 |some ⟨b,off,none⟩=>.slice (some ⟨b,off+2 * k * 2,none⟩) (min 2 (m - 2 * k)) (min 2 (m - 2 * k))
 |x=>.slice x 0 0
omit [W0] in
def ckS (a:Option Addr) (m:Nat):List (List Value):=(List.range ((m+1) / 2)).map fun k=>[ckV a m k]
theorem ckS_length (a:Option Addr) (m:Nat):(ckS a m).length=(m+1) / 2:=by simp [ckS]
theorem ckS_get (a:Option Addr) (m:Nat) {k:Nat} (h:k < (m+1) / 2):(ckS a m).getD k []=[ckV a m k]:=by simp [ckS,List.getD,h]
omit [W0] in
def HdS (a:Option Addr) (m c:Nat):Prop:=m≤c∧((a=none∧m=0)∨∃b off,a=some ⟨b,off,none⟩)
theorem chunk_c (a:Option Addr) (m c:Nat) (L:List Chunk) :
 Gv Tryz.prog 299 [.slice a m c,.int .i64 2].toArray L
  (fun r L'=>∃p q,r=.func (.func 301) #[] #[.pointer (some ⟨p,0,none⟩),.pointer (some ⟨q,0,none⟩)]∧L'=[(q,cl [.int .i64 2] 3)]::[(p,cl [.slice a m c] 363)]::L):=by
 refine Gv.of_body Tryz.func299 rfl rfl ?_
 (refine kW ?_;refine kU fun bk=>?_;refine kW ?_;refine kU fun bk=>?_;refine kW ?_)
 refine kH ?_
 exact ⟨_,fun w h=>h,_,_,rfl,rfl⟩
theorem chunk_it (a:Option Addr) (m c p q:Nat) (hm:m≤100000) (hh:HdS a m c) :
 It Tryz.prog 301 [.pointer (some ⟨p,0,none⟩),.pointer (some ⟨q,0,none⟩)].toArray ([(q,cl [.int .i64 2] 3)]::[(p,cl [.slice a m c] 363)]::[]) (ckS a m):=by
 refine It.of_body Tryz.func301 rfl rfl fun l J L0 h0 hy=>?_
 obtain ⟨Lit,hLit⟩:∃Lit:List Chunk,Lit=[(q,cl [.int .i64 2] 3)]::[(p,cl [.slice a m c] 363)]::[]:=⟨_,rfl⟩
 rw [←hLit]
 have fq:∀L',Fnd (L'++Lit) q (cl [.int .i64 2] 3):=fun L'=>by rw [hLit];exact Fnd.right Fnd.here
 have fp:∀L',Fnd (L'++Lit) p (cl [.slice a m c] 363):=fun L'=>by rw [hLit];exact Fnd.right (Fnd.there Fnd.here)
 (repeat' first|refine kI ?_|refine kU fun bk=>?_|refine kJ fun hc=>?_|refine kK (fun hc=>?_) fun hc=>?_|fail)
 refine WI_loop (X:=Nat × List Chunk) (fun x=>[(0,.func (.yield l) #[] #[]),(1,.pointer (some ⟨p,0,none⟩)),(2,.pointer (some ⟨q,0,none⟩)),(4,.int .i64 ((2 * x.1:Nat):Int))])
  (fun x=>x.2++Lit) (fun x=>x.1≤(ckS a m).length∧J x.1 x.2) (fun x=>(ckS a m).length - x.1) (0,L0) ⟨Nat.zero_le _,h0⟩ iS (fun w h=>h) ?_
 rintro ⟨k,L'⟩ ⟨hk,hj⟩
 simp only at hk hj ⊢
 rw [ckS_length] at hk
 (repeat' first|refine kI ?_|refine kU fun bk=>?_|refine kJ fun hc=>?_|refine kK (fun hc=>?_) fun hc=>?_|fail)
 refine OW_EV (EV_loadc rfl (fp L') rfl) rfl ?_
 (repeat' first|refine kI ?_|refine kU fun bk=>?_|refine kJ fun hc=>?_|refine kK (fun hc=>?_) fun hc=>?_|fail)
 ·have hlt:2 * k < m:=by omega
  obtain ⟨hmc,hh⟩:=hh
  obtain ⟨b,off,rfl⟩:∃b off,a=some ⟨b,off,none⟩:=by
   rcases hh with ⟨_,h⟩|h
   ·omega
   ·exact h
  refine WI_draw (L'++Lit) [] (by repeat (first|with_reducible exact NL.body|with_reducible exact RP_nl|with_reducible exact AP_nl|with_reducible refine NL.then ?_|with_reducible refine NL.block ?_)) rfl mixed ?_
  refine cT 0 rfl rfl (EV_loadc rfl (fq L') rfl) ?_
  refine cT 1 rfl rfl (EV_loadc rfl (fp L') rfl) ?_
  (refine WR_t 2 ?_)
  refine cT 3 rfl rfl (EV_sliceSl (l:=2 * k) (h:=m) rfl (bnd_int rfl rfl) rfl (by omega) hmc) ?_
  (refine WR_t 4 ?_;refine WR_t 5 ?_)
  obtain ⟨e,he⟩:∃e,e=min 2 (m - 2 * k):=⟨_,rfl⟩
  rw [show min (2:Int) ((m - 2 * k:Nat):Int)=(e:Int) from by omega]
  (refine WR_t 6 ?_)
  refine cD ?_
  have hck:ckV (some ⟨b,off,none⟩) m k=.slice (some ⟨b,off+2 * k * 2,none⟩) e e:=by rw [he];rfl
  (repeat' first|refine kI ?_|refine kU fun bk=>?_|refine kJ fun hc=>?_|refine kK (fun hc=>?_) fun hc=>?_|fail)
  refine WI_list ?_
  (repeat' first|refine kL ?_|refine kU fun bk=>?_|refine kJ fun hc=>?_|refine kK (fun hc=>?_) fun hc=>?_|fail)
  refine OW_EV (EV_loadc rfl (fp L') rfl) rfl ?_
  (repeat' first|refine kL ?_|refine kU fun bk=>?_|refine kJ fun hc=>?_|refine kK (fun hc=>?_) fun hc=>?_|fail)
  rw [show ((2 * k:Nat):Int)+(e:Int)=((2 * k+e:Nat):Int) from by omega]
  refine OW_EV (EV_slice3 (l:=2 * k) (h:=2 * k+e) (m:=2 * k+e) rfl rfl rfl rfl (by omega) (Nat.le_refl _) (by omega)) rfl ?_
  rw [if_neg (by omega),show 2 * k+e - 2 * k=e from by omega,←hck]
  have hyk:=hy Lit k L' (by rw [ckS_length];omega) hj
  rw [ckS_get _ _ (by omega)] at hyk
  refine WJ_yield rfl rfl hyk rfl ?_
  rintro L'' ⟨L3,hj3,rfl⟩
  (repeat' first|refine kL ?_|refine kU fun bk=>?_|refine kJ fun hc=>?_|refine kK (fun hc=>?_) fun hc=>?_|fail)
  (repeat' first|refine kI ?_|refine kU fun bk=>?_|refine kJ fun hc=>?_|refine kK (fun hc=>?_) fun hc=>?_|fail)
  refine OW_EV (EV_loadc rfl (fq L3) rfl) rfl ?_
  (repeat' first|refine kI ?_|refine kU fun bk=>?_|refine kJ fun hc=>?_|refine kK (fun hc=>?_) fun hc=>?_|fail)
  refine WQ_round (X:=Nat × List Chunk) (μ:=fun x=>(ckS (some ⟨b,off,none⟩) m).length - x.1) (x:=(k,L')) (k+1,L3) (by simp only [ckS_length];omega) ⟨by simp only [ckS_length];omega,hj3⟩ iS (fun w h=>h)
 ·have hke:k=(m+1) / 2:=by omega
  refine kH ?_
  refine ⟨_,fun w h=>h,L',?_,rfl⟩
  rw [ckS_length,←hke]
  exact hj
end Go.Proofs.YtemdlifojcgplaaGreatDoor
namespace Go.Pm
set_option linter.all false
theorem pairs_get:∀{l:List Pm.It} {k:Nat} {x y:Pm.It},l[2 * k]? =some x→l[2 * k+1]? =some y→(pairs l)[k]? =some (pack x y)
 |[],k,x,y,h,_=>by simp at h
 |[_],0,x,y,_,h=>by simp at h
 |[_],k+1,x,y,h,_=>by simp at h
 |a::b::r,0,x,y,h1,h2=>by
  simp at h1 h2
  subst h1 h2
  rfl
 |a::b::r,k+1,x,y,h1,h2=>by
  rw [show 2 * (k+1)=2 * k+1+1 from by omega,List.getElem?_cons_succ,List.getElem?_cons_succ] at h1
  rw [show 2 * (k+1)+1=2 * k+1+1+1 from by omega,List.getElem?_cons_succ,List.getElem?_cons_succ] at h2
  rw [pairs,List.getElem?_cons_succ]
  exact pairs_get h1 h2
end Go.Pm
namespace Go.Proofs.YtemdlifojcgplaaGreatDoor
open Go Go.Vx
variable [W0]
set_option maxRecDepth 4000
set_option linter.all false
omit [W0] in
def itv (x:Pm.It):List Value:=[.int .i64 (x.w:Int),.bool (!Pm.isC x)]
omit [W0] in
def itvs (l:List Pm.It):List Value:=l.flatMap itv
theorem itvs_length (l:List Pm.It):(itvs l).length=l.length * 2:=by
 induction l with
 |nil=>rfl
 |cons x r ih=>simp [itvs,itv] at ih ⊢;omega
theorem itvs_app (a b:List Pm.It):itvs (a++b)=itvs a++itvs b:=by simp [itvs]
theorem itvs_ones (l:List Pm.It):ones (itvs l)=true:=by
 induction l with
 |nil=>rfl
 |cons x r ih=>
  have e:itvs (x::r)=.int .i64 (x.w:Int)::.bool (!Pm.isC x)::itvs r:=rfl
  rw [e]
  simpa [ones,Value.oneCell'] using ih
theorem itvs_get:∀{l:List Pm.It} {i:Nat} {x:Pm.It},l[i]? =some x→(itvs l)[i * 2]? =some (.int .i64 (x.w:Int))∧(itvs l)[i * 2+1]? =some (.bool (!Pm.isC x))
 |[],i,x,h=>by simp at h
 |a::r,0,x,h=>by
  simp at h
  subst h
  exact ⟨rfl,rfl⟩
 |a::r,i+1,x,h=>by
  simp at h
  have ih:=itvs_get h
  have e:itvs (a::r)=.int .i64 (a.w:Int)::.bool (!Pm.isC a)::itvs r:=rfl
  rw [e,show (i+1) * 2=i * 2+1+1 from by omega]
  exact ih
theorem ow_one2 {e k m:Nat} {v:Value} {xs:List Value} {C:Chunk} (h:Ow e k v m xs C):v.oneCell'=true:=by
 rcases h with ⟨rfl,_⟩|⟨b,cap,rest,rfl,_⟩<;>rfl
theorem pairs_c (v:Value) (l:List Pm.It) (Cb:Chunk) (L:List Chunk) (hO:Ow 372 2 v l.length (itvs l) Cb) (hl:l.length≤1000) (hw:∀x∈l,x.w≤2305843009213693952) :
 Gv Tryz.prog 295 [v].toArray (Cb::L) (fun r L'=>∃C,L'=C::Cb::L∧Ow 372 2 r (Pm.pairs l).length (itvs (Pm.pairs l)) C):=by
 obtain ⟨a,c,rfl,hh⟩:∃a c,v=.slice a l.length c∧HdS a l.length c:=by
  rcases hO with ⟨rfl,h1,_⟩|⟨b,cap,rest,rfl,_,_,_,h2,_⟩
  ·rw [h1];exact ⟨_,_,rfl,Nat.le_refl _,.inl ⟨rfl,rfl⟩⟩
  ·exact ⟨_,_,rfl,h2,.inr ⟨b,0,rfl⟩⟩
 refine Gv.of_bodyM Tryz.func295 rfl rfl ?_
 (refine kW ?_;refine kU fun bk=>?_;refine kW ?_)
 obtain ⟨b3,hb3⟩:∃b3,b3=bk:=⟨_,rfl⟩
 rw [←hb3]
 clear hb3
 refine cC rfl rfl (chunk_c a l.length c _) (fun r L' hp=>?_)
 obtain ⟨p,q,rfl,rfl⟩:=hp
 refine kW ?_
 obtain ⟨J,hJ⟩:∃J:Nat→List Chunk→Prop,∀k L',J k L'↔∃v C,Ow 372 2 v ((Pm.pairs l).take k).length (itvs ((Pm.pairs l).take k)) C∧L'=[(b3,cl [v] 363)]::C::Cb::L:=⟨fun k L'=>∃v C,Ow 372 2 v ((Pm.pairs l).take k).length (itvs ((Pm.pairs l).take k)) C∧L'=[(b3,cl [v] 363)]::C::Cb::L,fun _ _=>Iff.rfl⟩
 refine WC_range (ps:=[7]) rfl (chunk_it a l.length c p q (by omega) hh) J ([(b3,cl [.slice none 0 0] 363)]::[]::Cb::L) ((hJ _ _).2 ⟨_,[],.inl ⟨rfl,rfl,rfl,rfl⟩,rfl⟩) (fun w h=>?_) (fun k hk=>by rw [ckS_length] at hk;rw [ckS_get _ _ hk];rfl) rfl
  (fun k _=>[(3,.pointer (some ⟨b3,0,none⟩)),(4,ckV a l.length k)]) (fun lp k L' R hk hj=>?_) (fun lp k L' R hk hj=>?_) (fun D a' w L3 hst hd hj hw'=>?_)
 ·have h2:=h.perm (List.perm_append_comm (l₁:=[[(q,cl [.int .i64 2] 3)],[(p,cl [.slice a l.length c] 363)]]) (l₂:=[(b3,cl [.slice none 0 0] 363)]::Cb::L))
  exact Holds.gap.2 h2
 ·rw [ckS_length] at hk
  rw [ckS_get _ _ hk]
  show Wic _ _ _ _ _ ((7,ckV a l.length k)::_) _
  (repeat' first|refine kI ?_|refine kU fun bk=>?_|refine kJ fun hc=>?_|refine kK (fun hc=>?_) fun hc=>?_|fail)
  exact WQ_AP iS (fun w h=>h)
 ·rw [ckS_length] at hk
  obtain ⟨v,C,ho,rfl⟩:=(hJ _ _).1 hj
  rcases hO with ⟨_,h1,_⟩|⟨b,cap,rest,hv,rfl,hxl,hrl,hmc,_⟩
  ·omega
  injection hv with e1 e2 e3
  subst e1 e3
  clear e2
  show Wic _ _ _ _ _ _ ([(b3,cl [v] 363)]::C::[(b,cl (itvs l++rest) 372)]::(L++R))
  have hpl:=Pm.pairs_length l
  by_cases h2:2 * k+2≤l.length
  ·have hck:ckV (some ⟨b,0,none⟩) l.length k=.slice (some ⟨b,0+2 * k * 2,none⟩) 2 2:=by
    show Value.slice (some ⟨b,0+2 * k * 2,none⟩) (min 2 (l.length - 2 * k)) (min 2 (l.length - 2 * k))=_
    rw [Nat.min_eq_left (by omega)]
   obtain ⟨x,hx⟩:∃x,l[2 * k]? =some x:=⟨l[2 * k],by simp [show 2 * k < l.length from by omega]⟩
   obtain ⟨y,hy⟩:∃y,l[2 * k+1]? =some y:=⟨l[2 * k+1],by simp [show 2 * k+1 < l.length from by omega]⟩
   have hwx:=hw x (List.mem_of_getElem? hx)
   have hwy:=hw y (List.mem_of_getElem? hy)
   have hpg:=Pm.pairs_get hx hy
   have hgx:nth (itvs l++rest) (0+2 * k * 2+0 * 2+0)=some (.int .i64 (x.w:Int)):=by
    have h3:=(itvs_get hx).1
    rw [nth_eq,show 0+2 * k * 2+0 * 2+0=2 * k * 2 from by omega,List.getElem?_append_left (List.getElem?_eq_some_iff.1 h3).1]
    exact h3
   have hgy:nth (itvs l++rest) (0+2 * k * 2+1 * 2+0)=some (.int .i64 (y.w:Int)):=by
    have h3:=(itvs_get hy).1
    rw [nth_eq,show 0+2 * k * 2+1 * 2+0=(2 * k+1) * 2 from by omega,List.getElem?_append_left (List.getElem?_eq_some_iff.1 h3).1]
    exact h3
   have htk:(Pm.pairs l).take (k+1)=(Pm.pairs l).take k++[Pm.pack x y]:=by rw [List.take_add_one,hpg];rfl
   have htl:((Pm.pairs l).take k).length=k:=by rw [List.length_take,hpl];omega
   rw [hck]
   (repeat' first|refine kI ?_|refine kU fun bk=>?_|refine kJ fun hc=>?_|refine kK (fun hc=>?_) fun hc=>?_|fail)
   refine WI_draw [[(b3,cl [v] 363)],[(b,cl (itvs l++rest) 372)]] [13] (by repeat (first|with_reducible exact NL.body|with_reducible exact RP_nl|with_reducible exact AP_nl|with_reducible refine NL.then ?_|with_reducible refine NL.block ?_)) rfl mixed ?_
   (refine WR_r 0 ?_;refine WR_r 1 ?_)
   refine cT 2 rfl rfl (EV_indexAddr (j:=0) rfl rfl rfl (by omega)) ?_
   refine cT 3 rfl rfl (EV_fieldAddr rfl) ?_
   refine cT 4 rfl rfl (EV_loadc rfl (Fnd.there Fnd.here) hgx) ?_
   (refine WR_r 5 ?_)
   refine cT 6 rfl rfl (EV_indexAddr (j:=1) rfl rfl rfl (by omega)) ?_
   refine cT 7 rfl rfl (EV_fieldAddr rfl) ?_
   refine cT 8 rfl rfl (EV_loadc rfl (Fnd.there Fnd.here) hgy) ?_
   (refine WR_r 9 ?_)
   rw [←Int.natCast_add]
   (refine WR_r 10 ?_)
   refine cI 11 rfl rfl ?_
   refine OW_buildSlice (cs:=itv (Pm.pack x y)) rfl (by rfl) (by simp [fillL,patch,Value.cells,zeros];rfl) (by omega) rfl rfl (fun bs=>?_)
   refine ⟨iC,?_⟩
   refine cI 12 rfl rfl ?_
   refine OW_append rfl rfl ho (sl_cells (k:=2) (c:=(itv (Pm.pack x y)).toArray) (xs:=itv (Pm.pack x y)) (m:=1) Fnd.here rfl (by simp)) (by repeat (first|exact Zip.here _|apply Zip.there)) rfl (by rfl) (by omega) (by simp [maxLen];omega) rfl (fun v' C' ho' _ _=>?_)
   refine ⟨iC,?_⟩
   refine cL 13 rfl rfl rfl ?_
   refine OW_storeTo [v'] rfl rfl (ow_one2 ho') rfl iU (by simp) ?_
   refine cD ?_
   (repeat' first|refine kI ?_|refine kU fun bk=>?_|refine kJ fun hc=>?_|refine kK (fun hc=>?_) fun hc=>?_|fail)
   refine WQ_RP ([(b3,cl [v'] 363)]::C'::[(b,cl (itvs l++rest) 372)]::L) ((hJ _ _).2 ⟨v',C',?_,rfl⟩) (fun w h=>h.drop)
   rw [htk,itvs_app,List.length_append]
   exact ho'
  ·have hck:ckV (some ⟨b,0,none⟩) l.length k=.slice (some ⟨b,0+2 * k * 2,none⟩) 1 1:=by
    show Value.slice (some ⟨b,0+2 * k * 2,none⟩) (min 2 (l.length - 2 * k)) (min 2 (l.length - 2 * k))=_
    rw [show min 2 (l.length - 2 * k)=1 from by omega]
   rw [hck]
   (repeat' first|refine kI ?_|refine kU fun bk=>?_|refine kJ fun hc=>?_|refine kK (fun hc=>?_) fun hc=>?_|fail)
   refine WQ_RP ([(b3,cl [v] 363)]::C::[(b,cl (itvs l++rest) 372)]::L) ((hJ _ _).2 ⟨v,C,?_,rfl⟩) (fun w h=>h)
   have e1:(Pm.pairs l).take (k+1)=(Pm.pairs l).take k:=by rw [List.take_of_length_le (by omega),List.take_of_length_le (by omega)]
   rw [e1]
   exact ho
 ·obtain ⟨v,C,ho,rfl⟩:=(hJ _ _).1 hj
  rw [ckS_length,List.take_of_length_le (by rw [Pm.pairs_length];omega)] at ho
  have hw2:Holds w (([(D,.deferred (some []))]::[(b3,cl [v] 363)]::C::Cb::L)++[[(q,cl [.int .i64 2] 3)],[(p,cl [.slice a l.length c] 363)]]):=hw'
  have hw3:=hw2.front
  change Code.wp _ _ _ a' w
  refine Wmc.out (M:=[(3,.pointer (some ⟨b3,0,none⟩))]) (L:=[(D,.deferred (some []))]::[(b3,cl [v] 363)]::C::Cb::L) ?_ a' w (hst.sub iS) hd hw3
  refine WM_seq (WM_region (WN_ev rfl (EV_loadc rfl (Fnd.there Fnd.here) rfl) rfl (WN_ev rfl (EV_assign rfl) rfl (WN_nil (WP_code rfl (WM_ret ?_))))))
  exact WP_end (.inl rfl) rfl rfl (L1:=C::Cb::L) (fun w h=>(iC:Inc ([(D,.deferred (some []))]::C::Cb::L) _).holds h) ⟨C,rfl,ho⟩
end Go.Proofs.YtemdlifojcgplaaGreatDoor
namespace Go.Pm
set_option linter.all false
theorem pairs_up:∀{l:List Pm.It},l.Pairwise (fun a b=>a.w≤b.w)→(pairs l).Pairwise (fun a b=>a.w≤b.w)
 |[],_=>.nil
 |[_],_=>.nil
 |a::b::r,h=>by
  have ha:=(List.pairwise_cons.1 h).1
  have h2:=(List.pairwise_cons.1 h).2
  have hb:=(List.pairwise_cons.1 h2).1
  have hr:=(List.pairwise_cons.1 h2).2
  refine List.pairwise_cons.2 ⟨fun x hx=>?_,pairs_up hr⟩
  obtain ⟨y,hy,hxy⟩:∃y∈r,∃z∈r,x.w=y.w+z.w:=by
   have key:∀l:List Pm.It,∀x∈pairs l,∃y∈l,∃z∈l,x.w=y.w+z.w:=by
    intro l
    induction l using pairs.induct with
    |case1 a b r ih=>
     intro x hx
     rcases List.mem_cons.1 hx with rfl|hx
     ·exact ⟨a,by simp,b,by simp,rfl⟩
     ·obtain ⟨y,hy,z,hz,e⟩:=ih x hx
      exact ⟨y,by simp [hy],z,by simp [hz],e⟩
    |case2 t ht=>
     intro x hx
     match t,ht with
     |[],_=>simp [pairs] at hx
     |[_],_=>simp [pairs] at hx
     |a::b::r,ht=>exact absurd rfl (ht a b r)
   exact key r x hx
  obtain ⟨z,hz,e⟩:=hxy
  have h1:=ha y (List.mem_cons_of_mem _ hy)
  have h3:=hb z hz
  show a.w+b.w≤x.w
  omega
structure Mp (cs ps:List Pm.It) (i t:Nat) (A:List Pm.It):Prop where
 ci:A.filter isC=cs.take i
 pt:A.filter (fun x=>!isC x)=ps.take t
 up:A.Pairwise fun a b=>a.w≤b.w
 lc:∀x∈A,∀y∈cs.drop i,x.w≤y.w
 lp:∀x∈A,∀y∈ps.drop t,x.w≤y.w
theorem Mp.nil (cs ps:List Pm.It):Mp cs ps 0 0 []:=⟨by simp,by simp,.nil,fun x hx=>by simp at hx,fun x hx=>by simp at hx⟩
theorem up_app {A:List Pm.It} {x:Pm.It} (h:A.Pairwise fun a b=>a.w≤b.w) (hx:∀y∈A,y.w≤x.w):(A++[x]).Pairwise fun a b=>a.w≤b.w:=by
 rw [List.pairwise_append]
 exact ⟨h,List.pairwise_singleton _ _,fun a ha b hb=>by rw [List.mem_singleton.1 hb];exact hx a ha⟩
theorem drop_le {l:List Pm.It} {i:Nat} {x:Pm.It} (hl:l.Pairwise fun a b=>a.w≤b.w) (hx:l[i]? =some x):∀y∈l.drop i,x.w≤y.w:=by
 intro y hy
 have hlt:=(List.getElem?_eq_some_iff.1 hx).1
 have h2:=hl.sublist (List.drop_sublist i l)
 rw [List.drop_eq_getElem_cons hlt] at h2 hy
 have he:l[i]=x:=by rw [List.getElem?_eq_getElem hlt] at hx;exact Option.some.inj hx
 rw [he] at h2 hy
 rcases List.mem_cons.1 hy with h|h
 ·rw [h];exact Nat.le_refl _
 ·exact (List.pairwise_cons.1 h2).1 y h
theorem get_mem_drop {l:List Pm.It} {i:Nat} {x:Pm.It} (hx:l[i]? =some x):x∈l.drop i:=by
 have hlt:=(List.getElem?_eq_some_iff.1 hx).1
 rw [List.drop_eq_getElem_cons hlt]
 have he:l[i]=x:=by rw [List.getElem?_eq_getElem hlt] at hx;exact Option.some.inj hx
 rw [he];exact List.mem_cons_self
theorem drop_sub {l:List Pm.It} {i:Nat} {y:Pm.It} (hy:y∈l.drop (i+1)):y∈l.drop i:=by
 rw [←List.drop_drop] at hy
 exact List.mem_of_mem_drop hy
theorem Mp.pack {cs ps:List Pm.It} {i t:Nat} {A:List Pm.It} {x z:Pm.It} (h:Mp cs ps i t A) (hcs:cs.Pairwise fun a b=>a.w≤b.w) (hps:ps.Pairwise fun a b=>a.w≤b.w) (hpp:∀x∈ps,isC x=false)
 (hx:ps[t]? =some x) (hz:cs[i]? =some z) (hlt:x.w < z.w):Mp cs ps i (t+1) (A++[x]):=by
 have hxc:=hpp x (List.mem_of_getElem? hx)
 refine ⟨?_,?_,up_app h.up fun y hy=>h.lp y hy x (get_mem_drop hx),fun a ha y hy=>?_,fun a ha y hy=>?_⟩
 ·rw [List.filter_append,h.ci];simp [hxc]
 ·rw [List.filter_append,h.pt,List.take_add_one,hx];simp [hxc]
 ·rcases List.mem_append.1 ha with ha|ha
  ·exact h.lc a ha y hy
  ·rw [List.mem_singleton.1 ha];exact Nat.le_trans (Nat.le_of_lt hlt) (drop_le hcs hz y hy)
 ·rcases List.mem_append.1 ha with ha|ha
  ·exact h.lp a ha y (drop_sub hy)
  ·rw [List.mem_singleton.1 ha];exact drop_le hps hx y (drop_sub hy)
theorem Mp.coin {cs ps:List Pm.It} {i t:Nat} {A:List Pm.It} {z:Pm.It} (h:Mp cs ps i t A) (hcs:cs.Pairwise fun a b=>a.w≤b.w) (hps:ps.Pairwise fun a b=>a.w≤b.w) (hcc:∀x∈cs,isC x=true)
 (hz:cs[i]? =some z) (hge:∀x,ps[t]? =some x→z.w≤x.w):Mp cs ps (i+1) t (A++[z]):=by
 have hzc:=hcc z (List.mem_of_getElem? hz)
 refine ⟨?_,?_,up_app h.up fun y hy=>h.lc y hy z (get_mem_drop hz),fun a ha y hy=>?_,fun a ha y hy=>?_⟩
 ·rw [List.filter_append,h.ci,List.take_add_one,hz];simp [hzc]
 ·rw [List.filter_append,h.pt];simp [hzc]
 ·rcases List.mem_append.1 ha with ha|ha
  ·exact h.lc a ha y (drop_sub hy)
  ·rw [List.mem_singleton.1 ha];exact drop_le hcs hz y (drop_sub hy)
 ·rcases List.mem_append.1 ha with ha|ha
  ·exact h.lp a ha y hy
  ·rw [List.mem_singleton.1 ha]
   cases hp:ps[t]? with
   |none=>rw [List.drop_of_length_le (List.getElem?_eq_none_iff.1 hp)] at hy;simp at hy
   |some x=>exact Nat.le_trans (hge x hp) (drop_le hps hp y hy)
theorem Mp.fin {cs ps:List Pm.It} {t:Nat} {A:List Pm.It} (h:Mp cs ps cs.length t A) (hps:ps.Pairwise fun a b=>a.w≤b.w) (hpp:∀x∈ps,isC x=false):Mg cs ps (A++ps.drop t):=by
 have h1:(ps.drop t).filter isC=[]:=List.filter_eq_nil_iff.2 fun x hx=>by rw [hpp x (List.mem_of_mem_drop hx)];simp
 have h2:(ps.drop t).filter (fun x=>!isC x)=ps.drop t:=List.filter_eq_self.2 fun x hx=>by rw [hpp x (List.mem_of_mem_drop hx)];rfl
 refine ⟨?_,?_,?_⟩
 ·rw [List.pairwise_append]
  exact ⟨h.up,hps.sublist (List.drop_sublist _ _),fun a ha b hb=>h.lp a ha b hb⟩
 ·rw [List.filter_append,h.ci,h1,List.take_length,List.append_nil]
 ·rw [List.filter_append,h.pt,h2,List.take_append_drop]
theorem Mp.len {cs ps:List Pm.It} {i t:Nat} {A:List Pm.It} (h:Mp cs ps i t A):A.length≤cs.length+ps.length:=by
 have h1:=(filter_perm isC A).length_eq
 rw [List.length_append,h.ci,h.pt,List.length_take,List.length_take] at h1
 omega
end Go.Pm
namespace Go.Proofs.YtemdlifojcgplaaGreatDoor
open Go Go.Vx Go.So
variable [W0]
set_option maxRecDepth 4000
set_option linter.all false
omit [W0] in
def PsV (ps:List Pm.It) (Cp:Chunk) (v:Value) (t:Nat):Prop:=(ps.length≤t∧∃a c,v=.slice a 0 c)∨
 (t < ps.length∧∃bp cp rp,v=.slice (some ⟨bp,t * 2,none⟩) (ps.length - t) (cp - t)∧ps.length≤cp∧Cp=[(bp,cl (itvs ps++rp) 372)])
theorem PsV.new {ps:List Pm.It} {Cp:Chunk} {v:Value} (h:Ow 372 2 v ps.length (itvs ps) Cp):PsV ps Cp v 0:=by
 rcases h with ⟨rfl,h1,_⟩|⟨b,cap,rest,rfl,rfl,_,_,hmc,_⟩
 ·exact .inl ⟨by omega,_,_,rfl⟩
 ·rcases Nat.eq_zero_or_pos ps.length with h0|h0
  ·rw [h0];exact .inl ⟨by omega,_,_,rfl⟩
  ·exact .inr ⟨h0,b,cap,rest,by simp,hmc,rfl⟩
theorem itvs_drop (l:List Pm.It) (t:Nat):itvs (l.drop t)=(itvs l).drop (t * 2):=by
 conv=>rhs;rw [←List.take_append_drop t l,itvs_app]
 rcases Nat.lt_or_ge t l.length with h|h
 ·have e:(itvs (l.take t)).length=t * 2:=by rw [itvs_length,List.length_take];omega
  rw [←e,List.drop_left]
 ·have e:(itvs (l.take t)).length≤t * 2:=by rw [itvs_length,List.length_take];omega
  rw [List.drop_of_length_le h]
  show []=_
  rw [show itvs ([]:List Pm.It)=[] from rfl,List.append_nil,List.drop_of_length_le e]
theorem PsV.sl {ps:List Pm.It} {Cp:Chunk} {v:Value} {t:Nat} {L:List Chunk} (h:PsV ps Cp v t) (hL:∀x∈Cp,x∈L.flatten):Sl L 2 v (ps.drop t).length (itvs (ps.drop t)):=by
 rcases h with ⟨h1,a,c,rfl⟩|⟨h1,bp,cp,rp,rfl,h2,rfl⟩
 ·rw [List.drop_of_length_le h1]
  cases a with
  |none=>exact .inl ⟨c,rfl,rfl,rfl⟩
  |some a=>exact .inr ⟨a,c,rfl,.inl rfl,rfl⟩
 ·refine .inr ⟨⟨bp,t * 2,none⟩,cp - t,by rw [List.length_drop],?_,itvs_length _⟩
  refine .inr ⟨bp,t * 2,_,_,(0,0),rfl,hL (bp,_) (by simp;rfl),fun j u hj=>?_⟩
  rw [itvs_drop,List.getElem?_drop] at hj
  rw [List.getElem?_toArray,List.getElem?_append_left (List.getElem?_eq_some_iff.1 hj).1]
  exact hj
omit [W0] in
def coinsOf (wt:Nat→Nat) (g:Nat→Nat × Nat) (N:Nat):List Pm.It:=(List.range N).map fun r=>Pm.coin wt (g r).1
theorem coinsOf_get (wt:Nat→Nat) (g:Nat→Nat × Nat) {N i:Nat} (h:i < N):(coinsOf wt g N)[i]? =some (Pm.coin wt (g i).1):=by simp [coinsOf,h]
theorem coinsOf_length (wt:Nat→Nat) (g:Nat→Nat × Nat) (N:Nat):(coinsOf wt g N).length=N:=by simp [coinsOf]
theorem coinsOf_isC (wt:Nat→Nat) (g:Nat→Nat × Nat) (N:Nat):∀x∈coinsOf wt g N,Pm.isC x=true:=by
 intro x hx
 obtain ⟨r,_,rfl⟩:=List.mem_map.1 hx
 rfl
theorem coinsOf_up {wt:Nat→Nat} {g:Nat→Nat × Nat} {N:Nat} (hs:Srt ky 0 N g) (hw:∀r,r < N→(g r).2=wt (g r).1):(coinsOf wt g N).Pairwise fun a b=>a.w≤b.w:=by
 rw [coinsOf,List.pairwise_map]
 refine List.Pairwise.imp_of_mem (fun {a b} ha hb (hab:a < b)=>?_) List.pairwise_lt_range
 have hb':=List.mem_range.1 hb
 have:=hs a b (Nat.zero_le _) (by omega) hb'
 unfold ky at this
 rw [hw a (by omega),hw b hb'] at this
 exact this
theorem merged_c (wt:Nat→Nat) (g:Nat→Nat × Nat) (N b0 c0:Nat) (rest:List Value) (v:Value) (lb:List Pm.It) (Cb:Chunk) (L:List Chunk) (hN:N≤400) (hs:Srt ky 0 N g) (hgw:∀r,r < N→(g r).2=wt (g r).1) (hgb:∀r,r < N→(g r).2≤1073741824)
 (hO:Ow 372 2 v lb.length (itvs lb) Cb) (hl:lb.length≤1000) (hw:∀x∈lb,x.w≤2305843009213693952) (hup:lb.Pairwise fun a b=>a.w≤b.w) :
 Gv Tryz.prog 290 [.slice (some ⟨b0,0,none⟩) N c0,v].toArray ([(b0,cl (cvs g N++rest) 352)]::Cb::L)
  (fun r L'=>∃A C,L'=C::[(b0,cl (cvs g N++rest) 352)]::Cb::L∧Ow 372 2 r A.length (itvs A) C∧Pm.Mg (coinsOf wt g N) (Pm.pairs lb) A):=by
 have hcs:=coinsOf_up hs hgw
 have hps:=Pm.pairs_up hup
 have hpp:=Pm.pairs_isC lb
 have hcc:=coinsOf_isC wt g N
 have hcl:=coinsOf_length wt g N
 have hpl:=Pm.pairs_length lb
 have hpc:=pairs_c v lb Cb ([(b0,cl (cvs g N++rest) 352)]::L) hO hl hw
 obtain ⟨va,vc,hvs⟩:∃a c,v=.slice a lb.length c:=by
  rcases hO with ⟨rfl,h1,_⟩|⟨b,cap,rest,rfl,_⟩
  ·rw [h1];exact ⟨_,_,rfl⟩
  ·exact ⟨_,_,rfl⟩
 refine Gv.of_body Tryz.func290 rfl rfl ?_
 refine kW ?_
 refine cC rfl rfl (Gv.take hpc (by repeat (first|exact Take.here|apply Take.there))) (fun r L' hp=>?_)
 obtain ⟨Cp,rfl,hop⟩:=hp
 obtain ⟨ps,hpse⟩:∃ps,ps=Pm.pairs lb:=⟨_,rfl⟩
 rw [←hpse] at hop hps hpp hpl ⊢
 have hpv:=PsV.new hop
 refine kW ?_
 refine WC_loop (X:=Nat × Nat × List Pm.It × Value × Chunk × Value) (fun x=>[(5,x.2.2.2.1),(6,x.2.2.2.2.2),(11,.slice (some ⟨b0,0,none⟩) N c0),(12,.int .i64 (N:Int)),(13,.int .i64 (x.1:Int))])
  (fun x=>[(b0,cl (cvs g N++rest) 352)]::x.2.2.2.2.1::Cp::Cb::L)
  (fun x=>x.1≤N∧Pm.Mp (coinsOf wt g N) ps x.1 x.2.1 x.2.2.1∧Ow 372 2 x.2.2.2.1 x.2.2.1.length (itvs x.2.2.1) x.2.2.2.2.1∧PsV ps Cp x.2.2.2.2.2 x.2.1) (fun x=>N - x.1) (0,0,[],.slice none 0 0,[],r)
  ⟨Nat.zero_le _,Pm.Mp.nil _ _,.inl ⟨rfl,rfl,rfl,rfl⟩,hpv⟩ iS (fun w h=>?_) ?_
 ·show Holds w ([(b0,cl (cvs g N++rest) 352)]::[]::Cp::Cb::L)
  exact Holds.gap.2 (iH h)
 clear hpv hpc
 rintro ⟨i,t,A,vi,Ci,vp⟩ ⟨q1,q2,q3,q4⟩
 simp only at q1 q2 q3 q4 ⊢
 (repeat' first|refine kW ?_|refine kU fun bk=>?_|refine kV fun hc=>?_|refine kZ (fun hc=>?_) fun hc=>?_|fail)
 ·have hiN:i < N:=by omega
  refine OW_EV (EV_indexAddr0 (j:=i) (len:=N) rfl rfl rfl hiN) rfl ?_
  refine kW ?_
  refine OW_EV (EV_loadAgg rfl (cv_rd (f:=g) (n:=N) (j:=i) (rest:=rest) hiN Fnd.here) rfl) rfl ?_
  (refine kW ?_;refine kU fun bk=>?_;refine kW ?_)
  obtain ⟨bc,hbc⟩:∃bc,bc=bk:=⟨_,rfl⟩
  rw [←hbc]
  clear hbc
  refine OW_holds (L':=[(bc,cl [.int .i64 0,.int .i64 0] 352)]::[(b0,cl (cvs g N++rest) 352)]::Ci::Cp::Cb::L) (fun w h=>h) ?_
  refine OW_storeAggTo (l:=[.int .i64 0,.int .i64 0]) (vs:=cv (g i)) (cv (g i)) rfl rfl rfl rfl rfl iU (by simp [cv]) ?_
  refine kW ?_
  refine WC_loop (X:=Nat × List Pm.It × Value × Chunk × Value) (fun x=>[(5,x.2.2.1),(6,x.2.2.2.2),(8,.pointer (some ⟨bc,0,none⟩)),(11,.slice (some ⟨b0,0,none⟩) N c0),(12,.int .i64 (N:Int)),(13,.int .i64 (i:Int))])
   (fun x=>[(bc,cl (cv (g i)) 352)]::[(b0,cl (cvs g N++rest) 352)]::x.2.2.2.1::Cp::Cb::L)
   (fun x=>Pm.Mp (coinsOf wt g N) ps i x.1 x.2.1∧Ow 372 2 x.2.2.1 x.2.1.length (itvs x.2.1) x.2.2.2.1∧PsV ps Cp x.2.2.2.2 x.1) (fun x=>ps.length - x.1) (t,A,vi,Ci,vp)
   ⟨q2,q3,q4⟩ iS (fun w h=>h) ?_
  clear q2 q3 q4 t A vi Ci vp
  rintro ⟨t,A,vi,Ci,vp⟩ ⟨q2,q3,q4⟩
  simp only at q2 q3 q4 ⊢
  have hcz:=coinsOf_get wt g hiN
  have hzw:(Pm.coin wt (g i).1).w=(g i).2:=(hgw i hiN).symm
  have hAl:=q2.len
  rw [hcl] at hAl
  have hitv:itv (Pm.coin wt (g i).1)=[.int .i64 ((g i).2:Int),.bool false]:=by unfold itv;rw [hzw];rfl
  have hq4:=q4
  rcases q4 with ⟨h1,a,c,rfl⟩|⟨h1,bp,cp,rp,rfl,h2,rfl⟩
  ·refine kW ?_
   refine WC_drawAll [] mixed ?_
   (refine WR_t 0 ?_;refine WR_t 1 ?_;refine WR_t 2 ?_;refine WR_t 3 ?_)
   rw [show decide ((((0:Nat):Nat):Int) > 0)=false from by decide]
   (refine WR_v 4 ?_;refine WR_v 5 ?_;refine WR_v 6 ?_;refine WR_v 7 ?_;refine WR_v 8 ?_;refine WR_v 9 ?_;refine WR_v 10 ?_)
   (refine WR_t 11 ?_)
   refine cD ?_
   refine kW ?_
   refine OW_buildSlice (cs:=itv (Pm.coin wt (g i).1)) rfl (by rfl) (by rw [hitv];first|(simp [fillL,patch,Value.cells,zeros];done)|(simp [fillL,patch,Value.cells,zeros];rfl)) (by omega) rfl rfl (fun bs=>?_)
   refine kW ?_
   refine OW_append rfl rfl q3 (sl_cells (k:=2) (c:=(itv (Pm.coin wt (g i).1)).toArray) (xs:=itv (Pm.coin wt (g i).1)) (m:=1) Fnd.here rfl (by simp)) (by repeat (first|exact Zip.here _|apply Zip.there)) rfl (by rfl) (by omega) (by simp [maxLen];omega) rfl (fun v' C' ho' _ _=>?_)
   refine kW ?_
   refine WQ_round (X:=Nat × Nat × List Pm.It × Value × Chunk × Value) (μ:=fun x=>N - x.1) (x:=(i,0,[],.slice none 0 0,[],.slice none 0 0)) (i+1,t,A++[Pm.coin wt (g i).1],v',C',.slice a 0 c) (by simp only;omega) ⟨by simp only;omega,q2.coin hcs hps hcc hcz (fun x hx=>by rw [List.getElem?_eq_none h1] at hx;cases hx),by rw [itvs_app,List.length_append];exact ho',hq4⟩ iS (fun w h=>iH h)
  ·obtain ⟨x,hx⟩:∃x,ps[t]? =some x:=⟨ps[t],by simp [h1]⟩
   have hgx:=(itvs_get hx).1
   have hxl:=(List.getElem?_eq_some_iff.1 hgx).1
   have hgx2:nth (itvs ps++rp) (t * 2+0 * 2+0)=some (.int .i64 (x.w:Int)):=by
    rw [nth_eq,show t * 2+0 * 2+0=t * 2 from by omega,List.getElem?_append_left hxl]
    exact hgx
   refine kW ?_
   refine WC_drawAll [] mixed ?_
   (refine WR_t 0 ?_;refine WR_t 1 ?_;refine WR_t 2 ?_;refine WR_t 3 ?_)
   rw [show decide (((ps.length - t:Nat):Int) > 0)=true from by simp;omega]
   (refine WR_u 4 ?_)
   refine cO 5 rfl rfl rfl (EV_indexAddr (j:=0) rfl rfl rfl (by omega)) ?_
   refine cO 6 rfl rfl rfl (EV_fieldAddr rfl) ?_
   refine cO 7 rfl rfl rfl (EV_loadc rfl (Fnd.there (Fnd.there (Fnd.there Fnd.here))) hgx2) ?_
   (refine WR_u 8 ?_;refine WR_u 9 ?_;refine WR_u 10 ?_)
   (refine WR_t 11 ?_)
   refine cD ?_
   (repeat' first|refine kW ?_|refine kU fun bk=>?_|refine kV fun hc=>?_|refine kZ (fun hc=>?_) fun hc=>?_|fail)
   ·have hgx1:=(itvs_get hx).2
    have hrd:RdAt [[(bp,cl (itvs ps++rp) 372)]] ⟨bp,t * 2+0 * 2,none⟩ (itv x):=by
     refine .inr ⟨bp,_,_,_,(0,0),rfl,Fnd.here,fun j u hj=>?_⟩
     rw [List.getElem?_toArray]
     match j,hj with
     |0,hj=>
      rw [show t * 2+0 * 2+0=t * 2 from by omega,List.getElem?_append_left hxl,hgx]
      exact hj
     |1,hj=>
      rw [show t * 2+0 * 2+1=t * 2+1 from by omega,List.getElem?_append_left (List.getElem?_eq_some_iff.1 hgx1).1,hgx1]
      exact hj
     |n+2,hj=>simp [itv] at hj
    refine WC_draw [[(bp,cl (itvs ps++rp) 372)]] [] mixed ?_
    (refine WR_t 0 ?_;refine WR_t 1 ?_)
    refine cT 2 rfl rfl (EV_indexAddr (j:=0) rfl rfl rfl (by omega)) ?_
    refine cT 3 rfl rfl (EV_loadAgg rfl hrd rfl) ?_
    (refine WR_t 6 ?_)
    refine cT 7 rfl rfl (EV_sliceSl (l:=1) (h:=ps.length - t) rfl rfl rfl (by omega) (by omega)) ?_
    refine cI 4 rfl rfl ?_
    refine OW_buildSlice (cs:=itv x) rfl (by rfl) (by simp [fillL,patch,Value.cells,zeros,itv];done) (by omega) rfl rfl (fun bs=>?_)
    refine ⟨iC,?_⟩
    refine cI 5 rfl rfl ?_
    refine OW_append rfl rfl q3 (sl_cells (k:=2) (c:=(itv x).toArray) (xs:=itv x) (m:=1) Fnd.here rfl (by simp)) (by repeat (first|exact Zip.here _|apply Zip.there)) rfl (by rfl) (by omega) (by simp [maxLen];omega) rfl (fun v' C' ho' _ _=>?_)
    refine ⟨iC,?_⟩
    (refine WR_t 8 ?_;refine WR_t 9 ?_)
    refine cD ?_
    refine kW ?_
    refine WQ_round (X:=Nat × List Pm.It × Value × Chunk × Value) (μ:=fun x=>ps.length - x.1) (x:=(t,A,vi,Ci,vi)) (t+1,A++[x],v',C',_) (by simp only;omega) ⟨q2.pack hcs hps hpp hx hcz (by rw [hzw];omega),by rw [itvs_app,List.length_append];exact ho',?_⟩ iS (fun w h=>iH h)
    by_cases h3:t+1 < ps.length
    ·refine .inr ⟨h3,bp,cp,rp,?_,h2,rfl⟩
     rw [if_neg (by omega)]
     simp only
     rw [show t * 2+1 * 2=(t+1) * 2 from by omega,Nat.sub_sub,Nat.sub_sub]
    ·have e0:ps.length - t - 1=0:=by omega
     rw [e0]
     exact .inl ⟨by simp only;omega,_,_,rfl⟩
   ·refine OW_buildSlice (cs:=itv (Pm.coin wt (g i).1)) rfl (by rfl) (by rw [hitv];first|(simp [fillL,patch,Value.cells,zeros];done)|(simp [fillL,patch,Value.cells,zeros];rfl)) (by omega) rfl rfl (fun bs=>?_)
    refine kW ?_
    refine OW_append rfl rfl q3 (sl_cells (k:=2) (c:=(itv (Pm.coin wt (g i).1)).toArray) (xs:=itv (Pm.coin wt (g i).1)) (m:=1) Fnd.here rfl (by simp)) (by repeat (first|exact Zip.here _|apply Zip.there)) rfl (by rfl) (by omega) (by simp [maxLen];omega) rfl (fun v' C' ho' _ _=>?_)
    refine kW ?_
    refine WQ_round (X:=Nat × Nat × List Pm.It × Value × Chunk × Value) (μ:=fun x=>N - x.1) (x:=(i,0,[],.slice none 0 0,[],.slice none 0 0)) (i+1,t,A++[Pm.coin wt (g i).1],v',C',.slice (some ⟨bp,t * 2,none⟩) (ps.length - t) (cp - t)) (by simp only;omega) ⟨by simp only;omega,q2.coin hcs hps hcc hcz (fun y hy=>by rw [hx] at hy;injection hy with hy;subst hy;rw [hzw];omega),by rw [itvs_app,List.length_append];exact ho',hq4⟩ iS (fun w h=>iH h)
 ·have hie:i=N:=by omega
  refine OW_append rfl rfl q3 (q4.sl (fun x hx=>?_)) (by repeat (first|exact Zip.here _|apply Zip.there)) rfl (itvs_ones _) ?_ ?_ rfl (fun v' C' ho' _ _=>?_)
  ·simp only [List.flatten_cons,List.mem_append]
   exact .inr (.inr (.inl hx))
  ·have:=q2.len
   rw [hcl] at this
   rw [List.length_drop]
   omega
  ·have:=q2.len
   rw [hcl] at this
   rw [List.length_drop]
   simp [maxLen]
   omega
  ·refine kW ?_
   refine kR ?_
   rw [hie] at q2
   have hfin:=Pm.Mp.fin (cs:=coinsOf wt g N) (by rw [hcl];exact q2) hps hpp
   refine ⟨C'::[(b0,cl (cvs g N++rest) 352)]::Cb::L,iC,A++ps.drop t,C',rfl,?_,hfin⟩
   rw [List.length_append,itvs_app]
   exact ho'
end Go.Proofs.YtemdlifojcgplaaGreatDoor
namespace Go.Hf
set_option linter.all false
def okc (x:Int):Bool:=!(decide (x < 0)||decide (1073741824 < x))
theorem okc_iff (x:Int):okc x=true↔0≤x∧x≤1073741824:=by
 unfold okc
 by_cases h1:x < 0<;>by_cases h2:1073741824 < x<;>simp [h1,h2]<;>omega
def pos (cs:List Nat):Nat→List (Nat × Nat)
 |0=>[]
 |k+1=>pos cs k++if 0 < cs.getD k 0 then [(k,cs.getD k 0)] else []
theorem pos_le (cs:List Nat):∀k,(pos cs k).length≤k
 |0=>Nat.le_refl _
 |k+1=>by
  have:=pos_le cs k
  rw [pos,List.length_append]
  split<;>simp<;>omega
theorem pos_mem (cs:List Nat):∀k x,x∈pos cs k↔x.1 < k∧0 < cs.getD x.1 0∧x.2=cs.getD x.1 0
 |0,x=>by simp [pos]
 |k+1,x=>by
  rw [pos,List.mem_append,pos_mem cs k]
  by_cases h:0 < cs.getD k 0
  ·rw [if_pos h,List.mem_singleton]
   constructor
   ·rintro (⟨h1,h2,h3⟩|rfl)
    ·exact ⟨by omega,h2,h3⟩
    ·exact ⟨Nat.lt_succ_self _,h,rfl⟩
   ·rintro ⟨h1,h2,h3⟩
    rcases Nat.lt_or_ge x.1 k with h4|h4
    ·exact .inl ⟨h4,h2,h3⟩
    ·have e:x.1=k:=by omega
     refine .inr ?_
     obtain ⟨x1,x2⟩:=x
     simp only at e h3 ⊢
     subst e h3
     rfl
  ·rw [if_neg h]
   constructor
   ·rintro (⟨h1,h2,h3⟩|h1)
    ·exact ⟨by omega,h2,h3⟩
    ·cases h1
   ·rintro ⟨h1,h2,h3⟩
    refine .inl ⟨?_,h2,h3⟩
    rcases Nat.lt_or_ge x.1 k with h4|h4
    ·exact h4
    ·have e:x.1=k:=by omega
     rw [e] at h2
     exact absurd h2 h
theorem pos_nodup (cs:List Nat):∀k,((pos cs k).map fun x=>x.1).Nodup
 |0=>by simp [pos]
 |k+1=>by
  rw [pos,List.map_append,List.nodup_append]
  refine ⟨pos_nodup cs k,by split<;>simp,fun a ha b hb=>?_⟩
  obtain ⟨x,hx,rfl⟩:=List.mem_map.1 ha
  have h1:=((pos_mem cs k x).1 hx).1
  split at hb
  ·simp at hb;omega
  ·simp at hb
structure Cn (cs:List Nat) (n N:Nat) (g:Nat→Nat × Nat):Prop where
 le:N≤n
 up:Go.So.Srt (fun x=>x.2) 0 N g
 sy:∀r,r < N→(g r).1 < n∧0 < cs.getD (g r).1 0∧(g r).2=cs.getD (g r).1 0
 inj:∀r p,r < N→p < N→(g r).1=(g p).1→r=p
 onto:∀i,i < n→0 < cs.getD i 0→∃r,r < N∧(g r).1=i
theorem cn_of {cs:List Nat} {n:Nat} {g:Nat→Nat × Nat} (hu:Go.So.Srt (fun x=>x.2) 0 (pos cs n).length g)
 (hp:((List.range (pos cs n).length).map g).Perm (pos cs n)):Cn cs n (pos cs n).length g where
 le:=pos_le cs n
 up:=hu
 sy r hr:=(pos_mem cs n (g r)).1 (hp.mem_iff.1 (List.mem_map.2 ⟨r,List.mem_range.2 hr,rfl⟩))
 inj r p hr hq he:=by
  have h1:(((List.range (pos cs n).length).map g).map fun x=>x.1).Nodup:=(hp.map _).nodup_iff.2 (pos_nodup cs n)
  rw [List.map_map] at h1
  have h2:((List.range (pos cs n).length).map ((fun x=>x.1) ∘ g))[r]? =((List.range (pos cs n).length).map ((fun x=>x.1) ∘ g))[p]? :=by
   rw [List.getElem?_map,List.getElem?_map,List.getElem?_range hr,List.getElem?_range hq]
   exact congrArg some he
  exact (List.getElem?_inj (by simpa using hr) h1).1 h2
 onto i hi h0:=by
  have h1:=(pos_mem cs n (i,cs.getD i 0)).2 ⟨hi,h0,rfl⟩
  obtain ⟨r,hr,he⟩:=List.mem_map.1 (hp.mem_iff.2 h1)
  exact ⟨r,List.mem_range.1 hr,by rw [he]⟩
end Go.Hf
namespace Go.Proofs.YtemdlifojcgplaaGreatDoor
open Go Go.Vx Go.So Go.Hf
variable [W0]
set_option maxRecDepth 4000
set_option linter.all false
theorem okc_n (x:Int) (L:List Chunk):GvP Tryz.prog 285 [.int .i64 x].toArray L (.bool (!okc x)):=by
 refine Gv.of_body Tryz.func285 rfl rfl ?_
 (repeat' first|refine kW ?_|refine kU fun bk=>?_|refine kV fun hc=>?_|refine kZ (fun hc=>?_) fun hc=>?_|fail)
 ·refine kR ?_
  exact ⟨L,iC,congrArg Value.bool (show true=!okc x by simp [okc,hc]),rfl⟩
 ·refine kR ?_
  exact ⟨L,iC,congrArg Value.bool (show decide (x > 1073741824)=!okc x by simp [okc,hc]),rfl⟩
omit [W0] in
def okcV:Value:=.func (.func 285) #[] #[]
theorem index_n (a:Option Addr) (c:Nat) (ls:List Int) (L:List Chunk) (h:Sl L 1 (.slice a ls.length c) ls.length (intsN ls)) (hl:ls.length≤17592186044416) :
 Gv Tryz.prog 292 [.slice a ls.length c,okcV].toArray L (fun r L'=>∃k:Int,r=.int .i64 k∧(0≤k↔ls.all okc=false)∧L'=L):=by
 refine Gv.of_body Tryz.func292 rfl rfl ?_
 refine kW ?_
 refine WC_loop (X:=Nat) (fun i=>[(0,.slice a ls.length c),(1,okcV),(7,.int .i64 (ls.length:Int)),(8,.int .i64 (i:Int))]) (fun _=>L)
  (fun i=>i≤ls.length∧(ls.take i).all okc=true) (fun i=>ls.length - i) 0 ⟨Nat.zero_le _,rfl⟩ iS (fun w h=>h) ?_
 rintro i ⟨hi,hal⟩
 (repeat' first|refine kW ?_|refine kU fun bk=>?_|refine kV fun hc=>?_|refine kZ (fun hc=>?_) fun hc=>?_|fail)
 ·have hlt:i < ls.length:=by omega
  obtain ⟨b,off,cap,cc,T,fr,hve,hfn,hcell⟩:=sl_at h (ints_get hlt)
  injection hve with q1 q2 q3
  subst q1 q3
  clear q2
  have htk:(ls.take (i+1)).all okc=((ls.take i).all okc&&okc (ls.getD i 0)):=by
   rw [List.take_add_one,List.all_append,List.getElem?_eq_getElem hlt]
   simp [List.getD,hlt]
  obtain ⟨x,hx⟩:∃x,x=ls.getD i 0:=⟨_,rfl⟩
  have hxm:x∈ls:=by rw [hx];simp [List.getD,hlt]
  rw [←hx] at hcell htk
  refine OW_EV (EV_indexAddr (j:=i) rfl rfl rfl hlt) rfl ?_
  refine kW ?_
  refine OW_EV (EV_load rfl hfn hcell) rfl ?_
  refine kW ?_
  refine cP rfl rfl (okc_n x _) ?_
  (repeat' first|refine kW ?_|refine kU fun bk=>?_|refine kV fun hc=>?_|refine kZ (fun hc=>?_) fun hc=>?_|fail)
  ·refine kR ?_
   refine ⟨L,iC,_,rfl,⟨fun _=>?_,fun _=>by omega⟩,rfl⟩
   rw [Bool.eq_false_iff]
   intro hh
   have:=List.all_eq_true.1 hh x hxm
   rw [this] at hc
   cases hc
  ·have hox:okc x=true:=by simpa using hc
   refine WQ_round (X:=Nat) (μ:=fun i=>ls.length - i) (x:=i) (i+1) (by omega) ⟨by omega,by rw [htk,hal,hox];rfl⟩ iS (fun w h=>h)
 ·refine kR ?_
  refine ⟨L,iC,_,rfl,⟨fun h=>absurd h (by decide),fun hh=>?_⟩,rfl⟩
  rw [List.take_of_length_le (by omega)] at hal
  rw [hal] at hh
  cases hh
theorem contains_n (a:Option Addr) (c:Nat) (ls:List Int) (L:List Chunk) (h:Sl L 1 (.slice a ls.length c) ls.length (intsN ls)) (hl:ls.length≤17592186044416) :
 GvP Tryz.prog 284 [.slice a ls.length c,okcV].toArray L (.bool (!ls.all okc)):=by
 refine Gv.of_body Tryz.func284 rfl rfl ?_
 refine kW ?_
 refine cC rfl rfl (index_n a c ls L h hl) (fun r L' hp=>?_)
 obtain ⟨k,rfl,hk,rfl⟩:=hp
 refine kW ?_
 refine kR ?_
 refine ⟨L',iC,congrArg Value.bool ?_,rfl⟩
 rw [Bool.eq_iff_iff]
 simp only [Bool.not_eq_true']
 rw [←hk]
 simp
theorem countable_n (a:Option Addr) (c:Nat) (ls:List Int) (L:List Chunk) (h:Sl L 1 (.slice a ls.length c) ls.length (intsN ls)) (hl:ls.length≤17592186044416) :
 GvP Tryz.prog 277 [.slice a ls.length c].toArray L (.bool (ls.all okc)):=by
 refine Gv.of_body Tryz.func277 rfl rfl ?_
 refine kW ?_
 refine cP rfl rfl (contains_n a c ls L h hl) ?_
 refine kW ?_
 refine kR ?_
 exact ⟨L,iC,congrArg Value.bool (Bool.not_not _),rfl⟩
omit [W0] in
def psv (l:List (Nat × Nat)):List Value:=l.flatMap cv
theorem psv_app (l:List (Nat × Nat)) (x:Nat × Nat):psv (l++[x])=psv l++cv x:=by simp [psv]
theorem cvs_psv (f:Nat→Nat × Nat):∀n,cvs f n=psv ((List.range n).map f)
 |0=>rfl
 |n+1=>by rw [cvs,cvs_psv f n,List.range_succ,List.map_append,List.map_singleton,psv_app]
omit [W0] in
def fof (l:List (Nat × Nat)):Nat→Nat × Nat:=fun k=>l.getD k (0,0)
theorem fof_map (l:List (Nat × Nat)):(List.range l.length).map (fof l)=l:=by
 apply List.ext_getElem?
 intro k
 rw [List.getElem?_map]
 rcases Nat.lt_or_ge k l.length with h|h
 ·rw [List.getElem?_range h]
  simp [fof,List.getD,h]
 ·rw [List.getElem?_eq_none (by simpa using h),List.getElem?_eq_none h]
  rfl
theorem psv_fof (l:List (Nat × Nat)):psv l=cvs (fof l) l.length:=by rw [cvs_psv,fof_map]
theorem nl_get {ls:List Int} {i:Nat} (h:i < ls.length):(nl ls).getD i 0=(ls.getD i 0).toNat:=by simp [nl,List.getD,h]
theorem coins_n (a:Option Addr) (c:Nat) (ls:List Int) (L:List Chunk) (h:Sl L 1 (.slice a ls.length c) ls.length (intsN ls)) (hl:ls.length≤400) (hok:ls.all okc=true) :
 Gv Tryz.prog 278 [.slice a ls.length c].toArray L (fun r L'=>∃g C,Cn (nl ls) ls.length (pos (nl ls) ls.length).length g∧L'=C::L∧Ow 352 2 r (pos (nl ls) ls.length).length (cvs g (pos (nl ls) ls.length).length) C):=by
 refine Gv.of_body Tryz.func278 rfl rfl ?_
 refine kW ?_
 refine WC_loop (X:=Nat × Value × Chunk) (fun x=>[(3,x.2.1),(6,.slice a ls.length c),(7,.int .i64 (ls.length:Int)),(8,.int .i64 (x.1:Int))]) (fun x=>x.2.2::L)
  (fun x=>x.1≤ls.length∧Ow 352 2 x.2.1 (pos (nl ls) x.1).length (psv (pos (nl ls) x.1)) x.2.2) (fun x=>ls.length - x.1) (0,.slice none 0 0,[]) ⟨Nat.zero_le _,.inl ⟨rfl,rfl,rfl,rfl⟩⟩ iS (fun w h=>Holds.nil.2 h) ?_
 rintro ⟨i,v,C⟩ ⟨hi,ho⟩
 simp only at hi ho ⊢
 (repeat' first|refine kW ?_|refine kU fun bk=>?_|refine kV fun hc=>?_|refine kZ (fun hc=>?_) fun hc=>?_|fail)
 ·have hlt:i < ls.length:=by omega
  obtain ⟨b,off,cap,cc,T,fr,hve,hfn,hcell⟩:=sl_at h (ints_get hlt)
  injection hve with q1 q2 q3
  subst q1 q3
  clear q2
  have hg:=nl_get hlt
  have hox:okc (ls.getD i 0)=true:=List.all_eq_true.1 hok _ (by simp [List.getD,hlt])
  obtain ⟨ho1,ho2⟩:=(okc_iff _).1 hox
  obtain ⟨x,hx⟩:∃x,x=(nl ls).getD i 0:=⟨_,rfl⟩
  have hxe:ls.getD i 0=(x:Int):=by rw [hx,hg];omega
  have hps:pos (nl ls) (i+1)=pos (nl ls) i++if 0 < x then [(i,x)] else []:=by rw [hx];rfl
  have hpl:=pos_le (nl ls) i
  rw [hxe] at hcell
  refine OW_EV (EV_indexAddr (j:=i) rfl rfl rfl hlt) rfl ?_
  refine kW ?_
  refine OW_EV (EV_load rfl hfn.there hcell) rfl ?_
  (repeat' first|refine kW ?_|refine kU fun bk=>?_|refine kV fun hc=>?_|refine kZ (fun hc=>?_) fun hc=>?_|fail)
  ·have h0:0 < x:=by omega
   rw [if_pos h0] at hps
   refine OW_buildSlice (cs:=cv (i,x)) rfl (by rfl) (by first|(simp [fillL,patch,Value.cells,zeros,cv];done)|(simp [fillL,patch,Value.cells,zeros,cv];rfl)) (by omega) rfl rfl (fun bs=>?_)
   refine kW ?_
   refine OW_append rfl rfl ho (sl_cells (k:=2) (c:=(cv (i,x)).toArray) (xs:=cv (i,x)) (m:=1) Fnd.here rfl (by simp)) (by repeat (first|exact Zip.here _|apply Zip.there)) rfl (by rfl) (by omega) (by simp [maxLen];omega) rfl (fun v' C' ho' _ _=>?_)
   refine kW ?_
   refine WQ_round (X:=Nat × Value × Chunk) (μ:=fun x=>ls.length - x.1) (x:=(i,v,C)) (i+1,v',C') (by simp only;omega) ⟨by simp only;omega,by simp only;rw [hps,List.length_append,psv_app];exact ho'⟩ iS (fun w h=>h.drop)
  ·have h0:¬0 < x:=by omega
   rw [if_neg h0,List.append_nil] at hps
   refine WQ_round (X:=Nat × Value × Chunk) (μ:=fun x=>ls.length - x.1) (x:=(i,v,C)) (i+1,v,C) (by simp only;omega) ⟨by simp only;omega,by simp only;rw [hps];exact ho⟩ iS (fun w h=>h)
 ·have hie:i=ls.length:=by omega
  subst hie
  have hpl:=pos_le (nl ls) ls.length
  obtain ⟨P,hP⟩:∃P,P=pos (nl ls) ls.length:=⟨_,rfl⟩
  rw [←hP] at ho hpl ⊢
  rw [psv_fof] at ho
  have hcn:=fun g h1 h2=>cn_of (cs:=nl ls) (n:=ls.length) (g:=g) (by rw [←hP];exact h1) (by rw [←hP];exact h2)
  rw [←hP] at hcn
  rcases ho with ⟨rfl,h1,h2,rfl⟩|⟨b,cap,rest,rfl,rfl,hxl,hrl,hmc,hcm⟩
  ·refine cP rfl rfl (sortst_nil _) ?_
   refine kW ?_
   refine kR ?_
   have hP0:P=[]:=List.length_eq_zero_iff.1 h1
   refine ⟨[]::L,iC,fof P,[],hcn _ (fun p q _ _ hq=>by omega) (by rw [fof_map]),rfl,.inl ⟨rfl,h1,h2,rfl⟩⟩
  ·refine cC rfl rfl (sortst_c (fof P) P.length b cap rest L (by omega)) (fun r L' hp=>?_)
   obtain ⟨rfl,g,hm,hs,rfl⟩:=hp
   refine kW ?_
   refine kR ?_
   refine ⟨[(b,cl (cvs g P.length++rest) 352)]::L,iC,g,_,hcn _ hs ?_,rfl,.inr ⟨b,cap,rest,rfl,rfl,cvs_length g _,hrl,hmc,hcm⟩⟩
   ·have:=hm.perm (Nat.le_refl _)
    rw [fof_map] at this
    exact this
end Go.Proofs.YtemdlifojcgplaaGreatDoor
namespace Go.Pm
set_option linter.all false
theorem mp_some {cs ps:List Pm.It} (hcs:cs.Pairwise fun a b=>a.w≤b.w) (hps:ps.Pairwise fun a b=>a.w≤b.w) (hcc:∀x∈cs,isC x=true) (hpp:∀x∈ps,isC x=false):∀i,i≤cs.length→∃t A,Mp cs ps i t A:=by
 intro i
 induction i with
 |zero=>intro _;exact ⟨0,[],Mp.nil _ _⟩
 |succ i ih=>
  intro hi
  obtain ⟨t,A,h⟩:=ih (by omega)
  obtain ⟨z,hz⟩:∃z,cs[i]? =some z:=⟨cs[i],by simp [show i < cs.length from by omega]⟩
  have key:∀m t A,ps.length - t≤m→Mp cs ps i t A→∃t A,Mp cs ps (i+1) t A:=by
   intro m
   induction m with
   |zero=>
    intro t A hm h
    exact ⟨t,_,h.coin hcs hps hcc hz fun x hx=>by have:=(List.getElem?_eq_some_iff.1 hx).1;omega⟩
   |succ m ih=>
    intro t A hm h
    cases hp:ps[t]? with
    |none=>exact ⟨t,_,h.coin hcs hps hcc hz fun x hx=>by rw [hp] at hx;cases hx⟩
    |some x=>
     rcases Nat.lt_or_ge x.w z.w with hlt|hge
     ·have hl:=(List.getElem?_eq_some_iff.1 hp).1
      exact ih (t+1) _ (by omega) (h.pack hcs hps hpp hp hz hlt)
     ·exact ⟨t,_,h.coin hcs hps hcc hz fun y hy=>by rw [hp] at hy;injection hy with hy;subst hy;exact hge⟩
  exact key _ t A (Nat.le_refl _) h
theorem mg_some {cs ps:List Pm.It} (hcs:cs.Pairwise fun a b=>a.w≤b.w) (hps:ps.Pairwise fun a b=>a.w≤b.w) (hcc:∀x∈cs,isC x=true) (hpp:∀x∈ps,isC x=false):∃A,Mg cs ps A:=by
 obtain ⟨t,A,h⟩:=mp_some hcs hps hcc hpp cs.length (Nat.le_refl _)
 exact ⟨_,h.fin hps hpp⟩
open Classical in
noncomputable def nextL (cs ps:List Pm.It):List Pm.It:=if h:∃A,Mg cs ps A then Classical.choose h else []
noncomputable def extL (cs:List Pm.It) (lv:Nat→List Pm.It) (k:Nat) (A:List Pm.It):Nat→List Pm.It
 |0=>[]
 |j+1=>if j < k then lv (j+1) else if j=k then A else nextL cs (pairs (extL cs lv k A j))
theorem extL_low {cs:List Pm.It} {lv:Nat→List Pm.It} {k:Nat} {A:List Pm.It} (h0:lv 0=[]):∀{j:Nat},j≤k→extL cs lv k A j=lv j
 |0,_=>h0.symm
 |j+1,h=>by unfold extL;rw [if_pos (by omega)]
theorem extL_at {cs:List Pm.It} {lv:Nat→List Pm.It} {k:Nat} {A:List Pm.It}:extL cs lv k A (k+1)=A:=by
 unfold extL;rw [if_neg (by omega),if_pos rfl]
theorem extL_lv {cs:List Pm.It} {lv:Nat→List Pm.It} {k:Nat} {A:List Pm.It} (hcs:cs.Pairwise fun a b=>a.w≤b.w) (hcc:∀x∈cs,isC x=true) (h:Lv cs lv) (hA:Mg cs (pairs (lv k)) A):Lv cs (extL cs lv k A):=by
 refine ⟨rfl,fun j=>?_⟩
 induction j with
 |zero=>
  by_cases h0:0 < k
  ·rw [extL_low h.zero (by omega),extL_low h.zero (by omega)];exact h.next 0
  ·have hk:k=0:=by omega
   subst hk
   rw [extL_at,extL_low h.zero (Nat.le_refl _)]
   exact hA
 |succ j ih=>
  by_cases h1:j+1 < k
  ·rw [extL_low h.zero (by omega),extL_low h.zero (by omega)];exact h.next (j+1)
  ·by_cases h2:j+1=k
   ·subst h2
    rw [extL_at,extL_low h.zero (Nat.le_refl _)]
    exact hA
   ·have hup:(pairs (extL cs lv k A (j+1))).Pairwise fun a b=>a.w≤b.w:=pairs_up ih.up
    have hex:=mg_some hcs hup hcc (pairs_isC _)
    have e:extL cs lv k A (j+1+1)=nextL cs (pairs (extL cs lv k A (j+1))):=by
     rw [extL,if_neg (by omega),if_neg h2]
    rw [e]
    unfold nextL
    rw [dif_pos hex]
    exact Classical.choose_spec hex
theorem lv_any {cs:List Pm.It} (hcs:cs.Pairwise fun a b=>a.w≤b.w) (hcc:∀x∈cs,isC x=true):∃lv,Lv cs lv:=by
 have key:∀k,∃lv:Nat→List Pm.It,lv 0=[]∧∀j,j < k→Mg cs (pairs (lv j)) (lv (j+1)):=fun k=>by
  induction k with
  |zero=>exact ⟨fun _=>[],rfl,fun j h=>by omega⟩
  |succ k ih=>
   obtain ⟨lv,h0,h1⟩:=ih
   have hup:(pairs (lv k)).Pairwise fun a b=>a.w≤b.w:=by
    refine pairs_up ?_
    cases k with
    |zero=>rw [h0];exact .nil
    |succ k=>exact (h1 k (by omega)).up
   obtain ⟨A,hA⟩:=mg_some hcs hup hcc (pairs_isC _)
   refine ⟨extL cs lv k A,rfl,fun j hj=>?_⟩
   by_cases h2:j=k
   ·subst h2;rw [extL_at,extL_low h0 (Nat.le_refl _)];exact hA
   ·rw [extL_low h0 (by omega),extL_low h0 (by omega)];exact h1 j (by omega)
 let lv:Nat→List Pm.It:=fun n=>Nat.rec [] (fun j A=>nextL cs (pairs A)) n
 refine ⟨lv,rfl,fun j=>?_⟩
 have hup:∀j,(lv j).Pairwise fun a b=>a.w≤b.w:=fun j=>by
  induction j with
  |zero=>exact .nil
  |succ j ih=>
   have hex:=mg_some hcs (pairs_up ih) hcc (pairs_isC _)
   have e:lv (j+1)=nextL cs (pairs (lv j)):=rfl
   rw [e];unfold nextL;rw [dif_pos hex]
   exact (Classical.choose_spec hex).up
 have hex:=mg_some hcs (pairs_up (hup j)) hcc (pairs_isC _)
 have e:lv (j+1)=nextL cs (pairs (lv j)):=rfl
 rw [e];unfold nextL;rw [dif_pos hex]
 exact Classical.choose_spec hex
theorem mem_pairs_w:∀{l:List Pm.It} {x:Pm.It},x∈pairs l→∃y∈l,∃z∈l,x.w=y.w+z.w
 |[],x,h=>by simp [pairs] at h
 |[_],x,h=>by simp [pairs] at h
 |a::b::r,x,h=>by
  rcases List.mem_cons.1 h with rfl|h
  ·exact ⟨a,by simp,b,by simp,rfl⟩
  ·obtain ⟨y,hy,z,hz,e⟩:=mem_pairs_w h
   exact ⟨y,by simp [hy],z,by simp [hz],e⟩
theorem lv_w {cs:List Pm.It} {lv:Nat→List Pm.It} {B:Nat} (h:Lv cs lv) (hB:∀x∈cs,x.w≤B):∀k,∀x∈lv k,x.w≤B * 2 ^ k
 |0,x,hx=>by rw [h.zero] at hx;simp at hx
 |k+1,x,hx=>by
  cases hc:isC x with
  |true=>
   have:x∈(lv (k+1)).filter isC:=List.mem_filter.2 ⟨hx,hc⟩
   rw [(h.next k).cs] at this
   exact Nat.le_trans (hB x this) (Nat.le_mul_of_pos_right _ (Nat.pow_pos (by decide)))
  |false=>
   have:x∈(lv (k+1)).filter (fun x=>!isC x):=List.mem_filter.2 ⟨hx,by rw [hc];rfl⟩
   rw [(h.next k).ps] at this
   obtain ⟨y,hy,z,hz,e⟩:=mem_pairs_w this
   have h1:=lv_w h hB k y hy
   have h2:=lv_w h hB k z hz
   rw [e,Nat.pow_succ,←Nat.mul_assoc]
   omega
theorem lv_up {cs:List Pm.It} {lv:Nat→List Pm.It} (h:Lv cs lv):∀k,(lv k).Pairwise fun a b=>a.w≤b.w
 |0=>by rw [h.zero];exact .nil
 |k+1=>(h.next k).up
theorem lv_len {cs:List Pm.It} {lv:Nat→List Pm.It} (h:Lv cs lv):∀k,(lv k).length≤2 * cs.length
 |0=>by rw [h.zero];simp
 |k+1=>by
  have:=lv_length h k
  have:=lv_len h k
  omega
end Go.Pm
namespace Go.Proofs.YtemdlifojcgplaaGreatDoor
open Go Go.Vx Go.So
variable [W0]
set_option maxRecDepth 4000
set_option linter.all false
omit [W0] in
structure LvR (lv:Nat→List Pm.It) (k:Nat) (vs:List Value) (Cs:List Chunk):Prop where
 lv_:vs.length=k
 lc:Cs.length=k+1
 at_:∀j,j < k→∃v C,vs[j]? =some v∧Cs[j+1]? =some C∧Ow 372 2 v (lv (j+1)).length (itvs (lv (j+1))) C
theorem levels_c (wt:Nat→Nat) (g:Nat→Nat × Nat) (N b0 c0 M:Nat) (rest:List Value) (L:List Chunk) (hN:N≤400) (hM:M≤15) (hs:Srt ky 0 N g) (hgw:∀r,r < N→(g r).2=wt (g r).1) (hgb:∀r,r < N→(g r).2≤1073741824) :
 Gv Tryz.prog 280 [.slice (some ⟨b0,0,none⟩) N c0,.int .i64 (M:Int)].toArray ([(b0,cl (cvs g N++rest) 352)]::L)
  (fun r L'=>∃lv vs Cs Cl,L'=Cl::Cs.flatten::[(b0,cl (cvs g N++rest) 352)]::L∧Pm.Lv (coinsOf wt g N) lv∧LvR lv M vs Cs∧Ow 363 1 r M vs Cl):=by
 have hcs:=coinsOf_up hs hgw
 have hcc:=coinsOf_isC wt g N
 have hcl:=coinsOf_length wt g N
 have hcw:∀x∈coinsOf wt g N,x.w≤1073741824:=fun x hx=>by
  obtain ⟨r,hr,rfl⟩:=List.mem_map.1 hx
  have:=hgb r (List.mem_range.1 hr)
  rw [hgw r (List.mem_range.1 hr)] at this
  exact this
 obtain ⟨lv0,hlv0⟩:=Pm.lv_any hcs hcc
 refine Gv.of_body Tryz.func280 rfl rfl ?_
 refine kW ?_
 refine WC_loop (X:=Nat × (Nat→List Pm.It) × List Value × List Chunk × Chunk × Value × Value × Chunk) (fun x=>[(0,.slice (some ⟨b0,0,none⟩) N c0),(5,x.2.2.2.2.2.1),(6,x.2.2.2.2.2.2.1),(7,.int .i64 (M:Int)),(8,.int .i64 (x.1:Int))])
  (fun x=>x.2.2.2.2.1::x.2.2.2.1.flatten::x.2.2.2.2.2.2.2::[(b0,cl (cvs g N++rest) 352)]::L)
  (fun x=>x.1≤M∧Pm.Lv (coinsOf wt g N) x.2.1∧LvR x.2.1 x.1 x.2.2.1 (x.2.2.2.1++[x.2.2.2.2.2.2.2])∧Ow 363 1 x.2.2.2.2.2.1 x.1 x.2.2.1 x.2.2.2.2.1∧Ow 372 2 x.2.2.2.2.2.2.1 (x.2.1 x.1).length (itvs (x.2.1 x.1)) x.2.2.2.2.2.2.2) (fun x=>M - x.1) (0,lv0,[],[],[],.slice none 0 0,.slice none 0 0,[])
  ⟨Nat.zero_le _,hlv0,⟨rfl,rfl,fun j hj=>by omega⟩,.inl ⟨rfl,rfl,rfl,rfl⟩,by simp only;rw [hlv0.zero];exact .inl ⟨rfl,rfl,rfl,rfl⟩⟩ iS (fun w h=>?_) ?_
 ·show Holds w ([]::[]::[]::[(b0,cl (cvs g N++rest) 352)]::L)
  exact Holds.nil.2 (Holds.nil.2 (Holds.nil.2 h))
 rintro ⟨k,lv,vs,Cs,Cl,rv,bv,Cb⟩ ⟨q1,q2,q3,q4,q5⟩
 simp only at q1 q2 q3 q4 q5 ⊢
 have hlen:=Pm.lv_len q2 k
 rw [hcl] at hlen
 (repeat' first|refine kW ?_|refine kU fun bk=>?_|refine kV fun hc=>?_|refine kZ (fun hc=>?_) fun hc=>?_|fail)
 ·have hkM:k < M:=by omega
  have hpw:2 ^ k≤2 ^ 15:=Nat.pow_le_pow_right (by decide) (by omega)
  have hmg:=merged_c wt g N b0 c0 rest bv (lv k) Cb (Cl::Cs.flatten::L) hN hs hgw hgb q5 (by omega) (fun x hx=>by
   have h1:=Pm.lv_w q2 hcw k x hx
   have h2:1073741824 * 2 ^ k≤1073741824 * 2 ^ 15:=Nat.mul_le_mul_left _ hpw
   omega) (Pm.lv_up q2 k)
  refine cC rfl rfl (Gv.holds hmg (fun w h=>iH h)) (fun r L' hp=>?_)
  obtain ⟨A,C,rfl,hoA,hA⟩:=hp
  have hlv':=Pm.extL_lv hcs hcc q2 hA
  obtain ⟨ra,rc,rfl⟩:=ow_slc hoA
  refine kW ?_
  refine OW_buildSlice (cs:=[.slice ra A.length rc]) rfl (by rfl) (by simp [fillL,patch,Value.cells,zeros];done) (by omega) rfl rfl (fun bs=>?_)
  refine kW ?_
  refine OW_append rfl rfl q4 (sl_cells (k:=1) (c:=#[.slice ra A.length rc]) (xs:=[.slice ra A.length rc]) (m:=1) Fnd.here rfl (by simp)) (by repeat (first|exact Zip.here _|apply Zip.there)) rfl (by rfl) (by omega) (by simp [maxLen];omega) rfl (fun v' C' ho' _ _=>?_)
  refine kW ?_
  refine WQ_round (X:=Nat × (Nat→List Pm.It) × List Value × List Chunk × Chunk × Value × Value × Chunk) (μ:=fun x=>M - x.1) (x:=(k,lv,vs,Cs,Cl,rv,bv,Cb)) (k+1,Pm.extL (coinsOf wt g N) lv k A,vs++[.slice ra A.length rc],Cs++[Cb],C',v',.slice ra A.length rc,C) (by simp only;omega)
   ⟨by simp only;omega,hlv',?_,ho',by simp only;rw [Pm.extL_at];exact hoA⟩ iS (fun w h=>?_)
  ·refine ⟨by simp only [List.length_append,q3.lv_,List.length_cons,List.length_nil],by have:=q3.lc;simp only [List.length_append,List.length_cons,List.length_nil] at this ⊢;omega,fun j hj=>?_⟩
   have hlc:(Cs++[Cb]).length=k+1:=q3.lc
   by_cases e:j=k
   ·subst e
    refine ⟨_,C,by simp only;rw [List.getElem?_append_right (by rw [q3.lv_];omega),q3.lv_,Nat.sub_self];rfl,by simp only;rw [List.getElem?_append_right (by rw [hlc];omega),hlc,Nat.sub_self];rfl,?_⟩
    simp only
    rw [Pm.extL_at]
    exact hoA
   ·obtain ⟨v1,C1,h1,h2,h3⟩:=q3.at_ j (by simp only at hj;omega)
    refine ⟨v1,C1,by simp only;rw [List.getElem?_append_left (List.getElem?_eq_some_iff.1 h1).1];exact h1,by simp only;rw [List.getElem?_append_left (List.getElem?_eq_some_iff.1 h2).1];exact h2,?_⟩
    simp only
    rw [Pm.extL_low q2.zero (by simp only at hj;omega)]
    exact h3
  ·have h2:=(iC:Inc (C'::Cs.flatten::Cb::C::[(b0,cl (cvs g N++rest) 352)]::L) _).holds h
   simp only [List.flatten_append,List.flatten_cons,List.flatten_nil,List.append_nil]
   simpa [Holds,List.append_assoc] using h2
 ·have hk:k=M:=by omega
  subst hk
  refine kH ?_
  refine ⟨_,fun w h=>?_,lv,vs,Cs++[Cb],Cl,rfl,q2,q3,q4⟩
  simp only [List.flatten_append,List.flatten_cons,List.flatten_nil,List.append_nil]
  simpa [Holds,List.append_assoc] using h
theorem among_c (l:List Pm.It) (b m c:Nat) (rest:List Value) (L:List Chunk) (hf:Fnd L b (cl (itvs l++rest) 372)) (hm:m≤l.length) (hl:l.length≤1000) :
 GvP Tryz.prog 289 [.slice (some ⟨b,0,none⟩) m c].toArray L (.int .i64 ((((l.take m).filter fun x=>!Pm.isC x).length:Nat):Int)):=by
 refine Gv.of_body Tryz.func289 rfl rfl ?_
 refine kW ?_
 refine WC_loop (X:=Nat) (fun i=>[(3,.int .i64 ((((l.take i).filter fun x=>!Pm.isC x).length:Nat):Int)),(6,.slice (some ⟨b,0,none⟩) m c),(7,.int .i64 (m:Int)),(8,.int .i64 (i:Int))]) (fun _=>L) (fun i=>i≤m) (fun i=>m - i) 0 (Nat.zero_le _) iS (fun w h=>h) ?_
 intro i hi
 have hb:((l.take i).filter fun x=>!Pm.isC x).length≤i:=by
  have h1:=List.length_filter_le (fun x=>!Pm.isC x) (l.take i)
  rw [List.length_take] at h1
  omega
 (repeat' first|refine kW ?_|refine kU fun bk=>?_|refine kV fun hc=>?_|refine kZ (fun hc=>?_) fun hc=>?_|fail)
 ·have hlt:i < m:=by omega
  obtain ⟨x,hx⟩:∃x,l[i]? =some x:=⟨l[i],by simp [show i < l.length from by omega]⟩
  have hgx:=(itvs_get hx).1
  have hgx1:=(itvs_get hx).2
  have hst:((l.take (i+1)).filter fun x=>!Pm.isC x).length=((l.take i).filter fun x=>!Pm.isC x).length+(if Pm.isC x then 0 else 1):=by
   rw [List.take_add_one,hx,List.filter_append,List.length_append]
   congr 1
   cases hc:Pm.isC x<;>simp [hc]
  have hrd:RdAt L ⟨b,i * 2,none⟩ (itv x):=by
   refine .inr ⟨b,_,_,_,(0,0),rfl,hf,fun j u hj=>?_⟩
   rw [List.getElem?_toArray]
   match j,hj with
   |0,hj=>
    rw [Nat.add_zero,List.getElem?_append_left (List.getElem?_eq_some_iff.1 hgx).1,hgx]
    exact hj
   |1,hj=>
    rw [List.getElem?_append_left (List.getElem?_eq_some_iff.1 hgx1).1,hgx1]
    exact hj
   |n+2,hj=>simp [itv] at hj
  refine OW_EV (EV_indexAddr0 (j:=i) (len:=m) rfl rfl rfl hlt) rfl ?_
  refine kW ?_
  refine OW_EV (EV_loadAgg rfl hrd rfl) rfl ?_
  (refine kW ?_;refine kU fun bk=>?_;refine kW ?_)
  refine OW_holds (L':=[(bk,cl [.int .i64 0,.bool false] 372)]::L) (fun w h=>h) ?_
  refine OW_storeAggTo (l:=[.int .i64 0,.bool false]) (vs:=itv x) (itv x) rfl rfl rfl rfl rfl iU (by simp [itv]) ?_
  cases hcx:Pm.isC x with
  |true=>
   rw [hcx] at hst
   have hst2:((l.take (i+1)).filter fun x=>!Pm.isC x).length=((l.take i).filter fun x=>!Pm.isC x).length:=hst
   rw [show itv x=[.int .i64 (x.w:Int),.bool false] from by unfold itv;rw [hcx];rfl]
   refine kW ?_
   rw [←hst2]
   refine WQ_round (X:=Nat) (μ:=fun i=>m - i) (x:=i) (i+1) (by omega) (by omega) iS (fun w h=>h.drop)
  |false=>
   rw [hcx] at hst
   have hst2:((l.take (i+1)).filter fun x=>!Pm.isC x).length=((l.take i).filter fun x=>!Pm.isC x).length+1:=hst
   rw [show itv x=[.int .i64 (x.w:Int),.bool true] from by unfold itv;rw [hcx];rfl]
   refine kW ?_
   rw [show ((((l.take i).filter fun x=>!Pm.isC x).length:Nat):Int)+1=((((l.take (i+1)).filter fun x=>!Pm.isC x).length:Nat):Int) from by rw [hst2];omega]
   refine WQ_round (X:=Nat) (μ:=fun i=>m - i) (x:=i) (i+1) (by omega) (by omega) iS (fun w h=>h.drop)
 ·rw [show i=m from by omega]
  exact kE
theorem backw_c (v:Value) (L:List Chunk):Gv Tryz.prog 288 [v].toArray L
 (fun r L'=>∃p,r=.func (.func 294) #[] #[.pointer (some ⟨p,0,none⟩)]∧L'=[(p,cl v.cells.toList 354)]::L):=by
 refine Gv.of_body Tryz.func288 rfl rfl ?_
 (refine kW ?_;refine kU fun bk=>?_;refine kW ?_)
 refine kH ?_
 exact ⟨_,fun w h=>h,_,rfl,rfl⟩
omit [W0] in
def bwS (vs:List Value):List (List Value):=(List.range vs.length).map fun k=>[.int .i64 ((vs.length - 1 - k:Nat):Int),vs.getD (vs.length - 1 - k) undef]
theorem bwS_length (vs:List Value):(bwS vs).length=vs.length:=by simp [bwS]
theorem bwS_get (vs:List Value) {k:Nat} (h:k < vs.length):(bwS vs).getD k []=[.int .i64 ((vs.length - 1 - k:Nat):Int),vs.getD (vs.length - 1 - k) undef]:=by simp [bwS,List.getD,h]
theorem backw_it (vs:List Value) (p b c:Nat) (rest:List Value) (hm:vs.length≤1000) :
 It Tryz.prog 294 [.pointer (some ⟨p,0,none⟩)].toArray ([(p,cl [.slice (some ⟨b,0,none⟩) vs.length c] 354)]::[(b,cl (vs++rest) 363)]::[]) (bwS vs):=by
 refine It.of_body Tryz.func294 rfl rfl fun l J L0 h0 hy=>?_
 obtain ⟨Lit,hLit⟩:∃Lit:List Chunk,Lit=[(p,cl [.slice (some ⟨b,0,none⟩) vs.length c] 354)]::[(b,cl (vs++rest) 363)]::[]:=⟨_,rfl⟩
 rw [←hLit]
 have fp:∀L',Fnd (L'++Lit) p (cl [.slice (some ⟨b,0,none⟩) vs.length c] 354):=fun L'=>by rw [hLit];exact Fnd.right Fnd.here
 have fb:∀L',Fnd (L'++Lit) b (cl (vs++rest) 363):=fun L'=>by rw [hLit];exact Fnd.right (Fnd.there Fnd.here)
 (repeat' first|refine kI ?_|refine kU fun bk=>?_|refine kJ fun hc=>?_|refine kK (fun hc=>?_) fun hc=>?_|fail)
 refine OW_EV (EV_loadc rfl (fp L0) rfl) rfl ?_
 (repeat' first|refine kI ?_|refine kU fun bk=>?_|refine kJ fun hc=>?_|refine kK (fun hc=>?_) fun hc=>?_|fail)
 refine WI_loop (X:=Nat × List Chunk) (fun x=>[(0,.func (.yield l) #[] #[]),(1,.pointer (some ⟨p,0,none⟩)),(3,.int .i64 ((vs.length:Int) - 1 - (x.1:Int)))])
  (fun x=>x.2++Lit) (fun x=>x.1≤vs.length∧J x.1 x.2) (fun x=>vs.length - x.1) (0,L0) ⟨Nat.zero_le _,h0⟩ iS (fun w h=>h) ?_
 rintro ⟨k,L'⟩ ⟨hk,hj⟩
 simp only at hk hj ⊢
 (repeat' first|refine kI ?_|refine kU fun bk=>?_|refine kJ fun hc=>?_|refine kK (fun hc=>?_) fun hc=>?_|fail)
 ·have hlt:k < vs.length:=by omega
  obtain ⟨u,hu⟩:∃u,vs[vs.length - 1 - k]? =some u:=⟨vs[vs.length - 1 - k],by simp [show vs.length - 1 - k < vs.length from by omega]⟩
  have hgu:nth (vs++rest) ((vs.length - 1 - k) * 1)=some u:=by
   rw [nth_eq,Nat.mul_one,List.getElem?_append_left (List.getElem?_eq_some_iff.1 hu).1]
   exact hu
  rw [show (vs.length:Int) - 1 - (k:Int)=((vs.length - 1 - k:Nat):Int) from by omega]
  refine WI_list ?_
  (repeat' first|refine kL ?_|refine kU fun bk=>?_|refine kJ fun hc=>?_|refine kK (fun hc=>?_) fun hc=>?_|fail)
  refine OW_EV (EV_loadc rfl (fp L') rfl) rfl ?_
  (repeat' first|refine kL ?_|refine kU fun bk=>?_|refine kJ fun hc=>?_|refine kK (fun hc=>?_) fun hc=>?_|fail)
  refine OW_EV (EV_indexAddr0 (j:=vs.length - 1 - k) (len:=vs.length) rfl rfl rfl (by omega)) rfl ?_
  (repeat' first|refine kL ?_|refine kU fun bk=>?_|refine kJ fun hc=>?_|refine kK (fun hc=>?_) fun hc=>?_|fail)
  refine OW_EV (EV_loadc rfl (fb L') hgu) rfl ?_
  have hyk:=hy Lit k L' (by rw [bwS_length];omega) hj
  rw [bwS_get _ hlt,show vs.getD (vs.length - 1 - k) undef=u from by simp [List.getD,hu]] at hyk
  refine WJ_yield rfl rfl hyk rfl ?_
  rintro L'' ⟨L3,hj3,rfl⟩
  (repeat' first|refine kL ?_|refine kU fun bk=>?_|refine kJ fun hc=>?_|refine kK (fun hc=>?_) fun hc=>?_|fail)
  (repeat' first|refine kI ?_|refine kU fun bk=>?_|refine kJ fun hc=>?_|refine kK (fun hc=>?_) fun hc=>?_|fail)
  refine WQ_round (X:=Nat × List Chunk) (μ:=fun x=>vs.length - x.1) (x:=(k,L')) (k+1,L3) (by simp only;omega) ⟨by simp only;omega,hj3⟩ iS (fun w h=>h)
 ·have hke:k=vs.length:=by omega
  refine kH ?_
  refine ⟨_,fun w h=>h,L',?_,rfl⟩
  rw [bwS_length,←hke]
  exact hj
end Go.Proofs.YtemdlifojcgplaaGreatDoor
namespace Go.Pm
set_option linter.all false
def bt (lv:Nat→List Pm.It) (M m:Nat):Nat→Nat
 |0=>m
 |k+1=>2 * pC lv (M - k) (bt lv M m k)
theorem sel_drop (lv:Nat→List Pm.It) (M m:Nat):∀k,k≤M→(sel lv M m).drop k=sel lv (M - k) (bt lv M m k)
 |0,_=>rfl
 |k+1,h=>by
  have ih:=sel_drop lv M m k (by omega)
  obtain ⟨j,hj⟩:∃j,M - k=j+1:=⟨M - k - 1,by omega⟩
  rw [←List.drop_drop,ih,hj,show M - (k+1)=j from by omega]
  simp only [sel,List.drop_succ_cons,List.drop_zero,bt,hj]
theorem sel_take {lv:Nat→List Pm.It} {M m k:Nat} (h:k < M):(sel lv M m).take (k+1)=(sel lv M m).take k++[sC lv (M - k) (bt lv M m k)]:=by
 have hd:=sel_drop lv M m k (by omega)
 obtain ⟨j,hj⟩:∃j,M - k=j+1:=⟨M - k - 1,by omega⟩
 have h0:(sel lv M m)[k]? =some (sC lv (M - k) (bt lv M m k)):=by
  have:((sel lv M m).drop k)[0]? =(sel lv M m)[k]? :=by rw [List.getElem?_drop,Nat.add_zero]
  rw [←this,hd,hj];rfl
 rw [List.take_add_one,h0];rfl
theorem bt_le {cs:List Pm.It} {lv:Nat→List Pm.It} (h:Lv cs lv) {M m:Nat} (hm:m≤(lv M).length):∀k,k≤M→bt lv M m k≤(lv (M - k)).length
 |0,_=>hm
 |k+1,hk=>by
  obtain ⟨j,hj⟩:∃j,M - k=j+1:=⟨M - k - 1,by omega⟩
  rw [bt,hj,show M - (k+1)=j from by omega]
  exact pC_two h j _
theorem ln_app (A:List Nat) (s r:Nat):ln (A++[s]) r=ln A r+if r < s then 1 else 0:=by
 unfold ln
 rw [List.filter_append,List.length_append]
 congr 1
 by_cases h:r < s
 ·simp [h]
 ·simp [h]
end Go.Pm
namespace Go.Proofs.YtemdlifojcgplaaGreatDoor
open Go Go.Vx Go.So
variable [W0]
set_option maxRecDepth 4000
set_option linter.all false
omit [W0] in
structure LsI (S:List Nat) (N n:Nat) (sy:Nat→Nat) (q:Nat) (ls:List Nat):Prop where
 len:ls.length=n
 on:∀r,r < N→ls.getD (sy r) 0=Pm.ln S r+if r < q then 1 else 0
 off:∀i,(∀r,r < N→sy r≠i)→ls.getD i 0=0
theorem LsI.start {N n:Nat} {sy:Nat→Nat}:LsI [] N n sy 0 (List.replicate n 0):=by
 refine ⟨by simp,fun r hr=>?_,fun i hi=>?_⟩
 ·rw [if_neg (by omega)]
  simp only [List.getD,List.getElem?_replicate]
  split<;>rfl
 ·simp only [List.getD,List.getElem?_replicate]
  split<;>rfl
theorem LsI.step {S:List Nat} {N n:Nat} {sy:Nat→Nat} {q:Nat} {ls:List Nat} (h:LsI S N n sy q ls) (hi:∀r p,r < N→p < N→sy r=sy p→r=p) (hq:q < N) (hn:sy q < n):LsI S N n sy (q+1) (ls.set (sy q) (ls.getD (sy q) 0+1)):=by
 have hl:sy q < ls.length:=by rw [h.len];exact hn
 refine ⟨by rw [List.length_set];exact h.len,fun r hr=>?_,fun i hx=>?_⟩
 ·by_cases e:r=q
  ·subst e
   have e1:(ls.set (sy r) (ls.getD (sy r) 0+1)).getD (sy r) 0=ls.getD (sy r) 0+1:=by simp only [List.getD,List.getElem?_set_self hl,Option.getD_some]
   rw [e1,h.on r hr,if_neg (by omega),if_pos (by omega)]
  ·have hne:sy q≠sy r:=fun hh=>e (hi r q hr hq hh.symm)
   have e1:(ls.set (sy q) (ls.getD (sy q) 0+1)).getD (sy r) 0=ls.getD (sy r) 0:=by simp only [List.getD,List.getElem?_set_ne hne]
   rw [e1,h.on r hr]
   congr 1
   have:(r < q)=(r < q+1):=by apply propext;omega
   simp only [this]
 ·have e1:(ls.set (sy q) (ls.getD (sy q) 0+1)).getD i 0=ls.getD i 0:=by simp only [List.getD,List.getElem?_set_ne (hx q hq)]
  rw [e1,h.off i hx]
theorem LsI.turn {S:List Nat} {N n:Nat} {sy:Nat→Nat} {q:Nat} {ls:List Nat} (h:LsI S N n sy q ls):LsI (S++[q]) N n sy 0 ls:=by
 refine ⟨h.len,fun r hr=>?_,h.off⟩
 rw [h.on r hr,Pm.ln_app,if_neg (show ¬r < 0 by omega),Nat.add_zero]
theorem lengthen_c (wt:Nat→Nat) (g:Nat→Nat × Nat) (N n b0 c0 bl bv cw M:Nat) (rest restv:List Value) (lv:Nat→List Pm.It) (vs:List Value) (Cs:List Chunk) (L:List Chunk) (hN2:2≤N) (hN:N≤400) (hn:n≤400) (hc0:N≤c0) (hM:M≤15) (hM1:1≤M) (hMN:N≤2 ^ M)
 (hlv:Pm.Lv (coinsOf wt g N) lv) (hR:LvR lv M vs Cs) (hinj:∀r p,r < N→p < N→(g r).1=(g p).1→r=p) (hsy:∀r,r < N→(g r).1 < n) :
 Gv Tryz.prog 279 [.slice (some ⟨bl,0,none⟩) n n,.slice (some ⟨b0,0,none⟩) N c0,.slice (some ⟨bv,0,none⟩) M cw].toArray ([(bl,cl (ivn (List.replicate n 0)) 3)]::[(b0,cl (cvs g N++rest) 352)]::[(bv,cl (vs++restv) 363)]::Cs.flatten::L)
  (fun r L'=>r=.tuple #[]∧∃ls,LsI (Pm.sel lv M (2 * N - 2)) N n (fun r=>(g r).1) 0 ls∧L'=[(bl,cl (ivn ls) 3)]::L):=by
 have hcl:=coinsOf_length wt g N
 obtain ⟨k0,hk0⟩:∃k0,M=k0+1:=⟨M - 1,by omega⟩
 have hfull:2 * N - 2≤(lv M).length:=by
  have:=Pm.lv_full hlv k0 (by rw [hcl];omega) (by rw [hcl,←hk0];exact hMN)
  rw [hcl,←hk0] at this
  exact this
 have hbt:=Pm.bt_le hlv hfull
 have hvl:=hR.lv_
 obtain ⟨B,hB⟩:∃B,B=Pm.bt lv M (2 * N - 2):=⟨_,rfl⟩
 refine Gv.of_bodyM Tryz.func279 rfl rfl ?_
 (refine kW ?_;refine kU fun bk=>?_;refine kW ?_;refine kU fun bk=>?_;refine kW ?_;refine kU fun bk=>?_;refine kW ?_)
 rename_i b3 b4
 obtain ⟨b6,hb6⟩:∃b6,b6=bk:=⟨_,rfl⟩
 rw [←hb6]
 clear hb6
 rw [show (2:Int) * (N:Int) - 2=((2 * N - 2:Nat):Int) from by omega]
 refine OW_holds (L':=[(b6,cl [.int .i64 0] 3)]::[(b4,cl [.slice (some ⟨b0,0,none⟩) N c0] 349)]::[(b3,cl [.slice (some ⟨bl,0,none⟩) n n] 154)]::[(bl,cl (ivn (List.replicate n 0)) 3)]::[(b0,cl (cvs g N++rest) 352)]::[(bv,cl (vs++restv) 363)]::Cs.flatten::L) (fun w h=>h) ?_
 refine OW_storeTo [.int .i64 ((2 * N - 2:Nat):Int)] rfl rfl rfl rfl iU (by simp) ?_
 refine kW ?_
 refine cC rfl rfl (backw_c (.slice (some ⟨bv,0,none⟩) M cw) _) (fun r L' hp=>?_)
 obtain ⟨p,rfl,rfl⟩:=hp
 refine kW ?_
 obtain ⟨J,hJ⟩:∃J:Nat→List Chunk→Prop,∀k L',J k L'↔∃ls,LsI ((Pm.sel lv M (2 * N - 2)).take k) N n (fun r=>(g r).1) 0 ls∧L'=[(b6,cl [.int .i64 ((Pm.bt lv M (2 * N - 2) k:Nat):Int)] 3)]::[(b4,cl [.slice (some ⟨b0,0,none⟩) N c0] 349)]::[(b3,cl [.slice (some ⟨bl,0,none⟩) n n] 154)]::[(bl,cl (ivn ls) 3)]::[(b0,cl (cvs g N++rest) 352)]::Cs.flatten::L:=
  ⟨fun k L'=>∃ls,LsI ((Pm.sel lv M (2 * N - 2)).take k) N n (fun r=>(g r).1) 0 ls∧L'=[(b6,cl [.int .i64 ((Pm.bt lv M (2 * N - 2) k:Nat):Int)] 3)]::[(b4,cl [.slice (some ⟨b0,0,none⟩) N c0] 349)]::[(b3,cl [.slice (some ⟨bl,0,none⟩) n n] 154)]::[(bl,cl (ivn ls) 3)]::[(b0,cl (cvs g N++rest) 352)]::Cs.flatten::L,fun _ _=>Iff.rfl⟩
 have hit:=backw_it vs p bv cw restv (by rw [hvl];omega)
 rw [hvl] at hit
 refine WC_range (ps:=[18,19]) rfl hit J ([(b6,cl [.int .i64 ((Pm.bt lv M (2 * N - 2) 0:Nat):Int)] 3)]::[(b4,cl [.slice (some ⟨b0,0,none⟩) N c0] 349)]::[(b3,cl [.slice (some ⟨bl,0,none⟩) n n] 154)]::[(bl,cl (ivn (List.replicate n 0)) 3)]::[(b0,cl (cvs g N++rest) 352)]::Cs.flatten::L) ((hJ _ _).2 ⟨_,LsI.start,rfl⟩) (fun w h=>?_)
  (fun k hk=>by rw [bwS_length] at hk;rw [bwS_get _ hk];rfl) rfl
  (fun k _=>[(3,.pointer (some ⟨b3,0,none⟩)),(4,.pointer (some ⟨b4,0,none⟩)),(6,.pointer (some ⟨b6,0,none⟩)),(8,vs.getD (vs.length - 1 - k) undef)]) (fun lp k L' R hk hj=>?_) (fun lp k L' R hk hj=>?_) (fun D a' w L3 hst hd hj hw'=>?_)
 ·have h2:=(iC:Inc ([(b6,cl [.int .i64 ((Pm.bt lv M (2 * N - 2) 0:Nat):Int)] 3)]::[(b4,cl [.slice (some ⟨b0,0,none⟩) N c0] 349)]::[(b3,cl [.slice (some ⟨bl,0,none⟩) n n] 154)]::[(bl,cl (ivn (List.replicate n 0)) 3)]::[(b0,cl (cvs g N++rest) 352)]::Cs.flatten::[(p,cl [.slice (some ⟨bv,0,none⟩) M cw] 354)]::[(bv,cl (vs++restv) 363)]::L) _).holds h
  refine h2.perm ?_
  exact List.Perm.append_left [_,_,_,_,_,_] (List.perm_append_comm (l₁:=[_,_]) (l₂:=L))
 ·rw [bwS_length] at hk
  rw [bwS_get _ hk]
  show Wic _ _ _ _ _ ((19,vs.getD (vs.length - 1 - k) undef)::(18,_)::_) _
  (repeat' first|refine kI ?_|refine kU fun bk=>?_|refine kJ fun hc=>?_|refine kK (fun hc=>?_) fun hc=>?_|fail)
  exact WQ_AP iS (fun w h=>h)
 ·rw [bwS_length,hvl] at hk
  obtain ⟨ls,hls,rfl⟩:=(hJ _ _).1 hj
  obtain ⟨v1,C1,hv1,hC1,ho1⟩:=hR.at_ (M - 1 - k) (by omega)
  rw [show M - 1 - k+1=M - k from by omega] at hC1 ho1
  have hge:N≤(lv (M - k)).length:=by
   have:=Pm.lv_length hlv (M - k - 1)
   rw [show M - k - 1+1=M - k from by omega,hcl] at this
   omega
  rcases ho1 with ⟨_,h1,_⟩|⟨b1,c1,r1,rfl,rfl,hxl,hrl,hmc,_⟩
  ·omega
  have hbk:=hbt k (by omega)
  have hsp:=Pm.sp lv (M - k) (Pm.bt lv M (2 * N - 2) k) hbk
  have hsc:Pm.sC lv (M - k) (Pm.bt lv M (2 * N - 2) k)≤N:=by
   have:=Pm.sC_le hlv (M - k - 1) (Pm.bt lv M (2 * N - 2) k)
   rw [show M - k - 1+1=M - k from by omega,hcl] at this
   exact this
  have hbs:Pm.bt lv M (2 * N - 2) (k+1)=2 * Pm.pC lv (M - k) (Pm.bt lv M (2 * N - 2) k):=rfl
  have hst:=Pm.sel_take (lv:=lv) (m:=2 * N - 2) hk
  have hll:=Pm.lv_len hlv (M - k)
  rw [hcl] at hll
  have hfl:Fnd (Cs.flatten::(L++R)) b1 (cl (itvs (lv (M - k))++r1) 372):=Fnd.mem (List.mem_flatten.2 ⟨_,List.mem_of_getElem? hC1,by simp⟩)
  have ham:=fun L' h'=>among_c (lv (M - k)) b1 (Pm.bt lv M (2 * N - 2) k) c1 r1 L' h' hbk (by omega)
  have hpc:(((lv (M - k)).take (Pm.bt lv M (2 * N - 2) k)).filter fun x=>!Pm.isC x).length=Pm.pC lv (M - k) (Pm.bt lv M (2 * N - 2) k):=rfl
  rw [hpc] at ham
  obtain ⟨T,hT⟩:∃T,T=Pm.bt lv M (2 * N - 2) k:=⟨_,rfl⟩
  obtain ⟨T2,hT2⟩:∃T2,T2=Pm.bt lv M (2 * N - 2) (k+1):=⟨_,rfl⟩
  obtain ⟨pc,hpce⟩:∃pc,pc=Pm.pC lv (M - k) (Pm.bt lv M (2 * N - 2) k):=⟨_,rfl⟩
  obtain ⟨sc,hsce⟩:∃sc,sc=Pm.sC lv (M - k) (Pm.bt lv M (2 * N - 2) k):=⟨_,rfl⟩
  rw [←hsce] at hst
  rw [←hpce] at ham hbs hsp
  rw [←hsce] at hsp hsc
  rw [←hT] at hbk hsp ham ⊢
  rw [←hT2] at hbs
  rw [hvl,show vs.getD (M - 1 - k) undef=.slice (some ⟨b1,0,none⟩) (lv (M - k)).length c1 from by simp [List.getD,hv1]]
  show Wic _ _ _ _ _ _ ([(b6,cl [.int .i64 (T:Int)] 3)]::[(b4,cl [.slice (some ⟨b0,0,none⟩) N c0] 349)]::[(b3,cl [.slice (some ⟨bl,0,none⟩) n n] 154)]::[(bl,cl (ivn ls) 3)]::[(b0,cl (cvs g N++rest) 352)]::Cs.flatten::(L++R))
  (repeat' first|refine kI ?_|refine kU fun bk=>?_|refine kJ fun hc=>?_|refine kK (fun hc=>?_) fun hc=>?_|fail)
  refine OW_EV (EV_sliceTo (h:=T) rfl rfl (bnd_int rfl rfl) (by omega)) rfl ?_
  (repeat' first|refine kI ?_|refine kU fun bk=>?_|refine kJ fun hc=>?_|refine kK (fun hc=>?_) fun hc=>?_|fail)
  refine cP rfl rfl (ham _ (Fnd.there (Fnd.there (Fnd.there (Fnd.there (Fnd.there hfl)))))) ?_
  (repeat' first|refine kI ?_|refine kU fun bk=>?_|refine kJ fun hc=>?_|refine kK (fun hc=>?_) fun hc=>?_|fail)
  rw [show (T:Int) - (pc:Int)=(sc:Int) from by omega]
  refine OW_EV (EV_sliceTo (h:=sc) rfl rfl (bnd_int rfl rfl) (by omega)) rfl ?_
  (repeat' first|refine kI ?_|refine kU fun bk=>?_|refine kJ fun hc=>?_|refine kK (fun hc=>?_) fun hc=>?_|fail)
  refine WI_loop (X:=Nat × List Nat) (fun x=>[(3,.pointer (some ⟨b3,0,none⟩)),(6,.pointer (some ⟨b6,0,none⟩)),(9,.int .i64 (pc:Int)),(28,.slice (some ⟨b0,0,none⟩) sc c0),(29,.int .i64 (sc:Int)),(30,.int .i64 (x.1:Int))])
   (fun x=>[(b6,cl [.int .i64 (T:Int)] 3)]::[(b4,cl [.slice (some ⟨b0,0,none⟩) N c0] 349)]::[(b3,cl [.slice (some ⟨bl,0,none⟩) n n] 154)]::[(bl,cl (ivn x.2) 3)]::[(b0,cl (cvs g N++rest) 352)]::Cs.flatten::(L++R))
   (fun x=>x.1≤sc∧LsI ((Pm.sel lv M (2 * N - 2)).take k) N n (fun r=>(g r).1) x.1 x.2) (fun x=>sc - x.1) (0,ls) ⟨Nat.zero_le _,hls⟩ iS (fun w h=>h) ?_
  clear hls
  rintro ⟨q,ls⟩ ⟨hq,hls⟩
  simp only at hq hls ⊢
  (repeat' first|refine kI ?_|refine kU fun bk=>?_|refine kJ fun hc=>?_|refine kK (fun hc=>?_) fun hc=>?_|fail)
  ·have hqs:q < sc:=by omega
   have hqN:q < N:=by omega
   have hsq:=hsy q hqN
   have hlq:ls.getD (g q).1 0≤15:=by
    have h1:=hls.on q hqN
    rw [if_neg (by omega)] at h1
    have h2:=Pm.ln_le ((Pm.sel lv M (2 * N - 2)).take k) q
    rw [List.length_take,Pm.sel_length] at h2
    omega
   have hld:nth (ivn ls) ((g q).1 * 1)=some (.int .i64 ((ls.getD (g q).1 0:Nat):Int)):=by
    rw [nth_eq,Nat.mul_one]
    exact ivn_get (by simp [List.getD,show (g q).1 < ls.length from by rw [hls.len];exact hsq])
   have hls2:=hls.step hinj hqN hsq
   refine OW_EV (EV_indexAddr0 (j:=q) (len:=sc) rfl rfl rfl hqs) rfl ?_
   (repeat' first|refine kI ?_|refine kU fun bk=>?_|refine kJ fun hc=>?_|refine kK (fun hc=>?_) fun hc=>?_|fail)
   refine OW_EV (EV_loadAgg rfl (cv_rd (f:=g) (n:=N) (j:=q) (rest:=rest) hqN (Fnd.there (Fnd.there (Fnd.there (Fnd.there Fnd.here))))) rfl) rfl ?_
   (repeat' first|refine kI ?_|refine kU fun bk=>?_|refine kJ fun hc=>?_|refine kK (fun hc=>?_) fun hc=>?_|fail)
   refine OW_holds (L':=[(bk,cl [.int .i64 0,.int .i64 0] 352)]::[(b6,cl [.int .i64 (T:Int)] 3)]::[(b4,cl [.slice (some ⟨b0,0,none⟩) N c0] 349)]::[(b3,cl [.slice (some ⟨bl,0,none⟩) n n] 154)]::[(bl,cl (ivn ls) 3)]::[(b0,cl (cvs g N++rest) 352)]::Cs.flatten::(L++R)) (fun w h=>h) ?_
   refine OW_storeAggTo (l:=[.int .i64 0,.int .i64 0]) (vs:=cv (g q)) (cv (g q)) rfl rfl rfl rfl rfl iU (by simp [cv]) ?_
   (repeat' first|refine kI ?_|refine kU fun bk=>?_|refine kJ fun hc=>?_|refine kK (fun hc=>?_) fun hc=>?_|fail)
   refine OW_EV (EV_indexAddr0 (j:=(g q).1) (len:=n) rfl rfl rfl hsq) rfl ?_
   (repeat' first|refine kI ?_|refine kU fun bk=>?_|refine kJ fun hc=>?_|refine kK (fun hc=>?_) fun hc=>?_|fail)
   refine OW_EV (EV_loadc rfl (Fnd.there (Fnd.there (Fnd.there (Fnd.there Fnd.here)))) hld) rfl ?_
   (repeat' first|refine kI ?_|refine kU fun bk=>?_|refine kJ fun hc=>?_|refine kK (fun hc=>?_) fun hc=>?_|fail)
   refine OW_EV (EV_indexAddr0 (j:=(g q).1) (len:=n) rfl rfl rfl hsq) rfl ?_
   (repeat' first|refine kI ?_|refine kU fun bk=>?_|refine kJ fun hc=>?_|refine kK (fun hc=>?_) fun hc=>?_|fail)
   refine OW_storeTo (l:=ivn ls) (ivn (ls.set (g q).1 (ls.getD (g q).1 0+1))) rfl rfl rfl (by rw [Nat.mul_one];simp [ivn,List.map_set]) iU (by rw [ivn_length,hls.len];omega) ?_
   (repeat' first|refine kI ?_|refine kU fun bk=>?_|refine kJ fun hc=>?_|refine kK (fun hc=>?_) fun hc=>?_|fail)
   refine WQ_round (X:=Nat × List Nat) (μ:=fun x=>sc - x.1) (x:=(q,ls)) (q+1,ls.set (g q).1 (ls.getD (g q).1 0+1)) (by simp only;omega) ⟨by simp only;omega,hls2⟩ iS (fun w h=>h.drop)
  ·have hqe:q=sc:=by omega
   subst hqe
   rw [show (2:Int) * (pc:Int)=(T2:Int) from by omega]
   refine WQ_RP ([(b6,cl [.int .i64 (T2:Int)] 3)]::[(b4,cl [.slice (some ⟨b0,0,none⟩) N c0] 349)]::[(b3,cl [.slice (some ⟨bl,0,none⟩) n n] 154)]::[(bl,cl (ivn ls) 3)]::[(b0,cl (cvs g N++rest) 352)]::Cs.flatten::L) ((hJ _ _).2 ⟨ls,?_,by rw [hT2]⟩) (fun w h=>h)
   rw [hst]
   exact hls.turn
 ·obtain ⟨ls,hls,rfl⟩:=(hJ _ _).1 hj
  rw [bwS_length,hvl,List.take_of_length_le (by rw [Pm.sel_length];exact Nat.le_refl _)] at hls
  obtain ⟨T,hT⟩:∃T,T=Pm.bt lv M (2 * N - 2) (bwS vs).length:=⟨_,rfl⟩
  rw [←hT] at hw'
  have hw2:Holds w (([(D,.deferred (some []))]::[(b6,cl [.int .i64 (T:Int)] 3)]::[(b4,cl [.slice (some ⟨b0,0,none⟩) N c0] 349)]::[(b3,cl [.slice (some ⟨bl,0,none⟩) n n] 154)]::[(bl,cl (ivn ls) 3)]::[(b0,cl (cvs g N++rest) 352)]::Cs.flatten::L)++[[(p,cl [.slice (some ⟨bv,0,none⟩) M cw] 354)],[(bv,cl (vs++restv) 363)]]):=hw'
  have hw3:=hw2.front
  refine (WP_end (e:=.normal) (.inr rfl) rfl rfl (L1:=[(bl,cl (ivn ls) 3)]::L) (fun w h=>(iC:Inc ([(D,.deferred (some []))]::[(bl,cl (ivn ls) 3)]::L) _).holds h) ⟨rfl,ls,hls,rfl⟩).out a' w hst hd hw3
end Go.Proofs.YtemdlifojcgplaaGreatDoor
namespace Go.Proofs.YtemdlifojcgplaaGreatDoor
open Go Go.Vx Go.So Go.Hf
variable [W0]
set_option maxRecDepth 4000
set_option linter.all false
omit [W0] in
def nC (ls:List Int):Nat:=(pos (nl ls) ls.length).length
omit [W0] in
def errL (ls:List Int) (most:Int):Prop:=most < 1∨15 < most∨400 < ls.length∨ls.all okc=false∨2 ^ most.toNat < nC ls
omit [W0] in
structure LenOf (cs:List Nat) (M:Nat) (lens:List Nat):Prop where
 len:lens.length=cs.length
 m1:1≤M
 m15:M≤15
 n400:cs.length≤400
 off:∀i,cs.getD i 0=0→lens.getD i 0=0
 ex:∃N g,N=(pos cs cs.length).length∧Cn cs cs.length N g∧N≤2 ^ M∧(N=1→∀r,r < N→lens.getD (g r).1 0=1)∧
  (2≤N→∃lv,Pm.Lv (coinsOf (fun i=>cs.getD i 0) g N) lv∧∀r,r < N→lens.getD (g r).1 0=Pm.ln (Pm.sel lv M (2 * N - 2)) r)
theorem zeros_ivn:∀n,zeros [.int .i64 0] n=ivn (List.replicate n 0)
 |0=>rfl
 |n+1=>by simp only [zeros,List.replicate_succ];rw [zeros_ivn n];rfl
theorem rep_getD (n i:Nat):(List.replicate n 0).getD i 0=0:=by
 simp only [List.getD,List.getElem?_replicate]
 split<;>rfl
theorem lengths_n (a:Option Addr) (c:Nat) (ls:List Int) (most:Int) (L:List Chunk) (h:Sl L 1 (.slice a ls.length c) ls.length (intsN ls)) (hl:ls.length≤17592186044416) :
 Gv Tryz.prog 261 [.slice a ls.length c,.int .i64 most].toArray L (fun r L'=>(errL ls most∧r=.tuple #[.slice none 0 0,.int .i64 1]∧L'=L)∨
  (¬errL ls most∧∃lens v C,r=.tuple #[v,.int .i64 0]∧L'=C::L∧Ow 3 1 v ls.length (ivn lens) C∧LenOf (nl ls) most.toNat lens)):=by
 refine Gv.of_body Tryz.func261 rfl rfl ?_
 obtain ⟨Q,hQ⟩:∃Q:Value→List Chunk→Prop,∀r L',Q r L'↔((errL ls most∧r=.tuple #[.slice none 0 0,.int .i64 1]∧L'=L)∨
  (¬errL ls most∧∃lens v C,r=.tuple #[v,.int .i64 0]∧L'=C::L∧Ow 3 1 v ls.length (ivn lens) C∧LenOf (nl ls) most.toNat lens)):=⟨fun r L'=>_,fun _ _=>Iff.rfl⟩
 simp only [←hQ]
 have hno:errL ls most→∀(M:List (Nat × Value)) (L1:List Chunk),lk M 4=some (.slice none 0 0)→lk M 5=some (.int .i64 1)→(∀w,Holds w L1→Holds w L)→
  WQ Tryz.f261.ntmps (bodyPost Tryz.prog Tryz.f261 (fun e w'=>∃v L',e=.returned v∧Q v L'∧Holds w' L') .ret) M L1:=by
  intro he M L1 h2 h3 h4
  refine WQ_retH (rs:=[.tmp 4,.tmp 5]) (vs:=[.slice none 0 0,.int .i64 1]) rfl (by simp [resT,h2,h3]) ?_
  exact ⟨L,h4,(hQ _ _).2 (.inl ⟨he,rfl,rfl⟩)⟩
 (repeat' first|refine kW ?_|refine kU fun bk=>?_|refine kV fun hc=>?_|refine kZ (fun hc=>?_) fun hc=>?_|fail)
 ·exact hno (.inl hc) _ _ rfl rfl (fun w h=>h)
 ·exact hno (.inr (.inl hc)) _ _ rfl rfl (fun w h=>h)
 ·exact hno (.inr (.inr (.inl (by omega)))) _ _ rfl rfl (fun w h=>h)
 refine cP rfl rfl (countable_n a c ls L h hl) ?_
 (repeat' first|refine kW ?_|refine kU fun bk=>?_|refine kV fun hc=>?_|refine kZ (fun hc=>?_) fun hc=>?_|fail)
 ·exact hno (.inr (.inr (.inr (.inl (by simpa using hc))))) _ _ rfl rfl (fun w h=>h)
 rename_i hm1 hm2 hm3
 have hok:ls.all okc=true:=by simpa using hc
 obtain ⟨M,rfl⟩:∃M:Nat,most=(M:Int):=⟨most.toNat,by omega⟩
 refine cC rfl rfl (coins_n a c ls L h (by omega) hok) (fun r L' hp=>?_)
 obtain ⟨g,C,hcn,rfl,ho⟩:=hp
 obtain ⟨N,hN⟩:∃N,N=(pos (nl ls) ls.length).length:=⟨_,rfl⟩
 rw [←hN] at hcn ho
 obtain ⟨va,vc,rfl⟩:=ow_slc ho
 have hp15:2 ^ M≤2 ^ 15:=Nat.pow_le_pow_right (by decide) (by omega)
 refine kW ?_
 refine OW_EV (EV_shl64 1 M rfl rfl rfl rfl (by omega) (by omega)) rfl ?_
 (repeat' first|refine kW ?_|refine kU fun bk=>?_|refine kV fun hc=>?_|refine kZ (fun hc=>?_) fun hc=>?_|fail)
 ·refine hno (.inr (.inr (.inr (.inr ?_)))) _ _ rfl rfl (fun w h=>h.drop)
  unfold nC
  rw [←hN,Int.toNat_natCast]
  omega
 have hNM:N≤2 ^ M:=by omega
 refine OW_makeSlice (m:=ls.length) (c:=ls.length) rfl rfl (by rfl) (by omega) (by omega) (by omega) rfl (fun bn=>?_)
 rw [show zeros (Value.int .i64 0).cells.toList ls.length=ivn (List.replicate ls.length 0) from zeros_ivn _]
 have hne:¬errL ls (M:Int):=by
  rintro (h1|h1|h1|h1|h1)
  ·omega
  ·omega
  ·omega
  ·rw [hok] at h1;cases h1
  ·unfold nC at h1
   rw [←hN,Int.toNat_natCast] at h1
   omega
 have hfin:∀lens,lens.length=ls.length→LenOf (nl ls) M lens→∀(L1:List Chunk),(∀w,Holds w L1→Holds w ([(bn,cl (ivn lens) 3)]::L))→∃L',(∀w,Holds w L1→Holds w L')∧Q (.tuple #[.slice (some ⟨bn,0,none⟩) ls.length ls.length,.int .i64 0]) L':=by
  intro lens hll hlo L1 h1
  refine ⟨_,h1,(hQ _ _).2 (.inr ⟨hne,lens,_,_,rfl,rfl,.inr ⟨bn,ls.length,[],rfl,by rw [List.append_nil],by rw [ivn_length,hll,Nat.mul_one],by simp,Nat.le_refl _,by simp [maxLen];omega⟩,by rw [Int.toNat_natCast];exact hlo⟩)⟩
 (repeat' first|refine kW ?_|refine kU fun bk=>?_|refine kV fun hc=>?_|refine kZ (fun hc=>?_) fun hc=>?_|fail)
 ·have hN1:N=1:=by omega
  rcases ho with ⟨_,h1,_⟩|⟨b,cap,rest,hv,rfl,hxl,hrl,hmc,hcm⟩
  ·omega
  injection hv with e1 e2 e3
  subst e1 e3
  clear e2
  have hsy:=hcn.sy 0 (by omega)
  have hld:nth (cvs g N++rest) (0 * 2+0)=some (.int .i64 ((g 0).1:Int)):=by
   rw [hN1];rfl
  refine OW_EV (EV_indexAddr0 (j:=0) (len:=N) rfl rfl rfl (by omega)) rfl ?_
  refine kW ?_
  refine OW_EV (EV_loadc rfl (Fnd.there Fnd.here) hld) rfl ?_
  refine kW ?_
  refine OW_EV (EV_indexAddr0 (j:=(g 0).1) (len:=ls.length) rfl rfl rfl hsy.1) rfl ?_
  refine kW ?_
  refine OW_storeTo (l:=ivn (List.replicate ls.length 0)) (ivn ((List.replicate ls.length 0).set (g 0).1 1)) rfl rfl rfl (by rw [Nat.mul_one];simp [ivn,List.map_set]) iU (by rw [ivn_length,List.length_replicate,Nat.mul_one];exact hsy.1) ?_
  refine kW ?_
  refine WQ_retH (rs:=[.tmp 4,.tmp 5]) (vs:=[.slice (some ⟨bn,0,none⟩) ls.length ls.length,.int .i64 0]) rfl rfl ?_
  refine hfin ((List.replicate ls.length 0).set (g 0).1 1) (by simp) ⟨by simp [nl_length],by omega,by omega,by rw [nl_length];omega,fun i hi=>?_,N,g,by rw [nl_length];exact hN,by rw [nl_length];exact hcn,hNM,fun _ r hr=>?_,fun h2=>by omega⟩ _ (fun w h=>iH h)
  ·have hne2:(g 0).1≠i:=fun e=>by rw [e] at hsy;omega
   simp only [List.getD,List.getElem?_set_ne hne2]
   exact rep_getD _ _
  ·have e0:r=0:=by omega
   subst e0
   simp [List.getD,hsy.1]
 ·have hN1:2≤N:=by omega
  rcases ho with ⟨_,h1,_⟩|⟨b,cap,rest,hv,rfl,hxl,hrl,hmc,hcm⟩
  ·omega
  injection hv with e1 e2 e3
  subst e1 e3
  clear e2
  have hle:=hcn.le
  have hgb:∀r,r < N→(g r).2≤1073741824:=by
   intro r hr
   obtain ⟨h1,h2,h3⟩:=hcn.sy r hr
   have hox:okc (ls.getD (g r).1 0)=true:=List.all_eq_true.1 hok _ (by simp [List.getD,h1])
   have h4:=(okc_iff _).1 hox
   rw [h3,nl_get h1]
   omega
  refine OW_holds (L':=[(b,cl (cvs g N++rest) 352)]::[(bn,cl (ivn (List.replicate ls.length 0)) 3)]::L) (fun w h=>iH h) ?_
  refine cC rfl rfl (levels_c (fun i=>(nl ls).getD i 0) g N b vc M rest _ (by omega) (by omega) hcn.up (fun r hr=>(hcn.sy r hr).2.2) hgb) (fun r L' hp=>?_)
  obtain ⟨lv,vs,Cs,Cl,rfl,hlv,hR,hO⟩:=hp
  rcases hO with ⟨_,h1,_⟩|⟨bv,cw,restv,rfl,rfl,hxl2,hrl2,hmc2,hcm2⟩
  ·omega
  refine kW ?_
  refine OW_holds (L':=[(bn,cl (ivn (List.replicate ls.length 0)) 3)]::[(b,cl (cvs g N++rest) 352)]::[(bv,cl (vs++restv) 363)]::Cs.flatten::L) (fun w h=>iH h) ?_
  refine cC rfl rfl (lengthen_c (fun i=>(nl ls).getD i 0) g N ls.length b vc bn bv cw M rest restv lv vs Cs L hN1 (by omega) (by omega) hmc (by omega) (by omega) hNM hlv hR hcn.inj (fun r hr=>(hcn.sy r hr).1)) (fun r L' hp=>?_)
  obtain ⟨rfl,lst,hI,rfl⟩:=hp
  refine kW ?_
  refine WQ_retH (rs:=[.tmp 4,.tmp 5]) (vs:=[.slice (some ⟨bn,0,none⟩) ls.length ls.length,.int .i64 0]) rfl rfl ?_
  refine hfin lst hI.len ⟨by rw [hI.len,nl_length],by omega,by omega,by rw [nl_length];omega,fun i hi=>?_,N,g,by rw [nl_length];exact hN,by rw [nl_length];exact hcn,hNM,fun h1=>by omega,fun _=>⟨lv,hlv,fun r hr=>?_⟩⟩ _ (fun w h=>h)
  ·refine hI.off i fun r hr he=>?_
   have h1:=(hcn.sy r hr).2.1
   rw [he] at h1
   omega
  ·have h1:=hI.on r hr
   rw [if_neg (by omega),Nat.add_zero] at h1
   exact h1
 ·have hN0:N=0:=by omega
  refine WQ_retH (rs:=[.tmp 4,.tmp 5]) (vs:=[.slice (some ⟨bn,0,none⟩) ls.length ls.length,.int .i64 0]) rfl rfl ?_
  refine hfin (List.replicate ls.length 0) (by simp) ⟨by simp [nl_length],by omega,by omega,by rw [nl_length];omega,fun i hi=>rep_getD _ _,N,g,by rw [nl_length];exact hN,by rw [nl_length];exact hcn,hNM,fun _ r hr=>by omega,fun h2=>by omega⟩ _ (fun w h=>iH h)
end Go.Proofs.YtemdlifojcgplaaGreatDoor
namespace Go.Hf
open Go.Pm
set_option linter.all false
theorem getD_map (is:List Nat):(List.range is.length).map (fun i=>is.getD i 0)=is:=by
 apply List.ext_getElem?
 intro k
 rw [List.getElem?_map]
 rcases Nat.lt_or_ge k is.length with h|h
 ·rw [List.getElem?_range h]
  simp [List.getD,h]
 ·rw [List.getElem?_eq_none (by simpa using h),List.getElem?_eq_none h]
  rfl
section
variable {cs : List Nat} {n N : Nat} {g : Nat → Nat × Nat} (h : Cn cs n N g)
include h
theorem Cn.perm:((List.range N).map fun r=>(g r).1).Perm ((List.range n).filter fun i=>decide (0 < cs.getD i 0)):=by
 have hn1:((List.range N).map fun r=>(g r).1).Nodup:=by
  unfold List.Nodup
  rw [List.pairwise_map]
  refine List.Pairwise.imp_of_mem (fun {a b} ha hb (hab:a≠b) he=>hab ?_) List.nodup_range
  exact h.inj a b (List.mem_range.1 ha) (List.mem_range.1 hb) he
 refine (List.perm_ext_iff_of_nodup hn1 (List.nodup_range.filter _)).2 fun i=>?_
 rw [List.mem_map,List.mem_filter,List.mem_range]
 constructor
 ·rintro ⟨r,hr,rfl⟩
  have h1:=h.sy r (List.mem_range.1 hr)
  exact ⟨h1.1,by simpa using h1.2.1⟩
 ·rintro ⟨h1,h2⟩
  obtain ⟨r,hr,he⟩:=h.onto i h1 (by simpa using h2)
  exact ⟨r,List.mem_range.2 hr,he⟩
theorem Cn.ws (hl:cs.length=n):((List.range N).map fun r=>cs.getD (g r).1 0).Perm (cs.filter fun x=>decide (0 < x)):=by
 have h1:=h.perm.map fun i=>cs.getD i 0
 rw [List.map_map] at h1
 refine h1.trans (List.Perm.of_eq ?_)
 subst hl
 conv=>rhs;rw [←getD_map cs]
 rw [List.filter_map]
 rfl
end
end Go.Hf
namespace Go.Proofs.YtemdlifojcgplaaGreatDoor
open Go Go.Vx Go.So Go.Hf Go.Pm
variable [W0]
set_option maxRecDepth 4000
set_option linter.all false
theorem coins_w {cs:List Nat} {n N:Nat} {g:Nat→Nat × Nat} (h:Cn cs n N g):∀x∈coinsOf (fun i=>cs.getD i 0) g N,0 < x.w:=by
 intro x hx
 obtain ⟨r,hr,rfl⟩:=List.mem_map.1 hx
 exact (h.sy r (List.mem_range.1 hr)).2.1
theorem LenOf.on {cs lens:List Nat} {M:Nat} (h:LenOf cs M lens) {i:Nat} (hi:i < cs.length) (h0:0 < cs.getD i 0):1≤lens.getD i 0∧lens.getD i 0≤M:=by
 obtain ⟨N,g,hN,hcn,hNM,hone,htwo⟩:=h.ex
 obtain ⟨r,hr,rfl⟩:=hcn.onto i hi h0
 have hm1:=h.m1
 by_cases h2:2≤N
 ·obtain ⟨lv,hlv,hln⟩:=htwo h2
  obtain ⟨k,rfl⟩:∃k,M=k+1:=⟨M - 1,by omega⟩
  have hcl:=coinsOf_length (fun i=>cs.getD i 0) g N
  have h3:=taken hlv (coins_w hcn) k (by omega) (by omega) r (by omega)
  rw [hcl] at h3
  have h4:=ln_le (sel lv (k+1) (2 * N - 2)) r
  rw [sel_length] at h4
  rw [hln r hr]
  exact ⟨h3,h4⟩
 ·have:=hone (by omega) r hr
  omega
theorem LenOf.pos {cs lens:List Nat} {M:Nat} (h:LenOf cs M lens) {i:Nat} (hi:i < cs.length):0 < lens.getD i 0↔0 < cs.getD i 0:=by
 rcases Nat.eq_zero_or_pos (cs.getD i 0) with h0|h0
 ·rw [h.off i h0,h0]
 ·have:=h.on hi h0
  omega
theorem LenOf.le {cs lens:List Nat} {M:Nat} (h:LenOf cs M lens) (i:Nat):lens.getD i 0≤M:=by
 rcases Nat.lt_or_ge i cs.length with hi|hi
 ·rcases Nat.eq_zero_or_pos (cs.getD i 0) with h0|h0
  ·rw [h.off i h0];omega
  ·exact (h.on hi h0).2
 ·have:lens.getD i 0=0:=by simp [List.getD,List.getElem?_eq_none (show lens.length≤i by rw [h.len];exact hi)]
  omega
theorem LenOf.nC {cs lens:List Nat} {M:Nat} (h:LenOf cs M lens):(cs.filter fun x=>decide (0 < x)).length=(Go.Hf.pos cs cs.length).length:=by
 obtain ⟨N,g,hN,hcn,_⟩:=h.ex
 have:=(hcn.ws rfl).length_eq
 rw [List.length_map,List.length_range] at this
 rw [←this,hN]
theorem LenOf.all {cs lens:List Nat} {M:Nat} (h:LenOf cs M lens) (h2:2≤(Go.Hf.pos cs cs.length).length):kS lens=32768:=by
 have hle:=h.le
 have hpos:=fun i=>h.pos (i:=i)
 have hm1:=h.m1
 have hm15:=h.m15
 have hlen:=h.len
 obtain ⟨N,g,hN,hcn,hNM,hone,htwo⟩:=h.ex
 rw [←hN] at h2
 obtain ⟨lv,hlv,hln⟩:=htwo h2
 have hcl:=coinsOf_length (fun i=>cs.getD i 0) g N
 have hgl:((List.range N).map fun r=>(g r).1).length=N:=by simp
 obtain ⟨k,rfl⟩:∃k,M=k+1:=⟨M - 1,by omega⟩
 have hw:=whole hlv (coins_w hcn) k (by omega) (by omega)
 rw [hcl] at hw
 refine kS_whole (l:=lens) (is:=(List.range N).map fun r=>(g r).1) (L:=k+1) (g:=fun r=>ln (sel lv (k+1) (2 * N - 2)) r) ?_ hm15 (fun r hr=>?_) (fun r hr=>?_) ?_
 ·refine hcn.perm.trans (List.Perm.of_eq ?_)
  rw [hlen]
  refine List.filter_congr fun i hi=>?_
  exact decide_eq_decide.2 (hpos i (List.mem_range.1 hi)).symm
 ·rw [hgl] at hr
  have:((List.range N).map fun r=>(g r).1).getD r 0=(g r).1:=by simp [List.getD,List.getElem?_range hr]
  rw [this]
  exact hln r hr
 ·have h4:=ln_le (sel lv (k+1) (2 * N - 2)) r
  rw [sel_length] at h4
  exact h4
 ·rw [hgl];exact hw
theorem LenOf.fits {cs lens:List Nat} {M:Nat} (h:LenOf cs M lens):kS lens≤32768:=by
 by_cases h2:2≤(Go.Hf.pos cs cs.length).length
 ·exact Nat.le_of_eq (h.all h2)
 ·have hpos:=fun i=>h.pos (i:=i)
  have hlen:=h.len
  obtain ⟨N,g,hN,hcn,hNM,hone,htwo⟩:=h.ex
  rw [←hN] at h2
  have hp:((List.range N).map fun r=>(g r).1).Perm ((List.range lens.length).filter fun i=>decide (0 < lens.getD i 0)):=by
   refine hcn.perm.trans (List.Perm.of_eq ?_)
   rw [hlen]
   refine List.filter_congr fun i hi=>?_
   exact decide_eq_decide.2 (hpos i (List.mem_range.1 hi)).symm
  rw [kS_perm hp]
  rcases Nat.eq_zero_or_pos N with h0|h0
  ·subst h0;simp
  ·obtain rfl:N=1:=by omega
   have h3:=hone rfl 0 (by omega)
   show ((([0].map fun r=>(g r).1).map fun i=>2 ^ (15 - lens.getD i 0)).sum)≤_
   simp only [List.map_cons,List.map_nil,List.sum_cons,List.sum_nil,h3]
   decide
end Go.Proofs.YtemdlifojcgplaaGreatDoor
namespace Go.Df
theorem gD {l:List Nat} {i:Nat} (h:i < l.length):l[i]? =some (l.getD i 0):=by rw [List.getD_eq_getElem?_getD,List.getElem?_eq_getElem h];rfl
end Go.Df
namespace Go.Proofs.YtemdlifojcgplaaGreatDoor
open Go Go.Vx Go.Hf Go.If Go.Df
variable [W0]
set_option maxRecDepth 4000
set_option linter.all false
theorem countsOfRuns_n (v:Value) (rs:List (Nat × Nat)) (L:List Chunk) (h:Rs L 2 v rs.length (flt TkV rs)) (hr:∀r∈rs,r.1 < 19) (hn:rs.length≤1000) :
 Gv Tryz.prog 264 [v].toArray L (fun r L'=>∃C,Rs [C] 1 r 19 (ivn (cR rs))∧L'=C::L):=by
 refine Gv.of_body (args:=[v]) Tryz.func264 rfl rfl ?_
 obtain ⟨va,vc,rfl,_⟩:=h.room
 refine kW ?_
 refine OW_makeSlice (m:=19) (c:=19) rfl rfl (by rfl) (by omega) (by omega) (by omega) rfl (fun b=>?_)
 rw [zeros_int]
 refine kW ?_
 refine WC_loop (X:=Nat) (fun x=>[(3,.slice (some ⟨b,0,none⟩) 19 19),(7,.slice va rs.length vc),(8,.int .i64 (rs.length:Int)),(9,.int .i64 (x:Int))]) (fun x=>[(b,cl (ivn (cR (rs.take x))) 3)]::L)
  (fun x=>x≤rs.length) (fun x=>rs.length - x) 0 (Nat.zero_le _) iS (fun w h=>h) ?_
 intro j hj9
 have hj:j≤rs.length:=hj9
 have hla:=cR_len (rs.take j)
 have hga:=fun i=>cR_le (rs:=rs.take j) (fun r h'=>hr r (List.mem_of_mem_take h')) i
 rw [List.length_take,Nat.min_eq_left hj] at hga
 (repeat' first|refine kW ?_|refine kU fun bk=>?_|refine kV fun hc=>?_|refine kZ (fun hc=>?_) fun hc=>?_|fail)
 ·have hjl:j < rs.length:=by omega
  obtain ⟨t,ht⟩:∃t,rs[j]? =some t:=⟨rs[j],List.getElem?_eq_getElem hjl⟩
  have hto:=hr t (List.mem_of_getElem? ht)
  have hsA:=cR_app (rs.take j) t
  rw [←takeSucc ht] at hsA
  obtain ⟨tb,toff,tcap,hv9,hrd⟩:=h.elem hjl (by decide)
  injection hv9 with q1 q2 q3
  subst q1 q3
  clear q2
  rw [flt_at TkV_len ht] at hrd
  obtain ⟨t1,t2⟩:=t
  simp only at hto hsA
  have h1:=hga t1
  obtain ⟨n1,hn1⟩:∃n1,n1=(cR (rs.take j)).getD t1 0:=⟨_,rfl⟩
  have hget1:(ivn (cR (rs.take j)))[t1]? =some (.int .i64 (n1:Int)):=ivn_get (by rw [hn1];simp [List.getD,show t1 < (cR (rs.take j)).length by omega])
  have hset1:(ivn (cR (rs.take j))).set (t1 * 1) (.int .i64 ((n1+1:Nat):Int))=ivn (cR (rs.take (j+1))):=by
   rw [hsA];unfold inc;rw [←hn1];simp [ivn,List.map_set]
  rw [←hn1] at h1
  have hrd:RdAt L ⟨tb,toff+j * 2,none⟩ [.int .i64 (t1:Int),.int .i64 (t2:Int)]:=hrd
  refine OW_EV (EV_indexAddr (j:=j) rfl rfl rfl hjl) rfl ?_
  refine kW ?_
  refine OW_EV (EV_loadAgg rfl (rd_there hrd) rfl) rfl ?_
  (refine kW ?_;refine kU fun bk=>?_;refine kW ?_)
  refine OW_EV (EV_indexAddr0 (j:=t1) (len:=19) rfl rfl rfl hto) rfl ?_
  refine kW ?_
  refine OW_EV (EV_loadc rfl (.there .here) (by rw [nth_eq,Nat.mul_one];exact hget1)) rfl ?_
  refine kW ?_
  refine OW_EV (EV_indexAddr0 (j:=t1) (len:=19) rfl rfl rfl hto) rfl ?_
  refine kW ?_
  rw [show (n1:Int)+1=((n1+1:Nat):Int) from by omega]
  refine OW_storeTo (ivn (cR (rs.take (j+1)))) rfl rfl rfl hset1 iU (by rw [ivn_length];omega) ?_
  refine kW ?_
  refine WQ_round (X:=Nat) (μ:=fun x=>rs.length - x) (x:=j) (j+1) (by show rs.length - (j+1) < rs.length - j;omega) (by show j+1≤rs.length;omega) iS (fun w h=>iH h)
 ·obtain rfl:j=rs.length:=by omega
  rw [List.take_length] at hla ⊢
  refine kR ?_
  exact ⟨_,iC,[(b,cl (ivn (cR rs)) 3)],⟨sl_cells (c:=(ivn (cR rs)).toArray) .here (by rw [ivn_length,hla]) (by simp),_,_,rfl,Nat.le_refl _⟩,rfl⟩
theorem orderedOf_n (v:Value) (own:List Nat) (L:List Chunk) (h:Rs L 1 v own.length (ivn own)) (h19:own.length=19) (hor:OrAt L) :
 Gv Tryz.prog 265 [v].toArray L (fun r L'=>∃C,Rs [C] 1 r (trN (orN own) 4 19) (ivn ((orN own).take (trN (orN own) 4 19)))∧L'=C::L):=by
 refine Gv.of_body (args:=[v]) Tryz.func265 rfl rfl ?_
 rw [h19] at h
 obtain ⟨va,vc,rfl,_⟩:=h.room
 have hol:(orN own).length=19:=by simp [orN]
 refine kW ?_
 refine WC_loop (X:=Nat × Value × Chunk) (fun x=>[(0,.slice va 19 vc),(3,x.2.1),(6,.int .i64 19),(7,.int .i64 (x.1:Int))]) (fun x=>x.2.2::L)
  (fun x=>x.1≤19∧Ow 3 1 x.2.1 x.1 (ivn ((orN own).take x.1)) x.2.2) (fun x=>19 - x.1) (0,.slice none 0 0,[]) ⟨by simp only;omega,.inl ⟨rfl,rfl,rfl,rfl⟩⟩ iS (fun w h=>Holds.nil.2 h) ?_
 rintro ⟨j,vl,Cl⟩ ⟨hj,hov⟩
 simp only at hj hov ⊢
 (repeat' first|refine kW ?_|refine kU fun bk=>?_|refine kV fun hc=>?_|refine kZ (fun hc=>?_) fun hc=>?_|fail)
 ·have hjl:j < 19:=by omega
  have ho19:ordL.getD j 0 < 19:=by
   have:∀j,j < 19→ordL.getD j 0 < 19:=by decide
   exact this j hjl
  have hnx:(orN own)[j]? =some (own.getD (ordL.getD j 0) 0):=by simp [orN,hjl]
  have hord:=sordered_n j (Cl::L) hor.there hjl
  have hget:(ivn own)[ordL.getD j 0]? =some (.int .i64 ((own.getD (ordL.getD j 0) 0:Nat):Int)):=ivn_get (gD (by omega))
  generalize ordL.getD j 0=o at *
  generalize own.getD o 0=x at *
  obtain ⟨tb,toff,tcap,tcc,T1,f1,hv9,hf1,hv1⟩:=sl_at h.sl hget
  injection hv9 with q1 q2 q3
  subst q1 q3
  clear q2
  refine cP rfl rfl hord ?_
  refine kW ?_
  refine OW_EV (EV_indexAddr (j:=o) rfl rfl rfl ho19) rfl ?_
  refine kW ?_
  refine OW_EV (EV_load rfl (.there hf1) hv1) rfl ?_
  refine kW ?_
  refine OW_buildSlice (cs:=[.int .i64 (x:Int)]) rfl (by rfl) (by first|(simp [fillL,patch,Value.cells,zeros];done)|(simp [fillL,patch,Value.cells,zeros];rfl)) (by omega) rfl rfl (fun bn=>?_)
  refine kW ?_
  refine OW_append rfl rfl hov (sl_cells (k:=1) (c:=#[.int .i64 (x:Int)]) (xs:=[.int .i64 (x:Int)]) (m:=1) Fnd.here rfl (by simp)) (by repeat (first|exact Zip.here _|apply Zip.there)) rfl (by rfl) (by omega) (by simp [maxLen];omega) rfl (fun vl2 Cl2 hov2 _ _=>?_)
  rw [show ivn ((orN own).take j)++[Value.int .i64 (x:Int)]=ivn ((orN own).take (j+1)) from by rw [takeSucc hnx];simp [ivn]] at hov2
  refine kW ?_
  refine WQ_round (X:=Nat × Value × Chunk) (μ:=fun x=>19 - x.1) (x:=(j,vl,Cl)) (j+1,vl2,Cl2) (by simp only;omega) ⟨by simp only;omega,hov2⟩ iS (fun w h=>iH h)
 ·obtain rfl:j=19:=by omega
  rw [List.take_of_length_le (by omega)] at hov
  have htr:=trimmed_n vl (orN own) 4 [Cl] (Cl::L) iC (by rw [hol];exact Rs.ow hov) (by omega) (by omega)
  rw [hol] at htr
  refine cC rfl rfl htr (fun r L' hp=>?_)
  obtain ⟨hr,rfl⟩:=hp
  refine kW ?_
  refine kR ?_
  exact ⟨_,iC,Cl,hr,rfl⟩
theorem bestCode_n (v:Value) (cs:List Nat) (most:Nat) (L:List Chunk) (h:Rs L 1 v cs.length (ivn cs)) (h1:1≤most) (h15:most≤15) (hn:cs.length≤400) (hb:∀i,cs.getD i 0≤1000000) (hm:(pos cs cs.length).length≤2 ^ most) :
 Gv Tryz.prog 243 [v,.int .i64 (most:Int)].toArray L (fun r L'=>∃lens w u C,r=.agg #[w,u]∧LenOf cs most lens∧CdR [C] w u lens∧L'=C::L):=by
 refine Gv.of_body (args:=[v,.int .i64 (most:Int)]) Tryz.func243 rfl rfl ?_
 obtain ⟨va,vc,rfl,_⟩:=h.room
 have hle:=fun L' (h':Rs L' 1 (.slice va cs.length vc) cs.length (ivn cs))=>lengths_n (a:=va) (c:=vc) (icn cs) (most:Int) L' (by rw [icn_length,intsN_icn];exact h'.sl) (by rw [icn_length];omega)
 have hne:¬errL (icn cs) (most:Int):=by
  rintro (h'|h'|h'|h'|h')
  ·omega
  ·omega
  ·rw [icn_length] at h';omega
  ·have:(icn cs).all okc=true:=by
    rw [List.all_eq_true]
    intro x hx
    obtain ⟨i,hi,rfl⟩:=List.getElem_of_mem hx
    have h2:=hb i
    have h3:(icn cs)[i]=((cs.getD i 0:Nat):Int):=by rw [←icn_getD];simp [List.getD,hi]
    rw [h3,okc_iff]
    omega
   rw [this] at h';cases h'
  ·unfold nC at h'
   rw [nl_icn,icn_length,Int.toNat_natCast] at h'
   omega
 rw [icn_length,nl_icn,Int.toNat_natCast] at hle
 (refine kW ?_;refine kU fun bk=>?_;refine kW ?_)
 refine cC rfl rfl (hle _ h.there) (fun r L' hp=>?_)
 rcases hp with ⟨h',_⟩|⟨_,lens,w,C,rfl,rfl,ho,hlo⟩
 ·exact absurd h' hne
 have hll:=hlo.len
 have hco:Cok lens:=⟨hlo.fits,fun x hx=>by
  obtain ⟨i,hi,rfl⟩:=List.getElem_of_mem hx
  have:=hlo.le i
  rw [show lens.getD i 0=lens[i] from by simp [List.getD,hi]] at this
  omega⟩
 rw [←hll] at ho
 have hw:=Rs.ow (L:=[]) ho
 obtain ⟨wa,wc,rfl⟩:=ow_slc ho
 refine kW ?_
 refine cC rfl rfl (codeOf_n (.slice wa lens.length wc) lens _ (hw.sub iM) hco (by omega)) (fun r L' hp=>?_)
 obtain ⟨u,C2,rfl,hu,rfl⟩:=hp
 obtain ⟨ua,uc,rfl,_⟩:=hu.room
 refine kW ?_
 (first|refine WQ_retC (vs:=[.agg ([.slice wa lens.length wc,.slice ua lens.length uc]).toArray]) rfl (.agg ⟨by kernel_rfl,by kernel_rfl⟩ rfl (RdAt.cl' (vs:=[.slice wa lens.length wc,.slice ua lens.length uc]) (by repeat (first|assumption|exact Fnd.here|refine Fnd.there ?_)) rfl) rfl .nil) ?_|refine WQ_endC (vs:=[.agg ([.slice wa lens.length wc,.slice ua lens.length uc]).toArray]) rfl (.agg ⟨by kernel_rfl,by kernel_rfl⟩ rfl (RdAt.cl' (vs:=[.slice wa lens.length wc,.slice ua lens.length uc]) (by repeat (first|assumption|exact Fnd.here|refine Fnd.there ?_)) rfl) rfl .nil) ?_)
 refine ⟨(C2++C)::L,fun w h=>two.2 (iH h),lens,_,_,C2++C,rfl,hlo,?_,rfl⟩
 refine CdR.sub (L:=C2::C::[]) (fun x hx=>by simpa [List.append_assoc] using hx) ⟨hw.sub iM,hu.sub iM,hco,by omega⟩
end Go.Proofs.YtemdlifojcgplaaGreatDoor
namespace Go.Df
open Go.Vx Go.If Go.Hf
set_option linter.all false
theorem oneF_ok (x:Nat) (hx:x≤15):∀f n bf,∀r∈oneF x f n bf,r.1 < 19∧r.2 < 2 ^ rpB r.1
 |0,n,bf,r,h=>by cases h
 |f+1,n,bf,r,h=>by
  rw [oneF] at h
  split at h
  ·cases h
  ·have hb:=smN_b hx (n:=n) (by omega) bf
   have h18:=sfN_le (n:=n) hx bf
   rcases List.mem_cons.1 h with rfl|h
   ·exact ⟨by simp only;omega,hb.2.2.2⟩
   ·exact oneF_ok x hx f _ _ r h
theorem rnF_ok:∀(f:Nat) (l:List Nat),(∀x∈l,x≤15)→∀r∈rnF f l,r.1 < 19∧r.2 < 2 ^ rpB r.1
 |0,l,_,r,h=>by cases h
 |f+1,l,hl,r,h=>by
  rw [rnF] at h
  split at h
  ·cases h
  ·rename_i hne
   rcases List.mem_append.1 h with h|h
   ·refine oneF_ok _ ?_ _ _ _ r h
    cases l with
    |nil=>exact absurd rfl hne
    |cons y q=>exact hl y (by simp)
   ·exact rnF_ok f _ (fun x hx=>hl x (List.mem_of_mem_drop hx)) r h
def hdL (l dl:List Nat):List Nat:=l.take (trN l 257 l.length)++dl.take (trN dl 1 dl.length)
end Go.Df
namespace Go.Proofs.YtemdlifojcgplaaGreatDoor
open Go Go.Vx Go.Hf Go.If Go.Df
variable [W0]
set_option maxRecDepth 4000
set_option linter.all false
theorem HdR.bits {L:List Chunk} {vo v1 v2 vr:Value} {n1 n2:Nat} {o own:List Nat} {rs:List (Nat × Nat)} (h:HdR L vo v1 v2 vr n1 n2 o own rs):itL (hwI n1 n2 o own rs)≤100+22 * 400:=by
 have:=hwI_le h.c.ok h.ol.2 rs n1 n2
 have:=h.rn
 omega
theorem headOf_n (v1 v3:Value) (l dl:List Nat) (L:List Chunk) (h1:Rs L 1 v1 l.length (ivn l)) (h3:Rs L 1 v3 dl.length (ivn dl)) (hl:l.length=286) (hd:dl.length=30) (x1:∀x∈l,x≤15) (x3:∀x∈dl,x≤15) (hor:OrAt L) :
 Gv Tryz.prog 244 [v1,v3].toArray L (fun r L'=>∃own vo v5 v6 vr C,r=.agg (hdV (trN l 257 l.length) (trN dl 1 dl.length) vo v5 v6 vr).toArray∧LenOf (cR (rnS (hdL l dl))) 7 own∧
  HdR [C] vo v5 v6 vr (trN l 257 l.length) (trN dl 1 dl.length) ((orN own).take (trN (orN own) 4 19)) own (rnS (hdL l dl))∧L'=C::L):=by
 refine Gv.of_body (args:=[v1,v3]) Tryz.func244 rfl rfl ?_
 have b1:=trN_b (l:=l) (least:=257) l.length (by omega)
 have b3:=trN_b (l:=dl) (least:=1) dl.length (by omega)
 have ht1:=fun S L' hi hs=>trimmed_n v1 l 257 S L' hi hs (by omega) (by omega)
 have ht3:=fun S L' hi hs=>trimmed_n v3 dl 1 S L' hi hs (by omega) (by omega)
 have hlst:∀x∈hdL l dl,x≤15:=fun x hx=>by
  rcases List.mem_append.1 hx with h|h
  ·exact x1 x (List.mem_of_mem_take h)
  ·exact x3 x (List.mem_of_mem_take h)
 have hlen:(hdL l dl).length=trN l 257 l.length+trN dl 1 dl.length:=by unfold hdL;rw [List.length_append,List.length_take,List.length_take];omega
 have hrl:=rnF_len (hdL l dl).length (hdL l dl) hlst
 have hro:=rnF_ok (hdL l dl).length (hdL l dl) hlst
 have hcl:hdL l dl=l.take (trN l 257 l.length)++dl.take (trN dl 1 dl.length):=rfl
 have hlt1:(l.take (trN l 257 l.length)).length=trN l 257 l.length:=by rw [List.length_take];omega
 have hlt3:(dl.take (trN dl 1 dl.length)).length=trN dl 1 dl.length:=by rw [List.length_take];omega
 generalize trN l 257 l.length=n1 at *
 generalize trN dl 1 dl.length=n2 at *
 rw [hl] at b1
 rw [hd] at b3
 have hrn:rnS (hdL l dl)=rnF (hdL l dl).length (hdL l dl):=rfl
 (refine kW ?_;refine kU fun bk=>?_;refine kW ?_)
 refine cC rfl rfl (ht1 L _ iC h1) (fun r1 L' hp=>?_)
 obtain ⟨hr1,rfl⟩:=hp
 refine kW ?_
 refine cC rfl rfl (ht3 L _ iC h3) (fun r3 L' hp=>?_)
 obtain ⟨hr3,rfl⟩:=hp
 obtain ⟨a1,c1,rfl,_⟩:=hr1.room
 obtain ⟨a3,c3,rfl,_⟩:=hr3.room
 refine kW ?_
 refine OW_buildSlice (cs:=[.slice a1 n1 c1,.slice a3 n2 c3]) rfl (by rfl) (by first|(simp [fillL,patch,Value.cells,zeros];done)|(simp [fillL,patch,Value.cells,zeros];rfl)) (by omega) rfl rfl (fun bn=>?_)
 refine kW ?_
 have hcat:=fun B=>concat_n (some ⟨bn,0,none⟩) 2 [(.slice a1 n1 c1,l.take n1),(.slice a3 n2 c3,dl.take n2)] ([(bn,cl [.slice a1 n1 c1,.slice a3 n2 c3] 154)]::B::L) (sl_cells (c:=#[.slice a1 n1 c1,.slice a3 n2 c3]) .here rfl (by simp)) (by
  intro x hx
  simp only [List.mem_cons,List.not_mem_nil,or_false] at hx
  rcases hx with rfl|rfl
  ·simp only [hlt1];exact hr1.sl |> sl_there |> sl_there
  ·simp only [hlt3];exact hr3.sl |> sl_there |> sl_there) (by simp) (by
  have:ccL [((.slice a1 n1 c1:Value),l.take n1),(.slice a3 n2 c3,dl.take n2)] 2=hdL l dl:=by rw [hcl];simp [ccL]
  show 1≤(ccL _ 2).length
  rw [this];omega) (by
  have:ccL [((.slice a1 n1 c1:Value),l.take n1),(.slice a3 n2 c3,dl.take n2)] 2=hdL l dl:=by rw [hcl];simp [ccL]
  show (ccL _ 2).length≤_
  rw [this];omega)
 rw [show ccL [((.slice a1 n1 c1:Value),l.take n1),(.slice a3 n2 c3,dl.take n2)] [((.slice a1 n1 c1:Value),l.take n1),(.slice a3 n2 c3,dl.take n2)].length=hdL l dl from by rw [hcl];simp [ccL]] at hcat
 refine cC rfl rfl (hcat _) (fun r L' hp=>?_)
 obtain ⟨C1,rfl,ho1⟩:=hp
 have hr1:=Rs.ow (L:=[]) ho1
 refine kW ?_
 refine cC rfl rfl (runsOf_n r (hdL l dl) _ (hr1.sub iM) hlst (by omega)) (fun r2 L' hp=>?_)
 obtain ⟨C2,ho2,rfl⟩:=hp
 have hr2:=Rs.ow (L:=[]) ho2
 rw [←hrn] at hrl hro
 generalize rnS (hdL l dl)=rs at *
 refine kW ?_
 refine cC rfl rfl (countsOfRuns_n r2 rs _ (hr2.sub iM) (fun x hx=>(hro x hx).1) (by omega)) (fun r4 L' hp=>?_)
 obtain ⟨C3,hr4,rfl⟩:=hp
 have hcr:=cR_len rs
 have hcb:=fun i=>cR_le (rs:=rs) (fun x hx=>(hro x hx).1) i
 have hpl:=pos_le (cR rs) (cR rs).length
 refine kW ?_
 refine cC rfl rfl (bestCode_n r4 (cR rs) 7 _ (by rw [hcr];exact hr4.sub iM) (by decide) (by decide) (by omega) (fun i=>by have:=hcb i;omega) (by omega)) (fun r5 L' hp=>?_)
 obtain ⟨own,w,u,C4,rfl,hlo,hcd,rfl⟩:=hp
 have hol:=hlo.len
 rw [hcr] at hol
 obtain ⟨wa,wc,rfl,_⟩:=hcd.l.room
 obtain ⟨ua,uc,rfl,_⟩:=hcd.c.room
 (refine kW ?_;refine kU fun bk=>?_;refine kW ?_)
 refine WC_drawAll [10] mixed ?_
 (refine WR_t 0 ?_;refine WR_t 1 ?_;refine WR_t 2 ?_;refine WR_t 3 ?_;refine WR_t 4 ?_;refine WR_t 5 ?_;refine WR_t 7 ?_;refine WR_t 8 ?_)
 refine cI 6 rfl rfl ?_
 refine cC rfl rfl (orderedOf_n (.slice wa own.length wc) own _ (hcd.l.sub iM) hol (by repeat (first|exact hor|apply OrAt.there))) (fun r6 L' hp=>?_)
 obtain ⟨C5,ho5,rfl⟩:=hp
 refine ⟨iC,?_⟩
 have hoN:(orN own).length=19:=by simp [orN]
 have hb4:=trN_b (l:=orN own) (least:=4) 19 (by decide)
 have hot:((orN own).take (trN (orN own) 4 19)).length=trN (orN own) 4 19:=by rw [List.length_take];omega
 have hfin:HdR ((C5++(C4++C2))::[]) r6 (.slice wa own.length wc) (.slice ua own.length uc) r2 n1 n2 ((orN own).take (trN (orN own) 4 19)) own rs:=by
  refine HdR.sub (L:=C5::C4::C2::[]) (fun x hx=>by simpa [List.append_assoc] using hx) ⟨?_,hcd.sub iM,hr2.sub iM,b1.imp id (fun h=>h.1),b3.imp id (fun h=>h.1),by rw [hot];omega,fun x hx=>?_,hol,by omega,hro⟩
  ·rw [hot];exact ho5.sub iM
  ·have hx2:=List.mem_of_mem_take hx
   unfold orN at hx2
   obtain ⟨i,_,rfl⟩:=List.mem_map.1 hx2
   have:=hlo.le (ordL.getD i 0)
   omega
 obtain ⟨on,hon⟩:∃on,on=trN (orN own) 4 19:=⟨_,rfl⟩
 rw [←hon] at ho5
 obtain ⟨oa,oc,rfl,_⟩:=ho5.room
 obtain ⟨ra,rc,rfl,_⟩:=hr2.room
 (refine WR_t 9 ?_)
 refine cL 10 rfl rfl rfl ?_
 refine OW_storeAggTo (l:=[.int .i64 0,.int .i64 0,.slice none 0 0,.slice none 0 0,.slice none 0 0,.slice none 0 0]) [.int .i64 (n1:Int),.int .i64 (n2:Int),.slice oa on oc,.slice wa own.length wc,.slice ua own.length uc,.slice ra rs.length rc] rfl rfl rfl rfl rfl iU (by simp) ?_
 refine cD ?_
 refine kW ?_
 (first|refine WQ_retC (vs:=[.agg ([.int .i64 (n1:Int),.int .i64 (n2:Int),.slice oa on oc,.slice wa own.length wc,.slice ua own.length uc,.slice ra rs.length rc]).toArray]) rfl (.agg ⟨by kernel_rfl,by kernel_rfl⟩ rfl (RdAt.cl' (vs:=[.int .i64 (n1:Int),.int .i64 (n2:Int),.slice oa on oc,.slice wa own.length wc,.slice ua own.length uc,.slice ra rs.length rc]) (by repeat (first|assumption|exact Fnd.here|refine Fnd.there ?_)) rfl) rfl .nil) ?_|refine WQ_endC (vs:=[.agg ([.int .i64 (n1:Int),.int .i64 (n2:Int),.slice oa on oc,.slice wa own.length wc,.slice ua own.length uc,.slice ra rs.length rc]).toArray]) rfl (.agg ⟨by kernel_rfl,by kernel_rfl⟩ rfl (RdAt.cl' (vs:=[.int .i64 (n1:Int),.int .i64 (n2:Int),.slice oa on oc,.slice wa own.length wc,.slice ua own.length uc,.slice ra rs.length rc]) (by repeat (first|assumption|exact Fnd.here|refine Fnd.there ?_)) rfl) rfl .nil) ?_)
 exact ⟨(C5++(C4++C2))::L,fun w h=>three.2 (iH h),own,_,_,_,_,_,rfl,hlo,by rw [←hon] at hfin ⊢;exact hfin,rfl⟩
end Go.Proofs.YtemdlifojcgplaaGreatDoor
namespace Go.Df
open Go.Vx Go.If Go.Hf
set_option linter.all false
def rlOf (r:Nat × Nat):Rl:=if r.1=16 then .rep r.2 else if r.1=17 then .few r.2 else if r.1=18 then .more r.2 else .len r.1
def RnOk (r:Nat × Nat):Prop:=r.1≤18∧r.2 < 2 ^ rpB r.1
theorem RnOk.cases {r:Nat × Nat} (h:RnOk r):(r.1≤15∧r.2=0∧rlOf r=.len r.1∧rpB r.1=0)∨(r.1=16∧r.2 < 4∧rlOf r=.rep r.2)∨(r.1=17∧r.2 < 8∧rlOf r=.few r.2)∨(r.1=18∧r.2 < 128∧rlOf r=.more r.2):=by
 obtain ⟨s,m⟩:=r
 obtain ⟨h1,h2⟩:=h
 simp only at h1 h2 ⊢
 by_cases h16:s=16
 ·subst h16;exact .inr (.inl ⟨rfl,h2,rfl⟩)
 by_cases h17:s=17
 ·subst h17;exact .inr (.inr (.inl ⟨rfl,h2,rfl⟩))
 by_cases h18:s=18
 ·subst h18;exact .inr (.inr (.inr ⟨rfl,h2,rfl⟩))
 have hb:rpB s=0:=by unfold rpB;rw [if_neg h16,if_neg h17,if_neg h18]
 rw [hb] at h2
 exact .inl ⟨by omega,by omega,by unfold rlOf;rw [if_neg h16,if_neg h17,if_neg h18],hb⟩
theorem rnI_eq [W0] {own:List Nat}:∀{rs:List (Nat × Nat)},(∀r∈rs,RnOk r)→itV (rnI own rs)=itV (rsI own (rs.map rlOf))∧itL (rnI own rs)=itL (rsI own (rs.map rlOf))
 |[],_=>⟨rfl,rfl⟩
 |r::q,h=>by
  obtain ⟨h1,h2⟩:=rnI_eq (own:=own) (rs:=q) (fun x hx=>h x (List.mem_cons_of_mem _ hx))
  rw [List.map_cons,rsI,rnI,itV_app,itL_app]
  obtain ⟨s,m⟩:=r
  rcases (h _ List.mem_cons_self).cases with ⟨_,g2,g3,g4⟩|⟨g1,_,g3⟩|⟨g1,_,g3⟩|⟨g1,_,g3⟩
  ·simp only at g2 g3 g4
   rw [g3,g2,g4]
   simp only [rlI,itV,itL,h1,h2,Nat.pow_zero]
   exact ⟨by simp,by omega⟩
  ·simp only at g1
   subst g1
   rw [g3]
   simp only [rlI,itV,itL,h1,h2,show rpB 16=2 from rfl]
   exact ⟨by rw [Nat.pow_add,Nat.mul_add,Nat.mul_add,Nat.mul_assoc];simp [Nat.add_assoc],by omega⟩
  ·simp only at g1
   subst g1
   rw [g3]
   simp only [rlI,itV,itL,h1,h2,show rpB 17=3 from rfl]
   exact ⟨by rw [Nat.pow_add,Nat.mul_add,Nat.mul_add,Nat.mul_assoc];simp [Nat.add_assoc],by omega⟩
  ·simp only at g1
   subst g1
   rw [g3]
   simp only [rlI,itV,itL,h1,h2,show rpB 18=7 from rfl]
   exact ⟨by rw [Nat.pow_add,Nat.mul_add,Nat.mul_add,Nat.mul_assoc];simp [Nat.add_assoc],by omega⟩
theorem last_rep (a:List Nat) (m x:Nat) (h:1≤m):(a++List.replicate m x).getD ((a++List.replicate m x).length - 1) 0=x:=by
 rw [List.length_append,List.length_replicate,List.getD_eq_getElem?_getD,List.getElem?_append_right (by omega),List.getElem?_replicate,if_pos (by omega)]
 rfl
theorem step_ok {x n:Nat} (hx:x≤15) (hn:1≤n) (bf:Bool) (a:List Nat) (hb:bf=true→a≠[]∧a.getD (a.length - 1) 0=x) :
 RnOk (sfN x n bf,smN x n bf - rpA (sfN x n bf))∧rlW (rlOf (sfN x n bf,smN x n bf - rpA (sfN x n bf))) a=a++List.replicate (smN x n bf) x∧(∀own:List Nat,0 < own.getD (sfN x n bf) 0→rlOk own a.length (rlOf (sfN x n bf,smN x n bf - rpA (sfN x n bf)))):=by
 have hs:=smN_b hx hn bf
 have hr:RnOk (sfN x n bf,smN x n bf - rpA (sfN x n bf)):=⟨sfN_le hx bf,hs.2.2.2⟩
 refine ⟨hr,?_⟩
 by_cases h1:x=0∧11≤n
 ·have e:sfN x n bf=18:=by unfold sfN;rw [if_pos h1]
  rw [e] at hr hs ⊢
  generalize smN x n bf=m at *
  have e2:rpA 18=11:=rfl
  rw [e2] at hs ⊢
  refine ⟨?_,fun own ho=>⟨hs.2.2.2,ho⟩⟩
  show a++List.replicate (11+(m - 11)) 0=_
  rw [show 11+(m - 11)=m from by omega,h1.1]
 by_cases h2:x=0∧3≤n
 ·have e:sfN x n bf=17:=by unfold sfN;rw [if_neg h1,if_pos h2]
  rw [e] at hr hs ⊢
  generalize smN x n bf=m at *
  have e2:rpA 17=3:=rfl
  rw [e2] at hs ⊢
  refine ⟨?_,fun own ho=>⟨hs.2.2.2,ho⟩⟩
  show a++List.replicate (3+(m - 3)) 0=_
  rw [show 3+(m - 3)=m from by omega,h2.1]
 by_cases h3:0 < x∧bf=true∧3≤n
 ·have e:sfN x n bf=16:=by unfold sfN;rw [if_neg h1,if_neg h2,if_pos h3]
  rw [e] at hr hs ⊢
  generalize smN x n bf=m at *
  have e2:rpA 16=3:=rfl
  rw [e2] at hs ⊢
  obtain ⟨g1,g2⟩:=hb h3.2.1
  refine ⟨?_,fun own ho=>⟨List.length_pos_iff.2 g1,hs.2.2.2,ho⟩⟩
  show a++List.replicate (3+(m - 3)) (a.getD (a.length - 1) 0)=_
  rw [show 3+(m - 3)=m from by omega,g2]
 ·have e:sfN x n bf=x:=by unfold sfN;rw [if_neg h1,if_neg h2,if_neg h3]
  have e1:rpA x=1:=by unfold rpA;rw [if_neg (by omega),if_neg (by omega),if_neg (by omega)]
  have e2:rpB x=0:=by unfold rpB;rw [if_neg (by omega),if_neg (by omega),if_neg (by omega)]
  have e3:smN x n bf=1:=by unfold smN;rw [e,e1,e2];show min n (1+1 - 1)=1;omega
  rw [e,e1,e3]
  have e4:rlOf (x,1 - 1)=.len x:=by unfold rlOf;rw [if_neg (by simp only;omega),if_neg (by simp only;omega),if_neg (by simp only;omega)]
  rw [e4]
  exact ⟨rfl,fun own ho=>⟨hx,ho⟩⟩
theorem oneF_W {x:Nat} (hx:x≤15):∀(f n:Nat) (bf:Bool) (a:List Nat),n≤f→(bf=true→a≠[]∧a.getD (a.length - 1) 0=x)→
 (∀r∈oneF x f n bf,RnOk r)∧rsW ((oneF x f n bf).map rlOf) a=a++List.replicate n x∧(∀own:List Nat,(∀r∈oneF x f n bf,0 < own.getD r.1 0)→rsOk own a.length ((oneF x f n bf).map rlOf))
 |0,n,bf,a,hn,hb=>by
  obtain rfl:n=0:=by omega
  exact ⟨fun r hr=>(by cases hr),by simp [oneF,rsW],fun own _=>trivial⟩
 |f+1,n,bf,a,hn,hb=>by
  rw [oneF]
  by_cases h0:n=0
  ·rw [if_pos h0]
   subst h0
   exact ⟨fun r hr=>(by cases hr),by simp [rsW],fun own _=>trivial⟩
  rw [if_neg h0]
  obtain ⟨g1,g2,g3⟩:=step_ok hx (n:=n) (by omega) bf a hb
  have hs:=smN_b hx (n:=n) (by omega) bf
  obtain ⟨i1,i2,i3⟩:=oneF_W hx f (n - smN x n bf) true (a++List.replicate (smN x n bf) x) (by omega) (fun _=>⟨by
   intro h
   have:=congrArg List.length h
   simp only [List.length_append,List.length_replicate,List.length_nil] at this
   omega,last_rep _ _ _ hs.2.2.1⟩)
  refine ⟨fun r hr=>?_,?_,fun own ho=>?_⟩
  ·rcases List.mem_cons.1 hr with rfl|hr
   ·exact g1
   ·exact i1 r hr
  ·rw [List.map_cons,rsW,g2,i2,List.append_assoc,List.replicate_append_replicate,show smN x n bf+(n - smN x n bf)=n from by omega]
  ·rw [List.map_cons]
   refine ⟨g3 own (ho _ List.mem_cons_self),?_⟩
   have:=i3 own (fun r hr=>ho r (List.mem_cons_of_mem _ hr))
   rw [←rlW_length,g2]
   exact this
theorem rsW_app:∀(x y:List Rl) (a:List Nat),rsW (x++y) a=rsW y (rsW x a)
 |[],y,a=>rfl
 |r::x,y,a=>by rw [List.cons_append,rsW,rsW_app x,rsW]
theorem rsOk_app {own:List Nat}:∀{x y:List Rl} {n:Nat},rsOk own n x→rsOk own (n+rsN x) y→rsOk own n (x++y)
 |[],y,n,h1,h2=>by simpa [rsN] using h2
 |r::x,y,n,h1,h2=>by
  refine ⟨h1.1,rsOk_app h1.2 ?_⟩
  rw [rsN] at h2
  rw [Nat.add_assoc]
  exact h2
theorem eqN_rep {l:List Nat} (h:l≠[]):l.take (eqN l)=List.replicate (eqN l) (l.getD 0 0):=by
 cases l with
 |nil=>exact absurd rfl h
 |cons x r=>
  have key:∀(r:List Nat),r.take (r.takeWhile fun y=>decide (y=x)).length=List.replicate (r.takeWhile fun y=>decide (y=x)).length x:=by
   intro r
   induction r with
   |nil=>rfl
   |cons y r ih=>
    by_cases hy:y=x
    ·rw [List.takeWhile_cons_of_pos (by simpa using hy),List.length_cons,List.take_succ_cons,ih,List.replicate_succ,hy]
    ·rw [List.takeWhile_cons_of_neg (by simpa using hy)];rfl
  rw [eqN,Nat.add_comm,List.take_succ_cons,key,List.replicate_succ]
  rfl
theorem rnF_W:∀(f:Nat) (l a:List Nat),(∀x∈l,x≤15)→l.length≤f→
 (∀r∈rnF f l,RnOk r)∧rsW ((rnF f l).map rlOf) a=a++l∧(∀own:List Nat,(∀r∈rnF f l,0 < own.getD r.1 0)→rsOk own a.length ((rnF f l).map rlOf))
 |0,l,a,h15,hf=>by
  obtain rfl:l=[]:=List.length_eq_zero_iff.1 (by omega)
  exact ⟨fun r hr=>(by cases hr),by simp [rnF,rsW],fun own _=>trivial⟩
 |f+1,l,a,h15,hf=>by
  rw [rnF]
  by_cases h0:l=[]
  ·rw [if_pos h0,h0]
   exact ⟨fun r hr=>(by cases hr),by simp [rsW],fun own _=>trivial⟩
  rw [if_neg h0]
  have hb:=eqN_b h0
  have hx:l.getD 0 0≤15:=by
   cases l with
   |nil=>exact absurd rfl h0
   |cons y r=>exact h15 y List.mem_cons_self
  obtain ⟨g1,g2,g3⟩:=oneF_W hx (eqN l) (eqN l) false a (Nat.le_refl _) (fun h=>by cases h)
  obtain ⟨i1,i2,i3⟩:=rnF_W f (l.drop (eqN l)) (a++List.replicate (eqN l) (l.getD 0 0)) (fun x hx=>h15 x (List.mem_of_mem_drop hx)) (by rw [List.length_drop];omega)
  refine ⟨fun r hr=>?_,?_,fun own ho=>?_⟩
  ·rcases List.mem_append.1 hr with hr|hr
   ·exact g1 r hr
   ·exact i1 r hr
  ·rw [List.map_append,rsW_app,g2,i2,List.append_assoc,←eqN_rep h0,List.take_append_drop]
  ·rw [List.map_append]
   refine rsOk_app (g3 own fun r hr=>ho r (List.mem_append_left _ hr)) ?_
   have:=i3 own (fun r hr=>ho r (List.mem_append_right _ hr))
   have hl:=rsW_length ((oneF (l.getD 0 0) (eqN l) (eqN l) false).map rlOf) a
   rw [g2] at hl
   rw [←hl]
   exact this
theorem rnS_W {l:List Nat} (h15:∀x∈l,x≤15):(∀r∈rnS l,RnOk r)∧rsW ((rnS l).map rlOf) []=l∧(∀own:List Nat,(∀r∈rnS l,0 < own.getD r.1 0)→rsOk own 0 ((rnS l).map rlOf)):=by
 have:=rnF_W l.length l [] h15 (Nat.le_refl _)
 exact this
def exR (rs:List (Nat × Nat)):Nat:=(rs.map fun r=>rpB r.1).sum
theorem exR_app (a:List (Nat × Nat)) (r:Nat × Nat):exR (a++[r])=exR a+rpB r.1:=by simp [exR]
theorem rn_size [W0] {own:List Nat} {rs:List (Nat × Nat)} (h:∀r∈rs,r.1 < 19):itL (rnI own rs)=sS (fun i=>own.getD i 0) 19 (cR rs)+exR rs:=by
 induction rs using snoc_ind with
 |h0=>
  rw [show cR []=List.replicate 19 0 from rfl,sS_zero]
  rfl
 |h1 a t ih=>
  have ht:=h t (by simp)
  rw [rnI_app,itL_app,ih (fun x hx=>h x (by simp [hx])),cR_app,sS_inc (by rw [cR_len];exact ht),if_pos ht,exR_app]
  simp only [rnI,itL,sc]
  omega
theorem hw_size [W0] {n1 n2:Nat} {o own:List Nat} {rs:List (Nat × Nat)} (h:∀r∈rs,r.1 < 19):itL (hwI n1 n2 o own rs)=14+3 * o.length+sS (fun i=>own.getD i 0) 19 (cR rs)+exR rs:=by
 unfold hwI
 rw [itL_app,itL_app,orI_L,rn_size h]
 simp only [itL]
 omega
end Go.Df
namespace Go.Proofs.YtemdlifojcgplaaGreatDoor
open Go Go.Vx Go.Hf Go.If Go.Df
variable [W0]
set_option maxRecDepth 4000
set_option linter.all false
theorem hdsize_n (vo v1 v2 vr:Value) (n1 n2:Nat) (o own:List Nat) (rs:List (Nat × Nat)) (L:List Chunk) (hK:HdR L vo v1 v2 vr n1 n2 o own rs) :
 GvP Tryz.prog 325 [.agg (hdV n1 n2 vo v1 v2 vr).toArray].toArray L (.int .i64 ((itL (hwI n1 n2 o own rs):Nat):Int)):=by
 refine Gv.of_body Tryz.func325 rfl rfl ?_
 have hbit:=hK.bits
 rw [hw_size (fun r h=>(hK.ro r h).1)] at hbit ⊢
 have hcr:=cR_len rs
 have hrn:=hK.rn
 have hol:=hK.ol
 have hcb:=fun i=>cR_le (rs:=rs) (fun x hx=>(hK.ro x hx).1) i
 obtain ⟨oa,oc,rfl,_⟩:=hK.ord.room
 obtain ⟨a1,c1,rfl,_⟩:=hK.c.l.room
 obtain ⟨a2,c2,rfl,_⟩:=hK.c.c.room
 obtain ⟨ra,rc,rfl,_⟩:=hK.run.room
 unfold hdV
 (refine kW ?_;refine kU fun bk=>?_;refine kW ?_)
 have hm:min (cR rs).length own.length=19:=by rw [hcr,hK.o19];rfl
 refine WC_drawAll [12] mixed ?_
 (refine WR_t 0 ?_;refine WR_t 1 ?_;refine WR_t 2 ?_;refine WR_t 3 ?_;refine WR_t 4 ?_;refine WR_t 5 ?_;refine WR_t 6 ?_;refine WR_t 7 ?_;refine WR_t 8 ?_)
 refine cI 9 rfl rfl ?_
 refine cC rfl rfl (countsOfRuns_n (.slice ra rs.length rc) rs _ (hK.run.sub iM) (fun x hx=>(hK.ro x hx).1) (by omega)) (fun r L' hp=>?_)
 obtain ⟨C1,hr1,rfl⟩:=hp
 refine ⟨iC,?_⟩
 have hco:=ccost_n (.slice a1 own.length c1) (.slice a2 own.length c2) r own (cR rs) (C1::[(bk,cl (hdV n1 n2 (.slice oa o.length oc) (.slice a1 own.length c1) (.slice a2 own.length c2) (.slice ra rs.length rc)) 226)]::L) (hK.c.l.sub iM) (by rw [hcr];exact hr1.sub iM) (by omega) (fun i=>by have:=hcb i;omega) (fun i=>by have:=hK.c.ok.at i;omega)
 rw [hm] at hco
 generalize sS (fun i=>own.getD i 0) 19 (cR rs)=z at *
 refine cI 10 rfl rfl ?_
 refine cP rfl rfl hco ?_
 refine ⟨iC,?_⟩
 (refine WR_t 11 ?_)
 refine cL 12 rfl rfl rfl ?_
 rw [show (14:Int)+3 * (o.length:Int)+(z:Int)=((14+3 * o.length+z:Nat):Int) from by omega]
 generalize 14+3 * o.length+z=bs at *
 refine OW_EV (EV_assign rfl) rfl ?_
 refine cD ?_
 refine kW ?_
 refine WC_loop (X:=Nat) (fun x=>[(3,.int .i64 ((bs+exR (rs.take x):Nat):Int)),(21,.slice ra rs.length rc),(22,.int .i64 (rs.length:Int)),(23,.int .i64 (x:Int))]) (fun _=>L) (fun x=>x≤rs.length∧exR (rs.take x)≤7 * x) (fun x=>rs.length - x) 0 ⟨Nat.zero_le _,by simp [exR]⟩ (by
  rw [show exR (rs.take 0)=0 from rfl,Nat.add_zero]
  exact iS) (fun w h=>iH h) ?_
 intro j hj9
 have hj:j≤rs.length∧exR (rs.take j)≤7 * j:=hj9
 (repeat' first|refine kW ?_|refine kU fun bk=>?_|refine kV fun hc=>?_|refine kZ (fun hc=>?_) fun hc=>?_|fail)
 ·have hjl:j < rs.length:=by omega
  obtain ⟨t,ht⟩:∃t,rs[j]? =some t:=⟨rs[j],List.getElem?_eq_getElem hjl⟩
  have hto:=(hK.ro t (List.mem_of_getElem? ht)).1
  have hsA:=exR_app (rs.take j) t
  rw [←takeSucc ht] at hsA
  obtain ⟨tb,toff,tcap,hv9,hrd⟩:=hK.run.elem hjl (by decide)
  injection hv9 with q1 q2 q3
  subst q1 q3
  clear q2
  rw [flt_at TkV_len ht] at hrd
  obtain ⟨t1,t2⟩:=t
  simp only at hto hsA
  have hrd:RdAt L ⟨tb,toff+j * 2,none⟩ [.int .i64 (t1:Int),.int .i64 (t2:Int)]:=hrd
  have hru:=fun L=>srun_n t1 L (by omega)
  have hb7:rpB t1≤7:=by unfold rpB;split<;>(try split)<;>(try split)<;>omega
  refine OW_EV (EV_indexAddr (j:=j) rfl rfl rfl hjl) rfl ?_
  refine kW ?_
  refine OW_EV (EV_loadAgg rfl hrd rfl) rfl ?_
  (refine kW ?_;refine kU fun bk=>?_;refine kW ?_)
  refine cP rfl rfl (hru _) ?_
  refine kW ?_
  rw [show ((bs+exR (rs.take j):Nat):Int)+(rpB t1:Int)=((bs+exR (rs.take (j+1)):Nat):Int) from by rw [hsA];omega]
  refine WQ_round (X:=Nat) (μ:=fun x=>rs.length - x) (x:=j) (j+1) (by show rs.length - (j+1) < rs.length - j;omega) ⟨by omega,by rw [hsA];omega⟩ iS (fun w h=>iH h)
 ·obtain rfl:j=rs.length:=by omega
  rw [List.take_length]
  refine kR ?_
  exact ⟨_,iC,rfl,rfl⟩
omit [W0] in
structure DyX where
 l:List Nat
 dl:List Nat
 v1:Value
 v2:Value
 v3:Value
 v4:Value
 C1:Chunk
 C2:Chunk
 b:Nat
theorem dynamicOf_n (v vt:Value) (b:List UInt8) (ts:List (Nat × Nat)) (S L:List Chunk) (hi:Inc S L) (h:PcR S v vt b ts) (hor:OrAt L) :
 Gv Tryz.prog 209 [.agg #[v,vt]].toArray L (fun r L'=>∃l dl own v1 v2 v3 v4 vo v5 v6 vr C,r=.agg (cdV vt v1 v2 v3 v4 (itL (coI l dl ts))++hdV (trN l 257 l.length) (trN dl 1 dl.length) vo v5 v6 vr).toArray∧LenOf (inc (cA ts) 256) 15 l∧LenOf (cD ts) 15 dl∧LenOf (cR (rnS (hdL l dl))) 7 own∧
  CoR (C::S) vt v1 v2 v3 v4 ts l dl∧HdR (C::S) vo v5 v6 vr (trN l 257 l.length) (trN dl 1 dl.length) ((orN own).take (trN (orN own) 4 19)) own (rnS (hdL l dl))∧L'=C::L):=by
 refine Gv.of_body (args:=[.agg #[v,vt]]) Tryz.func209 rfl rfl ?_
 obtain ⟨va,vc,rfl,_⟩:=h.x.room
 obtain ⟨ta,tc,rfl,_⟩:=h.t.rs.room
 have hL:=h.sub hi.mem
 have hnt:=h.nt
 have hla:(inc (cA ts) 256).length=286:=by rw [inc_len,cA_len]
 have hld:=cD_len ts
 have hca:∀i,(inc (cA ts) 256).getD i 0≤200001:=fun i=>by
  have:=cA_le h.t.ok i
  rw [inc_get (by rw [cA_len];decide)]
  split<;>omega
 have hcdb:∀i,(cD ts).getD i 0≤200000:=fun i=>by have:=cD_le h.t.ok i;omega
 have hp1:=pos_le (inc (cA ts) 256) (inc (cA ts) 256).length
 have hp2:=pos_le (cD ts) (cD ts).length
 refine WC_seq ?_
 (repeat' first|refine kY ?_|refine kU fun bk=>?_|refine kV fun hc=>?_|refine kZ (fun hc=>?_) fun hc=>?_|fail)
 rename_i q1
 obtain ⟨q2,hq2⟩:∃x,x=bk:=⟨_,rfl⟩
 subst hq2
 refine WC_seq ?_
 (repeat' first|refine kY ?_|refine kU fun bk=>?_|refine kV fun hc=>?_|refine kZ (fun hc=>?_) fun hc=>?_|fail)
 refine cC rfl rfl (countsOf_n (.slice ta ts.length tc) ts _ (hL.t.sub iM) h.nt) (fun r L' hp=>?_)
 obtain ⟨x1,x2,C0,rfl,hx1,hx2,rfl⟩:=hp
 obtain ⟨xa,xc,rfl,_⟩:=hx1.room
 obtain ⟨ya,yc,rfl,_⟩:=hx2.room
 (repeat' first|refine kY ?_|refine kU fun bk=>?_|refine kV fun hc=>?_|refine kZ (fun hc=>?_) fun hc=>?_|fail)
 refine WC_cut (X:=DyX) (fun z=>[(1,.pointer (some ⟨q1,0,none⟩)),(2,.pointer (some ⟨q2,0,none⟩)),(4,.pointer (some ⟨z.b,0,none⟩))])
  (fun z=>[(z.b,cl (cdV (.slice ta ts.length tc) z.v1 z.v2 z.v3 z.v4 (itL (coI z.l z.dl ts))) 184)]::z.C2::z.C1::[(q2,cl [.slice none 0 0,.slice none 0 0,.slice none 0 0,.slice none 0 0,.slice none 0 0,.int .i64 0,.int .i64 0,.int .i64 0,.slice none 0 0,.slice none 0 0,.slice none 0 0,.slice none 0 0] 228)]::[(q1,cl [.slice va b.length vc,.slice ta ts.length tc] 179)]::L)
  (fun z=>LenOf (inc (cA ts) 256) 15 z.l∧LenOf (cD ts) 15 z.dl∧CdR [z.C1] z.v1 z.v2 z.l∧CdR [z.C2] z.v3 z.v4 z.dl) ?_ ?_
 ·refine WC_drawAll [11] mixed ?_
  (refine WR_t 0 ?_;refine WR_t 1 ?_;refine WR_t 3 ?_;refine WR_t 4 ?_;refine WR_t 6 ?_;refine WR_t 7 ?_;refine WR_t 8 ?_)
  refine WR_any (js:=[2,10]) (by kernel_rfl) (by simp) (fun j hj=>?_)
  simp only [List.mem_cons,List.not_mem_nil,or_false] at hj
  rcases hj with rfl|rfl
  ·refine ⟨_,rfl,rfl,?_⟩
   refine cC rfl rfl (bestCode_n (.slice xa 286 xc) (inc (cA ts) 256) 15 _ (by rw [hla];exact hx1.sub iM) (by decide) (by decide) (by omega) (fun i=>by have:=hca i;omega) (by omega)) (fun r L' hp=>?_)
   obtain ⟨l,v1,v2,C1,rfl,hlo,hcd,rfl⟩:=hp
   refine ⟨iC,?_⟩
   refine WR_any (js:=[5,10]) (by kernel_rfl) (by simp) (fun j hj=>?_)
   simp only [List.mem_cons,List.not_mem_nil,or_false] at hj
   rcases hj with rfl|rfl
   ·refine ⟨_,rfl,rfl,?_⟩
    refine cC rfl rfl (bestCode_n (.slice ya 30 yc) (cD ts) 15 _ (by rw [hld];exact hx2.sub iM) (by decide) (by decide) (by omega) (fun i=>by have:=hcdb i;omega) (by omega)) (fun r L' hp=>?_)
    obtain ⟨dl,v3,v4,C2,rfl,hlo2,hcd2,rfl⟩:=hp
    refine ⟨iC,?_⟩
    refine WR_any (js:=[9,10]) (by kernel_rfl) (by simp) (fun j hj=>?_)
    simp only [List.mem_cons,List.not_mem_nil,or_false] at hj
    rcases hj with rfl|rfl
    ·refine ⟨_,rfl,rfl,?_⟩
     have hl286:286≤l.length:=by rw [hlo.len,hla];exact Nat.le_refl _
     have hd30:30≤dl.length:=by rw [hlo2.len,hld];exact Nat.le_refl _
     refine cP rfl rfl (codedBy_n v1 v2 v3 v4 (.slice ta ts.length tc) (.slice xa 286 xc) (.slice ya 30 yc) l dl ts _ (hcd.sub iM) (hcd2.sub iM) (hL.t.sub iM) h.nt hl286 hd30 (hx1.sub iM) (hx2.sub iM)) ?_
     refine ⟨iC,?_⟩
     refine cI 10 rfl rfl ?_
     refine OW_alloc rfl (fun b4=>?_)
     refine ⟨iC,?_⟩
     refine cL 11 rfl rfl rfl ?_
     obtain ⟨a1,e1,rfl,_⟩:=hcd.l.room
     obtain ⟨a2,e2,rfl,_⟩:=hcd.c.room
     obtain ⟨a3,e3,rfl,_⟩:=hcd2.l.room
     obtain ⟨a4,e4,rfl,_⟩:=hcd2.c.room
     refine OW_storeAggTo (l:=[.slice none 0 0,.slice none 0 0,.slice none 0 0,.slice none 0 0,.slice none 0 0,.int .i64 0]) (cdV (.slice ta ts.length tc) (.slice a1 l.length e1) (.slice a2 l.length e2) (.slice a3 dl.length e3) (.slice a4 dl.length e4) (itL (coI l dl ts))) rfl rfl rfl rfl rfl iU (by simp [cdV]) ?_
     refine cD ?_
     refine kW ?_
     exact WQ_cut (⟨l,dl,_,_,_,_,C1,C2,b4⟩:DyX) ⟨hlo,hlo2,hcd,hcd2⟩ iS (fun w h=>iH h)
    ·refine ⟨_,rfl,rfl,?_⟩
     refine OW_alloc rfl (fun b4=>?_)
     refine ⟨iC,?_⟩
     refine cI 9 rfl rfl ?_
     have hl286:286≤l.length:=by rw [hlo.len,hla];exact Nat.le_refl _
     have hd30:30≤dl.length:=by rw [hlo2.len,hld];exact Nat.le_refl _
     refine cP rfl rfl (codedBy_n v1 v2 v3 v4 (.slice ta ts.length tc) (.slice xa 286 xc) (.slice ya 30 yc) l dl ts _ (hcd.sub iM) (hcd2.sub iM) (hL.t.sub iM) h.nt hl286 hd30 (hx1.sub iM) (hx2.sub iM)) ?_
     refine ⟨iC,?_⟩
     refine cL 11 rfl rfl rfl ?_
     obtain ⟨a1,e1,rfl,_⟩:=hcd.l.room
     obtain ⟨a2,e2,rfl,_⟩:=hcd.c.room
     obtain ⟨a3,e3,rfl,_⟩:=hcd2.l.room
     obtain ⟨a4,e4,rfl,_⟩:=hcd2.c.room
     refine OW_storeAggTo (l:=[.slice none 0 0,.slice none 0 0,.slice none 0 0,.slice none 0 0,.slice none 0 0,.int .i64 0]) (cdV (.slice ta ts.length tc) (.slice a1 l.length e1) (.slice a2 l.length e2) (.slice a3 dl.length e3) (.slice a4 dl.length e4) (itL (coI l dl ts))) rfl rfl rfl rfl rfl iU (by simp [cdV]) ?_
     refine cD ?_
     refine kW ?_
     exact WQ_cut (⟨l,dl,_,_,_,_,C1,C2,b4⟩:DyX) ⟨hlo,hlo2,hcd,hcd2⟩ iS (fun w h=>iH h)
   ·refine ⟨_,rfl,rfl,?_⟩
    refine OW_alloc rfl (fun b4=>?_)
    refine ⟨iC,?_⟩
    refine cI 5 rfl rfl ?_
    refine cC rfl rfl (bestCode_n (.slice ya 30 yc) (cD ts) 15 _ (by rw [hld];exact hx2.sub iM) (by decide) (by decide) (by omega) (fun i=>by have:=hcdb i;omega) (by omega)) (fun r L' hp=>?_)
    obtain ⟨dl,v3,v4,C2,rfl,hlo2,hcd2,rfl⟩:=hp
    refine ⟨iC,?_⟩
    refine cI 9 rfl rfl ?_
    have hl286:286≤l.length:=by rw [hlo.len,hla];exact Nat.le_refl _
    have hd30:30≤dl.length:=by rw [hlo2.len,hld];exact Nat.le_refl _
    refine cP rfl rfl (codedBy_n v1 v2 v3 v4 (.slice ta ts.length tc) (.slice xa 286 xc) (.slice ya 30 yc) l dl ts _ (hcd.sub iM) (hcd2.sub iM) (hL.t.sub iM) h.nt hl286 hd30 (hx1.sub iM) (hx2.sub iM)) ?_
    refine ⟨iC,?_⟩
    refine cL 11 rfl rfl rfl ?_
    obtain ⟨a1,e1,rfl,_⟩:=hcd.l.room
    obtain ⟨a2,e2,rfl,_⟩:=hcd.c.room
    obtain ⟨a3,e3,rfl,_⟩:=hcd2.l.room
    obtain ⟨a4,e4,rfl,_⟩:=hcd2.c.room
    refine OW_storeAggTo (l:=[.slice none 0 0,.slice none 0 0,.slice none 0 0,.slice none 0 0,.slice none 0 0,.int .i64 0]) (cdV (.slice ta ts.length tc) (.slice a1 l.length e1) (.slice a2 l.length e2) (.slice a3 dl.length e3) (.slice a4 dl.length e4) (itL (coI l dl ts))) rfl rfl rfl rfl rfl iU (by simp [cdV]) ?_
    refine cD ?_
    refine kW ?_
    exact WQ_cut (⟨l,dl,_,_,_,_,C1,C2,b4⟩:DyX) ⟨hlo,hlo2,hcd,hcd2⟩ iS (fun w h=>iH h)
  ·refine ⟨_,rfl,rfl,?_⟩
   refine OW_alloc rfl (fun b4=>?_)
   refine ⟨iC,?_⟩
   refine cI 2 rfl rfl ?_
   refine cC rfl rfl (bestCode_n (.slice xa 286 xc) (inc (cA ts) 256) 15 _ (by rw [hla];exact hx1.sub iM) (by decide) (by decide) (by omega) (fun i=>by have:=hca i;omega) (by omega)) (fun r L' hp=>?_)
   obtain ⟨l,v1,v2,C1,rfl,hlo,hcd,rfl⟩:=hp
   refine ⟨iC,?_⟩
   refine cI 5 rfl rfl ?_
   refine cC rfl rfl (bestCode_n (.slice ya 30 yc) (cD ts) 15 _ (by rw [hld];exact hx2.sub iM) (by decide) (by decide) (by omega) (fun i=>by have:=hcdb i;omega) (by omega)) (fun r L' hp=>?_)
   obtain ⟨dl,v3,v4,C2,rfl,hlo2,hcd2,rfl⟩:=hp
   refine ⟨iC,?_⟩
   refine cI 9 rfl rfl ?_
   have hl286:286≤l.length:=by rw [hlo.len,hla];exact Nat.le_refl _
   have hd30:30≤dl.length:=by rw [hlo2.len,hld];exact Nat.le_refl _
   refine cP rfl rfl (codedBy_n v1 v2 v3 v4 (.slice ta ts.length tc) (.slice xa 286 xc) (.slice ya 30 yc) l dl ts _ (hcd.sub iM) (hcd2.sub iM) (hL.t.sub iM) h.nt hl286 hd30 (hx1.sub iM) (hx2.sub iM)) ?_
   refine ⟨iC,?_⟩
   refine cL 11 rfl rfl rfl ?_
   obtain ⟨a1,e1,rfl,_⟩:=hcd.l.room
   obtain ⟨a2,e2,rfl,_⟩:=hcd.c.room
   obtain ⟨a3,e3,rfl,_⟩:=hcd2.l.room
   obtain ⟨a4,e4,rfl,_⟩:=hcd2.c.room
   refine OW_storeAggTo (l:=[.slice none 0 0,.slice none 0 0,.slice none 0 0,.slice none 0 0,.slice none 0 0,.int .i64 0]) (cdV (.slice ta ts.length tc) (.slice a1 l.length e1) (.slice a2 l.length e2) (.slice a3 dl.length e3) (.slice a4 dl.length e4) (itL (coI l dl ts))) rfl rfl rfl rfl rfl iU (by simp [cdV]) ?_
   refine cD ?_
   refine kW ?_
   exact WQ_cut (⟨l,dl,_,_,_,_,C1,C2,b4⟩:DyX) ⟨hlo,hlo2,hcd,hcd2⟩ iS (fun w h=>iH h)
 rintro ⟨l,dl,v1,v2,v3,v4,C1,C2,b4⟩ ⟨hlo,hlo2,hcd,hcd2⟩
 simp only at hlo hlo2 hcd hcd2 ⊢
 have hl286:l.length=286:=by rw [hlo.len,hla]
 have hd30:dl.length=30:=by rw [hlo2.len,hld]
 obtain ⟨a1,e1,rfl,_⟩:=hcd.l.room
 obtain ⟨a2,e2,rfl,_⟩:=hcd.c.room
 obtain ⟨a3,e3,rfl,_⟩:=hcd2.l.room
 obtain ⟨a4,e4,rfl,_⟩:=hcd2.c.room
 generalize hsz:itL (coI l dl ts)=size
 unfold cdV
 refine kW ?_
 refine WC_drawAll [9] mixed ?_
 (refine WR_t 0 ?_;refine WR_t 1 ?_;refine WR_t 2 ?_;refine WR_t 3 ?_;refine WR_t 4 ?_;refine WR_t 5 ?_;refine WR_t 6 ?_)
 refine cI 7 rfl rfl ?_
 refine cC rfl rfl (headOf_n (.slice a1 l.length e1) (.slice a3 dl.length e3) l dl _ (hcd.l.sub iM) (hcd2.l.sub iM) hl286 hd30 hcd.ok.le hcd2.ok.le (by repeat (first|exact hor|apply OrAt.there))) (fun r L' hp=>?_)
 obtain ⟨own,vo,v5,v6,vr,C3,rfl,hlo3,hhd,rfl⟩:=hp
 refine ⟨iC,?_⟩
 have hfc:CoR ((C3++(C2++C1))::S) (.slice ta ts.length tc) (.slice a1 l.length e1) (.slice a2 l.length e2) (.slice a3 dl.length e3) (.slice a4 dl.length e4) ts l dl:=
  CoR.sub (L:=C3::C2::C1::S) (fun x hx=>by simpa [List.append_assoc] using hx) ⟨h.t.sub iM,hcd.sub iM,hcd2.sub iM,by omega,by omega,h.nt⟩
 have hfh:HdR ((C3++(C2++C1))::S) vo v5 v6 vr (trN l 257 l.length) (trN dl 1 dl.length) ((orN own).take (trN (orN own) 4 19)) own (rnS (hdL l dl)):=
  HdR.sub (L:=C3::C2::C1::S) (fun x hx=>by simpa [List.append_assoc] using hx) (hhd.sub iM)
 have hord:=hhd.ord
 obtain ⟨on,hon⟩:∃on,on=((orN own).take (trN (orN own) 4 19)).length:=⟨_,rfl⟩
 rw [←hon] at hord
 obtain ⟨ao,eo,rfl,_⟩:=hord.room
 obtain ⟨a5,e5,rfl,_⟩:=hhd.c.l.room
 obtain ⟨a6,e6,rfl,_⟩:=hhd.c.c.room
 obtain ⟨ar,er,rfl,_⟩:=hhd.run.room
 unfold hdV
 (refine WR_t 8 ?_)
 refine cL 9 rfl rfl rfl ?_
 refine OW_storeAggTo (l:=[.slice none 0 0,.slice none 0 0,.slice none 0 0,.slice none 0 0,.slice none 0 0,.int .i64 0,.int .i64 0,.int .i64 0,.slice none 0 0,.slice none 0 0,.slice none 0 0,.slice none 0 0]) [.slice ta ts.length tc,.slice a1 l.length e1,.slice a2 l.length e2,.slice a3 dl.length e3,.slice a4 dl.length e4,.int .i64 (size:Int),.int .i64 ((trN l 257 l.length:Nat):Int),.int .i64 ((trN dl 1 dl.length:Nat):Int),.slice ao on eo,.slice a5 own.length e5,.slice a6 own.length e6,.slice ar (rnS (hdL l dl)).length er] rfl rfl rfl rfl rfl iU (by simp) ?_
 refine cD ?_
 refine kW ?_
 (first|refine WQ_retC (vs:=[.agg ([.slice ta ts.length tc,.slice a1 l.length e1,.slice a2 l.length e2,.slice a3 dl.length e3,.slice a4 dl.length e4,.int .i64 (size:Int),.int .i64 ((trN l 257 l.length:Nat):Int),.int .i64 ((trN dl 1 dl.length:Nat):Int),.slice ao on eo,.slice a5 own.length e5,.slice a6 own.length e6,.slice ar (rnS (hdL l dl)).length er]).toArray]) rfl (.agg ⟨by kernel_rfl,by kernel_rfl⟩ rfl (RdAt.cl' (vs:=[.slice ta ts.length tc,.slice a1 l.length e1,.slice a2 l.length e2,.slice a3 dl.length e3,.slice a4 dl.length e4,.int .i64 (size:Int),.int .i64 ((trN l 257 l.length:Nat):Int),.int .i64 ((trN dl 1 dl.length:Nat):Int),.slice ao on eo,.slice a5 own.length e5,.slice a6 own.length e6,.slice ar (rnS (hdL l dl)).length er]) (by repeat (first|assumption|exact Fnd.here|refine Fnd.there ?_)) rfl) rfl .nil) ?_|refine WQ_endC (vs:=[.agg ([.slice ta ts.length tc,.slice a1 l.length e1,.slice a2 l.length e2,.slice a3 dl.length e3,.slice a4 dl.length e4,.int .i64 (size:Int),.int .i64 ((trN l 257 l.length:Nat):Int),.int .i64 ((trN dl 1 dl.length:Nat):Int),.slice ao on eo,.slice a5 own.length e5,.slice a6 own.length e6,.slice ar (rnS (hdL l dl)).length er]).toArray]) rfl (.agg ⟨by kernel_rfl,by kernel_rfl⟩ rfl (RdAt.cl' (vs:=[.slice ta ts.length tc,.slice a1 l.length e1,.slice a2 l.length e2,.slice a3 dl.length e3,.slice a4 dl.length e4,.int .i64 (size:Int),.int .i64 ((trN l 257 l.length:Nat):Int),.int .i64 ((trN dl 1 dl.length:Nat):Int),.slice ao on eo,.slice a5 own.length e5,.slice a6 own.length e6,.slice ar (rnS (hdL l dl)).length er]) (by repeat (first|assumption|exact Fnd.here|refine Fnd.there ?_)) rfl) rfl .nil) ?_)
 exact ⟨(C3++(C2++C1))::L,fun w h=>three.2 (iH h),l,dl,own,_,_,_,_,_,_,_,_,_,by rw [hsz];rfl,hlo,hlo2,hlo3,hfc,hfh,rfl⟩
end Go.Proofs.YtemdlifojcgplaaGreatDoor
namespace Go.Df
open Go.Vx Go.If Go.Hf
set_option linter.all false
theorem cR_pos {rs:List (Nat × Nat)} (h:∀r∈rs,r.1 < 19) {r:Nat × Nat} (hr:r∈rs):0 < (cR rs).getD r.1 0:=by
 induction rs using snoc_ind with
 |h0=>cases hr
 |h1 a t ih=>
  rw [cR_app,inc_get (by rw [cR_len];exact h t (by simp))]
  rcases List.mem_append.1 hr with hr|hr
  ·have:=ih (fun x hx=>h x (by simp [hx])) hr
   omega
  ·rw [List.mem_singleton.1 hr,if_pos rfl];omega
theorem cA_pos {ts:List (Nat × Nat)} (h:∀t∈ts,TkOk t) {t:Nat × Nat} (hr:t∈ts):0 < (cA ts).getD (tsy t) 0:=by
 induction ts using snoc_ind with
 |h0=>cases hr
 |h1 a u ih=>
  rw [cA_app,inc_get (by rw [cA_len];exact (tsy_lt (h u (by simp))).1)]
  rcases List.mem_append.1 hr with hr|hr
  ·have:=ih (fun x hx=>h x (by simp [hx])) hr
   omega
  ·rw [List.mem_singleton.1 hr,if_pos rfl];omega
theorem cD_pos {ts:List (Nat × Nat)} (h:∀t∈ts,TkOk t) {t:Nat × Nat} (hr:t∈ts) (h0:t.2≠0):0 < (cD ts).getD (odN t.2) 0:=by
 induction ts using snoc_ind with
 |h0=>cases hr
 |h1 a u ih=>
  rw [cD_app]
  rcases List.mem_append.1 hr with hr|hr
  ·have:=ih (fun x hx=>h x (by simp [hx])) hr
   split
   ·exact this
   ·rename_i hu
    have hu2:=h u (by simp)
    have:odN u.2 < 30:=by
     rcases hu2 with ⟨g1,_⟩|⟨g1,g2,_⟩
     ·exact absurd g1 hu
     ·exact Nat.lt_succ_of_le (odN_ok g1 g2).1
    rw [inc_get (by rw [cD_len];exact this)]
    omega
  ·rw [List.mem_singleton.1 hr] at h0 ⊢
   rw [if_neg h0]
   have hu2:=h u (by simp)
   have:odN u.2 < 30:=by
    rcases hu2 with ⟨g1,_⟩|⟨g1,g2,_⟩
    ·exact absurd g1 h0
    ·exact Nat.lt_succ_of_le (odN_ok g1 g2).1
   rw [inc_get (by rw [cD_len];exact this),if_pos rfl]
   omega
theorem two_pos:∀{l:List Nat} {i j:Nat},i < j→0 < l.getD i 0→0 < l.getD j 0→2≤(l.filter fun x=>decide (0 < x)).length
 |[],i,j,h,h1,h2=>by simp at h1
 |x::r,0,j+1,h,h1,h2=>by
  have h1:0 < x:=by simpa using h1
  have h2:0 < r.getD j 0:=by simpa using h2
  rw [List.filter_cons_of_pos (by simpa using h1),List.length_cons]
  have:r.getD j 0∈(r.filter fun x=>decide (0 < x)):=by
   refine List.mem_filter.2 ⟨?_,by simpa using h2⟩
   have hj:=lt_of_pos h2
   rw [List.getD_eq_getElem?_getD,List.getElem?_eq_getElem hj]
   exact List.getElem_mem hj
  have:=List.length_pos_of_mem this
  omega
 |x::r,i+1,j+1,h,h1,h2=>by
  have:=two_pos (l:=r) (i:=i) (j:=j) (by omega) (by simpa using h1) (by simpa using h2)
  have h3:((x::r).filter fun x=>decide (0 < x)).length≥(r.filter fun x=>decide (0 < x)).length:=by
   rw [List.filter_cons]
   split
   ·rw [List.length_cons];omega
   ·exact Nat.le_refl _
  omega
theorem kS_zero:∀{l:List Nat},(∀x∈l,x=0)→kS l=0
 |[],_=>rfl
 |x::r,h=>by
  rw [kS,h x List.mem_cons_self,kS_zero (fun y hy=>h y (List.mem_cons_of_mem _ hy))]
  rfl
theorem drop_zero {l:List Nat} {n:Nat} (h:∀i,n≤i→i < l.length→l.getD i 0=0):∀x∈l.drop n,x=0:=by
 intro x hx
 obtain ⟨i,hi,rfl⟩:=List.getElem_of_mem hx
 rw [List.length_drop] at hi
 have:=h (n+i) (by omega) (by omega)
 rw [List.getElem_drop]
 simpa [List.getD,show n+i < l.length by omega] using this
theorem kS_trim {l:List Nat} {n:Nat} (h:∀i,n≤i→i < l.length→l.getD i 0=0):kS (l.take n)=kS l:=by
 have:=kS_app (l.take n) (l.drop n)
 rw [List.take_append_drop,kS_zero (drop_zero h)] at this
 omega
theorem sum_zero:∀{l:List Nat},(∀x∈l,x=0)→l.sum=0
 |[],_=>rfl
 |x::r,h=>by rw [List.sum_cons,h x List.mem_cons_self,sum_zero (fun y hy=>h y (List.mem_cons_of_mem _ hy))]
theorem sum_trim {l:List Nat} {n:Nat} (h:∀i,n≤i→i < l.length→l.getD i 0=0):(l.take n).sum=l.sum:=by
 have:(l.take n++l.drop n).sum=(l.take n).sum+(l.drop n).sum:=List.sum_append
 rw [List.take_append_drop,sum_zero (drop_zero h)] at this
 omega
theorem sum_one:∀{l:List Nat},(∀x∈l,x≤1)→(l.filter fun x=>decide (0 < x)).length≤1→l.sum≤1
 |[],_,_=>by simp
 |x::r,h,h2=>by
  have hx:=h x List.mem_cons_self
  have ih:=sum_one (l:=r) (fun y hy=>h y (List.mem_cons_of_mem _ hy))
  rw [List.filter_cons] at h2
  rw [List.sum_cons]
  by_cases h0:0 < x
  ·rw [if_pos (by simpa using h0),List.length_cons] at h2
   have h3:(r.filter fun x=>decide (0 < x))=[]:=List.length_eq_zero_iff.1 (by omega)
   have h4:∀y∈r,y=0:=fun y hy=>by
    rcases Nat.eq_zero_or_pos y with g|g
    ·exact g
    ·have:y∈(r.filter fun x=>decide (0 < x)):=List.mem_filter.2 ⟨hy,by simpa using g⟩
     rw [h3] at this
     cases this
   rw [sum_zero h4]
   omega
  ·rw [if_neg (by simpa using h0)] at h2
   have:=ih h2
   omega
end Go.Df
namespace Go.Proofs.YtemdlifojcgplaaGreatDoor
open Go Go.Vx Go.Hf Go.If Go.Df
variable [W0]
set_option linter.all false
theorem LenOf.whole {cs lens:List Nat} {M:Nat} (h:LenOf cs M lens) {i j:Nat} (hij:i≠j) (hi:0 < cs.getD i 0) (hj:0 < cs.getD j 0):kS lens=32768:=by
 refine h.all ?_
 rw [←h.nC]
 rcases Nat.lt_or_ge i j with hl|hl
 ·exact two_pos hl hi hj
 ·exact two_pos (show j < i by omega) hj hi
theorem LenOf.one {cs lens:List Nat} {M:Nat} (h:LenOf cs M lens):kS lens=32768∨sgl lens=true:=by
 by_cases h2:2≤(Go.Hf.pos cs cs.length).length
 ·exact .inl (h.all h2)
 ·refine .inr ?_
  rw [sgl_sum]
  have hN:=h.nC
  have hle:=h.le
  have hpos:=fun i=>h.pos (i:=i)
  have hlen:=h.len
  obtain ⟨N,g,hg,hcn,hNM,hone,htwo⟩:=h.ex
  have h1:∀x∈lens,x≤1:=fun x hx=>by
   obtain ⟨i,hi,rfl⟩:=List.getElem_of_mem hx
   have e:lens.getD i 0=lens[i]:=by simp [List.getD,hi]
   rcases Nat.eq_zero_or_pos lens[i] with h0|h0
   ·omega
   ·have h3:=(hpos i (by omega)).1 (by omega)
    obtain ⟨r,hr,hri⟩:=hcn.onto i (by omega) h3
    have:=hone (by omega) r hr
    rw [hri] at this
    omega
  have h3:(lens.filter fun x=>decide (0 < x)).length≤1:=by
   rcases Nat.lt_or_ge 1 (lens.filter fun x=>decide (0 < x)).length with hlt|hge
   ·exfalso
    have key:∀(l c:List Nat),l.length=c.length→(∀i,i < c.length→(0 < l.getD i 0↔0 < c.getD i 0))→(l.filter fun x=>decide (0 < x)).length=(c.filter fun x=>decide (0 < x)).length:=by
     intro l
     induction l with
     |nil=>intro c hc _;cases c with
      |nil=>rfl
      |cons y c=>simp at hc
     |cons x l ih=>
      intro c hc hp
      cases c with
      |nil=>simp at hc
      |cons y c=>
       have h0:=hp 0 (by simp)
       simp only [List.getD_cons_zero] at h0
       have:=ih c (by simpa using hc) (fun i hi=>by simpa using hp (i+1) (by simpa using hi))
       rw [List.filter_cons,List.filter_cons]
       by_cases hx:0 < x
       ·rw [if_pos (by simpa using hx),if_pos (by simpa using h0.1 hx),List.length_cons,List.length_cons,this]
       ·rw [if_neg (by simpa using hx),if_neg (by simpa using fun hy=>hx (h0.2 hy)),this]
    have:=key lens cs hlen hpos
    omega
   ·exact hge
  have:=sum_one h1 h3
  exact decide_eq_true (by omega)
end Go.Proofs.YtemdlifojcgplaaGreatDoor
namespace Go.Df
open Go.Vx Go.If Go.Hf
set_option linter.all false
theorem eqN_replicate (s:Nat):∀n,eqN (List.replicate (n+1) s)=n+1:=fun n=>by
 rw [List.replicate_succ,eqN]
 have:((List.replicate n s).takeWhile fun y=>decide (y=s)).length=n:=by
  induction n with
  |zero=>rfl
  |succ n ih=>rw [List.replicate_succ,List.takeWhile_cons_of_pos (by simp),List.length_cons,ih]
 omega
theorem again_mem {s n:Nat} (h0:0 < s) (h15:s≤15) (hn:4≤n):∃r∈rnS (List.replicate n s),r.1=16:=by
 obtain ⟨k,rfl⟩:∃k,n=k+2:=⟨n - 2,by omega⟩
 have e1:sfN s (k+2) false=s:=by unfold sfN;rw [if_neg (by omega),if_neg (by omega),if_neg (by simp)]
 have e2:rpA s=1:=by unfold rpA;rw [if_neg (by omega),if_neg (by omega),if_neg (by omega)]
 have e3:rpB s=0:=by unfold rpB;rw [if_neg (by omega),if_neg (by omega),if_neg (by omega)]
 have e4:smN s (k+2) false=1:=by unfold smN;rw [e1,e2,e3];show min (k+2) (1+1 - 1)=1;omega
 have e5:sfN s (k+1) true=16:=by unfold sfN;rw [if_neg (by omega),if_neg (by omega),if_pos ⟨h0,rfl,by omega⟩]
 have hg:(List.replicate (k+2) s).getD 0 0=s:=by rw [List.replicate_succ];rfl
 refine ⟨(sfN s (k+1) true,smN s (k+1) true - rpA (sfN s (k+1) true)),?_,e5⟩
 unfold rnS
 rw [List.length_replicate,rnF,if_neg (by simp),hg,eqN_replicate]
 refine List.mem_append_left _ ?_
 rw [oneF,if_neg (by omega),e4]
 refine List.mem_cons_of_mem _ ?_
 rw [show k+2 - 1=k+1 from by omega,oneF,if_neg (by omega)]
 exact List.mem_cons_self
theorem rsW_same {s v:Nat}:∀{rs:List (Nat × Nat)} {a:List Nat},(∀r∈rs,RnOk r∧r.1=s)→(s≤15∧v=s∨(s=17∨s=18)∧v=0)→(∀x∈a,x=v)→∀x∈rsW (rs.map rlOf) a,x=v
 |[],a,_,_,ha,x,hx=>ha x hx
 |r::q,a,h,hs,ha,x,hx=>by
  rw [List.map_cons,rsW] at hx
  refine rsW_same (rs:=q) (fun y hy=>h y (List.mem_cons_of_mem _ hy)) hs ?_ x hx
  obtain ⟨h1,h2⟩:=h r List.mem_cons_self
  intro y hy
  rcases h1.cases with ⟨g1,_,g3,_⟩|⟨g1,_,g3⟩|⟨g1,_,g3⟩|⟨g1,_,g3⟩
  ·rw [g3] at hy
   rcases List.mem_append.1 hy with hy|hy
   ·exact ha y hy
   ·rw [List.mem_singleton.1 hy];omega
  ·omega
  ·rw [g3] at hy
   rcases List.mem_append.1 hy with hy|hy
   ·exact ha y hy
   ·rw [(List.mem_replicate.1 hy).2];omega
  ·rw [g3] at hy
   rcases List.mem_append.1 hy with hy|hy
   ·exact ha y hy
   ·rw [(List.mem_replicate.1 hy).2];omega
theorem two_runs {l:List Nat} (h15:∀x∈l,x≤15) (hl:258≤l.length) (hc:0 < l.getD 256 0):∃r∈rnS l,∃q∈rnS l,r.1≠q.1:=by
 obtain ⟨w1,w2,w3⟩:=rnS_W h15
 cases hr:rnS l with
 |nil=>
  rw [hr] at w2
  have:l=[]:=w2.symm
  rw [this] at hl
  simp at hl
 |cons r0 q0=>
  by_cases hall:∀r∈rnS l,r.1=r0.1
  ·exfalso
   have hr0:r0∈rnS l:=by rw [hr];exact List.mem_cons_self
   have h256:l.getD 256 0∈l:=by
    rw [List.getD_eq_getElem?_getD,List.getElem?_eq_getElem (show 256 < l.length by omega)]
    exact List.getElem_mem _
   rcases (w1 r0 hr0).cases with ⟨g1,_,g3,_⟩|⟨g1,_,g3⟩|⟨g1,_,g3⟩|⟨g1,_,g3⟩
   ·have hsame:=rsW_same (v:=r0.1) (a:=[]) (fun r hr=>⟨w1 r hr,hall r hr⟩) (.inl ⟨g1,rfl⟩) (fun x hx=>by cases hx)
    rw [w2] at hsame
    have hrep:l=List.replicate l.length r0.1:=List.eq_replicate_iff.2 ⟨rfl,hsame⟩
    have hpos:0 < r0.1:=by rw [←hsame _ h256];exact hc
    obtain ⟨r,hr1,hr2⟩:=again_mem (n:=l.length) hpos g1 (by omega)
    rw [←hrep] at hr1
    have:=hall r hr1
    omega
   ·have hok:=w3 (List.replicate 19 1) (fun r hr=>by
     have:=(w1 r hr).1
     rw [List.getD_eq_getElem?_getD,List.getElem?_replicate,if_pos (by omega)]
     exact Nat.one_pos)
    rw [hr,List.map_cons,g3] at hok
    exact absurd hok.1.1 (Nat.lt_irrefl _)
   ·have hsame:=rsW_same (v:=0) (a:=[]) (fun r hr=>⟨w1 r hr,hall r hr⟩) (.inr ⟨.inl g1,rfl⟩) (fun x hx=>by cases hx)
    rw [w2] at hsame
    have:=hsame _ h256
    omega
   ·have hsame:=rsW_same (v:=0) (a:=[]) (fun r hr=>⟨w1 r hr,hall r hr⟩) (.inr ⟨.inr g1,rfl⟩) (fun x hx=>by cases hx)
    rw [w2] at hsame
    have:=hsame _ h256
    omega
  ·rw [←hr]
   have:∃r,r∈rnS l∧r.1≠r0.1:=by
    apply Classical.byContradiction
    intro hno
    exact hall fun r hr=>Classical.byContradiction fun hne=>hno ⟨r,hr,hne⟩
   obtain ⟨r,h1,h2⟩:=this
   exact ⟨r,h1,r0,by rw [hr];exact List.mem_cons_self,h2⟩
theorem getD_trim {l:List Nat} {n:Nat} (h:∀i,n≤i→i < l.length→l.getD i 0=0) (i:Nat):(l.take n).getD i 0=l.getD i 0:=by
 rcases Nat.lt_or_ge i n with hi|hi
 ·simp only [List.getD_eq_getElem?_getD,List.getElem?_take,if_pos hi]
 ·have e1:(l.take n).getD i 0=0:=by simp only [List.getD_eq_getElem?_getD,List.getElem?_take,if_neg (show ¬i < n by omega)];rfl
  rw [e1]
  rcases Nat.lt_or_ge i l.length with h2|h2
  ·exact (h i hi h2).symm
  ·simp [List.getD,List.getElem?_eq_none h2]
theorem cn_trim {l:List Nat} {n k:Nat} (h:∀i,n≤i→i < l.length→l.getD i 0=0) (hk:0 < k):cn (l.take n) k=cn l k:=by
 have:=cn_app (l.take n) (l.drop n) k
 rw [List.take_append_drop] at this
 have h0:cn (l.drop n) k=0:=by
  unfold cn
  have hz:=drop_zero h
  have:(l.drop n).filter (fun x=>x == k)=[]:=List.filter_eq_nil_iff.2 fun x hx=>by
   rw [hz x hx];simp;omega
  rw [this];rfl
 omega
theorem fs_trim {l:List Nat} {n:Nat} (h:∀i,n≤i→i < l.length→l.getD i 0=0):∀k,fs (l.take n) k=fs l k
 |0=>rfl
 |k+1=>by
  rw [fs,fs,fs_trim h k]
  by_cases hk:k=0
  ·rw [if_pos hk,if_pos hk]
  ·rw [if_neg hk,if_neg hk,cn_trim h (by omega)]
theorem sc_trim [W0] {l:List Nat} {n:Nat} (h:∀i,n≤i→i < l.length→l.getD i 0=0):sc (l.take n)=sc l:=by
 funext i
 unfold sc
 rw [getD_trim h]
 have:cd (l.take n) i=cd l i:=by
  unfold cd
  rw [getD_trim h]
  by_cases h0:l.getD i 0=0
  ·rw [if_pos h0,if_pos h0]
  ·rw [if_neg h0,if_neg h0,fs_trim h]
   have hi:i < n:=by
    rcases Nat.lt_or_ge i n with g|g
    ·exact g
    ·exact absurd (h i g (lt_of_pos (Nat.pos_of_ne_zero h0))) h0
   rw [List.take_take,Nat.min_eq_left (Nat.le_of_lt hi)]
 rw [this]
theorem tsI_congr [W0] {l l' dl dl':List Nat} (h1:sc l'=sc l) (h2:sc dl'=sc dl):∀ts,tsI l' dl' ts=tsI l dl ts
 |[]=>rfl
 |k::r=>by
  rw [tsI,tsI,tsI_congr h1 h2 r]
  have:tkI l' dl' k=tkI l dl k:=by cases k<;>simp only [tkI,h1,h2]
  rw [this]
def mthV (P:Program) (t:Nat) (name:String):Option FuncId:=match P.info? t with
 |some i=>match i.methods.find? (·.name == name) with
  |some m=>match m.path.toList,m.func,P.underlying t with
   |[],some (f,false),some (.struct _)=>some f
   |_,_,_=>none
  |none=>none
 |none=>none
theorem methodV_run {P:Program} {t:Nat} {name:String} {f:FuncId} (h:mthV P t name=some f) (fuel:Nat) (v:Value) [W0] (w:World):(method (fuel+1) t v name).run P w=.ok (f,v) w:=by
 unfold mthV at h
 split at h
 ·rename_i i hi
  split at h
  ·rename_i m hm
   split at h
   ·rename_i f' e h1 h2 h3
    simp at h
    subst h
    unfold method
    simp [typeInfo,hi,hm,h1,follow,h2,receiverAt,run_underlying h3,Place.get]
   ·simp at h
  ·simp at h
 ·simp at h
section
variable [W0]
variable {P : Program} {n : Nat} {M : List (Nat × Value)} {L : List Chunk} {K : List (Nat × Value) → List Chunk → Prop}
variable {d : Nat} {ty : TypeId} {ps : String} {af : Array Edge} {g : Option (Nat × Bool)} {x : Operand} {v : Value}
theorem OW_invokeV {t:Nat} {f:FuncId} {name:String} (hm:mthV P t name=some f) [hb:BD P f] {xs:List Operand} {ats:Array TypeId} {vs:List Value} {post:Value→List Chunk→Prop}
 (hx:ev M x=some (.iface t v)) (hvs:evs M xs=some vs) (hspec:Gv P f (v::vs).toArray L post)
 (hn:Nat.blt d n=true) (h:∀v L',post v L'→K ((d,v)::M) L'):OW P n ⟨some d,.call ⟨.invoke x name,xs.toArray,ats⟩,ty,ps,af,g⟩ K M L:=⟨fun a w next Q ha hw hk=>by
 have hrun:(execOp a.eval ⟨some d,.call ⟨.invoke x name,xs.toArray,ats⟩,ty,ps,af,g⟩).run P w=.ok (.enter f (v::vs).toArray) w:=by
  have e1:Array.map a.eval xs.toArray=vs.toArray:=by rw [←ha.evals hvs];simp
  have e2:(#[Value.iface t v]++vs.toArray)[0]? =some (.iface t v):=by simp
  have e3:(#[Value.iface t v]++vs.toArray).extract 1 (#[Value.iface t v]++vs.toArray).size=vs.toArray:=by
   apply Array.ext';simp
  have e4:#[v]++vs.toArray=(v::vs).toArray:=by apply Array.ext';simp
  have hfuel:P.types.size+Made.depth=(P.types.size+Made.depth - 1)+1:=by
   have:0 < Made.depth:=by decide
   omega
  have hmr:=methodV_run hm (P.types.size+Made.depth - 1) v w
  rw [←hfuel] at hmr
  simp only [execOp,resolve,ha.eval hx,e1,Sem.run_bind,Sem.run_pure,Result.andThen_ok,invoke,e2,e3,callMethod,run_program,hmr,e4,callFunc_run hb.out]
 unfold Oper.wp
 rw [hrun,Oper.upon_enter]
 refine (hspec.out w hw).mono fun e w' he=>?_
 obtain ⟨v,L',rfl,hp,hw'⟩:=he
 exact (hk _ _ (h v L' hp)).out _ _ (ha.put v hn) hw'⟩
end
def enB [W0] (n:Nat) (B:Blk):Nat:=n+1+itL (blI (n+1) B)
def szB [W0] (n:Nat) (bs:List Blk):Nat:=bs.foldl enB n
end Go.Df
namespace Go.Proofs.YtemdlifojcgplaaGreatDoor
open Go Go.Vx Go.Hf Go.If Go.Df
variable [W0]
set_option maxRecDepth 4000
set_option linter.all false
omit [W0] in
def endF:Blk→Nat
 |.st _=>324
 |.fx _=>323
 |.dn .. =>326
omit [W0] in
def endT:Blk→Nat
 |.st _=>220
 |.fx _=>186
 |.dn .. =>228
theorem mth_st:mthV Tryz.prog 220 "stemma/deflate.end"=some 324:=by kernel_rfl
theorem mth_fx:mthV Tryz.prog 186 "stemma/deflate.end"=some 323:=by kernel_rfl
theorem mth_dn:mthV Tryz.prog 228 "stemma/deflate.end"=some 326:=by kernel_rfl
theorem mth_B (B:Blk):mthV Tryz.prog (endT B) "stemma/deflate.end"=some (endF B):=by
 cases B with
 |st t=>exact mth_st
 |fx ts=>exact mth_fx
 |dn ts l dl n1 n2 o own rs=>exact mth_dn
instance (B:Blk):BD Tryz.prog (endF B):=by
 cases B with
 |st t=>exact (inferInstance:BD Tryz.prog 324)
 |fx ts=>exact (inferInstance:BD Tryz.prog 323)
 |dn ts l dl n1 n2 o own rs=>exact (inferInstance:BD Tryz.prog 326)
theorem bend_n (v:Value) (B:Blk) (n:Nat) (L:List Chunk) (h:BlkR L v B) (hn:n≤1000000000000):∃a,v=.iface (endT B) a∧GvP Tryz.prog (endF B) [a,.int .i64 (n:Int)].toArray L (.int .i64 ((enB n B:Nat):Int)):=by
 have hle:=h.le (n+1)
 unfold enB
 cases B with
 |st t=>
  obtain ⟨vt,rfl,hrs,ht⟩:=h
  obtain ⟨ta,tc,rfl,_⟩:=hrs.room
  refine ⟨_,rfl,?_⟩
  have hsz:n+1+itL (blI (n+1) (.st t))=8 * ((n+10) / 8+t.length)+32:=by
   simp only [blI]
   rw [itL_app,raI_L]
   simp only [itL]
   omega
  rw [hsz]
  show GvP Tryz.prog 324 _ _ _
  refine Gv.of_body (args:=[.agg #[.slice ta t.length tc],.int .i64 (n:Int)]) Tryz.func324 rfl rfl ?_
  (refine kW ?_;refine kU fun bk=>?_;refine kW ?_)
  refine OW_EV (EV_quoN (n+10) 8 rfl rfl (by omega) rfl (by decide) (by omega)) rfl ?_
  refine kW ?_
  rw [show (8:Int) * (((n+10) / 8:Nat)+(t.length:Int))+32=((8 * ((n+10) / 8+t.length)+32:Nat):Int) from by omega]
  refine kR ?_
  exact ⟨_,iC,rfl,rfl⟩
 |fx ts=>
  obtain ⟨vt,v1,v2,v3,v4,rfl,hco⟩:=h
  refine ⟨_,rfl,?_⟩
  have hsz:n+1+itL (blI (n+1) (.fx ts))=n+3+itL (coI fxL fxD ts):=by
   simp only [blI,itL,coI]
   omega
  rw [hsz]
  have hle2:itL (coI fxL fxD ts)≤10000000:=by simp only [blI,itL] at hle;unfold coI;omega
  generalize itL (coI fxL fxD ts)=size at *
  unfold cdV
  show GvP Tryz.prog 323 _ _ _
  refine Gv.of_body (args:=[.agg #[vt,v1,v2,v3,v4,.int .i64 (size:Int)],.int .i64 (n:Int)]) Tryz.func323 rfl rfl ?_
  (refine kW ?_;refine kU fun bk=>?_;refine kW ?_)
  rw [show (n:Int)+3+(size:Int)=((n+3+size:Nat):Int) from by omega]
  refine kR ?_
  exact ⟨_,iC,rfl,rfl⟩
 |dn ts l dl n1 n2 o own rs=>
  obtain ⟨vt,v1,v2,v3,v4,vo,v5,v6,vr,rfl,hco,hhd⟩:=h
  refine ⟨_,rfl,?_⟩
  have hsz:n+1+itL (blI (n+1) (.dn ts l dl n1 n2 o own rs))=n+3+itL (hwI n1 n2 o own rs)+itL (coI l dl ts):=by
   simp only [blI,itL,coI]
   rw [itL_app]
   omega
  rw [hsz]
  have hle2:itL (hwI n1 n2 o own rs)+itL (coI l dl ts)≤10000000:=by simp only [blI,itL] at hle;rw [itL_app] at hle;unfold coI;omega
  have hds:=fun B=>hdsize_n vo v5 v6 vr n1 n2 o own rs (B::L) (hhd.sub sub_there)
  generalize itL (coI l dl ts)=size at *
  generalize itL (hwI n1 n2 o own rs)=hs at *
  unfold cdV hdV at *
  show GvP Tryz.prog 326 _ _ _
  refine Gv.of_body (args:=[.agg #[vt,v1,v2,v3,v4,.int .i64 (size:Int),.int .i64 (n1:Int),.int .i64 (n2:Int),vo,v5,v6,vr],.int .i64 (n:Int)]) Tryz.func326 rfl rfl ?_
  (refine kW ?_;refine kU fun bk=>?_;refine kW ?_)
  refine WC_drawAll [10] mixed ?_
  (refine WR_t 0 ?_;refine WR_t 1 ?_;refine WR_t 2 ?_;refine WR_t 3 ?_;refine WR_t 6 ?_;refine WR_t 7 ?_;refine WR_t 8 ?_)
  refine cI 4 rfl rfl ?_
  refine cP rfl rfl (hds _) ?_
  refine ⟨iC,?_⟩
  (refine WR_t 5 ?_;refine WR_t 9 ?_)
  refine cL 10 rfl rfl rfl ?_
  refine OW_EV (EV_assign rfl) rfl ?_
  refine cD ?_
  refine kW ?_
  rw [show (n:Int)+3+(hs:Int)+(size:Int)=((n+3+hs+size:Nat):Int) from by omega]
  refine kR ?_
  exact ⟨_,iC,rfl,rfl⟩
end Go.Proofs.YtemdlifojcgplaaGreatDoor
namespace Go.Df
open Go.Vx Go.If Go.Hf
set_option linter.all false
theorem szB_app [W0] (n:Nat) (x:List Blk) (B:Blk):szB n (x++[B])=enB (szB n x) B:=by simp [szB,List.foldl_append]
end Go.Df
namespace Go.Proofs.YtemdlifojcgplaaGreatDoor
open Go Go.Vx Go.Hf Go.If Go.Df
variable [W0]
set_option maxRecDepth 4000
set_option linter.all false
theorem isNaN_n (x:Int) (L:List Chunk):GvP Tryz.prog 207 [.int .i64 x].toArray L (.bool false):=by
 refine Gv.of_body (args:=[.int .i64 x]) Tryz.func207 rfl rfl ?_
 refine kW ?_
 rw [show (x != x)=false from by simp]
 refine kR ?_
 exact ⟨_,iC,rfl,rfl⟩
theorem cmpInt_n (x y:Nat) (L:List Chunk):Gv Tryz.prog 162 [.int .i64 (x:Int),.int .i64 (y:Int)].toArray L (fun r L'=>∃c:Int,r=.int .i64 c∧(c < 0↔x < y)∧L'=L):=by
 refine Gv.of_body (args:=[.int .i64 (x:Int),.int .i64 (y:Int)]) Tryz.func162 rfl rfl ?_
 refine kW ?_
 refine cP rfl rfl (isNaN_n _ _) ?_
 refine kW ?_
 refine cP rfl rfl (isNaN_n _ _) ?_
 (repeat' first|refine kW ?_|refine kU fun bk=>?_|refine kV fun hc=>?_|refine kZ (fun hc=>?_) fun hc=>?_|fail)
 ·refine kR ?_
  exact ⟨_,iC,_,rfl,by omega,rfl⟩
 ·refine kR ?_
  exact ⟨_,iC,_,rfl,by omega,rfl⟩
 ·refine kR ?_
  exact ⟨_,iC,_,rfl,by omega,rfl⟩
theorem szB_le {L:List Chunk} {v:Value} {bs:List Blk} (h:BlsR L v bs) (j:Nat) (hj:j≤bs.length):szB 0 (bs.take j)≤10000001 * j:=by
 obtain ⟨vs,_,_,h3⟩:=h.ex
 induction j with
 |zero=>simp [szB]
 |succ j ih=>
  have hjl:j < bs.length:=hj
  obtain ⟨B,hB⟩:∃B,bs[j]? =some B:=⟨bs[j],List.getElem?_eq_getElem hjl⟩
  obtain ⟨u,_,hu⟩:=h3 j B hB
  have h4:=hu.le (szB 0 (bs.take j)+1)
  have h5:=ih (by omega)
  rw [takeSucc hB,szB_app]
  unfold enB
  omega
theorem size_n (v:Value) (bs:List Blk) (L:List Chunk) (hK:BlsR L v bs) (hn:bs.length≤90000) :
 GvP Tryz.prog 163 [v].toArray L (.int .i64 ((szB 0 bs:Nat):Int)):=by
 refine Gv.of_body (args:=[v]) Tryz.func163 rfl rfl ?_
 obtain ⟨vs,hrs,hon,hbl⟩:=hK.ex
 obtain ⟨va,vc,rfl,_⟩:=hrs.room
 refine kW ?_
 refine WC_loop (X:=Nat) (fun x=>[(3,.int .i64 ((szB 0 (bs.take x):Nat):Int)),(6,.slice va bs.length vc),(7,.int .i64 (bs.length:Int)),(8,.int .i64 (x:Int))]) (fun _=>L) (fun x=>x≤bs.length) (fun x=>bs.length - x) 0 (Nat.zero_le _) iS (fun w h=>iH h) ?_
 intro j hj9
 have hj:j≤bs.length:=hj9
 have hsz:=szB_le hK j hj
 (repeat' first|refine kW ?_|refine kU fun bk=>?_|refine kV fun hc=>?_|refine kZ (fun hc=>?_) fun hc=>?_|fail)
 ·have hjl:j < bs.length:=by omega
  obtain ⟨B,hB⟩:∃B,bs[j]? =some B:=⟨bs[j],List.getElem?_eq_getElem hjl⟩
  obtain ⟨u,hu,hbu⟩:=hbl j B hB
  obtain ⟨b1,o1,c1,cc1,T1,f1,hv9,hf1,hv1⟩:=sl_at hrs.sl hu
  injection hv9 with q1 q2 q3
  subst q1 q3
  clear q2
  refine OW_EV (EV_indexAddr (j:=j) rfl rfl rfl (by omega)) rfl ?_
  refine kW ?_
  refine OW_EV (EV_load rfl hf1 hv1) rfl ?_
  refine kW ?_
  obtain ⟨a,rfl,hen⟩:=bend_n u B (szB 0 (bs.take j)) L hbu (by omega)
  refine OW_invokeV (mth_B B) rfl rfl hen rfl (fun r L' hp=>?_)
  obtain ⟨rfl,rfl⟩:=hp
  rw [←szB_app,←takeSucc hB]
  refine kW ?_
  refine WQ_round (X:=Nat) (μ:=fun x=>bs.length - x) (x:=j) (j+1) (by omega) (by show j+1≤bs.length;omega) iS (fun w h=>iH h)
 ·obtain rfl:j=bs.length:=by omega
  rw [List.take_length]
  refine kR ?_
  exact ⟨_,iC,rfl,rfl⟩
theorem minLists_n (v:Value) (us:List Value) (m:Nat→Nat) (fc:FuncId) [BD Tryz.prog fc] (cap:Array Value) (L:List Chunk) (hK:Rs L 1 v us.length us) (h0:0 < us.length) (hl:us.length≤1000000)
 (hc9:∀(i j:Nat) (a b:Value),us[i]? =some a→us[j]? =some b→Gv Tryz.prog fc (#[]++[a,b].toArray++cap) L (fun r L'=>∃c:Int,r=.int .i64 c∧(c < 0↔m i < m j)∧L'=L)) :
 Gv Tryz.prog 160 [v,.func (.func fc) #[] cap].toArray L (fun r L'=>∃i,us[i]? =some r∧(∀j,j < us.length→m i≤m j)∧L'=L):=by
 refine Gv.of_body (args:=[v,.func (.func fc) #[] cap]) Tryz.func160 rfl rfl ?_
 obtain ⟨va,vc,rfl,_⟩:=hK.room
 have hld:∀(j:Nat) (u:Value),us[j]? =some u→∃b1 o1 c1 T1 f1,va=some ⟨b1,o1,none⟩∧Fnd L b1 (.cells c1 T1 f1)∧c1[o1+j * 1]? =some u:=fun j u hu=>by
  obtain ⟨b1,o1,c1,cc1,T1,f1,hv9,hf1,hv1⟩:=sl_at hK.sl hu
  injection hv9 with q1 q2 q3
  exact ⟨b1,o1,cc1,T1,f1,q1,hf1,hv1⟩
 obtain ⟨u0,hu0⟩:∃u,us[0]? =some u:=⟨us[0],List.getElem?_eq_getElem h0⟩
 obtain ⟨b0,o0,c0,T0,f0,rfl,hf0,hv0⟩:=hld 0 u0 hu0
 (refine kW ?_;refine kV fun hc=>?_;refine kW ?_)
 refine OW_EV (EV_indexAddr (j:=0) rfl rfl rfl (by omega)) rfl ?_
 refine kW ?_
 refine OW_EV (EV_load rfl hf0 hv0) rfl ?_
 refine kW ?_
 refine WC_loop (X:=Nat × Nat × Value) (fun x=>[(0,.slice (some ⟨b0,o0,none⟩) us.length vc),(1,.func (.func fc) #[] cap),(5,x.2.2),(6,.int .i64 (x.1:Int))]) (fun _=>L) (fun x=>x.1≤us.length∧us[x.2.1]? =some x.2.2∧∀j,j < x.1→m x.2.1≤m j) (fun x=>us.length - x.1) (1,0,u0) ⟨by simp only;omega,hu0,fun j hj=>by simp only at hj ⊢;rw [show j=0 from by omega];exact Nat.le_refl _⟩ iS (fun w h=>iH h) ?_
 rintro ⟨j,i,u⟩ ⟨hj,hi,hle⟩
 simp only at hj hi hle ⊢
 (repeat' first|refine kW ?_|refine kU fun bk=>?_|refine kV fun hc=>?_|refine kZ (fun hc=>?_) fun hc=>?_|fail)
 ·obtain ⟨u2,hu2⟩:∃u,us[j]? =some u:=⟨us[j]'(by omega),List.getElem?_eq_getElem (by omega)⟩
  obtain ⟨b1,o1,c1,T1,f1,hq,hf1,hv1⟩:=hld j u2 hu2
  injection hq with hq
  injection hq with q1 q2
  subst q1 q2
  refine OW_EV (EV_indexAddr (j:=j) rfl rfl rfl (by omega)) rfl ?_
  refine kW ?_
  refine OW_EV (EV_load rfl hf1 hv1) rfl ?_
  refine kW ?_
  refine cC rfl rfl (hc9 j i u2 u hu2 hi) (fun r L' hp=>?_)
  obtain ⟨c,rfl,hc8,rfl⟩:=hp
  (repeat' first|refine kW ?_|refine kU fun bk=>?_|refine kV fun hc=>?_|refine kZ (fun hc=>?_) fun hc=>?_|fail)
  ·have hlt:m j < m i:=hc8.1 (by omega)
   refine OW_EV (EV_indexAddr (j:=j) rfl rfl rfl (by omega)) rfl ?_
   refine kW ?_
   refine OW_EV (EV_load rfl hf1 hv1) rfl ?_
   refine kW ?_
   refine WQ_round (X:=Nat × Nat × Value) (μ:=fun x=>us.length - x.1) (x:=(j,i,u)) (j+1,j,u2) (by simp only;omega) ⟨by simp only;omega,hu2,fun k hk=>by
    simp only at hk ⊢
    rcases Nat.lt_or_ge k j with h|h
    ·exact Nat.le_trans (Nat.le_of_lt hlt) (hle k h)
    ·rw [show k=j from by omega];exact Nat.le_refl _⟩ iS (fun w h=>iH h)
  ·have hge:m i≤m j:=by
    rcases Nat.lt_or_ge (m j) (m i) with h|h
    ·have:=hc8.2 h;omega
    ·exact h
   refine WQ_round (X:=Nat × Nat × Value) (μ:=fun x=>us.length - x.1) (x:=(j,i,u)) (j+1,i,u) (by simp only;omega) ⟨by simp only;omega,hi,fun k hk=>by
    simp only at hk ⊢
    rcases Nat.lt_or_ge k j with h|h
    ·exact hle k h
    ·rw [show k=j from by omega];exact hge⟩ iS (fun w h=>iH h)
 ·refine kR ?_
  exact ⟨_,iC,i,hi,fun k hk=>hle k (by omega),rfl⟩
theorem minBlocks_n (v:Value) (us:List Value) (m:Nat→Nat) (fc:FuncId) [BD Tryz.prog fc] (cap:Array Value) (L:List Chunk) (hK:Rs L 1 v us.length us) (h0:0 < us.length) (hl:us.length≤1000000)
 (hc9:∀(i j:Nat) (a b:Value),us[i]? =some a→us[j]? =some b→Gv Tryz.prog fc (#[]++[a,b].toArray++cap) L (fun r L'=>∃c:Int,r=.int .i64 c∧(c < 0↔m i < m j)∧L'=L)) :
 Gv Tryz.prog 165 [v,.func (.func fc) #[] cap].toArray L (fun r L'=>∃i,us[i]? =some r∧(∀j,j < us.length→m i≤m j)∧L'=L):=by
 refine Gv.of_body (args:=[v,.func (.func fc) #[] cap]) Tryz.func165 rfl rfl ?_
 obtain ⟨va,vc,rfl,_⟩:=hK.room
 have hld:∀(j:Nat) (u:Value),us[j]? =some u→∃b1 o1 c1 T1 f1,va=some ⟨b1,o1,none⟩∧Fnd L b1 (.cells c1 T1 f1)∧c1[o1+j * 1]? =some u:=fun j u hu=>by
  obtain ⟨b1,o1,c1,cc1,T1,f1,hv9,hf1,hv1⟩:=sl_at hK.sl hu
  injection hv9 with q1 q2 q3
  exact ⟨b1,o1,cc1,T1,f1,q1,hf1,hv1⟩
 obtain ⟨u0,hu0⟩:∃u,us[0]? =some u:=⟨us[0],List.getElem?_eq_getElem h0⟩
 obtain ⟨b0,o0,c0,T0,f0,rfl,hf0,hv0⟩:=hld 0 u0 hu0
 (refine kW ?_;refine kV fun hc=>?_;refine kW ?_)
 refine OW_EV (EV_indexAddr (j:=0) rfl rfl rfl (by omega)) rfl ?_
 refine kW ?_
 refine OW_EV (EV_load rfl hf0 hv0) rfl ?_
 refine kW ?_
 refine WC_loop (X:=Nat × Nat × Value) (fun x=>[(0,.slice (some ⟨b0,o0,none⟩) us.length vc),(1,.func (.func fc) #[] cap),(5,x.2.2),(6,.int .i64 (x.1:Int))]) (fun _=>L) (fun x=>x.1≤us.length∧us[x.2.1]? =some x.2.2∧∀j,j < x.1→m x.2.1≤m j) (fun x=>us.length - x.1) (1,0,u0) ⟨by simp only;omega,hu0,fun j hj=>by simp only at hj ⊢;rw [show j=0 from by omega];exact Nat.le_refl _⟩ iS (fun w h=>iH h) ?_
 rintro ⟨j,i,u⟩ ⟨hj,hi,hle⟩
 simp only at hj hi hle ⊢
 (repeat' first|refine kW ?_|refine kU fun bk=>?_|refine kV fun hc=>?_|refine kZ (fun hc=>?_) fun hc=>?_|fail)
 ·obtain ⟨u2,hu2⟩:∃u,us[j]? =some u:=⟨us[j]'(by omega),List.getElem?_eq_getElem (by omega)⟩
  obtain ⟨b1,o1,c1,T1,f1,hq,hf1,hv1⟩:=hld j u2 hu2
  injection hq with hq
  injection hq with q1 q2
  subst q1 q2
  refine OW_EV (EV_indexAddr (j:=j) rfl rfl rfl (by omega)) rfl ?_
  refine kW ?_
  refine OW_EV (EV_load rfl hf1 hv1) rfl ?_
  refine kW ?_
  refine cC rfl rfl (hc9 j i u2 u hu2 hi) (fun r L' hp=>?_)
  obtain ⟨c,rfl,hc8,rfl⟩:=hp
  (repeat' first|refine kW ?_|refine kU fun bk=>?_|refine kV fun hc=>?_|refine kZ (fun hc=>?_) fun hc=>?_|fail)
  ·have hlt:m j < m i:=hc8.1 (by omega)
   refine OW_EV (EV_indexAddr (j:=j) rfl rfl rfl (by omega)) rfl ?_
   refine kW ?_
   refine OW_EV (EV_load rfl hf1 hv1) rfl ?_
   refine kW ?_
   refine WQ_round (X:=Nat × Nat × Value) (μ:=fun x=>us.length - x.1) (x:=(j,i,u)) (j+1,j,u2) (by simp only;omega) ⟨by simp only;omega,hu2,fun k hk=>by
    simp only at hk ⊢
    rcases Nat.lt_or_ge k j with h|h
    ·exact Nat.le_trans (Nat.le_of_lt hlt) (hle k h)
    ·rw [show k=j from by omega];exact Nat.le_refl _⟩ iS (fun w h=>iH h)
  ·have hge:m i≤m j:=by
    rcases Nat.lt_or_ge (m j) (m i) with h|h
    ·have:=hc8.2 h;omega
    ·exact h
   refine WQ_round (X:=Nat × Nat × Value) (μ:=fun x=>us.length - x.1) (x:=(j,i,u)) (j+1,i,u) (by simp only;omega) ⟨by simp only;omega,hi,fun k hk=>by
    simp only at hk ⊢
    rcases Nat.lt_or_ge k j with h|h
    ·exact hle k h
    ·rw [show k=j from by omega];exact hge⟩ iS (fun w h=>iH h)
 ·refine kR ?_
  exact ⟨_,iC,i,hi,fun k hk=>hle k (by omega),rfl⟩
theorem sizes_n (x y:Value) (bs cs:List Blk) (L:List Chunk) (hx:BlsR L x bs) (hy:BlsR L y cs) (hn:bs.length≤90000) (hm:cs.length≤90000) :
 Gv Tryz.prog 161 [x,y].toArray L (fun r L'=>∃c:Int,r=.int .i64 c∧(c < 0↔szB 0 bs < szB 0 cs)∧L'=L):=by
 refine Gv.of_body (args:=[x,y]) Tryz.func161 rfl rfl ?_
 refine kW ?_
 refine cP rfl rfl (size_n x bs L hx hn) ?_
 refine kW ?_
 refine cP rfl rfl (size_n y cs L hy hm) ?_
 refine kW ?_
 refine cC rfl rfl (cmpInt_n _ _ L) (fun r L' hp=>?_)
 obtain ⟨c,rfl,hc8,rfl⟩:=hp
 refine kW ?_
 refine kR ?_
 exact ⟨_,iC,c,rfl,hc8,rfl⟩
theorem shortest_n (v:Value) (us:List Value) (bl:List (List Blk)) (L:List Chunk) (hK:Rs L 1 v us.length us) (h0:0 < us.length) (hl:us.length≤1000000) (hbl:bl.length=us.length)
 (hb:∀(i:Nat) (u:Value),us[i]? =some u→BlsR L u (bl.getD i [])∧(bl.getD i []).length≤90000) :
 Gv Tryz.prog 120 [v].toArray L (fun r L'=>∃i,us[i]? =some r∧(∀j,j < us.length→szB 0 (bl.getD i [])≤szB 0 (bl.getD j []))∧L'=L):=by
 refine Gv.of_body (args:=[v]) Tryz.func120 rfl rfl ?_
 refine kW ?_
 refine cC rfl rfl (minLists_n v us (fun i=>szB 0 (bl.getD i [])) 161 #[] L hK h0 hl (fun i j a b hi hj=>sizes_n a b _ _ L (hb i a hi).1 (hb j b hj).1 (hb i a hi).2 (hb j b hj).2)) (fun r L' hp=>?_)
 obtain ⟨i,hi,hle,rfl⟩:=hp
 refine kW ?_
 refine kR ?_
 exact ⟨_,iC,i,hi,hle,rfl⟩
def ChO (b:List UInt8) (ts:List (Nat × Nat)):Blk→Prop
 |.st t=>t=b
 |.fx k=>k=ts
 |.dn k l dl n1 n2 o own rs=>k=ts∧ts≠[]∧LenOf (inc (cA ts) 256) 15 l∧LenOf (cD ts) 15 dl∧LenOf (cR (rnS (hdL l dl))) 7 own∧n1=trN l 257 l.length∧n2=trN dl 1 dl.length∧o=(orN own).take (trN (orN own) 4 19)∧rs=rnS (hdL l dl)
theorem ends_n (u1 u2:Value) (B1 B2:Blk) (n bk:Nat) (L:List Chunk) (h1:BlkR L u1 B1) (h2:BlkR L u2 B2) (hf:Fnd L bk (cl [.int .i64 (n:Int)] 3)) (hn:n≤1000000000000) :
 Gv Tryz.prog 167 [u1,u2,.pointer (some ⟨bk,0,none⟩)].toArray L (fun r L'=>∃c:Int,r=.int .i64 c∧(c < 0↔enB n B1 < enB n B2)∧L'=L):=by
 refine Gv.of_body (args:=[u1,u2,.pointer (some ⟨bk,0,none⟩)]) Tryz.func167 rfl rfl ?_
 obtain ⟨a1,rfl,he1⟩:=bend_n u1 B1 n L h1 hn
 obtain ⟨a2,rfl,he2⟩:=bend_n u2 B2 n L h2 hn
 refine kW ?_
 refine WC_drawAll [7] mixed ?_
 (refine WR_t 0 ?_;refine WR_t 1 ?_;refine WR_t 3 ?_;refine WR_t 4 ?_)
 refine cI 2 rfl rfl ?_
 refine OW_invokeV (mth_B B1) rfl rfl he1 rfl (fun r L' hp=>?_)
 obtain ⟨rfl,rfl⟩:=hp
 refine ⟨iC,?_⟩
 refine cI 5 rfl rfl ?_
 refine OW_invokeV (mth_B B2) rfl rfl he2 rfl (fun r L' hp=>?_)
 obtain ⟨rfl,rfl⟩:=hp
 refine ⟨iC,?_⟩
 refine cI 6 rfl rfl ?_
 refine cC rfl rfl (cmpInt_n _ _ L') (fun r L' hp=>?_)
 obtain ⟨c,rfl,hc8,rfl⟩:=hp
 refine ⟨iC,?_⟩
 refine cL 7 rfl rfl rfl ?_
 refine OW_EV (EV_assign rfl) rfl ?_
 refine cD ?_
 refine kW ?_
 refine kR ?_
 exact ⟨_,iC,c,rfl,hc8,rfl⟩
theorem choices_n (v vt:Value) (b:List UInt8) (ts:List (Nat × Nat)) (S L:List Chunk) (hi:Inc S L) (h:PcR S v vt b ts) (hb:b.length≤65535) (hor:OrAt L) :
 Gv Tryz.prog 166 [.agg #[v,vt]].toArray L (fun r L'=>∃bs C T,BlsO (T::S) r bs C∧2≤bs.length∧bs.length≤3∧bs[0]? =some (.st b)∧(∀B∈bs,ChO b ts B)∧L'=C::T::L):=by
 refine Gv.of_body (args:=[.agg #[v,vt]]) Tryz.func166 rfl rfl ?_
 obtain ⟨va,vc,rfl,_⟩:=h.x.room
 obtain ⟨ta,tc,rfl,_⟩:=h.t.rs.room
 have hnt:=h.nt
 (refine kW ?_;refine kU fun bk=>?_;refine kW ?_)
 rename_i q1
 refine WC_drawAll [8] mixed ?_
 (refine WR_t 0 ?_;refine WR_t 1 ?_;refine WR_t 2 ?_;refine WR_t 3 ?_;refine WR_t 4 ?_)
 refine cI 5 rfl rfl ?_
 refine cC rfl rfl (fixedOf_n (.slice va b.length vc) (.slice ta ts.length tc) b ts S _ (Inc.skip hi) h) (fun r L' hp=>?_)
 obtain ⟨v1,v2,v3,v4,C1,rfl,hc1,rfl⟩:=hp
 refine ⟨iC,?_⟩
 (refine WR_t 6 ?_)
 refine cI 7 rfl rfl ?_
 refine OW_buildSlice (cs:=[.iface 220 (.agg #[.slice va b.length vc]),.iface 186 (.agg (cdV (.slice ta ts.length tc) v1 v2 v3 v4 (itL (coI fxL fxD ts))).toArray)]) rfl (by rfl) (by first|(simp [fillL,patch,Value.cells,zeros];done)|(simp [fillL,patch,Value.cells,zeros];rfl)) (by omega) rfl rfl (fun bn=>?_)
 refine ⟨iC,?_⟩
 refine cL 8 rfl rfl rfl ?_
 refine OW_EV (EV_assign rfl) rfl ?_
 refine cD ?_
 have hf1:BlkR (C1::S) (.iface 186 (.agg (cdV (.slice ta ts.length tc) v1 v2 v3 v4 (itL (coI fxL fxD ts))).toArray)) (.fx ts):=⟨_,_,_,_,_,rfl,hc1⟩
 have hs1:BlkR S (.iface 220 (.agg #[.slice va b.length vc])) (.st b):=⟨_,rfl,h.x,hb⟩
 have hlist:∀T,(∀x∈(C1::S).flatten,x∈(T::S).flatten)→∀(i:Nat) (B:Blk),[Blk.st b,Blk.fx ts][i]? =some B→∃u,[Value.iface 220 (.agg #[.slice va b.length vc]),Value.iface 186 (.agg (cdV (.slice ta ts.length tc) v1 v2 v3 v4 (itL (coI fxL fxD ts))).toArray)][i]? =some u∧BlkR (T::S) u B:=fun T hT i B hiB=>by
  match i,hiB with
  |0,hiB=>injection hiB with hiB;subst hiB;exact ⟨_,rfl,hs1.sub sub_there⟩
  |1,hiB=>injection hiB with hiB;subst hiB;exact ⟨_,rfl,hf1.sub hT⟩
  |i+2,hiB=>simp at hiB
 (repeat' first|refine kW ?_|refine kU fun bk=>?_|refine kV fun hc=>?_|refine kZ (fun hc=>?_) fun hc=>?_|fail)
 ·refine cC rfl rfl (dynamicOf_n (.slice va b.length vc) (.slice ta ts.length tc) b ts S _ (Inc.skip (Inc.skip (Inc.skip hi))) h (by repeat (first|exact hor|apply OrAt.there))) (fun r L' hp=>?_)
  obtain ⟨l,dl,own,w1,w2,w3,w4,wo,w5,w6,wr,C2,rfl,hlo,hlo2,hlo3,hfc,hfh,rfl⟩:=hp
  have hne:ts≠[]:=fun h0=>by subst h0;simp at hc
  have hd1:BlkR (C2::S) (Value.iface 228 (.agg (cdV (.slice ta ts.length tc) w1 w2 w3 w4 (itL (coI l dl ts))++hdV (trN l 257 l.length) (trN dl 1 dl.length) wo w5 w6 wr).toArray)) (.dn ts l dl (trN l 257 l.length) (trN dl 1 dl.length) ((orN own).take (trN (orN own) 4 19)) own (rnS (hdL l dl))):=⟨_,_,_,_,_,_,_,_,_,rfl,hfc,hfh⟩
  have hs2:∀x∈(C1::S).flatten,x∈((C2++C1)::S).flatten:=fun x hx=>by
   simp only [List.flatten_cons,List.mem_append] at hx ⊢
   rcases hx with hx|hx
   ·exact .inl (.inr hx)
   ·exact .inr hx
  have hs3:∀x∈(C2::S).flatten,x∈((C2++C1)::S).flatten:=fun x hx=>by
   simp only [List.flatten_cons,List.mem_append] at hx ⊢
   rcases hx with hx|hx
   ·exact .inl (.inl hx)
   ·exact .inr hx
  have ho:Ow 173 1 (.slice (some ⟨bn,0,none⟩) 2 2) 2 [Value.iface 220 (.agg #[.slice va b.length vc]),Value.iface 186 (.agg (cdV (.slice ta ts.length tc) v1 v2 v3 v4 (itL (coI fxL fxD ts))).toArray)] [(bn,cl [Value.iface 220 (.agg #[.slice va b.length vc]),Value.iface 186 (.agg (cdV (.slice ta ts.length tc) v1 v2 v3 v4 (itL (coI fxL fxD ts))).toArray)] 173)]:=
   .inr ⟨bn,2,[],rfl,by rw [List.append_nil],rfl,rfl,Nat.le_refl _,by simp [maxLen]⟩
  refine kW ?_
  refine OW_buildSlice (cs:=[Value.iface 228 (.agg (cdV (.slice ta ts.length tc) w1 w2 w3 w4 (itL (coI l dl ts))++hdV (trN l 257 l.length) (trN dl 1 dl.length) wo w5 w6 wr).toArray)]) rfl (by rfl) (by first|(simp [fillL,patch,Value.cells,zeros];done)|(simp [fillL,patch,Value.cells,zeros];rfl)) (by omega) rfl rfl (fun b3=>?_)
  refine jA ?_
  refine OW_append rfl rfl ho (sl_cells (k:=1) (c:=#[Value.iface 228 (.agg (cdV (.slice ta ts.length tc) w1 w2 w3 w4 (itL (coI l dl ts))++hdV (trN l 257 l.length) (trN dl 1 dl.length) wo w5 w6 wr).toArray)]) (xs:=[Value.iface 228 (.agg (cdV (.slice ta ts.length tc) w1 w2 w3 w4 (itL (coI l dl ts))++hdV (trN l 257 l.length) (trN dl 1 dl.length) wo w5 w6 wr).toArray)]) (m:=1) Fnd.here rfl (by simp)) (by repeat (first|exact Zip.here _|apply Zip.there)) rfl (by rfl) (by omega) (by simp [maxLen]) rfl (fun v' C' ho' _ _=>?_)
  have hbl':=BlsO.push (L:=(C2++C1)::S) (bs:=[Blk.st b,Blk.fx ts]) rfl (hlist _ hs2) rfl ho' rfl (hd1.sub hs3)
  generalize hdv:Value.iface 228 (.agg (cdV (.slice ta ts.length tc) w1 w2 w3 w4 (itL (coI l dl ts))++hdV (trN l 257 l.length) (trN dl 1 dl.length) wo w5 w6 wr).toArray)=dv at *
  refine kW ?_
  refine kH ?_
  refine ⟨C'::(C2++C1)::L,fun w h=>?_,?_⟩
  ·have h2:Holds w (C2::C1::C'::L):=iH h
   have h3:=two.2 h2
   exact iH h3
  exact ⟨[Blk.st b,Blk.fx ts]++[Blk.dn ts l dl (trN l 257 l.length) (trN dl 1 dl.length) ((orN own).take (trN (orN own) 4 19)) own (rnS (hdL l dl))],C',C2++C1,hbl',by simp,by simp,rfl,fun B hB=>by
   simp only [List.cons_append,List.nil_append,List.mem_cons,List.not_mem_nil,or_false] at hB
   rcases hB with rfl|rfl|rfl
   ·rfl
   ·rfl
   ·exact ⟨rfl,hne,hlo,hlo2,hlo3,rfl,rfl,rfl,rfl⟩,rfl⟩
 ·refine kR ?_
  exact ⟨[(bn,cl [Value.iface 220 (.agg #[.slice va b.length vc]),Value.iface 186 (.agg (cdV (.slice ta ts.length tc) v1 v2 v3 v4 (itL (coI fxL fxD ts))).toArray)] 173)]::C1::L,iC,[.st b,.fx ts],_,C1,⟨_,.inr ⟨bn,2,[],rfl,by rw [List.append_nil],rfl,rfl,Nat.le_refl _,by simp [maxLen]⟩,rfl,hlist C1 (fun x hx=>hx)⟩,by simp,by simp,rfl,fun B hB=>by
   simp only [List.mem_cons,List.not_mem_nil,or_false] at hB
   rcases hB with rfl|rfl<;>rfl,rfl⟩
end Go.Proofs.YtemdlifojcgplaaGreatDoor
namespace Go.Df
open Go.Vx Go.If Go.Hf
set_option linter.all false
structure Pc where
 a:Value
 t:Value
 i:Nat
 j:Nat
 ts:List (Nat × Nat)
def PcV (d:Pc):List Value:=[d.a,d.t]
def CutC:Nat→List Pc→Nat→Prop
 |i,[],k=>i=k
 |i,d::r,k=>d.i=i∧CutC d.j r k
theorem CutC.snoc:∀{ds:List Pc} {i k:Nat} {d:Pc},CutC i ds k→d.i=k→CutC i (ds++[d]) d.j
 |[],i,k,d,h,hd=>⟨by rw [hd];exact h.symm,rfl⟩
 |e::r,i,k,d,h,hd=>⟨h.1,h.2.snoc hd⟩
theorem Tks.one {b:List UInt8} {i j:Nat} {t:Nat × Nat} {r:List (Nat × Nat)} (h:Tks b i (t::r) j):Tks b i [t] (i+tsz t):=⟨h.1,h.2.1,h.2.2.1,h.2.2.2.1,rfl⟩
theorem tsz_le {t:Nat × Nat} (h:TkOk t):tsz t≤258:=by
 unfold tsz
 rcases h with ⟨h1,h2⟩|⟨h1,h2,h3,h4⟩<;>split<;>omega
end Go.Df
namespace Go.Proofs.YtemdlifojcgplaaGreatDoor
open Go Go.Vx Go.Hf Go.If Go.Df
variable [W0]
set_option maxRecDepth 4000
set_option linter.all false
structure PcS (S:List Chunk) (b:List UInt8) (d:Pc):Prop where
 r:PcR S d.a d.t ((b.drop d.i).take (d.j - d.i)) d.ts
 k:Tks b d.i d.ts d.j
 lj:d.j≤b.length
 fit:d.j - d.i≤65535
omit [W0] in
structure CuX where
 k:Nat
 f:Nat
 m:Nat
 a:Nat
 v:Value
 ds:List Pc
 C:Chunk
theorem bcut_n (v vt:Value) (b:List UInt8) (ts:List (Nat × Nat)) (S L:List Chunk) (hi:Inc S L) (h:PcR S v vt b ts) (hk:Tks b 0 ts b.length) :
 Gv Tryz.prog 164 [.agg #[v,vt]].toArray L (fun r L'=>∃ds C,Ow 179 2 r ds.length (flt PcV ds) C∧0 < ds.length∧ds.length≤4∧CutC 0 ds b.length∧(∀d∈ds,PcS S b d)∧L'=C::L):=by
 refine Gv.of_body (args:=[.agg #[v,vt]]) Tryz.func164 rfl rfl ?_
 obtain ⟨va,vc,rfl,_⟩:=h.x.room
 obtain ⟨ta,tc,rfl,_⟩:=h.t.rs.room
 have hnt:=h.nt
 have hnb:=h.nb
 have hL:=h.sub hi.mem
 (refine kW ?_;refine kU fun bk=>?_;refine kW ?_)
 revert bk
 intro q1
 refine WC_loop (X:=CuX) (fun x=>[(1,.pointer (some ⟨q1,0,none⟩)),(3,x.v),(4,.int .i64 (x.f:Int)),(5,.int .i64 (x.m:Int)),(6,.int .i64 (x.a:Int)),(10,.slice ta ts.length tc),(11,.int .i64 (ts.length:Int)),(12,.int .i64 (x.k:Int))])
  (fun x=>x.C::[(q1,cl [.slice va b.length vc,.slice ta ts.length tc] 179)]::L)
  (fun x=>x.f≤x.k∧x.k≤ts.length∧Tks b x.m ((ts.drop x.f).take (x.k - x.f)) x.a∧x.a - x.m≤65535∧x.a≤b.length∧Tks b x.a (ts.drop x.k) b.length∧CutC 0 x.ds x.m∧(∀d∈x.ds,PcS S b d)∧x.ds.length * 65278≤x.m∧Ow 179 2 x.v x.ds.length (flt PcV x.ds) x.C)
  (fun x=>ts.length - x.k) ⟨0,0,0,0,.slice none 0 0,[],[]⟩
  ⟨Nat.le_refl _,Nat.zero_le _,rfl,by simp,Nat.zero_le _,hk,rfl,fun d hd=>by simp at hd,Nat.zero_le _,.inl ⟨rfl,rfl,rfl,rfl⟩⟩ iS (fun w h=>Holds.nil.2 h) ?_
 rintro ⟨k,f,m,a,lv,ds,C⟩ ⟨hf,hkl,htk,hfit,hab,hrest,hcut,hds,hdl,hov⟩
 simp only at hf hkl htk hfit hab hrest hcut hds hdl hov ⊢
 have hma:=htk.le.1
 (repeat' first|refine kW ?_|refine kU fun bk=>?_|refine kV fun hc=>?_|refine kZ (fun hc=>?_) fun hc=>?_|fail)
 ·have hjl:k < ts.length:=by omega
  obtain ⟨t,ht⟩:∃t,ts[k]? =some t:=⟨ts[k],List.getElem?_eq_getElem hjl⟩
  have hdr:ts.drop k=t::ts.drop (k+1):=by
   have hx:ts[k]=t:=by rw [List.getElem?_eq_getElem hjl] at ht;simpa using ht
   rw [List.drop_eq_getElem_cons hjl,hx]
  rw [hdr] at hrest
  have hto:=hrest.1
  have h1t:=hrest.one
  have hsz:=hrest.2.1
  have hnx:=hrest.2.2.2.2
  have hs258:=tsz_le hto
  obtain ⟨tb,toff,tcap,hv9,hrd⟩:=h.t.rs.elem hjl (by decide)
  injection hv9 with q2 q3 q4
  subst q2 q4
  clear q3
  rw [flt_at TkV_len ht] at hrd
  have hrd:=hrd.sub hi.mem
  refine OW_EV (EV_indexAddr (j:=k) rfl rfl rfl hjl) rfl ?_
  refine kW ?_
  refine OW_EV (EV_loadAgg rfl (rd_there (rd_there hrd)) rfl) rfl ?_
  unfold TkV
  (refine kW ?_;refine kU fun bk=>?_;refine kW ?_)
  refine cP rfl rfl (tsize_n t _) ?_
  (repeat' first|refine kW ?_|refine kU fun bk=>?_|refine kV fun hc=>?_|refine kZ (fun hc=>?_) fun hc=>?_|fail)
  ·obtain ⟨r1,hr1,hev1⟩:=EV_sliceRs (P:=Tryz.prog) (T:=22) h.x (l:=m) (h:=a) hma (by omega)
   obtain ⟨r2,hr2,hev2⟩:=EV_sliceRs (P:=Tryz.prog) (T:=177) h.t.rs (l:=f) (h:=k) hf (by omega)
   have e1:((bsv b).drop (m * 1)).take ((a - m) * 1)=bsv ((b.drop m).take (a - m)):=by simp [bsv,List.map_take,List.map_drop]
   rw [e1] at hr1
   rw [flt_drop TkV_len,flt_take TkV_len] at hr2
   have hpc:PcS S b ⟨r1,r2,m,a,(ts.drop f).take (k - f)⟩:=by
    have l1:((b.drop m).take (a - m)).length=a - m:=by rw [List.length_take,List.length_drop];omega
    have l2:((ts.drop f).take (k - f)).length=k - f:=by rw [List.length_take,List.length_drop];omega
    exact ⟨⟨by rw [l1];exact hr1,⟨by rw [l2];exact hr2,fun x hx=>h.t.ok x (List.mem_of_mem_drop (List.mem_of_mem_take hx))⟩,by rw [l1];omega,by rw [l2];omega⟩,htk,hab,hfit⟩
   obtain ⟨a1,c1,rfl,_⟩:=hr1.room
   obtain ⟨a2,c2,rfl,_⟩:=hr2.room
   refine WC_draw ([(q1,cl [.slice va b.length vc,.slice (some ⟨tb,toff,none⟩) ts.length tc] 179)]::L) [14] mixed ?_
   (refine WR_t 0 ?_;refine WR_t 1 ?_;refine WR_t 3 ?_;refine WR_t 4 ?_;refine WR_t 6 ?_;refine WR_t 8 ?_;refine WR_t 9 ?_)
   (refine WR_t 2 ?_;refine WR_t 7 ?_)
   refine cT 5 rfl rfl (hev1 rfl rfl rfl) ?_
   refine cT 10 rfl rfl (hev2 rfl rfl rfl) ?_
   (refine WR_t 11 ?_)
   refine cI 12 rfl rfl ?_
   refine OW_buildSlice (cs:=[.slice a1 (a - m) c1,.slice a2 (k - f) c2]) rfl (by rfl) (by first|(simp [fillL,patch,Value.cells,zeros];done)|(simp [fillL,patch,Value.cells,zeros];rfl)) (by omega) rfl rfl (fun b3=>?_)
   refine ⟨iC,?_⟩
   refine cI 13 rfl rfl ?_
   refine OW_append rfl rfl hov (sl_cells (k:=2) (c:=#[.slice a1 (a - m) c1,.slice a2 (k - f) c2]) (xs:=[.slice a1 (a - m) c1,.slice a2 (k - f) c2]) (m:=1) Fnd.here rfl (by simp)) (by repeat (first|exact Zip.here _|apply Zip.there)) rfl (by rfl) (by omega) (by simp [maxLen];omega) rfl (fun v' C' ho' _ _=>?_)
   refine ⟨iC,?_⟩
   refine cL 14 rfl rfl rfl ?_
   refine OW_EV (EV_assign rfl) rfl ?_
   refine cD ?_
   have h9:(ds.length+1) * 65278≤a:=by
    rw [Nat.succ_mul]
    have h8:m+65278≤a:=by omega
    exact Nat.le_trans (Nat.add_le_add_right hdl 65278) h8
   have hov':Ow 179 2 v' (ds++[(⟨.slice a1 (a - m) c1,.slice a2 (k - f) c2,m,a,(ts.drop f).take (k - f)⟩:Pc)]).length (flt PcV (ds++[⟨.slice a1 (a - m) c1,.slice a2 (k - f) c2,m,a,(ts.drop f).take (k - f)⟩])) C':=by
    rw [flt_app,List.length_append,List.length_singleton]
    exact ho'
   refine kW ?_
   refine cP rfl rfl (tsize_n t _) ?_
   refine kW ?_
   rw [show (a:Int)+(tsz t:Int)=((a+tsz t:Nat):Int) from by omega]
   refine WQ_round (X:=CuX) (μ:=fun x=>ts.length - x.k) (x:=⟨k,f,m,a,lv,ds,C⟩) ⟨k+1,k,a,a+tsz t,v',ds++[⟨.slice a1 (a - m) c1,.slice a2 (k - f) c2,m,a,(ts.drop f).take (k - f)⟩],C'⟩ (by simp only;omega) ⟨by simp only;omega,by simp only;omega,?_,by simp only;omega,hsz,hnx,hcut.snoc rfl,fun d hd=>?_,?_,hov'⟩ iS (fun w h=>iH h)
   ·simp only
    rw [hdr,show k+1 - k=1 from by omega]
    exact h1t
   ·simp only [List.mem_append,List.mem_singleton] at hd
    rcases hd with hd|rfl
    ·exact hds d hd
    ·exact hpc
   ·simp only [List.length_append,List.length_singleton]
    exact h9
  ·refine cP rfl rfl (tsize_n t _) ?_
   refine kW ?_
   rw [show (a:Int)+(tsz t:Int)=((a+tsz t:Nat):Int) from by omega]
   refine WQ_round (X:=CuX) (μ:=fun x=>ts.length - x.k) (x:=⟨k,f,m,a,lv,ds,C⟩) ⟨k+1,f,m,a+tsz t,lv,ds,C⟩ (by simp only;omega) ⟨by simp only;omega,by simp only;omega,?_,by simp only;omega,hsz,hnx,hcut,hds,by simp only;omega,hov⟩ iS (fun w h=>iH h)
   simp only
   have e2:(ts.drop f).take (k+1 - f)=(ts.drop f).take (k - f)++[t]:=by
    rw [show k+1 - f=(k - f)+1 from by omega]
    exact takeSucc (by rw [List.getElem?_drop,show f+(k - f)=k from by omega];exact ht)
   rw [e2]
   exact htk.app h1t
 ·obtain rfl:k=ts.length:=by omega
  obtain rfl:a=b.length:=by
   rw [List.drop_length] at hrest;exact hrest
  obtain ⟨r1,hr1,hev1⟩:=EV_sliceRs (P:=Tryz.prog) (T:=22) h.x (l:=m) (h:=b.length) hma (Nat.le_refl _)
  obtain ⟨r2,hr2,hev2⟩:=EV_sliceRs (P:=Tryz.prog) (T:=177) h.t.rs (l:=f) (h:=ts.length) hf (Nat.le_refl _)
  have e1:((bsv b).drop (m * 1)).take ((b.length - m) * 1)=bsv ((b.drop m).take (b.length - m)):=by simp [bsv,List.map_take,List.map_drop]
  rw [e1] at hr1
  rw [flt_drop TkV_len,flt_take TkV_len] at hr2
  have hpc:PcS S b ⟨r1,r2,m,b.length,(ts.drop f).take (ts.length - f)⟩:=by
   have l1:((b.drop m).take (b.length - m)).length=b.length - m:=by rw [List.length_take,List.length_drop];omega
   have l2:((ts.drop f).take (ts.length - f)).length=ts.length - f:=by rw [List.length_take,List.length_drop];omega
   exact ⟨⟨by rw [l1];exact hr1,⟨by rw [l2];exact hr2,fun x hx=>h.t.ok x (List.mem_of_mem_drop (List.mem_of_mem_take hx))⟩,by rw [l1];omega,by rw [l2];omega⟩,htk,hab,hfit⟩
  obtain ⟨a1,c1,rfl,_⟩:=hr1.room
  obtain ⟨a2,c2,rfl,_⟩:=hr2.room
  refine WC_draw ([(q1,cl [.slice va b.length vc,.slice ta ts.length tc] 179)]::L) [12] mixed ?_
  (refine WR_t 0 ?_;refine WR_t 1 ?_;refine WR_t 3 ?_;refine WR_t 5 ?_;refine WR_t 7 ?_)
  (refine WR_t 2 ?_;refine WR_t 6 ?_)
  refine cT 4 rfl rfl (hev1 rfl rfl rfl) ?_
  refine cT 8 rfl rfl (hev2 rfl rfl rfl) ?_
  (refine WR_t 9 ?_)
  refine cI 10 rfl rfl ?_
  refine OW_buildSlice (cs:=[.slice a1 (b.length - m) c1,.slice a2 (ts.length - f) c2]) rfl (by rfl) (by first|(simp [fillL,patch,Value.cells,zeros];done)|(simp [fillL,patch,Value.cells,zeros];rfl)) (by omega) rfl rfl (fun b3=>?_)
  refine ⟨iC,?_⟩
  refine cI 11 rfl rfl ?_
  refine OW_append rfl rfl hov (sl_cells (k:=2) (c:=#[.slice a1 (b.length - m) c1,.slice a2 (ts.length - f) c2]) (xs:=[.slice a1 (b.length - m) c1,.slice a2 (ts.length - f) c2]) (m:=1) Fnd.here rfl (by simp)) (by repeat (first|exact Zip.here _|apply Zip.there)) rfl (by rfl) (by omega) (by simp [maxLen];omega) rfl (fun v' C' ho' _ _=>?_)
  refine ⟨iC,?_⟩
  refine cL 12 rfl rfl rfl ?_
  refine OW_EV (EV_assign rfl) rfl ?_
  refine cD ?_
  have hov':Ow 179 2 v' (ds++[(⟨.slice a1 (b.length - m) c1,.slice a2 (ts.length - f) c2,m,b.length,(ts.drop f).take (ts.length - f)⟩:Pc)]).length (flt PcV (ds++[⟨.slice a1 (b.length - m) c1,.slice a2 (ts.length - f) c2,m,b.length,(ts.drop f).take (ts.length - f)⟩])) C':=by
   rw [flt_app,List.length_append,List.length_singleton]
   exact ho'
  refine kW ?_
  refine kR ?_
  exact ⟨_,iC,_,C',hov',by simp,by rw [List.length_append,List.length_singleton];omega,hcut.snoc rfl,fun d hd=>by
   simp only [List.mem_append,List.mem_singleton] at hd
   rcases hd with hd|rfl
   ·exact hds d hd
   ·exact hpc,rfl⟩
def BlO (b:List UInt8) (i j:Nat):Blk→Prop
 |.st t=>t=(b.drop i).take (j - i)∧j - i≤65535
 |.fx k=>Tks b i k j
 |.dn k l dl n1 n2 o own rs=>Tks b i k j∧k≠[]∧LenOf (inc (cA k) 256) 15 l∧LenOf (cD k) 15 dl∧LenOf (cR (rnS (hdL l dl))) 7 own∧n1=trN l 257 l.length∧n2=trN dl 1 dl.length∧o=(orN own).take (trN (orN own) 4 19)∧rs=rnS (hdL l dl)
theorem ChO.o {b:List UInt8} {i j:Nat} {ts:List (Nat × Nat)} {B:Blk} (h:ChO ((b.drop i).take (j - i)) ts B) (hf:j - i≤65535) (hk:Tks b i ts j):BlO b i j B:=by
 cases B with
 |st t=>exact ⟨h,hf⟩
 |fx k=>have h:k=ts:=h;subst h;exact hk
 |dn k l dl n1 n2 o own rs=>obtain ⟨rfl,h2⟩:=h;exact ⟨hk,h2⟩
def BlC (b:List UInt8):Nat→List Blk→Nat→Prop
 |i,[],k=>i=k
 |i,B::r,k=>∃j,i≤j∧j≤b.length∧BlO b i j B∧BlC b j r k
theorem BlC.snoc {b:List UInt8}:∀{bs:List Blk} {i j k:Nat} {B:Blk},BlC b i bs j→j≤k→k≤b.length→BlO b j k B→BlC b i (bs++[B]) k
 |[],i,j,k,B,h,h1,h2,h3=>by
  have h:i=j:=h
  subst h;exact ⟨k,h1,h2,h3,rfl⟩
 |D::r,i,j,k,B,h,h1,h2,h3=>by
  obtain ⟨q,g1,g2,g3,g4⟩:=h
  exact ⟨q,g1,g2,g3,g4.snoc h1 h2 h3⟩
omit [W0] in
theorem CutC.at {b:Nat}:∀{ds:List Pc} {i k:Nat} (q:Nat) {d:Pc},CutC i ds k→ds[q]? =some d→∃m,CutC i (ds.take q) m∧d.i=m
 |[],i,k,q,d,h,hd=>by simp at hd
 |e::r,i,k,0,d,h,hd=>by
  simp only [List.getElem?_cons_zero,Option.some.injEq] at hd
  subst hd
  exact ⟨i,rfl,h.1⟩
 |e::r,i,k,q+1,d,h,hd=>by
  obtain ⟨m,h1,h2⟩:=CutC.at (b:=b) q h.2 (by simpa using hd)
  exact ⟨m,⟨h.1,h1⟩,h2⟩
omit [W0] in
theorem CutC.det:∀{ds:List Pc} {i k m:Nat},CutC i ds k→CutC i ds m→k=m
 |[],i,k,m,h1,h2=>by
  have h1:i=k:=h1
  have h2:i=m:=h2
  omega
 |e::r,i,k,m,h1,h2=>CutC.det h1.2 h2.2
omit [W0] in
structure MxX where
 k:Nat
 i:Nat
 bs:List Blk
 v:Value
 C:Chunk
 T:Chunk
theorem end_v (a:Value) (B:Blk) (n:Nat) (L:List Chunk) (h:BlkR L (.iface (endT B) a) B) (hn:n≤1000000000000):GvP Tryz.prog (endF B) [a,.int .i64 (n:Int)].toArray L (.int .i64 ((enB n B:Nat):Int)):=by
 obtain ⟨a',h1,h2⟩:=bend_n _ B n L h hn
 injection h1 with h3 h4
 subst h4
 exact h2
theorem mixed_n (v vt:Value) (b:List UInt8) (ts:List (Nat × Nat)) (S L:List Chunk) (hi:Inc S L) (h:PcR S v vt b ts) (hk:Tks b 0 ts b.length) (hor:OrAt L) :
 Gv Tryz.prog 121 [.agg #[v,vt]].toArray L (fun r L'=>∃bs C T,BlsO (T::S) r bs C∧0 < bs.length∧bs.length≤4∧BlC b 0 bs b.length∧L'=C::T::L):=by
 refine Gv.of_body (args:=[.agg #[v,vt]]) Tryz.func121 rfl rfl ?_
 obtain ⟨va,vc,rfl,_⟩:=h.x.room
 obtain ⟨ta,tc,rfl,_⟩:=h.t.rs.room
 (refine kW ?_;refine kU fun bk=>?_;refine kW ?_;refine kU fun bk=>?_;refine kW ?_)
 rename_i q1
 revert bk
 intro qb
 refine OW_store rfl rfl rfl iU (by simp [Value.cells]) ?_
 refine kW ?_
 refine cC rfl rfl (bcut_n (.slice va b.length vc) (.slice ta ts.length tc) b ts S _ (Inc.skip (Inc.skip hi)) h hk) (fun r L' hp=>?_)
 obtain ⟨ds,Cc,ho,hd0,hd4,hcut,hds,rfl⟩:=hp
 have hrs:=Rs.ow (L:=[]) ho
 obtain ⟨ra,rc,rfl,_⟩:=hrs.room
 refine kW ?_
 refine WC_loop (X:=MxX) (fun x=>[(1,.pointer (some ⟨q1,0,none⟩)),(3,x.v),(4,.pointer (some ⟨qb,0,none⟩)),(9,.slice ra ds.length rc),(10,.int .i64 (ds.length:Int)),(11,.int .i64 (x.k:Int))])
  (fun x=>x.C::[(qb,cl [.int .i64 ((szB 0 x.bs:Nat):Int)] 3)]::x.T::Cc::L)
  (fun x=>x.k≤ds.length∧x.bs.length=x.k∧CutC 0 (ds.take x.k) x.i∧BlC b 0 x.bs x.i∧szB 0 x.bs≤10000001 * x.k∧BlsO (x.T::S) x.v x.bs x.C)
  (fun x=>ds.length - x.k) ⟨0,0,[],.slice none 0 0,[],[]⟩
  ⟨Nat.zero_le _,rfl,rfl,rfl,by simp [szB],BlsO.nil _⟩ iS (fun w h=>?_) ?_
 ·show Holds w ([]::[(qb,cl [.int .i64 0] 3)]::[]::Cc::L)
  exact Holds.nil.2 (iH (Holds.nil.2 h))
 rintro ⟨k,i,bs,lv,C,T⟩ ⟨hkl,hbk,hct,hbc,hsz,hbl⟩
 simp only at hkl hbk hct hbc hsz hbl ⊢
 (repeat' first|refine kW ?_|refine kU fun bk=>?_|refine kV fun hc=>?_|refine kZ (fun hc=>?_) fun hc=>?_|fail)
 ·have hjl:k < ds.length:=by omega
  obtain ⟨d,hd⟩:∃d,ds[k]? =some d:=⟨ds[k],List.getElem?_eq_getElem hjl⟩
  have hdS:=hds d (List.mem_of_getElem? hd)
  obtain ⟨m9,hm1,hm2⟩:=CutC.at (b:=0) k hcut hd
  obtain rfl:=CutC.det hm1 hct
  obtain ⟨tb,toff,tcap,hv9,hrd⟩:=hrs.elem hjl (by decide)
  injection hv9 with q2 q3 q4
  subst q2 q4
  clear q3
  rw [flt_at (k:=2) (fun _=>rfl) hd] at hrd
  obtain ⟨da,dt,di,dj,dts⟩:=d
  simp only at hm2
  subst hm2
  obtain ⟨hpr,hpk,hpl,hpf⟩:=hdS
  simp only at hpr hpk hpl hpf
  have hctn:CutC 0 (ds.take (k+1)) dj:=by rw [takeSucc hd];exact hct.snoc rfl
  have hij:=hpk.le.1
  obtain ⟨pa,pc,rfl,_⟩:=hpr.x.room
  obtain ⟨pt,pq,rfl,_⟩:=hpr.t.rs.room
  generalize hpx:(b.drop di).take (dj - di)=px at *
  have hpxl:px.length≤65535:=by rw [←hpx,List.length_take];omega
  refine OW_EV (EV_indexAddr (j:=k) rfl rfl rfl hjl) rfl ?_
  refine kW ?_
  refine OW_EV (EV_loadAgg rfl (hrd.sub iM) rfl) rfl ?_
  unfold PcV
  (refine kW ?_;refine kU fun bk=>?_;refine kW ?_)
  refine cC rfl rfl (choices_n (.slice pa px.length pc) (.slice pt dts.length pq) px dts S _ (Inc.skip (Inc.skip (Inc.skip (Inc.skip (Inc.skip hi))))) hpr hpxl (by repeat (first|exact hor|apply OrAt.there))) (fun r L' hp=>?_)
  obtain ⟨bs9,C9,T9,hb9,hb2,hb3,hb0,hch,rfl⟩:=hp
  refine kW ?_
  obtain ⟨vs,hov9,hon9,hex9⟩:=hb9.ex
  have hvl:vs.length=bs9.length:=by rcases hov9 with ⟨_,h0,rfl,_⟩|⟨_,_,_,_,_,h,_⟩;simpa using h0.symm;omega
  rw [←hvl] at hov9
  obtain ⟨n0,hn0⟩:∃x,x=szB 0 bs:=⟨_,rfl⟩
  rw [←hn0] at hsz ⊢
  have hat:∀(i:Nat) (u:Value),vs[i]? =some u→∃B,bs9[i]? =some B∧bs9.getD i (.st [])=B∧B∈bs9∧BlkR (T9::S) u B:=fun i u hu=>by
   have hlt:i < bs9.length:=by
    rw [←hvl]
    exact (List.getElem?_eq_some_iff.1 hu).1
   have hB:bs9[i]? =some bs9[i]:=List.getElem?_eq_getElem hlt
   obtain ⟨u',h4,h5⟩:=hex9 i _ hB
   rw [hu] at h4
   injection h4 with h4
   subst h4
   exact ⟨_,hB,by simp [List.getD,hB],List.getElem_mem hlt,h5⟩
  refine OW_call rfl rfl rfl (minBlocks_n _ vs (fun i=>enB n0 (bs9.getD i (.st []))) 167 #[.pointer (some ⟨qb,0,none⟩)] _ ((Rs.ow (L:=[]) hov9).sub iM) (by omega) (by omega) (fun i j x y hx hy=>by
   obtain ⟨B1,_,e1,_,r1⟩:=hat i x hx
   obtain ⟨B2,_,e2,_,r2⟩:=hat j y hy
   simp only [e1,e2]
   refine ends_n x y B1 B2 n0 qb _ (r1.sub ?_) (r2.sub ?_) (by repeat (first|assumption|exact Fnd.here|refine Fnd.there ?_)) (by omega)
   ·exact Inc.mem (Inc.cons (by repeat (first|exact Take.here|apply Take.there)) (by repeat (first|exact hi|refine Inc.skip ?_)))
   ·exact Inc.mem (Inc.cons (by repeat (first|exact Take.here|apply Take.there)) (by repeat (first|exact hi|refine Inc.skip ?_))))) rfl (fun r L' hp=>?_)
  obtain ⟨i9,hi9,hle9,rfl⟩:=hp
  obtain ⟨B,_,_,hBm,hBr⟩:=hat i9 r hi9
  obtain ⟨e,rfl,_⟩:=bend_n r B n0 _ hBr (by omega)
  have hen1:enB n0 B≤10000001 * (k+1):=by
   have h9:=hBr.le (n0+1)
   unfold enB
   omega
  have hev:=fun L (hL:BlkR L (.iface (endT B) e) B)=>end_v e B n0 L hL (by omega)
  refine kW ?_
  obtain ⟨vl,hovl,honl,hexl⟩:=hbl.ex
  have hvll:vl.length=bs.length:=by rcases hovl with ⟨_,h0,rfl,_⟩|⟨_,_,_,_,_,h,_⟩;simpa using h0.symm;omega
  refine OW_buildSlice (cs:=[.iface (endT B) e]) rfl (by rfl) (by first|(simp [fillL,patch,Value.cells,zeros];done)|(simp [fillL,patch,Value.cells,zeros];rfl)) (by omega) rfl rfl (fun bn=>?_)
  refine jA ?_
  refine OW_append rfl rfl hovl (sl_cells (k:=1) (c:=#[.iface (endT B) e]) (xs:=[.iface (endT B) e]) (m:=1) Fnd.here rfl (by simp)) (by repeat (first|exact Zip.here _|apply Zip.there)) rfl (by rfl) (by omega) (by simp [maxLen];omega) rfl (fun v' C' ho' _ _=>?_)
  have hbl':BlsO ((T9++T)::S) v' (bs++[B]) C':=BlsO.push (L:=(T9++T)::S) honl (fun i B hB=>by
   obtain ⟨u,h4,h5⟩:=hexl i B hB
   exact ⟨u,h4,h5.sub (fun x hx=>by
    simp only [List.flatten_cons,List.mem_append] at hx ⊢
    rcases hx with hx|hx
    ·exact .inl (.inr hx)
    ·exact .inr hx)⟩) hvll ho' rfl (hBr.sub (fun x hx=>by
    simp only [List.flatten_cons,List.mem_append] at hx ⊢
    rcases hx with hx|hx
    ·exact .inl (.inl hx)
    ·exact .inr hx))
  refine kW ?_
  refine OW_invokeV (mth_B B) rfl rfl (hev _ (hBr.sub ?_)) rfl (fun r L' hp=>?_)
  ·exact Inc.mem (Inc.cons (by repeat (first|exact Take.here|apply Take.there)) (by repeat (first|exact hi|refine Inc.skip ?_)))
  obtain ⟨rfl,rfl⟩:=hp
  refine jA ?_
  refine OW_store rfl rfl rfl iU (by simp [Value.cells]) ?_
  refine kW ?_
  refine WQ_round (X:=MxX) (μ:=fun x=>ds.length - x.k) (x:=⟨k,di,bs,lv,C,T⟩) ⟨k+1,dj,bs++[B],v',C',T9++T⟩ (by simp only;omega) ⟨by simp only;omega,by simp only [List.length_append,List.length_singleton];omega,hctn,hbc.snoc hij hpl (ChO.o (by rw [hpx];exact hch B hBm) hpf hpk),?_,hbl'⟩ iS (fun w h=>?_)
  ·simp only
   rw [szB_app,←hn0]
   exact hen1
  ·have h2:Holds w (T9::T::C'::[(qb,cl [.int .i64 ((enB n0 B:Nat):Int)] 3)]::Cc::L):=iH h
   have h3:=two.2 h2
   rw [hn0,←szB_app] at h3
   exact iH h3
 ·obtain rfl:k=ds.length:=by omega
  rw [List.take_length] at hct
  obtain rfl:=CutC.det hct hcut
  refine kR ?_
  exact ⟨_,iC,bs,C,T,hbl,by omega,by omega,hbc,rfl⟩
end Go.Proofs.YtemdlifojcgplaaGreatDoor
namespace Go.Df
open Go.Vx Go.If Go.Hf
set_option linter.all false
theorem orN_len (own:List Nat):(orN own).length=19:=by simp [orN]
theorem orN_get (own:List Nat) {i:Nat} (h:i < 19):(orN own).getD i 0=own.getD (ordL.getD i 0) 0:=by
 unfold orN
 rw [List.getD_eq_getElem?_getD,List.getElem?_map,List.getElem?_range h]
 rfl
theorem ow_or (own:List Nat):∀k i,i+k≤19→orI (((orN own).drop i).take k)=owI own k i
 |0,i,h=>by rw [List.take_zero];rfl
 |k+1,i,h=>by
  have hi:i < (orN own).length:=by rw [orN_len];omega
  have e:(orN own)[i]=own.getD (ordL.getD i 0) 0:=by
   have:=orN_get own (i:=i) (by omega)
   rw [List.getD_eq_getElem?_getD,List.getElem?_eq_getElem hi] at this
   exact this
  rw [List.drop_eq_getElem_cons hi,List.take_succ_cons,owI,←ow_or own k (i+1) (by omega),e]
  rfl
theorem tsI_ge [W0] {l dl:List Nat}:∀{ts:List Tok} {n:Nat},tsOk l dl n ts→ts.length≤itL (tsI l dl ts)
 |[],_,_=>Nat.le_refl _
 |k::r,n,h=>by
  have:=tsI_ge h.2
  rw [tsI,itL_app,List.length_cons]
  have h1:1≤itL (tkI l dl k):=by
   have hk:=h.1
   cases k with
   |lit c=>
    have:0 < l.getD c.toNat 0:=hk
    simp only [tkI,itL,sc];omega
   |mt k x t y=>
    have:0 < l.getD k 0:=by
     simp only [tkOk] at hk
     obtain ⟨h1,h2,h3⟩:=hk
     first|exact h1|exact h2|exact h3.1|simp_all
    simp only [tkI,itL,sc];omega
  omega
theorem Bi.len {d:List UInt8} {t:Nat} {a:List (Nat × Nat)} (h:Bi d t a):t+itL a≤8 * d.length:=h.2
end Go.Df
namespace Go.Proofs.YtemdlifojcgplaaGreatDoor
open Go Go.Vx Go.Hf Go.If Go.Df
variable [W0]
set_option linter.all false
structure DnF (k:List (Nat × Nat)) (l dl:List Nat) (n1 n2:Nat) (o own:List Nat) (rs:List (Nat × Nat)):Prop where
 ll:l.length=286
 dll:dl.length=30
 n1a:257≤n1
 n1b:n1≤286
 n1z:∀i,n1≤i→i < l.length→l.getD i 0=0
 n2a:1≤n2
 n2b:n2≤30
 n2z:∀i,n2≤i→i < dl.length→dl.getD i 0=0
 hd:HdOk own n1 n2 (o.length - 4) (rs.map rlOf)
 w:rsW (rs.map rlOf) []=l.take n1++dl.take n2
 h15:∀x∈l.take n1++dl.take n2,x≤15
 ro:∀r∈rs,RnOk r
 o4:4≤o.length
 oo:orI o=owI own o.length 0
 pl:∀t∈k,0 < l.getD (tsy t) 0∧(t.2≠0→0 < dl.getD (odN t.2) 0)
theorem dn_facts {k:List (Nat × Nat)} {l dl own:List Nat} (hk:∀t∈k,TkOk t) (hne:k≠[]) (h1:LenOf (inc (cA k) 256) 15 l) (h2:LenOf (cD k) 15 dl) (h3:LenOf (cR (rnS (hdL l dl))) 7 own) :
 DnF k l dl (trN l 257 l.length) (trN dl 1 dl.length) ((orN own).take (trN (orN own) 4 19)) own (rnS (hdL l dl)):=by
 have hll:l.length=286:=by rw [h1.len,inc_len,cA_len]
 have hdl:dl.length=30:=by rw [h2.len,cD_len]
 obtain ⟨a1,a2,a3⟩:=trN_b (l:=l) (least:=257) l.length (by omega)
 obtain ⟨b1,b2,b3⟩:=trN_b (l:=dl) (least:=1) dl.length (by omega)
 obtain ⟨c1,c2,c3⟩:=trN_b (l:=orN own) (least:=4) 19 (by omega)
 have hA:∀t∈k,0 < (inc (cA k) 256).getD (tsy t) 0:=fun t ht=>by
  rw [inc_get (by rw [cA_len];decide)]
  have:=cA_pos hk ht
  omega
 have hA6:0 < (inc (cA k) 256).getD 256 0:=by
  rw [inc_get (by rw [cA_len];decide),if_pos rfl];omega
 have h256:0 < l.getD 256 0:=(h1.on (i:=256) (by rw [inc_len,cA_len];decide) hA6).1
 have hle:∀x∈hdL l dl,x≤15:=fun x hx=>by
  rcases List.mem_append.1 hx with hx|hx
  ·obtain ⟨i,hi,rfl⟩:=List.getElem_of_mem (List.mem_of_mem_take hx)
   have:=h1.le i
   rwa [show l.getD i 0=l[i] from by simp [List.getD,hi]] at this
  ·obtain ⟨i,hi,rfl⟩:=List.getElem_of_mem (List.mem_of_mem_take hx)
   have:=h2.le i
   rwa [show dl.getD i 0=dl[i] from by simp [List.getD,hi]] at this
 have hlen:(hdL l dl).length=trN l 257 l.length+trN dl 1 dl.length:=by
  unfold hdL
  rw [List.length_append,List.length_take,List.length_take];omega
 have h6:(hdL l dl).getD 256 0=l.getD 256 0:=by
  unfold hdL
  rw [List.getD_eq_getElem?_getD,List.getElem?_append_left (by rw [List.length_take];omega),List.getElem?_take,if_pos (by omega),←List.getD_eq_getElem?_getD]
 obtain ⟨w1,w2,w3⟩:=rnS_W hle
 obtain ⟨r,hr,q,hq,hrq⟩:=two_runs hle (by omega) (by rw [h6];exact h256)
 have hr19:∀r∈rnS (hdL l dl),r.1 < 19:=fun r hr=>by have:=(w1 r hr).1;omega
 have hown:own.length=19:=by rw [h3.len,cR_len]
 obtain ⟨t,ht⟩:∃t,t∈k:=by
  cases k with
  |nil=>exact absurd rfl hne
  |cons t _=>exact ⟨t,List.mem_cons_self⟩
 have hol:((orN own).take (trN (orN own) 4 19)).length=trN (orN own) 4 19:=by rw [List.length_take,orN_len];omega
 have hkl:kS l=32768:=h1.whole (tsy_lt (hk t ht)).2.2 (hA t ht) hA6
 refine ⟨hll,hdl,a1,by omega,a3,b1,by omega,b3,⟨a1,by omega,b1,by omega,hown,h3.le,h3.whole hrq (cR_pos hr19 hr) (cR_pos hr19 hq),by omega,fun i hi hi9=>?_,w3 own fun r hr=>?_,?_,?_,?_,?_⟩,w2,hle,w1,by omega,?_,fun t ht=>⟨?_,fun h0=>?_⟩⟩
 ·rw [←orN_get own hi9]
  exact c3 i (by omega) hi9
 ·exact (h3.on (i:=r.1) (by rw [cR_len];exact hr19 r hr) (cR_pos hr19 hr)).1
 ·have:=rsW_length ((rnS (hdL l dl)).map rlOf) []
  rw [w2,hlen,List.length_nil,Nat.zero_add] at this
  exact this.symm
 ·rw [w2,h6];omega
 ·rw [w2]
  have:(hdL l dl).take (trN l 257 l.length)=l.take (trN l 257 l.length):=by
   unfold hdL
   rw [List.take_append_of_le_length (by rw [List.length_take];omega),List.take_take,Nat.min_self]
  rw [this,kS_trim a3,hkl]
 ·rw [w2]
  have:(hdL l dl).drop (trN l 257 l.length)=dl.take (trN dl 1 dl.length):=by
   unfold hdL
   rw [List.drop_append_of_le_length (by rw [List.length_take];omega),List.drop_eq_nil_of_le (by rw [List.length_take];omega),List.nil_append]
  rw [this,kS_trim b3,sgl_sum,sum_trim b3,←sgl_sum]
  exact h2.one
 ·rw [hol]
  have:=ow_or own (trN (orN own) 4 19) 0 (by omega)
  rwa [List.drop_zero] at this
 ·exact (h1.on (by rw [inc_len,cA_len];exact (tsy_lt (hk t ht)).1) (hA t ht)).1
 ·have:odN t.2 < 30:=by
   rcases hk t ht with ⟨g1,_⟩|⟨g1,g2,_⟩
   ·exact absurd g1 h0
   ·exact Nat.lt_succ_of_le (odN_ok g1 g2).1
  exact (h2.on (by rw [cD_len];exact this) (cD_pos hk ht h0)).1
set_option maxRecDepth 4000
theorem stF_end (bb:List UInt8) (i:Nat) (hi:i≤bb.length) (h:bb.length - i≤65535):BlC bb i [.st (bb.drop i)] bb.length:=
 ⟨bb.length,hi,Nat.le_refl _,⟨by rw [List.take_of_length_le (by rw [List.length_drop];exact Nat.le_refl _)],h⟩,rfl⟩
theorem stF_c (bb:List UInt8):∀(f i:Nat),i≤bb.length→bb.length - i≤f→BlC bb i (stF f (bb.drop i)) bb.length∧(stF f (bb.drop i)).length * 65535≤(bb.length - i)+65535∧0 < (stF f (bb.drop i)).length
 |0,i,hi,h=>⟨stF_end bb i hi (by omega),by simp [stF],by simp [stF]⟩
 |f+1,i,hi,h=>by
  by_cases hc9:65535 < (bb.drop i).length
  ·rw [stF,if_pos hc9]
   rw [List.length_drop] at hc9
   rw [List.drop_drop]
   obtain ⟨g1,g2,g3⟩:=stF_c bb f (i+65535) (by omega) (by omega)
   refine ⟨⟨i+65535,by omega,by omega,⟨by rw [show i+65535 - i=65535 from by omega],by omega⟩,g1⟩,?_,by simp⟩
   rw [List.length_cons,Nat.succ_mul]
   refine Nat.le_trans (Nat.add_le_add_right g2 65535) ?_
   omega
  ·rw [stF_stop hc9]
   rw [List.length_drop] at hc9
   exact ⟨stF_end bb i hi (by omega),by simp,by simp⟩
theorem stB_c (b:List UInt8) (hb:b.length≤200000):BlC b 0 (stB b) b.length∧(stB b).length≤4∧0 < (stB b).length:=by
 obtain ⟨g1,g2,g3⟩:=stF_c b b.length 0 (Nat.zero_le _) (by omega)
 rw [List.drop_zero] at g1 g2 g3
 refine ⟨g1,?_,g3⟩
 unfold stB
 generalize (stF b.length b).length=n at *
 rcases Nat.lt_or_ge 4 n with h|h
 ·have:5 * 65535≤n * 65535:=Nat.mul_le_mul_right 65535 h
  omega
 ·exact h
theorem holds_flat {w:World} {CS L:List Chunk}:Holds w (CS.flatten::L)↔Holds w (CS++L):=by
 simp [Holds,List.flatten_append]
omit [W0] in
theorem flat_mem {A CS S:List Chunk} (h:∀x∈A.flatten,x∈(CS++S).flatten):∀x∈A.flatten,x∈(CS.flatten::S).flatten:=fun x hx=>by
 have:=h x hx
 rwa [List.flatten_append] at this
theorem blocksOf_n (v:Value) (level:Int) (b:List UInt8) (S L:List Chunk) (hi:Inc S L) (ht:Rs S 1 v b.length (bsv b)) (hb:b.length≤200000) (hor:OrAt L) :
 Gv Tryz.prog 75 [v,.int .i64 level].toArray L (fun r L'=>∃bs C,BlsR (C::S) r bs∧0 < bs.length∧bs.length≤4∧BlC b 0 bs b.length∧(1 < level→szB 0 bs≤szB 0 (stB b)∧szB 0 bs≤szB 0 [.fx (pcT b)])∧L'=C::L):=by
 refine Gv.of_body (args:=[v,.int .i64 level]) Tryz.func75 rfl rfl ?_
 have hst:=stB_c b hb
 (repeat' first|refine kW ?_|refine kU fun bk=>?_|refine kV fun hc=>?_|refine kZ (fun hc=>?_) fun hc=>?_|fail)
 ·refine cC rfl rfl (storedOf_n v b S _ ht hb) (fun r L' hp=>?_)
  obtain ⟨C,hbo,rfl⟩:=hp
  refine kW ?_
  refine kR ?_
  exact ⟨_,iC,stB b,C,hbo.r,hst.2.2,hst.2.1,hst.1,fun h=>absurd h (by omega),rfl⟩
 ·refine cC rfl rfl (pieceOf_n v b S _ hi ht hb) (fun r L' hp=>?_)
  obtain ⟨vt,Cp,rfl,hpc,rfl⟩:=hp
  obtain ⟨va,vc,rfl,_⟩:=hpc.x.room
  obtain ⟨ta,tc,rfl,_⟩:=hpc.t.rs.room
  (refine kW ?_;refine kU fun bk=>?_;refine kW ?_)
  refine cC rfl rfl (fixedOf_n (.slice va b.length vc) (.slice ta (pcT b).length tc) b (pcT b) (Cp::S) _ (Inc.cons (by repeat (first|exact Take.here|apply Take.there)) (by repeat (first|exact hi|refine Inc.skip ?_))) hpc) (fun r L' hp=>?_)
  obtain ⟨v1,v2,v3,v4,Cf,rfl,hcf,rfl⟩:=hp
  refine kW ?_
  refine OW_buildSlice (cs:=[Value.iface 186 (.agg (cdV (.slice ta (pcT b).length tc) v1 v2 v3 v4 (itL (coI fxL fxD (pcT b)))).toArray)]) rfl (by rfl) (by first|(simp [fillL,patch,Value.cells,zeros];done)|(simp [fillL,patch,Value.cells,zeros];rfl)) (by omega) rfl rfl (fun bn=>?_)
  refine jA ?_
  have hfb:BlkR (Cf::Cp::S) (Value.iface 186 (.agg (cdV (.slice ta (pcT b).length tc) v1 v2 v3 v4 (itL (coI fxL fxD (pcT b)))).toArray)) (.fx (pcT b)):=⟨_,_,_,_,_,rfl,hcf⟩
  have how:BlsO (Cf::Cp::S) (.slice (some ⟨bn,0,none⟩) 1 1) [.fx (pcT b)] [(bn,cl [Value.iface 186 (.agg (cdV (.slice ta (pcT b).length tc) v1 v2 v3 v4 (itL (coI fxL fxD (pcT b)))).toArray)] 173)]:=
   ⟨_,.inr ⟨bn,1,[],rfl,by rw [List.append_nil],rfl,rfl,Nat.le_refl _,by simp [maxLen]⟩,rfl,fun i B hiB=>by
     match i,hiB with
     |0,hiB=>injection hiB with hiB;subst hiB;exact ⟨_,rfl,hfb⟩
     |i+1,hiB=>simp at hiB⟩
  generalize hfx:Value.iface 186 (.agg (cdV (.slice ta (pcT b).length tc) v1 v2 v3 v4 (itL (coI fxL fxD (pcT b)))).toArray)=fx at *
  (repeat' first|refine kW ?_|refine kU fun bk=>?_|refine kV fun hc=>?_|refine kZ (fun hc=>?_) fun hc=>?_|fail)
  ·have hl1:level=1:=by simpa using hc
   refine kH ?_
   obtain ⟨bc,hbc⟩:∃x,x=([(bn,cl [fx] 173)]:Chunk):=⟨_,rfl⟩
   rw [←hbc] at how ⊢
   refine ⟨[bc,Cf,Cp].flatten::L,fun w h=>?_,?_⟩
   ·exact holds_flat.2 (iH h:Holds w (bc::Cf::Cp::L))
   exact ⟨[.fx (pcT b)],[bc,Cf,Cp].flatten,how.r.sub (flat_mem fun x hx=>hx),by simp,by simp,⟨b.length,Nat.zero_le _,Nat.le_refl _,pcT_tks b,rfl⟩,fun h=>absurd h (by omega),rfl⟩
  ·refine cC rfl rfl (mixed_n (.slice va b.length vc) (.slice ta (pcT b).length tc) b (pcT b) (Cp::S) _ (Inc.cons (by repeat (first|exact Take.here|apply Take.there)) (by repeat (first|exact hi|refine Inc.skip ?_))) hpc (pcT_tks b) (by repeat (first|exact hor|apply OrAt.there))) (fun r L' hp=>?_)
   obtain ⟨bsm,Cm,Tm,hbm,hm0,hm4,hmc,rfl⟩:=hp
   refine kW ?_
   refine cC rfl rfl (storedOf_n (.slice va b.length vc) b S _ ht hb) (fun r2 L' hp=>?_)
   obtain ⟨Cs,hbs,rfl⟩:=hp
   obtain ⟨vm,hvm1,hvm2⟩:=hbm.ex
   obtain ⟨ma,mc,rfl⟩:=ow_slc hvm1
   obtain ⟨vst,hvs1,hvs2⟩:=hbs.ex
   obtain ⟨sa,sc9,rfl⟩:=ow_slc hvs1
   refine kW ?_
   refine OW_buildSlice (cs:=[.slice ma bsm.length mc,.slice (some ⟨bn,0,none⟩) 1 1,.slice sa (stB b).length sc9]) rfl (by rfl) (by first|(simp [fillL,patch,Value.cells,zeros];done)|(simp [fillL,patch,Value.cells,zeros];rfl)) (by omega) rfl rfl (fun b3=>?_)
   refine jA ?_
   obtain ⟨bc,hbc⟩:∃x,x=([(bn,cl [fx] 173)]:Chunk):=⟨_,rfl⟩
   rw [←hbc] at how ⊢
   have hu:Ow 113 1 (.slice (some ⟨b3,0,none⟩) 3 3) 3 [.slice ma bsm.length mc,.slice (some ⟨bn,0,none⟩) 1 1,.slice sa (stB b).length sc9] [(b3,cl [.slice ma bsm.length mc,.slice (some ⟨bn,0,none⟩) 1 1,.slice sa (stB b).length sc9] 113)]:=.inr ⟨b3,3,[],rfl,by rw [List.append_nil],rfl,rfl,Nat.le_refl _,by simp [maxLen]⟩
   have hall:∀H,(∀x∈(Cm::Tm::Cp::S).flatten,x∈H.flatten)→(∀x∈(bc::Cf::Cp::S).flatten,x∈H.flatten)→(∀x∈(Cs::S).flatten,x∈H.flatten)→∀(i:Nat) (u:Value),[Value.slice ma bsm.length mc,.slice (some ⟨bn,0,none⟩) 1 1,.slice sa (stB b).length sc9][i]? =some u→BlsR H u ([bsm,[.fx (pcT b)],stB b].getD i [])∧([bsm,[.fx (pcT b)],stB b].getD i []).length≤90000∧([bsm,[.fx (pcT b)],stB b].getD i []).length≤4∧0 < ([bsm,[.fx (pcT b)],stB b].getD i []).length∧BlC b 0 ([bsm,[.fx (pcT b)],stB b].getD i []) b.length:=fun H h1 h2 h3 i u hiu=>by
    match i,hiu with
    |0,hiu=>injection hiu with hiu;subst hiu;exact ⟨hbm.r.sub h1,Nat.le_trans hm4 (by decide),hm4,hm0,hmc⟩
    |1,hiu=>injection hiu with hiu;subst hiu;exact ⟨how.r.sub h2,(show (1:Nat)≤90000 from by decide),(show (1:Nat)≤4 from by decide),(show (0:Nat) < 1 from by decide),b.length,Nat.zero_le _,Nat.le_refl _,pcT_tks b,rfl⟩
    |2,hiu=>injection hiu with hiu;subst hiu;exact ⟨hbs.r.sub h3,Nat.le_trans hst.2.1 (by decide),hst.2.1,hst.2.2,hst.1⟩
    |i+3,hiu=>simp at hiu
   refine OW_call rfl rfl rfl (shortest_n _ [.slice ma bsm.length mc,.slice (some ⟨bn,0,none⟩) 1 1,.slice sa (stB b).length sc9] [bsm,[.fx (pcT b)],stB b] _ ((Rs.ow (L:=[]) hu).sub iM) (show (0:Nat) < 3 from by decide) (show (3:Nat)≤1000000 from by decide) rfl (fun i u hiu=>by
    refine ⟨(hall _ ?_ ?_ ?_ i u hiu).1,(hall (Cm::Tm::Cs::bc::Cf::Cp::S) iM iM iM i u hiu).2.1⟩
    ·exact Inc.mem (Inc.cons (by repeat (first|exact Take.here|apply Take.there)) (Inc.cons (by repeat (first|exact Take.here|apply Take.there)) (Inc.cons (by repeat (first|exact Take.here|apply Take.there)) (by repeat (first|exact hi|refine Inc.skip ?_)))))
    ·exact Inc.mem (Inc.cons (by repeat (first|exact Take.here|apply Take.there)) (Inc.cons (by repeat (first|exact Take.here|apply Take.there)) (Inc.cons (by repeat (first|exact Take.here|apply Take.there)) (by repeat (first|exact hi|refine Inc.skip ?_)))))
    ·exact Inc.mem (Inc.cons (by repeat (first|exact Take.here|apply Take.there)) (by repeat (first|exact hi|refine Inc.skip ?_))))) rfl (fun r L' hp=>?_)
   obtain ⟨i9,hi9,hle9,rfl⟩:=hp
   have hfin:=hall ([Cm,Tm,Cs,bc,Cf,Cp].flatten::S) (flat_mem (S:=S) (A:=Cm::Tm::Cp::S) (CS:=[Cm,Tm,Cs,bc,Cf,Cp]) (show ∀x∈(Cm::Tm::Cp::S).flatten,x∈(Cm::Tm::Cs::bc::Cf::Cp::S).flatten from iM)) (flat_mem (S:=S) (A:=bc::Cf::Cp::S) (CS:=[Cm,Tm,Cs,bc,Cf,Cp]) (show ∀x∈(bc::Cf::Cp::S).flatten,x∈(Cm::Tm::Cs::bc::Cf::Cp::S).flatten from iM)) (flat_mem (S:=S) (A:=Cs::S) (CS:=[Cm,Tm,Cs,bc,Cf,Cp]) (show ∀x∈(Cs::S).flatten,x∈(Cm::Tm::Cs::bc::Cf::Cp::S).flatten from iM)) i9 r hi9
   have hs0:=hle9 1 (show (1:Nat) < 3 from by decide)
   have hs1:=hle9 2 (show (2:Nat) < 3 from by decide)
   refine kW ?_
   refine kH ?_
   refine ⟨[Cm,Tm,Cs,bc,Cf,Cp].flatten::L,fun w h=>?_,?_⟩
   ·exact holds_flat.2 (iH h:Holds w (Cm::Tm::Cs::bc::Cf::Cp::L))
   exact ⟨_,_,hfin.1,hfin.2.2.2.1,hfin.2.2.1,hfin.2.2.2.2,fun _=>⟨hs1,hs0⟩,rfl⟩
end Go.Proofs.YtemdlifojcgplaaGreatDoor
