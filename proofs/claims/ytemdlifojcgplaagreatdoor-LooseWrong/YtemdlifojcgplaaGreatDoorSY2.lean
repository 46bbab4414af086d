/- Contracts and facts on the way to the top. It proves no statement by itself. No conditions. -/
import Derived.Test.YtemdlifojcgplaaGreatDoorSY1
set_option maxHeartbeats 16000000
namespace Go.Vx
open Go
set_option linter.all false
variable [W0]
omit [W0] in
def FrOk (fr:Nat × Nat) (n:Nat):Prop:=∀j,j < n→¬(fr.1≤j∧j < fr.2)
theorem FrOk.zero (n:Nat):FrOk (0,0) n:=fun j _ h=>by simp at h
theorem FrOk.behind (n:Nat):FrOk (n,n+1) n:=fun j hj h=>by simp at h;omega
omit [W0] in
def OwF (e k:Nat) (v:Value) (m:Nat) (xs:List Value) (C:Chunk):Prop:=
 ∃b cap rest fr,v=.slice (some ⟨b,0,none⟩) m cap∧C=[(b,.cells (xs++rest).toArray e fr)]∧xs.length=m * k∧rest.length=(cap - m) * k∧m≤cap∧cap≤maxLen∧FrOk fr (xs++rest).length
theorem owf_sl {e k m:Nat} {v:Value} {xs:List Value} {C:Chunk} {L:List Chunk} (h:OwF e k v m xs C):Sl (C::L) k v m xs:=by
 obtain ⟨b,cap,rest,fr,rfl,rfl,hxl,hrl,hmc,hcm,hfr⟩:=h
 exact .inr ⟨_,_,rfl,.inr ⟨b,0,_,_,_,rfl,.here,fun j u hj=>by rw [Nat.zero_add];simpa using getE_app hj⟩,hxl⟩
theorem setCells_at {b:Nat} {T:TypeId} {fr:Nat × Nat}:∀(vs:List Value) (off:Nat) (c:Array Value) (w:World),w.heap[b]? =some (.cells c T fr)→off+vs.length≤c.size→
 (w.setCells b off vs).heap[b]? =some (.cells (patch c.toList off vs).toArray T fr)
 |[],off,c,w,h,_=>by simpa [World.setCells,patch] using h
 |v::r,off,c,w,h,hf=>by
  simp only [List.length_cons] at hf
  have h1:=setCell_at (off:=off) (v:=v) h
  have h2:=setCells_at r (off+1) _ _ h1 (by simp;omega)
  rw [World.setCells,h2]
  congr 2
  have e:=list_seg_step c.toList off v r (by simp;omega)
  simpa [patch,Array.toList_setIfInBounds,Nat.add_assoc,Nat.add_comm 1] using e
theorem setCells_ne {b:Nat}:∀(vs:List Value) (off:Nat) (w:World) (c:Nat),c≠b→(w.setCells b off vs).heap[c]? =w.heap[c]?
 |[],_,_,_,_=>rfl
 |v::r,off,w,c,h=>by
  rw [World.setCells,setCells_ne r _ _ _ h,setCell_ne h]
theorem setCells_out {b:Nat}:∀(vs:List Value) (off:Nat) (w:World),(w.setCells b off vs).os=w.os∧(w.setCells b off vs).output=w.output
 |[],_,_=>⟨rfl,rfl⟩
 |v::r,off,w=>by rw [World.setCells];exact setCells_out r _ _
section
variable {P : Program} {n : Nat} {M : List (Nat × Value)} {L : List Chunk} {K : List (Nat × Value) → List Chunk → Prop}
variable {d : Nat} {ty : TypeId} {ps : String} {af : Array Edge} {g : Option (Nat × Bool)} {x y : Operand} {v : Value}
theorem bytesRow_eq {s:ByteArray} {cap:Nat}:bytesRow s cap=(bsv s.data.toList++List.replicate (cap - s.size) (Value.int .u8 0)).toArray:=by
 apply Array.ext'
 simp [bytesRow,bsv]
theorem OW_convBytes {s t e by_:Nat} [hs:ST P s] [ht:SL P t e 1 by_] [he:IK P e .u8] {str:ByteArray} (hx:ev M x=some (.string str)) (hm:str.size≤maxLen) (hn:Nat.blt d n=true)
 (h:∀v C,OwF e 1 v str.size (bsv str.data.toList) C→K ((d,v)::M) (C::L)):OW P n ⟨some d,.convert s t x,ty,ps,af,g⟩ K M L:=⟨fun a w next Q ha hw hk=>by
 have hr:=run_bytes_of_string (P:=P) w s t e str hs.out (slcOf_und ht.out) he.out
 have hrun:(execOp a.eval ⟨some d,.convert s t x,ty,ps,af,g⟩).run P w=.ok (.value (.slice (some ⟨w.heap.size,0,none⟩) str.size (grownCap w str.size 0 e)))
  (w.drew.alloc (.cells (bytesRow str (grownCap w str.size 0 e)) e ((bytesRow str (grownCap w str.size 0 e)).size,(bytesRow str (grownCap w str.size 0 e)).size+1))):=by
  simp only [execOp,Sem.run_bind,ha.eval hx,hr,Result.andThen_ok,Sem.run_pure]
 unfold Oper.wp
 rw [hrun,Oper.upon_value]
 have hH:=(hw.same (w':=w.drew) rfl rfl rfl).alloc (.cells (bytesRow str (grownCap w str.size 0 e)) e ((bytesRow str (grownCap w str.size 0 e)).size,(bytesRow str (grownCap w str.size 0 e)).size+1))
 rw [bytesRow_eq] at hH ⊢
 have hge:=grownCap_ge w str.size 0 e
 refine (hk _ _ (h _ _ ⟨w.heap.size,grownCap w str.size 0 e,List.replicate (grownCap w str.size 0 e - str.size) (Value.int .u8 0),(_,_),rfl,rfl,?_,by simp,hge,grownCap_le_maxLen w str.size 0 e hm,?_⟩)).out _ _ (ha.put _ hn) hH
 ·rw [bsv_length,Nat.mul_one];rfl
 ·simp only [List.size_toArray]
  exact FrOk.behind _⟩
theorem OW_appendF {t e k by_:Nat} [hs:SL P t e k by_] {z:Value} [hz:ZV P e z] {v r:Value} {m c:Nat} {xs ys:List Value} {C:Chunk} {A B:List Chunk} (hx:ev M x=some v) (hy:ev M y=some r) (hown:OwF e k v m xs C)
 (hsl:Sl L k r c ys) (hzip:Zip C L A B) (hzk:z.cells.size=k) (h1:ones ys=true) (hb:(m+c) * by_≤140737488355328) (h63:m+c≤maxLen)
 (hn:Nat.blt d n=true) (h:∀v' C',OwF e k v' (m+c) (xs++ys) C'→K ((d,v')::M) (A++C'::B)) :
 OW P n ⟨some d,.call ⟨.builtin .append,#[x,y],#[t,t]⟩,ty,ps,af,g⟩ K M L:=⟨fun a w next Q ha hw0 hk=>by
 have hL:=hzip.eq
 subst hL
 have hw:=hw0.perm List.perm_middle
 replace hsl:=hsl.perm (List.perm_middle (a:=C) (l₁:=A) (l₂:=B))
 obtain ⟨ht,i,hi,hik,hib,hk0⟩:=hs.parts
 have hzz:i.zero=some z:=by have:=hz.out;rw [hi] at this;simpa using this
 subst hik hib
 have hsmall:m+c≤9223372036854775807:=by simpa [maxLen] using h63
 obtain ⟨b,cap,rest,fr,rfl,rfl,hxl,hrl,hmc,hcm,hfr⟩:=hown
 have main:∃v' C' w',(Builtin.append_ #[t,t] ty #[.slice (some ⟨b,0,none⟩) m cap,r]).run P w=.ok v' w'∧OwF e i.size v' (m+c) (xs++ys) C'∧Holds w' (C'::(A++B)):=by
  have hfnd:w.heap[b]? =some (.cells (xs++rest).toArray e fr):=(Fnd.here:Fnd ([(b,.cells (xs++rest).toArray e fr)]::(A++B)) b _).get hw
  rcases hsl with ⟨c',rfl,rfl,rfl⟩|⟨a',c',rfl,hrd,hyl⟩
  ·refine ⟨.slice (some ⟨b,0,none⟩) m cap,_,w,?_,⟨b,cap,rest,fr,by simp,rfl,by simpa using hxl,by simpa using hrl,by simpa using hmc,hcm,by simpa using hfr⟩,by simpa using hw⟩
   simp [Builtin.append_,run_underlying ht,sizeOf,typeInfo,hi,Builtin.lenOf,Builtin.firstCells,hmc,storeCells]
  ·by_cases hroom:m+c≤cap
   ·have hlen:m * i.size+ys.length≤(xs++rest).length:=by
     simp only [List.length_append,hxl,hrl,hyl,←Nat.add_mul]
     exact Nat.mul_le_mul_right _ (by omega)
    have hr:=run_append_room_cells (P:=P) (w:=w) t ty e i ht hi b 0 m cap a' c c' ys hyl (hrd.cells hw) (ones_mem h1) hroom
     (fun j hj=>by rw [cell_of hfnd];simp;simp at hlen;omega)
     (fun j hj=>by
       have:=hfr (0+m * i.size+j) (by omega)
       simp only [World.frozen?,hfnd]
       cases hd:(decide (fr.1≤0+m * i.size+j)&&decide (0+m * i.size+j < fr.2)) with
       |false=>rfl
       |true=>simp at hd;exact absurd (by simpa using hd) this)
    rw [Nat.zero_add] at hr
    have hx1:patch (xs++rest).toArray.toList (m * i.size) ys=(xs++ys)++rest.drop ys.length:=by
     simp only [List.toList_toArray,patch]
     rw [←hxl,List.take_left]
     congr 1
     rw [List.drop_append]
     simp
    have hat:=setCells_at (T:=e) (fr:=fr) ys (m * i.size) _ w hfnd (by simpa using hlen)
    rw [hx1] at hat
    refine ⟨_,[(b,.cells ((xs++ys)++rest.drop ys.length).toArray e fr)],_,hr,⟨b,cap,rest.drop ys.length,fr,rfl,rfl,?_,?_,hroom,hcm,?_⟩,?_⟩
    ·rw [List.length_append,hxl,hyl,Nat.add_mul]
    ·rw [List.length_drop,hrl,hyl,←Nat.sub_mul];congr 1;omega
    ·intro j hj
     refine hfr j ?_
     simp at hj hlen ⊢
     omega
    ·exact hw.upd .here hat (fun q hq=>setCells_ne _ _ _ _ hq) (setCells_out _ _ _).1 (setCells_out _ _ _).2
   ·have hrd0:RdAt ([(b,.cells (xs++rest).toArray e fr)]::(A++B)) ⟨b,0,none⟩ xs:=.inr ⟨b,0,_,_,_,rfl,.here,fun j u hj=>by rw [Nat.zero_add];simpa using getE_app hj⟩
    have hr:=run_append_grow (P:=P) w t ty e i z ht hi hzz ⟨b,0,none⟩ m cap xs hxl (hrd0.cells hw) a' c c' ys hyl (hrd.cells hw) (by omega) (by omega) (growslice_fits (by omega) hb)
    refine ⟨_,[(w.heap.size,.cells ((xs++ys)++(Builtin.zeroCells z.cells (grownCap w (m+c) cap e - (m+c))).toList).toArray e (0,0))],_,hr,⟨w.heap.size,_,_,(0,0),rfl,rfl,?_,?_,grownCap_ge w (m+c) cap e,grownCap_le_maxLen w (m+c) cap e h63,FrOk.zero _⟩,?_⟩
    ·rw [List.length_append,hxl,hyl,Nat.add_mul]
    ·simp [size_zeroCells,hzk]
    ·have h0:=(hw.drop.same (w':=w.drew) rfl rfl rfl).alloc (.cells (xs.toArray++ys.toArray++Builtin.zeroCells z.cells (grownCap w (m+c) cap e - (m+c))) e)
     have e1:(xs++ys++(Builtin.zeroCells z.cells (grownCap w (m+c) cap e - (m+c))).toList).toArray=xs.toArray++ys.toArray++Builtin.zeroCells z.cells (grownCap w (m+c) cap e - (m+c)):=by
      apply Array.ext';simp
     rw [e1];exact h0
 obtain ⟨v',C',w',hr,ho,hw'⟩:=main
 unfold Oper.wp
 have hrun:(execOp a.eval ⟨some d,.call ⟨.builtin .append,#[x,y],#[t,t]⟩,ty,ps,af,g⟩).run P w=.ok (.value v') w':=by
  simp only [execOp,resolve,invoke,builtin,Sem.run_bind,Sem.run_pure,Result.andThen_ok,List.map_toArray,List.map_cons,List.map_nil,ha.eval hx,ha.eval hy,hr]
 rw [hrun,Oper.upon_value]
 exact (hk _ _ (h v' C' ho)).out _ _ (ha.put v' hn) (hw'.perm List.perm_middle.symm)⟩
end
end Go.Vx
namespace Go.Proofs.YtemdlifojcgplaaGreatDoor
open Go Go.Vx
variable [W0]
set_option maxRecDepth 4000
set_option linter.all false
omit [W0] in
def str (t:List UInt8):ByteArray:=⟨t.toArray⟩
theorem str_size (t:List UInt8):(str t).size=t.length:=rfl
theorem str_get {t:List UInt8} {k:Nat} (h:k < t.length):(str t)[k]? =some (t.getD k 0):=by
 show (str t).data[k]? =_
 simp [str,List.getD,h]
theorem str_data (t:List UInt8):(str t).data.toList=t:=rfl
theorem sl_word {L:List Chunk} {v:Value} {m k:Nat} {ws:List (BitVec 32)} (h:Sl L 1 v m (wsv ws)) (hk:k < m) :
 ∃bb off cap c T fr,v=.slice (some ⟨bb,off,none⟩) m cap∧Fnd L bb (.cells c T fr)∧c[off+k * 1]? =some (w32 (ws.getD k 0)):=by
 rcases h with ⟨c,rfl,rfl,h0⟩|⟨a,cap,rfl,hr,hl⟩
 ·omega
 ·have hlt:k < ws.length:=by rw [wsv_length] at hl;omega
  have hg:(wsv ws)[k]? =some (w32 (ws.getD k 0)):=wsv_get (by simp [List.getD,hlt])
  rcases hr with h0|⟨b,off,c,T,fr,rfl,h1,h2⟩
  ·rw [h0] at hg;simp at hg
  ·exact ⟨b,off,cap,c,T,fr,rfl,h1,by rw [Nat.mul_one];exact h2 _ _ hg⟩
theorem words_n (ws:List (BitVec 32)) (v:Value) (L:List Chunk) (hlen:ws.length≤1000) (hv:SlC L 1 v ws.length (wsv ws)) :
 Gv Tryz.prog 41 [v].toArray L (fun r L'=>∃C,L'=C::L∧Ow 5 1 r (4 * ws.length) (bsv (wbs ws)) C):=by
 refine Gv.of_body Tryz.func41 rfl rfl ?_
 obtain ⟨a,c,rfl,hmc⟩:=hv.room
 refine kX ?_
 refine WC_holds' (L':=[]::L) (fun w h=>Holds.nil.2 h) ?_
 refine WC_loop (X:=Nat × Value × Chunk) (fun x=>[(0,.slice a ws.length c),(3,x.2.1),(4,.int .i64 (x.1:Int))])
  (fun x=>x.2.2::L) (fun x=>x.1≤ws.length∧Ow 5 1 x.2.1 (4 * x.1) (bsv (wbs (ws.take x.1))) x.2.2) (fun x=>ws.length - x.1) (0,.slice none 0 0,[]) ⟨Nat.zero_le _,.inl ⟨rfl,rfl,rfl,rfl⟩⟩ iS (fun w h=>h) ?_
 intro x ⟨hx1,hx2⟩
 obtain ⟨k,s,C⟩:=x
 simp only at hx1 hx2 ⊢
 (repeat' first|refine kX ?_|refine kU fun bk=>?_|refine kV fun hc=>?_|refine kZ (fun hc=>?_) fun hc=>?_|fail)
 ·have hlt:k < ws.length:=by omega
  obtain ⟨bb,off,cap,cc,bT,bfr,hve,hfn,hcell⟩:=sl_word hv.sl hlt
  injection hve with e1 e2 e3
  subst e1 e3
  clear e2
  obtain ⟨w,hw⟩:∃w,w=ws.getD k 0:=⟨_,rfl⟩
  rw [←hw] at hcell
  refine WC_drawAll [25,26] mixed ?_
  (refine WR_w 0 ?_;refine WR_w 1 ?_;refine WR_w 2 ?_;refine WR_w 3 ?_)
  refine cT 4 rfl rfl (EV_load rfl hfn.there hcell) ?_
  (refine WR_w 5 ?_;refine WR_w 6 ?_;refine WR_w 7 ?_;refine WR_w 8 ?_;refine WR_w 9 ?_)
  refine cT 10 rfl rfl (EV_load rfl hfn.there hcell) ?_
  (refine WR_w 11 ?_;refine WR_w 12 ?_;refine WR_w 13 ?_;refine WR_w 14 ?_;refine WR_w 15 ?_)
  refine cT 16 rfl rfl (EV_load rfl hfn.there hcell) ?_
  (refine WR_w 17 ?_;refine WR_w 18 ?_;refine WR_w 19 ?_;refine WR_w 20 ?_;refine WR_w 21 ?_)
  refine cT 22 rfl rfl (EV_load rfl hfn.there hcell) ?_
  (refine WR_w 23 ?_)
  refine cI 24 rfl rfl ?_
  refine OW_buildSlice (cs:=bsv (wb w)) rfl (by rfl) (by simp [fillL,patch,Value.cells,zeros];rfl) (by omega) rfl rfl (fun bk=>?_)
  refine ⟨iC,?_⟩
  refine cL 25 rfl rfl rfl ?_
  refine OW_append rfl rfl hx2 (sl_cells (c:=(bsv (wb w)).toArray) (xs:=bsv (wb w)) (m:=4) Fnd.here rfl (by simp)) (by repeat (first|exact Zip.here _|apply Zip.there)) (by rfl) bsv_ones (by omega) (by simp [maxLen];omega) rfl (fun v' C' ho1 h1 h2=>?_)
  refine cL 26 rfl rfl rfl ?_
  refine OW_W ?_
  refine cD ?_
  refine kX ?_
  have e:wbs (ws.take (k+1))=wbs (ws.take k)++wb w:=by
   rw [take_succ 0 hlt,wbs_append,←hw];simp [wbs]
  rw [←bsv_append,←e] at ho1
  refine WQ_round (X:=Nat × Value × Chunk) (μ:=fun x=>ws.length - x.1) (x:=(k,s,C)) (k+1,v',C') (by simp only;omega) ⟨by simp only;omega,ho1⟩ iS (fun w h=>iH h)
 ·have hk:k=ws.length:=by omega
  subst hk
  rw [List.take_length] at hx2
  refine kR ?_
  exact ⟨C::L,iC,C,rfl,hx2⟩
theorem owf_slc {e k m:Nat} {v:Value} {xs:List Value} {C:Chunk} (h:OwF e k v m xs C):∃b c,v=.slice (some ⟨b,0,none⟩) m c:=by
 obtain ⟨b,cap,rest,fr,rfl,_⟩:=h
 exact ⟨_,_,rfl⟩
theorem blk_get {m:List UInt8} {k j:Nat} (hj:j < 64):((m.drop (64 * k)).take 64).getD j 0=m.getD (64 * k+j) 0:=by
 simp only [List.getD,List.getElem?_take,hj,if_true,List.getElem?_drop]
omit [W0] in
def hcs (h:H5):List Value:=[w32 h.a,w32 h.b,w32 h.c,w32 h.d,w32 h.e]
theorem kind_eq (k:Nat) (a b c d e w:BitVec 32) (f:BitVec 32) (q:BitVec 32) (h:kindF k b c d=f+q):rol a 5+f+e+q+w=rol a 5+kindF k b c d+e+w:=by
 rw [h]
 ac_rfl
theorem refsha_n (t:List UInt8) (L:List Chunk) (hlen:t.length≤140737488351232) :
 Gv Tryz.prog 19 [.string (str t)].toArray L (fun r L'=>∃C,L'=C::L∧Ow 5 1 r 20 (bsv (shaN t)) C):=by
 refine Gv.of_body Tryz.func19 rfl rfl ?_
 have hsz:(str t).size=t.length:=rfl
 refine kX ?_
 rw [hsz]
 refine OW_EV (EV_ari rfl rfl rfl) rfl ?_
 rw [wrap_u64 (by omega) (by omega)]
 obtain ⟨n,hn⟩:∃n,n=t.length:=⟨_,rfl⟩
 obtain ⟨z,hz⟩:∃z,z=(119 - n % 64) % 64:=⟨_,rfl⟩
 rw [←hn] at hlen hsz ⊢
 refine kX ?_
 refine OW_convBytes rfl (by rw [hsz];simp [maxLen];omega) rfl (fun v0 C0 ho0=>?_)
 rw [str_data,hsz] at ho0
 refine kX ?_
 refine OW_buildSlice (cs:=bsv [128]) rfl (by rfl) (by simp [fillL,patch,Value.cells,zeros];rfl) (by omega) rfl rfl (fun bk=>?_)
 refine kX ?_
 refine OW_appendF rfl rfl ho0 (sl_cells (c:=(bsv [128]).toArray) (xs:=bsv [128]) (m:=1) Fnd.here rfl (by simp)) (by repeat (first|exact Zip.here _|apply Zip.there)) (by rfl) bsv_ones (by omega) (by simp [maxLen];omega) rfl (fun v1 C1 ho1=>?_)
 rw [←bsv_append] at ho1
 refine kX ?_
 refine WC_loop (X:=Nat × Value × Chunk) (fun x=>[(0,.string (str t)),(3,.int .u64 ((n:Int) * 8)),(4,x.2.1)])
  (fun x=>x.2.2::L) (fun x=>x.1≤z∧OwF 5 1 x.2.1 (n+1+x.1) (bsv (t++[128]++List.replicate x.1 0)) x.2.2) (fun x=>z - x.1) (0,v1,C1) ⟨Nat.zero_le _,by simpa using ho1⟩ iS (fun w h=>iH h) ?_
 clear ho1 ho0
 intro x ⟨hx1,hx2⟩
 obtain ⟨j,v,C⟩:=x
 simp only at hx1 hx2 ⊢
 obtain ⟨bb,cap,rfl⟩:=owf_slc hx2
 refine kX ?_
 refine OW_EV (EV_rem rfl rfl (by decide)) rfl ?_
 rw [show ((n+1+j:Nat):Int).tmod 64=(((n+1+j) % 64:Nat):Int) from by rw [Int.tmod_eq_emod_of_nonneg (by omega)];omega]
 (repeat' first|refine kX ?_|refine kU fun bk=>?_|refine kV fun hc=>?_|refine kZ (fun hc=>?_) fun hc=>?_|fail)
 ·have hj:j < z:=by omega
  refine OW_buildSlice (cs:=bsv [0]) rfl (by rfl) (by simp [fillL,patch,Value.cells,zeros];rfl) (by omega) rfl rfl (fun bk=>?_)
  refine kX ?_
  refine OW_appendF rfl rfl hx2 (sl_cells (c:=(bsv [0]).toArray) (xs:=bsv [0]) (m:=1) Fnd.here rfl (by simp)) (by repeat (first|exact Zip.here _|apply Zip.there)) (by rfl) bsv_ones (by omega) (by simp [maxLen];omega) rfl (fun v1 C1 ho1=>?_)
  rw [←bsv_append,List.append_assoc,←List.replicate_succ' (n:=j)] at ho1
  refine kX ?_
  refine WQ_round (X:=Nat × Value × Chunk) (μ:=fun x=>z - x.1) (x:=(j,.slice (some ⟨bb,0,none⟩) (n+1+j) cap,C)) (j+1,v1,C1) (by simp only;omega) ⟨by simp only;omega,ho1⟩ iS (fun w h=>iH h)
 ·have hj:j=z:=by omega
  subst hj
  have e2:BitVec.ofInt 32 ((n:Int) * 8 / 4294967296)=hiW n:=by
   apply BitVec.eq_of_toNat_eq
   rw [BitVec.toNat_ofInt,hiW,BitVec.toNat_ofNat]
   omega
  have e3:BitVec.ofInt 32 ((n:Int) * 8)=loW n:=by
   apply BitVec.eq_of_toNat_eq
   rw [BitVec.toNat_ofInt,loW,BitVec.toNat_ofNat]
   omega
  rw [e2,e3]
  refine OW_buildSlice (cs:=wsv [hiW n,loW n]) rfl (by rfl) (by simp [fillL,patch,Value.cells,zeros];rfl) (by omega) rfl rfl (fun bk2=>?_)
  refine kX ?_
  refine cC rfl rfl (words_n [hiW n,loW n] _ _ (by simp) ⟨sl_cells (c:=(wsv [hiW n,loW n]).toArray) (m:=2) Fnd.here rfl (by simp),_,_,rfl,Nat.le_refl _⟩) (fun r L' hp=>?_)
  obtain ⟨C2,rfl,ho2⟩:=hp
  refine kX ?_
  refine OW_appendF rfl rfl hx2 (ow_sl ho2) (by repeat (first|exact Zip.here _|apply Zip.there)) (by rfl) bsv_ones (by simp;omega) (by simp [maxLen];omega) rfl (fun vb Cb hob=>?_)
  have hm:t++[128]++List.replicate j 0++wbs [hiW n,loW n]=t++padOf t.length:=by
   rw [←hn]
   simp [padOf,wbs,←hz]
  rw [←bsv_append,hm] at hob
  have hpl:=padOf_length n
  have hml:(t++padOf t.length).length=n+1+j+4 * [hiW n,loW n].length:=by rw [←hn];simp [hpl];omega
  rw [←hml] at hob
  have hsh:shaN t=wbs (hbs (chainN (t++padOf t.length) ((t++padOf t.length).length / 64))):=rfl
  rw [hsh]
  have hm64:(t++padOf t.length).length % 64=0:=by rw [hml];simp;omega
  have hmb:(t++padOf t.length).length≤140737488355328:=by rw [hml];simp;omega
  generalize t++padOf t.length=m at hob hm64 hmb ⊢
  clear hm hml hsh hpl e2 e3 hc hx1 hx2 hz hn hlen hsz ho2
  obtain ⟨bb,cap,rest,fr,rfl,rfl,hxl,hrl,hmc,hcm,hfr⟩:=hob
  refine kX ?_
  refine OW_buildSlice (cs:=hcs h50) rfl (by rfl) (by simp [fillL,patch,Value.cells,zeros];rfl) (by omega) rfl rfl (fun bh=>?_)
  refine kX ?_
  refine OW_makeSlice (m:=80) (c:=80) rfl rfl (by rfl) (by omega) (by omega) (by omega) rfl (fun bw=>?_)
  refine kX ?_
  have hbyte:∀i,i < m.length→((bsv m++rest).toArray)[i * 1]? =some (.int .u8 ((m.getD i 0).toNat:Int)):=fun i hi=>by
   rw [Nat.mul_one,List.getElem?_toArray,List.getElem?_append_left (by simpa [bsv_length] using hi)]
   exact bsv_get (by simp [List.getD,hi])
  refine WC_loop (X:=Nat × List Value × Nat) (fun x=>[(4,.slice (some ⟨bb,0,none⟩) m.length cap),(5,.slice (some ⟨x.2.2,0,none⟩) 5 5),(6,.slice (some ⟨bw,0,none⟩) 80 80),(7,.int .i64 ((64 * x.1:Nat):Int))])
   (fun x=>[(x.2.2,cl (hcs (chainN m x.1)) 88)]::[(bw,cl x.2.1 88)]::[(bb,.cells (bsv m++rest).toArray 5 fr)]::L)
   (fun x=>64 * x.1≤m.length∧x.2.1.length=80) (fun x=>m.length - 64 * x.1) (0,zeros [.int .u32 0] 80,bh) ⟨Nat.zero_le _,by simp [zeros_length]⟩ iS (fun w h=>iH h) ?_
  intro x ⟨hx1,hx2⟩
  obtain ⟨k,wl,bh⟩:=x
  simp only at hx1 hx2 ⊢
  (repeat' first|refine kX ?_|refine kU fun bk=>?_|refine kV fun hc=>?_|refine kZ (fun hc=>?_) fun hc=>?_|fail)
  ·have hk:64 * k+64≤m.length:=by omega
   obtain ⟨blk,hblk⟩:∃blk,blk=(m.drop (64 * k)).take 64:=⟨_,rfl⟩
   have hbg:∀j,j < 64→m.getD (64 * k+j) 0=blk.getD j 0:=fun j hj=>by rw [hblk,blk_get hj]
   refine WC_loop (X:=Nat × List Value) (fun x=>[(4,.slice (some ⟨bb,0,none⟩) m.length cap),(5,.slice (some ⟨bh,0,none⟩) 5 5),(6,.slice (some ⟨bw,0,none⟩) 80 80),(7,.int .i64 ((64 * k:Nat):Int)),(8,.int .i64 (x.1:Int))])
    (fun x=>[(bh,cl (hcs (chainN m k)) 88)]::[(bw,cl (wsv (sched blk x.1)++x.2) 88)]::[(bb,.cells (bsv m++rest).toArray 5 fr)]::L)
    (fun x=>x.1≤80∧x.2.length=80 - x.1) (fun x=>80 - x.1) (0,wl) ⟨by simp only;omega,hx2⟩ iS (fun w h=>h) ?_
   intro y ⟨hy1,hy2⟩
   clear hx2 wl hc
   obtain ⟨t,wr⟩:=y
   simp only at hy1 hy2 ⊢
   (repeat' first|refine kX ?_|refine kU fun bk=>?_|refine kV fun hc=>?_|refine kZ (fun hc=>?_) fun hc=>?_|fail)
   ·have hfB:Fnd ([(bh,cl (hcs (chainN m k)) 88)]::[(bw,cl (wsv (sched blk t)++wr) 88)]::[(bb,.cells (bsv m++rest).toArray 5 fr)]::L) bb (.cells (bsv m++rest).toArray 5 fr):=Fnd.there (Fnd.there Fnd.here)
    have hb2:∀j,j < 64→((bsv m++rest).toArray)[(64 * k+j) * 1]? =some (.int .u8 ((blk.getD j 0).toNat:Int)):=fun j hj=>by
     rw [←hbg j hj];exact hbyte _ (by omega)
    refine WC_drawAll [32] mixed ?_
    (refine WR_w 0 ?_;refine WR_w 1 ?_;refine WR_w 2 ?_;refine WR_w 3 ?_)
    refine cT 4 rfl rfl (EV_indexAddr0 (j:=64 * k+(4 * t)) rfl rfl (by omega) (by omega)) ?_
    refine cT 5 rfl rfl (EV_load rfl hfB (hb2 (4 * t) (by omega))) ?_
    (refine WR_w 6 ?_;refine WR_w 7 ?_;refine WR_w 8 ?_;refine WR_w 9 ?_;refine WR_w 10 ?_)
    refine cT 11 rfl rfl (EV_indexAddr0 (j:=64 * k+(4 * t+1)) rfl rfl (by omega) (by omega)) ?_
    refine cT 12 rfl rfl (EV_load rfl hfB (hb2 (4 * t+1) (by omega))) ?_
    (refine WR_w 13 ?_;refine WR_w 14 ?_;refine WR_w 15 ?_;refine WR_w 16 ?_;refine WR_w 17 ?_;refine WR_w 18 ?_)
    refine cT 19 rfl rfl (EV_indexAddr0 (j:=64 * k+(4 * t+2)) rfl rfl (by omega) (by omega)) ?_
    refine cT 20 rfl rfl (EV_load rfl hfB (hb2 (4 * t+2) (by omega))) ?_
    (refine WR_w 21 ?_;refine WR_w 22 ?_;refine WR_w 23 ?_;refine WR_w 24 ?_;refine WR_w 25 ?_;refine WR_w 26 ?_)
    refine cT 27 rfl rfl (EV_indexAddr0 (j:=64 * k+(4 * t+3)) rfl rfl (by omega) (by omega)) ?_
    refine cT 28 rfl rfl (EV_load rfl hfB (hb2 (4 * t+3) (by omega))) ?_
    (refine WR_w 29 ?_;refine WR_w 30 ?_;refine WR_w 31 ?_)
    refine cL 32 rfl rfl rfl ?_
    refine OW_storeTo (wsv (sched blk (t+1))++wr.tail) rfl rfl rfl ?_ iU (by simp [wsv_length,sched_length];omega) ?_
    ·rw [Nat.mul_one]
     have:=wsv_put (sched blk t) (schedNext blk (sched blk t)) wr t (sched_length blk t).symm (by omega)
     rw [sched_lo (by omega)] at this
     rw [sched,sched_lo (by omega)]
     exact this
    refine cD ?_
    refine kX ?_
    refine WQ_round (X:=Nat × List Value) (μ:=fun x=>80 - x.1) (x:=(t,wr)) (t+1,wr.tail) (by simp only;omega) ⟨by simp only;omega,by simp;omega⟩ iS (fun w h=>h)
   ·have ld:∀j,0 < j→j≤t→nth (wsv (sched blk t)++wr) ((t - j) * 1)=some (w32 ((sched blk t).getD (t - j) 0)):=fun j h0 hj=>by
     rw [nth_eq,Nat.mul_one]
     exact wsv_app_get _ _ (by rw [sched_length];omega)
    refine WC_drawAll [27] mixed ?_
    (refine WR_w 0 ?_;refine WR_w 1 ?_;refine WR_w 2 ?_;refine WR_w 3 ?_;refine WR_w 4 ?_)
    refine cT 5 rfl rfl (EV_indexAddr0 (j:=t - 3) rfl rfl (by omega) (by omega)) ?_
    refine cT 6 rfl rfl (EV_loadc rfl (Fnd.there Fnd.here) (ld 3 (by omega) (by omega))) ?_
    (refine WR_w 7 ?_;refine WR_w 8 ?_;refine WR_w 9 ?_)
    refine cT 10 rfl rfl (EV_indexAddr0 (j:=t - 8) rfl rfl (by omega) (by omega)) ?_
    refine cT 11 rfl rfl (EV_loadc rfl (Fnd.there Fnd.here) (ld 8 (by omega) (by omega))) ?_
    (refine WR_w 12 ?_;refine WR_w 13 ?_;refine WR_w 14 ?_;refine WR_w 15 ?_)
    refine cT 16 rfl rfl (EV_indexAddr0 (j:=t - 14) rfl rfl (by omega) (by omega)) ?_
    refine cT 17 rfl rfl (EV_loadc rfl (Fnd.there Fnd.here) (ld 14 (by omega) (by omega))) ?_
    (refine WR_w 18 ?_;refine WR_w 19 ?_;refine WR_w 20 ?_;refine WR_w 21 ?_)
    refine cT 22 rfl rfl (EV_indexAddr0 (j:=t - 16) rfl rfl (by omega) (by omega)) ?_
    refine cT 23 rfl rfl (EV_loadc rfl (Fnd.there Fnd.here) (ld 16 (by omega) (by omega))) ?_
    (refine WR_w 24 ?_)
    refine cI 25 rfl rfl ?_
    refine cP rfl rfl (rol_n _ 1 _ (by omega)) ?_
    refine ⟨iC,?_⟩
    (refine WR_w 26 ?_)
    refine cL 27 rfl rfl rfl ?_
    refine OW_storeTo (wsv (sched blk (t+1))++wr.tail) rfl rfl rfl ?_ iU (by simp [wsv_length,sched_length];omega) ?_
    ·rw [Nat.mul_one]
     have:=wsv_put (sched blk t) (schedNext blk (sched blk t)) wr t (sched_length blk t).symm (by omega)
     rw [sched_hi (by omega)] at this
     rw [sched,sched_hi (by omega)]
     exact this
    refine cD ?_
    refine kX ?_
    refine WQ_round (X:=Nat × List Value) (μ:=fun x=>80 - x.1) (x:=(t,wr)) (t+1,wr.tail) (by simp only;omega) ⟨by simp only;omega,by simp;omega⟩ iS (fun w h=>h)
   ·have ht:t=80:=by omega
    subst ht
    have hr:wr=[]:=List.eq_nil_of_length_eq_zero (by simpa using hy2)
    subst hr
    rw [List.append_nil]
    have hch:chainN m (k+1)=add5 (chainN m k) (rounds (sched blk 80) (chainN m k) 80):=by rw [hblk];rfl
    have hwl:(sched blk 80).length=80:=sched_length blk 80
    generalize sched blk 80=ws at hch hwl ⊢
    obtain ⟨H,hH⟩:∃H,H=chainN m k:=⟨_,rfl⟩
    rw [←hH] at hch ⊢
    refine WC_loop (X:=Nat × H5) (fun x=>[(4,.slice (some ⟨bb,0,none⟩) m.length cap),(5,.slice (some ⟨bh,0,none⟩) 5 5),(6,.slice (some ⟨bw,0,none⟩) 80 80),(7,.int .i64 ((64 * k:Nat):Int)),
     (10,w32 x.2.a),(11,w32 x.2.b),(12,w32 x.2.c),(13,w32 x.2.d),(14,w32 x.2.e),(15,.int .i64 (x.1:Int))])
     (fun x=>[(bh,cl (hcs H) 88)]::[(bw,cl (wsv ws) 88)]::[(bb,.cells (bsv m++rest).toArray 5 fr)]::L)
     (fun x=>x.1≤80∧x.2=rounds ws H x.1) (fun x=>80 - x.1) (0,H) ⟨by simp only;omega,rfl⟩ iS (fun w h=>h) ?_
    intro y ⟨hy3,hy4⟩
    clear hy1 hy2 hc hbg
    obtain ⟨t,r⟩:=y
    simp only at hy3 hy4 ⊢
    have hld:t < 80→nth (wsv ws) (t * 1)=some (w32 (ws.getD t 0)):=fun h=>by
     rw [nth_eq,Nat.mul_one]
     exact wsv_get (by simp [List.getD,show t < ws.length from by omega])
    (repeat' first|refine kX ?_|refine kU fun bk=>?_|refine kV fun hc=>?_|refine kZ (fun hc=>?_) fun hc=>?_|fail)
    ·have hk5:t / 20=3:=by omega
     refine WC_drawAll [] mixed ?_
     (refine WR_w 0 ?_;refine WR_w 2 ?_;refine WR_w 4 ?_;refine WR_w 6 ?_;refine WR_w 8 ?_;refine WR_w 9 ?_;refine WR_w 10 ?_)
     refine WR_take 11 rfl rfl (by kernel_rfl) iP iC (EV_loadc rfl (Fnd.there Fnd.here) (hld (by omega))) (by rfl) ?_
     refine cI 1 rfl rfl ?_
     refine cP rfl rfl (rol_n _ 5 _ (by omega)) ?_
     refine ⟨iC,?_⟩
     (refine WR_w 3 ?_;refine WR_w 5 ?_;refine WR_w 7 ?_;refine WR_w 12 ?_;refine WR_w 13 ?_)
     refine cD ?_
     refine kX ?_
     refine cP rfl rfl (rol_n _ 30 _ (by omega)) ?_
     refine kX ?_
     rw [kind_eq 3 r.a r.b r.c r.d r.e (ws.getD t 0) _ 3395469782#32 rfl]
     refine WQ_round (X:=Nat × H5) (μ:=fun x=>80 - x.1) (x:=(t,r)) (t+1,rnd 3 r (ws.getD t 0)) (by simp only;omega) ⟨by simp only;omega,by simp only [rounds];rw [hk5,hy4]⟩ iS (fun w h=>h)
    ·have hk5:t / 20=2:=by omega
     refine WC_drawAll [] mixed ?_
     (refine WR_w 0 ?_;refine WR_w 2 ?_;refine WR_w 4 ?_;refine WR_w 6 ?_;refine WR_w 8 ?_;refine WR_w 9 ?_;refine WR_w 10 ?_)
     refine WR_take 11 rfl rfl (by kernel_rfl) iP iC (EV_loadc rfl (Fnd.there Fnd.here) (hld (by omega))) (by rfl) ?_
     refine cI 1 rfl rfl ?_
     refine cP rfl rfl (rol_n _ 5 _ (by omega)) ?_
     refine ⟨iC,?_⟩
     (refine WR_w 3 ?_;refine WR_w 5 ?_;refine WR_w 7 ?_;refine WR_w 12 ?_;refine WR_w 13 ?_)
     refine cD ?_
     refine kX ?_
     refine cP rfl rfl (rol_n _ 30 _ (by omega)) ?_
     refine kX ?_
     rw [kind_eq 2 r.a r.b r.c r.d r.e (ws.getD t 0) _ 2400959708#32 rfl]
     refine WQ_round (X:=Nat × H5) (μ:=fun x=>80 - x.1) (x:=(t,r)) (t+1,rnd 2 r (ws.getD t 0)) (by simp only;omega) ⟨by simp only;omega,by simp only [rounds];rw [hk5,hy4]⟩ iS (fun w h=>h)
    ·have hk5:t / 20=1:=by omega
     refine WC_drawAll [] mixed ?_
     (refine WR_w 0 ?_;refine WR_w 2 ?_;refine WR_w 4 ?_;refine WR_w 6 ?_;refine WR_w 8 ?_;refine WR_w 9 ?_;refine WR_w 10 ?_)
     refine WR_take 11 rfl rfl (by kernel_rfl) iP iC (EV_loadc rfl (Fnd.there Fnd.here) (hld (by omega))) (by rfl) ?_
     refine cI 1 rfl rfl ?_
     refine cP rfl rfl (rol_n _ 5 _ (by omega)) ?_
     refine ⟨iC,?_⟩
     (refine WR_w 3 ?_;refine WR_w 5 ?_;refine WR_w 7 ?_;refine WR_w 12 ?_;refine WR_w 13 ?_)
     refine cD ?_
     refine kX ?_
     refine cP rfl rfl (rol_n _ 30 _ (by omega)) ?_
     refine kX ?_
     rw [kind_eq 1 r.a r.b r.c r.d r.e (ws.getD t 0) _ 1859775393#32 rfl]
     refine WQ_round (X:=Nat × H5) (μ:=fun x=>80 - x.1) (x:=(t,r)) (t+1,rnd 1 r (ws.getD t 0)) (by simp only;omega) ⟨by simp only;omega,by simp only [rounds];rw [hk5,hy4]⟩ iS (fun w h=>h)
    ·have hk5:t / 20=0:=by omega
     refine WC_drawAll [] mixed ?_
     (refine WR_w 0 ?_;refine WR_w 2 ?_;refine WR_w 4 ?_;refine WR_w 6 ?_;refine WR_w 8 ?_;refine WR_w 9 ?_;refine WR_w 10 ?_)
     refine WR_take 11 rfl rfl (by kernel_rfl) iP iC (EV_loadc rfl (Fnd.there Fnd.here) (hld (by omega))) (by rfl) ?_
     refine cI 1 rfl rfl ?_
     refine cP rfl rfl (rol_n _ 5 _ (by omega)) ?_
     refine ⟨iC,?_⟩
     (refine WR_w 3 ?_;refine WR_w 5 ?_;refine WR_w 7 ?_;refine WR_w 12 ?_;refine WR_w 13 ?_)
     refine cD ?_
     refine kX ?_
     refine cP rfl rfl (rol_n _ 30 _ (by omega)) ?_
     refine kX ?_
     rw [kind_eq 0 r.a r.b r.c r.d r.e (ws.getD t 0) _ 1518500249#32 rfl]
     refine WQ_round (X:=Nat × H5) (μ:=fun x=>80 - x.1) (x:=(t,r)) (t+1,rnd 0 r (ws.getD t 0)) (by simp only;omega) ⟨by simp only;omega,by simp only [rounds];rw [hk5,hy4]⟩ iS (fun w h=>h)
    ·have ht:t=80:=by omega
     subst ht
     rw [←hy4] at hch
     refine WC_drawAll [] mixed ?_
     (refine WR_w 0 ?_;refine WR_w 1 ?_;refine WR_w 2 ?_;refine WR_w 3 ?_;refine WR_w 4 ?_;refine WR_w 5 ?_;refine WR_w 6 ?_;refine WR_w 7 ?_;refine WR_w 8 ?_;refine WR_w 9 ?_;refine WR_w 10 ?_;refine WR_w 11 ?_;refine WR_w 12 ?_;refine WR_w 13 ?_;refine WR_w 14 ?_;refine WR_w 15 ?_;refine WR_w 16 ?_;refine WR_w 17 ?_;refine WR_w 18 ?_;refine WR_w 19 ?_;refine WR_w 20 ?_;refine WR_w 21 ?_;refine WR_w 22 ?_;refine WR_w 23 ?_;refine WR_w 24 ?_)
     refine cI 25 rfl rfl ?_
     refine OW_buildSlice (cs:=hcs (add5 H r)) rfl (by rfl) (by simp [fillL,patch,Value.cells,zeros];rfl) (by omega) rfl rfl (fun bh2=>?_)
     refine ⟨iC,?_⟩
     (refine WR_w 26 ?_)
     refine cD ?_
     refine kX ?_
     refine WQ_round (X:=Nat × List Value × Nat) (μ:=fun x=>m.length - 64 * x.1) (x:=(k,wsv ws,bh)) (k+1,wsv ws,bh2) (by simp only;omega) ⟨by simp only;omega,by rw [wsv_length];exact hwl⟩ iS (fun w h=>by simp only;rw [hch];exact iH h)
  ·have hk:k=m.length / 64:=by omega
   rw [←hk]
   refine cC rfl rfl (words_n (hbs (chainN m k)) _ _ (by show 5≤1000;omega) ⟨sl_cells (c:=(hcs (chainN m k)).toArray) (m:=5) Fnd.here rfl (by show (hcs (chainN m k)).take 5=hcs (chainN m k);rfl),_,_,rfl,Nat.le_refl _⟩) (fun r L' hp=>?_)
   obtain ⟨C2,rfl,ho2⟩:=hp
   refine kX ?_
   refine kR ?_
   exact ⟨C2::L,iC,C2,rfl,ho2⟩
omit [W0] in
def dv (d:UInt8):Int:=if 48≤d.toNat∧d.toNat≤57 then (d.toNat:Int) - 48 else if 97≤d.toNat∧d.toNat≤102 then (d.toNat:Int) - 87 else -1
theorem dv_lt (d:UInt8):dv d < 16:=by
 unfold dv;split
 ·omega
 ·split<;>omega
theorem dv_dig {i:Nat} (h:i < 16):dv (dig i)=(i:Int):=by
 have:∀i:Fin 16,dv (dig i.val)=(i.val:Int):=by decide
 exact this ⟨i,h⟩
omit [W0] in
def halfV (d:UInt8):Value:=if 0≤dv d then .tuple #[.int .u8 (dv d),.bool true] else .tuple #[.int .u8 0,.bool false]
theorem half_n (d:UInt8) (L:List Chunk):GvP Tryz.prog 86 [.int .u8 (d.toNat:Int)].toArray L (halfV d):=by
 refine Gv.of_body Tryz.func86 rfl rfl ?_
 have hd:=d.toNat_lt
 (repeat' first|refine kX ?_|refine kU fun bk=>?_|refine kV fun hc=>?_|refine kZ (fun hc=>?_) fun hc=>?_|fail)
 ·refine OW_EV (EV_ari rfl rfl rfl) rfl ?_
  have e:dv d=(d.toNat:Int) - 48:=by unfold dv;rw [if_pos (by omega)]
  have h0:halfV d=.tuple #[.int .u8 ((d.toNat:Int) - 48),.bool true]:=by unfold halfV;rw [if_pos (by omega),e]
  rw [wrap_u8,show (((d.toNat:Int) - 48) % 256).toNat=(d.toNat - 48:Nat) from by omega,h0]
  refine kX ?_
  refine kR ?_
  refine ⟨L,iC,?_,rfl⟩
  rw [show ((d.toNat - 48:Nat):Int)=(d.toNat:Int) - 48 from by omega]
  rfl
 ·refine OW_EV (EV_ari rfl rfl rfl) rfl ?_
  have e:dv d=(d.toNat:Int) - 87:=by unfold dv;rw [if_neg (by omega),if_pos (by omega)]
  have h0:halfV d=.tuple #[.int .u8 ((d.toNat:Int) - 87),.bool true]:=by unfold halfV;rw [if_pos (by omega),e]
  rw [wrap_u8,show (((d.toNat:Int) - 97) % 256).toNat=(d.toNat - 97:Nat) from by omega,h0]
  refine kX ?_
  refine OW_EV (EV_ari rfl rfl rfl) rfl ?_
  rw [wrap_u8,show ((((d.toNat - 97:Nat):Int)+10) % 256).toNat=(d.toNat - 87:Nat) from by omega]
  refine kX ?_
  refine kR ?_
  refine ⟨L,iC,?_,rfl⟩
  rw [show ((d.toNat - 87:Nat):Int)=(d.toNat:Int) - 87 from by omega]
  rfl
 all_goals
  have e:dv d= -1:=by unfold dv;rw [if_neg (by omega),if_neg (by omega)]
  have h0:halfV d=.tuple #[.int .u8 0,.bool false]:=by unfold halfV;rw [if_neg (by omega)]
  rw [h0]
  refine kR ?_
  exact ⟨L,iC,rfl,rfl⟩
omit [W0] in
def okAt (t:List UInt8) (i:Nat):Bool:=decide (0≤dv (t.getD (2 * i) 0))&&decide (0≤dv (t.getD (2 * i+1) 0))
omit [W0] in
def byAt (t:List UInt8) (i:Nat):UInt8:=UInt8.ofNat (16 * (dv (t.getD (2 * i) 0)).toNat+(dv (t.getD (2 * i+1) 0)).toNat)
omit [W0] in
def outN (t:List UInt8) (k:Nat):List UInt8:=(List.range k).map (byAt t)
theorem outN_length (t:List UInt8) (k:Nat):(outN t k).length=k:=by simp [outN]
theorem outN_succ (t:List UInt8) (k:Nat):outN t (k+1)=outN t k++[byAt t k]:=by simp [outN,List.range_succ]
omit [W0] in
def unB (t:List UInt8):Bool:=decide (t.length % 2=0)&&(List.range (t.length / 2)).all (okAt t)
omit [W0] in
def unL (t:List UInt8):List UInt8:=if unB t then outN t (t.length / 2) else []
theorem unB_odd {t:List UInt8} (h:t.length % 2≠0):unB t=false:=by simp [unB,h]
theorem unB_bad {t:List UInt8} {i:Nat} (h:i < t.length / 2) (hk:okAt t i=false):unB t=false:=by
 simp only [unB,Bool.and_eq_false_iff]
 refine .inr ?_
 rw [List.all_eq_false]
 exact ⟨i,List.mem_range.2 h,by simp [hk]⟩
theorem unB_good {t:List UInt8} (h:t.length % 2=0) (hk:∀i,i < t.length / 2→okAt t i=true):unB t=true:=by
 simp only [unB,h,decide_true,Bool.true_and,List.all_eq_true]
 exact fun i hi=>hk i (List.mem_range.1 hi)
theorem halfV_yes {d:UInt8} (h:0≤dv d):halfV d=.tuple #[.int .u8 (dv d),.bool true]:=if_pos h
theorem halfV_no {d:UInt8} (h:¬0≤dv d):halfV d=.tuple #[.int .u8 0,.bool false]:=if_neg h
theorem byAt_val {t:List UInt8} {i:Nat} (h1:0≤dv (t.getD (2 * i) 0)) (h2:0≤dv (t.getD (2 * i+1) 0)):((byAt t i).toNat:Int)=16 * dv (t.getD (2 * i) 0)+dv (t.getD (2 * i+1) 0):=by
 have a1:=dv_lt (t.getD (2 * i) 0)
 have a2:=dv_lt (t.getD (2 * i+1) 0)
 simp only [byAt,UInt8.toNat_ofNat']
 omega
theorem halves {a b:Nat} (ha:a < 16) (hb:b < 16):bitI .or .u8 (IntKind.u8.wrap ((a:Int) * 2 ^ (min ((4:Int)).toNat IntKind.u8.bits))) (b:Int)=some ((16 * a+b:Nat):Int):=by
 have:∀a b:Fin 16,bitI .or .u8 (IntKind.u8.wrap ((a.val:Int) * 2 ^ (min ((4:Int)).toNat IntKind.u8.bits))) (b.val:Int)=some ((16 * a.val+b.val:Nat):Int):=by decide+kernel
 exact this ⟨a,ha⟩ ⟨b,hb⟩
theorem unhex_n (t:List UInt8) (L:List Chunk) (hlen:t.length≤70368744177664) :
 Gv Tryz.prog 53 [.string (str t)].toArray L (fun r L'=>∃v C,r=.tuple #[v,.bool (unB t)]∧L'=C::L∧Ow 5 1 v (unL t).length (bsv (unL t)) C):=by
 refine Gv.of_body Tryz.func53 rfl rfl ?_
 have hno:unB t=false→Ow 5 1 (.slice none 0 0) (unL t).length (bsv (unL t)) []:=fun h=>by
  unfold unL;rw [h];exact .inl ⟨rfl,rfl,rfl,rfl⟩
 refine kX ?_
 refine OW_EV (EV_rem rfl rfl (by decide)) rfl ?_
 rw [show (((str t).size:Nat):Int).tmod 2=((t.length % 2:Nat):Int) from by rw [str_size,Int.tmod_eq_emod_of_nonneg (by omega)];omega]
 (repeat' first|refine kX ?_|refine kU fun bk=>?_|refine kV fun hc=>?_|refine kZ (fun hc=>?_) fun hc=>?_|fail)
 ·have hb:=unB_odd (t:=t) (by omega)
  refine WQ_holds (L':=[]::L) (fun w h=>Holds.nil.2 h) ?_
  refine kR ?_
  exact ⟨[]::L,iC,.slice none 0 0,[],by rw [hb];rfl,rfl,hno hb⟩
 ·have hev:t.length % 2=0:=by omega
  refine OW_EV (EV_quo rfl rfl (by decide)) rfl ?_
  rw [show IntKind.i64.wrap ((((str t).size:Nat):Int).tdiv 2)=((t.length / 2:Nat):Int) from by
   rw [str_size,Int.tdiv_eq_ediv_of_nonneg (by omega),wrap_i64 (by omega) (by omega)];omega]
  refine kX ?_
  refine OW_makeSlice (m:=0) rfl rfl (by rfl) (by omega) (by omega) (by omega) rfl (fun bn=>?_)
  refine kX ?_
  have ho:Ow 5 1 (.slice (some ⟨bn,0,none⟩) 0 (t.length / 2)) 0 (bsv (outN t 0)) [(bn,cl (zeros [.int .u8 0] (t.length / 2)) 5)]:=
   .inr ⟨bn,t.length / 2,zeros [.int .u8 0] (t.length / 2),rfl,rfl,rfl,by simp [zeros_length],by omega,by simp [maxLen];omega⟩
  refine WC_loop (X:=Nat × Value × Chunk) (fun x=>[(0,.string (str t)),(4,x.2.1),(5,.int .i64 ((2 * x.1:Nat):Int))])
   (fun x=>x.2.2::L) (fun x=>2 * x.1≤t.length∧(∀i,i < x.1→okAt t i=true)∧Ow 5 1 x.2.1 x.1 (bsv (outN t x.1)) x.2.2) (fun x=>t.length - x.1) (0,_,_) ⟨Nat.zero_le _,fun i h=>by omega,ho⟩ iS (fun w h=>h) ?_
  intro x ⟨hx1,hx2,hx3⟩
  obtain ⟨k,s,C⟩:=x
  simp only at hx1 hx2 hx3 ⊢
  (repeat' first|refine kX ?_|refine kU fun bk=>?_|refine kV fun hc=>?_|refine kZ (fun hc=>?_) fun hc=>?_|fail)
  ·rw [str_size] at hc
   have h0:2 * k+1 < t.length:=by omega
   obtain ⟨a,haq⟩:∃a,a=t.getD (2 * k) 0:=⟨_,rfl⟩
   obtain ⟨b,hbq⟩:∃b,b=t.getD (2 * k+1) 0:=⟨_,rfl⟩
   have hal:=dv_lt a
   have hbl:=dv_lt b
   refine OW_EV (EV_indexStr (s:=str t) (j:=2 * k) rfl rfl rfl (str_get (by omega))) rfl ?_
   rw [←haq]
   refine kX ?_
   refine cP rfl rfl (half_n a _) ?_
   by_cases ha:0≤dv a
   ·rw [halfV_yes ha]
    refine kX ?_
    refine OW_EV (EV_indexStr (s:=str t) (j:=2 * k+1) rfl rfl (by omega) (str_get h0)) rfl ?_
    rw [←hbq]
    refine kX ?_
    refine cP rfl rfl (half_n b _) ?_
    by_cases hb:0≤dv b
    ·rw [halfV_yes hb]
     have hok:okAt t k=true:=by unfold okAt;rw [←haq,←hbq];simp [ha,hb]
     have hby:=byAt_val (t:=t) (i:=k) (by rw [←haq];exact ha) (by rw [←hbq];exact hb)
     rw [←haq,←hbq] at hby
     refine kX ?_
     refine OW_EV (EV_shl rfl rfl (by omega) rfl) rfl ?_
     refine kX ?_
     have hh:bitI .or .u8 (IntKind.u8.wrap (dv a * 2 ^ (min ((4:Int)).toNat IntKind.u8.bits))) (dv b)=some ((byAt t k).toNat:Int):=by
      have:=halves (a:=(dv a).toNat) (b:=(dv b).toNat) (by omega) (by omega)
      rw [Int.toNat_of_nonneg ha,Int.toNat_of_nonneg hb] at this
      rw [this]
      congr 1
      omega
     refine OW_EV (EV_bit rfl rfl hh) rfl ?_
     refine kX ?_
     refine OW_buildSlice (cs:=bsv [byAt t k]) rfl (by rfl) (by simp [fillL,patch,Value.cells,zeros];rfl) (by omega) rfl rfl (fun bk=>?_)
     refine kX ?_
     refine OW_append rfl rfl hx3 (sl_cells (c:=(bsv [byAt t k]).toArray) (xs:=bsv [byAt t k]) (m:=1) Fnd.here rfl (by simp)) (by repeat (first|exact Zip.here _|apply Zip.there)) (by rfl) bsv_ones (by omega) (by simp [maxLen];omega) rfl (fun v' C' ho1 h1 h2=>?_)
     rw [←bsv_append,←outN_succ] at ho1
     refine kX ?_
     refine WQ_round (X:=Nat × Value × Chunk) (μ:=fun x=>t.length - x.1) (x:=(k,s,C)) (k+1,v',C') (by simp only;omega)
      ⟨by simp only;omega,fun i hi=>?_,ho1⟩ iS (fun w h=>iH h)
     rcases Nat.lt_or_ge i k with h'|h'
     ·exact hx2 i h'
     ·rw [show i=k from by simp only at hi;omega];exact hok
    ·rw [halfV_no hb]
     have hbad:=unB_bad (t:=t) (i:=k) (by omega) (by unfold okAt;rw [←haq,←hbq,decide_eq_false hb];simp)
     refine kX ?_
     refine WQ_holds (L':=[]::L) (fun w h=>Holds.nil.2 h.drop) ?_
     refine kR ?_
     exact ⟨[]::L,iC,.slice none 0 0,[],by rw [hbad];rfl,rfl,hno hbad⟩
   ·rw [halfV_no ha]
    refine kX ?_
    refine OW_EV (EV_indexStr (s:=str t) (j:=2 * k+1) rfl rfl (by omega) (str_get h0)) rfl ?_
    rw [←hbq]
    refine kX ?_
    refine cP rfl rfl (half_n b _) ?_
    have hx:∃x y,halfV b=.tuple #[.int .u8 x,.bool y]:=by
     unfold halfV;split<;>exact ⟨_,_,rfl⟩
    obtain ⟨x,y,hxy⟩:=hx
    rw [hxy]
    have hbad:=unB_bad (t:=t) (i:=k) (by omega) (by unfold okAt;rw [←haq,←hbq,decide_eq_false ha];simp)
    refine kX ?_
    refine WQ_holds (L':=[]::L) (fun w h=>Holds.nil.2 h.drop) ?_
    refine kR ?_
    exact ⟨[]::L,iC,.slice none 0 0,[],by rw [hbad];rfl,rfl,hno hbad⟩
  ·rw [str_size] at hc
   have hk:k=t.length / 2:=by omega
   have hb:unB t=true:=unB_good hev fun i hi=>hx2 i (by omega)
   have hl:unL t=outN t k:=by unfold unL;rw [hb,hk];rfl
   refine kR ?_
   refine ⟨C::L,iC,s,C,by rw [hb];rfl,rfl,?_⟩
   rw [hl,outN_length]
   exact hx3
theorem refhex_n (t:List UInt8) (v:Value) (L:List Chunk) (hlen:t.length≤35184372088832) (hv:SlC L 1 v t.length (bsv t)) :
 GvP Tryz.prog 18 [v].toArray L (.string ⟨(hexL t).toArray⟩):=by
 refine Gv.of_body Tryz.func18 rfl rfl ?_
 obtain ⟨a,c,rfl,hmc⟩:=hv.room
 refine kX ?_
 refine WC_holds' (L':=[]::L) (fun w h=>Holds.nil.2 h) ?_
 refine WC_loop (X:=Nat × Value × Chunk) (fun x=>[(0,.slice a t.length c),(3,x.2.1),(4,.int .i64 (x.1:Int))])
  (fun x=>x.2.2::L) (fun x=>x.1≤t.length∧Ow 5 1 x.2.1 (2 * x.1) (bsv (hexL (t.take x.1))) x.2.2) (fun x=>t.length - x.1) (0,.slice none 0 0,[]) ⟨Nat.zero_le _,.inl ⟨rfl,rfl,rfl,rfl⟩⟩ iS (fun w h=>h) ?_
 intro x ⟨hx1,hx2⟩
 obtain ⟨k,s,C⟩:=x
 simp only at hx1 hx2 ⊢
 (repeat' first|refine kX ?_|refine kU fun bk=>?_|refine kV fun hc=>?_|refine kZ (fun hc=>?_) fun hc=>?_|fail)
 ·have hlt:k < t.length:=by omega
  obtain ⟨bb,off,cap,cc,bT,bfr,hve,hfn,hcell⟩:=sl_byte hv.sl hlt
  injection hve with e1 e2 e3
  subst e1 e3
  clear e2
  obtain ⟨x,hx⟩:∃x,x=t.getD k 0:=⟨_,rfl⟩
  rw [←hx] at hcell
  have hxl:=x.toNat_lt
  refine WC_drawAll [14,15] mixed ?_
  (refine WR_w 0 ?_;refine WR_w 1 ?_;refine WR_w 2 ?_;refine WR_w 3 ?_)
  refine cT 4 rfl rfl (EV_load rfl hfn.there hcell) ?_
  (refine WR_w 5 ?_)
  refine cT 6 rfl rfl (EV_indexStr (s:=digS) (j:=x.toNat / 16) rfl rfl (by omega) (dig_get (by omega))) ?_
  (refine WR_w 7 ?_;refine WR_w 8 ?_;refine WR_w 9 ?_)
  refine cT 10 rfl rfl (EV_load rfl hfn.there hcell) ?_
  refine cT 11 rfl rfl (EV_mask rfl rfl rfl) ?_
  refine cT 12 rfl rfl (EV_indexStr (s:=digS) (j:=x.toNat % 16) rfl rfl rfl (dig_get (by omega))) ?_
  refine cI 13 rfl rfl ?_
  refine OW_buildSlice (cs:=bsv (hexB x)) rfl (by rfl) (by simp [fillL,patch,Value.cells,zeros];rfl) (by omega) rfl rfl (fun bk=>?_)
  refine ⟨iC,?_⟩
  refine cL 14 rfl rfl rfl ?_
  refine OW_append rfl rfl hx2 (sl_cells (c:=(bsv (hexB x)).toArray) (xs:=bsv (hexB x)) (m:=2) Fnd.here rfl (by simp)) (by repeat (first|exact Zip.here _|apply Zip.there)) (by rfl) bsv_ones (by omega) (by simp [maxLen];omega) rfl (fun v' C' ho1 h1 h2=>?_)
  refine cL 15 rfl rfl rfl ?_
  refine OW_W ?_
  refine cD ?_
  refine kX ?_
  have e:hexL (t.take (k+1))=hexL (t.take k)++hexB x:=by
   rw [take_succ 0 hlt,hexL_append,←hx];simp [hexL]
  rw [←bsv_append,←e] at ho1
  refine WQ_round (X:=Nat × Value × Chunk) (μ:=fun x=>t.length - x.1) (x:=(k,s,C)) (k+1,v',C') (by simp only;omega) ⟨by simp only;omega,ho1⟩ iS (fun w h=>iH h)
 ·have hk:k=t.length:=by omega
  subst hk
  rw [List.take_length] at hx2
  refine OW_EV (EV_convStr (b:=hexL t) rfl (ow_sl hx2)) rfl ?_
  refine kX ?_
  refine kR ?_
  exact ⟨L,iC,rfl,rfl⟩
theorem hexL_get:∀(t:List UInt8) (i:Nat),i < t.length→(hexL t).getD (2 * i) 0=dig ((t.getD i 0).toNat / 16)∧(hexL t).getD (2 * i+1) 0=dig ((t.getD i 0).toNat % 16)
 |[],i,h=>by simp at h
 |x::t,0,_=>⟨rfl,rfl⟩
 |x::t,i+1,h=>by
  have ih:=hexL_get t i (by simpa using h)
  rw [show 2 * (i+1)=2 * i+1+1 from by omega]
  exact ih
theorem unB_hex (t:List UInt8):unB (hexL t)=true:=by
 refine unB_good (by rw [hexL_length];omega) fun i hi=>?_
 rw [hexL_length] at hi
 obtain ⟨h1,h2⟩:=hexL_get t i (by omega)
 have:=(t.getD i 0).toNat_lt
 unfold okAt
 rw [h1,h2,dv_dig (by omega),dv_dig (by omega),decide_eq_true (Int.natCast_nonneg _),decide_eq_true (Int.natCast_nonneg _)]
 rfl
end Go.Proofs.YtemdlifojcgplaaGreatDoor
namespace Go.Vx
open Go
set_option linter.all false
variable [W0]
section
variable {P : Program} {n : Nat} {M : List (Nat × Value)} {L : List Chunk} {K : List (Nat × Value) → List Chunk → Prop}
variable {d : Nat} {ty : TypeId} {ps : String} {af : Array Edge} {g : Option (Nat × Bool)} {x y : Operand} {v : Value}
theorem OW_rangeS {t:TypeId} [hst:ST P t] {s:ByteArray} (hx:ev M x=some (.string s)) (hn:Nat.blt d n=true) (h:∀b,K ((d,.pointer (some ⟨b,0,none⟩))::M) ([(b,.stringIter s 0)]::L)) :
 OW P n ⟨some d,.range t x,ty,ps,af,g⟩ K M L:=
 OW_newval (f:=fun b=>.pointer (some ⟨b,0,none⟩)) rfl hn (fun a w ha hw=>by
  simp [execOp,Instr.range,ha.eval hx,underlying,hst.out,newObj,Sem.run,Result.andThen]) h
theorem OW_nextS {b pos:Nat} {s:ByteArray} {L':List Chunk} (hx:ev M x=some (.pointer (some ⟨b,0,none⟩))) (hp:pos < s.size) (hu:Upd L b (.stringIter s pos) (.stringIter s (pos+(Utf8.decode s pos).2)) L') (hn:Nat.blt d n=true)
 (h:K ((d,.tuple #[.bool true,.int .i64 (pos:Int),.int .i32 ((Utf8.decode s pos).1:Int)])::M) L') :
 OW P n ⟨some d,.next x true,ty,ps,af,g⟩ K M L:=⟨fun a w nx Q ha hw hk=>by
 have hb:=hu.fnd.get hw
 have hlt:b < w.heap.size:=(Array.getElem?_eq_some_iff.1 hb).1
 have hrun:(execOp a.eval ⟨some d,.next x true,ty,ps,af,g⟩).run P w=.ok (.value (.tuple #[.bool true,.int .i64 (pos:Int),.int .i32 ((Utf8.decode s pos).1:Int)])) { w with heap:=w.heap.setIfInBounds b (.stringIter s (pos+(Utf8.decode s pos).2)) }:=by
  simp [execOp,ha.eval hx,Instr.next,getObj,setObj,Sem.run,hb,hp,goInt]
 unfold Oper.wp
 rw [hrun,Oper.upon_value]
 refine (hk _ _ h).out _ _ (ha.put _ hn) (hw.upd hu ?_ ?_ rfl rfl)
 ·simp [hlt]
 ·intro c hc;simp [Ne.symm hc]⟩
theorem EV_endS {b pos:Nat} {s:ByteArray} (hx:ev M x=some (.pointer (some ⟨b,0,none⟩))) (hf:Fnd L b (.stringIter s pos)) (hp:¬pos < s.size) :
 EV P n ⟨some d,.next x true,ty,ps,af,g⟩ M L d (.tuple #[.bool false]):=
 ⟨rfl,fun a w ha hw=>by
   have hb:=hf.get hw
   simp [execOp,ha.eval hx,Instr.next,getObj,Sem.run,hb,hp]⟩
end
end Go.Vx
namespace Go.Ob
open Go Go.Lib Go.Vx
set_option linter.all false
set_option maxRecDepth 4000
def sCommit:List UInt8:=[99,111,109,109,105,116]
def sTree:List UInt8:=[116,114,101,101]
def sBlob:List UInt8:=[98,108,111,98]
def sTag:List UInt8:=[116,97,103]
open Go.Proofs.YtemdlifojcgplaaGreatDoor
def nmL:Nat→List UInt8
 |1=>sCommit
 |2=>sTree
 |3=>sBlob
 |4=>sTag
 |_=>[]
def nmI (k:Int):List UInt8:=if 1≤k∧k≤4 then nmL k.toNat else []
def kdL (s:List UInt8):Nat:=if s=sCommit then 1 else if s=sTree then 2 else if s=sBlob then 3 else if s=sTag then 4 else 0
def dgF:Nat→Nat→List UInt8
 |0,_=>[]
 |f+1,n=>if n < 10 then [UInt8.ofNat (48+n)] else dgF f (n / 10)++[UInt8.ofNat (48+n % 10)]
def dgL (n:Nat):List UInt8:=dgF 20 n
def hdL (k size:Int):List UInt8:=nmI k++[32]++dgL (max size 0).toNat++[0]
def idL (k:Int) (body:List UInt8):List UInt8:=hexL (shaN (hdL k (body.length:Int)++body))
def hshB (s:List UInt8):Bool:=decide (s.length=40)&&unB s
def inD (c:Nat):Bool:=decide (48≤c)&&decide (c≤57)
def cutN (c:UInt8):List UInt8→List UInt8 × List UInt8
 |[]=>([],[])
 |x::t=>if x=c then ([],t) else (x::(cutN c t).1,(cutN c t).2)
end Go.Ob
namespace Go.Ob
open Go Go.Lib Go.Vx
set_option linter.all false
set_option maxRecDepth 4000
theorem cutN_spec (c:UInt8):∀s:List UInt8,(c∉s∧cutN c s=(s,[]))∨∃a t,c∉a∧s=a++c::t∧cutN c s=(a,t)
 |[]=>.inl ⟨by simp,rfl⟩
 |x::s=>by
  unfold cutN
  by_cases hx:x=c
  ·subst hx
   exact .inr ⟨[],s,by simp,rfl,by rw [if_pos rfl]⟩
  ·rw [if_neg hx]
   rcases cutN_spec c s with ⟨h1,h2⟩|⟨a,t,h1,h2,h3⟩
   ·exact .inl ⟨by simp [h1,Ne.symm hx],by rw [h2]⟩
   ·exact .inr ⟨x::a,t,by simp [h1,Ne.symm hx],by rw [h2];rfl,by rw [h3]⟩
theorem cutN_app (c:UInt8) (t:List UInt8):∀a:List UInt8,c∉a→cutN c (a++c::t)=(a,t)
 |[],_=>by simp [cutN]
 |x::a,h=>by
  simp only [List.mem_cons,not_or] at h
  simp only [List.cons_append,cutN]
  rw [if_neg (Ne.symm h.1),cutN_app c t a h.2]
end Go.Ob
namespace Go.Vx
open Go Go.Lib Go.RowKit
set_option linter.all false
variable [W0]
omit [W0] in
def OwG (e:Nat) (v:Value) (m:Nat) (xs:List Value) (C:Chunk):Prop:=(v=.slice none 0 0∧m=0∧xs=[]∧C=[])∨OwF e 1 v m xs C
theorem OwG.nil {e:Nat}:OwG e (.slice none 0 0) 0 [] []:=.inl ⟨rfl,rfl,rfl,rfl⟩
theorem OwG.f {e m:Nat} {v:Value} {xs:List Value} {C:Chunk} (h:OwF e 1 v m xs C):OwG e v m xs C:=.inr h
theorem OwG.ow {e m:Nat} {v:Value} {xs:List Value} {C:Chunk} (h:Ow e 1 v m xs C):OwG e v m xs C:=by
 rcases h with h|⟨b,cap,rest,rfl,rfl,h1,h2,h3,h4⟩
 ·exact .inl h
 ·exact .inr ⟨b,cap,rest,(0,0),rfl,rfl,h1,h2,h3,h4,FrOk.zero _⟩
theorem OwG.sl {e m:Nat} {v:Value} {xs:List Value} {C:Chunk} {L:List Chunk} (h:OwG e v m xs C):Sl (C::L) 1 v m xs:=by
 rcases h with ⟨rfl,rfl,rfl,rfl⟩|h
 ·exact .inl ⟨0,rfl,rfl,rfl⟩
 ·exact owf_sl h
theorem OwG.room {e m:Nat} {v:Value} {xs:List Value} {C:Chunk} (h:OwG e v m xs C):∃a c,v=.slice a m c∧m≤c:=by
 rcases h with ⟨rfl,rfl,rfl,rfl⟩|⟨b,cap,rest,fr,rfl,rfl,h1,h2,h3,h4,_⟩
 ·exact ⟨_,_,rfl,Nat.le_refl _⟩
 ·exact ⟨_,_,rfl,h3⟩
section
variable {P : Program} {n : Nat} {M : List (Nat × Value)} {L : List Chunk} {K : List (Nat × Value) → List Chunk → Prop}
variable {d : Nat} {ty : TypeId} {ps : String} {af : Array Edge} {g : Option (Nat × Bool)} {x y : Operand} {v : Value}
theorem OW_appG {t e by_:Nat} [hs:SL P t e 1 by_] {z:Value} [hz:ZV P e z] {v r:Value} {m c:Nat} {xs ys:List Value} {C:Chunk} {A B:List Chunk} (hx:ev M x=some v) (hy:ev M y=some r) (hown:OwG e v m xs C)
 (hsl:Sl L 1 r c ys) (hzip:Zip C L A B) (hzk:z.cells.size=1) (h1:ones ys=true) (hb:(m+c) * by_≤140737488355328) (h63:m+c≤maxLen)
 (hn:Nat.blt d n=true) (h:∀v' C',OwG e v' (m+c) (xs++ys) C'→K ((d,v')::M) (A++C'::B)) :
 OW P n ⟨some d,.call ⟨.builtin .append,#[x,y],#[t,t]⟩,ty,ps,af,g⟩ K M L:=by
 rcases hown with ⟨rfl,rfl,rfl,rfl⟩|hown
 ·exact OW_append hx hy (.inl ⟨rfl,rfl,rfl,rfl⟩) hsl hzip hzk h1 hb h63 hn (fun v' C' ho _ _=>h v' C' (OwG.ow ho))
 ·exact OW_appendF hx hy hown hsl hzip hzk h1 hb h63 hn (fun v' C' ho=>h v' C' (.inr ho))
omit [W0] in
theorem strCells_bsv (q:ByteArray):strCells q=bsv q.data.toList:=rfl
theorem OW_appGS {t s e by_:Nat} [hs:SL P t e 1 by_] [hst:ST P s] [hz:ZV P e (.int .u8 0)] {v:Value} {m:Nat} {xs:List Value} {C:Chunk} {A B:List Chunk} {q:ByteArray} (hx:ev M x=some v) (hy:ev M y=some (.string q)) (hown:OwG e v m xs C)
 (hzip:Zip C L A B) (hb:(m+q.size) * by_≤140737488355328) (h63:m+q.size≤maxLen)
 (hn:Nat.blt d n=true) (h:∀v' C',OwG e v' (m+q.size) (xs++bsv q.data.toList) C'→K ((d,v')::M) (A++C'::B)) :
 OW P n ⟨some d,.call ⟨.builtin .append,#[x,y],#[t,s]⟩,ty,ps,af,g⟩ K M L:=⟨fun a w next Q ha hw0 hk=>by
 have hL:=hzip.eq
 subst hL
 have hw:=hw0.perm List.perm_middle
 obtain ⟨ht,i,hi,hik,hib,hk0⟩:=hs.parts
 have hu:=hst.out
 have hzz:i.zero=some (.int .u8 0):=by have:=hz.out;rw [hi] at this;simpa using this
 subst hib
 have hsmall:m+q.size≤9223372036854775807:=by simpa [maxLen] using h63
 have main:∃v' C' w',(Builtin.append_ #[t,s] ty #[v,.string q]).run P w=.ok v' w'∧OwG e v' (m+q.size) (xs++bsv q.data.toList) C'∧Holds w' (C'::(A++B)):=by
  rcases hown with ⟨rfl,rfl,rfl,rfl⟩|⟨b,cap,rest,fr,rfl,rfl,hxl,hrl,hmc,hcm,hfr⟩
  ·by_cases hm:q.size=0
   ·have hn:strCells q=[]:=List.eq_nil_of_length_eq_zero (by rw [strCells_length];exact hm)
    refine ⟨.slice none 0 0,[],w,?_,?_,hw⟩
    ·have hf:=run_firstCells_string (P:=P) w 1 q
     rw [hm] at hf
     simp [Builtin.append_,run_underlying ht,run_underlying hu,sizeOf,typeInfo,hi,hik,Builtin.lenOf,hm,hf]
    ·rw [←strCells_bsv,hn,hm];exact OwG.nil
   ·have hr:=run_append_nil_string (P:=P) w t s ty e i (.int .u8 0) ht hu hi hzz q (by omega) (by omega) (by have h2:=hb;simp only [Nat.zero_add] at h2;omega)
    have e0:(q.data.map fun b=>Value.int .u8 b.toNat)=(strCells q).toArray:=by
     apply Array.ext'
     simp [strCells]
    rw [e0] at hr
    refine ⟨_,[(w.heap.size,.cells (bsv q.data.toList++(Builtin.zeroCells (Value.int .u8 0).cells (grownCap w q.size 0 e - q.size)).toList).toArray e (0,0))],_,hr,.inr ⟨w.heap.size,grownCap w q.size 0 e,(Builtin.zeroCells (Value.int .u8 0).cells (grownCap w q.size 0 e - q.size)).toList,(0,0),by rw [Nat.zero_add],rfl,?_,?_,?_,grownCap_le_maxLen w q.size 0 e (by omega),FrOk.zero _⟩,?_⟩
    ·rw [List.nil_append,←strCells_bsv,strCells_length];omega
    ·simp [size_zeroCells,Value.cells]
    ·rw [Nat.zero_add];exact grownCap_ge w q.size 0 e
    ·have h0:=(hw.drop.same (w':=w.drew) rfl rfl rfl).alloc (.cells ((strCells q).toArray++Builtin.zeroCells (Value.int .u8 0).cells (grownCap w q.size 0 e - q.size)) e)
     have e1:(bsv q.data.toList++(Builtin.zeroCells (Value.int .u8 0).cells (grownCap w q.size 0 e - q.size)).toList).toArray=(strCells q).toArray++Builtin.zeroCells (Value.int .u8 0).cells (grownCap w q.size 0 e - q.size):=by
      apply Array.ext';simp [strCells_bsv]
     rw [e1];exact h0
  ·have hfnd:w.heap[b]? =some (.cells (xs++rest).toArray e fr):=(Fnd.here:Fnd ([(b,.cells (xs++rest).toArray e fr)]::(A++B)) b _).get hw
   by_cases hroom:m+q.size≤cap
   ·have hxl':xs.length=m:=by simpa using hxl
    have hrl':rest.length=cap - m:=by simpa using hrl
    have hlen:m+(strCells q).length≤(xs++rest).length:=by
     simp only [List.length_append,hxl',hrl',strCells_length];omega
    have hf:=run_firstCells_string (P:=P) w 1 q
    have hst:=run_storeCells_cells (P:=P) b m (strCells q) 0 w
     (fun j hj=>by rw [cell_of hfnd];simp;simp at hlen;omega)
     (fun j hj=>by
       have:=hfr (m+0+j) (by omega)
       simp only [World.frozen?,hfnd]
       cases hd:(decide (fr.1≤m+0+j)&&decide (m+0+j < fr.2)) with
       |false=>simpa using hd
       |true=>simp at hd;exact absurd (by simpa using hd) this)
     (strCells_oneCell q)
    simp only [Nat.add_zero] at hst
    have hr:(Builtin.append_ #[t,s] ty #[.slice (some ⟨b,0,none⟩) m cap,.string q]).run P w=.ok (.slice (some ⟨b,0,none⟩) (m+q.size) cap) (w.setCells b m (strCells q)):=by
     simp [Builtin.append_,run_underlying ht,run_underlying hu,sizeOf,typeInfo,hi,hik,Builtin.lenOf,hroom,hf,Addr.add_lit,hst]
    have hx1:patch (xs++rest).toArray.toList m (strCells q)=(xs++bsv q.data.toList)++rest.drop (strCells q).length:=by
     simp only [List.toList_toArray,patch]
     rw [←hxl',List.take_left]
     congr 1
     rw [List.drop_append]
     simp
    have hat:=setCells_at (T:=e) (fr:=fr) (strCells q) m _ w hfnd (by simpa using hlen)
    rw [hx1] at hat
    refine ⟨_,[(b,.cells ((xs++bsv q.data.toList)++rest.drop (strCells q).length).toArray e fr)],_,hr,.inr ⟨b,cap,rest.drop (strCells q).length,fr,rfl,rfl,?_,?_,hroom,hcm,?_⟩,?_⟩
    ·rw [List.length_append,hxl',←strCells_bsv,strCells_length];omega
    ·rw [List.length_drop,hrl',strCells_length];omega
    ·intro j hj
     refine hfr j ?_
     simp only [List.length_append,List.length_drop,←strCells_bsv] at hj hlen ⊢
     omega
    ·exact hw.upd .here hat (fun q hq=>setCells_ne _ _ _ _ hq) (setCells_out _ _ _).1 (setCells_out _ _ _).2
   ·have hrd0:RdAt ([(b,.cells (xs++rest).toArray e fr)]::(A++B)) ⟨b,0,none⟩ xs:=.inr ⟨b,0,_,_,_,rfl,.here,fun j u hj=>by rw [Nat.zero_add];simpa using getE_app hj⟩
    have hr:=run_append_grow_string (P:=P) w t s ty e i (.int .u8 0) ht hu hi hzz ⟨b,0,none⟩ m cap xs (by rw [hik];exact hxl) (hrd0.cells hw) q (by omega) (by omega) (growslice_fits (by omega) hb)
    refine ⟨_,[(w.heap.size,.cells ((xs++bsv q.data.toList)++(Builtin.zeroCells (Value.int .u8 0).cells (grownCap w (m+q.size) cap e - (m+q.size))).toList).toArray e (0,0))],_,hr,.inr ⟨w.heap.size,_,_,(0,0),rfl,rfl,?_,?_,grownCap_ge w (m+q.size) cap e,grownCap_le_maxLen w (m+q.size) cap e h63,FrOk.zero _⟩,?_⟩
    ·have hxl':xs.length=m:=by simpa using hxl
     rw [List.length_append,hxl',←strCells_bsv,strCells_length];omega
    ·simp [size_zeroCells,Value.cells]
    ·have h0:=(hw.drop.same (w':=w.drew) rfl rfl rfl).alloc (.cells (xs.toArray++(strCells q).toArray++Builtin.zeroCells (Value.int .u8 0).cells (grownCap w (m+q.size) cap e - (m+q.size))) e)
     have e1:(xs++bsv q.data.toList++(Builtin.zeroCells (Value.int .u8 0).cells (grownCap w (m+q.size) cap e - (m+q.size))).toList).toArray=xs.toArray++(strCells q).toArray++Builtin.zeroCells (Value.int .u8 0).cells (grownCap w (m+q.size) cap e - (m+q.size)):=by
      apply Array.ext';simp [strCells_bsv]
     rw [e1];exact h0
 obtain ⟨v',C',w',hr,ho,hw'⟩:=main
 unfold Oper.wp
 have hrun:(execOp a.eval ⟨some d,.call ⟨.builtin .append,#[x,y],#[t,s]⟩,ty,ps,af,g⟩).run P w=.ok (.value v') w':=by
  simp only [execOp,resolve,invoke,builtin,Sem.run_bind,Sem.run_pure,Result.andThen_ok,List.map_toArray,List.map_cons,List.map_nil,ha.eval hx,ha.eval hy,hr]
 rw [hrun,Oper.upon_value]
 exact (hk _ _ (h v' C' ho)).out _ _ (ha.put v' hn) (hw'.perm List.perm_middle.symm)⟩
end
end Go.Vx
namespace Go.Ob
open Go Go.Vx Go.Proofs.YtemdlifojcgplaaGreatDoor Go.Lib
set_option linter.all false
variable [W0]
theorem str_app (a b:List UInt8):str a++str b=str (a++b):=by
 apply ByteArray.ext
 simp [str]
theorem str_inj {a b:List UInt8}:str a=str b↔a=b:=by
 constructor
 ·intro h
  have:=congrArg (fun s=>s.data.toList) h
  simpa [str] using this
 ·rintro rfl;rfl
theorem str_ext (t:List UInt8) (l h:Nat):(str t).extract l h=str ((t.drop l).take (h - l)):=by
 apply ByteArray.ext
 apply Array.ext'
 simp [str,List.drop_take]
theorem str_dec (t:List UInt8) (pos:Nat):Utf8.decode (str t) pos=decodeL (t.drop pos):=(decodeL_drop (str t) pos).symm
section
variable {P : Program} {n : Nat} {M : List (Nat × Value)} {L : List Chunk} {K : List (Nat × Value) → List Chunk → Prop}
variable {d : Nat} {ty : TypeId} {ps : String} {af : Array Edge} {g : Option (Nat × Bool)} {x y : Operand} {v : Value}
theorem EV_catL (a b:List UInt8) {t u:TypeId} (hx:ev M x=some (.string (str a))) (hy:ev M y=some (.string (str b))) (hs:a.length+b.length≤9223372036854775807) :
 EV P n ⟨some d,.binOp .add t x y u,ty,ps,af,g⟩ M L d (.string (str (a++b))):=by
 have:=EV_strCat (P:=P) (n:=n) (M:=M) (L:=L) (d:=d) (ty:=ty) (ps:=ps) (af:=af) (g:=g) (t:=t) (u:=u) hx hy (by simpa [str_size] using hs)
 rw [str_app] at this
 exact this
theorem EV_cutL (t:List UInt8) (l h:Nat) {T:Nat} [hs:ST P T] {lo hi:Option Operand} (hx:ev M x=some (.string (str t))) (hl:bnd M lo 0=some (l:Int)) (hh:bnd M hi t.length=some (h:Int))
 (h1:l≤h) (h2:h≤t.length):EV P n ⟨some d,.slice T x lo hi none,ty,ps,af,g⟩ M L d (.string (str ((t.drop l).take (h - l)))):=by
 have:=EV_sliceStr (P:=P) (n:=n) (M:=M) (L:=L) (d:=d) (ty:=ty) (ps:=ps) (af:=af) (g:=g) (T:=T) hx hl hh h1 h2
 rw [str_ext] at this
 exact this
end
omit [W0] in
theorem kdL_hit {k:Nat} (h1:1≤k) (h2:k≤4):kdL (nmL k)=k:=by
 match k,h1,h2 with
 |1,_,_=>decide
 |2,_,_=>decide
 |3,_,_=>decide
 |4,_,_=>decide
omit [W0] in
theorem kdL_miss {s:List UInt8} (h:∀j,1≤j→j≤4→nmL j≠s):kdL s=0:=by
 have h1:=h 1 (by decide) (by decide)
 have h2:=h 2 (by decide) (by decide)
 have h3:=h 3 (by decide) (by decide)
 have h4:=h 4 (by decide) (by decide)
 unfold kdL
 exact (if_neg (Ne.symm h1)).trans ((if_neg (Ne.symm h2)).trans ((if_neg (Ne.symm h3)).trans (if_neg (Ne.symm h4))))
omit [W0] in
theorem nmI_nat {k:Nat} (h1:1≤k) (h2:k≤4):nmI (k:Int)=nmL k:=by
 unfold nmI
 rw [if_pos (by omega)]
 rfl
omit [W0] in
theorem nmI_no {k:Int} (h:¬(1≤k∧k≤4)):nmI k=[]:=if_neg h
omit [W0] in
theorem nmI_len (k:Int):(nmI k).length≤6:=by
 unfold nmI
 split
 ·rename_i h
  obtain ⟨n,rfl⟩:∃n:Nat,k=n:=⟨k.toNat,by omega⟩
  match n,h with
  |1,_=>decide
  |2,_=>decide
  |3,_=>decide
  |4,_=>decide
  |0,h=>exact absurd h.1 (by decide)
  |n+5,h=>omega
 ·exact Nat.zero_le _
end Go.Ob
namespace Go.Proofs.YtemdlifojcgplaaGreatDoor
open Go Go.Vx Go.Ob
set_option linter.all false
variable [W0]
set_option maxRecDepth 4000
theorem obname_n (k:Int) (L:List Chunk):GvP Tryz.prog 36 [.int .i64 k].toArray L (.string (str (nmI k))):=by
 refine Gv.of_body Tryz.func36 rfl rfl ?_
 (repeat' first|refine kW ?_|refine kU fun bk=>?_|refine kV fun hc=>?_|refine kZ (fun hc=>?_) fun hc=>?_|fail)
 ·subst hc;exact kE
 ·subst hc;exact kE
 ·subst hc;exact kE
 ·subst hc;exact kE
 ·refine kR ?_
  exact ⟨_,iC,by rw [nmI_no (by omega)];rfl,rfl⟩
theorem obkind_n (s:List UInt8) (L:List Chunk):GvP Tryz.prog 62 [.string (str s)].toArray L (.tuple #[.int .i64 (kdL s:Int),.bool (decide (kdL s≠0))]):=by
 refine Gv.of_body Tryz.func62 rfl rfl ?_
 refine kW ?_
 refine WC_loop (X:=Nat) (fun k=>[(0,.string (str s)),(4,.int .i64 (k:Int))]) (fun _=>L) (fun k=>1≤k∧k≤5∧∀j,1≤j→j < k→nmL j≠s) (fun k=>5 - k) 1 ⟨by omega,by omega,fun j h1 h2=>by omega⟩ iS (fun w h=>h) ?_
 intro k ⟨h1,h2,h3⟩
 (repeat' first|refine kW ?_|refine kU fun bk=>?_|refine kV fun hc=>?_|refine kZ (fun hc=>?_) fun hc=>?_|fail)
 ·refine cP rfl rfl (obname_n _ _) ?_
  rw [nmI_nat h1 (by omega)]
  (repeat' first|refine kW ?_|refine kU fun bk=>?_|refine kV fun hc=>?_|refine kZ (fun hc=>?_) fun hc=>?_|fail)
  skip
  ·have hc:=str_inj.1 hc
   refine kR ?_
   refine ⟨_,iC,?_,rfl⟩
   rw [←hc,kdL_hit h1 (by omega),decide_eq_true (by omega)]
   rfl
  ·refine WQ_round (X:=Nat) (μ:=fun k=>5 - k) (x:=k) (k+1) (by omega) ⟨by omega,by omega,fun j g1 g2=>?_⟩ iS (fun w h=>h)
   rcases Nat.lt_or_ge j k with h|h
   ·exact h3 j g1 h
   ·rw [show j=k from by omega];exact fun hh=>hc (str_inj.2 hh)
 ·refine kR ?_
  refine ⟨_,iC,?_,rfl⟩
  rw [kdL_miss (fun j g1 g2=>h3 j g1 (by omega))]
  rfl
theorem refname_n (k:Int) (L:List Chunk):GvP Tryz.prog 43 [.int .i64 k].toArray L (.string (str (nmI k))):=by
 refine Gv.of_body Tryz.func43 rfl rfl ?_
 refine kW ?_
 refine OW_buildSlice (cs:=[.string (str (nmL 0)),.string (str (nmL 1)),.string (str (nmL 2)),.string (str (nmL 3)),.string (str (nmL 4))]) rfl (by rfl) (by simp [fillL,patch,Value.cells,zeros];exact ⟨rfl,rfl,rfl,rfl,rfl⟩) (by omega) rfl rfl (fun bn=>?_)
 (repeat' first|refine kW ?_|refine kU fun bk=>?_|refine kV fun hc=>?_|refine kZ (fun hc=>?_) fun hc=>?_|fail)
 ·refine kR ?_
  exact ⟨_,iC,by rw [nmI_no (by omega)];rfl,rfl⟩
 ·refine kR ?_
  exact ⟨_,iC,by rw [nmI_no (by omega)];rfl,rfl⟩
 ·obtain ⟨j,rfl⟩:∃j:Nat,k=j:=⟨k.toNat,by omega⟩
  have hj:j < 5:=by omega
  refine OW_EV (EV_indexAddr0 (j:=j) rfl rfl rfl hj) rfl ?_
  refine kW ?_
  refine OW_EV (v:=.string (str (nmI (j:Int)))) (EV_loadc rfl Fnd.here (by
   match j,hj with
   |0,_=>rfl
   |1,_=>rfl
   |2,_=>rfl
   |3,_=>rfl
   |4,_=>rfl)) rfl ?_
  refine kW ?_
  exact kE
end Go.Proofs.YtemdlifojcgplaaGreatDoor
namespace Go.Vx
open Go
set_option linter.all false
variable [W0]
theorem wrap_nat {k:IntKind} (hs:k.signed=false) {m:Nat} (h:m < 2 ^ k.bits):k.wrap (m:Int)=(m:Int):=by
 unfold IntKind.wrap
 simp only [hs,Bool.false_and,Bool.false_eq_true,if_false]
 have c1:((2:Int) ^ k.bits)=((2 ^ k.bits:Nat):Int):=by simp
 rw [c1]
 have h2:((m:Nat):Int) < ((2 ^ k.bits:Nat):Int):=by exact_mod_cast h
 exact Int.emod_eq_of_lt (Int.natCast_nonneg m) h2
theorem ofInt_toNat {b m:Nat} (h:m < 2 ^ b):(BitVec.ofInt b (m:Int)).toNat=m:=by
 rw [BitVec.toNat_ofInt]
 have h2:((m:Nat):Int) < ((2 ^ b:Nat):Int):=by exact_mod_cast h
 rw [Int.emod_eq_of_lt (Int.natCast_nonneg m) h2]
 rfl
section
variable {P : Program} {n : Nat} {Q : Exit → Act → World → Prop} {M : List (Nat × Value)} {L : List Chunk} {K : List (Nat × Value) → List Chunk → Prop}
variable {d : Nat} {ty : TypeId} {ps : String} {af : Array Edge} {g : Option (Nat × Bool)} {x y : Operand} {v : Value}
theorem EV_nshl {t u:TypeId} {k k':IntKind} {i j:Int} (a s:Nat) (hx:ev M x=some (.int k i)) (hy:ev M y=some (.int k' j)) (hi:i=(a:Int)) (hj:j=(s:Int)) (hs:k.signed=false) (hr:a * 2 ^ s < 2 ^ k.bits) :
 EV P n ⟨some d,.binOp .shl t x y u,ty,ps,af,g⟩ M L d (.int k ((a * 2 ^ s:Nat):Int)):=by
 subst hi hj
 refine EV_shl hx hy (by omega) ?_
 rw [Int.toNat_natCast]
 rcases Nat.lt_or_ge k.bits s with h|h
 ·have h0:a=0:=by
   rcases Nat.eq_zero_or_pos a with h0|h0
   ·exact h0
   ·exfalso
    have h1:2 ^ k.bits≤2 ^ s:=Nat.pow_le_pow_right (by decide) (Nat.le_of_lt h)
    have h2:1 * 2 ^ s≤a * 2 ^ s:=Nat.mul_le_mul_right _ h0
    omega
  subst h0
  have:=wrap_nat hs (m:=0) (Nat.pow_pos (by decide))
  simpa using this
 ·rw [Nat.min_eq_left h]
  have c:(a:Int) * 2 ^ s=((a * 2 ^ s:Nat):Int):=by simp
  rw [c]
  exact wrap_nat hs hr
theorem EV_nshr {t u:TypeId} {k k':IntKind} {i j:Int} (a s:Nat) (hx:ev M x=some (.int k i)) (hy:ev M y=some (.int k' j)) (hi:i=(a:Int)) (hj:j=(s:Int)) (hr:a < 2 ^ k.bits) :
 EV P n ⟨some d,.binOp .shr t x y u,ty,ps,af,g⟩ M L d (.int k ((a / 2 ^ s:Nat):Int)):=by
 subst hi hj
 refine EV_shr hx hy (by omega) ?_
 rw [Int.toNat_natCast]
 have c:∀q:Nat,(a:Int).fdiv (2 ^ q)=((a / 2 ^ q:Nat):Int):=fun q=>by
  have:((2:Int) ^ q)=((2 ^ q:Nat):Int):=by simp
  rw [this,Int.fdiv_eq_ediv_of_nonneg _ (Int.natCast_nonneg _),←Int.natCast_ediv]
 rw [c]
 rcases Nat.lt_or_ge k.bits s with h|h
 ·rw [Nat.min_eq_right (Nat.le_of_lt h),Nat.div_eq_of_lt hr,Nat.div_eq_of_lt (Nat.lt_of_lt_of_le hr (Nat.pow_le_pow_right (by decide) (Nat.le_of_lt h)))]
 ·rw [Nat.min_eq_left h]
theorem EV_nand {t u:TypeId} {k:IntKind} {i j:Int} (a s:Nat) (hx:ev M x=some (.int k i)) (hy:ev M y=some (.int k j)) (hi:i=(a:Int)) (hj:j=((2 ^ s - 1:Nat):Int)) (hs:k.signed=false) (ha:a < 2 ^ k.bits) (hb:s≤k.bits) :
 EV P n ⟨some d,.binOp .and t x y u,ty,ps,af,g⟩ M L d (.int k ((a % 2 ^ s:Nat):Int)):=by
 subst hi hj
 refine EV_bit (op:=.and) hx hy ?_
 have h1:2 ^ s - 1 < 2 ^ k.bits:=by
  have:=Nat.pow_le_pow_right (n:=2) (by decide) hb
  have h0:0 < 2 ^ s:=Nat.pow_pos (by decide)
  omega
 show some (k.wrap ((BitVec.ofInt k.bits (a:Int)&&&BitVec.ofInt k.bits ((2 ^ s - 1:Nat):Int)).toNat:Int))=_
 rw [BitVec.toNat_and,ofInt_toNat ha,ofInt_toNat h1,Nat.and_two_pow_sub_one_eq_mod,wrap_nat hs (Nat.lt_of_le_of_lt (Nat.mod_le _ _) ha)]
theorem or_add {a b s:Nat} (h:a < 2 ^ s):a|||b * 2 ^ s=a+b * 2 ^ s:=by
 rw [Nat.mul_comm,Nat.or_comm,←Nat.two_pow_add_eq_or_of_lt h,Nat.add_comm]
theorem EV_nor {t u:TypeId} {k:IntKind} {i j:Int} (a b s:Nat) (hx:ev M x=some (.int k i)) (hy:ev M y=some (.int k j)) (hi:i=(a:Int)) (hj:j=((b * 2 ^ s:Nat):Int)) (hs:k.signed=false) (ha:a < 2 ^ s) (hr:a+b * 2 ^ s < 2 ^ k.bits) :
 EV P n ⟨some d,.binOp .or t x y u,ty,ps,af,g⟩ M L d (.int k ((a+b * 2 ^ s:Nat):Int)):=by
 subst hi hj
 refine EV_bit (op:=.or) hx hy ?_
 show some (k.wrap ((BitVec.ofInt k.bits (a:Int)|||BitVec.ofInt k.bits ((b * 2 ^ s:Nat):Int)).toNat:Int))=_
 rw [BitVec.toNat_or,ofInt_toNat (by omega),ofInt_toNat (by omega),or_add ha,wrap_nat hs hr]
theorem EV_nor' {t u:TypeId} {k:IntKind} {i j:Int} (a b s:Nat) (hx:ev M x=some (.int k i)) (hy:ev M y=some (.int k j)) (hi:i=((b * 2 ^ s:Nat):Int)) (hj:j=(a:Int)) (hs:k.signed=false) (ha:a < 2 ^ s) (hr:a+b * 2 ^ s < 2 ^ k.bits) :
 EV P n ⟨some d,.binOp .or t x y u,ty,ps,af,g⟩ M L d (.int k ((a+b * 2 ^ s:Nat):Int)):=by
 subst hi hj
 refine EV_bit (op:=.or) hx hy ?_
 show some (k.wrap ((BitVec.ofInt k.bits ((b * 2 ^ s:Nat):Int)|||BitVec.ofInt k.bits (a:Int)).toNat:Int))=_
 rw [BitVec.toNat_or,ofInt_toNat (by omega),ofInt_toNat (by omega),Nat.or_comm,or_add ha,wrap_nat hs hr]
theorem EV_nconv {s t:Nat} {k k':IntKind} [h1:IK P s k] [h2:IK P t k'] {i:Int} (a:Nat) (hx:ev M x=some (.int k i)) (hi:i=(a:Int)) (hs:k'.signed=false) (ha:a < 2 ^ k'.bits) :
 EV P n ⟨some d,.convert s t x,ty,ps,af,g⟩ M L d (.int k' (a:Int)):=by
 subst hi
 exact EV_convII hx (wrap_nat hs ha)
theorem wrap_byte (a:Nat):IntKind.u8.wrap (a:Int)=((UInt8.ofNat a).toNat:Int):=by
 rw [wrap_u8,UInt8.toNat_ofNat']
 omega
theorem EV_nbyte {s t:Nat} {k:IntKind} [h1:IK P s k] [h2:IK P t .u8] {i:Int} (a:Nat) (hx:ev M x=some (.int k i)) (hi:i=(a:Int)) :
 EV P n ⟨some d,.convert s t x,ty,ps,af,g⟩ M L d (.int .u8 ((UInt8.ofNat a).toNat:Int)):=by
 subst hi
 refine EV_convII hx ?_
 rw [wrap_u8,UInt8.toNat_ofNat']
 omega
theorem EV_quoN {t u:TypeId} {i j:Int} (a b:Nat) (hx:ev M x=some (.int .i64 i)) (hy:ev M y=some (.int .i64 j)) (hi:i=(a:Int)) (hj:j=(b:Int)) (hb:b≠0) (ha:a≤9223372036854775807) :
 EV P n ⟨some d,.binOp .quo t x y u,ty,ps,af,g⟩ M L d (.int .i64 ((a / b:Nat):Int)):=by
 subst hi hj
 have:=EV_quo (P:=P) (n:=n) (L:=L) (d:=d) (ty:=ty) (ps:=ps) (af:=af) (g:=g) (t:=t) (u:=u) hx hy (by omega)
 have e:IntKind.i64.wrap (((a:Nat):Int).tdiv (b:Int))=((a / b:Nat):Int):=by
  rw [Int.tdiv_eq_ediv_of_nonneg (by omega),←Int.natCast_ediv]
  have:a / b≤a:=Nat.div_le_self _ _
  generalize a / b=q at *
  exact wrap_i64 (by omega) (by omega)
 rwa [e] at this
theorem EV_remN {t u:TypeId} {k:IntKind} {i j:Int} (a b:Nat) (hx:ev M x=some (.int k i)) (hy:ev M y=some (.int k j)) (hi:i=(a:Int)) (hj:j=(b:Int)) (hb:b≠0) :
 EV P n ⟨some d,.binOp .rem t x y u,ty,ps,af,g⟩ M L d (.int k ((a % b:Nat):Int)):=by
 subst hi hj
 have:=EV_rem (P:=P) (n:=n) (L:=L) (d:=d) (ty:=ty) (ps:=ps) (af:=af) (g:=g) (t:=t) (u:=u) hx hy (by omega)
 have e:((a:Nat):Int).tmod (b:Int)=((a % b:Nat):Int):=by
  rw [Int.tmod_eq_emod_of_nonneg (by omega),Int.natCast_emod]
 rwa [e] at this
end
omit [W0] in
def val:List UInt8→Nat
 |[]=>0
 |b::r=>b.toNat+256 * val r
omit [W0] in
def byB (V i:Nat):UInt8:=UInt8.ofNat (V / 2 ^ (8 * i))
omit [W0] in
def leB (V k:Nat):List UInt8:=(List.range k).map (byB V)
theorem p256 (i:Nat):2 ^ (8 * (i+1))=256 * 2 ^ (8 * i):=by
 rw [Nat.mul_add,Nat.pow_add,Nat.mul_comm]
theorem val_lt:∀d:List UInt8,val d < 2 ^ (8 * d.length)
 |[]=>by simp [val]
 |b::r=>by
  have:=val_lt r
  have hb:=b.toNat_lt
  rw [List.length_cons,p256]
  simp only [val]
  omega
theorem val_get:∀(d:List UInt8) (i:Nat),i < d.length→val d / 2 ^ (8 * i) % 256=(d.getD i 0).toNat
 |[],i,h=>by simp at h
 |b::r,0,_=>by
  have hb:=b.toNat_lt
  simp [val]
 |b::r,i+1,h=>by
  have hb:=b.toNat_lt
  have h2:=val_get r i (by simpa using h)
  rw [p256,←Nat.div_div_eq_div_mul]
  have e:val (b::r) / 256=val r:=by simp only [val];omega
  rw [e,h2]
  simp
theorem leB_length (V k:Nat):(leB V k).length=k:=by simp [leB]
theorem leB_succ (V k:Nat):leB V (k+1)=leB V k++[byB V k]:=by simp [leB,List.range_succ]
theorem byB_toNat (V i:Nat):(byB V i).toNat=V / 2 ^ (8 * i) % 256:=by simp [byB,UInt8.toNat_ofNat']
theorem byB_add {V N x i:Nat} (h:8 * (i+1)≤N):byB (V+2 ^ N * x) i=byB V i:=by
 apply UInt8.toNat_inj.1
 rw [byB_toNat,byB_toNat]
 obtain ⟨j,rfl⟩:=Nat.le.dest h
 rw [Nat.pow_add,p256,show 256 * 2 ^ (8 * i) * 2 ^ j * x=2 ^ (8 * i) * (256 * (2 ^ j * x)) from by ac_rfl,Nat.add_mul_div_left _ _ (Nat.pow_pos (by decide)),Nat.add_mul_mod_self_left]
theorem leB_add {V N x k:Nat} (h:8 * k≤N):leB (V+2 ^ N * x) k=leB V k:=by
 unfold leB
 refine List.map_congr_left fun i hi=>?_
 have:=List.mem_range.1 hi
 exact byB_add (by omega)
theorem byB_val {d:List UInt8} {i:Nat} (h:i < d.length):byB (val d) i=d.getD i 0:=by
 apply UInt8.toNat_inj.1
 rw [byB_toNat,val_get d i h]
theorem leB_app {V k:Nat} (h:V < 2 ^ (8 * k)) (b:List UInt8):leB (V+2 ^ (8 * k) * val b) (k+b.length)=leB V k++b:=by
 apply List.ext_getElem?
 intro i
 rcases Nat.lt_or_ge i k with hi|hi
 ·rw [List.getElem?_append_left (by rw [leB_length];exact hi)]
  simp only [leB,List.getElem?_map]
  rw [List.getElem?_range (by omega),List.getElem?_range hi]
  simp only [Option.map_some]
  rw [byB_add (by omega)]
 ·rw [List.getElem?_append_right (by rw [leB_length];exact hi),leB_length]
  rcases Nat.lt_or_ge i (k+b.length) with h2|h2
  ·simp only [leB,List.getElem?_map]
   rw [List.getElem?_range h2]
   have e:byB (V+2 ^ (8 * k) * val b) i=byB (val b) (i - k):=by
    apply UInt8.toNat_inj.1
    rw [byB_toNat,byB_toNat,show 8 * i=8 * k+8 * (i - k) from by omega,Nat.pow_add,←Nat.div_div_eq_div_mul,Nat.add_mul_div_left _ _ (Nat.pow_pos (by decide)),Nat.div_eq_of_lt h,Nat.zero_add]
   have h3:i - k < b.length:=by omega
   simp only [Option.map_some,e,byB_val h3]
   simp [List.getD_eq_getElem?_getD,h3]
  ·rw [List.getElem?_eq_none (by rw [leB_length];exact h2),List.getElem?_eq_none (by omega)]
theorem val_app (a:List UInt8) (x:UInt8):val (a++[x])=val a+2 ^ (8 * a.length) * x.toNat:=by
 induction a with
 |nil=>simp [val]
 |cons b r ih=>
  simp only [List.cons_append,val,ih,List.length_cons,p256]
  rw [Nat.mul_add,Nat.mul_assoc]
  omega
theorem val_leB:∀(k V:Nat),val (leB V k)=V % 2 ^ (8 * k)
 |0,V=>by simp [leB,val,Nat.mod_one]
 |k+1,V=>by
  rw [leB_succ,val_app,val_leB k V,leB_length,byB_toNat,p256,Nat.mul_comm 256,Nat.mod_mul]
omit [W0] in
def mir (v:Nat):Nat→Nat
 |0=>0
 |i+1=>2 * mir v i+v / 2 ^ i % 2
theorem mir_lt (v:Nat):∀i,mir v i < 2 ^ i
 |0=>by simp [mir]
 |i+1=>by
  have:=mir_lt v i
  simp only [mir]
  omega
end Go.Vx
namespace Go.Proofs.YtemdlifojcgplaaGreatDoor
open Go Go.Vx Go.Ob
set_option linter.all false
variable [W0]
set_option maxRecDepth 4000
omit [W0] in
theorem dgF_eq : ∀ (f n : Nat), n < 10 ^ (f + 1) → dgF (f + 1) n = Lib.decDigits n
  | 0, n, h => by
    unfold dgF
    rw [if_pos (by simpa using h), Lib.decDigits_one (by simpa using h)]
  | f + 1, n, h => by
    rw [Lib.decDigits]
    unfold dgF
    split
    · rfl
    · rw [dgF_eq f (n / 10) (by rw [Nat.pow_succ] at h; omega)]
omit [W0] in
theorem dgL_eq {n : Nat} (h : n < 100000000000000000000) : dgL n = Lib.decDigits n := dgF_eq 19 n h
theorem numdigits_le {u : Nat} (h1 : 1 ≤ u) (h2 : u < 18446744073709551616) : Lib.nDigits u ≤ 20 := by
  have := Lib.numDigits_eq u h1 h2
  split at this <;> omega
theorem numdigits_lt (u : Nat) (h : u < 18446744073709551616) : Lib.nDigits u ≤ 20 := by
  rcases Nat.eq_zero_or_pos u with rfl | h1
  · rw [Lib.nDigits_small (by decide)]; decide
  · exact numdigits_le h1 h
theorem hdL_len (k n : Int) (hn : n ≤ 9223372036854775807) : (hdL k n).length ≤ 28 := by
  have h6 := nmI_len k
  have hd := numdigits_lt (max n 0).toNat (by omega)
  rw [← Lib.decDigits_length] at hd
  unfold hdL
  rw [dgL_eq (by omega)]
  simp only [List.length_append, List.length_cons, List.length_nil]
  omega
theorem digits_n (n : Nat) (L : List Chunk) (hn : n ≤ 9223372036854775807) : GvP Tryz.prog 44 [.int .i64 (n : Int)].toArray L (.string (str (dgL n))) := by
  refine Gv.of_body Tryz.func44 rfl rfl ?_
  have hd := numdigits_lt n (by omega)
  rw [← Lib.decDigits_length] at hd
  have hby : ∀ a : Nat, a < 10 → IntKind.u8.wrap (48 + IntKind.u8.wrap (a : Int)) = ((UInt8.ofNat (48 + a)).toNat : Int) := fun a ha => by
    rw [wrap_u8, wrap_u8, UInt8.toNat_ofNat']; omega
  rw [dgL_eq (by omega)]
  (repeat' first|refine kW ?_|refine kU fun bk=>?_|refine kV fun hc=>?_|refine kZ (fun hc=>?_) fun hc=>?_|fail)
  refine WC_loop (X := Nat × List UInt8) (fun x => [(0, .int .i64 (x.1 : Int)), (3, .string (str x.2))]) (fun _ => L) (fun x => x.1 ≤ n ∧ Lib.decDigits x.1 ++ x.2 = Lib.decDigits n) (fun x => x.1) (n, []) ⟨Nat.le_refl _, by simp⟩ iS (fun w h => h) ?_
  intro x ⟨h1, h2⟩
  obtain ⟨k, s⟩ := x
  simp only at h1 h2 ⊢
  have hsl : (Lib.decDigits k).length + s.length ≤ 20 := by rw [← List.length_append, h2]; exact hd
  (repeat' first|refine kW ?_|refine kU fun bk=>?_|refine kV fun hc=>?_|refine kZ (fun hc=>?_) fun hc=>?_|fail)
  · refine OW_EV (EV_remN k 10 rfl rfl rfl rfl (by decide)) rfl ?_
    (repeat' first|refine kW ?_|refine kU fun bk=>?_|refine kV fun hc=>?_|refine kZ (fun hc=>?_) fun hc=>?_|fail)
    refine OW_EV (EV_ari rfl rfl rfl) rfl ?_
    obtain ⟨c, hcq⟩ : ∃ c, c = UInt8.ofNat (48 + k % 10) := ⟨_, rfl⟩
    rw [hby _ (by omega), ← hcq]
    (repeat' first|refine kW ?_|refine kU fun bk=>?_|refine kV fun hc=>?_|refine kZ (fun hc=>?_) fun hc=>?_|fail)
    refine OW_buildSlice (cs := bsv [c]) rfl (by rfl) (by simp [fillL, patch, Value.cells, zeros]; rfl) (by omega) rfl rfl (fun b1 => ?_)
    (repeat' first|refine kW ?_|refine kU fun bk=>?_|refine kV fun hc=>?_|refine kZ (fun hc=>?_) fun hc=>?_|fail)
    refine OW_EV (EV_convStr (b := [c]) (m := 1) rfl (sl_cells Fnd.here rfl (by simp))) rfl ?_
    (repeat' first|refine kW ?_|refine kU fun bk=>?_|refine kV fun hc=>?_|refine kZ (fun hc=>?_) fun hc=>?_|fail)
    refine OW_EV (EV_catL [c] s rfl rfl (by simp; omega)) rfl ?_
    (repeat' first|refine kW ?_|refine kU fun bk=>?_|refine kV fun hc=>?_|refine kZ (fun hc=>?_) fun hc=>?_|fail)
    refine OW_EV (EV_quoN k 10 rfl rfl rfl rfl (by decide) (by omega)) rfl ?_
    (repeat' first|refine kW ?_|refine kU fun bk=>?_|refine kV fun hc=>?_|refine kZ (fun hc=>?_) fun hc=>?_|fail)
    refine WQ_round (X := Nat × List UInt8) (μ := fun x => x.1) (x := (k, s)) (k / 10, [c] ++ s) (by simp only; omega) ⟨by simp only; omega, ?_⟩ iS (fun w h => iH h)
    rw [← h2]
    simp only [hcq]
    conv => rhs; rw [Lib.decDigits, dif_neg (by omega)]
    simp
  · refine OW_EV (EV_ari rfl rfl rfl) rfl ?_
    obtain ⟨c, hcq⟩ : ∃ c, c = UInt8.ofNat (48 + k) := ⟨_, rfl⟩
    rw [hby k (by omega), ← hcq]
    (repeat' first|refine kW ?_|refine kU fun bk=>?_|refine kV fun hc=>?_|refine kZ (fun hc=>?_) fun hc=>?_|fail)
    refine OW_buildSlice (cs := bsv [c]) rfl (by rfl) (by simp [fillL, patch, Value.cells, zeros]; rfl) (by omega) rfl rfl (fun b1 => ?_)
    (repeat' first|refine kW ?_|refine kU fun bk=>?_|refine kV fun hc=>?_|refine kZ (fun hc=>?_) fun hc=>?_|fail)
    refine OW_EV (EV_convStr (b := [c]) (m := 1) rfl (sl_cells Fnd.here rfl (by simp))) rfl ?_
    (repeat' first|refine kW ?_|refine kU fun bk=>?_|refine kV fun hc=>?_|refine kZ (fun hc=>?_) fun hc=>?_|fail)
    refine OW_EV (EV_catL [c] s rfl rfl (by simp; omega)) rfl ?_
    (repeat' first|refine kW ?_|refine kU fun bk=>?_|refine kV fun hc=>?_|refine kZ (fun hc=>?_) fun hc=>?_|fail)
    refine kR ?_
    refine ⟨L, iC, ?_, rfl⟩
    rw [← h2, Lib.decDigits_one (by omega), ← hcq]
    rfl
theorem refheader_n (k n : Int) (L : List Chunk) (hn : n ≤ 9223372036854775807) : GvP Tryz.prog 20 [.int .i64 k, .int .i64 n].toArray L (.string (str (hdL k n))) := by
  refine Gv.of_body (args := [.int .i64 k, .int .i64 n]) Tryz.func20 rfl rfl ?_
  (repeat' first|refine kW ?_|refine kU fun bk=>?_|refine kV fun hc=>?_|refine kZ (fun hc=>?_) fun hc=>?_|fail)
  have h6 := nmI_len k
  refine OW_callP rfl rfl rfl (refname_n k _) rfl ?_
  (repeat' first|refine kW ?_|refine kU fun bk=>?_|refine kV fun hc=>?_|refine kZ (fun hc=>?_) fun hc=>?_|fail)
  refine OW_EV (EV_catL (nmI k) [32] rfl rfl (by simp; omega)) rfl ?_
  (repeat' first|refine kW ?_|refine kU fun bk=>?_|refine kV fun hc=>?_|refine kZ (fun hc=>?_) fun hc=>?_|fail)
  obtain ⟨i, hi⟩ : ∃ i : Nat, max n 0 = (i : Int) := ⟨(max n 0).toNat, by omega⟩
  rw [hi]
  have hi2 : i ≤ 9223372036854775807 := by omega
  have hd := numdigits_lt i (by omega)
  rw [← Lib.decDigits_length, ← dgL_eq (by omega)] at hd
  refine OW_callP rfl rfl rfl (digits_n i _ hi2) rfl ?_
  (repeat' first|refine kW ?_|refine kU fun bk=>?_|refine kV fun hc=>?_|refine kZ (fun hc=>?_) fun hc=>?_|fail)
  refine OW_EV (EV_catL (nmI k ++ [32]) (dgL i) rfl rfl (by simp; omega)) rfl ?_
  (repeat' first|refine kW ?_|refine kU fun bk=>?_|refine kV fun hc=>?_|refine kZ (fun hc=>?_) fun hc=>?_|fail)
  refine OW_EV (EV_catL (nmI k ++ [32] ++ dgL i) [0] rfl rfl (by simp; omega)) rfl ?_
  (repeat' first|refine kW ?_|refine kU fun bk=>?_|refine kV fun hc=>?_|refine kZ (fun hc=>?_) fun hc=>?_|fail)
  refine kR ?_
  exact ⟨_, iC, by unfold hdL; rw [hi, Int.toNat_natCast]; rfl, rfl⟩
theorem refid_n (k : Int) (t : List UInt8) (L : List Chunk) (ht : t.length ≤ 140737488350000) : GvP Tryz.prog 7 [.int .i64 k, .string (str t)].toArray L (.string (str (idL k t))) := by
  refine Gv.of_body (args := [.int .i64 k, .string (str t)]) Tryz.func7 rfl rfl ?_
  (repeat' first|refine kW ?_|refine kU fun bk=>?_|refine kV fun hc=>?_|refine kZ (fun hc=>?_) fun hc=>?_|fail)
  refine OW_callP rfl rfl rfl (refheader_n k _ _ (by rw [str_size]; omega)) rfl ?_
  rw [str_size]
  have hl := hdL_len k t.length (by omega)
  (repeat' first|refine kW ?_|refine kU fun bk=>?_|refine kV fun hc=>?_|refine kZ (fun hc=>?_) fun hc=>?_|fail)
  refine OW_EV (EV_catL (hdL k t.length) t rfl rfl (by omega)) rfl ?_
  (repeat' first|refine kW ?_|refine kU fun bk=>?_|refine kV fun hc=>?_|refine kZ (fun hc=>?_) fun hc=>?_|fail)
  refine OW_call rfl rfl rfl (refsha_n (hdL k t.length ++ t) _ (by rw [List.length_append]; omega)) rfl (fun r L' hp => ?_)
  obtain ⟨C2, rfl, h2⟩ := hp
  (repeat' first|refine kW ?_|refine kU fun bk=>?_|refine kV fun hc=>?_|refine kZ (fun hc=>?_) fun hc=>?_|fail)
  refine OW_callP rfl rfl rfl (refhex_n (shaN (hdL k t.length ++ t)) _ _ (by rw [shaN_length]; decide) (by rw [shaN_length]; exact SlC.ow h2)) rfl ?_
  (repeat' first|refine kW ?_|refine kU fun bk=>?_|refine kV fun hc=>?_|refine kZ (fun hc=>?_) fun hc=>?_|fail)
  exact kE
end Go.Proofs.YtemdlifojcgplaaGreatDoor
namespace Go.Proofs.YtemdlifojcgplaaGreatDoor
open Go Go.Shelf Go.Proofs
set_option linter.all false
set_option maxRecDepth 100000
def sh_c_ren : Go.Shelf.Ren :=
  {
    f := fun x =>
      match x with
      | 145 => 61
      | 220 => 98
      | 219 => 134
      | 217 => 123
      | 225 => 183
      | 224 => 96
      | 267 => 184
      | 266 => 172
      | 314 => 226
      | n => n,
    t := fun x =>
      match x with
      | 9 => 9
      | 4 => 4
      | 59 => 102
      | 3 => 3
      | 5 => 5
      | 46 => 85
      | 146 => 206
      | 51 => 88
      | n => n,
    g := fun x =>
      match x with
      | 1 => 0
      | n => n }
theorem sh_c : Go.Proofs.Lays.n145 Go.Proofs.Tryz.prog sh_c_ren :=
  { mixed := by kernel_rfl,
    f145 := Eq.trans Go.Proofs.Tryz.func61 (congrArg Option.some (Eq.refl (Go.Proofs.Body.n145 sh_c_ren))),
    f217 :=
      Eq.trans Go.Proofs.Tryz.func123 (congrArg Option.some (Eq.refl (Go.Proofs.Body.n217 sh_c_ren))),
    f219 :=
      Eq.trans Go.Proofs.Tryz.func134 (congrArg Option.some (Eq.refl (Go.Proofs.Body.n219 sh_c_ren))),
    f220 := Eq.trans Go.Proofs.Tryz.func98 (congrArg Option.some (Eq.refl (Go.Proofs.Body.n220 sh_c_ren))),
    f224 := Eq.trans Go.Proofs.Tryz.func96 (congrArg Option.some (Eq.refl (Go.Proofs.Body.n224 sh_c_ren))),
    f225 :=
      Eq.trans Go.Proofs.Tryz.func183 (congrArg Option.some (Eq.refl (Go.Proofs.Body.n225 sh_c_ren))),
    f266 :=
      Eq.trans Go.Proofs.Tryz.func172 (congrArg Option.some (Eq.refl (Go.Proofs.Body.n266 sh_c_ren))),
    f267 :=
      Eq.trans Go.Proofs.Tryz.func184 (congrArg Option.some (Eq.refl (Go.Proofs.Body.n267 sh_c_ren))),
    f314 :=
      Eq.trans Go.Proofs.Tryz.func226 (congrArg Option.some (Eq.refl (Go.Proofs.Body.n314 sh_c_ren))),
    t3 := Go.Proofs.Tryz.underlying3, a3 := Go.Proofs.Tryz.isAgg3, z3 := Go.Proofs.Tryz.sizeOf3,
    v3 := Go.Proofs.Tryz.zeroValue3, t4 := Go.Proofs.Tryz.underlying4, a4 := Go.Proofs.Tryz.isAgg4,
    z4 := Go.Proofs.Tryz.sizeOf4, v4 := Go.Proofs.Tryz.zeroValue4, t5 := Go.Proofs.Tryz.underlying5,
    a5 := Go.Proofs.Tryz.isAgg5, z5 := Go.Proofs.Tryz.sizeOf5, v5 := Go.Proofs.Tryz.zeroValue5,
    t9 := Go.Proofs.Tryz.underlying9, a9 := Go.Proofs.Tryz.isAgg9, z9 := Go.Proofs.Tryz.sizeOf9,
    v9 := Go.Proofs.Tryz.zeroValue9, t46 := Go.Proofs.Tryz.underlying85, a46 := Go.Proofs.Tryz.isAgg85,
    z46 := Go.Proofs.Tryz.sizeOf85, v46 := Go.Proofs.Tryz.zeroValue85, t51 := Go.Proofs.Tryz.underlying88,
    a51 := Go.Proofs.Tryz.isAgg88, z51 := Go.Proofs.Tryz.sizeOf88, v51 := Go.Proofs.Tryz.zeroValue88,
    t59 := Go.Proofs.Tryz.underlying102, a59 := Go.Proofs.Tryz.isAgg102, z59 := Go.Proofs.Tryz.sizeOf102,
    v59 := Go.Proofs.Tryz.zeroValue102, t146 := Go.Proofs.Tryz.underlying206, a146 := Go.Proofs.Tryz.isAgg206,
    z146 := Go.Proofs.Tryz.sizeOf206, v146 := Go.Proofs.Tryz.zeroValue206,
    g1 := by kernel_rfl }
def sh_s_ren : Go.Shelf.Ren :=
  {
    f := fun x =>
      match x with
      | 283 => 168
      | n => n,
    t := fun x =>
      match x with
      | 3 => 3
      | 9 => 9
      | 4 => 4
      | n => n,
    g := fun x =>
      have n := x;
      n }
theorem sh_s : Go.Proofs.Lays.n283 Go.Proofs.Tryz.prog sh_s_ren :=
  { mixed := by kernel_rfl,
    f283 :=
      Eq.trans Go.Proofs.Tryz.func168 (congrArg Option.some (Eq.refl (Go.Proofs.Body.n283 sh_s_ren))),
    t3 := Go.Proofs.Tryz.underlying3, a3 := Go.Proofs.Tryz.isAgg3, z3 := Go.Proofs.Tryz.sizeOf3,
    v3 := Go.Proofs.Tryz.zeroValue3, t4 := Go.Proofs.Tryz.underlying4, a4 := Go.Proofs.Tryz.isAgg4,
    z4 := Go.Proofs.Tryz.sizeOf4, v4 := Go.Proofs.Tryz.zeroValue4, t9 := Go.Proofs.Tryz.underlying9,
    a9 := Go.Proofs.Tryz.isAgg9, z9 := Go.Proofs.Tryz.sizeOf9, v9 := Go.Proofs.Tryz.zeroValue9 }
def sh_d_ren : Go.Shelf.Ren :=
  {
    f := fun x =>
      match x with
      | 284 => 169
      | 129 => 211
      | 317 => 210
      | 318 => 212
      | n => n,
    t := fun x =>
      match x with
      | 53 => 86
      | 3 => 3
      | 212 => 291
      | 0 => 0
      | 4 => 4
      | 46 => 85
      | 5 => 5
      | 9 => 9
      | n => n,
    g := fun x =>
      match x with
      | 17 => 3
      | n => n }
theorem sh_d : Go.Proofs.LaysM.n284 Go.Proofs.Tryz.prog sh_d_ren :=
  { mixed := by kernel_rfl,
    f129 :=
      Eq.trans Go.Proofs.Tryz.func211 (congrArg Option.some (Eq.refl (Go.Proofs.Body.n129 sh_d_ren))),
    f284 :=
      Eq.trans Go.Proofs.Tryz.func169 (congrArg Option.some (Eq.refl (Go.Proofs.Body.n284 sh_d_ren))),
    f317 :=
      Eq.trans Go.Proofs.Tryz.func210 (congrArg Option.some (Eq.refl (Go.Proofs.Body.n317 sh_d_ren))),
    f318 :=
      Eq.trans Go.Proofs.Tryz.func212 (congrArg Option.some (Eq.refl (Go.Proofs.Body.n318 sh_d_ren))),
    t0 := Go.Proofs.Tryz.underlying0, a0 := Go.Proofs.Tryz.isAgg0, z0 := Go.Proofs.Tryz.sizeOf0,
    v0 := Go.Proofs.Tryz.zeroValue0, t3 := Go.Proofs.Tryz.underlying3, a3 := Go.Proofs.Tryz.isAgg3,
    z3 := Go.Proofs.Tryz.sizeOf3, v3 := Go.Proofs.Tryz.zeroValue3, t4 := Go.Proofs.Tryz.underlying4,
    a4 := Go.Proofs.Tryz.isAgg4, z4 := Go.Proofs.Tryz.sizeOf4, v4 := Go.Proofs.Tryz.zeroValue4,
    t5 := Go.Proofs.Tryz.underlying5, a5 := Go.Proofs.Tryz.isAgg5, z5 := Go.Proofs.Tryz.sizeOf5,
    v5 := Go.Proofs.Tryz.zeroValue5, t9 := Go.Proofs.Tryz.underlying9, a9 := Go.Proofs.Tryz.isAgg9,
    z9 := Go.Proofs.Tryz.sizeOf9, v9 := Go.Proofs.Tryz.zeroValue9, t46 := Go.Proofs.Tryz.underlying85,
    a46 := Go.Proofs.Tryz.isAgg85, z46 := Go.Proofs.Tryz.sizeOf85, v46 := Go.Proofs.Tryz.zeroValue85,
    t53 := Go.Proofs.Tryz.underlying86, a53 := Go.Proofs.Tryz.isAgg86, z53 := Go.Proofs.Tryz.sizeOf86,
    v53 := Go.Proofs.Tryz.zeroValue86, t212 := Go.Proofs.Tryz.underlying291, a212 := Go.Proofs.Tryz.isAgg291,
    z212 := Go.Proofs.Tryz.sizeOf291, v212 := Go.Proofs.Tryz.zeroValue291,
    g17 := by kernel_rfl,
    i0 := Eq.refl (Option.some (Option.some (Go.Value.tuple #[]), 1, 0)),
    i3 := Eq.refl (Option.some (Option.some (Go.Value.int Go.IntKind.i64 0), 1, 8)),
    i4 := Eq.refl (Option.some (Option.some (Go.Value.bool Bool.false), 1, 1)),
    i5 := Eq.refl (Option.some (Option.some (Go.Value.int Go.IntKind.u8 0), 1, 1)),
    i9 := Eq.refl (Option.some (Option.some (Go.Value.string { data := #[] }), 1, 16)),
    i46 := Eq.refl (Option.some (Option.some (Go.Value.int Go.IntKind.u64 0), 1, 8)),
    i53 := Eq.refl (Option.some (Option.some (Go.Value.int Go.IntKind.u64 0), 1, 8)),
    i212 :=
      Eq.refl
        (Option.some
          (Option.some
              (Go.Value.agg
                #[Go.Value.int Go.IntKind.u64 0, Go.Value.int Go.IntKind.u64 0, Go.Value.int Go.IntKind.u64 0,
                  Go.Value.int Go.IntKind.u64 0, Go.Value.int Go.IntKind.u64 0, Go.Value.int Go.IntKind.u64 0,
                  Go.Value.int Go.IntKind.u64 0, Go.Value.int Go.IntKind.u64 0, Go.Value.int Go.IntKind.u64 0,
                  Go.Value.int Go.IntKind.u64 0, Go.Value.int Go.IntKind.u64 0, Go.Value.int Go.IntKind.u64 0,
                  Go.Value.int Go.IntKind.u64 0, Go.Value.int Go.IntKind.u64 0, Go.Value.int Go.IntKind.u64 0,
                  Go.Value.int Go.IntKind.u64 0, Go.Value.int Go.IntKind.u64 0, Go.Value.int Go.IntKind.u64 0,
                  Go.Value.int Go.IntKind.u64 0, Go.Value.int Go.IntKind.u64 0]),
            20, 160)),
    m17 := by kernel_rfl }
def sh_b_ren : Go.Shelf.Ren :=
  {
    f := fun x =>
      match x with
      | 285 => 170
      | n => n,
    t := fun x =>
      match x with
      | 37 => 22
      | 53 => 86
      | 3 => 3
      | 4 => 4
      | 51 => 88
      | 9 => 9
      | 5 => 5
      | 0 => 0
      | n => n,
    g := fun x =>
      have n := x;
      n }
theorem sh_b : Go.Proofs.Lays.n285 Go.Proofs.Tryz.prog sh_b_ren :=
  { mixed := by kernel_rfl,
    f285 :=
      Eq.trans Go.Proofs.Tryz.func170 (congrArg Option.some (Eq.refl (Go.Proofs.Body.n285 sh_b_ren))),
    t0 := Go.Proofs.Tryz.underlying0, a0 := Go.Proofs.Tryz.isAgg0, z0 := Go.Proofs.Tryz.sizeOf0,
    v0 := Go.Proofs.Tryz.zeroValue0, t3 := Go.Proofs.Tryz.underlying3, a3 := Go.Proofs.Tryz.isAgg3,
    z3 := Go.Proofs.Tryz.sizeOf3, v3 := Go.Proofs.Tryz.zeroValue3, t4 := Go.Proofs.Tryz.underlying4,
    a4 := Go.Proofs.Tryz.isAgg4, z4 := Go.Proofs.Tryz.sizeOf4, v4 := Go.Proofs.Tryz.zeroValue4,
    t5 := Go.Proofs.Tryz.underlying5, a5 := Go.Proofs.Tryz.isAgg5, z5 := Go.Proofs.Tryz.sizeOf5,
    v5 := Go.Proofs.Tryz.zeroValue5, t9 := Go.Proofs.Tryz.underlying9, a9 := Go.Proofs.Tryz.isAgg9,
    z9 := Go.Proofs.Tryz.sizeOf9, v9 := Go.Proofs.Tryz.zeroValue9, t37 := Go.Proofs.Tryz.underlying22,
    a37 := Go.Proofs.Tryz.isAgg22, z37 := Go.Proofs.Tryz.sizeOf22, v37 := Go.Proofs.Tryz.zeroValue22,
    t51 := Go.Proofs.Tryz.underlying88, a51 := Go.Proofs.Tryz.isAgg88, z51 := Go.Proofs.Tryz.sizeOf88,
    v51 := Go.Proofs.Tryz.zeroValue88, t53 := Go.Proofs.Tryz.underlying86, a53 := Go.Proofs.Tryz.isAgg86,
    z53 := Go.Proofs.Tryz.sizeOf86, v53 := Go.Proofs.Tryz.zeroValue86 }
def sh_r_ren : Go.Shelf.Ren :=
  {
    f := fun x =>
      match x with
      | 155 => 40
      | 154 => 73
      | 138 => 108
      | 165 => 109
      | 143 => 110
      | 166 => 111
      | 197 => 112
      | 169 => 113
      | 195 => 144
      | 218 => 145
      | 240 => 146
      | 241 => 147
      | 219 => 134
      | 260 => 148
      | 276 => 190
      | 277 => 191
      | 217 => 123
      | 225 => 183
      | 224 => 96
      | 267 => 184
      | 266 => 172
      | 314 => 226
      | n => n,
    t := fun x =>
      match x with
      | 9 => 9
      | 3 => 3
      | 4 => 4
      | 72 => 161
      | 0 => 0
      | 76 => 164
      | 105 => 166
      | 21 => 21
      | 5 => 5
      | 70 => 159
      | 20 => 20
      | 37 => 22
      | 75 => 163
      | 127 => 133
      | 164 => 268
      | 46 => 85
      | 119 => 271
      | 139 => 274
      | 138 => 273
      | 146 => 206
      | 51 => 88
      | 80 => 168
      | n => n,
    g := fun x =>
      match x with
      | 1 => 0
      | 3 => 1
      | 4 => 2
      | n => n }
theorem sh_r : Go.Proofs.Lays.n155 Go.Proofs.Tryz.prog sh_r_ren :=
  { mixed := by kernel_rfl,
    f138 :=
      Eq.trans Go.Proofs.Tryz.func108 (congrArg Option.some (Eq.refl (Go.Proofs.Body.n138 sh_r_ren))),
    f143 :=
      Eq.trans Go.Proofs.Tryz.func110 (congrArg Option.some (Eq.refl (Go.Proofs.Body.n143 sh_r_ren))),
    f154 := Eq.trans Go.Proofs.Tryz.func73 (congrArg Option.some (Eq.refl (Go.Proofs.Body.n154 sh_r_ren))),
    f155 := Eq.trans Go.Proofs.Tryz.func40 (congrArg Option.some (Eq.refl (Go.Proofs.Body.n155 sh_r_ren))),
    f165 :=
      Eq.trans Go.Proofs.Tryz.func109 (congrArg Option.some (Eq.refl (Go.Proofs.Body.n165 sh_r_ren))),
    f166 :=
      Eq.trans Go.Proofs.Tryz.func111 (congrArg Option.some (Eq.refl (Go.Proofs.Body.n166 sh_r_ren))),
    f169 :=
      Eq.trans Go.Proofs.Tryz.func113 (congrArg Option.some (Eq.refl (Go.Proofs.Body.n169 sh_r_ren))),
    f195 :=
      Eq.trans Go.Proofs.Tryz.func144 (congrArg Option.some (Eq.refl (Go.Proofs.Body.n195 sh_r_ren))),
    f197 :=
      Eq.trans Go.Proofs.Tryz.func112 (congrArg Option.some (Eq.refl (Go.Proofs.Body.n197 sh_r_ren))),
    f217 :=
      Eq.trans Go.Proofs.Tryz.func123 (congrArg Option.some (Eq.refl (Go.Proofs.Body.n217 sh_r_ren))),
    f218 :=
      Eq.trans Go.Proofs.Tryz.func145 (congrArg Option.some (Eq.refl (Go.Proofs.Body.n218 sh_r_ren))),
    f219 :=
      Eq.trans Go.Proofs.Tryz.func134 (congrArg Option.some (Eq.refl (Go.Proofs.Body.n219 sh_r_ren))),
    f224 := Eq.trans Go.Proofs.Tryz.func96 (congrArg Option.some (Eq.refl (Go.Proofs.Body.n224 sh_r_ren))),
    f225 :=
      Eq.trans Go.Proofs.Tryz.func183 (congrArg Option.some (Eq.refl (Go.Proofs.Body.n225 sh_r_ren))),
    f240 :=
      Eq.trans Go.Proofs.Tryz.func146 (congrArg Option.some (Eq.refl (Go.Proofs.Body.n240 sh_r_ren))),
    f241 :=
      Eq.trans Go.Proofs.Tryz.func147 (congrArg Option.some (Eq.refl (Go.Proofs.Body.n241 sh_r_ren))),
    f260 :=
      Eq.trans Go.Proofs.Tryz.func148 (congrArg Option.some (Eq.refl (Go.Proofs.Body.n260 sh_r_ren))),
    f266 :=
      Eq.trans Go.Proofs.Tryz.func172 (congrArg Option.some (Eq.refl (Go.Proofs.Body.n266 sh_r_ren))),
    f267 :=
      Eq.trans Go.Proofs.Tryz.func184 (congrArg Option.some (Eq.refl (Go.Proofs.Body.n267 sh_r_ren))),
    f276 :=
      Eq.trans Go.Proofs.Tryz.func190 (congrArg Option.some (Eq.refl (Go.Proofs.Body.n276 sh_r_ren))),
    f277 :=
      Eq.trans Go.Proofs.Tryz.func191 (congrArg Option.some (Eq.refl (Go.Proofs.Body.n277 sh_r_ren))),
    f314 :=
      Eq.trans Go.Proofs.Tryz.func226 (congrArg Option.some (Eq.refl (Go.Proofs.Body.n314 sh_r_ren))),
    t0 := Go.Proofs.Tryz.underlying0, a0 := Go.Proofs.Tryz.isAgg0, z0 := Go.Proofs.Tryz.sizeOf0,
    v0 := Go.Proofs.Tryz.zeroValue0, t3 := Go.Proofs.Tryz.underlying3, a3 := Go.Proofs.Tryz.isAgg3,
    z3 := Go.Proofs.Tryz.sizeOf3, v3 := Go.Proofs.Tryz.zeroValue3, t4 := Go.Proofs.Tryz.underlying4,
    a4 := Go.Proofs.Tryz.isAgg4, z4 := Go.Proofs.Tryz.sizeOf4, v4 := Go.Proofs.Tryz.zeroValue4,
    t5 := Go.Proofs.Tryz.underlying5, a5 := Go.Proofs.Tryz.isAgg5, z5 := Go.Proofs.Tryz.sizeOf5,
    v5 := Go.Proofs.Tryz.zeroValue5, t9 := Go.Proofs.Tryz.underlying9, a9 := Go.Proofs.Tryz.isAgg9,
    z9 := Go.Proofs.Tryz.sizeOf9, v9 := Go.Proofs.Tryz.zeroValue9, t20 := Go.Proofs.Tryz.underlying20,
    a20 := Go.Proofs.Tryz.isAgg20, z20 := Go.Proofs.Tryz.sizeOf20, v20 := Go.Proofs.Tryz.zeroValue20,
    t21 := Go.Proofs.Tryz.underlying21, a21 := Go.Proofs.Tryz.isAgg21, z21 := Go.Proofs.Tryz.sizeOf21,
    v21 := Go.Proofs.Tryz.zeroValue21, t37 := Go.Proofs.Tryz.underlying22, a37 := Go.Proofs.Tryz.isAgg22,
    z37 := Go.Proofs.Tryz.sizeOf22, v37 := Go.Proofs.Tryz.zeroValue22, t46 := Go.Proofs.Tryz.underlying85,
    a46 := Go.Proofs.Tryz.isAgg85, z46 := Go.Proofs.Tryz.sizeOf85, v46 := Go.Proofs.Tryz.zeroValue85,
    t51 := Go.Proofs.Tryz.underlying88, a51 := Go.Proofs.Tryz.isAgg88, z51 := Go.Proofs.Tryz.sizeOf88,
    v51 := Go.Proofs.Tryz.zeroValue88, t70 := Go.Proofs.Tryz.underlying159, a70 := Go.Proofs.Tryz.isAgg159,
    z70 := Go.Proofs.Tryz.sizeOf159, v70 := Go.Proofs.Tryz.zeroValue159, t72 := Go.Proofs.Tryz.underlying161,
    a72 := Go.Proofs.Tryz.isAgg161, z72 := Go.Proofs.Tryz.sizeOf161, v72 := Go.Proofs.Tryz.zeroValue161,
    t75 := Go.Proofs.Tryz.underlying163, a75 := Go.Proofs.Tryz.isAgg163, z75 := Go.Proofs.Tryz.sizeOf163,
    v75 := Go.Proofs.Tryz.zeroValue163, t76 := Go.Proofs.Tryz.underlying164, a76 := Go.Proofs.Tryz.isAgg164,
    z76 := Go.Proofs.Tryz.sizeOf164, v76 := Go.Proofs.Tryz.zeroValue164, t105 := Go.Proofs.Tryz.underlying166,
    a105 := Go.Proofs.Tryz.isAgg166, z105 := Go.Proofs.Tryz.sizeOf166, v105 := Go.Proofs.Tryz.zeroValue166,
    t119 := Go.Proofs.Tryz.underlying271, a119 := Go.Proofs.Tryz.isAgg271, z119 := Go.Proofs.Tryz.sizeOf271,
    t127 := Go.Proofs.Tryz.underlying133, a127 := Go.Proofs.Tryz.isAgg133, z127 := Go.Proofs.Tryz.sizeOf133,
    v127 := Go.Proofs.Tryz.zeroValue133, t138 := Go.Proofs.Tryz.underlying273, a138 := Go.Proofs.Tryz.isAgg273,
    z138 := Go.Proofs.Tryz.sizeOf273, v138 := Go.Proofs.Tryz.zeroValue273, t139 := Go.Proofs.Tryz.underlying274,
    a139 := Go.Proofs.Tryz.isAgg274, z139 := Go.Proofs.Tryz.sizeOf274, v139 := Go.Proofs.Tryz.zeroValue274,
    t146 := Go.Proofs.Tryz.underlying206, a146 := Go.Proofs.Tryz.isAgg206, z146 := Go.Proofs.Tryz.sizeOf206,
    v146 := Go.Proofs.Tryz.zeroValue206, t164 := Go.Proofs.Tryz.underlying268, a164 := Go.Proofs.Tryz.isAgg268,
    z164 := Go.Proofs.Tryz.sizeOf268, v164 := Go.Proofs.Tryz.zeroValue268,
    g1 := by kernel_rfl, g3 := by kernel_rfl,
    g4 := by kernel_rfl }
abbrev utOk (_ : World) : Prop := True
abbrev mxOk (w : World) (m : Int) : Prop := w.cell? ⟨(sh_c_ren.g 1), 0, none⟩ = some (.int .i64 m)
theorem sh_rx : Builder.Extra Tryz.prog sh_r_ren where
  sizeBuilder := by kernel_rfl
  liesBuilder := by kernel_rfl
  t5 := sh_r.t5
  a5 := sh_r.a5
  z5 := sh_r.z5
  v5 := sh_r.v5
  infoByte := by kernel_rfl
  cellsByte := by kernel_rfl
  sizeByte := by kernel_rfl
  neB5 := by decide
end Go.Proofs.YtemdlifojcgplaaGreatDoor
namespace Go.Proofs.YtemdlifojcgplaaGreatDoor
open Go Go.Vx Go.Ob Go.RowKit
set_option linter.all false
set_option maxRecDepth 4000
theorem zz (n j:Nat):(bsv (List.replicate n 0))[j]? =if j < n then some (.int .u8 0) else none:=by
 unfold bsv
 rw [List.map_replicate,List.getElem?_replicate]
 rfl
variable [W0]
structure BsAt (L:List Chunk):Prop where
 ut:∀w,Vx.Holds w L→utOk w
 mx:∃m,∀w,Vx.Holds w L→mxOk w m
 pw:∀w,Vx.Holds w L→Lib.TabIs Tryz.prog w "internal/strconv.uint64pow10" .u64 Lib.pow10Tab
theorem BsAt.of {S L:List Chunk} (h:BsAt S) (hi:∀w,Vx.Holds w L→Vx.Holds w S):BsAt L:=
 ⟨fun w hw=>h.ut w (hi w hw),h.mx.imp fun m hm w hw=>hm w (hi w hw),fun w hw=>h.pw w (hi w hw)⟩
theorem BsAt.inc {S L:List Chunk} (h:BsAt S) (hi:Inc S L):BsAt L:=h.of fun w hw=>hi.holds hw
theorem BsAt.there {L:List Chunk} {C:Chunk} (h:BsAt L):BsAt (C::L):=h.of fun w hw=>hw.drop
theorem GvP.of_below {P:Program} {f:FuncId} {args:Array Value} {L:List Chunk} {v:Value} (h:∀w,Vx.Holds w L→Calls P f args w fun e w'=>e=.returned v∧Below w.heap.size w w'):GvP P f args L v:=
 ⟨fun w hw=>(h w hw).mono fun e w' he=>⟨v,L,he.1,⟨rfl,rfl⟩,hw.1,fun x hx=>by rw [he.2.block _ (hw.lt hx)];exact hw.2.1 x hx,he.2.os.trans hw.2.2.1,he.2.output.trans hw.2.2.2⟩⟩
theorem below_drewN (w:World) (n:Nat):Below w.heap.size w (w.drewN n):=⟨rfl,rfl,rfl,Nat.le_refl _,fun _ _=>rfl⟩
theorem cut_n (s sep:List UInt8) (L:List Chunk) (hb:BsAt L) (hl:s.length < 4294967281) :
 GvP Tryz.prog 61 [.string (str s),.string (str sep)].toArray L (.tuple #[.string (str (Lib.cut s sep).1),.string (str (Lib.cut s sep).2.1),.bool (Lib.cut s sep).2.2]):=by
 obtain ⟨m,hm⟩:=hb.mx
 refine GvP.of_below fun w hw=>(Any.strings_Cut sh_c (str s) (str sep) m w hl (hm w hw)).mono ?_
 rintro e w' ⟨rfl,n,rfl⟩
 exact ⟨rfl,below_drewN w n⟩
theorem small_n (i:Nat) (L:List Chunk) (h:i < 100):GvP Tryz.prog 168 [.int .i64 (i:Int)].toArray L (.string (str (Lib.decDigits i))):=
 GvP.of_below fun w hw=>(Any.internal_strconv_small sh_s i h w).mono (by rintro e w' ⟨rfl,rfl⟩;exact ⟨rfl,Below.refl _ _⟩)
theorem numdigits_n (u:Nat) (L:List Chunk) (hb:BsAt L) (h1:1≤u) (h2:u < 18446744073709551616):GvP Tryz.prog 169 [.int .u64 (u:Int)].toArray L (.int .i64 (Lib.nDigits u:Int)):=
 GvP.of_below fun w hw=>(Any.internal_strconv_numDigits sh_d u h1 h2 w (hb.pw w hw)).mono (by rintro e w' ⟨rfl,rfl⟩;exact ⟨rfl,Below.refl _ _⟩)
theorem fmt_n (b T u:Nat) (L:List Chunk) (h1:1≤u) (h2:u < 18446744073709551616) :
 Gv Tryz.prog 170 [.slice (some ⟨b,0,none⟩) (Lib.nDigits u) 24,.int .u64 (u:Int)].toArray ([(b,cl (bsv (List.replicate 24 0)) T)]::L)
  (fun r L'=>r=.tuple #[]∧∃rest,rest.length=24 - Lib.nDigits u∧L'=[(b,cl (bsv (Lib.decDigits u)++rest) T)]::L):=⟨fun w hw=>by
 have hnd:=numdigits_le h1 h2
 have hf:w.heap[b]? =some (cl (bsv (List.replicate 24 0)) T):=(Fnd.here:Fnd ([(b,_)]::L) b _).get hw
 have hH:Sort.Holds (fun (b:UInt8)=>Value.int .u8 (b.toNat:Int)) w b 0 (Array.replicate (Lib.nDigits u) (0:UInt8)):=fun j hj=>by
  have hj':j < Lib.nDigits u:=by simpa using hj
  constructor
  ·rw [Nat.zero_add,cell_of hf,getElem!_pos _ j hj,List.getElem?_toArray,zz,if_pos (by omega),Array.getElem_replicate]
   rfl
  ·simp [World.frozen?,hf,cl]
 have hc:=Any.internal_strconv_formatBase10 sh_b b 0 24 u (Array.replicate (Lib.nDigits u) 0) w hH (by rw [Array.size_replicate];exact Lib.lt_pow_nDigits u) h2 (by rw [Array.size_replicate];omega)
 rw [Array.size_replicate] at hc
 refine hc.mono ?_
 rintro e w' ⟨rfl,n,v',dk,rfl,hF⟩
 have hsz:dk.size=Lib.nDigits u:=hF.size
 have hdk:dk.toList=Lib.decDigits u:=by
  refine List.ext_getElem (by rw [Array.length_toList,hsz,Lib.decDigits_length]) fun j hj1 hj2=>?_
  rw [Lib.row_is_numeral hF j hj2,getElem!_pos _ j (by simpa using hj1)]
  rfl
 have hrow:Sort.putCells (fun (b:UInt8)=>Value.int .u8 (b.toNat:Int)) 0 dk (bsv (List.replicate 24 0)).toArray=(bsv (Lib.decDigits u)++bsv (List.replicate (24 - Lib.nDigits u) 0)).toArray:=by
  apply Array.ext'
  rw [←hdk]
  refine List.ext_getElem? fun j=>?_
  unfold Sort.putCells
  simp only [Array.getElem?_toList,Array.getElem?_mapIdx,List.getElem?_toArray,List.toList_toArray]
  rw [zz]
  rcases Nat.lt_or_ge j dk.size with h|h
  ·rw [List.getElem?_append_left (by simpa [bsv] using h),if_pos (by omega)]
   simp [bsv,h,Array.getElem?_eq_getElem h]
  ·rw [List.getElem?_append_right (by simpa [bsv] using h),zz]
   have hl:(bsv dk.toList).length=dk.size:=by simp [bsv]
   rw [hl]
   rcases Nat.lt_or_ge j 24 with h'|h'
   ·rw [if_pos h',if_pos (by omega),Option.map_some,if_neg (by omega)]
   ·rw [if_neg (by omega),if_neg (by omega)]
    rfl
 refine ⟨.tuple #[],_,rfl,⟨rfl,bsv (List.replicate (24 - Lib.nDigits u) 0),by simp [bsv],rfl⟩,hw.upd .here ?_ ?_ rfl rfl⟩
 ·show (w.heap.modify b _)[b]? =_
  rw [Array.getElem?_modify,if_pos rfl,hf]
  show some (Obj.cells _ _ _)=_
  rw [hrow]
  rfl
 ·intro c hc
  show (w.heap.modify b _)[c]? =_
  rw [Array.getElem?_modify,if_neg (Ne.symm hc)]⟩
end Go.Proofs.YtemdlifojcgplaaGreatDoor
namespace Go.Proofs.YtemdlifojcgplaaGreatDoor
open Go Go.Vx Go.Ob
set_option linter.all false
variable [W0]
set_option maxRecDepth 4000
theorem appenduint_n (u m:Nat) (v:Value) (xs:List Value) (C:Chunk) (L:List Chunk) (hb:BsAt L) (h:OwG 5 v m xs C) (hm:m≤1000000) (hu:u < 18446744073709551616) :
 Gv Tryz.prog 122 [v,.int .u64 (u:Int),.int .i64 10].toArray (C::L) (fun r L'=>∃C',OwG 5 r (m+(Lib.decDigits u).length) (xs++bsv (Lib.decDigits u)) C'∧L'=C'::L):=by
 refine Gv.of_body (args:=[v,.int .u64 (u:Int),.int .i64 10]) Tryz.func122 rfl rfl ?_
 (repeat' first|refine kW ?_|refine kU fun bk=>?_|refine kV fun hc=>?_|refine kZ (fun hc=>?_) fun hc=>?_|fail)
 ·refine OW_callP rfl rfl rfl (small_n u _ (by omega)) rfl ?_
  refine kW ?_
  refine OW_appGS rfl rfl h (by repeat (first|exact Zip.here _|apply Zip.there)) (by rw [str_size,Lib.decDigits_length];have:=numdigits_lt u hu;omega) (by rw [str_size,Lib.decDigits_length];have:=numdigits_lt u hu;unfold maxLen;omega) rfl (fun v' C' ho=>?_)
  refine kW ?_
  refine kR ?_
  exact ⟨_,iC,C',ho,rfl⟩
 ·refine OW_callP rfl rfl rfl (numdigits_n u _ hb.there.there (by omega) hu) rfl ?_
  refine kW ?_
  have hnd:=numdigits_le (by omega:1≤u) hu
  refine OW_EV (EV_sliceArr (l:=0) (h:=Lib.nDigits u) rfl rfl rfl (Nat.zero_le _) (by omega) (by omega)) rfl ?_
  refine kW ?_
  refine OW_call rfl rfl rfl (fmt_n _ _ u (C::L) (by omega) hu) rfl (fun r L' hp=>?_)
  obtain ⟨rfl,rest,hrl,rfl⟩:=hp
  refine kW ?_
  refine OW_EV (EV_sliceArr (l:=0) (h:=Lib.nDigits u) rfl rfl rfl (Nat.zero_le _) (by omega) (by omega)) rfl ?_
  refine kW ?_
  have hdl:=Lib.decDigits_length u
  refine OW_appG rfl rfl h (sl_cells (xs:=bsv (Lib.decDigits u)) (m:=Lib.nDigits u) Fnd.here (by rw [bsv_length,hdl];omega) (by simp)) (by repeat (first|exact Zip.here _|apply Zip.there)) (by rfl) bsv_ones (by omega) (by unfold maxLen;omega) rfl (fun v' C' ho=>?_)
  refine kW ?_
  refine kR ?_
  rw [←hdl] at ho
  exact ⟨_,iC,C',ho,rfl⟩
theorem appendint_n (i m:Nat) (v:Value) (xs:List Value) (C:Chunk) (L:List Chunk) (hb:BsAt L) (h:OwG 5 v m xs C) (hm:m≤1000000) (hu:i≤9223372036854775807) :
 Gv Tryz.prog 48 [v,.int .i64 (i:Int),.int .i64 10].toArray (C::L) (fun r L'=>∃C',OwG 5 r (m+(Lib.decDigits i).length) (xs++bsv (Lib.decDigits i)) C'∧L'=C'::L):=by
 refine Gv.of_body (args:=[v,.int .i64 (i:Int),.int .i64 10]) Tryz.func48 rfl rfl ?_
 refine kW ?_
 have hin:Gv Tryz.prog 79 [v,.int .i64 (i:Int),.int .i64 10].toArray (C::L) (fun r L'=>∃C',OwG 5 r (m+(Lib.decDigits i).length) (xs++bsv (Lib.decDigits i)) C'∧L'=C'::L):=by
  refine Gv.of_body (args:=[v,.int .i64 (i:Int),.int .i64 10]) Tryz.func79 rfl rfl ?_
  refine kW ?_
  refine OW_call rfl rfl rfl (appenduint_n i m v xs C L hb h hm (by omega)) rfl (fun r L' hp=>?_)
  obtain ⟨C',ho,rfl⟩:=hp
  refine kW ?_
  refine kR ?_
  exact ⟨_,iC,C',ho,rfl⟩
 refine OW_call rfl rfl rfl hin rfl (fun r L' hp=>?_)
 obtain ⟨C',ho,rfl⟩:=hp
 refine kW ?_
 refine kR ?_
 exact ⟨_,iC,C',ho,rfl⟩
theorem header_n (k n:Int) (L:List Chunk) (hb:BsAt L) (hn:n≤9223372036854775807) :
 Gv Tryz.prog 22 [.int .i64 k,.int .i64 n].toArray L (fun r L'=>∃C,OwG 5 r (hdL k n).length (bsv (hdL k n)) C∧L'=C::L):=by
 refine Gv.of_body (args:=[.int .i64 k,.int .i64 n]) Tryz.func22 rfl rfl ?_
 refine kW ?_
 refine OW_callP rfl rfl rfl (obname_n k _) rfl ?_
 refine kW ?_
 have h6:=nmI_len k
 refine OW_convBytes rfl (by rw [str_size];unfold maxLen;omega) rfl (fun v C ho=>?_)
 rw [str_size,str_data] at ho
 refine kW ?_
 refine OW_buildSlice (cs:=bsv [32]) rfl (by rfl) (by simp [fillL,patch,Value.cells,zeros];rfl) (by omega) rfl rfl (fun b1=>?_)
 refine kW ?_
 refine OW_appG rfl rfl (OwG.f ho) (sl_cells (xs:=bsv [32]) (m:=1) Fnd.here rfl (by simp)) (by repeat (first|exact Zip.here _|apply Zip.there)) (by rfl) bsv_ones (by omega) (by unfold maxLen;omega) rfl (fun v1 C1 h1=>?_)
 refine kW ?_
 obtain ⟨i,hi⟩:∃i:Nat,max n 0=(i:Int):=⟨(max n 0).toNat,by omega⟩
 rw [hi]
 have hi2:i≤9223372036854775807:=by omega
 refine OW_call rfl rfl rfl (Gv.take (appendint_n i _ v1 _ C1 _ (hb.there) h1 (by omega) hi2) (by repeat (first|exact Take.here|apply Take.there))) rfl (fun r L' hp=>?_)
 obtain ⟨C2,h2,rfl⟩:=hp
 refine kW ?_
 refine OW_buildSlice (cs:=bsv [0]) rfl (by rfl) (by simp [fillL,patch,Value.cells,zeros];rfl) (by omega) rfl rfl (fun b2=>?_)
 refine kW ?_
 have hd:=numdigits_lt i (by omega)
 rw [←Lib.decDigits_length] at hd
 refine OW_appG rfl rfl h2 (sl_cells (xs:=bsv [0]) (m:=1) Fnd.here rfl (by simp)) (by repeat (first|exact Zip.here _|apply Zip.there)) (by rfl) bsv_ones (by omega) (by unfold maxLen;omega) rfl (fun v3 C3 h3=>?_)
 refine kW ?_
 refine kR ?_
 have e:hdL k n=nmI k++[32]++Lib.decDigits i++[0]:=by
  unfold hdL
  rw [hi,Int.toNat_natCast,dgL_eq (by omega)]
 refine ⟨C3::L,iC,C3,?_,rfl⟩
 have e2:(nmI k++[32]++Lib.decDigits i++[0]).length=(nmI k).length+1+(Lib.decDigits i).length+1:=by simp only [List.length_append,List.length_cons,List.length_nil]
 rw [e,e2,bsv_append,bsv_append,bsv_append]
 exact h3
theorem OwG.slc {e m:Nat} {v:Value} {xs:List Value} {C:Chunk} {L:List Chunk} (h:OwG e v m xs C):SlC (C::L) 1 v m xs:=⟨h.sl,h.room⟩
theorem id_n (k:Int) (v:Value) (t:List UInt8) (L:List Chunk) (hb:BsAt L) (ht:t.length≤140737488351232) (hv:SlC L 1 v t.length (bsv t)) :
 GvP Tryz.prog 30 [.int .i64 k,v].toArray L (.string (str (idL k t))):=by
 obtain ⟨a,c,rfl,hac⟩:=hv.room
 refine Gv.of_body (args:=[.int .i64 k,.slice a t.length c]) Tryz.func30 rfl rfl ?_
 refine kW ?_
 refine OW_call rfl rfl rfl (header_n k t.length L hb (by omega)) rfl (fun r L' hp=>?_)
 obtain ⟨C,ho,rfl⟩:=hp
 have hl:=hdL_len k t.length (by omega)
 refine kW ?_
 refine OW_appG rfl rfl ho hv.there.sl (by repeat (first|exact Zip.here _|apply Zip.there)) (by rfl) bsv_ones (by omega) (by unfold maxLen;omega) rfl (fun v1 C1 h1=>?_)
 rw [←bsv_append,←List.length_append] at h1
 refine kW ?_
 refine OW_call rfl rfl rfl (sha1_n (hdL k t.length++t) v1 _ (by rw [List.length_append];omega) (OwG.slc h1)) rfl (fun r L' hp=>?_)
 obtain ⟨C2,rfl,h2⟩:=hp
 refine kW ?_
 refine OW_callP rfl rfl rfl (hex_n (shaN (hdL k t.length++t)) _ _ (by rw [shaN_length];decide) (by rw [shaN_length];exact SlC.ow h2)) rfl ?_
 refine kW ?_
 exact kE
theorem hash_n (s:List UInt8) (L:List Chunk) (hs:s.length≤9223372036854775807):GvP Tryz.prog 27 [.string (str s)].toArray L (.bool (hshB s)):=by
 refine Gv.of_body Tryz.func27 rfl rfl ?_
 (repeat' first|refine kW ?_|refine kU fun bk=>?_|refine kV fun hc=>?_|refine kZ (fun hc=>?_) fun hc=>?_|fail)
 ·rw [str_size] at hc
  refine kR ?_
  exact ⟨_,iC,by unfold hshB;rw [decide_eq_false (by omega)];rfl,rfl⟩
 ·rw [str_size] at hc
  refine OW_call rfl rfl rfl (unhex_n s L (by omega)) rfl (fun r L' hp=>?_)
  obtain ⟨v,C,rfl,rfl,ho⟩:=hp
  refine kW ?_
  refine kR ?_
  exact ⟨L,iC,by unfold hshB;rw [decide_eq_true (by omega)];rfl,rfl⟩
end Go.Proofs.YtemdlifojcgplaaGreatDoor
namespace Go.Ob
open Go Go.Lib Go.Proofs.YtemdlifojcgplaaGreatDoor
set_option linter.all false
theorem revi {α:Type} {q:List α→Prop} (h0:q []) (hs:∀l x,q l→q (l++[x])) (l:List α):q l:=by
 have:∀(n:Nat) (l:List α),l.length=n→q l:=by
  intro n
  induction n with
  |zero=>intro l hl;rw [List.eq_nil_of_length_eq_zero hl];exact h0
  |succ n ih=>
   intro l hl
   rcases List.eq_nil_or_concat l with rfl|⟨m,x,rfl⟩
   ·exact h0
   ·rw [List.concat_eq_append] at hl ⊢
    exact hs m x (ih m (by simp at hl;omega))
 exact this _ l rfl
theorem dgZ_all:∀(f n:Nat),(dgF f n).all (fun b=>inD b.toNat)=true
 |0,_=>rfl
 |f+1,n=>by
  have hd:∀j,j < 10→inD (UInt8.ofNat (48+j)).toNat=true:=by decide
  unfold dgF
  split
  ·rw [List.all_cons,hd n (by omega)];rfl
  ·rw [List.all_append,dgZ_all f,Bool.true_and]
   rw [List.all_cons,hd (n % 10) (by omega)];rfl
theorem dgZ_ne (f n:Nat):dgF (f+1) n≠[]:=by
 unfold dgF
 split<;>simp
theorem dgZ_head:∀(f n:Nat),0 < n→n < 10 ^ (f+1)→(dgF (f+1) n).getD 0 0≠48
 |0,n,h,hn=>by
  have hd:∀j,j < 10→0 < j→UInt8.ofNat (48+j)≠48:=by decide
  unfold dgF
  rw [if_pos (by simpa using hn)]
  exact hd n (by simpa using hn) h
 |f+1,n,h,hn=>by
  have hd:∀j,j < 10→0 < j→UInt8.ofNat (48+j)≠48:=by decide
  unfold dgF
  split
  ·exact hd n (by omega) h
  ·have ih:=dgZ_head f (n / 10) (by omega) (by rw [Nat.pow_succ] at hn;omega)
   have hne:=dgZ_ne f (n / 10)
   obtain ⟨c,r,hcr⟩:=List.exists_cons_of_ne_nil hne
   rw [hcr] at ih ⊢
   exact ih
def vlD (l:List UInt8):Nat:=l.foldl (fun a c=>10 * a+(c.toNat - 48)) 0
theorem vlD_snoc (l:List UInt8) (c:UInt8):vlD (l++[c])=10 * vlD l+(c.toNat - 48):=by simp [vlD]
theorem vlD_le (p:List UInt8):∀q:List UInt8,vlD p≤vlD (p++q):=
 revi (by simp) (fun l x ih=>by rw [←List.append_assoc,vlD_snoc];omega)
theorem dgL_small {n:Nat} (h:n < 10):dgL n=[UInt8.ofNat (48+n)]:=by
 unfold dgL dgF
 rw [if_pos h]
theorem dgL_step {n:Nat} (h:10≤n) (hn:n < 10000000000000000000):dgL n=dgL (n / 10)++[UInt8.ofNat (48+n % 10)]:=by
 have h1:dgF 19 (n / 10)=dgF 20 (n / 10):=by
  rw [dgF_eq 18 (n / 10) (by omega),dgF_eq 19 (n / 10) (by omega)]
 show dgF 20 n=dgF 20 (n / 10)++_
 rw [←h1]
 conv=>lhs;unfold dgF
 rw [if_neg (by omega)]
def GdD (s:List UInt8):Prop:=s≠[]∧(∀b∈s,48≤b.toNat∧b.toNat≤57)∧(2≤s.length→s.getD 0 0≠48)
theorem dgL_all (n:Nat):∀b∈dgL n,48≤b.toNat∧b.toNat≤57:=fun b hb=>by
 have:=List.all_eq_true.1 (dgZ_all 20 n) b hb
 unfold inD at this
 simp only [Bool.and_eq_true,decide_eq_true_eq] at this
 exact this
theorem dgL_ne (n:Nat):dgL n≠[]:=dgZ_ne 19 n
theorem dgL_good {n:Nat} (hn:n < 10000000000000000000):GdD (dgL n):=by
 refine ⟨dgL_ne n,dgL_all n,fun h2=>?_⟩
 rcases Nat.eq_zero_or_pos n with h0|h0
 ·subst h0
  rw [dgL_small (by omega)] at h2
  simp at h2
 ·exact dgZ_head 19 n h0 (by omega)
theorem vlD_dgL:∀n:Nat,n < 10000000000000000000→vlD (dgL n)=n:=by
 intro n
 induction n using Nat.strongRecOn with
 |ind n ih=>
  intro hn
  have hd:∀j,j < 10→(UInt8.ofNat (48+j)).toNat - 48=j:=by decide
  rcases Nat.lt_or_ge n 10 with h|h
  ·rw [dgL_small h]
   show 10 * 0+((UInt8.ofNat (48+n)).toNat - 48)=n
   rw [hd n h];omega
  ·rw [dgL_step h hn,vlD_snoc,ih (n / 10) (by omega) (by omega),hd _ (Nat.mod_lt _ (by omega))]
   omega
theorem byte_dig {c:UInt8} (h1:48≤c.toNat):UInt8.ofNat (48+(c.toNat - 48))=c:=by
 rw [show 48+(c.toNat - 48)=c.toNat from by omega]
 exact UInt8.ofNat_toNat
theorem vlD_pos {s:List UInt8} (h1:s≠[]) (h2:∀b∈s,48≤b.toNat∧b.toNat≤57) (h3:s.getD 0 0≠48):1≤vlD s:=by
 cases s with
 |nil=>exact absurd rfl h1
 |cons a t=>
  have h4:=vlD_le [a] t
  have h5:vlD [a]=a.toNat - 48:=by simp [vlD]
  have h6:=h2 a (by simp)
  have h7:a.toNat≠48:=fun h=>h3 (by show a=48;exact UInt8.toNat_inj.1 h)
  simp only [List.singleton_append] at h4
  omega
theorem good_dgL:∀s:List UInt8,GdD s→vlD s < 10000000000000000000→dgL (vlD s)=s:=by
 refine revi (fun h=>absurd rfl h.1) (fun l c ih h hb=>?_)
 have hc:=h.2.1 c (by simp)
 rw [vlD_snoc] at hb ⊢
 by_cases hl:l=[]
 ·subst hl
  rw [show 10 * vlD []+(c.toNat - 48)=c.toNat - 48 from by simp [vlD],dgL_small (by omega),byte_dig hc.1]
  rfl
 ·have hlen:0 < l.length:=List.length_pos_iff.2 hl
  have h0:l.getD 0 0≠48:=by
   have:=h.2.2 (by simp;omega)
   rwa [List.getD_eq_getElem?_getD,List.getElem?_append_left hlen,←List.getD_eq_getElem?_getD] at this
  have hall:∀b∈l,48≤b.toNat∧b.toNat≤57:=fun b hb=>h.2.1 b (by simp [hb])
  have hp:=vlD_pos hl hall h0
  rw [dgL_step (by omega) hb,show (10 * vlD l+(c.toNat - 48)) / 10=vlD l from by omega,show (10 * vlD l+(c.toNat - 48)) % 10=c.toNat - 48 from by omega,byte_dig hc.1,ih ⟨hl,hall,fun _=>h0⟩ (by omega)]
theorem dig_iff {s:List UInt8} {n:Nat} (hn:n < 10000000000000000000):s=dgL n↔GdD s∧vlD s=n:=by
 constructor
 ·rintro rfl
  exact ⟨dgL_good hn,vlD_dgL n hn⟩
 ·rintro ⟨h,rfl⟩
  exact (good_dgL s h hn).symm
theorem getD_mem {s:List UInt8} {k:Nat} (hk:k < s.length):s.getD k 0∈s:=by
 rw [List.getD_eq_getElem?_getD,List.getElem?_eq_getElem hk]
 exact List.getElem_mem hk
theorem dg_bad1 {s:List UInt8} {n k:Nat} (hk:k < s.length) (h:¬(48≤(s.getD k 0).toNat∧(s.getD k 0).toNat≤57)):s≠dgL n:=fun e=>by
 have hm:=getD_mem hk
 rw [e] at hm h
 exact h (dgL_all n _ hm)
theorem dg_run {s:List UInt8} {k:Nat} (hk:k < s.length) (hd:∀c∈s.take k,48≤c.toNat∧c.toNat≤57) (hc:48≤(s.getD k 0).toNat∧(s.getD k 0).toNat≤57) :
 (∀c∈s.take (k+1),48≤c.toNat∧c.toNat≤57)∧vlD (s.take (k+1))=10 * vlD (s.take k)+((s.getD k 0).toNat - 48):=by
 have e:s.take (k+1)=s.take k++[s.getD k 0]:=by
  rw [List.take_add_one,List.getD_eq_getElem?_getD,List.getElem?_eq_getElem hk];rfl
 rw [e,vlD_snoc]
 refine ⟨fun c h=>?_,rfl⟩
 rcases List.mem_append.1 h with h|h
 ·exact hd c h
 ·rw [List.mem_singleton.1 h];exact hc
theorem dg_head {s:List UInt8} {k:Nat} (h0:1≤k) (hk:k < s.length) (hd:∀c∈s.take k,48≤c.toNat∧c.toNat≤57) (h3:2≤k→s.getD 0 0≠48):vlD (s.take k)≠0↔s.getD 0 0≠48:=by
 have hg:(s.take k).getD 0 0=s.getD 0 0:=by
  rw [List.getD_eq_getElem?_getD,List.getElem?_take,if_pos (by omega),←List.getD_eq_getElem?_getD]
 have hne:s.take k≠[]:=fun h=>by
  have:=congrArg List.length h
  rw [List.length_take,List.length_nil] at this
  omega
 constructor
 ·intro h e
  rcases Nat.lt_or_ge k 2 with h2|h2
  ·have hk1:k=1:=by omega
   subst hk1
   cases s with
   |nil=>simp at hk
   |cons a t=>
    simp only [List.getD_cons_zero] at e
    subst e
    exact h (by simp [vlD])
  ·exact h3 h2 e
 ·intro h
  have:=vlD_pos hne hd (by rw [hg];exact h)
  omega
theorem dg_bad2 {s:List UInt8} {n k:Nat} (hn:n < 10000000000000000000) (h0:1≤k) (hk:k < s.length) (h:s.getD 0 0=48):s≠dgL n:=fun e=>by
 have:=(dig_iff hn).1 e
 exact this.1.2.2 (by omega) h
theorem dg_bad3 {s:List UInt8} {n k:Nat} (hn:n < 10000000000000000000) (h:n < vlD (s.take k)):s≠dgL n:=fun e=>by
 have h1:=((dig_iff hn).1 e).2
 have h2:=vlD_le (s.take k) (s.drop k)
 rw [List.take_append_drop] at h2
 omega
theorem dg_end {s:List UInt8} {n:Nat} (hn:n < 10000000000000000000) (hd:∀c∈s,48≤c.toNat∧c.toNat≤57) (h3:2≤s.length→s.getD 0 0≠48):s=dgL n↔s≠[]∧vlD s=n:=
 ⟨fun e=>⟨((dig_iff hn).1 e).1.1,((dig_iff hn).1 e).2⟩,fun h=>(dig_iff hn).2 ⟨⟨h.1,hd,h3⟩,h.2⟩⟩
theorem rune_at {s:List UInt8} {k:Nat} (hk:k < s.length):((decodeL (s.drop k)).1=(s.getD k 0).toNat∧(decodeL (s.drop k)).2=1∧(s.getD k 0).toNat < 128)∨(128≤(decodeL (s.drop k)).1∧128≤(s.getD k 0).toNat):=by
 have hg:(s.drop k).getD 0 0=s.getD k 0:=by simp [List.getD_eq_getElem?_getD]
 rcases Nat.lt_or_ge (s.getD k 0).toNat 128 with h|h
 ·left
  have e:s.drop k=s.getD k 0::s.drop (k+1):=by
   rw [List.getD_eq_getElem?_getD,List.getElem?_eq_getElem hk]
   exact List.drop_eq_getElem_cons hk
  rw [e,decodeL_ascii _ _ h]
  exact ⟨rfl,rfl,h⟩
 ·right
  exact ⟨(dl_high _ (by rw [hg];exact h)).1,h⟩
theorem kdL_nm {s:List UInt8} (h:kdL s≠0):1≤kdL s∧kdL s≤4∧nmL (kdL s)=s:=by
 unfold kdL at h ⊢
 repeat' split at h
 all_goals first
  |(rename_i hs;subst hs;exact ⟨by decide,by decide,by decide⟩)
  |exact absurd rfl h
theorem nmL_no (k:Nat):(32:UInt8)∉nmL k∧(0:UInt8)∉nmL k:=by
 unfold nmL
 split<;>decide
def psK (t:List UInt8):Nat:=
 if (0:UInt8)∈t∧kdL (cutN 32 (cutN 0 t).1).1≠0∧(cutN 32 (cutN 0 t).1).2=dgL (cutN 0 t).2.length then kdL (cutN 32 (cutN 0 t).1).1 else 0
def psB (t:List UInt8):List UInt8:=(cutN 0 t).2
theorem hdL_nat (k n:Nat) (h1:1≤k) (h2:k≤4):hdL (k:Int) (n:Int)=nmL k++[32]++dgL n++[0]:=by
 unfold hdL
 rw [nmI_nat h1 h2,show (max (n:Int) 0).toNat=n from by omega]
theorem psK_iff {t:List UInt8} {k:Nat} (h1:1≤k) (h2:k≤4):psK t=k↔(0:UInt8)∈t∧hdL (k:Int) ((psB t).length:Int)=(cutN 0 t).1++[0]:=by
 rw [hdL_nat k _ h1 h2]
 unfold psK psB
 constructor
 ·intro h
  split at h
  ·rename_i hh
   obtain ⟨h0,h3,h4⟩:=hh
   refine ⟨h0,?_⟩
   have h5:=(kdL_nm h3).2.2
   rw [h] at h5
   congr 1
   rcases cutN_spec 32 (cutN 0 t).1 with ⟨_,e⟩|⟨a,b,_,e1,e2⟩
   ·rw [e] at h4
    exact absurd h4.symm (dgL_ne _)
   ·rw [e2] at h4 h5
    simp only at h4 h5
    rw [e1,h5,←h4]
    simp
  ·omega
 ·rintro ⟨h0,h⟩
  have h3:(cutN 0 t).1=nmL k++(32:UInt8)::dgL (cutN 0 t).2.length:=by
   have:=List.append_cancel_right h
   rw [←this];simp
  have h4:=cutN_app 32 (dgL (cutN 0 t).2.length) (nmL k) (nmL_no k).1
  rw [←h3] at h4
  rw [h4]
  simp only
  rw [kdL_hit h1 h2,if_pos ⟨h0,by omega,trivial⟩]
theorem hd_cut {k:Nat} (h1:1≤k) (h2:k≤4) (n:Nat) (b:List UInt8):cutN 0 (hdL (k:Int) (n:Int)++b)=(nmL k++[32]++dgL n,b):=by
 rw [hdL_nat k n h1 h2,show nmL k++[32]++dgL n++[0]++b=(nmL k++[32]++dgL n)++(0:UInt8)::b from by simp]
 refine cutN_app 0 b _ ?_
 simp only [List.mem_append,List.mem_singleton,not_or]
 refine ⟨⟨(nmL_no k).2,by decide⟩,fun h=>?_⟩
 have:=dgL_all n 0 h
 simp at this
theorem ps_hd {k:Nat} (h1:1≤k) (h2:k≤4) (b:List UInt8):psK (hdL (k:Int) (b.length:Int)++b)=k∧psB (hdL (k:Int) (b.length:Int)++b)=b:=by
 have hb:psB (hdL (k:Int) (b.length:Int)++b)=b:=by unfold psB;rw [hd_cut h1 h2]
 refine ⟨(psK_iff h1 h2).2 ⟨?_,?_⟩,hb⟩
 ·rw [hdL_nat k _ h1 h2];simp
 ·rw [hb,hd_cut h1 h2,hdL_nat k _ h1 h2]
end Go.Ob
namespace Go.Proofs.YtemdlifojcgplaaGreatDoor
open Go Go.Vx Go.Ob Go.Lib
set_option linter.all false
variable [W0]
set_option maxRecDepth 4000
omit [W0] in
theorem index_ge:∀s sub:List UInt8,-1≤Lib.index s sub
 |[],sub=>by unfold Lib.index;split<;>decide
 |x::t,sub=>by
  have:=index_ge t sub
  unfold Lib.index
  split
  ·decide
  ·split<;>omega
omit [W0] in
theorem cut_cons (x:UInt8) (t sep:List UInt8):Lib.cut (x::t) sep=if sep.isPrefixOf (x::t) then ([],(x::t).drop sep.length,true) else (x::(Lib.cut t sep).1,(Lib.cut t sep).2.1,(Lib.cut t sep).2.2):=by
 have hge:=index_ge t sep
 by_cases hp:sep.isPrefixOf (x::t)=true
 ·rw [if_pos hp]
  unfold Lib.cut
  rw [show Lib.index (x::t) sep=0 from by rw [Lib.index,if_pos hp]]
  rw [if_pos (by decide)]
  simp
 ·rw [if_neg hp]
  rcases Int.lt_or_le (Lib.index t sep) 0 with h|h
  ·have h1:Lib.index t sep= -1:=by omega
   unfold Lib.cut
   rw [show Lib.index (x::t) sep= -1 from by rw [Lib.index,if_neg hp,h1];rfl,h1]
   simp
  ·unfold Lib.cut
   rw [show Lib.index (x::t) sep=Lib.index t sep+1 from by rw [Lib.index,if_neg hp,if_neg (by simp;omega)]]
   obtain ⟨k,hk⟩:∃k:Nat,Lib.index t sep=k:=⟨(Lib.index t sep).toNat,by omega⟩
   rw [hk,if_pos (by omega),if_pos (by omega)]
   simp [show ((k:Int)+1).toNat=k+1 from by omega,show k+1+sep.length=(k+sep.length)+1 from by omega]
omit [W0] in
theorem cut_one (c:UInt8):∀s:List UInt8,(Lib.cut s [c]).1=(cutN c s).1∧(Lib.cut s [c]).2.1=(cutN c s).2
 |[]=>by simp [Lib.cut,Lib.index,cutN]
 |x::t=>by
  obtain ⟨h1,h2⟩:=cut_one c t
  rw [cut_cons]
  unfold cutN
  by_cases h:x=c
  ·subst h
   simp
  ·rw [if_neg h,if_neg (by simp [List.isPrefixOf,Ne.symm h])]
   exact ⟨by rw [h1],h2⟩
omit [W0] in
theorem cutN_len2 (c:UInt8) (s:List UInt8):(cutN c s).1.length≤s.length∧(cutN c s).2.length≤s.length:=by
 rcases cutN_spec c s with ⟨_,h⟩|⟨x,t,_,h1,h2⟩
 ·rw [h];simp
 ·rw [h2,h1];simp;omega
end Go.Proofs.YtemdlifojcgplaaGreatDoor
namespace Go.Vx
open Go
set_option linter.all false
variable [W0]
theorem EV_sliceOwC {P:Program} {T e by_:Nat} [hs:SL P T e 1 by_] {v:Value} {m:Nat} {xs:List UInt8} {C:Chunk} (hO:Ow e 1 v m (bsv xs) C) {l h:Nat} (h1:l≤h) (h2:h≤m) :
 ∃r,(∀L:List Chunk,Sl (C::L) 1 r (h - l) (bsv ((xs.drop l).take (h - l))))∧(∃a c,r=.slice a (h - l) c∧h - l≤c)∧∀{n:Nat} {M:List (Nat × Value)} {L:List Chunk} {d:Nat} {ty:TypeId} {ps:String} {af:Array Edge} {g:Option (Nat × Bool)} {x:Operand} {lo hi:Option Operand},
  ev M x=some v→bnd M lo 0=some (l:Int)→bnd M hi m=some (h:Int)→EV P n ⟨some d,.slice T x lo hi none,ty,ps,af,g⟩ M L d r:=by
 rcases hO with ⟨rfl,rfl,hx,rfl⟩|⟨b,cap,rest,rfl,rfl,hxl,hrl,hmc,hcm⟩
 ·obtain rfl:h=0:=by omega
  obtain rfl:l=0:=by omega
  exact ⟨.slice none 0 0,fun L=>.inl ⟨_,rfl,rfl,by simp [bsv]⟩,⟨_,_,rfl,Nat.le_refl _⟩,fun hx hl hh=>EV_sliceNil hx hl hh⟩
 ·refine ⟨_,fun L=>.inr ⟨_,_,rfl,?_,?_⟩,⟨_,_,rfl,?_⟩,fun hx hl hh=>EV_sliceSl hx hl hh h1 (by omega)⟩
  ·rcases Nat.eq_or_lt_of_le h1 with h0|h0
   ·subst h0
    exact .inl (by simp [bsv])
   ·refine .inr ⟨b,_,_,_,_,rfl,Fnd.here,fun j u hj=>?_⟩
    rw [if_neg (by omega),Nat.mul_one,Nat.zero_add]
    have hj2:(bsv xs)[l+j]? =some u:=by
     rw [←hj]
     have hjl:j < h - l:=by
      rcases Nat.lt_or_ge j (h - l) with h'|h'
      ·exact h'
      ·rw [List.getElem?_eq_none (by simp [bsv_length];omega)] at hj;simp at hj
     simp [bsv,List.getElem?_take,hjl]
    simpa using getE_app (r:=rest) hj2
  ·rw [bsv_length] at hxl ⊢
   simp;omega
  ·omega
end Go.Vx
namespace Go.Proofs.YtemdlifojcgplaaGreatDoor
open Go Go.Vx Go.Ob Go.Lib
set_option linter.all false
set_option maxRecDepth 4000
variable [W0]
theorem wrap_i32 {r:Int} (h1:0≤r) (h2:r≤2147483647):IntKind.i32.wrap r=r:=by
 simp [IntKind.wrap,IntKind.bits,IntKind.signed]
 omega
theorem writes_n (s:List UInt8) (n:Nat) (L:List Chunk) (hn:n≤100000000000000000) (hs:s.length≤9223372036854775807) :
 GvP Tryz.prog 63 [.string (str s),.int .i64 (n:Int)].toArray L (.bool (decide (s=dgL n))):=by
 refine Gv.of_body (args:=[.string (str s),.int .i64 (n:Int)]) Tryz.func63 rfl rfl ?_
 refine kW ?_
 refine OW_rangeS rfl rfl (fun b=>?_)
 refine kW ?_
 refine WC_loop (X:=Nat) (fun k=>[(0,.string (str s)),(1,.int .i64 (n:Int)),(5,.int .i64 ((vlD (s.take k):Nat):Int)),(9,.pointer (some ⟨b,0,none⟩))]) (fun k=>[(b,.stringIter (str s) k)]::L)
  (fun k=>k≤s.length∧(∀c∈s.take k,48≤c.toNat∧c.toNat≤57)∧(2≤k→s.getD 0 0≠48)∧vlD (s.take k)≤n) (fun k=>s.length - k) 0 ⟨Nat.zero_le _,by simp,by omega,by simp [vlD]⟩ iS (fun w h=>h) ?_
 rintro k ⟨h1,h2,h3,h4⟩
 by_cases hk:k < s.length
 ·have hr:=rune_at hk
  have hb1:=dg_bad1 (n:=n) hk
  have hrun:=dg_run hk h2
  have hhd:=fun h0=>dg_head h0 hk h2 h3
  refine kW ?_
  refine OW_nextS rfl (by rw [str_size];exact hk) .here rfl ?_
  rw [str_dec]
  generalize (decodeL (s.drop k)).1=c at *
  generalize (decodeL (s.drop k)).2=wd at *
  (repeat' first|refine kW ?_|refine kU fun bk=>?_|refine kV fun hc=>?_|refine kZ (fun hc=>?_) fun hc=>?_|fail)
  ·refine kR ?_
   exact ⟨L,iC,by rw [decide_eq_false (hb1 (by omega))];rfl,rfl⟩
  ·refine kR ?_
   exact ⟨L,iC,by rw [decide_eq_false (hb1 (by omega))];rfl,rfl⟩
  ·refine kR ?_
   have h48:s.getD 0 0=48:=Classical.byContradiction fun h=>(hhd (by omega)).2 h (by omega)
   exact ⟨L,iC,by rw [decide_eq_false (dg_bad2 (by omega) (show 1≤k by omega) hk h48)];rfl,rfl⟩
  all_goals (
   have hcd:48≤(s.getD k 0).toNat∧(s.getD k 0).toNat≤57:=by omega
   have hcw:c=(s.getD k 0).toNat∧wd=1:=by omega
   have h3':2≤k+1→s.getD 0 0≠48:=fun h=>(hhd (by omega)).1 (by omega)
   obtain ⟨h2',hv⟩:=hrun hcd
   refine OW_EV (EV_ari (r:=(c:Int) - 48) rfl rfl rfl) rfl ?_
   rw [wrap_i32 (r:=(c:Int) - 48) (by omega) (by omega),show (c:Int) - 48=((c - 48:Nat):Int) from by omega]
   obtain ⟨hc1,rfl⟩:=hcw
   (repeat' first|refine kW ?_|refine kU fun bk=>?_|refine kV fun hc=>?_|refine kZ (fun hc=>?_) fun hc=>?_|fail)
   all_goals first
    |(refine kR ?_;exact ⟨L,iC,by rw [decide_eq_false (dg_bad3 (s:=s) (k:=k+1) (by omega) (by omega))];rfl,rfl⟩)
    |exact WQ_round (X:=Nat) (μ:=fun k=>s.length - k) (x:=k) (k+1) (by omega) ⟨by omega,h2',h3',by omega⟩ iS (fun w h=>h))
 ·refine kW ?_
  refine OW_EV (EV_endS rfl Fnd.here (by rw [str_size];exact hk)) rfl ?_
  have hke:k=s.length:=by omega
  subst hke
  rw [List.take_length] at h2 h4 ⊢
  have he:=dg_end (s:=s) (n:=n) (by omega) h2 h3
  have hs0:str s={ data:=#[] }↔s=[]:=by rw [show ({ data:=#[] }:ByteArray)=str [] from rfl,str_inj]
  (repeat' first|refine kW ?_|refine kU fun bk=>?_|refine kV fun hc=>?_|refine kZ (fun hc=>?_) fun hc=>?_|fail)
  ·rw [hs0] at hc
   refine kR ?_
   refine ⟨L,iC,?_,rfl⟩
   show Value.bool _=Value.bool _
   congr 1
   rw [Bool.eq_iff_iff,beq_iff_eq,decide_eq_true_eq,he]
   exact ⟨fun h=>⟨hc,by omega⟩,fun h=>by rw [h.2]⟩
  ·rw [hs0] at hc
   refine kR ?_
   exact ⟨L,iC,by rw [decide_eq_false (fun h=>(he.1 h).1 hc)];rfl,rfl⟩
theorem kindin_n (s:List UInt8) (n:Nat) (L:List Chunk) (hb:BsAt L) (hn:n≤100000000000000000) (hs:s.length < 4294967281) :
 GvP Tryz.prog 33 [.string (str s),.int .i64 (n:Int)].toArray L (.tuple #[.int .i64 (kdL (Ob.cutN 32 s).1:Int),.bool (decide (kdL (Ob.cutN 32 s).1≠0∧(Ob.cutN 32 s).2=dgL n))]):=by
 refine Gv.of_body (args:=[.string (str s),.int .i64 (n:Int)]) Tryz.func33 rfl rfl ?_
 have c1:=cut_n s [32] L hb hs
 rw [(cut_one 32 s).1,(cut_one 32 s).2] at c1
 have l1:=cutN_len2 32 s
 generalize (Lib.cut s [32]).2.2=f1 at c1
 refine kW ?_
 refine cP rfl rfl c1 ?_
 refine kW ?_
 refine cP rfl rfl (obkind_n (Ob.cutN 32 s).1 _) ?_
 have hw:=writes_n (Ob.cutN 32 s).2 n L hn (by omega)
 by_cases hk:kdL (Ob.cutN 32 s).1=0
 ·rw [decide_eq_false (p:=kdL (Ob.cutN 32 s).1≠0) (fun h=>h hk),decide_eq_false (p:=kdL (Ob.cutN 32 s).1≠0∧(Ob.cutN 32 s).2=dgL n) (fun h=>h.1 hk)]
  refine kW ?_
  exact kE
 ·rw [decide_eq_true (p:=kdL (Ob.cutN 32 s).1≠0) hk,show decide (kdL (Ob.cutN 32 s).1≠0∧(Ob.cutN 32 s).2=dgL n)=decide ((Ob.cutN 32 s).2=dgL n) from by simp [hk]]
  refine kW ?_
  refine cP rfl rfl hw ?_
  refine kW ?_
  exact kE
theorem index_cut (c:UInt8) (t:List UInt8):(c∉t∧Lib.indexByte t c= -1∧Ob.cutN c t=(t,[]))∨∃k:Nat,c∈t∧k < t.length∧Lib.indexByte t c=(k:Int)∧Ob.cutN c t=(t.take k,t.drop (k+1)):=by
 induction t with
 |nil=>exact .inl ⟨by simp,rfl,rfl⟩
 |cons x t ih=>
  by_cases hx:x=c
  ·subst hx
   exact .inr ⟨0,by simp,by simp,by simp [Lib.indexByte],by simp [Ob.cutN]⟩
  ·rcases ih with ⟨h1,h2,h3⟩|⟨k,h1,h2,h3,h4⟩
   ·exact .inl ⟨by simp [h1,Ne.symm hx],by simp [Lib.indexByte,hx,h2],by simp [Ob.cutN,hx,h3]⟩
   ·refine .inr ⟨k+1,by simp [h1],by simpa using h2,?_,by simp [Ob.cutN,hx,h4]⟩
    rw [Lib.indexByte,if_neg (by simpa using hx),h3,if_neg (by simp)]
    omega
theorem bytesOf_bsv (t:List UInt8):Lib.bytesOf (t.map fun x=>(x.toNat:Int))=t:=by
 unfold Lib.bytesOf
 rw [List.map_map]
 conv=>rhs;rw [←List.map_id t]
 refine List.map_congr_left fun x _=>?_
 simp
def ByV (L:List Chunk) (v:Value) (t:List UInt8):Prop:=
 (v=.slice none 0 0∧t=[])∨∃b cap c T fr,v=.slice (some ⟨b,0,none⟩) t.length cap∧Fnd L b (.cells c T fr)∧∀(i:Nat) u,(bsv t)[i]? =some u→c[i]? =some u
theorem ByV.ow {e:Nat} {v:Value} {t:List UInt8} {C:Chunk} {L:List Chunk} (h:Ow e 1 v t.length (bsv t) C):ByV (C::L) v t:=by
 rcases h with ⟨rfl,h0,_,_⟩|⟨b,cap,rest,rfl,rfl,_,_,_,_⟩
 ·exact .inl ⟨rfl,List.eq_nil_of_length_eq_zero h0⟩
 ·exact .inr ⟨b,cap,_,_,_,rfl,Fnd.here,fun i u hi=>by simpa using getE_app hi⟩
theorem ByV.there {v:Value} {t:List UInt8} {C:Chunk} {L:List Chunk} (h:ByV L v t):ByV (C::L) v t:=by
 rcases h with h|⟨b,cap,c,T,fr,h1,h2,h3⟩
 ·exact .inl h
 ·exact .inr ⟨b,cap,c,T,fr,h1,h2.there,h3⟩
theorem bindex_n (v:Value) (t:List UInt8) (L:List Chunk) (hv:ByV L v t) :
 GvP Tryz.prog 93 [v,.int .u8 0].toArray L (.int .i64 (Lib.indexByte t 0)):=by
 refine Gv.of_body (args:=[v,.int .u8 0]) Tryz.func93 rfl rfl ?_
 refine kW ?_
 refine OW_EV (OW_extern (f:=132) (v:=.int .i64 (Lib.indexByte t 0)) rfl rfl Tryz.func132 (by kernel_rfl) (by kernel_rfl) (by kernel_rfl) rfl (fun w hw=>?_)) rfl ?_
 rotate_left
 ·refine kW ?_
  exact kE
 rcases hv with ⟨rfl,rfl⟩|⟨b,cap,c,T,fr,rfl,h1,h2⟩
 ·exact Lib.run_indexByteNil w 0 0 0
 ·have:=Lib.run_indexByteSlice (P:=Tryz.prog) w b 0 t.length cap (t.map fun x=>(x.toNat:Int)) (by simp) (fun i hi=>?_) 0
  ·rw [bytesOf_bsv] at this
   exact this
  ·rw [cell_of (h1.get hw),Nat.zero_add]
   refine h2 i _ ?_
   simp [bsv,List.getD_eq_getElem?_getD,hi]
theorem bidx_n (v sv:Value) (t:List UInt8) (L:List Chunk) (hv:ByV L v t) (hs:Sl L 1 sv 1 (bsv [0])) :
 GvP Tryz.prog 60 [v,sv].toArray L (.int .i64 (Lib.indexByte t 0)):=by
 refine Gv.of_body (args:=[v,sv]) Tryz.func60 rfl rfl ?_
 obtain ⟨bb,off,cap,c,T,fr,rfl,h1,h2⟩:=sl_byte hs (show 0 < 1 by omega)
 refine kW ?_
 refine OW_EV (EV_indexAddr (j:=0) rfl rfl rfl (by omega)) rfl ?_
 refine kW ?_
 refine OW_EV (EV_load rfl h1 h2) rfl ?_
 refine kW ?_
 refine cP rfl rfl (bindex_n v t _ hv) ?_
 refine kW ?_
 exact kE
theorem bytescut_n (v sv:Value) (t:List UInt8) (C:Chunk) (L:List Chunk) (ho:Ow 5 1 v t.length (bsv t) C) (hv:ByV L v t) (hs:Sl L 1 sv 1 (bsv [0])) (ht:t.length≤140737488355328) :
 Gv Tryz.prog 32 [v,sv].toArray L (fun r L'=>∃v1 v2,r=.tuple #[v1,v2,.bool (decide ((0:UInt8)∈t))]∧(∀L0,SlC (C::L0) 1 v1 (Ob.cutN 0 t).1.length (bsv (Ob.cutN 0 t).1))∧(∀L0,SlC (C::L0) 1 v2 (Ob.cutN 0 t).2.length (bsv (Ob.cutN 0 t).2))∧L'=L):=by
 refine Gv.of_body (args:=[v,sv]) Tryz.func32 rfl rfl ?_
 obtain ⟨va,vc,rfl⟩:=ow_slc ho
 have hi:=bidx_n (.slice va t.length vc) sv t L hv hs
 obtain ⟨sa,sc,rfl⟩:∃a c,sv=.slice a 1 c:=by
  obtain ⟨bb,off,cap,c,T,fr,rfl,_,_⟩:=sl_byte hs (show 0 < 1 by omega)
  exact ⟨_,_,rfl⟩
 rcases index_cut 0 t with ⟨h1,h2,h3⟩|⟨k,h1,h2,h3,h4⟩
 ·rw [h2] at hi
  rw [h3,decide_eq_false h1]
  refine kW ?_
  refine cP rfl rfl hi ?_
  refine kW ?_
  refine kR ?_
  exact ⟨_,iC,_,_,rfl,fun L0=>SlC.ow ho,fun L0=>⟨.inl ⟨0,rfl,rfl,rfl⟩,_,_,rfl,Nat.le_refl _⟩,rfl⟩
 ·rw [h3] at hi
  rw [h4,decide_eq_true h1]
  obtain ⟨r1,q1,⟨a1,c1,rfl,g1⟩,e1⟩:=EV_sliceOwC (P:=Tryz.prog) (T:=22) ho (l:=0) (h:=k) (Nat.zero_le _) (by omega)
  obtain ⟨r2,q2,⟨a2,c2,rfl,g2⟩,e2⟩:=EV_sliceOwC (P:=Tryz.prog) (T:=22) ho (l:=k+1) (h:=t.length) (by omega) (Nat.le_refl _)
  have l1:(t.take k).length=k:=by rw [List.length_take];omega
  have l2:(t.drop (k+1)).length=t.length - (k+1):=by rw [List.length_drop]
  have q1':∀L0,SlC (C::L0) 1 (.slice a1 (k - 0) c1) (t.take k).length (bsv (t.take k)):=fun L0=>⟨by rw [l1];exact q1 L0,a1,c1,by rw [l1];rfl,by rw [l1];exact g1⟩
  have q2':∀L0,SlC (C::L0) 1 (.slice a2 (t.length - (k+1)) c2) (t.drop (k+1)).length (bsv (t.drop (k+1))):=fun L0=>⟨by
   have:=q2 L0
   rw [List.take_of_length_le (by rw [l2];exact Nat.le_refl _)] at this
   rw [l2];exact this,a2,c2,by rw [l2],by rw [l2];exact g2⟩
  refine kW ?_
  refine cP rfl rfl hi ?_
  refine kW ?_
  refine WC_drawAll [] mixed ?_
  (refine WR_t 0 ?_;refine WR_t 1 ?_)
  refine cT 2 rfl rfl (e1 rfl rfl rfl) ?_
  (refine WR_t 3 ?_;refine WR_t 4 ?_;refine WR_t 5 ?_;refine WR_t 6 ?_;refine WR_t 7 ?_)
  refine cT 8 rfl rfl (e2 rfl (bnd_int rfl (by omega)) rfl) ?_
  (refine WR_t 9 ?_;refine WR_t 10 ?_;refine WR_t 11 ?_)
  refine cD ?_
  refine kW ?_
  refine kR ?_
  exact ⟨_,iC,_,_,rfl,q1',q2',rfl⟩
end Go.Proofs.YtemdlifojcgplaaGreatDoor
namespace Go.Vx
open Go
set_option linter.all false
variable [W0]
theorem ow_byte {e m:Nat} {v:Value} {xs:List UInt8} {C:Chunk} (h:Ow e 1 v m (bsv xs) C) {k:Nat} (hk:k < m) :
 ∃b cap rest,v=.slice (some ⟨b,0,none⟩) m cap∧C=[(b,cl (bsv xs++rest) e)]∧(bsv xs++rest).toArray[k * 1]? =some (.int .u8 ((xs.getD k 0).toNat:Int)):=by
 rcases h with ⟨rfl,rfl,_⟩|⟨b,cap,rest,rfl,rfl,hxl,hrl,hmc,hcm⟩
 ·omega
 ·refine ⟨b,cap,rest,rfl,rfl,?_⟩
  have hlt:k < xs.length:=by rw [bsv_length] at hxl;omega
  rw [Nat.mul_one]
  simpa using getE_app (r:=rest) (bsv_get (l:=xs) (i:=k) (b:=xs.getD k 0) (by simp [List.getD,hlt]))
theorem Gv.take2 {P:Program} {L:List Chunk} {f:FuncId} {args:Array Value} {post:Value→List Chunk→Prop} {L1 R:List Chunk} {C D:Chunk} (h:Gv P f args (C::D::R) post) (h1:Take C L L1) (h2:Take D L1 R):Gv P f args L post:=
 h.holds fun _ hw=>(hw.take h1).perm ((h2.perm).cons C)
theorem Holds.gap {w:World} {D:Chunk} {L:List Chunk}:Holds w (D::[]::L)↔Holds w (D::L):=by simp [Holds]
theorem sl_at {L:List Chunk} {v:Value} {m:Nat} {xs:List Value} (h:Sl L 1 v m xs) {k:Nat} {u:Value} (hk:xs[k]? =some u) :
 ∃b off cap c T fr,v=.slice (some ⟨b,off,none⟩) m cap∧Fnd L b (.cells c T fr)∧c[off+k * 1]? =some u:=by
 rcases h with ⟨c,rfl,rfl,rfl⟩|⟨a,cap,rfl,hr,hl⟩
 ·simp at hk
 ·rcases hr with h0|⟨b,off,c,T,fr,rfl,h1,h2⟩
  ·subst h0;simp at hk
  ·exact ⟨b,off,cap,c,T,fr,rfl,h1,by rw [Nat.mul_one];exact h2 _ _ hk⟩
theorem ow_put {e m:Nat} {v:Value} {xs:List UInt8} {C:Chunk} (h:Ow e 1 v m (bsv xs) C) {k:Nat} (hk:k < m) :
 ∃b cap rest,v=.slice (some ⟨b,0,none⟩) m cap∧C=[(b,cl (bsv xs++rest) e)]∧(bsv xs++rest).toArray[k * 1]? =some (.int .u8 ((xs.getD k 0).toNat:Int))∧k * 1 < (bsv xs++rest).length∧
  ∀y:UInt8,Ow e 1 v m (bsv (xs.set k y)) [(b,cl ((bsv xs++rest).set (k * 1) (.int .u8 (y.toNat:Int))) e)]:=by
 rcases h with ⟨rfl,rfl,_⟩|⟨b,cap,rest,rfl,rfl,hxl,hrl,hmc,hcm⟩
 ·omega
 ·have hlt:k < xs.length:=by rw [bsv_length] at hxl;omega
  refine ⟨b,cap,rest,rfl,rfl,?_,?_,fun y=>?_⟩
  ·rw [Nat.mul_one]
   simpa using getE_app (r:=rest) (bsv_get (l:=xs) (i:=k) (b:=xs.getD k 0) (by simp [List.getD,hlt]))
  ·simp [bsv_length];omega
  ·refine .inr ⟨b,cap,rest,rfl,?_,by simpa [bsv_length] using hxl,hrl,hmc,hcm⟩
   have e:(bsv xs++rest).set (k * 1) (.int .u8 (y.toNat:Int))=bsv (xs.set k y)++rest:=by
    rw [Nat.mul_one,List.set_append_left _ _ (by simpa [bsv_length] using hlt)]
    congr 1
    simp [bsv,List.map_set]
   rw [e]
end Go.Vx
namespace Go.Pm
set_option linter.all false
structure It where
 w:Nat
 c:Option Nat
 f:Nat→Nat
def isC (x:It):Bool:=x.c.isSome
def coin (wt:Nat→Nat) (i:Nat):It:=⟨wt i,some i,fun j=>if j=i then 1 else 0⟩
def pack (a b:It):It:=⟨a.w+b.w,none,fun i=>a.f i+b.f i⟩
def pairs:List It→List It
 |a::b::r=>pack a b::pairs r
 |_=>[]
structure Mg (cs ps A:List It):Prop where
 up:A.Pairwise fun a b=>a.w≤b.w
 cs:A.filter isC=cs
 ps:A.filter (fun x=>!isC x)=ps
theorem pairs_length:∀l:List It,(pairs l).length=l.length / 2
 |[]=>rfl
 |[_]=>by simp [pairs]
 |a::b::r=>by
  have:=pairs_length r
  simp only [pairs,List.length_cons,this]
  omega
theorem pairs_isC:∀(l:List It),∀x∈pairs l,isC x=false
 |[],x,h=>by simp [pairs] at h
 |[_],x,h=>by simp [pairs] at h
 |a::b::r,x,h=>by
  simp only [pairs,List.mem_cons] at h
  rcases h with rfl|h
  ·rfl
  ·exact pairs_isC r x h
theorem take_filter {α:Type} (q:α→Bool):∀(l:List α) (m:Nat),(l.take m).filter q=(l.filter q).take ((l.take m).filter q).length
 |[],m=>by simp
 |x::r,0=>by simp
 |x::r,m+1=>by
  simp only [List.take_succ_cons,List.filter_cons]
  have ih:=take_filter q r m
  split
  ·simp only [List.length_cons,List.take_succ_cons]
   rw [←ih]
  ·exact ih
theorem filter_perm {α:Type} (q:α→Bool):∀l:List α,l.Perm (l.filter q++l.filter fun x=>!q x)
 |[]=>.refl _
 |x::r=>by
  have ih:=filter_perm q r
  cases h:q x with
  |true=>simp only [List.filter_cons,h,if_true,Bool.not_true,Bool.false_eq_true,if_false,List.cons_append];exact ih.cons x
  |false=>
   simp only [List.filter_cons,h,Bool.not_false,if_true,Bool.false_eq_true,if_false]
   exact (ih.cons x).trans List.perm_middle.symm
structure Lv (cs:List It) (lv:Nat→List It):Prop where
 zero:lv 0=[]
 next:∀k,Mg cs (pairs (lv k)) (lv (k+1))
section
variable {cs : List It} {lv : Nat → List It} (h : Lv cs lv)
def sC (lv:Nat→List It) (k m:Nat):Nat:=(((lv k).take m).filter isC).length
def pC (lv:Nat→List It) (k m:Nat):Nat:=(((lv k).take m).filter fun x=>!isC x).length
def sel (lv:Nat→List It):Nat→Nat→List Nat
 |0,_=>[]
 |k+1,m=>sC lv (k+1) m::sel lv k (2 * pC lv (k+1) m)
theorem sp (lv:Nat→List It) (k m:Nat) (hm:m≤(lv k).length):sC lv k m+pC lv k m=m:=by
 have:=(filter_perm isC ((lv k).take m)).length_eq
 simp only [List.length_append,List.length_take] at this
 unfold sC pC
 omega
include h in
theorem coins_of (k m:Nat):((lv (k+1)).take m).filter isC=cs.take (sC lv (k+1) m):=by
 have:=take_filter isC (lv (k+1)) m
 rw [(h.next k).cs] at this
 exact this
include h in
theorem packs_of (k m:Nat):((lv (k+1)).take m).filter (fun x=>!isC x)=(pairs (lv k)).take (pC lv (k+1) m):=by
 have:=take_filter (fun x=>!isC x) (lv (k+1)) m
 rw [(h.next k).ps] at this
 exact this
include h in
theorem pC_le (k m:Nat):pC lv (k+1) m≤(pairs (lv k)).length:=by
 rw [←(h.next k).ps]
 unfold pC
 exact ((List.take_sublist m (lv (k+1))).filter _).length_le
include h in
theorem sC_le (k m:Nat):sC lv (k+1) m≤cs.length:=by
 rw [←(h.next k).cs]
 unfold sC
 exact ((List.take_sublist m (lv (k+1))).filter _).length_le
include h in
theorem pC_two (k m:Nat):2 * pC lv (k+1) m≤(lv k).length:=by
 have:=pC_le h k m
 rw [pairs_length] at this
 omega
def kr:List Nat→Nat
 |[]=>0
 |s::r=>s * 2 ^ r.length+kr r
theorem sel_length (lv:Nat→List It):∀k m,(sel lv k m).length=k
 |0,_=>rfl
 |k+1,m=>by simp [sel,sel_length lv k]
include h in
theorem kr_sel:∀k m,m≤(lv (k+1)).length→kr (sel lv (k+1) m)=m * 2 ^ k
 |0,m,hm=>by
  have h1:=sp lv 1 m hm
  have h2:=pC_le h 0 m
  rw [h.zero] at h2
  simp [pairs] at h2
  simp only [sel,kr,List.length_nil]
  simp only [Nat.zero_add] at h2 ⊢
  omega
 |k+1,m,hm=>by
  have h1:=sp lv (k+2) m hm
  have h2:=pC_two h (k+1) m
  have ih:=kr_sel k _ h2
  rw [sel,kr,ih,sel_length,Nat.pow_succ]
  rw [show 2 * pC lv (k+1+1) m * 2 ^ k=pC lv (k+1+1) m * (2 ^ k * 2) from by rw [Nat.mul_comm 2,Nat.mul_assoc,Nat.mul_comm 2],←Nat.add_mul,h1]
def down:List Nat→Prop
 |[]=>True
 |[_]=>True
 |a::b::r=>b≤a∧down (b::r)
theorem mem_pairs:∀{l:List It} {t:Nat} {x:It},l[t]? =some x→(h2:t < 2 * (pairs l).length)→(hp:∀y∈l,0 < y.w)→∃y,(pairs l)[t / 2]? =some y∧x.w < y.w
 |[],t,x,h,_,_=>by simp at h
 |[_],t,x,h,h2,_=>by simp [pairs] at h2
 |a::b::r,0,x,h,_,hp=>by
  simp at h;subst h
  have:=hp b (by simp)
  exact ⟨pack a b,rfl,by simp only [pack];omega⟩
 |a::b::r,1,x,h,_,hp=>by
  simp at h;subst h
  have:=hp a (by simp)
  exact ⟨pack a b,rfl,by simp only [pack];omega⟩
 |a::b::r,t+2,x,h,h2,hp=>by
  have h':r[t]? =some x:=by simpa using h
  obtain ⟨y,hy,hw⟩:=mem_pairs h' (by simp [pairs] at h2;omega) (fun y hy=>hp y (by simp [hy]))
  refine ⟨y,?_,hw⟩
  rw [show (t+2) / 2=t / 2+1 from by omega]
  simpa [pairs] using hy
include h in
theorem pos (hp:∀x∈cs,0 < x.w):∀k,∀y∈lv k,0 < y.w
 |0,y,hy=>by rw [h.zero] at hy;simp at hy
 |k+1,y,hy=>by
  cases hc:isC y with
  |true=>
   have:y∈(lv (k+1)).filter isC:=List.mem_filter.2 ⟨hy,hc⟩
   rw [(h.next k).cs] at this
   exact hp y this
  |false=>
   have:y∈(lv (k+1)).filter fun x=>!isC x:=List.mem_filter.2 ⟨hy,by simp [hc]⟩
   rw [(h.next k).ps] at this
   have ih:=pos hp k
   have key:∀(l:List It),(∀z∈l,0 < z.w)→∀z∈pairs l,0 < z.w:=by
    intro l
    induction l using pairs.induct with
    |case1 a b r ihr=>
     intro hl z hz
     simp only [pairs,List.mem_cons] at hz
     rcases hz with rfl|hz
     ·have:=hl a (by simp);simp only [pack];omega
     ·exact ihr (fun z hz=>hl z (by simp [hz])) z hz
    |case2 l hl2=>
     intro _ z hz
     rw [pairs] at hz
     ·simp at hz
     ·exact hl2
   exact key _ ih y this
include h in
theorem sel_down2 (hp:∀x∈cs,0 < x.w) (k m:Nat):sC lv (k+1) (2 * pC lv (k+2) m)≤sC lv (k+2) m:=by
 rcases Nat.lt_or_ge (sC lv (k+2) m) (sC lv (k+1) (2 * pC lv (k+2) m)) with hlt|hle
 ·exfalso
  have hn:=sC_le h k (2 * pC lv (k+2) m)
  have hcs:sC lv (k+2) m < cs.length:=by omega
  -- the coin that comes next
  obtain ⟨x,hx⟩:∃x,cs[sC lv (k+2) m]? =some x:=⟨cs[sC lv (k+2) m],by simp [hcs]⟩
  have hin:x∈((lv (k+1)).take (2 * pC lv (k+2) m)).filter isC:=by
   rw [coins_of h]
   refine List.mem_of_getElem? (i:=sC lv (k+2) m) ?_
   rw [List.getElem?_take,if_pos hlt];exact hx
  obtain ⟨hin1,hxc⟩:=List.mem_filter.1 hin
  obtain ⟨t,ht⟩:=List.getElem?_of_mem hin1
  rw [List.getElem?_take] at ht
  split at ht
  ·rename_i htl
   have h2:pC lv (k+2) m≤(pairs (lv (k+1))).length:=pC_le h (k+1) m
   have hpk:((lv (k+2)).take m).filter (fun x=>!isC x)=(pairs (lv (k+1))).take (pC lv (k+2) m):=packs_of h (k+1) m
   obtain ⟨y,hy,hyw⟩:=mem_pairs ht (by omega) (pos h hp (k+1))
   have hym:y∈((lv (k+2)).take m).filter fun x=>!isC x:=by
    rw [hpk]
    refine List.mem_of_getElem? (i:=t / 2) ?_
    rw [List.getElem?_take,if_pos (by omega)];exact hy
   have hy1:=(List.mem_filter.1 hym).1
   -- the coin stands behind
   have hxd:x∈(lv (k+2)).drop m:=by
    have e:cs=((lv (k+2)).take m).filter isC++((lv (k+2)).drop m).filter isC:=by
     rw [←List.filter_append,List.take_append_drop,(h.next (k+1)).cs]
    have hl:(((lv (k+2)).take m).filter isC).length=sC lv (k+2) m:=rfl
    rw [e,List.getElem?_append_right (by omega),hl,Nat.sub_self] at hx
    exact (List.mem_filter.1 (List.mem_of_getElem? hx)).1
   have hup:=(h.next (k+1)).up
   rw [←List.take_append_drop m (lv (k+1+1)),List.pairwise_append] at hup
   have:=hup.2.2 y hy1 x hxd
   omega
  ·cases ht
 ·exact hle
include h in
theorem sel_down (hp:∀x∈cs,0 < x.w):∀k m,down (sel lv k m)
 |0,_=>trivial
 |1,_=>trivial
 |k+2,m=>⟨sel_down2 h hp k m,sel_down hp (k+1) _⟩
end
end Go.Pm
namespace Go.Pm
set_option linter.all false
def ln (S:List Nat) (r:Nat):Nat:=(S.filter fun s=>decide (r < s)).length
def sumTo (g:Nat→Nat):Nat→Nat
 |0=>0
 |n+1=>sumTo g n+g n
theorem sumTo_congr {g h:Nat→Nat}:∀{n:Nat},(∀i,i < n→g i=h i)→sumTo g n=sumTo h n
 |0,_=>rfl
 |n+1,hh=>by
  have h1:=sumTo_congr (n:=n) (fun i hi=>hh i (by omega))
  simp only [sumTo,h1,hh n (by omega)]
theorem sumTo_add (g:Nat→Nat) (a:Nat):∀b,sumTo g (a+b)=sumTo g a+sumTo (fun i=>g (a+i)) b
 |0=>rfl
 |b+1=>by
  have h1:=sumTo_add g a b
  rw [←Nat.add_assoc]
  simp only [sumTo,h1]
  omega
theorem sumTo_const (c:Nat):∀n,sumTo (fun _=>c) n=n * c
 |0=>by simp [sumTo]
 |n+1=>by simp only [sumTo,sumTo_const c n,Nat.add_mul,Nat.one_mul]
theorem sumTo_le (g:Nat→Nat):∀{n i:Nat},i < n→g i≤sumTo g n
 |0,i,h=>by omega
 |n+1,i,h=>by
  simp only [sumTo]
  rcases Nat.lt_or_ge i n with h'|h'
  ·have:=sumTo_le g h';omega
  ·rw [show i=n from by omega];omega
theorem sumTo_two (g:Nat→Nat) {n i j:Nat} (hi:i < n) (hj:j < n) (hne:i≠j):g i+g j≤sumTo g n:=by
 induction n with
 |zero=>omega
 |succ n ih=>
  simp only [sumTo]
  by_cases h1:i=n
  ·have:=sumTo_le g (show j < n by omega);subst h1;omega
  ·by_cases h2:j=n
   ·have:=sumTo_le g (show i < n by omega);subst h2;omega
   ·have:=ih (by omega) (by omega);omega
theorem down_tail {s:Nat} {R:List Nat} (h:down (s::R)):down R:=by
 cases R with
 |nil=>trivial
 |cons b r=>exact h.2
theorem down_le:∀{R:List Nat} {s:Nat},down (s::R)→∀x∈R,x≤s
 |[],s,_,x,hx=>by simp at hx
 |b::r,s,h,x,hx=>by
  rcases List.mem_cons.1 hx with rfl|hx
  ·exact h.1
  ·exact Nat.le_trans (down_le h.2 x hx) h.1
theorem ln_cons (s:Nat) (R:List Nat) (r:Nat):ln (s::R) r=(if r < s then 1 else 0)+ln R r:=by
 unfold ln
 by_cases h:r < s
 ·simp [h];omega
 ·simp [h]
theorem ln_zero {R:List Nat} {r:Nat} (h:∀x∈R,x≤r):ln R r=0:=by
 unfold ln
 rw [List.filter_eq_nil_iff.2 (fun x hx=>by have:=h x hx;simp;omega)]
 rfl
theorem ln_le (S:List Nat) (r:Nat):ln S r≤S.length:=List.length_filter_le _ _
theorem shares:∀(S:List Nat) (n:Nat),down S→(∀s∈S,s≤n)→sumTo (fun r=>2 ^ (S.length - ln S r)) n+kr S=n * 2 ^ S.length
 |[],n,_,_=>by simp [ln,kr,sumTo_const]
 |s::R,n,hd,hn=>by
  have hs:s≤n:=hn s (by simp)
  have hR:=down_le hd
  have ih:=shares R s (down_tail hd) hR
  obtain ⟨j,rfl⟩:=Nat.le.dest hs
  rw [sumTo_add]
  have e1:sumTo (fun r=>2 ^ ((s::R).length - ln (s::R) r)) s=sumTo (fun r=>2 ^ (R.length - ln R r)) s:=by
   refine sumTo_congr fun r hr=>?_
   rw [ln_cons,if_pos hr,List.length_cons]
   congr 1
   omega
  have e2:sumTo (fun i=>2 ^ ((s::R).length - ln (s::R) (s+i))) j=j * 2 ^ (R.length+1):=by
   rw [←sumTo_const]
   refine sumTo_congr fun i hi=>?_
   rw [ln_cons,if_neg (by omega),ln_zero (fun x hx=>by have:=hR x hx;omega),List.length_cons]
   rfl
  rw [e1,e2,kr,List.length_cons,Nat.pow_succ]
  generalize sumTo (fun r=>2 ^ (R.length - ln R r)) s=x at *
  generalize 2 ^ R.length=y at *
  generalize kr R=z at *
  rw [Nat.add_mul,←Nat.mul_assoc,←Nat.mul_assoc]
  omega
section
variable {cs : List It} {lv : Nat → List It} (h : Lv cs lv)
include h in
theorem lv_length (k:Nat):(lv (k+1)).length=cs.length+(lv k).length / 2:=by
 have:=(filter_perm isC (lv (k+1))).length_eq
 rw [(h.next k).cs,(h.next k).ps] at this
 simpa [pairs_length] using this
include h in
theorem lv_room (hn:0 < cs.length):∀k,∃c,(lv (k+1)).length+c=2 * cs.length∧1≤c∧(c - 1) * 2 ^ k < cs.length
 |0=>⟨cs.length,by rw [lv_length h,h.zero];simp;omega,hn,by omega⟩
 |k+1=>by
  obtain ⟨c,h1,h2,h3⟩:=lv_room hn k
  refine ⟨(c+1) / 2,by rw [lv_length h (k+1)];omega,by omega,?_⟩
  have h4:2 * ((c+1) / 2 - 1)≤c - 1:=by omega
  have h5:=Nat.mul_le_mul_right (2 ^ k) h4
  rw [Nat.pow_succ,Nat.mul_comm (2 ^ k),←Nat.mul_assoc,Nat.mul_comm _ 2]
  omega
include h in
theorem lv_full (k:Nat) (hn:0 < cs.length) (hk:cs.length≤2 ^ (k+1)):2 * cs.length - 2≤(lv (k+1)).length:=by
 obtain ⟨c,h1,h2,h3⟩:=lv_room h hn k
 rw [Nat.pow_succ] at hk
 have h4:c - 1 < 2:=by
  rcases Nat.lt_or_ge (c - 1) 2 with h'|h'
  ·exact h'
  ·have:=Nat.mul_le_mul_right (2 ^ k) h'
   omega
 omega
theorem sel_all (hh:∀k m,sC lv (k+1) m≤cs.length):∀k m,∀s∈sel lv k m,s≤cs.length
 |0,m,s,hs=>by simp [sel] at hs
 |k+1,m,s,hs=>by
  simp only [sel,List.mem_cons] at hs
  rcases hs with rfl|hs
  ·exact hh k m
  ·exact sel_all hh k _ s hs
theorem whole (h:Lv cs lv) (hp:∀x∈cs,0 < x.w) (k:Nat) (hn:1≤cs.length) (hk:cs.length≤2 ^ (k+1)) :
 sumTo (fun r=>2 ^ (k+1 - ln (sel lv (k+1) (2 * cs.length - 2)) r)) cs.length=2 ^ (k+1):=by
 have h1:=shares (sel lv (k+1) (2 * cs.length - 2)) cs.length (sel_down h hp _ _) (sel_all (sC_le h) _ _)
 rw [sel_length,kr_sel h k _ (lv_full h k hn hk)] at h1
 have e:(2 * cs.length - 2) * 2 ^ k+2 ^ (k+1)=cs.length * 2 ^ (k+1):=by
  rw [Nat.pow_succ,show 2 ^ k * 2=2 * 2 ^ k from Nat.mul_comm _ _,←Nat.mul_assoc]
  obtain ⟨j,hj⟩:∃j,cs.length=j+1:=⟨cs.length - 1,by omega⟩
  rw [hj,show 2 * (j+1) - 2=2 * j from by omega,show (j+1) * 2=2 * j+2 from by omega,Nat.add_mul]
 omega
theorem taken (h:Lv cs lv) (hp:∀x∈cs,0 < x.w) (k:Nat) (hn:2≤cs.length) (hk:cs.length≤2 ^ (k+1)) (r:Nat) (hr:r < cs.length):1≤ln (sel lv (k+1) (2 * cs.length - 2)) r:=by
 have h1:=whole h hp k (by omega) hk
 rcases Nat.eq_zero_or_pos (ln (sel lv (k+1) (2 * cs.length - 2)) r) with h0|h0
 ·exfalso
  obtain ⟨q,hq,hne⟩:∃q,q < cs.length∧r≠q:=by
   rcases Nat.eq_zero_or_pos r with h2|h2
   ·exact ⟨1,by omega,by omega⟩
   ·exact ⟨0,by omega,by omega⟩
  have:=sumTo_two (fun r=>2 ^ (k+1 - ln (sel lv (k+1) (2 * cs.length - 2)) r)) hr hq hne
  simp only [h0,Nat.sub_zero] at this
  have hpos:0 < 2 ^ (k+1 - ln (sel lv (k+1) (2 * cs.length - 2)) q):=Nat.pow_pos (by decide)
  omega
 ·exact h0
end
end Go.Pm
namespace Go.Hf
set_option linter.all false
def kS:List Nat→Nat
 |[]=>0
 |x::r=>(if 0 < x then 2 ^ (15 - x) else 0)+kS r
theorem kS_app (a b:List Nat):kS (a++b)=kS a+kS b:=by
 induction a with
 |nil=>simp [kS]
 |cons x r ih=>simp only [List.cons_append,kS,ih];omega
theorem kS_le (l:List Nat):kS l≤l.length * 16384:=by
 induction l with
 |nil=>simp [kS]
 |cons x r ih=>
  have:(if 0 < x then 2 ^ (15 - x) else 0)≤16384:=by
   split
   ·exact Nat.le_trans (Nat.pow_le_pow_right (by decide) (show 15 - x≤14 by omega)) (by decide)
   ·omega
  simp only [kS,List.length_cons]
  omega
def cn (l:List Nat) (n:Nat):Nat:=(l.filter fun x=>x == n).length
theorem cn_app (a b:List Nat) (n:Nat):cn (a++b) n=cn a n+cn b n:=by simp [cn]
theorem cn_cons (x:Nat) (r:List Nat) (n:Nat):cn (x::r) n=(if x=n then 1 else 0)+cn r n:=by
 unfold cn
 by_cases h:x=n
 ·simp [h];omega
 ·simp [h]
def fs (l:List Nat):Nat→Nat
 |0=>0
 |n+1=>2 * (fs l n+if n=0 then 0 else cn l n)
theorem fs_one (l:List Nat):fs l 1=0:=rfl
theorem fs_succ (l:List Nat) {n:Nat} (h:0 < n):fs l (n+1)=2 * (fs l n+cn l n):=by
 rw [fs,if_neg (by omega)]
def ks (l:List Nat) (n:Nat):Nat:=kS (l.filter fun x=>decide (x≤n))
theorem ks_succ (l:List Nat) (n:Nat):ks l (n+1)=ks l n+cn l (n+1) * 2 ^ (15 - (n+1)):=by
 induction l with
 |nil=>simp [ks,kS,cn]
 |cons x r ih=>
  unfold ks at *
  rw [cn_cons]
  rcases Nat.lt_trichotomy x (n+1) with h|h|h
  ·have h1:x≤n+1:=by omega
   have h2:x≤n:=by omega
   have h3:x≠n+1:=by omega
   simp only [List.filter_cons,h1,h2,h3,decide_true,if_true,kS,if_false,ih,Nat.zero_add]
   omega
  ·subst h
   have h2:¬n+1≤n:=by omega
   simp only [List.filter_cons,Nat.le_refl,h2,decide_true,decide_false,if_true,Bool.false_eq_true,if_false,kS,ih,Nat.zero_lt_succ,Nat.add_mul,Nat.one_mul]
   omega
  ·have h1:¬x≤n+1:=by omega
   have h2:¬x≤n:=by omega
   have h3:x≠n+1:=by omega
   simp only [List.filter_cons,h1,h2,h3,decide_false,Bool.false_eq_true,if_false,ih,Nat.zero_add]
theorem ks_zero (l:List Nat):ks l 0=0:=by
 induction l with
 |nil=>rfl
 |cons x r ih=>
  unfold ks at *
  by_cases h:x≤0
  ·simp only [List.filter_cons,h,decide_true,if_true,kS,ih]
   rw [if_neg (by omega)]
  ·simp only [List.filter_cons,h,decide_false,Bool.false_eq_true,if_false,ih]
theorem ks_all {l:List Nat} {n:Nat} (h:∀x∈l,x≤n):ks l n=kS l:=by
 unfold ks
 rw [List.filter_eq_self.2 (fun x hx=>by simpa using h x hx)]
theorem ks_mono (l:List Nat) {a b:Nat} (h:a≤b):ks l a≤ks l b:=by
 induction b with
 |zero=>rw [Nat.le_zero.1 h];exact Nat.le_refl _
 |succ b ih=>
  rcases Nat.lt_or_ge a (b+1) with h'|h'
  ·rw [ks_succ];have:=ih (by omega);omega
  ·rw [show a=b+1 from by omega];exact Nat.le_refl _
theorem ks_le (l:List Nat) (n:Nat):ks l n≤kS l:=by
 have key:∀l:List Nat,kS (l.filter fun x=>decide (x≤n))≤kS l:=by
  intro l
  induction l with
  |nil=>exact Nat.le_refl _
  |cons x r ih=>
   by_cases h:x≤n
   ·simp only [List.filter_cons,h,decide_true,if_true,kS];omega
   ·simp only [List.filter_cons,h,decide_false,Bool.false_eq_true,if_false,kS];omega
 exact key l
theorem fs_end (l:List Nat):∀n,1≤n→n≤15→(fs l n+cn l n) * 2 ^ (15 - n)=ks l n
 |0,h,_=>by omega
 |1,_,_=>by
  have h:ks l 1=ks l 0+cn l 1 * 2 ^ (15 - 1):=ks_succ l 0
  rw [ks_zero] at h
  rw [fs_one,Nat.zero_add]
  omega
 |n+2,_,h2=>by
  have ih:=fs_end l (n+1) (by omega) (by omega)
  rw [fs_succ l (by omega),ks_succ,←ih,Nat.add_mul]
  congr 1
  rw [show 15 - (n+1)=15 - (n+1+1)+1 from by omega,Nat.pow_succ]
  generalize fs l (n+1)+cn l (n+1)=x
  generalize 2 ^ (15 - (n+1+1))=y
  rw [Nat.mul_comm 2 x,Nat.mul_assoc,Nat.mul_comm 2 y]
theorem fs_fit {l:List Nat} (hk:kS l≤32768) {n:Nat} (h1:1≤n) (h2:n≤15):fs l n+cn l n≤2 ^ n:=by
 have h:=fs_end l n h1 h2
 have h3:=ks_le l n
 have h4:(fs l n+cn l n) * 2 ^ (15 - n)≤2 ^ n * 2 ^ (15 - n):=by
  rw [h,←Nat.pow_add,show n+(15 - n)=15 from by omega]
  exact Nat.le_trans h3 hk
 exact Nat.le_of_mul_le_mul_right h4 (Nat.pow_pos (by decide))
def cd (l:List Nat) (i:Nat):Nat:=if l.getD i 0=0 then 0 else fs l (l.getD i 0)+cn (l.take i) (l.getD i 0)
def cds (l:List Nat):List Nat:=(List.range l.length).map (cd l)
theorem cn_take_lt {l:List Nat} {i n:Nat} (hi:l[i]? =some n):cn (l.take i) n < cn l n:=by
 have hlt:i < l.length:=by
  rcases Nat.lt_or_ge i l.length with h|h
  ·exact h
  ·simp [List.getElem?_eq_none h] at hi
 have e:l=l.take i++(n::l.drop (i+1)):=by
  rw [List.getElem?_eq_getElem hlt] at hi
  rw [←Option.some.inj hi,←List.drop_eq_getElem_cons hlt,List.take_append_drop]
 have:=congrArg (fun x=>cn x n) e
 simp only [cn_app,cn_cons,if_true] at this
 omega
theorem cd_in {l:List Nat} {i n:Nat} (hi:l[i]? =some n) (h0:n≠0):fs l n≤cd l i∧cd l i < fs l n+cn l n:=by
 have hg:l.getD i 0=n:=by simp [List.getD,hi]
 have:=cn_take_lt hi
 unfold cd
 rw [hg,if_neg h0]
 omega
theorem cn_take_mono (l:List Nat) (n:Nat) {i j:Nat} (h:i≤j):cn (l.take i) n≤cn (l.take j) n:=by
 have:l.take j=l.take i++(l.drop i).take (j - i):=by
  rw [List.take_drop,show i+(j - i)=j from by omega]
  have h1:l.take i=(l.take j).take i:=by rw [List.take_take,Nat.min_eq_left h]
  rw [h1,List.take_append_drop]
 rw [this,cn_app]
 omega
theorem cd_inj {l:List Nat} {i j n:Nat} (hi:l[i]? =some n) (hj:l[j]? =some n) (h0:n≠0) (he:cd l i=cd l j):i=j:=by
 have key:∀{i j:Nat},l[i]? =some n→l[j]? =some n→i < j→cd l i < cd l j:=by
  intro i j hi hj hlt
  have hg:l.getD i 0=n:=by simp [List.getD,hi]
  have hg2:l.getD j 0=n:=by simp [List.getD,hj]
  have h1:cn (l.take (i+1)) n=cn (l.take i) n+1:=by
   rw [List.take_add_one,hi,cn_app]
   simp [cn]
  have h2:=cn_take_mono l n (show i+1≤j from hlt)
  unfold cd
  rw [hg,hg2,if_neg h0,if_neg h0]
  omega
 rcases Nat.lt_trichotomy i j with h|h|h
 ·have:=key hi hj h;omega
 ·exact h
 ·have:=key hj hi h;omega
theorem cd_surj {l:List Nat} {n v:Nat} (h0:n≠0) (h1:fs l n≤v) (h2:v < fs l n+cn l n):∃i,l[i]? =some n∧cd l i=v:=by
 have key:∀(l:List Nat) (k:Nat),k < cn l n→∃i,l[i]? =some n∧cn (l.take i) n=k:=by
  intro l
  induction l with
  |nil=>intro k hk;simp [cn] at hk
  |cons x r ih=>
   intro k hk
   rw [cn_cons] at hk
   by_cases hx:x=n
   ·rw [if_pos hx] at hk
    rcases Nat.eq_zero_or_pos k with h|h
    ·exact ⟨0,by simp [hx],by simp [cn,h]⟩
    ·obtain ⟨i,hi,hc⟩:=ih (k - 1) (by omega)
     exact ⟨i+1,by simpa using hi,by rw [List.take_succ_cons,cn_cons,if_pos hx,hc];omega⟩
   ·rw [if_neg hx,Nat.zero_add] at hk
    obtain ⟨i,hi,hc⟩:=ih k hk
    exact ⟨i+1,by simpa using hi,by rw [List.take_succ_cons,cn_cons,if_neg hx,hc];omega⟩
 obtain ⟨i,hi,hc⟩:=key l (v - fs l n) (by omega)
 have hg:l.getD i 0=n:=by simp [List.getD,hi]
 refine ⟨i,hi,?_⟩
 unfold cd
 rw [hg,if_neg h0,hc]
 omega
theorem fs_later (l:List Nat) {n:Nat} (h0:0 < n):∀k,(fs l n+cn l n) * 2 ^ (k+1)≤fs l (n+k+1)
 |0=>by rw [fs_succ l (by omega)];simp;omega
 |k+1=>by
  have ih:=fs_later l h0 k
  rw [show n+(k+1)+1=(n+k+1)+1 from by omega,fs_succ l (by omega),Nat.pow_succ,←Nat.mul_assoc]
  omega
theorem cd_prefix {l:List Nat} {i n m:Nat} (hi:l[i]? =some m) (h0:0 < n) (hm:n < m):fs l n+cn l n≤cd l i / 2 ^ (m - n):=by
 obtain ⟨k,rfl⟩:∃k,m=n+k+1:=⟨m - n - 1,by omega⟩
 have h1:=fs_later l h0 k
 have h2:=(cd_in hi (by omega)).1
 rw [Nat.le_div_iff_mul_le (Nat.pow_pos (by decide)),show n+k+1 - n=k+1 from by omega]
 omega
def ext (l:List Nat) (n v:Nat):Prop:=∃(i m:Nat),l[i]? =some m∧n < m∧cd l i / 2 ^ (m - n)=v
theorem ext_iff {l:List Nat} (hk:kS l≤32768) (hl:∀x∈l,x≤15) {n v:Nat} (hn:n≤15):ext l n v↔((if n=0 then 0 else fs l n+cn l n)≤v∧v * 2 ^ (15 - n) < kS l):=by
 have hend:∀m,1≤m→m≤15→(fs l m+cn l m) * 2 ^ (15 - m)≤kS l:=fun m h1 h2=>by rw [fs_end l m h1 h2];exact ks_le l m
 constructor
 ·rintro ⟨i,m,hi,hm,rfl⟩
  have hm15:=hl m (List.mem_of_getElem? hi)
  obtain ⟨c1,c2⟩:=cd_in hi (by omega)
  refine ⟨?_,?_⟩
  ·split
   ·exact Nat.zero_le _
   ·exact cd_prefix hi (by omega) hm
  ·have h1:=hend m (by omega) hm15
   have h2:cd l i / 2 ^ (m - n) * 2 ^ (15 - n)≤cd l i * 2 ^ (15 - m):=by
    rw [show 15 - n=(m - n)+(15 - m) from by omega,Nat.pow_add,←Nat.mul_assoc]
    exact Nat.mul_le_mul_right _ (Nat.div_mul_le_self _ _)
   have h3:(cd l i+1) * 2 ^ (15 - m)≤(fs l m+cn l m) * 2 ^ (15 - m):=Nat.mul_le_mul_right _ c2
   have h4:0 < 2 ^ (15 - m):=Nat.pow_pos (by decide)
   rw [Nat.add_mul] at h3
   omega
 ·rintro ⟨h1,h2⟩
  -- the first length whose codes reach beyond v
  have hex:∃m,n < m∧m≤15∧v * 2 ^ (15 - n) < ks l m:=by
   refine ⟨15,?_,Nat.le_refl _,by rw [ks_all hl];exact h2⟩
   rcases Nat.lt_or_ge n 15 with h|h
   ·exact h
   ·exfalso
    have hn15:n=15:=by omega
    subst hn15
    rw [if_neg (by omega)] at h1
    have h3:=fs_end l 15 (by omega) (by omega)
    rw [ks_all hl] at h3
    simp at h3 h2
    omega
  have hmin:∃m,n < m∧m≤15∧v * 2 ^ (15 - n) < ks l m∧∀q,n < q→q < m→ks l q≤v * 2 ^ (15 - n):=by
   obtain ⟨m,a1,a2,a3⟩:=hex
   have key:∀m,n < m→m≤15→v * 2 ^ (15 - n) < ks l m→∃m,n < m∧m≤15∧v * 2 ^ (15 - n) < ks l m∧∀q,n < q→q < m→ks l q≤v * 2 ^ (15 - n):=by
    intro m
    induction m with
    |zero=>intro h;omega
    |succ m ih=>
     intro b1 b2 b3
     by_cases hc:n < m∧v * 2 ^ (15 - n) < ks l m
     ·exact ih hc.1 (by omega) hc.2
     ·refine ⟨m+1,b1,b2,b3,fun q c1 c2=>?_⟩
      have:ks l q≤ks l m:=ks_mono l (by omega)
      have h5:¬v * 2 ^ (15 - n) < ks l m:=fun h=>hc ⟨by omega,h⟩
      omega
   exact key m a1 a2 a3
  obtain ⟨m,m1,m2,m3,m4⟩:=hmin
  have hlow:ks l (m - 1)≤v * 2 ^ (15 - n):=by
   rcases Nat.lt_or_ge n (m - 1) with h|h
   ·exact m4 (m - 1) h (by omega)
   ·have hmn:m - 1=n:=by omega
    rw [hmn]
    rcases Nat.eq_zero_or_pos n with h0|h0
    ·subst h0;rw [ks_zero];exact Nat.zero_le _
    ·rw [if_neg (by omega)] at h1
     rw [←fs_end l n h0 hn]
     exact Nat.mul_le_mul_right _ h1
  have hstep:ks l m=ks l (m - 1)+cn l m * 2 ^ (15 - m):=by
   obtain ⟨q,rfl⟩:∃q,m=q+1:=⟨m - 1,by omega⟩
   exact ks_succ l q
  have hfe:=fs_end l m (by omega) m2
  -- the code of length m that begins with v and goes on with zeros
  have hp:v * 2 ^ (15 - n)=v * 2 ^ (m - n) * 2 ^ (15 - m):=by
   rw [Nat.mul_assoc,←Nat.pow_add,show m - n+(15 - m)=15 - n from by omega]
  have hpos:0 < 2 ^ (15 - m):=Nat.pow_pos (by decide)
  have g1:fs l m≤v * 2 ^ (m - n):=by
   have:fs l m * 2 ^ (15 - m)≤v * 2 ^ (m - n) * 2 ^ (15 - m):=by
    rw [←hp]
    rw [Nat.add_mul] at hfe
    omega
   exact Nat.le_of_mul_le_mul_right this hpos
  have g2:v * 2 ^ (m - n) < fs l m+cn l m:=by
   have:v * 2 ^ (m - n) * 2 ^ (15 - m) < (fs l m+cn l m) * 2 ^ (15 - m):=by rw [←hp,hfe];exact m3
   exact Nat.lt_of_mul_lt_mul_right this
  obtain ⟨i,hi,hc⟩:=cd_surj (show m≠0 by omega) g1 g2
  refine ⟨i,m,hi,m1,?_⟩
  rw [hc,Nat.mul_div_cancel _ (Nat.pow_pos (by decide))]
end Go.Hf
namespace Go.Vx
open Go
set_option linter.all false
variable [W0]
section
variable {P : Program} {n : Nat} {M : List (Nat × Value)} {L : List Chunk} {d : Nat} {ty : TypeId} {ps : String} {af : Array Edge} {g : Option (Nat × Bool)} {x y : Operand}
theorem EV_shl64 {t u:TypeId} {k':IntKind} {i j:Int} (a s:Nat) (hx:ev M x=some (.int .i64 i)) (hy:ev M y=some (.int k' j)) (hi:i=(a:Int)) (hj:j=(s:Int)) (hs:s≤64) (hr:a * 2 ^ s≤9223372036854775807) :
 EV P n ⟨some d,.binOp .shl t x y u,ty,ps,af,g⟩ M L d (.int .i64 ((a * 2 ^ s:Nat):Int)):=by
 subst hi hj
 refine EV_shl hx hy (by omega) ?_
 rw [Int.toNat_natCast,Nat.min_eq_left (by simpa [IntKind.bits] using hs)]
 have c:(a:Int) * 2 ^ s=((a * 2 ^ s:Nat):Int):=by simp
 rw [c]
 exact wrap_i64 (by omega) (by omega)
end
omit [W0] in
def wnv (l:List Nat):List Value:=l.map fun (n:Nat)=>Value.int .u32 (n:Int)
theorem wnv_length {l:List Nat}:(wnv l).length=l.length:=by simp [wnv]
theorem wnv_ones {l:List Nat}:ones (wnv l)=true:=by simp [ones,wnv,Value.oneCell']
theorem wnv_get {l:List Nat} {i n:Nat} (h:l[i]? =some n):(wnv l)[i]? =some (.int .u32 (n:Int)):=by simp [wnv,h]
theorem zeros_wnv:∀n,zeros [.int .u32 0] n=wnv (List.replicate n 0)
 |0=>rfl
 |n+1=>by simp only [zeros,List.replicate_succ];rw [zeros_wnv n];rfl
theorem ints_get {l:List Int} {i:Nat} (h:i < l.length):(intsN l)[i]? =some (.int .i64 (l.getD i 0)):=by simp [intsN,List.getD,h]
end Go.Vx
namespace Go.Hf
def okL (ls:List Int):Bool:=ls.all fun x=>decide (0≤x)&&decide (x≤15)
def nl (ls:List Int):List Nat:=ls.map Int.toNat
def wgt (ls:List Int):Int:=if okL ls then (kS (nl ls):Int) else -1
theorem nl_length (ls:List Int):(nl ls).length=ls.length:=by simp [nl]
theorem okL_take {ls:List Int} {i:Nat} (hi:i < ls.length) (h:okL (ls.take i)=true) (h1:0≤ls.getD i 0) (h2:ls.getD i 0≤15):okL (ls.take (i+1))=true:=by
 have hg:ls.getD i 0=ls[i]:=by simp [List.getD,hi]
 rw [hg] at h1 h2
 unfold okL at *
 rw [List.take_add_one,List.getElem?_eq_getElem hi,List.all_append,h]
 simp [h1,h2]
theorem okL_bad {ls:List Int} {i:Nat} (hi:i < ls.length) (h:ls.getD i 0 < 0∨15 < ls.getD i 0):okL ls=false:=by
 have hg:ls.getD i 0=ls[i]:=by simp [List.getD,hi]
 rw [hg] at h
 unfold okL
 rw [List.all_eq_false]
 refine ⟨ls[i],List.getElem_mem hi,?_⟩
 simp only [Bool.and_eq_true,decide_eq_true_eq]
 omega
theorem okL_mem {ls:List Int} (h:okL ls=true) {x:Int} (hx:x∈ls):0≤x∧x≤15:=by
 have:=List.all_eq_true.1 h x hx
 simpa using this
theorem okL_nl {ls:List Int} (h:okL ls=true) {x:Nat} (hx:x∈nl ls):x≤15:=by
 obtain ⟨y,hy,rfl⟩:=List.mem_map.1 hx
 have:=okL_mem h hy
 omega
theorem okL_at {ls:List Int} (h:okL ls=true) (i:Nat):0≤ls.getD i 0∧ls.getD i 0≤15∧((nl ls).getD i 0:Int)=ls.getD i 0:=by
 rcases Nat.lt_or_ge i ls.length with hi|hi
 ·have hg:ls.getD i 0=ls[i]:=by simp [List.getD,hi]
  have hg2:(nl ls).getD i 0=ls[i].toNat:=by simp [nl,List.getD,hi]
  have:=okL_mem h (List.getElem_mem hi)
  rw [hg,hg2]
  omega
 ·have hg:ls.getD i 0=0:=by simp [List.getD,List.getElem?_eq_none hi]
  have hg2:(nl ls).getD i 0=0:=by simp [nl,List.getD,List.getElem?_eq_none hi]
  rw [hg,hg2]
  omega
end Go.Hf
namespace Go.Proofs.YtemdlifojcgplaaGreatDoor
open Go Go.Vx Go.Hf
variable [W0]
set_option maxRecDepth 4000
set_option linter.all false
omit [W0] in
def costN (cs ls:List Nat):Nat→Nat:=Go.Pm.sumTo fun i=>cs.getD i 0 * ls.getD i 0
theorem costN_le {cs ls:List Nat} (h1:∀i,cs.getD i 0≤2147483648) (h2:∀i,ls.getD i 0≤1048576) (n:Nat):costN cs ls n≤n * 2251799813685248:=by
 induction n with
 |zero=>simp [costN,Go.Pm.sumTo]
 |succ n ih=>
  have:=Nat.mul_le_mul (h1 n) (h2 n)
  simp only [costN,Go.Pm.sumTo] at *
  omega
omit [W0] in
def icn (l:List Nat):List Int:=l.map fun (n:Nat)=>(n:Int)
theorem icn_length (l:List Nat):(icn l).length=l.length:=by simp [icn]
theorem icn_getD (l:List Nat) (i:Nat):(icn l).getD i 0=((l.getD i 0:Nat):Int):=by
 rcases Nat.lt_or_ge i l.length with hi|hi
 ·simp [icn,List.getD,hi]
 ·simp [icn,List.getD,List.getElem?_eq_none hi]
end Go.Proofs.YtemdlifojcgplaaGreatDoor
namespace Go.Hf
set_option linter.all false
def cdE (ls:List Int):Nat:=if 400 < ls.length∨okL ls=false then 1 else if 32768 < kS (nl ls) then 3 else 0
def cdL (ls:List Int):List Nat:=if cdE ls=0 then cds (nl ls) else []
theorem cdE_one {ls:List Int} (h:400 < ls.length∨okL ls=false):cdE ls=1∧cdL ls=[]:=by
 have e:cdE ls=1:=if_pos h
 exact ⟨e,by unfold cdL;rw [e];rfl⟩
theorem cdE_three {ls:List Int} (h1:ls.length≤400) (h2:okL ls=true) (h3:32768 < kS (nl ls)):cdE ls=3∧cdL ls=[]:=by
 have e:cdE ls=3:=by unfold cdE;rw [if_neg (by rw [h2];simp;omega),if_pos h3]
 exact ⟨e,by unfold cdL;rw [e];rfl⟩
theorem cdE_zero {ls:List Int} (h1:ls.length≤400) (h2:okL ls=true) (h3:kS (nl ls)≤32768):cdE ls=0∧cdL ls=cds (nl ls):=by
 have e:cdE ls=0:=by unfold cdE;rw [if_neg (by rw [h2];simp;omega),if_neg (by omega)]
 exact ⟨e,by unfold cdL;rw [e];rfl⟩
theorem cdE_inv {ls:List Int} (h:cdE ls=0):ls.length≤400∧okL ls=true∧kS (nl ls)≤32768:=by
 unfold cdE at h
 split at h
 ·omega
 ·rename_i h1
  split at h
  ·omega
  ·refine ⟨by omega,?_,by omega⟩
   cases ho:okL ls with
   |true=>rfl
   |false=>exact absurd (.inr ho) h1
def nx (l:List Nat) (n:Nat):Nat:=fs l (n - 1)+if n - 1=0 then 0 else cn l (n - 1)
theorem cn_take_succ {l:List Nat} {j:Nat} (hj:j < l.length) (n:Nat):cn (l.take (j+1)) n=cn (l.take j) n+if l.getD j 0=n then 1 else 0:=by
 have hg:l.getD j 0=l[j]:=by simp [List.getD,hj]
 rw [List.take_add_one,List.getElem?_eq_getElem hj,cn_app,hg]
 congr 1
 simp only [Option.toList,cn_cons]
 simp [cn]
theorem cn_take_le (l:List Nat) (j n:Nat):cn (l.take j) n≤cn l n:=by
 have:=cn_take_mono l n (show j≤max j l.length by omega)
 rwa [List.take_of_length_le (Nat.le_max_right j l.length)] at this
def hit (l:List Nat) (n v i:Nat):Bool:=l.getD i 0 == n&&decide (0 < n)&&cd l i == v
def far (l:List Nat) (n v i:Nat):Bool:=decide (n < l.getD i 0)&&cd l i / 2 ^ (l.getD i 0 - n) == v
def symAt (l:List Nat) (n v:Nat):Option Nat:=(List.range l.length).find? (hit l n v)
def extB (l:List Nat) (n v:Nat):Bool:=(List.range l.length).any (far l n v)
def hv (w t:Nat):Nat→Nat
 |0=>0
 |n+1=>2 * hv w t n+w / 2 ^ (t+n) % 2
def rdS (l:List Nat) (w t z:Nat):Nat→Nat→Nat × Nat × Nat
 |0,n=>(0,3,n)
 |f+1,n=>match symAt l n (hv w t n) with
  |some i=>(i,0,n)
  |none=>if extB l n (hv w t n)=false then (0,3,n) else if z≤t+n then (0,4,n) else rdS l w t z f (n+1)
theorem hv_lt (w t:Nat):∀n,hv w t n < 2 ^ n
 |0=>by simp [hv]
 |n+1=>by
  have:=hv_lt w t n
  simp only [hv,Nat.pow_succ]
  omega
theorem find_range {f:Nat→Bool} {i n:Nat} (hi:i < n) (h:f i=true) (hb:∀j,j < i→f j=false):(List.range n).find? f=some i:=by
 obtain ⟨m,rfl⟩:=Nat.le.dest hi
 rw [show i+1+m=i+(1+m) from by omega,List.range_add,List.find?_append]
 have h1:(List.range i).find? f=none:=by
  rw [List.find?_eq_none]
  intro j hj
  rw [hb j (List.mem_range.1 hj)]
  simp
 rw [h1,Nat.add_comm 1 m,List.range_succ_eq_map]
 simp [h]
theorem find_none {f:Nat→Bool} {n:Nat} (hb:∀j,j < n→f j=false):(List.range n).find? f=none:=by
 rw [List.find?_eq_none]
 intro j hj
 rw [hb j (List.mem_range.1 hj)]
 simp
theorem getD_lt {l:List Nat} {i:Nat} (h:0 < l.getD i 0):i < l.length:=by
 rcases Nat.lt_or_ge i l.length with h'|h'
 ·exact h'
 ·simp [List.getD,List.getElem?_eq_none h'] at h
end Go.Hf
namespace Go.Proofs.YtemdlifojcgplaaGreatDoor
open Go Go.Vx Go.Hf
variable [W0]
set_option maxRecDepth 4000
set_option linter.all false
omit [W0] in
def BiS (p:Nat) (d:List UInt8) (fa:Option Addr) (fc t:Nat) (D:Chunk) (L:List Chunk):Prop:=t≤8 * d.length∧D=[(p,cl [.slice fa d.length fc,.int .i64 (t:Int)] 151)]∧Sl L 1 (.slice fa d.length fc) d.length (bsv d)
end Go.Proofs.YtemdlifojcgplaaGreatDoor
namespace Go.Hf
open Go.Vx Go.Pm
set_option linter.all false
theorem hv_mir (w t:Nat):∀n,hv w t n=mir (w / 2 ^ t) n
 |0=>rfl
 |n+1=>by
  rw [hv,mir,hv_mir w t n,Nat.div_div_eq_div_mul,←Nat.pow_add]
theorem mir_mod (v:Nat) {m:Nat}:∀{n:Nat},n≤m→mir (v % 2 ^ m) n=mir v n
 |0,_=>rfl
 |n+1,h=>by
  rw [mir,mir,mir_mod v (show n≤m by omega)]
  congr 1
  obtain ⟨k,rfl⟩:∃k,m=n+(k+1):=⟨m - n - 1,by omega⟩
  rw [Nat.pow_add,Nat.mod_mul_right_div_self]
  exact Nat.mod_mod_of_dvd _ (by rw [Nat.pow_succ];exact Nat.dvd_mul_left 2 (2 ^ k))
theorem mir_bit (v:Nat):∀(n j:Nat),j < n→mir v n / 2 ^ j % 2=v / 2 ^ (n - 1 - j) % 2
 |0,j,h=>by omega
 |n+1,0,_=>by
  rw [mir,Nat.pow_zero,Nat.div_one,show n+1 - 1 - 0=n from by omega]
  omega
 |n+1,j+1,h=>by
  have ih:=mir_bit v n j (by omega)
  rw [mir,Nat.pow_succ,Nat.mul_comm (2 ^ j),←Nat.div_div_eq_div_mul,show (2 * mir v n+v / 2 ^ n % 2) / 2=mir v n from by omega,ih]
  congr 2
  congr 1
  omega
theorem mir_part (v n:Nat):∀i,i≤n→mir (mir v n) i=v % 2 ^ n / 2 ^ (n - i)
 |0,_=>by
  rw [mir,Nat.sub_zero,Nat.div_eq_of_lt (Nat.mod_lt _ (Nat.pow_pos (by decide)))]
 |i+1,h=>by
  rw [mir,mir_part v n i (by omega),mir_bit v n i (by omega)]
  have e:v % 2 ^ n / 2 ^ (n - (i+1))=v / 2 ^ (n - (i+1)) % 2 ^ (i+1):=by
   obtain ⟨k,rfl⟩:∃k,n=k+(i+1):=⟨n - (i+1),by omega⟩
   rw [show k+(i+1) - (i+1)=k from by omega,Nat.pow_add 2 k,Nat.mod_mul_right_div_self]
  have e2:v % 2 ^ n / 2 ^ (n - i)=v / 2 ^ (n - (i+1)) / 2 % 2 ^ i:=by
   obtain ⟨k,rfl⟩:∃k,n=k+(i+1):=⟨n - (i+1),by omega⟩
   rw [show k+(i+1) - (i+1)=k from by omega,show k+(i+1) - i=k+1 from by omega,Nat.div_div_eq_div_mul,←Nat.pow_succ,
    show k+(i+1)=(k+1)+i from by omega,Nat.pow_add 2 (k+1) i,Nat.mod_mul_right_div_self]
  rw [e,e2,show n - 1 - i=n - (i+1) from by omega,Nat.pow_succ,Nat.mul_comm (2 ^ i) 2,Nat.mod_mul]
  omega
theorem mir_mir (v n:Nat):mir (mir v n) n=v % 2 ^ n:=by
 rw [mir_part v n n (Nat.le_refl _),Nat.sub_self,Nat.pow_zero,Nat.div_one]
theorem hv_pre (w t:Nat):∀(k m:Nat),hv w t m=hv w t (m+k) / 2 ^ k
 |0,m=>by simp
 |k+1,m=>by
  rw [hv_pre w t k m,←Nat.add_assoc,hv,Nat.pow_succ,Nat.mul_comm (2 ^ k),←Nat.div_div_eq_div_mul]
  congr 1
  omega
theorem hit_iff {l:List Nat} {n v i:Nat}:hit l n v i=true↔l.getD i 0=n∧0 < n∧cd l i=v:=by
 simp [hit,and_assoc]
theorem getD_some {l:List Nat} {i n:Nat} (h:l.getD i 0=n) (h0:0 < n):l[i]? =some n:=by
 have hi:=getD_lt (l:=l) (i:=i) (by omega)
 rw [←h]
 simp [List.getD,hi]
theorem symAt_some {l:List Nat} {i n:Nat} (hi:l[i]? =some n) (h0:0 < n):symAt l n (cd l i)=some i:=by
 have hg:l.getD i 0=n:=by simp [List.getD,hi]
 have hl:=getD_lt (l:=l) (i:=i) (by omega)
 refine find_range hl (hit_iff.2 ⟨hg,h0,rfl⟩) fun j hj=>?_
 cases hh:hit l n (cd l i) j with
 |false=>rfl
 |true=>
  obtain ⟨h1,h2,h3⟩:=hit_iff.1 hh
  have:=cd_inj (getD_some h1 h2) hi (by omega) h3
  omega
theorem symAt_none {l:List Nat} {n v:Nat} (h:v < fs l n∨fs l n+cn l n≤v):symAt l n v=none:=by
 refine find_none fun j hj=>?_
 cases hh:hit l n v j with
 |false=>rfl
 |true=>
  obtain ⟨h1,h2,h3⟩:=hit_iff.1 hh
  have:=cd_in (getD_some h1 h2) (by omega)
  omega
theorem symAt_none0 {l:List Nat} {v:Nat}:symAt l 0 v=none:=by
 refine find_none fun j hj=>?_
 simp [hit]
theorem extB_iff {l:List Nat} {n v:Nat}:extB l n v=true↔ext l n v:=by
 unfold extB ext
 rw [List.any_eq_true]
 constructor
 ·rintro ⟨i,hi,hf⟩
  simp only [far,Bool.and_eq_true,decide_eq_true_eq,beq_iff_eq] at hf
  exact ⟨i,l.getD i 0,getD_some rfl (by omega),hf.1,hf.2⟩
 ·rintro ⟨i,m,hi,hm,he⟩
  have hg:l.getD i 0=m:=by simp [List.getD,hi]
  refine ⟨i,List.mem_range.2 (getD_lt (by omega)),?_⟩
  simp only [far,hg,Bool.and_eq_true,decide_eq_true_eq,beq_iff_eq]
  exact ⟨hm,he⟩
theorem rd_hit {l:List Nat} {i n w t z:Nat} (hi:l[i]? =some n) (h0:0 < n) (h15:n≤15) (hb:hv w t n=cd l i) (hz:t+n≤z):rdS l w t z 16 0=(i,0,n):=by
 have key:∀m,m≤n→rdS l w t z 16 0=rdS l w t z (16 - m) m:=by
  intro m
  induction m with
  |zero=>intro _;rfl
  |succ m ih=>
   intro hm
   rw [ih (by omega),show 16 - m=(16 - (m+1))+1 from by omega,rdS]
   have hp:hv w t m=cd l i / 2 ^ (n - m):=by
    rw [←hb,hv_pre w t (n - m) m,show m+(n - m)=n from by omega]
   have hs:symAt l m (hv w t m)=none:=by
    rcases Nat.eq_zero_or_pos m with h|h
    ·subst h;exact symAt_none0
    ·exact symAt_none (.inr (by rw [hp];exact cd_prefix hi h (by omega)))
   have he:¬extB l m (hv w t m)=false:=by
    have:extB l m (hv w t m)=true:=extB_iff.2 ⟨i,n,hi,by omega,hp.symm⟩
    rw [this];simp
   rw [hs]
   simp only
   rw [if_neg he,if_neg (by omega)]
 rw [key n (Nat.le_refl _),show 16 - n=(15 - n)+1 from by omega,rdS,hb,symAt_some hi h0]
theorem kS_range (l:List Nat):kS l=(((List.range l.length).filter fun i=>decide (0 < l.getD i 0)).map fun i=>2 ^ (15 - l.getD i 0)).sum:=by
 have key:∀n,n≤l.length→kS (l.take n)=(((List.range n).filter fun i=>decide (0 < l.getD i 0)).map fun i=>2 ^ (15 - l.getD i 0)).sum:=by
  intro n
  induction n with
  |zero=>intro _;rfl
  |succ n ih=>
   intro hn
   have hlt:n < l.length:=by omega
   have hg:l.getD n 0=l[n]:=by simp [List.getD,hlt]
   rw [List.take_add_one,List.getElem?_eq_getElem hlt,kS_app,ih (by omega),List.range_succ,List.filter_append,List.map_append,List.sum_append]
   congr 1
   simp only [Option.toList,kS,←hg]
   generalize hq:(fun i=>decide (0 < l.getD i 0))=q
   have hqn:q n=decide (0 < l.getD n 0):=by rw [←hq]
   by_cases h:0 < l.getD n 0
   ·rw [if_pos h,List.filter_cons,hqn,if_pos (by simpa using h)]
    rfl
   ·rw [if_neg h,List.filter_cons,hqn,if_neg (by simpa using h)]
    rfl
 have:=key l.length (Nat.le_refl _)
 rwa [List.take_length] at this
theorem kS_perm {l is:List Nat} (h:is.Perm ((List.range l.length).filter fun i=>decide (0 < l.getD i 0))):kS l=(is.map fun i=>2 ^ (15 - l.getD i 0)).sum:=by
 rw [kS_range]
 exact ((h.map _).sum_nat).symm
theorem sumTo_map (f:Nat→Nat) (is:List Nat):sumTo (fun r=>f (is.getD r 0)) is.length=(is.map f).sum:=by
 have key:∀n,n≤is.length→sumTo (fun r=>f (is.getD r 0)) n=((is.take n).map f).sum:=by
  intro n
  induction n with
  |zero=>intro _;rfl
  |succ n ih=>
   intro hn
   have hlt:n < is.length:=by omega
   rw [sumTo,ih (by omega),List.take_add_one,List.getElem?_eq_getElem hlt,List.map_append,List.sum_append]
   simp [List.getD,hlt]
 have:=key is.length (Nat.le_refl _)
 rwa [List.take_length] at this
theorem sumTo_mul (c:Nat) (f:Nat→Nat):∀n,sumTo (fun r=>c * f r) n=c * sumTo f n
 |0=>rfl
 |n+1=>by simp only [sumTo,sumTo_mul c f n,Nat.mul_add]
theorem kS_whole {l is:List Nat} {L:Nat} {g:Nat→Nat} (h:is.Perm ((List.range l.length).filter fun i=>decide (0 < l.getD i 0))) (hL:L≤15) (hg:∀r,r < is.length→l.getD (is.getD r 0) 0=g r) (hb:∀r,r < is.length→g r≤L)
 (hw:sumTo (fun r=>2 ^ (L - g r)) is.length=2 ^ L):kS l=32768:=by
 rw [kS_perm h,←sumTo_map]
 have e:sumTo (fun r=>2 ^ (15 - l.getD (is.getD r 0) 0)) is.length=2 ^ (15 - L) * sumTo (fun r=>2 ^ (L - g r)) is.length:=by
  rw [←sumTo_mul]
  refine sumTo_congr fun r hr=>?_
  rw [hg r hr,←Nat.pow_add]
  have:=hb r hr
  congr 1
  omega
 rw [e,hw,←Nat.pow_add,show 15 - L+L=15 from by omega]
end Go.Hf
namespace Go.Vx
open Go
set_option linter.all false
variable [W0]
section
variable {P : Program} {ops : Array Oper} {Q : Exit → Act → World → Prop} {md : Region.Mode} {S : World → Prop} {T : List Nat}
theorem wpAnyT_first2 {i:Nat} {oi:Oper} {v:Value} (hi:ops[i]? =some oi) (hsel:∀(j:Nat) (o:Oper) cs b,ops[j]? =some o→o.op≠.select cs b)
 (hQ:∀c a w,Q (.panic c) (a.put oi.dst v) w→Q (.panic c) a w) :
 ∀(fuel:Nat) (listed:Array Bool) (a:Act) (w:World),(∀j∈T,j≠i→listed.getD j false=true∨∃f,ancB md ops i f j=true)→
  (∀j oj,ops[j]? =some oj→j≠i→listed.getD j true=false→(∀e∈oj.after,Region.binds md e=true→e.on≠i)→oi.apart ops oj=true)→DC md ops listed→
  i∈Region.ready md ops listed→YieldsIf P ops S oi v a→S w→
  wpAnyT P md ops Q S T fuel (listed.setIfInBounds i true) (a.put oi.dst v) w→wpAnyT P md ops Q S T (fuel+1) listed a w:=by
 intro fuel
 induction fuel with
 |zero=>
  intro listed a w _ _ _ hr hy hS H
  refine ⟨fun h=>(by rw [h] at hr;cases hr),fun j hj=>?_⟩
  by_cases hji:j=i
  ·subst hji;exact hy.wpOp hi hS ⟨fun _=>hS,H⟩
  ·have:=ready_mono hj hji
   rw [H.1] at this
   cases this
 |succ fuel ih=>
  intro listed a w hT hfree hdc hr hy hS H
  refine ⟨fun h=>(by rw [h] at hr;cases hr),fun j hj=>?_⟩
  by_cases hji:j=i
  ·subst hji;exact hy.wpOp hi hS ⟨fun _=>hS,H⟩
  ·have h1:=H.2 j (ready_mono hj hji)
   obtain ⟨hjun,oj,hoj,hall⟩:=mem_ready.1 hj
   have hun:=(mem_ready.1 hr).1
   have hnot:∀e∈oj.after,Region.binds md e=true→e.on≠i:=fun e he hb heq=>by
    have h1:=hall e he hb
    rw [heq] at h1
    exact listed_both hun h1
   have hnT:j∉T:=fun hm=>by
    rcases hT j hm hji with hl|⟨f,hf⟩
    ·exact listed_both hjun hl
    ·exact listed_both hun (ancB_spec hdc f j oj hf hoj hall)
   have h2:=wpOp_putIf hoj (hfree j oj hoj hji hjun hnot) (fun cs b=>hsel i oi cs b hi) (fun cs b=>hsel j oj cs b hoj) hQ hy h1
   have hfree':∀k ok,ops[k]? =some ok→k≠i→(listed.setIfInBounds j true).getD k true=false→
    (∀e∈ok.after,Region.binds md e=true→e.on≠i)→oi.apart ops ok=true:=fun k ok hk hki hun hno=>by
    refine hfree k ok hk hki ?_ hno
    by_cases hjk:j=k
    ·subst hjk;exact hjun
    ·rw [getD_set_ne true hjk] at hun;exact hun
   have hT':∀k∈T,k≠i→(listed.setIfInBounds j true).getD k false=true∨∃f,ancB md ops i f k=true:=fun k hk hki=>(hT k hk hki).imp getD_set_true id
   refine wpOp_mono (fun a' w' h3=>⟨fun _=>h3.2.1 hnT,ih (listed.setIfInBounds j true) a' w' hT' hfree' (hdc.set hj) (ready_mono hr (Ne.symm hji)) h3.1 (h3.2.1 hnT) ?_⟩) h2
   rw [Array.setIfInBounds_comm _ _ hji]
   exact h3.2.2
theorem wpAnyT_float {i:Nat} {oi:Oper} {v:Value} (hi:ops[i]? =some oi) (hsel:∀(j:Nat) (o:Oper) cs b,ops[j]? =some o→o.op≠.select cs b)
 (hQ:∀c a w,Q (.panic c) (a.put oi.dst v) w→Q (.panic c) a w) (hiT:i∈T) :
 ∀(fuel:Nat) (listed:Array Bool) (a:Act) (w:World),
  (∀j oj,ops[j]? =some oj→j≠i→listed.getD j true=false→(∀e∈oj.after,Region.binds md e=true→e.on≠i)→oi.apart ops oj=true)→DC md ops listed→
  i∈Region.ready md ops listed→YieldsIf P ops (fun _=>True) oi v a→
  wpAnyT P md ops Q S T fuel (listed.setIfInBounds i true) (a.put oi.dst v) w→wpAnyT P md ops Q S T (fuel+1) listed a w:=by
 intro fuel
 induction fuel with
 |zero=>
  intro listed a w _ _ hr hy H
  refine ⟨fun h=>(by rw [h] at hr;cases hr),fun j hj=>?_⟩
  by_cases hji:j=i
  ·subst hji;exact hy.wpOp hi trivial ⟨fun hn=>absurd hiT hn,H⟩
  ·have:=ready_mono hj hji
   rw [H.1] at this
   cases this
 |succ fuel ih=>
  intro listed a w hfree hdc hr hy H
  refine ⟨fun h=>(by rw [h] at hr;cases hr),fun j hj=>?_⟩
  by_cases hji:j=i
  ·subst hji;exact hy.wpOp hi trivial ⟨fun hn=>absurd hiT hn,H⟩
  ·have h1:=H.2 j (ready_mono hj hji)
   obtain ⟨hjun,oj,hoj,hall⟩:=mem_ready.1 hj
   have hun:=(mem_ready.1 hr).1
   have hnot:∀e∈oj.after,Region.binds md e=true→e.on≠i:=fun e he hb heq=>by
    have h1:=hall e he hb
    rw [heq] at h1
    exact listed_both hun h1
   have h2:=wpOp_putIf hoj (hfree j oj hoj hji hjun hnot) (fun cs b=>hsel i oi cs b hi) (fun cs b=>hsel j oj cs b hoj) hQ hy h1
   have hfree':∀k ok,ops[k]? =some ok→k≠i→(listed.setIfInBounds j true).getD k true=false→
    (∀e∈ok.after,Region.binds md e=true→e.on≠i)→oi.apart ops ok=true:=fun k ok hk hki hun hno=>by
    refine hfree k ok hk hki ?_ hno
    by_cases hjk:j=k
    ·subst hjk;exact hjun
    ·rw [getD_set_ne true hjk] at hun;exact hun
   refine wpOp_mono (fun a' w' h3=>⟨h3.2.1,ih (listed.setIfInBounds j true) a' w' hfree' (hdc.set hj) (ready_mono hr (Ne.symm hji)) h3.1 ?_⟩) h2
   rw [Array.setIfInBounds_comm _ _ hji]
   exact h3.2.2
end
omit [W0] in
def takeB2 (ops:List Oper) (T:List Nat) (listed:Array Bool) (i:Nat):Bool:=
 Region.noSelect ops.toArray&&Region.free .any ops.toArray listed i&&(Region.ready .any ops.toArray listed).contains i&&dcB .any ops.toArray listed
  &&T.all fun j=>j == i||listed.getD j false||ancB .any ops.toArray i ops.length j
omit [W0] in
def takeB3 (ops:List Oper) (T:List Nat) (listed:Array Bool) (i:Nat):Bool:=
 Region.noSelect ops.toArray&&Region.free .any ops.toArray listed i&&(Region.ready .any ops.toArray listed).contains i&&dcB .any ops.toArray listed&&T.contains i
section
variable {P : Program} {n : Nat} {Q : Exit → Act → World → Prop} {M : List (Nat × Value)} {L S : List Chunk} {ops : List Oper} {T : List Nat} {fuel : Nat} {listed : Array Bool} {d : Nat} {v : Value}
theorem WR_take2 (i:Nat) {o:Oper} (hi:ops[i]? =some o) (hg:o.guard=none) (hb:takeB2 ops T listed i=true) (hPO:PO Q) (hinc:Inc S L) (he:EV P n o M S d v) (hn:Nat.blt d n=true)
 (h:WR P n ops Q S T fuel (listed.setIfInBounds i true) ((d,v)::M) L):WR P n ops Q S T (fuel+1) listed M L:=⟨fun a w ha hw=>by
 simp only [takeB2,Bool.and_eq_true,List.all_eq_true,Bool.or_eq_true,beq_iff_eq] at hb
 obtain ⟨⟨⟨⟨h1,h2⟩,h3⟩,h4⟩,h5⟩:=hb
 have hi':ops.toArray[i]? =some o:=by simpa using hi
 refine wpAnyT_first2 hi' (Region.noSelect_spec h1) (fun c a w hq=>hPO.out c a _ _ w hq) fuel listed a w (fun j hj hne=>?_) (Region.free_spec hi' h2) (DC.of h4) (by simpa using h3) (.inl ⟨by simp [Region.wanted,hg],fun w hw=>he.run a w ha hw⟩) (hinc.holds hw) ?_
 ·rcases h5 j hj with (h|h)|h
  ·exact absurd h hne
  ·exact .inl h
  ·exact .inr ⟨_,h⟩
 ·rw [he.dst]
  exact h.out _ w (ha.put v hn) hw⟩
structure EF (P:Program) (n:Nat) (o:Oper) (M:List (Nat × Value)) (d:Nat) (v:Value):Prop where
 dst:o.dst=some d
 run:∀a w,St n M a→(execOp a.eval o).run P w=.ok (.value v) w
theorem WR_float (i:Nat) {o:Oper} (hi:ops[i]? =some o) (hg:o.guard=none) (hb:takeB3 ops T listed i=true) (hPO:PO Q) (he:EF P n o M d v) (hn:Nat.blt d n=true)
 (h:WR P n ops Q S T fuel (listed.setIfInBounds i true) ((d,v)::M) L):WR P n ops Q S T (fuel+1) listed M L:=⟨fun a w ha hw=>by
 simp only [takeB3,Bool.and_eq_true] at hb
 obtain ⟨⟨⟨⟨h1,h2⟩,h3⟩,h4⟩,h5⟩:=hb
 have hi':ops.toArray[i]? =some o:=by simpa using hi
 refine wpAnyT_float hi' (Region.noSelect_spec h1) (fun c a w hq=>hPO.out c a _ _ w hq) (by simpa using h5) fuel listed a w (Region.free_spec hi' h2) (DC.of h4) (by simpa using h3) (.inl ⟨by simp [Region.wanted,hg],fun w _=>he.run a w ha⟩) ?_
 rw [he.dst]
 exact h.out _ w (ha.put v hn) hw⟩
variable {ty : TypeId} {ps : String} {af : Array Edge} {g : Option (Nat × Bool)} {x y : Operand}
theorem EF_move (hx:ev M x=some v):EF P n ⟨some d,.move x,ty,ps,af,g⟩ M d v:=⟨rfl,fun a w ha=>by simp [execOp,ha.eval hx]⟩
theorem EF_ari64 {op:BinOp} {t u:TypeId} {i j r:Int} (hx:ev M x=some (.int .i64 i)) (hy:ev M y=some (.int .i64 j)) (hb:ariI op i j=some r) (h1: -9223372036854775808≤r∧r≤9223372036854775807) :
 EF P n ⟨some d,.binOp op t x y u,ty,ps,af,g⟩ M d (.int .i64 r):=⟨rfl,fun a w ha=>by
 have hw:=wrap_i64 h1.1 h1.2
 cases op<;>simp [ariI] at hb<;>subst hb<;>simp [execOp,ha.eval hx,ha.eval hy,eqGuard,binOp,Op.intArith,hw]⟩
theorem WC_cut {X:Type} {x y:Code} (MI:X→List (Nat × Value)) (LI:X→List Chunk) (J:X→Prop) (h1:WC P n x (Exit.then (fun a' w'=>∃z,J z∧St n (MI z) a'∧Holds w' (LI z)) Q) M L) (h2:∀z,J z→WC P n y Q (MI z) (LI z)):WC P n (.seq x y) Q M L:=⟨fun a w ha hw=>by
 refine wp_seq (wp_mono (h1.out a w ha hw) ?_)
 intro e a' w' hq
 cases e with
 |normal=>
  obtain ⟨z,hz,hs,hw'⟩:=hq
  exact (h2 z hz).out a' w' hs hw'
 |exit id=>exact hq
 |goto l=>exact hq
 |ret=>exact hq
 |panic c=>exact hq
 |outgrown=>exact hq⟩
theorem WQ_cut {X:Type} {MI:X→List (Nat × Value)} {LI:X→List Chunk} {J:X→Prop} (z:X) (hJ:J z) (hM:Sub (MI z) M) (hL:∀w,Holds w L→Holds w (LI z)):WQ n (fun a' w'=>∃z,J z∧St n (MI z) a'∧Holds w' (LI z)) M L:=⟨fun _ w ha hw=>⟨z,hJ,ha.sub hM,hL w hw⟩⟩
theorem WR_t2 (i:Nat) {o:Oper} (h:WR P n ops Q S T fuel (listed.setIfInBounds i true) ((d,v)::M) L)
 (hi:ops[i]? =some o:=by exact rfl) (hg:o.guard=none:=by exact rfl) (hb:takeB2 ops T listed i=true:=by kernel_rfl) (hPO:PO Q:=by exact iP) (hinc:Inc S L:=by exact iC) (he:EV P n o M S d v:=by exact (by first|(show EV _ _ ⟨_,.move _,_,_,_,_⟩ _ _ _ _;first|exact EV_move rfl)|(show EV _ _ ⟨_,.assign _,_,_,_,_⟩ _ _ _ _;first|exact EV_assign rfl)|(show EV _ _ ⟨_,.nilCheck _,_,_,_,_⟩ _ _ _ _;first|exact EV_nilCheck rfl)|(show EV _ _ ⟨_,.fieldAddr ..,_,_,_,_⟩ _ _ _ _;first|exact EV_fieldAddr0 rfl|exact EV_fieldAddr rfl)|(show EV _ _ ⟨_,.load ..,_,_,_,_⟩ _ _ _ _;first|exact EV_loadc rfl (by repeat (first|assumption|exact Fnd.here|refine Fnd.there ?_)) rfl|exact EV_loadAggC rfl (by repeat (first|assumption|exact Fnd.here|refine Fnd.there ?_)) rfl)|(show EV _ _ ⟨_,.binOp ..,_,_,_,_⟩ _ _ _ _;first|exact EV_cmp rfl rfl rfl|exact EV_ari64 rfl rfl rfl (by omega)|exact EV_shr rfl rfl (by decide) (shr_lit (by omega) (by simp [IntKind.bits];rfl))|exact EV_strEq rfl rfl|exact EV_strNe rfl rfl|exact EV_strLt rfl rfl|exact EV_sliceEqNil rfl rfl|exact EV_sliceNeNil rfl rfl|exact EV_ptrEqNil rfl rfl|exact EV_ptrNeNil rfl rfl|exact EV_boolEq rfl rfl|exact EV_boolNe rfl rfl)|(show EV _ _ ⟨_,.convert ..,_,_,_,_⟩ _ _ _ _;first|exact EV_convII rfl (wrap_i64 (by omega) (by omega))|exact EV_convII rfl (wrap_u64 (by omega) (by omega))|exact EV_convII rfl rfl)|(show EV _ _ ⟨_,.extract ..,_,_,_,_⟩ _ _ _ _;first|exact EV_extract rfl rfl)|(show EV _ _ ⟨_,.unOp ..,_,_,_,_⟩ _ _ _ _;first|exact EV_not rfl)|(show EV _ _ ⟨_,.pick ..,_,_,_,_⟩ _ _ _ _;first|exact EV_pick rfl rfl)|(show EV _ _ ⟨_,.call ⟨.builtin .len,_,_⟩,_,_,_,_⟩ _ _ _ _;first|exact EV_lenSl rfl|exact EV_lenStr rfl)|(show EV _ _ ⟨_,.call ⟨.builtin .cap,_,_⟩,_,_,_,_⟩ _ _ _ _;first|exact EV_capSl rfl)|(show EV _ _ ⟨_,.call ⟨.builtin .min,_,_⟩,_,_,_,_⟩ _ _ _ _;first|exact EV_min rfl rfl)|(show EV _ _ ⟨_,.call ⟨.builtin .max,_,_⟩,_,_,_,_⟩ _ _ _ _;first|exact EV_max rfl rfl)|(show EV _ _ ⟨_,.makeInterface ..,_,_,_,_⟩ _ _ _ _;first|exact EV_makeInterface rfl)|(show EV _ _ ⟨_,.makeFunc ..,_,_,_,_⟩ _ _ _ _;first|exact EV_makeFunc rfl rfl)|(show EV _ _ ⟨_,.typeAssert ..,_,_,_,_⟩ _ _ _ _;first|exact EV_assertYes rfl|exact EV_assertNo rfl rfl)|(show EV _ _ ⟨_,.build ..,_,_,_,_⟩ _ _ _ _;first|exact EV_build rfl (by simp [fillL,patch,Value.cells];rfl)))) (hn:Nat.blt d n=true:=by exact rfl) :
 WR P n ops Q S T (fuel+1) listed M L:=WR_take2 i hi hg hb hPO hinc he hn h
theorem WR_f (i:Nat) {o:Oper} (h:WR P n ops Q S T fuel (listed.setIfInBounds i true) ((d,v)::M) L)
 (hi:ops[i]? =some o:=by exact rfl) (hg:o.guard=none:=by exact rfl) (hb:takeB3 ops T listed i=true:=by kernel_rfl) (hPO:PO Q:=by exact iP) (he:EF P n o M d v:=by first|exact EF_move rfl|exact EF_ari64 rfl rfl rfl (by omega)) (hn:Nat.blt d n=true:=by exact rfl) :
 WR P n ops Q S T (fuel+1) listed M L:=WR_float i hi hg hb hPO he hn h
end
end Go.Vx
namespace Go.If
open Go.Vx Go.Hf
set_option linter.all false
structure S6 where
 t:Nat
 out:List UInt8
 e:Nat
def fl (s:S6) (k:Nat):S6:=if s.e=0 then ⟨s.t,s.out,k⟩ else s
def tk (d:List UInt8) (s:S6) (n:Nat):S6:=if s.t+n≤8 * d.length then ⟨s.t+n,s.out,s.e⟩ else fl s 4
def tv [W0] (d:List UInt8) (s:S6) (n:Nat):Nat:=if s.t+n≤8 * d.length then val d / 2 ^ s.t % 2 ^ n else 0
def pt (most:Nat) (s:S6) (c:UInt8):S6:=if most≤s.out.length then fl s 5 else ⟨s.t,s.out++[c],s.e⟩
def sy [W0] (d:List UInt8) (s:S6) (l:List Nat):S6:=if s.e=0 then fl ⟨s.t+(rdS l (val d) s.t (8 * d.length) 16 0).2.2,s.out,s.e⟩ (rdS l (val d) s.t (8 * d.length) 16 0).2.1 else s
def sv [W0] (d:List UInt8) (s:S6) (l:List Nat):Nat:=if s.e=0 then (rdS l (val d) s.t (8 * d.length) 16 0).1 else 0
theorem fl_t (s:S6) (k:Nat):(fl s k).t=s.t:=by unfold fl;split<;>rfl
theorem fl_out (s:S6) (k:Nat):(fl s k).out=s.out:=by unfold fl;split<;>rfl
theorem fl_e (s:S6) (k:Nat):(fl s k).e=if s.e=0 then k else s.e:=by unfold fl;split<;>rfl
theorem tk_out (d:List UInt8) (s:S6) (n:Nat):(tk d s n).out=s.out:=by
 unfold tk
 split
 ·rfl
 ·exact fl_out _ _
end Go.If
namespace Go.Proofs.YtemdlifojcgplaaGreatDoor
open Go Go.Vx Go.Hf Go.If
variable [W0]
set_option maxRecDepth 4000
set_option linter.all false
theorem tv_lt (d:List UInt8) (s:S6) (n:Nat):tv d s n < 2 ^ n:=by
 unfold tv
 split
 ·exact Nat.mod_lt _ (Nat.pow_pos (by decide))
 ·exact Nat.pow_pos (by decide)
end Go.Proofs.YtemdlifojcgplaaGreatDoor
namespace Go.If
open Go.Vx Go.Hf
set_option linter.all false
def stL [W0] (d:List UInt8) (most:Nat):Nat→S6→S6
 |0,s=>s
 |k+1,s=>if s.e=0 then stL d most k (if (tk d s 8).e=0 then pt most (tk d s 8) (UInt8.ofNat (tv d s 8)) else tk d s 8) else s
def stS [W0] (d:List UInt8) (most:Nat) (s:S6):S6:=
 let s0:S6:=⟨8 * ((s.t+7) / 8),s.out,s.e⟩
 let s1:=tk d s0 16
 let s2:=tk d s1 16
 stL d most (tv d s0 16) (if tv d s0 16+tv d s1 16=65535 then s2 else fl s2 3)
theorem pt_t (most:Nat) (s:S6) (c:UInt8):(pt most s c).t=s.t:=by
 unfold pt
 split
 ·exact fl_t _ _
 ·rfl
end Go.If
namespace Go.Proofs.YtemdlifojcgplaaGreatDoor
open Go Go.Vx Go.Hf Go.If
variable [W0]
set_option maxRecDepth 4000
set_option linter.all false
theorem wrap_i64s {n:Nat} (h:n < 65536):IntKind.i64.wrap (n:Int)=(n:Int):=by
 simp only [IntKind.wrap,IntKind.bits,IntKind.signed]
 simp
 omega
theorem bit_and16 {a b:Nat} (ha:a < 65536) (hb:b < 65536):bitI .and .i64 (a:Int) (b:Int)=some ((a&&&b:Nat):Int):=by
 have h1:a&&&b≤a:=Nat.and_le_left
 have e:((BitVec.ofInt 64 (a:Int)&&&BitVec.ofInt 64 (b:Int)).toNat)=a&&&b:=by
  rw [BitVec.toNat_and,BitVec.ofInt_natCast,BitVec.ofInt_natCast,BitVec.toNat_ofNat,BitVec.toNat_ofNat,Nat.mod_eq_of_lt (by omega),Nat.mod_eq_of_lt (by omega)]
 show some (IntKind.i64.wrap (((BitVec.ofInt 64 (a:Int)&&&BitVec.ofInt 64 (b:Int)).toNat:Nat):Int))=_
 rw [e]
 congr 1
 exact wrap_i64s (by omega)
theorem byte_of {n:Nat} (h:n < 256):((UInt8.ofNat n).toNat:Int)=(n:Int):=by
 rw [UInt8.toNat_ofNat']
 omega
end Go.Proofs.YtemdlifojcgplaaGreatDoor
namespace Go.If
open Go.Vx Go.Hf Go.Pm
set_option linter.all false
def exB (s g st:Nat):Nat:=if s < st then 0 else (s - st) / g+1
def baB (first g st:Nat):Nat→Nat
 |0=>first
 |s+1=>baB first g st s+2 ^ exB s g st
def fxN (i:Nat):Nat:=if 256≤i∧i < 280 then 7 else if 144≤i∧i < 256 then 9 else 8
def fxL:List Nat:=(List.range 288).map fxN
def fxD:List Nat:=List.replicate 32 5
def sgl (l:List Nat):Bool:=l.all (fun x=>decide (x≤1))&&decide (l.sum < 2)
end Go.If
namespace Go.If
open Go.Vx Go.Hf
set_option linter.all false
def cpL (most far:Nat):Nat→S6→S6
 |0,s=>s
 |k+1,s=>if s.e=0 then cpL most far k (pt most s (s.out.getD (s.out.length - far) 0)) else s
def lnB (s:Nat):Nat × Nat:=if s=285 then (258,0) else (baB 3 4 8 (s - 257),exB (s - 257) 4 8)
def mtD [W0] (d:List UInt8) (most n t:Nat) (s:S6):S6:=
 cpL most (baB 1 2 4 t+tv d s (exB t 2 4)) n (if (tk d s (exB t 2 4)).e=0∧(tk d s (exB t 2 4)).out.length < baB 1 2 4 t+tv d s (exB t 2 4) then fl (tk d s (exB t 2 4)) 3 else tk d s (exB t 2 4))
def mtS [W0] (d:List UInt8) (most k:Nat) (dl:List Nat) (s:S6):S6:=
 if 285 < k then fl s 3
 else if (sy d (tk d s (lnB k).2) dl).e≠0 then sy d (tk d s (lnB k).2) dl
 else if 29 < sv d (tk d s (lnB k).2) dl then fl (sy d (tk d s (lnB k).2) dl) 3
 else mtD d most ((lnB k).1+tv d s (lnB k).2) (sv d (tk d s (lnB k).2) dl) (sy d (tk d s (lnB k).2) dl)
theorem baL_le:∀t,t < 30→baB 3 4 8 t≤400:=by decide
theorem exL_le:∀t,t < 30→exB t 4 8≤6:=by decide
end Go.If
namespace Go.Proofs.YtemdlifojcgplaaGreatDoor
open Go Go.Vx Go.Hf Go.If
variable [W0]
set_option maxRecDepth 4000
set_option linter.all false
theorem nl_icn (l:List Nat):nl (icn l)=l:=by simp [nl,icn,Function.comp_def]
theorem sy_out (d:List UInt8) (s:S6) (l:List Nat):(sy d s l).out=s.out:=by
 unfold sy
 split
 ·exact fl_out _ _
 ·rfl
end Go.Proofs.YtemdlifojcgplaaGreatDoor
namespace Go.Hf
open Go.Vx
set_option linter.all false
theorem symAt_lt {l:List Nat} {n v i:Nat} (h:symAt l n v=some i):i < l.length∧0 < n:=by
 have h1:=List.mem_of_find?_eq_some h
 have h2:=List.find?_some h
 exact ⟨List.mem_range.1 h1,(hit_iff.1 h2).2.1⟩
theorem rdS_lt (l:List Nat) (w t z:Nat):∀f n,(rdS l w t z f n).1≤l.length∧((rdS l w t z f n).2.1=0→1≤(rdS l w t z f n).2.2)
 |0,n=>⟨Nat.zero_le _,fun h=>by simp [rdS] at h⟩
 |f+1,n=>by
  have ih:=rdS_lt l w t z f (n+1)
  unfold rdS
  split
  ·rename_i i h
   have:=symAt_lt h
   exact ⟨by simp only;omega,fun _=>this.2⟩
  ·split
   ·exact ⟨Nat.zero_le _,fun h=>by simp at h⟩
   ·split
    ·exact ⟨Nat.zero_le _,fun h=>by simp at h⟩
    ·exact ih
end Go.Hf
namespace Go.If
open Go.Vx Go.Hf
set_option linter.all false
def cdC [W0] (d:List UInt8) (most:Nat) (l dl:List Nat):Nat→S6→S6
 |0,s=>s
 |f+1,s=>if s.e≠0 then s else if (sy d s l).e≠0 then sy d s l else if sv d s l < 256 then cdC d most l dl f (pt most (sy d s l) (UInt8.ofNat (sv d s l)))
   else if sv d s l=256 then sy d s l else cdC d most l dl f (mtS d most (sv d s l) dl (sy d s l))
theorem cdC_err [W0] {d:List UInt8} {most:Nat} {l dl:List Nat} {s:S6} (h:s.e≠0):∀f,cdC d most l dl f s=s
 |0=>rfl
 |f+1=>by rw [cdC,if_pos h]
theorem tk_t (d:List UInt8) (s:S6) (n:Nat):s.t≤(tk d s n).t:=by
 unfold tk
 split
 ·exact Nat.le_add_right _ _
 ·rw [fl_t];exact Nat.le_refl _
theorem sy_t [W0] (d:List UInt8) (s:S6) (l:List Nat):s.t≤(sy d s l).t:=by
 unfold sy
 split
 ·rw [fl_t];exact Nat.le_add_right _ _
 ·exact Nat.le_refl _
theorem sy_go [W0] {d:List UInt8} {s:S6} {l:List Nat} (h0:s.e=0) (h1:(sy d s l).e=0):s.t+1≤(sy d s l).t:=by
 unfold sy at h1 ⊢
 rw [if_pos h0] at h1 ⊢
 rw [fl_t]
 rw [fl_e,if_pos h0] at h1
 have:=(rdS_lt l (val d) s.t (8 * d.length) 16 0).2 h1
 simp only
 omega
theorem sv_le [W0] (d:List UInt8) (s:S6) (l:List Nat):sv d s l≤l.length:=by
 unfold sv
 split
 ·exact (rdS_lt l _ _ _ _ _).1
 ·exact Nat.zero_le _
theorem cpL_t (most far:Nat):∀n s,(cpL most far n s).t=s.t
 |0,s=>rfl
 |n+1,s=>by
  unfold cpL
  split
  ·rw [cpL_t most far n]
   unfold pt
   split
   ·exact fl_t _ _
   ·rfl
  ·rfl
theorem mtS_t [W0] (d:List UInt8) (most k:Nat) (dl:List Nat) (s:S6):s.t≤(mtS d most k dl s).t:=by
 unfold mtS
 have h1:=tk_t d s (lnB k).2
 have h2:=sy_t d (tk d s (lnB k).2) dl
 generalize tk d s (lnB k).2=s1 at h1 h2 ⊢
 generalize sy d s1 dl=s2 at h2 ⊢
 split
 ·rw [fl_t];exact Nat.le_refl _
 ·split
  ·omega
  ·split
   ·rw [fl_t];omega
   ·unfold mtD
    have h3:=tk_t d s2 (exB (sv d s1 dl) 2 4)
    rw [cpL_t]
    split
    ·rw [fl_t];omega
    ·omega
end Go.If
namespace Go.Vx
open Go
set_option linter.all false
variable [W0]
omit [W0] in
abbrev Fr (ro:Option Nat):Fence:={ Fence.wide with round:=ro }
omit [W0] in
structure NL (Q:Exit→Act→World→Prop):Prop where
 out:∀a w,¬Q .outgrown a w
theorem NL.then {Q:Exit→Act→World→Prop} {K:Act→World→Prop} (h:NL Q):NL (Exit.then K Q):=⟨h.out⟩
theorem NL.block {Q:Exit→Act→World→Prop} {i:Nat} (h:NL Q):NL (Exit.inBlock i Q):=⟨h.out⟩
omit [W0] in
def noDef (o:Oper):Bool:=match o.op with|.defer _=>false|_=>true
omit [W0] in
theorem noDef_ne {o:Oper} (h:noDef o=true):∀c,o.op≠.defer c:=fun c hc=>by unfold noDef at h;rw [hc] at h;cases h
section
variable {P : Program} {n : Nat} {ro : Option Nat} {Q : Exit → Act → World → Prop} {M : List (Nat × Value)} {L : List Chunk} {K : List (Nat × Value) → List Chunk → Prop}
omit [W0] in
theorem rows_in {row:String} {args:Array Value} {w:World} {R:Value→World→Prop} (h:Rows P row args w R):RowsIn (Fr ro) 0 P row args w R:=
 fun c cs _=>let ⟨v,w',r,s⟩:=h c cs;⟨v,w',r,(stepsIn_wide (P:=P)).2 s⟩
omit [W0] in
theorem calls_in {f:FuncId} {args:Array Value} {w:World} {R:Ending→World→Prop} {m:Nat} (h:Calls P f args w R):CallsIn (Fr ro) m P f args w R:=(callsIn_wide (n:=m)).2 h
omit [W0] in
theorem upon_in {o:Oper} {a:Act} {next:Act→World→Prop} {r:Result Next} (h:o.upon P a next Q r):o.uponIn (Fr ro) 0 P a next Q r:=by
 cases r with
 |ok x w'=>
  cases x<;>simp only [Oper.upon] at h<;>simp only [Oper.uponIn]<;>
   first
    |exact h
    |exact ⟨fun hh=>absurd (a:=false=true) hh Bool.false_ne_true,(calls_in h).mono (fun e w'' he=>by cases e<;>exact he)⟩
    |exact ⟨fun hh=>absurd (a:=false=true) hh Bool.false_ne_true,rows_in h⟩
    |exact False.elim h
 |halt x w'=>cases x<;>simp only [Oper.upon] at h<;>simp only [Oper.uponIn]<;>exact h
omit [W0] in
theorem semAt_in {o:Oper} (hd:noDef o=true) (ρ:Operand→Value):o.semAt ro ρ=execOp ρ o:=Oper.semAt_eq ro ρ o (noDef_ne hd)
omit [W0] in
theorem wp_in {o:Oper} {a:Act} {w:World} {next:Act→World→Prop} (hd:noDef o=true) (h:o.wp P a w next Q):o.wpIn (Fr ro) 0 P a w next Q:=by
 refine ⟨fun _ _=>trivial,?_⟩
 show o.uponIn (Fr ro) 0 P a next Q ((o.semAt ro a.eval).run P w)
 rw [semAt_in hd]
 exact upon_in h
omit [W0] in
theorem wpList_in {ops:Array Oper} (hN:NL Q):∀{rest:List Oper} {a:Act} {w:World},rest.all noDef=true→wpList P ops Q rest a w→wpListIn (Fr ro) 0 P ops Q rest a w
 |[],_,_,_,h=>h
 |o::rest,a,w,hd,h=>by
  simp only [List.all_cons,Bool.and_eq_true] at hd
  unfold wpList at h
  unfold wpListIn
  split
  ·rename_i hw
   rw [if_pos hw] at h
   rcases h with h|⟨_,a',w',hl⟩
   ·exact Oper.wpIn_mono (fun a w hh=>wpList_in hN hd.2 hh) (wp_in hd.1 h)
   ·exact absurd hl (hN.out a' w')
  ·rename_i hw
   rw [if_neg hw] at h
   exact ⟨fun _ _=>trivial,wpList_in hN hd.2 h⟩
omit [W0] in
theorem wpOp_in {ops:Array Oper} (hN:NL Q) (hd:∀(i:Nat) (o:Oper),ops[i]? =some o→noDef o=true) {i:Nat} {K K':Act→World→Prop} {a:Act} {w:World} (hk:∀a w,K a w→K' a w) (h:wpOp P ops Q i K a w):wpOpIn (Fr ro) 0 P ops Q i K' a w:=by
 unfold wpOp at h
 unfold wpOpIn
 split
 ·rename_i ho;rw [ho] at h;exact hk _ _ h
 ·rename_i o ho
  rw [ho] at h
  simp only at h
  split
  ·rename_i hw
   rw [if_pos hw] at h
   rcases h with h|⟨_,a',w',hl⟩
   ·exact Oper.wpIn_mono hk (wp_in (hd i o ho) h)
   ·exact absurd hl (hN.out a' w')
  ·rename_i hw
   rw [if_neg hw] at h
   exact ⟨fun _ _=>trivial,hk _ _ h⟩
omit [W0] in
theorem wpAny_in {ops:Array Oper} {md:Region.Mode} (hN:NL Q) (hd:∀(i:Nat) (o:Oper),ops[i]? =some o→noDef o=true):∀(fuel:Nat) (listed:Array Bool) (a:Act) (w:World),wpAny P md ops Q fuel listed a w→wpAnyIn (Fr ro) 0 P md ops Q fuel listed a w
 |0,_,_,_,h=>h
 |fuel+1,listed,a,w,h=>⟨h.1,fun i hi=>wpOp_in hN hd (fun a w hh=>wpAny_in hN hd fuel _ a w hh) (h.2 i hi)⟩
structure Wic (P:Program) (n:Nat) (ro:Option Nat) (c:Code) (Q:Exit→Act→World→Prop) (M:List (Nat × Value)) (L:List Chunk):Prop where
 out:∀a w,St n M a→Holds w L→c.wpIn (Fr ro) 0 P Q a w
structure Wjc (P:Program) (n:Nat) (ro:Option Nat) (ops:Array Oper) (Q:Exit→Act→World→Prop) (rest:List Oper) (M:List (Nat × Value)) (L:List Chunk):Prop where
 out:∀a w,St n M a→Holds w L→wpListIn (Fr ro) 0 P ops Q rest a w
theorem Wic.holds {L':List Chunk} {c:Code} (h:Wic P n ro c Q M L') (hl:∀w,Holds w L→Holds w L'):Wic P n ro c Q M L:=⟨fun a w ha hw=>h.out a w ha (hl w hw)⟩
theorem Wic.sub {M':List (Nat × Value)} {c:Code} (h:Wic P n ro c Q M' L) (hs:Sub M' M):Wic P n ro c Q M L:=⟨fun a w ha hw=>h.out a w (ha.sub hs) hw⟩
theorem WI_seq {x y:Code} (h:Wic P n ro x (Exit.then (y.wpIn (Fr ro) 0 P Q) Q) M L):Wic P n ro (.seq x y) Q M L:=⟨fun a w ha hw=>wpIn_seq (h.out a w ha hw)⟩
theorem WI_skip (h:WQ n (Q .normal) M L):Wic P n ro .skip Q M L:=⟨fun a w ha hw=>wpIn_skip (h.out a w ha hw)⟩
theorem WI_exit {id:Nat} (h:WQ n (Q (.exit id)) M L):Wic P n ro (.exit id) Q M L:=⟨fun a w ha hw=>wpIn_exit (h.out a w ha hw)⟩
theorem WI_ret (h:WQ n (Q .ret) M L):Wic P n ro .ret Q M L:=⟨fun a w ha hw=>wpIn_ret (h.out a w ha hw)⟩
theorem WI_block {id:Nat} {c:Code} (h:Wic P n ro c (Exit.inBlock id Q) M L):Wic P n ro (.block id c) Q M L:=⟨fun a w ha hw=>wpIn_block (h.out a w ha hw)⟩
theorem WI_cond {c:Operand} {x y:Code} {t:Bool} (hc:ev M c=some (.bool t)) (ht:t=true→Wic P n ro x Q M L) (hf:t=false→Wic P n ro y Q M L) :
 Wic P n ro (.cond c x y) Q M L:=⟨fun a w ha hw=>wpIn_cond_split (ha.eval hc) (fun h=>(ht h).out a w ha hw) (fun h=>(hf h).out a w ha hw)⟩
theorem WI_true {c:Operand} {x y:Code} (hc:ev M c=some (.bool true)) (ht:Wic P n ro x Q M L):Wic P n ro (.cond c x y) Q M L:=⟨fun a w ha hw=>wpIn_cond_true (ha.eval hc) (ht.out a w ha hw)⟩
theorem WI_false {c:Operand} {x y:Code} (hc:ev M c=some (.bool false)) (ht:Wic P n ro y Q M L):Wic P n ro (.cond c x y) Q M L:=⟨fun a w ha hw=>wpIn_cond_false (ha.eval hc) (ht.out a w ha hw)⟩
theorem WI_region {id:Nat} {l:List Oper} (hN:NL Q) (hd:l.all noDef=true) (h:WL P n l.toArray Q l M L):Wic P n ro (.region id l.toArray false) Q M L:=⟨fun a w ha hw=>wpIn_region_lit (wpList_in hN hd (h.out a w ha hw))⟩
theorem WI_list {id:Nat} {l:List Oper} (h:Wjc P n ro l.toArray Q l M L):Wic P n ro (.region id l.toArray false) Q M L:=⟨fun a w ha hw=>wpIn_region_lit (h.out a w ha hw)⟩
theorem all_get {l:List Oper} (hd:l.all noDef=true):∀(i:Nat) (o:Oper),l.toArray[i]? =some o→noDef o=true:=fun i o h=>by
 rw [List.getElem?_toArray] at h
 exact (List.all_eq_true.1 hd) o (List.mem_of_getElem? h)
theorem WI_draw (S:List Chunk) (T:List Nat) {id:Nat} {ops:List Oper} (hN:NL Q) (hd:ops.all noDef=true) (hm:P.follows .mixedOrders=true) (h:WR P n ops Q S T ops.length (Array.replicate ops.length false) M L):Wic P n ro (.region id ops.toArray true) Q M L:=⟨fun a w ha hw=>by
 refine wpIn_region_any hm (wpAny_in hN (all_get hd) _ _ _ _ (wpAny_of_T (S:=fun w=>Holds w S) (T:=T) _ _ _ _ ?_))
 have:=h.out a { w with drawn:=w.drawn+1 } ha (hw.same rfl rfl rfl)
 simpa using this⟩
theorem WJ_nil {ops:Array Oper} (h:WQ n (Q .normal) M L):Wjc P n ro ops Q [] M L:=⟨fun a w ha hw=>h.out a w ha hw⟩
theorem WJ_op {ops:Array Oper} {rest:List Oper} {o:Oper} (hg:o.guard=none) (hd:noDef o=true) (h:OW P n o (Wjc P n ro ops Q rest) M L):Wjc P n ro ops Q (o::rest) M L:=⟨fun a w ha hw=>by
 unfold wpListIn
 rw [if_pos (by simp [Region.wanted,hg])]
 exact wp_in hd (h.out a w _ Q ha hw fun M' L' hk=>⟨hk.out⟩)⟩
theorem WQ_codeI {c:Code} (h:Wic P n ro c Q M L):WQ n (c.wpIn (Fr ro) 0 P Q) M L:=⟨h.out⟩
theorem WI_loop {X:Type} {c:Code} (MI:X→List (Nat × Value)) (LI:X→List Chunk) (J:X→Prop) (μ:X→Nat) (x0:X) (hJ:J x0) (hM:Sub (MI x0) M) (hL:∀w,Holds w L→Holds w (LI x0))
 (hround:∀x,J x→Wic P n ro c (Exit.then (fun a' w'=>∃x',μ x' < μ x∧J x'∧St n (MI x') a'∧Holds w' (LI x')) Q) (MI x) (LI x)):Wic P n ro (.loop c) Q M L:=⟨fun a w ha hw=>by
 intro b k cs hro hb hr
 have key:∀m x,μ x=m→J x→∀a w,St n (MI x) a→Holds w (LI x)→
  ∃e a' w',Q e a' w'∧ArrivesIn (Machine.fenced P (Fr ro)) P (lone (b.atR a (.code c::.inLoop c::k)) cs w) b k cs e a' w':=by
  intro m
  induction m using Nat.strongRecOn with
  |_ m ih=>
   intro x hm hx a w ha hw
   obtain ⟨e,a₁,w₁,hq,harr⟩:=(hround x hx).out a w ha hw b (.inLoop c::k) cs hro hb hr
   subst hm
   cases e with
   |normal=>
    obtain ⟨x',hlt,hJ',ha',hw'⟩:=hq
    obtain ⟨e₂,a₂,w₂,hq₂,harr₂⟩:=ih (μ x') hlt x' rfl hJ' a₁ w₁ ha' hw'
    exact ⟨e₂,a₂,w₂,hq₂,.of_steps (StepsIn.trans harr (.one (fenced_calm hb hr rfl) stepR_inLoop)) harr₂⟩
   |exit id=>exact ⟨_,a₁,w₁,hq,.pass (x:=.inLoop c) rfl (fun _ _=>.inl (by simp)) harr⟩
   |goto l=>exact ⟨_,a₁,w₁,hq,.pass (x:=.inLoop c) rfl (fun _ _=>.inl (by simp)) harr⟩
   |ret=>exact ⟨_,a₁,w₁,hq,.pass (x:=.inLoop c) rfl (fun _ _=>.inl (by simp)) harr⟩
   |panic ch=>exact ⟨_,a₁,w₁,hq,.pass (x:=.inLoop c) rfl (fun _ _=>.inl (by simp)) harr⟩
   |outgrown=>exact ⟨_,a₁,w₁,hq,.pass (x:=.inLoop c) rfl (fun _ _=>.inl (by simp)) harr⟩
 obtain ⟨e,a',w',hq,harr⟩:=key _ x0 rfl hJ a w (ha.sub hM) (hL w hw)
 exact ⟨e,a',w',hq,.of_steps (.one (fenced_calm hb hr rfl) stepR_loop) harr⟩⟩
end
end Go.Vx
namespace Go.Vx
open Go
set_option linter.all false
variable [W0]
section
variable {P : Program} {n : Nat} {ro : Option Nat} {Q : Exit → Act → World → Prop} {M : List (Nat × Value)} {L : List Chunk} {K : List (Nat × Value) → List Chunk → Prop}
structure Yd (P:Program) (l:Nat) (args:List Value) (L:List Chunk) (post:List Chunk→Prop):Prop where
 out:∀w,Holds w L→∃fn tmps assign body,(Instr.yield l args.toArray).run P w=.ok (.round l fn tmps assign body) w∧
  RoundIn Fence.wide 0 P l fn tmps assign body w (fun e w'=>e=.returned (.bool true)∧∃L',post L'∧Holds w' L')
theorem WJ_yield {ops:Array Oper} {rest:List Oper} {d l:Nat} {ty:TypeId} {ps:String} {af:Array Edge} {x:Operand} {xs:List Operand} {ats:Array TypeId} {vs:List Value} {post:List Chunk→Prop}
 (hx:ev M x=some (.func (.yield l) #[] #[])) (hvs:evs M xs=some vs) (hy:Yd P l vs L post) (hn:Nat.blt d n=true) (h:∀L',post L'→Wjc P n ro ops Q rest ((d,.bool true)::M) L') :
 Wjc P n ro ops Q (⟨some d,.call ⟨.value x,xs.toArray,ats⟩,ty,ps,af,none⟩::rest) M L:=⟨fun a w ha hw=>by
 unfold wpListIn
 rw [if_pos (by simp [Region.wanted])]
 refine ⟨fun _ _=>trivial,?_⟩
 obtain ⟨fn,tmps,assign,body,hrun,hround⟩:=hy.out w hw
 have hr:(execOp a.eval ⟨some d,.call ⟨.value x,xs.toArray,ats⟩,ty,ps,af,none⟩).run P w=.ok (.round l fn tmps assign body) w:=by
  have hm:Array.map a.eval xs.toArray=vs.toArray:=by rw [←ha.evals hvs];simp
  simp only [execOp,resolve,ha.eval hx,hm,Deferred.ofValue,Sem.run_bind,Sem.run_pure,Result.andThen_ok,invoke]
  simpa using hrun
 show Oper.uponIn (Fr ro) 0 P _ a _ Q ((Oper.semAt ro a.eval _).run P w)
 rw [semAt_in rfl,hr]
 refine ⟨fun hh=>absurd (a:=false=true) hh Bool.false_ne_true,?_⟩
 refine RoundIn.mono (F:=Fr ro) (show RoundIn (Fr ro) (0 - 1) P l fn tmps assign body w _ from hround) ?_
 rintro e w' ⟨rfl,L',hp,hw'⟩
 exact (h L' hp).out _ _ (ha.put _ hn) hw'⟩
def YdAll (P:Program) (l:Nat) (xs:List (List Value)) (J:Nat→List Chunk→Prop):Prop:=
 ∀(R:List Chunk) (k:Nat) (L':List Chunk),k < xs.length→J k L'→Yd P l (xs.getD k []) (L'++R) (fun L''=>∃L3,J (k+1) L3∧L''=L3++R)
structure It (P:Program) (gf:FuncId) (lb:Array Value) (Lit:List Chunk) (xs:List (List Value)):Prop where
 out:∀(l:Nat) (J:Nat→List Chunk→Prop) (L0:List Chunk),J 0 L0→YdAll P l xs J→∀w,Holds w (L0++Lit)→
  CallsIn Fence.wide 0 P gf (#[.func (.yield l) #[] #[]]++lb) w (fun e w'=>∃v L',e=.returned v∧(∃L3,J xs.length L3∧L'=L3++Lit)∧Holds w' L')
theorem It.of_body {gf:FuncId} {fn:Func} {c:Code} {lb:List Value} {Lit:List Chunk} {xs:List (List Value)} (hf:P.funcs[gf]? =some fn) (hb:fn.body=some c) (hle:Nat.ble (lb.length+1) fn.ntmps=true)
 (h:∀(l:Nat) (J:Nat→List Chunk→Prop) (L0:List Chunk),J 0 L0→YdAll P l xs J→Wic P fn.ntmps none c (bodyPost P fn (fun e w'=>∃v L',e=.returned v∧(∃L3,J xs.length L3∧L'=L3++Lit)∧Holds w' L')) (params 0 (.func (.yield l) #[] #[]::lb)) (L0++Lit)) :
 It P gf lb.toArray Lit xs:=⟨fun l J L0 h0 hy w hw=>by
 have e:#[Value.func (.yield l) #[] #[]]++lb.toArray=(Value.func (.yield l) #[] #[]::lb).toArray:=by simp
 rw [e]
 refine callsIn_of_wp hf hb trivial ((h l J L0 h0 hy).out _ w ⟨rfl,?_,?_⟩ hw)
 ·have:=Nat.le_of_ble_eq_true hle
  simp;omega
 ·intro t v ht
  obtain ⟨_,h2⟩:=params_get (.func (.yield l) #[] #[]::lb) 0 t v ht
  have h2':(Value.func (.yield l) #[] #[]::lb)[t]? =some v:=by simpa using h2
  have hlt:t < (Value.func (.yield l) #[] #[]::lb).length:=by
   rcases Nat.lt_or_ge t (Value.func (.yield l) #[] #[]::lb).length with h'|h'
   ·exact h'
   ·simp [List.getElem?_eq_none h'] at h2'
  rw [Array.getElem?_append_left (by simpa using hlt)]
  simpa using h2'⟩
def setM (zs:List (Nat × Value)) (M:List (Nat × Value)):List (Nat × Value):=zs.foldl (fun M x=>x::M) M
theorem St.setp:∀{zs:List (Nat × Value)} {M:List (Nat × Value)} {tm:Array Value},St n M ⟨tm,[]⟩→zs.all (fun z=>Nat.blt z.1 n)=true→St n (setM zs M) ⟨zs.foldl (fun t x=>t.setIfInBounds x.1 x.2) tm,[]⟩
 |[],_,_,h,_=>h
 |z::r,M,tm,h,hz=>by
  simp only [List.all_cons,Bool.and_eq_true] at hz
  exact St.setp (zs:=r) (M:=z::M) (tm:=tm.setIfInBounds z.1 z.2) (h.put z.2 hz.1) hz.2
theorem Holds.putL {w:World} {l:Nat} {o o':Obj} (h:Holds w ([(l,o)]::L)):Holds (w.putObj l o') ([(l,o')]::L):=by
 have hb:w.heap[l]? =some o:=Fnd.here.get h
 have hlt:l < w.heap.size:=(Array.getElem?_eq_some_iff.1 hb).1
 exact h.upd .here (World.putObj_heap_same hlt) (fun c hc=>World.putObj_heap_other hc) rfl rfl
theorem NL.body {fn:Func} {X:Value→List Chunk→World→Prop}:NL (bodyPost P fn (fun e w'=>∃v L3,e=.returned v∧X v L3 w')):=⟨fun a w h=>by
 obtain ⟨v,L3,he,_⟩:=h
 cases he⟩
def noVal (o:Oper):Bool:=match o.op with|.call c=>(match c.callee with|.value (.tmp _)=>false|_=>true)|_=>true
theorem WI_regionV {id:Nat} {l:List Oper} (hv:l.all noVal=true) (hN:NL Q) (hd:l.all noDef=true) (h:WL P n l.toArray Q l M L):Wic P n ro (.region id l.toArray false) Q M L:=WI_region hN hd h
theorem Fnd.right {A B:List Chunk} {b:Nat} {o:Obj} (h:Fnd B b o):Fnd (A++B) b o:=by
 simp only [Fnd,List.flatten_append,List.mem_append] at *;exact .inr h
theorem Fnd.left {A B:List Chunk} {b:Nat} {o:Obj} (h:Fnd A b o):Fnd (A++B) b o:=by
 simp only [Fnd,List.flatten_append,List.mem_append] at *;exact .inl h
def RP (J:Nat→List Chunk→Prop) (k:Nat) (R:List Chunk):Exit→Act→World→Prop:=fun e _ w=>e=.normal∧∃L3,J k L3∧Holds w (L3++R)
theorem RP_po {J:Nat→List Chunk→Prop} {k:Nat} {R:List Chunk}:PO (RP J k R):=⟨fun c a d v w h=>by cases h.1⟩
theorem RP_nl {J:Nat→List Chunk→Prop} {k:Nat} {R:List Chunk}:NL (RP J k R):=⟨fun a w h=>by cases h.1⟩
theorem WQ_RP {J:Nat→List Chunk→Prop} {k:Nat} {R:List Chunk} (L3:List Chunk) (hJ:J k L3) (hL:∀w,Holds w L→Holds w (L3++R)):WQ n (RP J k R .normal) M L:=⟨fun a w _ hw=>⟨rfl,L3,hJ,hL w hw⟩⟩
def AP (n:Nat) (MA:List (Nat × Value)) (L:List Chunk):Exit→Act→World→Prop:=Exit.then (fun a w=>St n MA a∧Holds w L) (fun _ _ _=>False)
theorem AP_nl {MA:List (Nat × Value)} {L:List Chunk}:NL (AP n MA L):=⟨fun a w h=>h⟩
theorem WQ_AP {MA:List (Nat × Value)} {L1:List Chunk} (hs:Sub MA M) (hL:∀w,Holds w L→Holds w L1):WQ n (AP n MA L1 .normal) M L:=⟨fun a w ha hw=>⟨ha.sub hs,hL w hw⟩⟩
theorem WR_r {S:List Chunk} {ops:List Oper} {T:List Nat} {fuel:Nat} {listed:Array Bool} {d:Nat} {v:Value} (i:Nat) {o:Oper} (h:WR P n ops Q S T fuel (listed.setIfInBounds i true) ((d,v)::M) L)
 (hi:ops[i]? =some o:=by exact rfl) (hg:o.guard=none:=by exact rfl) (hb:takeB ops T listed i=true:=by kernel_rfl) (hPO:PO Q:=by exact iP) (hinc:Inc S L:=by exact iC) (he:EV P n o M S d v:=by exact (by first|(show EV _ _ ⟨_,.move _,_,_,_,_⟩ _ _ _ _;first|exact EV_move rfl)|(show EV _ _ ⟨_,.assign _,_,_,_,_⟩ _ _ _ _;first|exact EV_assign rfl)|(show EV _ _ ⟨_,.nilCheck _,_,_,_,_⟩ _ _ _ _;first|exact EV_nilCheck rfl)|(show EV _ _ ⟨_,.fieldAddr ..,_,_,_,_⟩ _ _ _ _;first|exact EV_fieldAddr0 rfl|exact EV_fieldAddr rfl)|(show EV _ _ ⟨_,.load ..,_,_,_,_⟩ _ _ _ _;first|exact EV_loadc rfl (by repeat (first|assumption|exact Fnd.here|refine Fnd.there ?_)) rfl|exact EV_loadAggC rfl (by repeat (first|assumption|exact Fnd.here|refine Fnd.there ?_)) rfl)|(show EV _ _ ⟨_,.binOp ..,_,_,_,_⟩ _ _ _ _;first|exact EV_cmp rfl rfl rfl|exact EV_ari64 rfl rfl rfl (by omega)|exact EV_shr rfl rfl (by decide) (shr_lit (by omega) (by simp [IntKind.bits];rfl))|exact EV_strEq rfl rfl|exact EV_strNe rfl rfl|exact EV_strLt rfl rfl|exact EV_sliceEqNil rfl rfl|exact EV_sliceNeNil rfl rfl|exact EV_ptrEqNil rfl rfl|exact EV_ptrNeNil rfl rfl|exact EV_boolEq rfl rfl|exact EV_boolNe rfl rfl)|(show EV _ _ ⟨_,.convert ..,_,_,_,_⟩ _ _ _ _;first|exact EV_convII rfl (wrap_i64 (by omega) (by omega))|exact EV_convII rfl (wrap_u64 (by omega) (by omega))|exact EV_convII rfl rfl)|(show EV _ _ ⟨_,.extract ..,_,_,_,_⟩ _ _ _ _;first|exact EV_extract rfl rfl)|(show EV _ _ ⟨_,.unOp ..,_,_,_,_⟩ _ _ _ _;first|exact EV_not rfl)|(show EV _ _ ⟨_,.pick ..,_,_,_,_⟩ _ _ _ _;first|exact EV_pick rfl rfl)|(show EV _ _ ⟨_,.call ⟨.builtin .len,_,_⟩,_,_,_,_⟩ _ _ _ _;first|exact EV_lenSl rfl|exact EV_lenStr rfl)|(show EV _ _ ⟨_,.call ⟨.builtin .cap,_,_⟩,_,_,_,_⟩ _ _ _ _;first|exact EV_capSl rfl)|(show EV _ _ ⟨_,.call ⟨.builtin .min,_,_⟩,_,_,_,_⟩ _ _ _ _;first|exact EV_min rfl rfl)|(show EV _ _ ⟨_,.call ⟨.builtin .max,_,_⟩,_,_,_,_⟩ _ _ _ _;first|exact EV_max rfl rfl)|(show EV _ _ ⟨_,.makeInterface ..,_,_,_,_⟩ _ _ _ _;first|exact EV_makeInterface rfl)|(show EV _ _ ⟨_,.makeFunc ..,_,_,_,_⟩ _ _ _ _;first|exact EV_makeFunc rfl rfl)|(show EV _ _ ⟨_,.typeAssert ..,_,_,_,_⟩ _ _ _ _;first|exact EV_assertYes rfl|exact EV_assertNo rfl rfl)|(show EV _ _ ⟨_,.build ..,_,_,_,_⟩ _ _ _ _;first|exact EV_build rfl (by simp [fillL,patch,Value.cells];rfl)))) (hn:Nat.blt d n=true:=by exact rfl) :
 WR P n ops Q S T (fuel+1) listed M L:=WR_take i hi hg hb hPO hinc he hn h
theorem WC_range {g:Operand} {ps:List Tmp} {assign body:Code} {gf:FuncId} {lb:Array Value} [hbd:BD P gf] (hx:ev M g=some (.func (.func gf) #[] lb)) {Lit:List Chunk} {xs:List (List Value)} (hit:It P gf lb Lit xs)
 (J:Nat→List Chunk→Prop) (L0:List Chunk) (h0:J 0 L0) (hL:∀w,Holds w L→Holds w (L0++Lit)) (hps:∀k,k < xs.length→(xs.getD k []).length=ps.length) (hpn:ps.all (fun t=>Nat.blt t n)=true)
 (MA:Nat→List Chunk→List (Nat × Value))
 (hassign:∀(l k:Nat) (L' R:List Chunk),k < xs.length→J k L'→Wic P n (some l) assign (AP n (MA k L') (L'++R)) (setM (ps.zip (xs.getD k [])) M) (L'++R))
 (hbody:∀(l k:Nat) (L' R:List Chunk),k < xs.length→J k L'→Wic P n (some l) body (RP J (k+1) R) (MA k L') (L'++R))
 (hdone:∀(D:Nat) (a:Act) (w:World) (L3:List Chunk),St n M { a with defers:=[] }→a.defers=[⟨.collected D,#[]⟩]→J xs.length L3→Holds w ([(D,.deferred (some []))]::(L3++Lit))→Q .normal a w) :
 WC P n (.rangeFunc g ps.toArray assign body) Q M L:=⟨fun a w ha hw=>by
 refine (wpIn_wide (n:=0)).1 (wpIn_rangeFunc fun fn _=>?_)
 obtain ⟨rec,hrec⟩:∃rec:LoopState→Loop,rec=fun st=>{ state:=st,pending:=none,fn,tmps:=a.tmps,params:=ps.toArray,assign,body,defers:=w.heap.size }:=⟨_,rfl⟩
 obtain ⟨D,hD⟩:∃D,D=w.heap.size:=⟨_,rfl⟩
 obtain ⟨l,hl⟩:∃l,l=w.heap.size+1:=⟨_,rfl⟩
 have hW1:Holds ((w.alloc (.deferred (some []))).alloc (.loop (rec .ready))) ([(l,.loop (rec .ready))]::[(D,.deferred (some []))]::(L0++Lit)):=by
  have h1:=((hL w hw).alloc (.deferred (some []))).alloc (.loop (rec .ready))
  rw [World.size_alloc,←hl,←hD] at h1
  exact h1
 obtain ⟨W1,hW1e⟩:∃W1,W1=(w.alloc (.deferred (some []))).alloc (.loop (rec .ready)):=⟨_,rfl⟩
 rw [←hW1e] at hW1
 refine ⟨l,[{ target:=.collected D,args:=#[] }],W1,{ target:=.fn (.func gf) lb,args:=#[.func (.yield l) #[] #[]] },W1,gf,#[.func (.yield l) #[] #[]]++lb,W1,?_,?_,fun _ _=>trivial,?_,fun hh=>absurd (a:=false=true) hh Bool.false_ne_true,?_⟩
 ·have:=run_enterLoop_outer (P:=P) (w:=w) fn a.tmps ps.toArray assign body
  rw [hl,hD,hW1e,hrec]
  exact this
 ·simp only [resolve,ha.eval hx]
  simp [Deferred.ofValue,Act.eval]
 ·simp only [invoke]
  exact callFunc_run hbd.out _ _
 ·obtain ⟨J',hJ'⟩:∃J':Nat→List Chunk→Prop,∀k L'',J' k L''↔∃L',J k L'∧L''=[(l,.loop (rec .ready))]::[(D,.deferred (some []))]::L':=⟨fun k L''=>∃L',J k L'∧L''=[(l,.loop (rec .ready))]::[(D,.deferred (some []))]::L',fun _ _=>Iff.rfl⟩
  have hyd:YdAll P l xs J':=by
   intro R k L'' hk hj
   obtain ⟨L',hj0,rfl⟩:=(hJ' k L'').1 hj
   refine ⟨fun w1 hw1=>?_⟩
   have hrl:w1.heap[l]? =some (.loop (rec .ready)):=Fnd.here.get hw1
   have hy:=run_yield (P:=P) (args:=(xs.getD k []).toArray) hrl (by rw [hrec];simpa using hps k hk)
   rw [hrec] at hy
   refine ⟨fn,_,assign,body,hy,roundIn_of_wpIn trivial ?_⟩
   have hperm:∀(A B:Chunk),(A::B::(L'++R)).Perm (L'++(A::B::R)):=fun A B=>by
    refine ((List.perm_middle (l₁:=L') (a:=A) (l₂:=B::R)).trans (.cons A ?_)).symm
    exact List.perm_middle
   have hst:St n (setM (ps.zip (xs.getD k [])) M) ⟨(ps.zip (xs.getD k [])).foldl (fun t x=>t.setIfInBounds x.1 x.2) a.tmps,[]⟩:=by
    refine St.setp ⟨rfl,ha.size,ha.get⟩ ?_
    rw [List.all_eq_true]
    intro z hz
    exact (List.all_eq_true.1 hpn) z.1 (List.of_mem_zip hz).1
   have ha1:=(hassign l k L' ([(l,.loop (rec .ready))]::[(D,.deferred (some []))]::R) hk hj0).out _ w1 hst (hw1.perm (hperm _ _))
   have etm:(ps.toArray.zip (xs.getD k []).toArray).foldl (fun tmps (x:Tmp × Value)=>tmps.setIfInBounds x.1 x.2) a.tmps=(ps.zip (xs.getD k [])).foldl (fun t x=>t.setIfInBounds x.1 x.2) a.tmps:=by simp
   show Code.wpIn (Fence.wide.inRound l) 0 P assign _ { tmps:=(ps.toArray.zip (xs.getD k []).toArray).foldl (fun tmps (x:Tmp × Value)=>tmps.setIfInBounds x.1 x.2) a.tmps,defers:=[] } w1
   rw [etm]
   refine wpIn_mono (F:=Fr (some l)) ha1 ?_
   rintro e a2 w2 h2
   cases e with
   |normal=>
    obtain ⟨hs2,hw2⟩:=h2
    have hw2':=hw2.perm (hperm _ _).symm
    have hrl2:w2.heap[l]? =some (.loop (rec .ready)):=Fnd.here.get hw2'
    have hw3:=hw2'.putL (o':=.loop { rec .ready with state:=.busy })
    refine ⟨_,run_beginRound hrl2 (by rw [hrec]),?_⟩
    have hb1:=(hbody l k L' ([(l,.loop { rec .ready with state:=.busy })]::[(D,.deferred (some []))]::R) hk hj0).out a2 _ hs2 (hw3.perm (hperm _ _))
    refine wpIn_mono (F:=Fr (some l)) hb1 ?_
    rintro e a3 w4 ⟨rfl,L3,hj3,hw4⟩
    have hperm3:([(l,.loop { rec .ready with state:=.busy })]::[(D,.deferred (some []))]::(L3++R)).Perm (L3++([(l,.loop { rec .ready with state:=.busy })]::[(D,.deferred (some []))]::R)):=by
     refine ((List.perm_middle (l₁:=L3)).trans (.cons _ ?_)).symm
     exact List.perm_middle
    have hw4':=hw4.perm hperm3.symm
    have hrl4:w4.heap[l]? =some (.loop { rec .ready with state:=.busy }):=Fnd.here.get hw4'
    refine ⟨_,_,run_endRound none hrl4,?_⟩
    refine ⟨rfl,_,⟨_,(hJ' (k+1) _).2 ⟨L3,hj3,rfl⟩,rfl⟩,?_⟩
    have hw5:=hw4'.putL (o':=.loop (rec .ready))
    have er:(Obj.loop { { rec .ready with state:=.busy } with state:=if (none:Option Code).isNone then .ready else .done,pending:=none })=.loop (rec .ready):=by rw [hrec];rfl
    rw [er]
    exact hw5
   |exit id=>exact h2.elim
   |goto t=>exact h2.elim
   |ret=>exact h2.elim
   |panic c=>exact h2.elim
   |outgrown=>exact h2.elim
  have hW1':Holds W1 (([(l,.loop (rec .ready))]::[(D,.deferred (some []))]::L0)++Lit):=hW1
  have hcall:=hit.out l J' _ ((hJ' 0 _).2 ⟨L0,h0,rfl⟩) hyd _ hW1'
  refine CallsIn.mono hcall ?_
  rintro e w3 ⟨v,L3',rfl,⟨L3,hj3,rfl⟩,hw3⟩
  obtain ⟨L4,hj4,rfl⟩:=(hJ' _ _).1 hj3
  have hrl3:w3.heap[l]? =some (.loop (rec .ready)):=Fnd.here.get hw3
  have hpn:(rec .ready).pending=none:=by rw [hrec]
  have hend:(Instr.endLoop l).run P w3=.ok none (w3.putObj l (.loop { rec .ready with state:=.exhausted })):=
   (run_endLoop (P:=P) hrl3 (by rw [hrec];intro h;cases h)).trans (by simp [hpn])
  refine ⟨none,w3.putObj l (.loop { rec .ready with state:=.exhausted }),hend,?_⟩
  have hw5:Holds (w3.putObj l (.loop { rec .ready with state:=.exhausted })) ([(l,.loop { rec .ready with state:=.exhausted })]::[(D,.deferred (some []))]::(L4++Lit)):=hw3.putL
  refine hdone D _ _ L4 ⟨rfl,ha.size,ha.get⟩ ?_ hj4 hw5.drop
  show [_]++a.defers=_
  rw [ha.defers]
  rfl⟩
structure Wmc (P:Program) (n D:Nat) (c:Code) (Q:Exit→Act→World→Prop) (M:List (Nat × Value)) (L:List Chunk):Prop where
 out:∀a w,St n M { a with defers:=[] }→a.defers=[⟨.collected D,#[]⟩]→Holds w L→c.wp P Q a w
structure Wnc (P:Program) (n D:Nat) (ops:Array Oper) (Q:Exit→Act→World→Prop) (rest:List Oper) (M:List (Nat × Value)) (L:List Chunk):Prop where
 out:∀a w,St n M { a with defers:=[] }→a.defers=[⟨.collected D,#[]⟩]→Holds w L→wpList P ops Q rest a w
structure Wpc (n D:Nat) (q:Act→World→Prop) (M:List (Nat × Value)) (L:List Chunk):Prop where
 out:∀a w,St n M { a with defers:=[] }→a.defers=[⟨.collected D,#[]⟩]→Holds w L→q a w
theorem WM_seq {D:Nat} {x y:Code} (h:Wmc P n D x (Exit.then (y.wp P Q) Q) M L):Wmc P n D (.seq x y) Q M L:=⟨fun a w ha hd hw=>wp_seq (h.out a w ha hd hw)⟩
theorem WM_ret {D:Nat} (h:Wpc n D (Q .ret) M L):Wmc P n D .ret Q M L:=⟨fun a w ha hd hw=>wp_ret (h.out a w ha hd hw)⟩
theorem WM_region {D:Nat} {id:Nat} {l:List Oper} (h:Wnc P n D l.toArray Q l M L):Wmc P n D (.region id l.toArray false) Q M L:=⟨fun a w ha hd hw=>wp_region_lit (h.out a w ha hd hw)⟩
theorem WN_nil {D:Nat} {ops:Array Oper} (h:Wpc n D (Q .normal) M L):Wnc P n D ops Q [] M L:=⟨fun a w ha hd hw=>wpList_nil (h.out a w ha hd hw)⟩
theorem WN_ev {D:Nat} {ops:Array Oper} {rest:List Oper} {o:Oper} {d:Nat} {v:Value} (hg:o.guard=none) (he:EV P n o M L d v) (hn:Nat.blt d n=true) (h:Wnc P n D ops Q rest ((d,v)::M) L):Wnc P n D ops Q (o::rest) M L:=⟨fun a w ha hd hw=>by
 unfold wpList
 rw [if_pos (by simp [Region.wanted,hg])]
 refine .inl ?_
 unfold Oper.wp
 have hr:=he.run { a with defers:=[] } w ha hw
 have hae:({ a with defers:=[] }:Act).eval=a.eval:=by funext x;cases x<;>rfl
 rw [hae] at hr
 rw [hr,Oper.upon_value,he.dst]
 refine h.out _ w (ha.put v hn) ?_ hw
 exact hd⟩
theorem WP_code {D:Nat} {c:Code} {K:Act→World→Prop} (hK:K=c.wp P Q) (h:Wmc P n D c Q M L):Wpc n D K M L:=by subst hK;exact ⟨h.out⟩
theorem WP_end {D:Nat} {fn:Func} {post:Value→List Chunk→Prop} {rs:List ResultVar} {vs:List Value} {e:Exit} (he:e=.ret∨e=.normal) (hr:fn.results=rs.toArray) (h:resT M rs=some vs) {L1:List Chunk} (hL:∀w,Holds w L→Holds w ([(D,.deferred (some []))]::L1)) (hp:post (tupled vs) L1) :
 Wpc n D (bodyPostM Fence.wide 0 P fn (fun e w'=>∃v L',e=.returned v∧post v L'∧Holds w' L') e) M L:=⟨fun a w ha hd hw=>by
 have key:LeavesInM Fence.wide 0 P fn a.tmps (fun e w'=>∃v L',e=.returned v∧post v L'∧Holds w' L') a.defers .returning w:=by
  rw [hd]
  have hw2:=hL w hw
  have hk:w.heap[D]? =some (.deferred (some [])):=Fnd.here.get hw2
  have hw3:Holds (w.putObj D (.deferred none)) ([(D,.deferred none)]::L1):=hw2.putL
  refine ⟨by simp,.inl ⟨D,_,rfl,run_takeDeferred hk,?_⟩⟩
  exact ⟨tupled vs,results_run (a:={ a with defers:=[] }) ha hr h,tupled vs,L1,rfl,hp,hw3.drop⟩
 rcases he with rfl|rfl<;>exact key⟩
theorem Gv.of_bodyM {f:FuncId} {fn:Func} {c:Code} {args:List Value} {post:Value→List Chunk→Prop} (hf:P.funcs[f]? =some fn) (hb:fn.body=some c) (hle:Nat.ble args.length fn.ntmps=true)
 (h:WC P fn.ntmps c (bodyPostM Fence.wide 0 P fn (fun e w'=>∃v L',e=.returned v∧post v L'∧Holds w' L')) (params 0 args) L):Gv P f args.toArray L post:=⟨fun w hw=>by
 refine (callsIn_wide (n:=0)).1 (callsIn_of_wp_marks hf hb trivial ((wpIn_wide (n:=0)).2 (h.out _ w ⟨rfl,?_,?_⟩ hw)))
 ·have:=Nat.le_of_ble_eq_true hle
  simp;omega
 ·intro t v ht
  obtain ⟨_,h2⟩:=params_get args 0 t v ht
  have h2':args[t]? =some v:=by simpa using h2
  have hlt:t < args.length:=by
   rcases Nat.lt_or_ge t args.length with h'|h'
   ·exact h'
   ·simp [List.getElem?_eq_none h'] at h2'
  rw [Array.getElem?_append_left (by simpa using hlt)]
  simpa using h2'⟩
theorem kTi {c:Operand} {x y:Code} {t:Bool} {p:Prop} (ht:p→Wic P n ro x Q M L) (hc:ev M c=some (.bool t):=by exact rfl) (hn:t=false→False:=by (intro hc;(try simp only [nrB] at hc);first|omega|exact hc trivial|exact hc rfl)) (hp:t=true→p:=by (intro hc;(try simp only [nrB] at hc);exact hc)):Wic P n ro (.cond c x y) Q M L:=
 WI_cond hc (fun h=>ht (hp h)) (fun h=>(hn h).elim)
theorem kFi {c:Operand} {x y:Code} {t:Bool} {p:Prop} (hf:p→Wic P n ro y Q M L) (hc:ev M c=some (.bool t):=by exact rfl) (hn:t=true→False:=by (intro hc;(try simp only [nrB] at hc);first|omega|exact hc trivial|exact hc rfl)) (hp:t=false→p:=by (intro hc;(try simp only [nrB] at hc);exact hc)):Wic P n ro (.cond c x y) Q M L:=
 WI_cond hc (fun h=>(hn h).elim) (fun h=>hf (hp h))
theorem kQi {c:Operand} {x y:Code} {t:Bool} {p q:Prop} (ht:p→Wic P n ro x Q M L) (hf:q→Wic P n ro y Q M L) (hc:ev M c=some (.bool t):=by exact rfl) (hp:t=true→p:=by (intro hc;(try simp only [nrB] at hc);exact hc)) (hq:t=false→q:=by (intro hc;(try simp only [nrB] at hc);exact hc)):Wic P n ro (.cond c x y) Q M L:=
 WI_cond hc (fun h=>ht (hp h)) (fun h=>hf (hq h))
theorem kI {p q:Prop} (h:q) (s:Wr q→p:=by (intro h9;(first|(show WL _ _ _ _ _ _ _;first|refine jA ?_|refine jB ?_|refine jC ?_|refine jD ?_|refine jE ?_|refine jF ?_)|(show OW _ _ _ _ _ _;first|refine OW_E ?_|refine jI ?_|refine jJ ?_)|(show Wic _ _ _ _ _ _ _;first|refine WI_seq ?_|refine WI_regionV rfl (by repeat (first|with_reducible exact NL.body|with_reducible exact RP_nl|with_reducible exact AP_nl|with_reducible refine NL.then ?_|with_reducible refine NL.block ?_)) rfl ?_|refine WI_true rfl ?_|refine WI_false rfl ?_|refine WI_skip ?_|refine WI_ret ?_|refine WI_exit ?_|refine WI_block ?_)|(show WQ _ _ _ _;with_reducible first|refine jV ?_|refine WQ_codeI ?_|refine jX ?_|refine jY ?_|refine jZ ?_|refine kA ?_|refine kB ?_|refine kC ?_));(repeat (first|(show WL _ _ _ _ _ _ _;first|refine jA ?_|refine jB ?_|refine jC ?_|refine jD ?_|refine jE ?_|refine jF ?_)|(show OW _ _ _ _ _ _;first|refine OW_E ?_|refine jI ?_|refine jJ ?_)|(show Wic _ _ _ _ _ _ _;first|refine WI_seq ?_|refine WI_regionV rfl (by repeat (first|with_reducible exact NL.body|with_reducible exact RP_nl|with_reducible exact AP_nl|with_reducible refine NL.then ?_|with_reducible refine NL.block ?_)) rfl ?_|refine WI_true rfl ?_|refine WI_false rfl ?_|refine WI_skip ?_|refine WI_ret ?_|refine WI_exit ?_|refine WI_block ?_)|(show WQ _ _ _ _;with_reducible first|refine jV ?_|refine WQ_codeI ?_|refine jX ?_|refine jY ?_|refine jZ ?_|refine kA ?_|refine kB ?_|refine kC ?_)));exact h9.out)):p:=s ⟨h⟩
theorem kJ {p A g:Prop} (h:p→A) (s:Wr (p→A)→g:=by (intro h9;first|((show Wic _ _ _ _ _ _ _);first|exact kTi h9.out|exact kFi h9.out)|((show WL _ _ _ _ _ _ _);first|(refine jG (fun hc=>?_) (fun hc=>?_);(focus (rw [hc];have h8:=hc;(try simp only [nrB] at h8);exact h9.out h8));(exfalso;(try simp only [nrB] at hc);first|done|omega))|(refine jG (fun hc=>?_) (fun hc=>?_);rotate_left;(focus (rw [hc];have h8:=hc;(try simp only [nrB] at h8);exact h9.out h8));(exfalso;(try simp only [nrB] at hc);first|done|omega))))):g:=s ⟨h⟩
theorem kK {p q A B g:Prop} (ht:p→A) (hf:q→B) (s:Wr ((p→A)∧(q→B))→g:=by (intro h9;first|((show Wic _ _ _ _ _ _ _);exact kQi h9.out.1 h9.out.2)|((show WL _ _ _ _ _ _ _);(refine jG (fun hc=>?_) (fun hc=>?_);(focus (rw [hc];have h8:=hc;(try simp only [nrB] at h8);exact h9.out.1 h8));(rw [hc];have h8:=hc;(try simp only [nrB] at h8);exact h9.out.2 h8))))):g:=s ⟨ht,hf⟩
theorem kL {p q:Prop} (h:q) (s:Wr q→p:=by (intro h9;(first|(show Wjc _ _ _ _ _ _ _ _;first|refine WJ_op rfl rfl ?_|refine WJ_nil ?_)|(show OW _ _ _ _ _ _;first|refine OW_E ?_|refine jI ?_|refine jJ ?_)|(show Wic _ _ _ _ _ _ _;first|refine WI_seq ?_|refine WI_regionV rfl (by repeat (first|with_reducible exact NL.body|with_reducible exact RP_nl|with_reducible exact AP_nl|with_reducible refine NL.then ?_|with_reducible refine NL.block ?_)) rfl ?_|refine WI_true rfl ?_|refine WI_false rfl ?_|refine WI_skip ?_|refine WI_ret ?_|refine WI_exit ?_|refine WI_block ?_)|(show WQ _ _ _ _;with_reducible first|refine jV ?_|refine WQ_codeI ?_|refine jX ?_|refine jY ?_|refine jZ ?_|refine kA ?_|refine kB ?_|refine kC ?_));(repeat (first|(show Wjc _ _ _ _ _ _ _ _;first|refine WJ_op rfl rfl ?_|refine WJ_nil ?_)|(show OW _ _ _ _ _ _;first|refine OW_E ?_|refine jI ?_|refine jJ ?_)|(show Wic _ _ _ _ _ _ _;first|refine WI_seq ?_|refine WI_regionV rfl (by repeat (first|with_reducible exact NL.body|with_reducible exact RP_nl|with_reducible exact AP_nl|with_reducible refine NL.then ?_|with_reducible refine NL.block ?_)) rfl ?_|refine WI_true rfl ?_|refine WI_false rfl ?_|refine WI_skip ?_|refine WI_ret ?_|refine WI_exit ?_|refine WI_block ?_)|(show WQ _ _ _ _;with_reducible first|refine jV ?_|refine WQ_codeI ?_|refine jX ?_|refine jY ?_|refine jZ ?_|refine kA ?_|refine kB ?_|refine kC ?_)));exact h9.out)):p:=s ⟨h⟩
end
end Go.Vx
