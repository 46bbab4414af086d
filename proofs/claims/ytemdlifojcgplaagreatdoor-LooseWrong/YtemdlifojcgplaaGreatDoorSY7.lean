/- LooseWrong returns true and leaves its arguments as they were, for every argument; the table that the program reads is tied to its text (the card). No conditions beyond the row's. -/
import Derived.Test.YtemdlifojcgplaaGreatDoorSY6
set_option maxHeartbeats 16000000
namespace Go.Proofs.YtemdlifojcgplaaGreatDoor
open Go Go.Vx Go.Ob Go.ChangeShapes Go.WideShapes Go.ChangeAt Go.RowKit
set_option linter.all false
set_option maxRecDepth 4000
theorem top_row (H:Type) (enc:TypeId × Value→H) (W:World) (base:Nat) (args:Array Value) (ds gs:List (DataW H)) (before:List MemPlace)
 (hval:∀(j:Nat) t v,Tryz.f3.params[j]? =some t→args[j]? =some v→Value.okWide Tryz.prog W .any base t v)
 (hW:DataW.Whole enc Tryz.prog Tryz.f3.params.toList Rows.looseWrongSpec.vars false W args.toList ds gs before)
 (hz:(DataW.weightsEach Tryz.prog (Tryz.f3.params.toList++Rows.looseWrongSpec.plain.varTypes Tryz.prog) (ds++gs)).all (·≤reachBytes)=true) (hL:laidMetH Tryz.prog laid9 W) (hsh:W.ShapedOpen Tryz.prog) :
 Calls Tryz.prog 3 args W fun e W'=>∃v,e=.returned v∧Rows.looseWrongSpec.post enc Tryz.prog Tryz.f3 false true false false W args v W':=by
 have hW':=hW
 obtain ⟨p,q,hA0,hV,rfl,hfz,hnd⟩:=hW
 have hA:DataW.TrodAll enc Tryz.prog W 0 (fun _=>true) true Tryz.f3.params.toList args.toList ds p:=hA0
 rw [Tryz.params3] at hA hval hz
 obtain ⟨v0,vs0,d0,ds0,p0,q0,hargs,rfl,rfl,h0,r0⟩:=trodAll_cons hA
 obtain ⟨v1,vs1,d1,ds1,p1,q1,rfl,rfl,rfl,h1,r1⟩:=trodAll_cons r0
 obtain ⟨v2,vs2,d2,ds2,p2,q2,rfl,rfl,rfl,h2,r2⟩:=trodAll_cons r1
 obtain ⟨v3,vs3,d3,ds3,p3,q3,rfl,rfl,rfl,h3,r3⟩:=trodAll_cons r2
 obtain ⟨rfl,rfl,rfl⟩:=trodAll_nil r3
 obtain rfl:args=#[v0,v1,v2,v3]:=by cases args;simp_all
 obtain ⟨rfl,rfl⟩:=trodVars_none hV
 have hu0:=h0
 obtain ⟨z0,a0,c0,x0,rfl,s0,q0⟩:=open_put (hval 0 _ v0 rfl rfl) h0
 have r0:=put_len hz (j:=0) rfl rfl q0
 have hu1:=h1
 obtain ⟨z1,a1,c1,x1,rfl,s1,q1⟩:=open_put (hval 1 _ v1 rfl rfl) h1
 have r1:=put_len hz (j:=1) rfl rfl q1
 obtain ⟨n2,rfl,rfl,rfl,w2⟩:=open_int Tryz.underlying3 (hval 2 _ v2 rfl rfl) h2
 obtain ⟨n3,rfl,rfl,rfl,w3⟩:=open_int Tryz.underlying5 (hval 3 _ v3 rfl rfl) h3
 clear hA0
 have lt0:∀x∈p0,x.block < W.heap.size:=by obtain ⟨m,hm⟩:=h0;exact DataW.trod_lt m _ _ _ hm
 have lt1:∀x∈p1,x.block < W.heap.size:=by obtain ⟨m,hm⟩:=h1;exact DataW.trod_lt m _ _ _ hm
 have hc:Calls Tryz.prog 3 #[.agg #[.int .i64 z0,.slice a0 x0.length c0],.agg #[.int .i64 z1,.slice a1 x1.length c1],.int .i64 n2,.int .u8 n3] W fun e W'=>e=.returned (.bool true)∧Kept W W':=by
  refine bridge (fun {i}=>?_)
  have ht:=bs_met hL hsh
  have hor:=or_met hL
  have hi: -9223372036854775808≤n2∧n2≤9223372036854775807:=by
   have h0:=w2
   simp [Lit.wf,IntKind.min,IntKind.max,IntKind.signed,IntKind.bits] at h0
   omega
  have hn:0≤n3∧n3≤255:=by
   have h0:=w3
   simp [Lit.wf,IntKind.min,IntKind.max,IntKind.signed,IntKind.bits] at h0
   omega
  have hby:n3=((UInt8.ofNat n3.toNat).toNat:Int):=by
   rw [UInt8.toNat_ofNat']
   omega
  rw [hby]
  exact loosewrong_n z0 z1 a0 a1 c0 c1 x0 x1 n2 (UInt8.ofNat n3.toNat) _ s0 s1 (by omega) (by omega) hi ht hor
 refine hc.mono fun e W' ⟨he,bel⟩=>?_
 subst he
 exact ⟨_,rfl,_,_,_,[],_,[],hW',trodAll_mk1 (shut_bool Tryz.underlying4 _),(trodAll_cons_mk (Kept.trod Tryz.laidOut (by kernel_rfl) (of_decide_eq_true (by kernel_rfl)) h0 bel lt0) (trodAll_cons_mk (Kept.trod Tryz.laidOut (by kernel_rfl) (of_decide_eq_true (by kernel_rfl)) h1 bel lt1) (trodAll_cons_mk (shut_int Tryz.underlying3 w2) (trodAll_cons_mk (shut_int Tryz.underlying5 w3) trodAll_mk0)))),rfl,bel.frame _,fun h=>by cases h⟩
def putT (w:World) (g:Nat) (zs:List Value):World:={ w with heap:=w.heap.modify g fun
 |.cells _ t frozen=>.cells zs.toArray t frozen
 |o=>o }
noncomputable def laidWorld (os:Os):World:=
 putT (putT (putT (putT (putT (putT (World.holding Tryz.prog os ⟨#[],#[],[]⟩) 4 tab32) 5 tab64) 3 tab10) 2 tabAc) 6 tabOr) 1 tabFi
theorem laid_met (os:Os):laidMet Tryz.prog Rows.looseWrongRow.laid ((laidWorld os).forCall (fun _ _=>0) ⟨#[],#[.agg #[.int .i64 0,.slice none 0 0],.agg #[.int .i64 0,.slice none 0 0],.int .i64 0,.int .u8 0],[]⟩).memory:=
 laidMet_of_run' 8 (by kernel_rfl) (by kernel_rfl)
theorem reads (os:Os) {H:Type} (enc:TypeId × Value→H):∃places,DataW.whole enc Tryz.prog ((laidWorld os).forCall (fun _ _=>0) ⟨#[],#[.agg #[.int .i64 0,.slice none 0 0],.agg #[.int .i64 0,.slice none 0 0],.int .i64 0,.int .u8 0],[]⟩).memory Tryz.f3.params.toList Rows.looseWrongSpec.vars false #[.agg #[.int .i64 0,.slice none 0 0],.agg #[.int .i64 0,.slice none 0 0],.int .i64 0,.int .u8 0].toList 8=some ([.agg [.lit (.int .i64 0),.nil],.agg [.lit (.int .i64 0),.nil],.lit (.int .i64 0),.lit (.int .u8 0)],[],places):=
 ⟨[],by kernel_rfl⟩
set_option maxRecDepth 100000 in
theorem top_lifted (os:Os) (started:os.Started) (H:Type) (enc:TypeId × Value→H) (F:Stop.Interp) :
 ReturnsInHanded {} Tryz.checked os 3 .any ((OpenSpec.ofChange Rows.looseWrongSpec).preRow enc Tryz.prog Tryz.f3 Rows.looseWrongRow.domain false Rows.looseWrongRow.laid) (((OpenSpec.ofChange Rows.looseWrongSpec).at F).post enc Tryz.prog Tryz.f3 false true false false):=by
 obtain ⟨places,hx⟩:=reads os enc
 refine returnsInHanded_of_row (C:=Tryz.checked) (s:=(OpenSpec.ofChange Rows.looseWrongSpec)) Tryz.own started (by kernel_rfl) Tryz.func3
  (witness_row_at (enc:=enc) (C:=Tryz.checked) false (laidWorld os) #[.agg #[.int .i64 0,.slice none 0 0],.agg #[.int .i64 0,.slice none 0 0],.int .i64 0,.int .u8 0] rfl (by kernel_rfl) (by kernel_rfl) (by kernel_rfl)
    (OpenSpec.preRow_of_cond 8 hx (by kernel_rfl) (fun k hk=>by cases hk) (by kernel_rfl) (laid_met os))) ?_
 intro W base args ds gs before hval hW _ hcond hz hL hsh _
 exact top_row H enc W base args ds gs before hval hW hz hL hsh
end Go.Proofs.YtemdlifojcgplaaGreatDoor
