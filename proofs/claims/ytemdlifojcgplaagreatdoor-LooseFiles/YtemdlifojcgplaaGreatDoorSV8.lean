/- LooseFiles returns true and leaves its arguments as they were, for every argument; the table that the program reads is tied to its text (the card). No conditions beyond the row's. -/
import Derived.Test.YtemdlifojcgplaaGreatDoorSV7
set_option maxHeartbeats 16000000
namespace Go.Proofs.YtemdlifojcgplaaGreatDoor
open Go Go.Vx Go.Ob Go.ChangeShapes Go.WideShapes Go.ChangeAt Go.RowKit
set_option linter.all false
set_option maxRecDepth 4000
theorem top_row (H:Type) (enc:TypeId × Value→H) (W:World) (base:Nat) (args:Array Value) (ds gs:List (DataW H)) (before:List MemPlace)
 (hval:∀(j:Nat) t v,Tryz.f4.params[j]? =some t→args[j]? =some v→Value.okWide Tryz.prog W .any base t v)
 (hW:DataW.Whole enc Tryz.prog Tryz.f4.params.toList Rows.looseFilesSpec.vars false W args.toList ds gs before)
 (hz:(DataW.weightsEach Tryz.prog (Tryz.f4.params.toList++Rows.looseFilesSpec.plain.varTypes Tryz.prog) (ds++gs)).all (·≤reachBytes)=true) (hL:laidMetH Tryz.prog QT W) (hsh:W.ShapedOpen Tryz.prog) :
 Calls Tryz.prog 4 args W fun e W'=>∃v,e=.returned v∧Rows.looseFilesSpec.post enc Tryz.prog Tryz.f4 false true false false W args v W':=by
 have hW':=hW
 obtain ⟨p,q,hA0,hV,rfl,hfz,hnd⟩:=hW
 have hA:DataW.TrodAll enc Tryz.prog W 0 (fun _=>true) true Tryz.f4.params.toList args.toList ds p:=hA0
 rw [Tryz.params4] at hA hval hz
 obtain ⟨v0,vs0,d0,ds0,p0,q0,hargs,rfl,rfl,h0,r0⟩:=trodAll_cons hA
 obtain ⟨v1,vs1,d1,ds1,p1,q1,rfl,rfl,rfl,h1,r1⟩:=trodAll_cons r0
 obtain ⟨v2,vs2,d2,ds2,p2,q2,rfl,rfl,rfl,h2,r2⟩:=trodAll_cons r1
 obtain ⟨v3,vs3,d3,ds3,p3,q3,rfl,rfl,rfl,h3,r3⟩:=trodAll_cons r2
 obtain ⟨rfl,rfl,rfl⟩:=trodAll_nil r3
 obtain rfl:args=#[v0,v1,v2,v3]:=by cases args;simp_all
 obtain ⟨rfl,rfl⟩:=trodVars_none hV
 obtain ⟨n0,rfl,rfl,rfl,w0⟩:=open_int Tryz.underlying3 (hval 0 _ v0 rfl rfl) h0
 obtain ⟨a1,l1,c1,rfl⟩:=okWide_slice Tryz.underlying22 (hval 1 _ v1 rfl rfl)
 obtain ⟨x1,e1,s1,b1,g1⟩:=zbg Tryz.underlying22 Tryz.underlying5 (by kernel_rfl) h1
 have r1:l1≤140737488351232:=zco hz (j:=1) rfl rfl Tryz.underlying22 (by kernel_rfl) g1
 obtain ⟨a2,l2,c2,rfl⟩:=okWide_slice Tryz.underlying22 (hval 2 _ v2 rfl rfl)
 obtain ⟨x2,e2,s2,b2,g2⟩:=zbg Tryz.underlying22 Tryz.underlying5 (by kernel_rfl) h2
 have r2:l2≤140737488351232:=zco hz (j:=2) rfl rfl Tryz.underlying22 (by kernel_rfl) g2
 obtain ⟨t3,rfl,rfl,rfl,w3⟩:=ChangeMaps.open_string Tryz.underlying9 (hval 3 _ v3 rfl rfl) h3
 have q3:=zn9 hz (j:=3) rfl rfl
 clear hA0
 have lt1:∀x∈p1,x.block < W.heap.size:=by obtain ⟨m,hm⟩:=h1;exact DataW.trod_lt m _ _ _ hm
 have lt2:∀x∈p2,x.block < W.heap.size:=by obtain ⟨m,hm⟩:=h2;exact DataW.trod_lt m _ _ _ hm
 have hc:Calls Tryz.prog 4 #[.int .i64 n0,.slice a1 l1 c1,.slice a2 l2 c2,.string t3] W fun e W'=>e=.returned (.bool true)∧Kept W W':=by
  refine bridge (fun {i}=>?_)
  have ht:=zpa hL hsh
  have hor:=zpP hL
  obtain ⟨t,rfl,htl⟩:=zqb t3
  rw [zeV] at q3
  subst e1 e2
  exact zdd n0 a1 c1 x1 a2 c2 x2 t _ s1 s2 (by omega) (by omega) q3 ht hor
 refine hc.mono fun e W' ⟨he,bel⟩=>?_
 subst he
 exact ⟨_,rfl,_,_,_,[],_,[],hW',trodAll_mk1 (shut_bool Tryz.underlying4 _),(trodAll_cons_mk (shut_int Tryz.underlying3 w0) (trodAll_cons_mk (Kept.trod Tryz.laidOut (by kernel_rfl) (of_decide_eq_true (by kernel_rfl)) h1 bel lt1) (trodAll_cons_mk (Kept.trod Tryz.laidOut (by kernel_rfl) (of_decide_eq_true (by kernel_rfl)) h2 bel lt2) (trodAll_cons_mk (ChangeMaps.shut_string Tryz.underlying9 w3) trodAll_mk0)))),rfl,bel.frame _,fun h=>by cases h⟩
def zik (w:World) (g:Nat) (zs:List Value):World:={ w with heap:=w.heap.modify g fun
 |.cells _ t frozen=>.cells zs.toArray t frozen
 |o=>o }
noncomputable def Qt (os:Os):World:=
 zik (zik (zik (zik (zik (zik (World.holding Tryz.prog os ⟨#[],#[],[]⟩) 4 zre) 5 zrf) 3 zrd) 2 zrg) 6 zri) 1 zrh
theorem zkr (os:Os):laidMet Tryz.prog Rows.looseFilesRow.laid ((Qt os).forCall (fun _ _=>0) ⟨#[],#[.int .i64 0,.slice none 0 0,.slice none 0 0,.string .empty],[]⟩).memory:=
 laidMet_of_run' 8 (by kernel_rfl) (by kernel_rfl)
theorem reads (os:Os) {H:Type} (enc:TypeId × Value→H):∃places,DataW.whole enc Tryz.prog ((Qt os).forCall (fun _ _=>0) ⟨#[],#[.int .i64 0,.slice none 0 0,.slice none 0 0,.string .empty],[]⟩).memory Tryz.f4.params.toList Rows.looseFilesSpec.vars false #[.int .i64 0,.slice none 0 0,.slice none 0 0,.string .empty].toList 8=some ([.lit (.int .i64 0),.nil,.nil,.lit (.string [])],[],places):=
 ⟨[],by kernel_rfl⟩
set_option maxRecDepth 100000 in
theorem top_lifted (os:Os) (started:os.Started) (H:Type) (enc:TypeId × Value→H) (F:Stop.Interp) :
 ReturnsInHanded {} Tryz.checked os 4 .any ((OpenSpec.ofChange Rows.looseFilesSpec).preRow enc Tryz.prog Tryz.f4 Rows.looseFilesRow.domain false Rows.looseFilesRow.laid) (((OpenSpec.ofChange Rows.looseFilesSpec).at F).post enc Tryz.prog Tryz.f4 false true false false):=by
 obtain ⟨places,hx⟩:=reads os enc
 refine returnsInHanded_of_row (C:=Tryz.checked) (s:=(OpenSpec.ofChange Rows.looseFilesSpec)) Tryz.own started (by kernel_rfl) Tryz.func4
  (witness_row_at (enc:=enc) (C:=Tryz.checked) false (Qt os) #[.int .i64 0,.slice none 0 0,.slice none 0 0,.string .empty] rfl (by kernel_rfl) (by kernel_rfl) (by kernel_rfl)
    (OpenSpec.preRow_of_cond 8 hx (by kernel_rfl) (fun k hk=>by cases hk) (by kernel_rfl) (zkr os))) ?_
 intro W base args ds gs before hval hW _ hcond hz hL hsh _
 exact top_row H enc W base args ds gs before hval hW hz hL hsh
end Go.Proofs.YtemdlifojcgplaaGreatDoor
