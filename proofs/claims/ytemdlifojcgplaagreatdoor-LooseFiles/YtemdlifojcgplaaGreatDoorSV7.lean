/- Contracts and facts on the way to the top. It proves no statement by itself. No conditions. -/
import Derived.Test.YtemdlifojcgplaaGreatDoorSV6
set_option maxHeartbeats 16000000
namespace Go.Proofs.YtemdlifojcgplaaGreatDoor
open Go Go.Vx Go.ChangeShapes Go.WideShapes Go.ChangeAt Go.RowKit Go.Lib
set_option maxRecDepth 100000
set_option linter.all false
def QT:List (String × DataW Unit):=[("math/bits.deBruijn32tab",Rows.laid_math_bits_deBruijn32tab),("math/bits.deBruijn64tab",Rows.laid_math_bits_deBruijn64tab),("internal/strconv.uint64pow10",Rows.laid_internal_strconv_uint64pow10),("unicode/utf8.acceptRanges",Rows.laid_unicode_utf8_acceptRanges),("stemma/symbols.order",Rows.laid_stemma_symbols_order),("unicode/utf8.first",Rows.laid_unicode_utf8_first)]
def nums (k:IntKind):List (DataW Unit)→List Value
 |[]=>[]
 |.lit (.int _ z)::r=>.int k z::nums k r
 |.agg [.lit (.int _ z),.lit (.int _ y)]::r=>.int k z::.int k y::nums k r
 |_::r=>nums k r
def parts:DataW Unit→List (DataW Unit)
 |.agg l=>l
 |_=>[]
def zre:List Value:=nums .u8 (parts Rows.laid_math_bits_deBruijn32tab)
def zrf:List Value:=nums .u8 (parts Rows.laid_math_bits_deBruijn64tab)
def zrd:List Value:=nums .u64 (parts Rows.laid_internal_strconv_uint64pow10)
def zrg:List Value:=nums .u8 (parts Rows.laid_unicode_utf8_acceptRanges)
def zri:List Value:=nums .i64 (parts Rows.laid_stemma_symbols_order)
def zrh:List Value:=nums .u8 (parts Rows.laid_unicode_utf8_first)
def znD:List Int:=[16,17,18,0,8,7,9,6,10,5,11,4,12,3,13,2,14,1,15]
theorem znE {i:Nat} (h:i < 19):znD.getD i 0=((Go.If.yY.getD i 0:Nat):Int):=by
 have:∀i:Fin 19,znD.getD i.val 0=((Go.If.yY.getD i.val 0:Nat):Int):=by decide
 exact this ⟨i,h⟩
theorem pow_eq:Rows.laid_internal_strconv_uint64pow10 (H:=Unit)=tabData .u64 pow10Tab:=by kernel_rfl
theorem zpQ:Rows.laid_stemma_symbols_order (H:=Unit)=tabData .i64 znD:=by kernel_rfl
theorem zch {W:World} (h:laidMetH Tryz.prog QT W):laidMet Tryz.prog QT W:=by
 have e:QT.filter (fun x=>x.2.handleName?.isSome)=[]:=by kernel_rfl
 unfold laidMetH at h
 rw [e] at h
 exact h
theorem zpP {W:World} (hL:laidMetH Tryz.prog QT W):qQ [blks W]:=by
 letI:W0:=⟨W.os,W.output⟩
 obtain ⟨ps,hv,_⟩:=zch hL
 have r5:=LaidVars_reads hv "stemma/symbols.order" Rows.laid_stemma_symbols_order (by simp [QT])
 rw [zpQ] at r5
 have hg:Tryz.prog.globalNamed "stemma/symbols.order"=some 6:=by kernel_rfl
 have ht:TabIs Tryz.prog W "stemma/symbols.order" .i64 znD:=by
  obtain ⟨g',t',cs,fuel,p,hg',ht',hvar,hd⟩:=r5
  obtain rfl:=Option.some.inj (hg.symm.trans hg')
  obtain rfl:=Option.some.inj ((show (Tryz.prog.globals[6]?).map (·.type)=some 367 by kernel_rfl).symm.trans ht')
  unfold TabIs
  rw [hvar,←cells_of_tab Tryz.underlying367 Tryz.underlying3 (by kernel_rfl) (by kernel_rfl) hd]
 have hc0:=ht.cell hg 0 (by decide)
 have hblk:∃C T fr,W.heap[6]? =some (.cells C T fr):=by
  unfold World.cell? at hc0
  split at hc0
  ·rename_i C T fr hb;exact ⟨C,T,fr,hb⟩
  ·cases hc0
 obtain ⟨C,T,fr,hb⟩:=hblk
 refine ⟨C,T,fr,by simpa [Fnd] using Yo.2 hb,fun i hi=>?_⟩
 have:=ht.cell hg i hi
 rw [cell_of hb] at this
 rw [this,znE hi]
theorem zpa {W:World} (hL:laidMetH Tryz.prog QT W) (hsh:W.ShapedOpen Tryz.prog) [W0]:wP [blks W]:=by
 obtain ⟨ps,hv,_⟩:=zch hL
 have r5:=LaidVars_reads hv "internal/strconv.uint64pow10" Rows.laid_internal_strconv_uint64pow10 (by simp [QT])
 rw [pow_eq] at r5
 have hmx:∃m,W.cell? ⟨0,0,none⟩=some (.int .i64 m):=
  cell_of_shapedOpen_int (t:=3) (zero:=#[.int .i64 0]) hsh (of_decide_eq_true (by kernel_rfl)) (by kernel_rfl) (by kernel_rfl) (by kernel_rfl) (by kernel_rfl) Tryz.underlying3
 have hpw:TabIs Tryz.prog W "internal/strconv.uint64pow10" .u64 pow10Tab:=by
  obtain ⟨g',t',cs,fuel,p,hg',ht',hvar,hd⟩:=r5
  obtain rfl:=Option.some.inj ((show Tryz.prog.globalNamed "internal/strconv.uint64pow10"=some 3 by kernel_rfl).symm.trans hg')
  obtain rfl:=Option.some.inj ((show (Tryz.prog.globals[3]?).map (·.type)=some 291 by kernel_rfl).symm.trans ht')
  unfold TabIs
  rw [hvar,←cells_of_tab Tryz.underlying291 Tryz.underlying86 (by kernel_rfl) (by kernel_rfl) hd]
 have hkeep:∀w,Vx.Holds w [blks W]→∀k,k < W.heap.size→w.heap[k]? =W.heap[k]? :=fun w hw k hk=>by
  have hm:W.heap[k]? =some W.heap[k]:=by simp [hk]
  rw [hm]
  exact hw.2.1 (k,W.heap[k]) (by simpa using Yo.2 hm)
 have hlt:∀{a:Addr} {v:Value},W.cell? a=some v→a.block < W.heap.size:=fun {a} {v} h=>by
  rcases Nat.lt_or_ge a.block W.heap.size with h'|h'
  ·exact h'
  ·have:W.heap[a.block]? =none:=by simp;omega
   simp [World.cell?,this] at h
 have hcell:∀w,Vx.Holds w [blks W]→∀{a:Addr} {v:Value},W.cell? a=some v→w.cell? a=some v:=fun w hw {a} {v} h=>by
  have hb:=hkeep w hw a.block (hlt h)
  rw [←h]
  unfold World.cell?
  rw [hb]
 refine ⟨fun w hw=>trivial,hmx.imp fun m hm w hw=>hcell w hw hm,fun w hw=>?_⟩
 have h0:=hpw.cell (g:=3) (by kernel_rfl) 0 (by decide)
 have hb:=hkeep w hw _ (hlt h0)
 unfold TabIs World.var? at hpw ⊢
 rw [show Tryz.prog.globalNamed "internal/strconv.uint64pow10"=some 3 from by kernel_rfl] at hpw ⊢
 simp only [Option.bind_some] at hpw ⊢
 rw [hb]
 exact hpw
theorem zn9 {H:Type} {ts:List TypeId} {ds:List (DataW H)} (h:(DataW.weightsEach Tryz.prog ts ds).all (·≤reachBytes)=true) {j:Nat} {t:TypeId} {b:List UInt8} (ht:ts[j]? =some t) (hd:ds[j]? =some (.lit (.string b))):b.length≤140737488351232:=sized_string h ht hd
end Go.Proofs.YtemdlifojcgplaaGreatDoor
