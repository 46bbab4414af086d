/- The rules of a walk under short names, with what each use would spell out again. It proves no statement by itself. No conditions. -/
import Derived.Test.YtkiaegkojlhaeaaDoorVc
namespace Go.Vx
set_option linter.all false
theorem iC [W0] {S L : List Chunk} (h : Inc S L := by exact (by repeat (first | exact Inc.refl | exact Inc.nil | refine Inc.cons (by repeat (first | exact Take.here | apply Take.there)) ?_ | refine Inc.skip ?_))) : Inc S L := h
theorem iH [W0] {S L : List Chunk} {w : World} (hw : Holds w L) (h : Inc S L := by exact (by repeat (first | exact Inc.refl | exact Inc.nil | refine Inc.cons (by repeat (first | exact Take.here | apply Take.there)) ?_ | refine Inc.skip ?_))) : Holds w S := h.holds hw
section
variable [W0] {P : Program} {n : Nat} {Q : Exit → Act → World → Prop} {M : List (Nat × Value)} {L : List Chunk} {K : List (Nat × Value) → List Chunk → Prop}
variable {d : Nat} {ty : TypeId} {ps : String} {af : Array Edge} {g : Option (Nat × Bool)} {x y : Operand} {v : Value}
theorem jA {ops : Array Oper} {rest : List Oper} {o : Oper} (h : OW P n o (WL P n ops Q rest) M L) (hg : o.guard = none := by exact rfl) : WL P n ops Q (o :: rest) M L := WL_plain hg h
theorem jB {ops : Array Oper} (h : WQ n (Q .normal) M L) : WL P n ops Q [] M L := WL_nil h
theorem jC {ops : List Oper} {rest : List Oper} {o : Oper} {j : Nat} {b : Bool} (h : OW P n o (WL P n ops.toArray Q rest) M L) (hg : o.guard = some (j, b) := by exact rfl) (hy : yl ops M j = some (.bool b) := by exact rfl) : WL P n ops.toArray Q (o :: rest) M L := WL_on hg hy h
theorem jD {ops : List Oper} {rest : List Oper} {o : Oper} {j d : Nat} {b : Bool} (h : WL P n ops.toArray Q rest ((d, undef) :: M) L) (hg : o.guard = some (j, b) := by exact rfl) (hd : o.dst = some d := by exact rfl) (hy : yl ops M j = some (.bool (!b)) := by exact rfl)
    (hn : Nat.blt d n = true := by exact rfl) : WL P n ops.toArray Q (o :: rest) M L := WL_off hg hd hy hn h
theorem jE {ops : List Oper} {rest : List Oper} {o : Oper} {j d : Nat} {b : Bool} (h : WL P n ops.toArray Q rest ((d, undef) :: M) L) (hg : o.guard = some (j, b) := by exact rfl) (hd : o.dst = some d := by exact rfl) (hy : yl ops M j = some undef := by exact rfl)
    (hn : Nat.blt d n = true := by exact rfl) : WL P n ops.toArray Q (o :: rest) M L := WL_offu hg hd hy hn h
theorem jF {ops : List Oper} {rest : List Oper} {o : Oper} {j : Nat} {b : Bool} (h : WL P n ops.toArray Q rest M L) (hg : o.guard = some (j, b) := by exact rfl) (hd : o.dst = none := by exact rfl) (hy : yl ops M j = some (.bool (!b)) := by exact rfl) :
    WL P n ops.toArray Q (o :: rest) M L := WL_off' hg hd hy h
theorem jG {ops : List Oper} {rest : List Oper} {o : Oper} {j : Nat} {b c : Bool} (ht : c = true → WL P n ops.toArray Q (o :: rest) M L) (hf : c = false → WL P n ops.toArray Q (o :: rest) M L) (hg : o.guard = some (j, b) := by exact rfl) (hy : yl ops M j = some (.bool c) := by exact rfl) :
    WL P n ops.toArray Q (o :: rest) M L := WL_split hg hy ht hf
theorem jI {t : TypeId} [hs : SZ P t 1] {b off : Nat} {l : List Value} {T : TypeId} {L' : List Chunk} (h : K M L') (hx : ev M x = some (.pointer (some ⟨b, off, none⟩)) := by exact rfl) (hy : ev M y = some v := by exact rfl) (hv : v.oneCell' = true := by exact rfl)
    (hu : Upd L b (cl l T) (cl (l.set off v) T) L' := by exact (by repeat (first | exact Upd.here | apply Upd.there))) (hlt : off < l.length := by first | (simp; done) | (simp; omega)) : OW P n ⟨none, .store t x y, ty, ps, af, g⟩ K M L := OW_store hx hy hv hu hlt h
theorem jJ {t k : Nat} [hag : AG P t k] {b off : Nat} {l vs : List Value} {T : TypeId} {L' : List Chunk} (h : K M L') (hx : ev M x = some (.pointer (some ⟨b, off, none⟩)) := by exact rfl) (hy : ev M y = some (.agg vs.toArray) := by exact rfl) (hl : vs.length = k := by exact rfl)
    (h1 : ones vs = true := by exact rfl) (hu : Upd L b (cl l T) (cl (patch l off vs) T) L' := by exact (by repeat (first | exact Upd.here | apply Upd.there))) (hfit : off + vs.length ≤ l.length := by first | (simp [Value.cells]; done) | (simp [Value.cells]; omega)) :
    OW P n ⟨none, .store t x y, ty, ps, af, g⟩ K M L := OW_storeAgg hx hy hl h1 hu hfit h
theorem jK {t : Nat} {z : Value} [hz : ZV P t z] (h : ∀ b, K ((d, .pointer (some ⟨b, 0, none⟩)) :: M) ([(b, cl z.cells.toList t)] :: L)) (hn : Nat.blt d n = true := by exact rfl) :
    OW P n ⟨some d, .alloc t, ty, ps, af, g⟩ K M L := OW_alloc hn h
theorem jL {t : Nat} (h : ∀ b, K ((d, .pointer (some ⟨b, 0, none⟩)) :: M) ([(b, cl v.cells.toList t)] :: L)) (hx : ev M x = some v := by exact rfl) (hn : Nat.blt d n = true := by exact rfl) :
    OW P n ⟨some d, .box t x, ty, ps, af, g⟩ K M L := OW_box hx hn h
theorem jM {x y : Code} (h : WC P n x (Exit.then (y.wp P Q) Q) M L) : WC P n (.seq x y) Q M L := WC_seq h
theorem jN {id : Nat} {l : List Oper} (h : WL P n l.toArray Q l M L) : WC P n (.region id l.toArray false) Q M L := WC_region h
theorem jO {c : Operand} {x y : Code} (ht : WC P n x Q M L) (hc : ev M c = some (.bool true) := by exact rfl) : WC P n (.cond c x y) Q M L := WC_true hc ht
theorem jP {c : Operand} {x y : Code} (ht : WC P n y Q M L) (hc : ev M c = some (.bool false) := by exact rfl) : WC P n (.cond c x y) Q M L := WC_false hc ht
theorem jQ {c : Operand} {x y : Code} {t : Bool} (ht : t = true → WC P n x Q M L) (hf : t = false → WC P n y Q M L) (hc : ev M c = some (.bool t) := by exact rfl) : WC P n (.cond c x y) Q M L := WC_cond hc ht hf
theorem jR (h : WQ n (Q .normal) M L) : WC P n .skip Q M L := WC_skip h
theorem jS (h : WQ n (Q .ret) M L) : WC P n .ret Q M L := WC_ret h
theorem jT {id : Nat} (h : WQ n (Q (.exit id)) M L) : WC P n (.exit id) Q M L := WC_exit h
theorem jU {id : Nat} {c : Code} (h : WC P n c (Exit.inBlock id Q) M L) : WC P n (.block id c) Q M L := WC_block h
theorem jV {K : Act → World → Prop} (h : WQ n K M L) : WQ n (Exit.then K Q .normal) M L := WQ_then_normal h
theorem jW {c : Code} (h : WC P n c Q M L) : WQ n (c.wp P Q) M L := WQ_code h
theorem jX {K : Act → World → Prop} (h : WQ n (Q .ret) M L) : WQ n (Exit.then K Q .ret) M L := WQ_then_ret h
theorem jY {i : Nat} (h : WQ n (Q .ret) M L) : WQ n (Exit.inBlock i Q .ret) M L := WQ_block_ret h
theorem jZ {K : Act → World → Prop} {id : Nat} (h : WQ n (Q (.exit id)) M L) : WQ n (Exit.then K Q (.exit id)) M L := WQ_then_exit h
theorem kA {i : Nat} (h : WQ n (Q .normal) M L) : WQ n (Exit.inBlock i Q (.exit i)) M L := WQ_block_hit h
theorem kB {i j : Nat} (h : WQ n (Q (.exit j)) M L) (hne : Nat.beq j i = false := by with_unfolding_all exact rfl) : WQ n (Exit.inBlock i Q (.exit j)) M L := WQ_block_miss hne h
theorem kC {i : Nat} (h : WQ n (Q .normal) M L) : WQ n (Exit.inBlock i Q .normal) M L := WQ_block_normal h
end
end Go.Vx
