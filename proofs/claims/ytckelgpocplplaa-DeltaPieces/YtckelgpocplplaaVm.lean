/- The rules of a walk under short names, with what each use would spell out again. It proves no statement by itself. No conditions. -/
import Derived.Test.YtckelgpocplplaaVc
namespace Go.Vx
set_option linter.all false
theorem iC [W0] {S L : List Chunk} (h : Inc S L := by exact (by repeat (first | exact Inc.refl | exact Inc.nil | (show Inc (_ :: _) _; refine Inc.cons (by repeat (first | exact Take.here | apply Take.there)) ?_) | refine Inc.skip ?_))) : Inc S L := h
theorem iS [W0] {M M2 : List (Nat × Value)} (h : Sub M M2 := by exact (by repeat (first | exact Sub.nil | refine Sub.cons rfl ?_ | refine Sub.cons (lk_int rfl (by first | omega | (dsimp only; omega))) ?_))) : Sub M M2 := h
theorem iH [W0] {S L : List Chunk} {w : World} (hw : Holds w L) (h : Inc S L := by exact (by repeat (first | exact Inc.refl | exact Inc.nil | (show Inc (_ :: _) _; refine Inc.cons (by repeat (first | exact Take.here | apply Take.there)) ?_) | refine Inc.skip ?_))) : Holds w S := h.holds hw
section
variable [W0] {P : Program} {n : Nat} {Q : Exit → Act → World → Prop} {M : List (Nat × Value)} {L : List Chunk} {K : List (Nat × Value) → List Chunk → Prop}
variable {d : Nat} {ty : TypeId} {ps : String} {af : Array Edge} {g : Option (Nat × Bool)} {x y : Operand} {v : Value}
theorem jA {ops : Array Oper} {rest : List Oper} {o : Oper} (h : OW P n o (WL P n ops Q rest) M L) (hg : o.guard = none := by exact rfl) : WL P n ops Q (o :: rest) M L := WL_plain hg h
theorem jB {ops : Array Oper} (h : WQ n (Q .normal) M L) : WL P n ops Q [] M L := WL_nil h
theorem jC {ops : List Oper} {rest : List Oper} {o : Oper} {j : Nat} {b : Bool} (h : OW P n o (WL P n ops.toArray Q rest) M L) (hg : o.guard = some (j, b) := by exact rfl) (hy : yl ops M j = some (.bool b) := by exact rfl) : WL P n ops.toArray Q (o :: rest) M L := WL_on hg hy h
theorem jD {ops : List Oper} {rest : List Oper} {o : Oper} {j d : Nat} {b : Bool} (h : WL P n ops.toArray Q rest ((d, undef) :: M) L) (hg : o.guard = some (j, b) := by exact rfl) (hd : o.dst = some d := by exact rfl) (hy : yl ops M j = some (.bool (!b)) := by exact rfl)
    (hn : Nat.blt d n = true := by exact rfl) : WL P n ops.toArray Q (o :: rest) M L := WL_off hg hd hy hn h
theorem jE {ops : List Oper} {rest : List Oper} {o : Oper} {j d : Nat} {b : Bool} (h : WL P n ops.toArray Q rest ((d, undef) :: M) L) (hg : o.guard = some (j, b) := by exact rfl) (hd : o.dst = some d := by exact rfl) (hy : yl ops M j = some undef := by exact rfl)
    (hn : Nat.blt d n = true := by exact rfl) : WL P n ops.toArray Q (o :: rest) M L := WL_offu hg hd hy hn h
theorem jF {ops : List Oper} {rest : List Oper} {o : Oper} {j : Nat} {b : Bool} (h : WL P n ops.toArray Q rest M L) (hg : o.guard = some (j, b) := by exact rfl) (hd : o.dst = none := by exact rfl) (hy : yl ops M j = some (.bool (!b)) := by exact rfl) :
    WL P n ops.toArray Q (o :: rest) M L := WL_off' hg hd hy h
theorem jG {ops : List Oper} {rest : List Oper} {o : Oper} {j : Nat} {b c : Bool} (ht : c = true → WL P n ops.toArray Q (o :: rest) M L) (hf : c = false → WL P n ops.toArray Q (o :: rest) M L) (hg : o.guard = some (j, b) := by exact rfl) (hy : yl ops M j = some (.bool c) := by exact rfl) :
    WL P n ops.toArray Q (o :: rest) M L := WL_split hg hy ht hf
theorem jI {t : TypeId} [hs : SZ P t 1] {b off : Nat} {l : List Value} {T : TypeId} {L' : List Chunk} (h : K M L') (hx : ev M x = some (.pointer (some ⟨b, off, none⟩)) := by exact rfl) (hy : ev M y = some v := by exact rfl) (hv : v.oneCell' = true := by exact rfl)
    (hu : Upd L b (cl l T) (cl (l.set off v) T) L' := by exact (by repeat (first | exact Upd.here | apply Upd.there))) (hlt : off < l.length := by first | (simp; done) | (simp; omega)) : OW P n ⟨none, .store t x y, ty, ps, af, g⟩ K M L := OW_store hx hy hv hu hlt h
theorem jJ {t k : Nat} [hag : AG P t k] {b off : Nat} {l vs : List Value} {T : TypeId} {L' : List Chunk} (h : K M L') (hx : ev M x = some (.pointer (some ⟨b, off, none⟩)) := by exact rfl) (hy : ev M y = some (.agg vs.toArray) := by exact rfl) (hl : vs.length = k := by exact rfl)
    (h1 : ones vs = true := by exact rfl) (hu : Upd L b (cl l T) (cl (patch l off vs) T) L' := by exact (by repeat (first | exact Upd.here | apply Upd.there))) (hfit : off + vs.length ≤ l.length := by first | (simp [Value.cells]; done) | (simp [Value.cells]; omega)) :
    OW P n ⟨none, .store t x y, ty, ps, af, g⟩ K M L := OW_storeAgg hx hy hl h1 hu hfit h
theorem jK {t : Nat} {z : Value} [hz : ZV P t z] (h : ∀ b, K ((d, .pointer (some ⟨b, 0, none⟩)) :: M) ([(b, cl z.cells.toList t)] :: L)) (hn : Nat.blt d n = true := by exact rfl) :
    OW P n ⟨some d, .alloc t, ty, ps, af, g⟩ K M L := OW_alloc hn h
theorem jL {t : Nat} (h : ∀ b, K ((d, .pointer (some ⟨b, 0, none⟩)) :: M) ([(b, cl v.cells.toList t)] :: L)) (hx : ev M x = some v := by exact rfl) (hn : Nat.blt d n = true := by exact rfl) :
    OW P n ⟨some d, .box t x, ty, ps, af, g⟩ K M L := OW_box hx hn h
theorem jM {x y : Code} (h : WC P n x (Exit.then (y.wp P Q) Q) M L) : WC P n (.seq x y) Q M L := WC_seq h
theorem jN {id : Nat} {l : List Oper} (h : WL P n l.toArray Q l M L) : WC P n (.region id l.toArray false) Q M L := WC_region h
theorem jO {c : Operand} {x y : Code} (ht : WC P n x Q M L) (hc : ev M c = some (.bool true) := by exact rfl) : WC P n (.cond c x y) Q M L := WC_true hc ht
theorem jP {c : Operand} {x y : Code} (ht : WC P n y Q M L) (hc : ev M c = some (.bool false) := by exact rfl) : WC P n (.cond c x y) Q M L := WC_false hc ht
theorem jQ {c : Operand} {x y : Code} {t : Bool} (ht : t = true → WC P n x Q M L) (hf : t = false → WC P n y Q M L) (hc : ev M c = some (.bool t) := by exact rfl) : WC P n (.cond c x y) Q M L := WC_cond hc ht hf
theorem jR (h : WQ n (Q .normal) M L) : WC P n .skip Q M L := WC_skip h
theorem jS (h : WQ n (Q .ret) M L) : WC P n .ret Q M L := WC_ret h
theorem jT {id : Nat} (h : WQ n (Q (.exit id)) M L) : WC P n (.exit id) Q M L := WC_exit h
theorem jU {id : Nat} {c : Code} (h : WC P n c (Exit.inBlock id Q) M L) : WC P n (.block id c) Q M L := WC_block h
theorem jV {K : Act → World → Prop} (h : WQ n K M L) : WQ n (Exit.then K Q .normal) M L := WQ_then_normal h
theorem jW {c : Code} (h : WC P n c Q M L) : WQ n (c.wp P Q) M L := WQ_code h
theorem jX {K : Act → World → Prop} (h : WQ n (Q .ret) M L) : WQ n (Exit.then K Q .ret) M L := WQ_then_ret h
theorem jY {i : Nat} (h : WQ n (Q .ret) M L) : WQ n (Exit.inBlock i Q .ret) M L := WQ_block_ret h
theorem jZ {K : Act → World → Prop} {id : Nat} (h : WQ n (Q (.exit id)) M L) : WQ n (Exit.then K Q (.exit id)) M L := WQ_then_exit h
theorem kA {i : Nat} (h : WQ n (Q .normal) M L) : WQ n (Exit.inBlock i Q (.exit i)) M L := WQ_block_hit h
theorem kB {i j : Nat} (h : WQ n (Q (.exit j)) M L) (hne : Nat.beq j i = false := by with_unfolding_all exact rfl) : WQ n (Exit.inBlock i Q (.exit j)) M L := WQ_block_miss hne h
theorem kC {i : Nat} (h : WQ n (Q .normal) M L) : WQ n (Exit.inBlock i Q .normal) M L := WQ_block_normal h
structure Wr (q : Prop) : Prop where out : q
theorem kW {p q : Prop} (h : q) (s : Wr q → p := by (intro h9; (first | (show WL _ _ _ _ _ _ _; first | refine jA ?_ | refine jB ?_ | refine jC ?_ | refine jD ?_ | refine jE ?_ | refine jF ?_) | (show OW _ _ _ _ _ _; first | refine OW_E ?_ | refine jI ?_ | refine jJ ?_) | (show WC _ _ _ _ _ _; first | refine jM ?_ | refine jN ?_ | refine jO ?_ | refine jP ?_ | refine jR ?_ | refine jS ?_ | refine jT ?_ | refine jU ?_) | (show WQ _ _ _ _; with_reducible first | refine jV ?_ | refine jW ?_ | refine jX ?_ | refine jY ?_ | refine jZ ?_ | refine kA ?_ | refine kB ?_ | refine kC ?_)); (repeat (first | (show WL _ _ _ _ _ _ _; first | refine jA ?_ | refine jB ?_ | refine jC ?_ | refine jD ?_ | refine jE ?_ | refine jF ?_) | (show OW _ _ _ _ _ _; first | refine OW_E ?_ | refine jI ?_ | refine jJ ?_) | (show WC _ _ _ _ _ _; first | refine jM ?_ | refine jN ?_ | refine jO ?_ | refine jP ?_ | refine jR ?_ | refine jS ?_ | refine jT ?_ | refine jU ?_) | (show WQ _ _ _ _; with_reducible first | refine jV ?_ | refine jW ?_ | refine jX ?_ | refine jY ?_ | refine jZ ?_ | refine kA ?_ | refine kB ?_ | refine kC ?_))); exact h9.out)) : p := s ⟨h⟩
theorem kY {p q : Prop} (h : q) (s : Wr q → p := by (intro h9; (first | (show WL _ _ _ _ _ _ _; first | refine jA ?_ | refine jB ?_ | refine jC ?_ | refine jD ?_ | refine jE ?_ | refine jF ?_) | (show OW _ _ _ _ _ _; first | refine OW_E ?_ | refine jI ?_ | refine jJ ?_) | (show WC _ _ _ _ _ _; first | refine jN ?_ | refine jO ?_ | refine jP ?_ | refine jR ?_ | refine jS ?_ | refine jT ?_ | refine jU ?_) | (show WQ _ _ _ _; with_reducible first | refine jV ?_ | refine jW ?_ | refine jX ?_ | refine jY ?_ | refine jZ ?_ | refine kA ?_ | refine kB ?_ | refine kC ?_)); (repeat (first | (show WL _ _ _ _ _ _ _; first | refine jA ?_ | refine jB ?_ | refine jC ?_ | refine jD ?_ | refine jE ?_ | refine jF ?_) | (show OW _ _ _ _ _ _; first | refine OW_E ?_ | refine jI ?_ | refine jJ ?_) | (show WC _ _ _ _ _ _; first | refine jN ?_ | refine jO ?_ | refine jP ?_ | refine jR ?_ | refine jS ?_ | refine jT ?_ | refine jU ?_) | (show WQ _ _ _ _; with_reducible first | refine jV ?_ | refine jW ?_ | refine jX ?_ | refine jY ?_ | refine jZ ?_ | refine kA ?_ | refine kB ?_ | refine kC ?_))); exact h9.out)) : p := s ⟨h⟩
/-- A condition that holds, one that does not, and one that may do either. -/
theorem kT {c : Operand} {x y : Code} {t : Bool} {p : Prop} (ht : p → WC P n x Q M L) (hc : ev M c = some (.bool t) := by exact rfl) (hn : t = false → False := by (intro hc; (try simp only [nrB] at hc); first | omega | exact hc trivial | exact hc rfl)) (hp : t = true → p := by (intro hc; (try simp only [nrB] at hc); exact hc)) : WC P n (.cond c x y) Q M L :=
  WC_cond hc (fun h => ht (hp h)) (fun h => (hn h).elim)
theorem kF {c : Operand} {x y : Code} {t : Bool} {p : Prop} (hf : p → WC P n y Q M L) (hc : ev M c = some (.bool t) := by exact rfl) (hn : t = true → False := by (intro hc; (try simp only [nrB] at hc); first | omega | exact hc trivial | exact hc rfl)) (hp : t = false → p := by (intro hc; (try simp only [nrB] at hc); exact hc)) : WC P n (.cond c x y) Q M L :=
  WC_cond hc (fun h => (hn h).elim) (fun h => hf (hp h))
theorem kQ {c : Operand} {x y : Code} {t : Bool} {p q : Prop} (ht : p → WC P n x Q M L) (hf : q → WC P n y Q M L) (hc : ev M c = some (.bool t) := by exact rfl) (hp : t = true → p := by (intro hc; (try simp only [nrB] at hc); exact hc)) (hq : t = false → q := by (intro hc; (try simp only [nrB] at hc); exact hc)) : WC P n (.cond c x y) Q M L :=
  WC_cond hc (fun h => ht (hp h)) (fun h => hf (hq h))
/-- A cell is made; one way of a fork alone can be gone, or both. -/
theorem kU {A : Nat → Prop} {g : Prop} (h : ∀ b, A b) (s : Wr (∀ b, A b) → g := by (intro h9; (show OW _ _ _ _ _ _); first | exact jK h9.out | exact jL h9.out)) : g := s ⟨h⟩
theorem kV {p A g : Prop} (h : p → A) (s : Wr (p → A) → g := by (intro h9; first | ((show WC _ _ _ _ _ _); first | exact kT h9.out | exact kF h9.out) | ((show WL _ _ _ _ _ _ _); first | (refine jG (fun hc => ?_) (fun hc => ?_); (focus (rw [hc]; have h8 := hc; (try simp only [nrB] at h8); exact h9.out h8)); (exfalso; (try simp only [nrB] at hc); first | done | omega)) | (refine jG (fun hc => ?_) (fun hc => ?_); rotate_left; (focus (rw [hc]; have h8 := hc; (try simp only [nrB] at h8); exact h9.out h8)); (exfalso; (try simp only [nrB] at hc); first | done | omega))))) : g := s ⟨h⟩
theorem kZ {p q A B g : Prop} (ht : p → A) (hf : q → B) (s : Wr ((p → A) ∧ (q → B)) → g := by (intro h9; first | ((show WC _ _ _ _ _ _); exact kQ h9.out.1 h9.out.2) | ((show WL _ _ _ _ _ _ _); (refine jG (fun hc => ?_) (fun hc => ?_); (focus (rw [hc]; have h8 := hc; (try simp only [nrB] at h8); exact h9.out.1 h8)); (rw [hc]; have h8 := hc; (try simp only [nrB] at h8); exact h9.out.2 h8))))) : g := s ⟨ht, hf⟩
theorem iP {R : Exit → Act → World → Prop} (h : PO R := by exact (by repeat (first | with_reducible exact PO.body | with_reducible exact RP_po | with_reducible refine PO.then ?_ | with_reducible refine PO.block ?_))) : PO R := h
theorem iU {L' : List Chunk} {b : Nat} {o o' : Obj} (h : Upd L b o o' L' := by exact (by repeat (first | exact Upd.here | apply Upd.there))) : Upd L b o o' L' := h
theorem kR {q g : Prop} (h : q) (s : Wr q → g := by (intro h9; first | exact WQ_retI rfl rfl h9.out | exact WQ_endI rfl rfl h9.out)) : g := s ⟨h⟩
theorem kE {g : Prop} (s : g := by (first | refine WQ_retI rfl rfl ?_ | refine WQ_endI rfl rfl ?_); exact ⟨_, (by repeat (first | exact Inc.refl | exact Inc.nil | (show Inc (_ :: _) _; refine Inc.cons (by repeat (first | exact Take.here | apply Take.there)) ?_) | refine Inc.skip ?_)), rfl, rfl⟩) : g := s
end
end Go.Vx
