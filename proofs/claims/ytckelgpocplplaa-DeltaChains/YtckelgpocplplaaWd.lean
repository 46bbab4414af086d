/- The layer's bytes and integers of one's own and of others, read, cut and set; two chunks at once. It proves no statement by itself. No conditions. -/
import Derived.Test.YtckelgpocplplaaBa
namespace Go.Vx
open Go
set_option linter.all false
variable [W0]
/-- A byte of one's own, read. -/
theorem ow_byte {e m : Nat} {v : Value} {xs : List UInt8} {C : Chunk} (h : Ow e 1 v m (bsv xs) C) {k : Nat} (hk : k < m) :
    ∃ b cap rest, v = .slice (some ⟨b, 0, none⟩) m cap ∧ C = [(b, cl (bsv xs ++ rest) e)] ∧ (bsv xs ++ rest).toArray[k * 1]? = some (.int .u8 ((xs.getD k 0).toNat : Int)) := by
  rcases h with ⟨rfl, rfl, _⟩ | ⟨b, cap, rest, rfl, rfl, hxl, hrl, hmc, hcm⟩
  · omega
  · refine ⟨b, cap, rest, rfl, rfl, ?_⟩
    have hlt : k < xs.length := by rw [bsv_length] at hxl; omega
    rw [Nat.mul_one]
    simpa using getE_app (r := rest) (bsv_get (l := xs) (i := k) (b := xs.getD k 0) (by simp [List.getD, hlt]))
/-- A piece of a slice of one's own. -/
theorem EV_sliceOw {P : Program} {T e by_ : Nat} [hs : SL P T e 1 by_] {v : Value} {m : Nat} {xs : List UInt8} {C : Chunk} (hO : Ow e 1 v m (bsv xs) C) {l h : Nat} (h1 : l ≤ h) (h2 : h ≤ m) :
    ∃ r, (∀ L : List Chunk, Sl (C :: L) 1 r (h - l) (bsv ((xs.drop l).take (h - l)))) ∧ ∀ {n : Nat} {M : List (Nat × Value)} {L : List Chunk} {d : Nat} {ty : TypeId} {ps : String} {af : Array Edge} {g : Option (Nat × Bool)} {x : Operand} {lo hi : Option Operand},
      ev M x = some v → bnd M lo 0 = some (l : Int) → bnd M hi m = some (h : Int) → EV P n ⟨some d, .slice T x lo hi none, ty, ps, af, g⟩ M L d r := by
  rcases hO with ⟨rfl, rfl, hx, rfl⟩ | ⟨b, cap, rest, rfl, rfl, hxl, hrl, hmc, hcm⟩
  · obtain rfl : h = 0 := by omega
    obtain rfl : l = 0 := by omega
    exact ⟨.slice none 0 0, fun L => .inl ⟨_, rfl, rfl, by simp [bsv]⟩, fun hx hl hh => EV_sliceNil hx hl hh⟩
  · refine ⟨_, fun L => .inr ⟨_, _, rfl, ?_, ?_⟩, fun hx hl hh => EV_sliceSl hx hl hh h1 (by omega)⟩
    · rcases Nat.eq_or_lt_of_le h1 with h0 | h0
      · subst h0
        exact .inl (by simp [bsv])
      · refine .inr ⟨b, _, _, _, _, rfl, Fnd.here, fun j u hj => ?_⟩
        rw [if_neg (by omega), Nat.mul_one, Nat.zero_add]
        have hj2 : (bsv xs)[l + j]? = some u := by
          rw [← hj]
          have hjl : j < h - l := by
            rcases Nat.lt_or_ge j (h - l) with h' | h'
            · exact h'
            · rw [List.getElem?_eq_none (by simp [bsv_length]; omega)] at hj; simp at hj
          simp [bsv, List.getElem?_take, hjl]
        simpa using getE_app (r := rest) hj2
    · rw [bsv_length] at hxl ⊢
      simp; omega
theorem Gv.take2 {P : Program} {L : List Chunk} {f : FuncId} {args : Array Value} {post : Value → List Chunk → Prop} {L1 R : List Chunk} {C D : Chunk} (h : Gv P f args (C :: D :: R) post) (h1 : Take C L L1) (h2 : Take D L1 R) : Gv P f args L post :=
  h.holds fun _ hw => (hw.take h1).perm ((h2.perm).cons C)
theorem Holds.gap {w : World} {D : Chunk} {L : List Chunk} : Holds w (D :: [] :: L) ↔ Holds w (D :: L) := by simp [Holds]
theorem Holds.gap2 {w : World} {A B : Chunk} {L : List Chunk} : Holds w (A :: [] :: B :: [] :: L) ↔ Holds w (A :: B :: L) := by simp [Holds]
omit [W0] in
theorem dec_eq {α : Type} [DecidableEq α] (a : α) : decide (a = a) = true := by simp
theorem shuf {w : World} {A B C : Chunk} {L : List Chunk} : Holds w (A :: B :: C :: L) ↔ Holds w (B :: C :: A :: L) :=
  ⟨fun h => h.perm (by exact ((List.Perm.swap B A (C :: L))).trans ((List.Perm.swap C A L).cons B)), fun h => h.perm (by exact (((List.Perm.swap C A L).cons B).symm).trans (List.Perm.swap B A (C :: L)).symm)⟩
section
variable {P : Program} {n : Nat} {M : List (Nat × Value)} {L : List Chunk} {d : Nat} {ty : TypeId} {ps : String} {af : Array Edge} {g : Option (Nat × Bool)} {x y z : Operand}
theorem EV_min3 {t u s : TypeId} {k : IntKind} {i j l : Int} (hx : ev M x = some (.int k i)) (hy : ev M y = some (.int k j)) (hz : ev M z = some (.int k l))
    : EV P n ⟨some d, .call ⟨.builtin .min, #[x, y, z], #[t, u, s]⟩, ty, ps, af, g⟩ M L d (.int k (min (min i j) l)) :=
  ⟨rfl, fun a w ha _ => by
    have e : ∀ p q : Int, (if q < p then q else p) = min p q := fun p q => by rw [Int.min_def]; split <;> split <;> omega
    simp [execOp, resolve, invoke, builtin, ha.eval hx, ha.eval hy, ha.eval hz, Builtin.min_, Builtin.min2, e]⟩
end
theorem sl_at {L : List Chunk} {v : Value} {m : Nat} {xs : List Value} (h : Sl L 1 v m xs) {k : Nat} {u : Value} (hk : xs[k]? = some u) :
    ∃ b off cap c T fr, v = .slice (some ⟨b, off, none⟩) m cap ∧ Fnd L b (.cells c T fr) ∧ c[off + k * 1]? = some u := by
  rcases h with ⟨c, rfl, rfl, rfl⟩ | ⟨a, cap, rfl, hr, hl⟩
  · simp at hk
  · rcases hr with h0 | ⟨b, off, c, T, fr, rfl, h1, h2⟩
    · subst h0; simp at hk
    · exact ⟨b, off, cap, c, T, fr, rfl, h1, by rw [Nat.mul_one]; exact h2 _ _ hk⟩
/-- A byte of one's own, set. -/
theorem ow_put {e m : Nat} {v : Value} {xs : List UInt8} {C : Chunk} (h : Ow e 1 v m (bsv xs) C) {k : Nat} (hk : k < m) :
    ∃ b cap rest, v = .slice (some ⟨b, 0, none⟩) m cap ∧ C = [(b, cl (bsv xs ++ rest) e)] ∧ (bsv xs ++ rest).toArray[k * 1]? = some (.int .u8 ((xs.getD k 0).toNat : Int)) ∧ k * 1 < (bsv xs ++ rest).length ∧
      ∀ y : UInt8, Ow e 1 v m (bsv (xs.set k y)) [(b, cl ((bsv xs ++ rest).set (k * 1) (.int .u8 (y.toNat : Int))) e)] := by
  rcases h with ⟨rfl, rfl, _⟩ | ⟨b, cap, rest, rfl, rfl, hxl, hrl, hmc, hcm⟩
  · omega
  · have hlt : k < xs.length := by rw [bsv_length] at hxl; omega
    refine ⟨b, cap, rest, rfl, rfl, ?_, ?_, fun y => ?_⟩
    · rw [Nat.mul_one]
      simpa using getE_app (r := rest) (bsv_get (l := xs) (i := k) (b := xs.getD k 0) (by simp [List.getD, hlt]))
    · simp [bsv_length]; omega
    · refine .inr ⟨b, cap, rest, rfl, ?_, by simpa [bsv_length] using hxl, hrl, hmc, hcm⟩
      have e : (bsv xs ++ rest).set (k * 1) (.int .u8 (y.toNat : Int)) = bsv (xs.set k y) ++ rest := by
        rw [Nat.mul_one, List.set_append_left _ _ (by simpa [bsv_length] using hlt)]
        congr 1
        simp [bsv, List.map_set]
      rw [e]

/-- A guarded operation whose guard was left out itself. -/
theorem WR_takeOffu {P : Program} {n : Nat} {Q : Exit → Act → World → Prop} {M : List (Nat × Value)} {L S : List Chunk} {ops : List Oper} {T : List Nat} {fuel : Nat} {listed : Array Bool} (i : Nat) {d j : Nat} {b : Bool} {o : Oper} (hi : ops[i]? = some o) (hg : o.guard = some (j, b)) (hy : yl ops M j = some undef) (hd : o.dst = some d) (hb : takeB ops T listed i = true) (hPO : PO Q) (hinc : Inc S L) (hn : Nat.blt d n = true)
    (h : WR P n ops Q S T fuel (listed.setIfInBounds i true) ((d, undef) :: M) L) : WR P n ops Q S T (fuel + 1) listed M L :=
  WR_first hi hd hb hPO hinc hn (fun a ha => .inr ⟨by simp [Region.wanted, hg, yielded_of ha hy, undef], rfl⟩) h
theorem WR_x {P : Program} {n : Nat} {Q : Exit → Act → World → Prop} {M : List (Nat × Value)} {L S : List Chunk} {ops : List Oper} {T : List Nat} {fuel : Nat} {listed : Array Bool} (i : Nat) {d j : Nat} {b : Bool} {o : Oper} (h : WR P n ops Q S T fuel (listed.setIfInBounds i true) ((d, undef) :: M) L)
    (hi : ops[i]? = some o := by exact rfl) (hg : o.guard = some (j, b) := by exact rfl) (hy : yl ops M j = some undef := by exact rfl) (hd : o.dst = some d := by exact rfl) (hb : takeB ops T listed i = true := by kernel_rfl) (hPO : PO Q := by exact iP) (hinc : Inc S L := by exact iC) (hn : Nat.blt d n = true := by exact rfl) :
    WR P n ops Q S T (fuel + 1) listed M L := WR_takeOffu i hi hg hy hd hb hPO hinc hn h
end Go.Vx
