/- The layer's conversions between bytes and strings. It proves no statement by itself. No conditions. -/
import Derived.Test.YtckelgpocplplaaVz
import Derived.Laws.BytesArg
namespace Go.Vx
open Go
set_option linter.all false
variable [W0]
variable {P : Program} {n : Nat} {M : List (Nat × Value)} {L : List Chunk} {d : Nat} {x y : Operand} {v : Value} {ty : TypeId} {ps : String} {af : Array Edge} {g : Option (Nat × Bool)} {K : List (Nat × Value) → List Chunk → Prop}

theorem slcOf_und {T e k by_ : Nat} (h : slcOf P T = some (e, k, by_)) : P.underlying T = some (.slice e) := by
  unfold slcOf at h
  split at h
  · rename_i e' hu
    split at h
    · split at h
      · simp at h; rw [hu, h.1]
      · simp at h
    · simp at h
  · simp at h

/-- Bytes to a string. -/
theorem EV_convStr {s t e k by_ : Nat} [hs : SL P s e k by_] [he : IK P e .u8] [ht : ST P t] {m : Nat} {b : List UInt8} (hx : ev M x = some v) (hv : Sl L 1 v m (bsv b)) :
    EV P n ⟨some d, .convert s t x, ty, ps, af, g⟩ M L d (.string ⟨b.toArray⟩) :=
  ⟨rfl, fun a w ha hw => by
    simp only [execOp, Sem.run_bind, ha.eval hx]
    rcases hv with ⟨c, rfl, rfl, h0⟩ | ⟨ad, cap, rfl, hr, hl⟩
    · have hb : b = [] := by simpa [bsv] using h0
      subst hb
      rw [run_convert_bytes_nil w s e (slcOf_und hs.out) he.out 0 c t ht.out]
      rfl
    · have hlb : b.length = m := by simpa [bsv_length] using hl
      rw [run_convert_bytes_string w s t e _ m cap (slcOf_und hs.out) he.out ht.out]
      have hmm : bsv b = (b.map fun c => (c.toNat : Int)).map (Value.int .u8) := by simp [bsv]
      have hrun := run_loadCells_list (P := P) w ad (bsv b) (hr.cells hw)
      rw [bsv_length, hlb] at hrun
      rw [run_bytesToString w ad m cap (b.map fun c => (c.toNat : Int)) (by rw [hrun, hmm]), foldl_push_bytes]
      have : (ByteArray.empty.data ++ (List.map (fun n => UInt8.ofNat n.toNat) (List.map (fun c => (c.toNat : Int)) b)).toArray) = b.toArray := by
        rw [List.map_map]
        have h2 : ((fun n : Int => UInt8.ofNat n.toNat) ∘ fun c : UInt8 => (c.toNat : Int)) = id := by
          funext c; simp
        rw [h2, List.map_id]
        have h3 : ByteArray.empty.data = #[] := rfl
        rw [h3, Array.empty_append]
      rw [this]
      rfl⟩

/-- Bytes to their own type: the row is marked. -/
theorem OW_convSame {s e k by_ : Nat} [hs : SL P s e k by_] [he : IK P e .u8] {b m c : Nat} {l : List Value} {L' : List Chunk} (hx : ev M x = some (.slice (some ⟨b, 0, none⟩) m c))
    (hu : Upd L b (cl l e) (.cells l.toArray e (l.length, l.length + 1)) L') (hn : Nat.blt d n = true) (h : K ((d, .slice (some ⟨b, 0, none⟩) m c) :: M) L') :
    OW P n ⟨some d, .convert s s x, ty, ps, af, g⟩ K M L := ⟨fun a w next Q ha hw hk => by
  have hb := hu.fnd.get hw
  have hsh : w.shape? b = some (e, l.length) := by simp [World.shape?, hb, cl]
  have hrun : (execOp a.eval ⟨some d, .convert s s x, ty, ps, af, g⟩).run P w = .ok (.value (.slice (some ⟨b, 0, none⟩) m c)) (w.freeze ⟨b, l.length, none⟩ 1) := by
    simp [execOp, ha.eval hx, convert, run_underlying (slcOf_und hs.out), run_underlying he.out, markStringish, hsh]
  unfold Oper.wp
  rw [hrun, Oper.upon_value]
  obtain ⟨f1, f2⟩ := freeze_at (off := l.length) hb (by decide : (1 : Nat) ≠ 0)
  exact (hk _ _ h).out _ _ (ha.put _ hn) (hw.upd hu f1 f2 (freeze_os _ _ _).1 (freeze_os _ _ _).2)⟩
end Go.Vx
