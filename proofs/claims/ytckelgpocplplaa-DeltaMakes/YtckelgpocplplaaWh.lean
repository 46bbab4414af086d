/- bytes.Index in the layer's words. It proves no statement by itself. No conditions. -/
import Derived.Test.YtckelgpocplplaaSi
import Derived.Test.YtckelgpocplplaaWg
import Derived.Lib.IndexMore
namespace Go.Proofs.Ytckelgpocplplaa
open Go Go.Vx Go.Dl
set_option maxRecDepth 4000
set_option linter.all false
theorem bytesOf_nat (t : List UInt8) : Lib.bytesOf (t.map fun x => (x.toNat : Int)) = t := by
  unfold Lib.bytesOf
  rw [List.map_map]
  conv => rhs; rw [← List.map_id t]
  refine List.map_congr_left fun x _ => ?_
  simp
theorem index_hitL {s t : List UInt8} (h : 0 ≤ Lib.index s t) : ∃ i : Nat, Lib.index s t = (i : Int) ∧ i + t.length ≤ s.length ∧ (s.drop i).take t.length = t := by
  have hr := Lib.index_room s t h
  rcases Lib.index_spec s t with ⟨h1, _⟩ | ⟨i, h1, h2, h3, _⟩
  · omega
  · have hi : i + t.length ≤ s.length := by omega
    refine ⟨i, h1, hi, ?_⟩
    rw [Lib.occAt_iff_take s t i hi] at h3
    simpa using h3
theorem index_missL {s t : List UInt8} (h : Lib.index s t < 0) (i : Nat) (hi : i + t.length ≤ s.length) : (s.drop i).take t.length ≠ t := fun he => by
  rcases Lib.index_spec s t with ⟨_, h2⟩ | ⟨j, h1, _⟩
  · have := h2 i (by omega)
    rw [Lib.occAt_iff_take s t i hi, he] at this
    simp at this
  · omega
variable [W0]
/-- bytealg.MaxLen holds an int. -/
def MxAt (L : List Chunk) : Prop := ∃ m, ∀ w, Vx.Holds w L → w.cell? ⟨0, 0, none⟩ = some (.int .i64 m)
theorem MxAt.of {S L : List Chunk} (h : MxAt S) (hi : ∀ w, Vx.Holds w L → Vx.Holds w S) : MxAt L := h.imp fun m hm w hw => hm w (hi w hw)
theorem MxAt.there {L : List Chunk} {C : Chunk} (h : MxAt L) : MxAt (C :: L) := h.of fun w hw => hw.drop
/-- Bytes whose slice has no room where it lies nowhere. -/
structure Rz (L : List Chunk) (v : Value) (s : List UInt8) : Prop where
  rs : Rs L 1 v s.length (bsv s)
  z : ∀ m c, v = .slice none m c → c = 0
theorem Rz.there {L : List Chunk} {C : Chunk} {v : Value} {s : List UInt8} (h : Rz L v s) : Rz (C :: L) v s := ⟨h.rs.there, h.z⟩
theorem Rz.ow {e : Nat} {L : List Chunk} {C : Chunk} {v : Value} {s : List UInt8} (h : Ow e 1 v s.length (bsv s) C) : Rz (C :: L) v s := ⟨Rs.ow h, fun m c hv => by
  rcases h with ⟨h1, _⟩ | ⟨b, cap, rest, h1, _⟩
  · rw [h1] at hv; injection hv with _ _ h3; exact h3.symm
  · rw [h1] at hv; injection hv with h2; cases h2⟩
theorem nat_cells {L : List Chunk} {a : Addr} {s : List UInt8} (h : RdAt L a (bsv s)) {w : World} (hw : Vx.Holds w L) : ∀ i, i < s.length → w.cell? (a.add i) = some (.int .u8 ((s.map fun x => (x.toNat : Int)).getD i 0)) := fun i hi => by
  have := h.cells hw i _ (bsv_get hi)
  rw [this]
  simp [List.getD_eq_getElem?_getD, hi]
theorem nat_range (s : List UInt8) : ∀ x ∈ (s.map fun x => (x.toNat : Int)), 0 ≤ x ∧ x < 256 := fun x hx => by
  obtain ⟨y, _, rfl⟩ := List.mem_map.1 hx
  have := y.toNat_lt
  omega
theorem holds_drew {w : World} {L : List Chunk} (h : Vx.Holds w L) (q : Nat) : Vx.Holds (w.drewN q) L := h.same rfl rfl rfl
set_option maxHeartbeats 2000000 in
theorem bindexw_n (vs vt : Value) (s t : List UInt8) (L : List Chunk) (hs : Rz L vs s) (ht : Rs L 1 vt t.length (bsv t)) (hm : MxAt L) (hsl : s.length ≤ 16777216) (htl : t.length ≤ 16777216) :
    GvP Try.prog 13 [vs, vt].toArray L (.int .i64 (Lib.index s t)) := ⟨fun w hw => by
  obtain ⟨m, hm⟩ := hm
  have hmw := hm w hw
  have fin : ∀ {v : Int} {R : World → Prop}, (∀ w', R w' → ∃ q, w' = w.drewN q) → v = Lib.index s t → Calls Try.prog 13 [vs, vt].toArray w (fun e w' => e = .returned (.int .i64 v) ∧ R w') →
      Calls Try.prog 13 [vs, vt].toArray w (fun e w' => ∃ v L', e = .returned v ∧ (v = .int .i64 (Lib.index s t) ∧ L' = L) ∧ Vx.Holds w' L') := fun {v R} hR hv hc => hc.mono fun e w' ⟨h1, h2⟩ => by
    obtain ⟨q, rfl⟩ := hR w' h2
    exact ⟨_, L, h1, ⟨by rw [hv], rfl⟩, holds_drew hw q⟩
  have hsame : ∀ w', w' = w → ∃ q, w' = w.drewN q := fun w' h => ⟨0, h⟩
  obtain ⟨⟨hs1, va, vc, rfl, hsc⟩, hz⟩ := hs
  obtain ⟨ht1, ua, uc, rfl, htc⟩ := ht
  rcases ht1 with ⟨c2, hv2, h0, _⟩ | ⟨a2, cap2, hv2, hr2, _⟩
  · obtain rfl : t = [] := List.eq_nil_of_length_eq_zero h0
    exact fin hsame (Lib.index_empty s).symm (Any.bytes_Index_none sh_i va ua s.length vc uc w)
  · injection hv2 with e1 e2 e3
    subst e1 e3
    clear e2
    rcases hs1 with ⟨c1, hv1, h0, _⟩ | ⟨a1, cap1, hv1, hr1, _⟩
    · injection hv1 with e1 e2 e3
      subst e1 e3
      obtain rfl := hz _ _ rfl
      obtain rfl : s = [] := List.eq_nil_of_length_eq_zero h0
      refine fin hsame ?_ (Any.bytes_Index_nil sh_i (some a2) t.length uc w (by omega) (fun h1 => ?_))
      · unfold Lib.index
        cases t <;> simp
      · rcases hr2 with h2 | ⟨b2, o2, cc, T, fr, rfl, hf, hcell⟩
        · have h9 : t.length = 0 := by rw [← bsv_length, h2]; rfl
          omega
        · refine ⟨b2, o2, ((t[0]'(by omega)).toNat : Int), rfl, ?_⟩
          rw [cell_of (hf.get hw)]
          have := hcell 0 _ (bsv_get (by omega))
          simpa using this
    · injection hv1 with e1 e2 e3
      subst e1 e3
      clear e2
      have h := Any.bytes_Index_at sh_i a1 a2 s.length vc t.length uc (s.map fun x => (x.toNat : Int)) (t.map fun x => (x.toNat : Int)) m w (by simp) (by simp) (nat_range s) (nat_range t) (nat_cells hr1 hw) (nat_cells hr2 hw) hsc (by omega) (by omega) hmw
      rw [bytesOf_nat, bytesOf_nat] at h
      exact fin (fun w' h => h) rfl h⟩
end Go.Proofs.Ytckelgpocplplaa
