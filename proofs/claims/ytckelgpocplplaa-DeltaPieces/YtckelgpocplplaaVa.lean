/- The layer's small change: slices that are owned or read, seen from a longer list of chunks. It proves no statement by itself. No conditions. -/
import Derived.Test.YtckelgpocplplaaVs
import Derived.Test.YtckelgpocplplaaVr
namespace Go.Vx
open Go
set_option linter.all false
variable [W0]
variable {P : Program}

theorem getE_app {l r : List Value} {i : Nat} {v : Value} (h : l[i]? = some v) : (l ++ r)[i]? = some v := by
  have : i < l.length := by
    rcases Nat.lt_or_ge i l.length with h' | h'
    · exact h'
    · simp [List.getElem?_eq_none h'] at h
  rw [List.getElem?_append_left this]; exact h
theorem lt_of_get {α : Type} {l : List α} {i : Nat} {v : α} (h : l[i]? = some v) : i < l.length := by
  rcases Nat.lt_or_ge i l.length with h' | h'
  · exact h'
  · simp [List.getElem?_eq_none h'] at h
theorem split_get {α : Type} {l : List α} {k : Nat} {x : α} (h : l[k]? = some x) : l = l.take k ++ (x :: l.drop (k + 1)) := by
  have hk := lt_of_get h
  rw [List.getElem?_eq_getElem hk] at h
  rw [← Option.some.inj h, ← List.drop_eq_getElem_cons hk, List.take_append_drop]
theorem patch_mid {X Z R zz : List Value} {off : Nat} (h1 : X.length = off) (h2 : Z.length = zz.length) : patch (X ++ (Z ++ R)) off zz = X ++ (zz ++ R) := by
  subst h1
  simp [patch, ← h2]
theorem ow_one {e k m : Nat} {v : Value} {xs : List Value} {C : Chunk} (h : Ow e k v m xs C) : v.oneCell' = true := by
  rcases h with ⟨rfl, _⟩ | ⟨b, cap, rest, rfl, _⟩ <;> rfl
theorem ow_slc {e k m : Nat} {v : Value} {xs : List Value} {C : Chunk} (h : Ow e k v m xs C) : ∃ a c, v = .slice a m c := by
  rcases h with ⟨rfl, rfl, _⟩ | ⟨b, cap, rest, rfl, _⟩
  · exact ⟨_, _, rfl⟩
  · exact ⟨_, _, rfl⟩
theorem ow_sl {e k m : Nat} {v : Value} {xs : List Value} {C : Chunk} {L : List Chunk} (h : Ow e k v m xs C) : Sl (C :: L) k v m xs := by
  rcases h with ⟨rfl, rfl, rfl, rfl⟩ | ⟨b, cap, rest, rfl, rfl, hxl, hrl, hmc, hcm⟩
  · exact .inl ⟨_, rfl, rfl, rfl⟩
  · exact .inr ⟨_, _, rfl, RdAt.cl' Fnd.here (by simp [cut]), hxl⟩
theorem sl_slice {L : List Chunk} {k : Nat} {v : Value} {m : Nat} {xs : List Value} (h : Sl L k v m xs) : ∃ a c, v = .slice a m c := by
  rcases h with ⟨c, rfl, rfl, rfl⟩ | ⟨a, cap, rfl, _⟩
  · exact ⟨_, _, rfl⟩
  · exact ⟨_, _, rfl⟩
theorem sl_one {L : List Chunk} {k : Nat} {v : Value} {m : Nat} {xs : List Value} (h : Sl L k v m xs) : v.oneCell' = true := by
  obtain ⟨a, c, rfl⟩ := sl_slice h; rfl
theorem rd_sub {L L' : List Chunk} (hs : ∀ x ∈ L.flatten, x ∈ L'.flatten) {a : Addr} {vs : List Value} (h : RdAt L a vs) : RdAt L' a vs := by
  rcases h with h | ⟨b, off, c, T, fr, e2, h7, h8⟩
  · exact .inl h
  · exact .inr ⟨b, off, c, T, fr, e2, hs _ h7, h8⟩
theorem sl_sub {L L' : List Chunk} (hs : ∀ x ∈ L.flatten, x ∈ L'.flatten) {k m : Nat} {v : Value} {xs : List Value} (h : Sl L k v m xs) : Sl L' k v m xs := by
  rcases h with h | ⟨a, cap, e1, h5, h6⟩
  · exact .inl h
  · exact .inr ⟨a, cap, e1, rd_sub hs h5, h6⟩
theorem rd_there {L : List Chunk} {C : Chunk} {a : Addr} {vs : List Value} (h : RdAt L a vs) : RdAt (C :: L) a vs :=
  rd_sub (fun x hx => by simp only [List.flatten_cons, List.mem_append]; exact .inr hx) h
theorem sl_there {L : List Chunk} {C : Chunk} {k m : Nat} {v : Value} {xs : List Value} (h : Sl L k v m xs) : Sl (C :: L) k v m xs :=
  sl_sub (fun x hx => by simp only [List.flatten_cons, List.mem_append]; exact .inr hx) h
theorem sl_in {L : List Chunk} {A : List Chunk} {k m : Nat} {v : Value} {xs : List Value} (h : Sl L k v m xs) : Sl (A ++ L) k v m xs := by
  induction A with
  | nil => exact h
  | cons C A ih => exact sl_there ih
omit [W0] in
/-- Integers as cells. -/
def intsN (xs : List Int) : List Value := xs.map (Value.int .i64)
/-- A slice of one-celled elements that came in. -/
theorem sl_open {L : List Chunk} {v : Value} {m : Nat} {xs : List Value} (h : Sl L 1 v m xs) :
    (m = 0 ∧ ∃ a c, v = .slice a 0 c) ∨ ∃ b off cap c T fr, v = .slice (some ⟨b, off, none⟩) m cap ∧ Fnd L b (.cells c T fr) ∧ ∀ j u, xs[j]? = some u → c[off + j]? = some u := by
  rcases h with ⟨c, rfl, rfl, rfl⟩ | ⟨a, cap, rfl, hr, hl⟩
  · exact .inl ⟨rfl, _, _, rfl⟩
  · rcases hr with h0 | ⟨b, off, c, T, fr, rfl, h1, h2⟩
    · subst h0
      have : m = 0 := by have := hl; simp at this; omega
      subst this
      exact .inl ⟨rfl, _, _, rfl⟩
    · exact .inr ⟨b, off, cap, c, T, fr, rfl, h1, h2⟩
theorem zeros_bsv : ∀ n, zeros [.int .u8 0] n = bsv (List.replicate n 0)
  | 0 => rfl
  | n + 1 => by simp only [zeros, List.replicate_succ]; rw [zeros_bsv n]; rfl
/-- A chunk that is part of another one. -/
theorem sl_part {C D : Chunk} {L : List Chunk} (hs : ∀ x ∈ C, x ∈ D) {k m : Nat} {v : Value} {xs : List Value} (h : Sl [C] k v m xs) : Sl (D :: L) k v m xs :=
  sl_sub (fun x hx => by
    simp only [List.flatten_cons, List.mem_append]
    simp only [List.flatten_cons, List.flatten_nil, List.append_nil] at hx
    exact .inl (hs x hx)) h
theorem sl_cells {L : List Chunk} {k m cap b : Nat} {c : Array Value} {T : TypeId} {fr : Nat × Nat} {xs : List Value} (hf : Fnd L b (.cells c T fr)) (hl : xs.length = m * k) (hc : c.toList.take xs.length = xs) : Sl L k (.slice (some ⟨b, 0, none⟩) m cap) m xs := by
  refine .inr ⟨_, cap, rfl, .inr ⟨b, 0, c, T, fr, rfl, hf, fun j u hj => ?_⟩, hl⟩
  rw [← hc] at hj
  rw [List.getElem?_take] at hj
  split at hj
  · simpa using hj
  · simp at hj
theorem GvP.of {f : FuncId} {args : Array Value} {L L' : List Chunk} {v : Value} (h : GvP P f args L' v) (h1 : Inc L' L) (h2 : Inc L L') : GvP P f args L v :=
  ⟨fun w hw => (h.out w (h1.holds hw)).mono fun _ _ he => by
    obtain ⟨v', L'', e1, ⟨e2, e3⟩, hw'⟩ := he
    subst e2 e3
    exact ⟨v', L, e1, ⟨rfl, rfl⟩, h2.holds hw'⟩⟩
/-- The same, the chunks cut in another way. -/
theorem GvP.iff {f : FuncId} {args : Array Value} {L L' : List Chunk} {v : Value} (h : GvP P f args L' v) (h1 : ∀ w, Holds w L ↔ Holds w L') : GvP P f args L v :=
  ⟨fun w hw => (h.out w ((h1 w).1 hw)).mono fun _ _ he => by
    obtain ⟨v', L'', e1, ⟨e2, e3⟩, hw'⟩ := he
    subst e2 e3
    exact ⟨v', L, e1, ⟨rfl, rfl⟩, (h1 _).2 hw'⟩⟩
theorem three {w : World} {A B C : Chunk} {L : List Chunk} : Holds w ((A ++ (B ++ C)) :: L) ↔ Holds w (A :: B :: C :: L) := by
  simp [Holds, List.append_assoc]
theorem four {w : World} {A B C D : Chunk} {L : List Chunk} : Holds w ((A ++ (B ++ (C ++ D))) :: L) ↔ Holds w (A :: B :: C :: D :: L) := by
  simp [Holds, List.append_assoc]
theorem two {w : World} {A B : Chunk} {L : List Chunk} : Holds w ((A ++ B) :: L) ↔ Holds w (A :: B :: L) := by
  simp [Holds, List.append_assoc]
end Go.Vx
