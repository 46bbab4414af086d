/- Adler-32, the program's and the document's. It proves no statement by itself. No conditions. -/
import Derived.Test.YtkiaegkojlhaeaaDoorIt
import Derived.Test.YtkiaegkojlhaeaaDoorWb
namespace Go.Proofs.YtkiaegkojlhaeaaDoor
open Go Go.Vx
variable [W0]
set_option maxRecDepth 4000
set_option linter.all false
omit [W0] in
abbrev w32 (w : BitVec 32) : Value := .int .u32 (w.toNat : Int)
theorem sl_byte {L : List Chunk} {v : Value} {m k : Nat} {t : List UInt8} (h : Sl L 1 v m (bsv t)) (hk : k < m) :
    ∃ bb off cap c T fr, v = .slice (some ⟨bb, off, none⟩) m cap ∧ Fnd L bb (.cells c T fr) ∧ c[off + k * 1]? = some (.int .u8 ((t.getD k 0).toNat : Int)) := by
  rcases h with ⟨c, rfl, rfl, h0⟩ | ⟨a, cap, rfl, hr, hl⟩
  · omega
  · have hlt : k < t.length := by rw [bsv_length] at hl; omega
    have hg : (bsv t)[k]? = some (.int .u8 ((t.getD k 0).toNat : Int)) := bsv_get (by simp [List.getD, hlt])
    rcases hr with h0 | ⟨b, off, c, T, fr, rfl, h1, h2⟩
    · rw [h0] at hg; simp at hg
    · exact ⟨b, off, cap, c, T, fr, rfl, h1, by rw [Nat.mul_one]; exact h2 _ _ hg⟩
theorem take_succ {α : Type} {t : List α} {k : Nat} (d : α) (h : k < t.length) : t.take (k + 1) = t.take k ++ [t.getD k d] := by
  rw [List.take_add_one, List.getElem?_eq_getElem h]
  simp [List.getD, h]

omit [W0] in
/-- A slice that can be read, and its room. -/
structure SlC (L : List Chunk) (k : Nat) (v : Value) (m : Nat) (xs : List Value) : Prop where
  sl : Sl L k v m xs
  room : ∃ a c, v = .slice a m c ∧ m ≤ c
theorem SlC.there {L : List Chunk} {C : Chunk} {k m : Nat} {v : Value} {xs : List Value} (h : SlC L k v m xs) : SlC (C :: L) k v m xs := ⟨sl_there h.sl, h.room⟩
theorem SlC.ow {e k m : Nat} {v : Value} {xs : List Value} {C : Chunk} {L : List Chunk} (h : Ow e k v m xs C) : SlC (C :: L) k v m xs := by
  refine ⟨ow_sl h, ?_⟩
  rcases h with ⟨rfl, rfl, _⟩ | ⟨b, cap, rest, rfl, _, _, _, hmc, _⟩
  · exact ⟨_, _, rfl, Nat.le_refl _⟩
  · exact ⟨_, _, rfl, hmc⟩
omit [W0] in
def adlA (a : BitVec 32) (x : UInt8) : BitVec 32 := (a + b2w x) % 65521#32
omit [W0] in
def adlN (s : BitVec 32 × BitVec 32) (t : List UInt8) : BitVec 32 × BitVec 32 := t.foldl (fun s x => (adlA s.1 x, (s.2 + adlA s.1 x) % 65521#32)) s
theorem adlN_snoc (s : BitVec 32 × BitVec 32) (t : List UInt8) (x : UInt8) : adlN s (t ++ [x]) = (adlA (adlN s t).1 x, ((adlN s t).2 + adlA (adlN s t).1 x) % 65521#32) := by simp [adlN]
omit [W0] in
def adlV (s : BitVec 32 × BitVec 32) : BitVec 32 := s.2 <<< 16 ||| s.1

theorem newAdler_n (L : List Chunk) : Gv Tryd.prog 42 [].toArray L (fun r L' => ∃ p, r = .pointer (some ⟨p, 0, none⟩) ∧ L' = [(p, cl [w32 1#32, w32 0#32] 90)] :: L) := by
  refine Gv.of_body Tryd.func42 rfl rfl ?_
  (repeat' (first | (show WL _ _ _ _ _ _ _; first | refine jA ?_ | refine jB ?_ | refine jC ?_ | refine jD ?_ | refine jE ?_ | refine jF ?_) | (show OW _ _ _ _ _ _; first | refine OW_W ?_ | refine jI ?_ | refine jJ ?_ | refine jK (fun bk => ?_) | refine jL (fun bk => ?_)) | (show WC _ _ _ _ _ _; first | refine jM ?_ | refine jN ?_ | refine jO ?_ | refine jP ?_ | refine jR ?_ | refine jS ?_ | refine jT ?_ | refine jU ?_) | (show WQ _ _ _ _; with_reducible first | refine jV ?_ | refine jW ?_ | refine jX ?_ | refine jY ?_ | refine jZ ?_ | refine kA ?_ | refine kB ?_ | refine kC ?_) | ((first | (refine jG (fun hc => ?_) (fun hc => ?_) <;> rw [hc]) | refine jQ (fun hc => ?_) (fun hc => ?_)) <;> (try simp only [nrB] at hc) <;> (try (exfalso; first | omega | exact hc trivial | exact hc rfl)))))
  first | refine WQ_retH rfl rfl ?_ | refine WQ_endH rfl rfl ?_
  exact ⟨[(bk, cl [w32 1#32, w32 0#32] 90)] :: L, fun w h => h, bk, rfl, rfl⟩
theorem adlerwrite_n (s : BitVec 32 × BitVec 32) (t : List UInt8) (v : Value) (p : Nat) (L : List Chunk) (hlen : t.length < 576460752303423488) (hv : SlC L 1 v t.length (bsv t)) :
    Gv Tryd.prog 43 [.pointer (some ⟨p, 0, none⟩), v].toArray ([(p, cl [w32 s.1, w32 s.2] 90)] :: L)
      (fun z L' => z = .tuple #[] ∧ L' = [(p, cl [w32 (adlN s t).1, w32 (adlN s t).2] 90)] :: L) := by
  refine Gv.of_body Tryd.func43 rfl rfl ?_
  obtain ⟨a, c, rfl, hmc⟩ := hv.room
  (repeat' (first | (show WL _ _ _ _ _ _ _; first | refine jA ?_ | refine jB ?_ | refine jC ?_ | refine jD ?_ | refine jE ?_ | refine jF ?_) | (show OW _ _ _ _ _ _; first | refine OW_W ?_ | refine jI ?_ | refine jJ ?_ | refine jK (fun bk => ?_) | refine jL (fun bk => ?_)) | (show WC _ _ _ _ _ _; first | refine jM ?_ | refine jN ?_ | refine jO ?_ | refine jP ?_ | refine jR ?_ | refine jS ?_ | refine jT ?_ | refine jU ?_) | (show WQ _ _ _ _; with_reducible first | refine jV ?_ | refine jW ?_ | refine jX ?_ | refine jY ?_ | refine jZ ?_ | refine kA ?_ | refine kB ?_ | refine kC ?_) | ((first | (refine jG (fun hc => ?_) (fun hc => ?_) <;> rw [hc]) | refine jQ (fun hc => ?_) (fun hc => ?_)) <;> (try simp only [nrB] at hc) <;> (try (exfalso; first | omega | exact hc trivial | exact hc rfl)))))
  refine WC_drawAll [] mixed ?_
  (refine WR_w 0 ?_; refine WR_w 1 ?_; refine WR_w 2 ?_; refine WR_w 3 ?_; refine WR_w 4 ?_; refine WR_w 5 ?_; refine WR_w 6 ?_; refine WR_w 7 ?_; refine WR_w 8 ?_; refine WR_w 9 ?_)
  (refine WR_done (by kernel_rfl) ?_)
  (repeat' (first | (show WL _ _ _ _ _ _ _; first | refine jA ?_ | refine jB ?_ | refine jC ?_ | refine jD ?_ | refine jE ?_ | refine jF ?_) | (show OW _ _ _ _ _ _; first | refine OW_W ?_ | refine jI ?_ | refine jJ ?_ | refine jK (fun bk => ?_) | refine jL (fun bk => ?_)) | (show WC _ _ _ _ _ _; first | refine jM ?_ | refine jN ?_ | refine jO ?_ | refine jP ?_ | refine jR ?_ | refine jS ?_ | refine jT ?_ | refine jU ?_) | (show WQ _ _ _ _; with_reducible first | refine jV ?_ | refine jW ?_ | refine jX ?_ | refine jY ?_ | refine jZ ?_ | refine kA ?_ | refine kB ?_ | refine kC ?_) | ((first | (refine jG (fun hc => ?_) (fun hc => ?_) <;> rw [hc]) | refine jQ (fun hc => ?_) (fun hc => ?_)) <;> (try simp only [nrB] at hc) <;> (try (exfalso; first | omega | exact hc trivial | exact hc rfl)))))
  refine WC_loop (X := Nat) (fun k => [(0, .pointer (some ⟨p, 0, none⟩)), (4, w32 (adlN s (t.take k)).1), (5, w32 (adlN s (t.take k)).2), (16, .slice a t.length c), (17, .int .i64 (t.length : Int)), (18, .int .i64 (k : Int))])
    (fun k => [(p, cl [w32 s.1, w32 s.2] 90)] :: L) (fun k => k ≤ t.length) (fun k => t.length - k) 0 (Nat.zero_le _) (by repeat (first | exact Sub.nil | refine Sub.cons rfl ?_ | refine Sub.cons (lk_int rfl (by first | omega | (dsimp only; omega))) ?_)) (fun w h => h) ?_
  intro k hk
  replace hk : k ≤ t.length := hk
  (repeat' (first | (show WL _ _ _ _ _ _ _; first | refine jA ?_ | refine jB ?_ | refine jC ?_ | refine jD ?_ | refine jE ?_ | refine jF ?_) | (show OW _ _ _ _ _ _; first | refine OW_W ?_ | refine jI ?_ | refine jJ ?_ | refine jK (fun bk => ?_) | refine jL (fun bk => ?_)) | (show WC _ _ _ _ _ _; first | refine jM ?_ | refine jN ?_ | refine jO ?_ | refine jP ?_ | refine jR ?_ | refine jS ?_ | refine jT ?_ | refine jU ?_) | (show WQ _ _ _ _; with_reducible first | refine jV ?_ | refine jW ?_ | refine jX ?_ | refine jY ?_ | refine jZ ?_ | refine kA ?_ | refine kB ?_ | refine kC ?_) | ((first | (refine jG (fun hc => ?_) (fun hc => ?_) <;> rw [hc]) | refine jQ (fun hc => ?_) (fun hc => ?_)) <;> (try simp only [nrB] at hc) <;> (try (exfalso; first | omega | exact hc trivial | exact hc rfl)))))
  · have hlt : k < t.length := by omega
    obtain ⟨bb, off, cap, cc, bT, bfr, hve, hfn, hcell⟩ := sl_byte hv.sl hlt
    injection hve with e1 e2 e3
    subst e1 e3
    clear e2
    (repeat' (first | (show WL _ _ _ _ _ _ _; first | refine jA ?_ | refine jB ?_ | refine jC ?_ | refine jD ?_ | refine jE ?_ | refine jF ?_) | (show OW _ _ _ _ _ _; first | refine OW_W ?_ | refine jI ?_ | refine jJ ?_ | refine jK (fun bk => ?_) | refine jL (fun bk => ?_)) | (show WC _ _ _ _ _ _; first | refine jM ?_ | refine jN ?_ | refine jO ?_ | refine jP ?_ | refine jR ?_ | refine jS ?_ | refine jT ?_ | refine jU ?_) | (show WQ _ _ _ _; with_reducible first | refine jV ?_ | refine jW ?_ | refine jX ?_ | refine jY ?_ | refine jZ ?_ | refine kA ?_ | refine kB ?_ | refine kC ?_) | ((first | (refine jG (fun hc => ?_) (fun hc => ?_) <;> rw [hc]) | refine jQ (fun hc => ?_) (fun hc => ?_)) <;> (try simp only [nrB] at hc) <;> (try (exfalso; first | omega | exact hc trivial | exact hc rfl)))))
    refine OW_W ?_ (he := EV_load rfl hfn.there hcell)
    (repeat' (first | (show WL _ _ _ _ _ _ _; first | refine jA ?_ | refine jB ?_ | refine jC ?_ | refine jD ?_ | refine jE ?_ | refine jF ?_) | (show OW _ _ _ _ _ _; first | refine OW_W ?_ | refine jI ?_ | refine jJ ?_ | refine jK (fun bk => ?_) | refine jL (fun bk => ?_)) | (show WC _ _ _ _ _ _; first | refine jM ?_ | refine jN ?_ | refine jO ?_ | refine jP ?_ | refine jR ?_ | refine jS ?_ | refine jT ?_ | refine jU ?_) | (show WQ _ _ _ _; with_reducible first | refine jV ?_ | refine jW ?_ | refine jX ?_ | refine jY ?_ | refine jZ ?_ | refine kA ?_ | refine kB ?_ | refine kC ?_) | ((first | (refine jG (fun hc => ?_) (fun hc => ?_) <;> rw [hc]) | refine jQ (fun hc => ?_) (fun hc => ?_)) <;> (try simp only [nrB] at hc) <;> (try (exfalso; first | omega | exact hc trivial | exact hc rfl)))))
    refine WQ_round (X := Nat) (J := fun k => k ≤ t.length) (μ := fun k => t.length - k) (x := k) (k + 1) (by omega) (show k + 1 ≤ t.length by omega) ?_ (fun w h => h)
    rw [take_succ 0 hlt, adlN_snoc]
    exact (by repeat (first | exact Sub.nil | refine Sub.cons rfl ?_ | refine Sub.cons (lk_int rfl (by first | omega | (dsimp only; omega))) ?_))
  · have hk : k = t.length := by omega
    subst hk
    rw [List.take_length]
    (first | refine WQ_retI rfl rfl ?_ | refine WQ_endI rfl rfl ?_)
    exact ⟨_, iC, rfl, rfl⟩
theorem adlervalue_n (s : BitVec 32 × BitVec 32) (p : Nat) (L : List Chunk) (hf : Fnd L p (cl [w32 s.1, w32 s.2] 90)) : GvP Tryd.prog 44 [.pointer (some ⟨p, 0, none⟩)].toArray L (w32 (adlV s)) := by
  refine Gv.of_body Tryd.func44 rfl rfl ?_
  (repeat' (first | (show WL _ _ _ _ _ _ _; first | refine jA ?_ | refine jB ?_ | refine jC ?_ | refine jD ?_ | refine jE ?_ | refine jF ?_) | (show OW _ _ _ _ _ _; first | refine OW_W ?_ | refine jI ?_ | refine jJ ?_ | refine jK (fun bk => ?_) | refine jL (fun bk => ?_)) | (show WC _ _ _ _ _ _; first | refine jM ?_ | refine jN ?_ | refine jO ?_ | refine jP ?_ | refine jR ?_ | refine jS ?_ | refine jT ?_ | refine jU ?_) | (show WQ _ _ _ _; with_reducible first | refine jV ?_ | refine jW ?_ | refine jX ?_ | refine jY ?_ | refine jZ ?_ | refine kA ?_ | refine kB ?_ | refine kC ?_) | ((first | (refine jG (fun hc => ?_) (fun hc => ?_) <;> rw [hc]) | refine jQ (fun hc => ?_) (fun hc => ?_)) <;> (try simp only [nrB] at hc) <;> (try (exfalso; first | omega | exact hc trivial | exact hc rfl)))))
  refine WC_drawAll [] mixed ?_
  (refine WR_w 0 ?_; refine WR_w 1 ?_; refine WR_w 2 ?_; refine WR_w 3 ?_; refine WR_w 4 ?_; refine WR_w 5 ?_; refine WR_w 6 ?_; refine WR_w 7 ?_; refine WR_w 8 ?_; refine WR_w 9 ?_; refine WR_w 10 ?_)
  (refine WR_done (by kernel_rfl) ?_)
  (repeat' (first | (show WL _ _ _ _ _ _ _; first | refine jA ?_ | refine jB ?_ | refine jC ?_ | refine jD ?_ | refine jE ?_ | refine jF ?_) | (show OW _ _ _ _ _ _; first | refine OW_W ?_ | refine jI ?_ | refine jJ ?_ | refine jK (fun bk => ?_) | refine jL (fun bk => ?_)) | (show WC _ _ _ _ _ _; first | refine jM ?_ | refine jN ?_ | refine jO ?_ | refine jP ?_ | refine jR ?_ | refine jS ?_ | refine jT ?_ | refine jU ?_) | (show WQ _ _ _ _; with_reducible first | refine jV ?_ | refine jW ?_ | refine jX ?_ | refine jY ?_ | refine jZ ?_ | refine kA ?_ | refine kB ?_ | refine kC ?_) | ((first | (refine jG (fun hc => ?_) (fun hc => ?_) <;> rw [hc]) | refine jQ (fun hc => ?_) (fun hc => ?_)) <;> (try simp only [nrB] at hc) <;> (try (exfalso; first | omega | exact hc trivial | exact hc rfl)))))
  ((first | refine WQ_retI rfl rfl ?_ | refine WQ_endI rfl rfl ?_); exact ⟨_, iC, rfl, rfl⟩)
theorem adler_n (t : List UInt8) (v : Value) (L : List Chunk) (hlen : t.length < 576460752303423488) (hv : SlC L 1 v t.length (bsv t)) :
    GvP Tryd.prog 29 [v].toArray L (w32 (adlV (adlN (1#32, 0#32) t))) := by
  refine Gv.of_body Tryd.func29 rfl rfl ?_
  (repeat' (first | (show WL _ _ _ _ _ _ _; first | refine jA ?_ | refine jB ?_ | refine jC ?_ | refine jD ?_ | refine jE ?_ | refine jF ?_) | (show OW _ _ _ _ _ _; first | refine OW_W ?_ | refine jI ?_ | refine jJ ?_ | refine jK (fun bk => ?_) | refine jL (fun bk => ?_)) | (show WC _ _ _ _ _ _; first | refine jM ?_ | refine jN ?_ | refine jO ?_ | refine jP ?_ | refine jR ?_ | refine jS ?_ | refine jT ?_ | refine jU ?_) | (show WQ _ _ _ _; with_reducible first | refine jV ?_ | refine jW ?_ | refine jX ?_ | refine jY ?_ | refine jZ ?_ | refine kA ?_ | refine kB ?_ | refine kC ?_) | ((first | (refine jG (fun hc => ?_) (fun hc => ?_) <;> rw [hc]) | refine jQ (fun hc => ?_) (fun hc => ?_)) <;> (try simp only [nrB] at hc) <;> (try (exfalso; first | omega | exact hc trivial | exact hc rfl)))))
  refine OW_call rfl rfl rfl (newAdler_n L) rfl (fun r L' hp => ?_)
  obtain ⟨p, rfl, rfl⟩ := hp
  (repeat' (first | (show WL _ _ _ _ _ _ _; first | refine jA ?_ | refine jB ?_ | refine jC ?_ | refine jD ?_ | refine jE ?_ | refine jF ?_) | (show OW _ _ _ _ _ _; first | refine OW_W ?_ | refine jI ?_ | refine jJ ?_ | refine jK (fun bk => ?_) | refine jL (fun bk => ?_)) | (show WC _ _ _ _ _ _; first | refine jM ?_ | refine jN ?_ | refine jO ?_ | refine jP ?_ | refine jR ?_ | refine jS ?_ | refine jT ?_ | refine jU ?_) | (show WQ _ _ _ _; with_reducible first | refine jV ?_ | refine jW ?_ | refine jX ?_ | refine jY ?_ | refine jZ ?_ | refine kA ?_ | refine kB ?_ | refine kC ?_) | ((first | (refine jG (fun hc => ?_) (fun hc => ?_) <;> rw [hc]) | refine jQ (fun hc => ?_) (fun hc => ?_)) <;> (try simp only [nrB] at hc) <;> (try (exfalso; first | omega | exact hc trivial | exact hc rfl)))))
  refine OW_call rfl rfl rfl (adlerwrite_n (1#32, 0#32) t v p L hlen hv) rfl (fun r L' hp => ?_)
  obtain ⟨rfl, rfl⟩ := hp
  (repeat' (first | (show WL _ _ _ _ _ _ _; first | refine jA ?_ | refine jB ?_ | refine jC ?_ | refine jD ?_ | refine jE ?_ | refine jF ?_) | (show OW _ _ _ _ _ _; first | refine OW_W ?_ | refine jI ?_ | refine jJ ?_ | refine jK (fun bk => ?_) | refine jL (fun bk => ?_)) | (show WC _ _ _ _ _ _; first | refine jM ?_ | refine jN ?_ | refine jO ?_ | refine jP ?_ | refine jR ?_ | refine jS ?_ | refine jT ?_ | refine jU ?_) | (show WQ _ _ _ _; with_reducible first | refine jV ?_ | refine jW ?_ | refine jX ?_ | refine jY ?_ | refine jZ ?_ | refine kA ?_ | refine kB ?_ | refine kC ?_) | ((first | (refine jG (fun hc => ?_) (fun hc => ?_) <;> rw [hc]) | refine jQ (fun hc => ?_) (fun hc => ?_)) <;> (try simp only [nrB] at hc) <;> (try (exfalso; first | omega | exact hc trivial | exact hc rfl)))))
  refine OW_callP rfl rfl rfl (adlervalue_n (adlN (1#32, 0#32) t) p _ Fnd.here) rfl ?_
  (repeat' (first | (show WL _ _ _ _ _ _ _; first | refine jA ?_ | refine jB ?_ | refine jC ?_ | refine jD ?_ | refine jE ?_ | refine jF ?_) | (show OW _ _ _ _ _ _; first | refine OW_W ?_ | refine jI ?_ | refine jJ ?_ | refine jK (fun bk => ?_) | refine jL (fun bk => ?_)) | (show WC _ _ _ _ _ _; first | refine jM ?_ | refine jN ?_ | refine jO ?_ | refine jP ?_ | refine jR ?_ | refine jS ?_ | refine jT ?_ | refine jU ?_) | (show WQ _ _ _ _; with_reducible first | refine jV ?_ | refine jW ?_ | refine jX ?_ | refine jY ?_ | refine jZ ?_ | refine kA ?_ | refine kB ?_ | refine kC ?_) | ((first | (refine jG (fun hc => ?_) (fun hc => ?_) <;> rw [hc]) | refine jQ (fun hc => ?_) (fun hc => ?_)) <;> (try simp only [nrB] at hc) <;> (try (exfalso; first | omega | exact hc trivial | exact hc rfl)))))
  ((first | refine WQ_retI rfl rfl ?_ | refine WQ_endI rfl rfl ?_); exact ⟨_, iC, rfl, rfl⟩)
omit [W0] in
/-- A text as the model has it. -/
def str (t : List UInt8) : ByteArray := ⟨t.toArray⟩
theorem str_size (t : List UInt8) : (str t).size = t.length := rfl
theorem str_get {t : List UInt8} {k : Nat} (h : k < t.length) : (str t)[k]? = some (t.getD k 0) := by
  show (str t).data[k]? = _
  simp [str, List.getD, h]
theorem refadler_n (t : List UInt8) (L : List Chunk) (hlen : t.length < 576460752303423488) :
    GvP Tryd.prog 31 [.string (str t)].toArray L (w32 (adlV (adlN (1#32, 0#32) t))) := by
  refine Gv.of_body Tryd.func31 rfl rfl ?_
  (repeat' (first | (show WL _ _ _ _ _ _ _; first | refine jA ?_ | refine jB ?_ | refine jC ?_ | refine jD ?_ | refine jE ?_ | refine jF ?_) | (show OW _ _ _ _ _ _; first | refine OW_W ?_ | refine jI ?_ | refine jJ ?_ | refine jK (fun bk => ?_) | refine jL (fun bk => ?_)) | (show WC _ _ _ _ _ _; first | refine jM ?_ | refine jN ?_ | refine jO ?_ | refine jP ?_ | refine jR ?_ | refine jS ?_ | refine jT ?_ | refine jU ?_) | (show WQ _ _ _ _; with_reducible first | refine jV ?_ | refine jW ?_ | refine jX ?_ | refine jY ?_ | refine jZ ?_ | refine kA ?_ | refine kB ?_ | refine kC ?_) | ((first | (refine jG (fun hc => ?_) (fun hc => ?_) <;> rw [hc]) | refine jQ (fun hc => ?_) (fun hc => ?_)) <;> (try simp only [nrB] at hc) <;> (try (exfalso; first | omega | exact hc trivial | exact hc rfl)))))
  refine WC_loop (X := Nat) (fun k => [(0, .string (str t)), (3, w32 (adlN (1#32, 0#32) (t.take k)).1), (4, w32 (adlN (1#32, 0#32) (t.take k)).2), (5, .int .i64 (k : Int))])
    (fun k => L) (fun k => k ≤ t.length) (fun k => t.length - k) 0 (Nat.zero_le _) (by repeat (first | exact Sub.nil | refine Sub.cons rfl ?_ | refine Sub.cons (lk_int rfl (by first | omega | (dsimp only; omega))) ?_)) (fun w h => h) ?_
  intro k hk
  replace hk : k ≤ t.length := hk
  (repeat' (first | (show WL _ _ _ _ _ _ _; first | refine jA ?_ | refine jB ?_ | refine jC ?_ | refine jD ?_ | refine jE ?_ | refine jF ?_) | (show OW _ _ _ _ _ _; first | refine OW_W ?_ | refine jI ?_ | refine jJ ?_ | refine jK (fun bk => ?_) | refine jL (fun bk => ?_)) | (show WC _ _ _ _ _ _; first | refine jM ?_ | refine jN ?_ | refine jO ?_ | refine jP ?_ | refine jR ?_ | refine jS ?_ | refine jT ?_ | refine jU ?_) | (show WQ _ _ _ _; with_reducible first | refine jV ?_ | refine jW ?_ | refine jX ?_ | refine jY ?_ | refine jZ ?_ | refine kA ?_ | refine kB ?_ | refine kC ?_) | ((first | (refine jG (fun hc => ?_) (fun hc => ?_) <;> rw [hc]) | refine jQ (fun hc => ?_) (fun hc => ?_)) <;> (try simp only [nrB] at hc) <;> (try (exfalso; first | omega | exact hc trivial | exact hc rfl)))))
  · rw [str_size] at hc
    have hlt : k < t.length := by omega
    refine OW_EV (EV_indexStr (s := str t) rfl rfl rfl (str_get hlt)) rfl ?_
    (repeat' (first | (show WL _ _ _ _ _ _ _; first | refine jA ?_ | refine jB ?_ | refine jC ?_ | refine jD ?_ | refine jE ?_ | refine jF ?_) | (show OW _ _ _ _ _ _; first | refine OW_W ?_ | refine jI ?_ | refine jJ ?_ | refine jK (fun bk => ?_) | refine jL (fun bk => ?_)) | (show WC _ _ _ _ _ _; first | refine jM ?_ | refine jN ?_ | refine jO ?_ | refine jP ?_ | refine jR ?_ | refine jS ?_ | refine jT ?_ | refine jU ?_) | (show WQ _ _ _ _; with_reducible first | refine jV ?_ | refine jW ?_ | refine jX ?_ | refine jY ?_ | refine jZ ?_ | refine kA ?_ | refine kB ?_ | refine kC ?_) | ((first | (refine jG (fun hc => ?_) (fun hc => ?_) <;> rw [hc]) | refine jQ (fun hc => ?_) (fun hc => ?_)) <;> (try simp only [nrB] at hc) <;> (try (exfalso; first | omega | exact hc trivial | exact hc rfl)))))
    refine WQ_round (X := Nat) (J := fun k => k ≤ t.length) (μ := fun k => t.length - k) (x := k) (k + 1) (by omega) (show k + 1 ≤ t.length by omega) ?_ (fun w h => h)
    rw [take_succ 0 hlt, adlN_snoc]
    exact (by repeat (first | exact Sub.nil | refine Sub.cons rfl ?_ | refine Sub.cons (lk_int rfl (by first | omega | (dsimp only; omega))) ?_))
  · rw [str_size] at hc
    have hk : k = t.length := by omega
    subst hk
    rw [List.take_length]
    (first | refine WQ_retI rfl rfl ?_ | refine WQ_endI rfl rfl ?_)
    exact ⟨L, iC, rfl, rfl⟩

end Go.Proofs.YtkiaegkojlhaeaaDoor
