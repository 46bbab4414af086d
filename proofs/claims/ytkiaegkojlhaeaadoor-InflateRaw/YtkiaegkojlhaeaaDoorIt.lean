/- Package inflate: blocks one behind the other. It proves no statement by itself. No conditions. -/
import Derived.Test.YtkiaegkojlhaeaaDoorIs
namespace Go.If
open Go.Vx Go.Hf
set_option linter.all false
/-- No bit and no byte is taken back. -/
structure Le (a b : S6) : Prop where
  t : a.t ≤ b.t
  o : a.out.length ≤ b.out.length
theorem Le.rfl' (a : S6) : Le a a := ⟨Nat.le_refl _, Nat.le_refl _⟩
theorem Le.tr {a b c : S6} (h : Le a b) (h2 : Le b c) : Le a c := ⟨Nat.le_trans h.t h2.t, Nat.le_trans h.o h2.o⟩
theorem fl_le (s : S6) (k : Nat) : Le s (fl s k) := ⟨by rw [fl_t]; exact Nat.le_refl _, by rw [fl_out]; exact Nat.le_refl _⟩
theorem tk_le (d : List UInt8) (s : S6) (n : Nat) : Le s (tk d s n) := ⟨tk_t d s n, by rw [tk_out]; exact Nat.le_refl _⟩
theorem sy_o [W0] (d : List UInt8) (s : S6) (l : List Nat) : (sy d s l).out = s.out := by
  unfold sy
  split
  · exact fl_out _ _
  · rfl
theorem sy_le [W0] (d : List UInt8) (s : S6) (l : List Nat) : Le s (sy d s l) := ⟨sy_t d s l, by rw [sy_o]; exact Nat.le_refl _⟩
theorem pt_le (most : Nat) (s : S6) (c : UInt8) : Le s (pt most s c) := by
  by_cases h : s.out.length < most
  · rw [pt_ok h]; exact ⟨Nat.le_refl _, by simp⟩
  · rw [pt_no (by omega)]; exact fl_le _ _
theorem cpL_le (most far : Nat) : ∀ n s, Le s (cpL most far n s)
  | 0, s => Le.rfl' s
  | n + 1, s => by
    rw [cpL]
    split
    · exact (pt_le _ _ _).tr (cpL_le most far n _)
    · exact Le.rfl' s
theorem mtS_le [W0] (d : List UInt8) (most k : Nat) (dl : List Nat) (s : S6) : Le s (mtS d most k dl s) := by
  unfold mtS
  have h1 := tk_le d s (lnB k).2
  have h2 := sy_le d (tk d s (lnB k).2) dl
  generalize tk d s (lnB k).2 = s1 at h1 h2 ⊢
  have h3 := h1.tr h2
  split
  · exact fl_le _ _
  · split
    · exact h3
    · split
      · exact h3.tr (fl_le _ _)
      · unfold mtD
        refine h3.tr (Le.tr ?_ (cpL_le _ _ _ _))
        split
        · exact (tk_le _ _ _).tr (fl_le _ _)
        · exact tk_le _ _ _
theorem cdC_le [W0] (d : List UInt8) (most : Nat) (l dl : List Nat) : ∀ f s, Le s (cdC d most l dl f s)
  | 0, s => Le.rfl' s
  | f + 1, s => by
    rw [cdC]
    have h := sy_le d s l
    split
    · exact Le.rfl' s
    · split
      · exact h
      · split
        · exact h.tr ((pt_le _ _ _).tr (cdC_le d most l dl f _))
        · split
          · exact h
          · exact h.tr ((mtS_le _ _ _ _ _).tr (cdC_le d most l dl f _))
theorem stL_le [W0] (d : List UInt8) (most : Nat) : ∀ k s, Le s (stL d most k s)
  | 0, s => Le.rfl' s
  | k + 1, s => by
    rw [stL]
    have h := tk_le d s 8
    split
    · refine Le.tr ?_ (stL_le d most k _)
      split
      · exact h.tr (pt_le _ _ _)
      · exact h
    · exact Le.rfl' s
theorem stS_le [W0] (d : List UInt8) (most : Nat) (s : S6) : Le s (stS d most s) := by
  unfold stS
  simp only
  have h0 : Le s ⟨8 * ((s.t + 7) / 8), s.out, s.e⟩ := ⟨by simp only; omega, Nat.le_refl _⟩
  have h1 := tk_le d ⟨8 * ((s.t + 7) / 8), s.out, s.e⟩ 16
  have h2 := tk_le d (tk d ⟨8 * ((s.t + 7) / 8), s.out, s.e⟩ 16) 16
  refine (h0.tr (h1.tr h2)).tr (Le.tr ?_ (stL_le d most _ _))
  split
  · exact Le.rfl' _
  · exact fl_le _ _
theorem rpS_le [W0] (d : List UInt8) (own : List Nat) (m : Nat) (s : S6) (l : List Nat) : Le s (rpS d own m s l) := by
  unfold rpS
  have h1 := sy_le d s own
  have h2 := h1.tr (tk_le d (sy d s own) (rpB (sv d s own)))
  split
  · exact h1
  · split
    · exact h2
    · split
      · exact h2.tr (fl_le _ _)
      · exact h2
theorem lpS_le [W0] (d : List UInt8) (own : List Nat) (m : Nat) : ∀ f s l, Le s (lpS d own m f s l).1
  | 0, s, l => Le.rfl' s
  | f + 1, s, l => by
    rw [lpS]
    have h := rpS_le d own m s l
    split
    · split
      · exact h.tr (lpS_le d own m f _ _)
      · exact h
    · exact Le.rfl' s
theorem owS_le [W0] (d : List UInt8) : ∀ k i s o, Le s (owS d k i s o).1
  | 0, i, s, o => Le.rfl' s
  | k + 1, i, s, o => by
    rw [owS]
    have h := tk_le d s 3
    split
    · exact h
    · exact h.tr (owS_le d k _ _ _)
theorem lcS_le [W0] (d : List UInt8) (s : S6) : Le s (lcS d s).1 := by
  unfold lcS
  have h := tk_le d s 4
  have h2 := h.tr (owS_le d (4 + tv d s 4) 0 (tk d s 4) (List.replicate 19 0))
  split
  · exact h
  · split
    · exact h2
    · split
      · exact h2
      · exact h2.tr (fl_le _ _)
theorem lgS_le [W0] (d : List UInt8) (m : Nat) (s : S6) : Le s (lgS d m s).1 := by
  unfold lgS
  have h := lcS_le d s
  split
  · exact h
  · exact h.tr (lpS_le _ _ _ _ _ _)
theorem dyT_le [W0] (d : List UInt8) (n1 n2 : Nat) (s : S6) : Le s (dyT d n1 n2 s).1 := by
  rw [dyT_eq]
  have h := lgS_le d (n1 + n2) s
  split
  · exact h
  · unfold dyK
    split
    · exact h
    · exact h.tr (fl_le _ _)
theorem dyS_le [W0] (d : List UInt8) (s : S6) : Le s (dyS d s).1 := by
  unfold dyS
  have h1 := tk_le d s 5
  have h2 := h1.tr (tk_le d (tk d s 5) 5)
  repeat' split
  · exact h1
  · exact h1.tr (fl_le _ _)
  · exact h2
  · exact h2.tr (fl_le _ _)
  · exact h2.tr (dyT_le _ _ _ _)
theorem dbS_le [W0] (d : List UInt8) (most : Nat) (s : S6) : Le s (dbS d most s) := by
  unfold dbS
  have h := dyS_le d s
  split
  · exact h
  · exact h.tr (cdC_le _ _ _ _ _ _)
/-- A block, by its type. -/
def bkS [W0] (d : List UInt8) (most k : Nat) (s : S6) : S6 := if k = 0 then stS d most s else if k = 1 then cdC d most fxL fxD (8 * d.length + 1) s else dbS d most s
theorem bkS_le [W0] (d : List UInt8) (most k : Nat) (s : S6) : Le s (bkS d most k s) := by
  unfold bkS
  repeat' split
  · exact stS_le _ _ _
  · exact cdC_le _ _ _ _ _ _
  · exact dbS_le _ _ _
/-- Blocks, up to the last one. -/
def rwS [W0] (d : List UInt8) (most : Nat) : Nat → S6 → S6
  | 0, s => s
  | f + 1, s => if (tk d s 3).e ≠ 0 then tk d s 3
    else if 5 < tv d s 3 then fl (tk d s 3) 3
    else if (bkS d most (tv d s 3 / 2) (tk d s 3)).e ≠ 0 then bkS d most (tv d s 3 / 2) (tk d s 3)
    else if tv d s 3 % 2 = 1 then bkS d most (tv d s 3 / 2) (tk d s 3)
    else rwS d most f (bkS d most (tv d s 3 / 2) (tk d s 3))
/-- All of it. -/
def rawS [W0] (d : List UInt8) (most : Nat) : S6 := rwS d most (8 * d.length + 1) ⟨0, [], 0⟩
end Go.If
/- Package inflate: blocks one behind the other. It proves no statement by itself. No conditions. -/
namespace Go.Vx
theorem Gv.monoD {P : Program} {L : List Chunk} {f : FuncId} {args : Array Value} {post post' : Value → List Chunk → Prop} [W0] (h : Gv P f args L post) (hp : ∀ v L', post v L' → ∃ L'', (∀ w, Holds w L' → Holds w L'') ∧ post' v L'') : Gv P f args L post' :=
  ⟨fun w hw => (h.out w hw).mono fun _ _ he => let ⟨v, L', h1, h2, h3⟩ := he; let ⟨L'', h4, h5⟩ := hp v L' h2; ⟨v, L'', h1, h5, h4 _ h3⟩⟩
end Go.Vx
namespace Go.Proofs.YtkiaegkojlhaeaaDoor
open Go Go.Vx Go.Hf Go.If
variable [W0]
set_option maxRecDepth 4000
set_option linter.all false
omit [W0] in
def knF : List Value := [.func (.func 45) #[] #[], .func (.func 46) #[] #[], .func (.func 47) #[] #[]]

set_option maxHeartbeats 2000000 in
theorem kinds_n (L : List Chunk) : GvP Tryd.prog 32 #[] L (.agg knF.toArray) := by
  refine Gv.of_body (args := []) Tryd.func32 rfl rfl ?_
  (repeat' (first | (show WL _ _ _ _ _ _ _; first | refine jA ?_ | refine jB ?_ | refine jC ?_ | refine jD ?_ | refine jE ?_ | refine jF ?_) | (show OW _ _ _ _ _ _; first | refine OW_E ?_ | refine jI ?_ | refine jJ ?_ | refine jK (fun bk => ?_) | refine jL (fun bk => ?_)) | (show WC _ _ _ _ _ _; first | refine jM ?_ | refine jN ?_ | refine jO ?_ | refine jP ?_ | refine jR ?_ | refine jS ?_ | refine jT ?_ | refine jU ?_) | (show WQ _ _ _ _; with_reducible first | refine jV ?_ | refine jW ?_ | refine jX ?_ | refine jY ?_ | refine jZ ?_ | refine kA ?_ | refine kB ?_ | refine kC ?_) | ((first | (refine jG (fun hc => ?_) (fun hc => ?_) <;> rw [hc]) | refine jQ (fun hc => ?_) (fun hc => ?_)) <;> (try simp only [nrB] at hc) <;> (try (exfalso; first | omega | exact hc trivial | exact hc rfl)))))
  refine OW_EV (EV_buildArr (cs := knF) rfl (by rfl) (by rfl)) rfl ?_
  (repeat' (first | (show WL _ _ _ _ _ _ _; first | refine jA ?_ | refine jB ?_ | refine jC ?_ | refine jD ?_ | refine jE ?_ | refine jF ?_) | (show OW _ _ _ _ _ _; first | refine OW_E ?_ | refine jI ?_ | refine jJ ?_ | refine jK (fun bk => ?_) | refine jL (fun bk => ?_)) | (show WC _ _ _ _ _ _; first | refine jM ?_ | refine jN ?_ | refine jO ?_ | refine jP ?_ | refine jR ?_ | refine jS ?_ | refine jT ?_ | refine jU ?_) | (show WQ _ _ _ _; with_reducible first | refine jV ?_ | refine jW ?_ | refine jX ?_ | refine jY ?_ | refine jZ ?_ | refine kA ?_ | refine kB ?_ | refine kC ?_) | ((first | (refine jG (fun hc => ?_) (fun hc => ?_) <;> rw [hc]) | refine jQ (fun hc => ?_) (fun hc => ?_)) <;> (try simp only [nrB] at hc) <;> (try (exfalso; first | omega | exact hc trivial | exact hc rfl)))))
  refine OW_holds (L' := [(bk, cl [.nilFunc, .nilFunc, .nilFunc] 70)] :: L) (fun w h => h) ?_
  refine OW_storeAggTo (l := [.nilFunc, .nilFunc, .nilFunc]) (vs := knF) knF rfl rfl (by rfl) (by rfl) (by rfl) (by repeat (first | exact Upd.here | apply Upd.there)) (by decide) ?_
  (repeat' (first | (show WL _ _ _ _ _ _ _; first | refine jA ?_ | refine jB ?_ | refine jC ?_ | refine jD ?_ | refine jE ?_ | refine jF ?_) | (show OW _ _ _ _ _ _; first | refine OW_E ?_ | refine jI ?_ | refine jJ ?_ | refine jK (fun bk => ?_) | refine jL (fun bk => ?_)) | (show WC _ _ _ _ _ _; first | refine jM ?_ | refine jN ?_ | refine jO ?_ | refine jP ?_ | refine jR ?_ | refine jS ?_ | refine jT ?_ | refine jU ?_) | (show WQ _ _ _ _; with_reducible first | refine jV ?_ | refine jW ?_ | refine jX ?_ | refine jY ?_ | refine jZ ?_ | refine kA ?_ | refine kB ?_ | refine kC ?_) | ((first | (refine jG (fun hc => ?_) (fun hc => ?_) <;> rw [hc]) | refine jQ (fun hc => ?_) (fun hc => ?_)) <;> (try simp only [nrB] at hc) <;> (try (exfalso; first | omega | exact hc trivial | exact hc rfl)))))
  first
    | (refine WQ_retC (vs := [.agg knF.toArray]) rfl (.agg ⟨by kernel_rfl, by kernel_rfl⟩ rfl (RdAt.cl' (vs := knF) (by repeat (first | assumption | exact Fnd.here | refine Fnd.there ?_)) rfl) rfl .nil) ?_
       exact ⟨L, fun w h => h.drop, rfl, rfl⟩)
    | (refine WQ_endC (vs := [.agg knF.toArray]) rfl (.agg ⟨by kernel_rfl, by kernel_rfl⟩ rfl (RdAt.cl' (vs := knF) (by repeat (first | assumption | exact Fnd.here | refine Fnd.there ?_)) rfl) rfl .nil) ?_
       exact ⟨L, fun w h => h.drop, rfl, rfl⟩)

set_option maxHeartbeats 4000000 in
/-- A block, by its type. -/
theorem block_n (k p q most : Nat) (v kn : Value) (d : List UInt8) (s : S6) (D E C K : Chunk) (L : List Chunk) (hk : k < 3) (h : RdN q d s.t D E) (hl : d.length ≤ 140737488355328) (he : s.e = 0) (hm : most ≤ 1000000) (hkn : KnD kn K) (hor : OrAt L)
    (ho : Ow 5 1 v s.out.length (bsv s.out) C) (hom : s.out.length ≤ most) : ∃ f, knF[k]? = some (.func (.func f) #[] #[]) ∧ BD Tryd.prog f ∧
    Gv Tryd.prog f [.pointer (some ⟨p, 0, none⟩)].toArray (rdR p q v most kn :: D :: E :: C :: K :: L) (fun r L' =>
      ((bkS d most k s).e ≠ 0 ∧ r = .int .i64 ((bkS d most k s).e : Int) ∧ L' = L) ∨
      ((bkS d most k s).e = 0 ∧ r = .int .i64 0 ∧ ∃ v' D' C' kn' K', KnD kn' K' ∧ Ow 5 1 v' (bkS d most k s).out.length (bsv (bkS d most k s).out) C' ∧ (bkS d most k s).out.length ≤ most ∧ RdN q d (bkS d most k s).t D' E ∧
        L' = rdR p q v' most kn' :: D' :: E :: C' :: K' :: L)) := by
  rcases (by omega : k = 0 ∨ k = 1 ∨ k = 2) with rfl | rfl | rfl
  · refine ⟨45, rfl, inferInstance, ?_⟩
    refine Gv.monoD (Gv.holds (pstored_n p q most v kn d s D E C (K :: L) h hl he hm hkn.one ho hom) (fun w h => h)) (fun r L' hp => ?_)
    rcases hp with ⟨h1, rfl, rfl⟩ | ⟨h1, rfl, v', D', C', ho', hl', hr', rfl⟩
    · exact ⟨L, fun w h => h.drop, .inl ⟨h1, rfl, rfl⟩⟩
    · exact ⟨_, fun w h => h, .inr ⟨h1, rfl, v', D', C', kn, K, hkn, ho', hl', hr', rfl⟩⟩
  · refine ⟨46, rfl, inferInstance, ?_⟩
    exact pfixed_n p q most v kn d s D E C K L h hl he hm hkn ho hom
  · refine ⟨47, rfl, inferInstance, ?_⟩
    refine Gv.monoD (pdynamic_n p q most v kn d s D E C (K :: L) h hl he hm hkn.one hor.there ho hom) (fun r L' hp => ?_)
    rcases hp with ⟨h1, rfl, rfl⟩ | ⟨h1, rfl, v', D', C', ho', hl', hr', rfl⟩
    · exact ⟨L, fun w h => h.drop, .inl ⟨h1, rfl, rfl⟩⟩
    · exact ⟨_, fun w h => h, .inr ⟨h1, rfl, v', D', C', kn, K, hkn, ho', hl', hr', rfl⟩⟩

set_option maxHeartbeats 8000000 in
theorem blocks_n (p q most : Nat) (v kn : Value) (d : List UInt8) (s : S6) (D E C K : Chunk) (L : List Chunk) (h : RdN q d s.t D E) (hl : d.length ≤ 140737488355328) (he : s.e = 0) (hm : most ≤ 1000000) (hkn : KnD kn K) (hor : OrAt L)
    (ho : Ow 5 1 v s.out.length (bsv s.out) C) (hom : s.out.length ≤ most) :
    Gv Tryd.prog 18 [.pointer (some ⟨p, 0, none⟩)].toArray (rdR p q v most kn :: D :: E :: C :: K :: L) (fun r L' =>
      ((rwS d most (8 * d.length + 1) s).e ≠ 0 ∧ r = .int .i64 ((rwS d most (8 * d.length + 1) s).e : Int) ∧ L' = L) ∨
      ((rwS d most (8 * d.length + 1) s).e = 0 ∧ r = .int .i64 0 ∧ ∃ v' D' C' kn', Ow 5 1 v' (rwS d most (8 * d.length + 1) s).out.length (bsv (rwS d most (8 * d.length + 1) s).out) C' ∧ (rwS d most (8 * d.length + 1) s).out.length ≤ most ∧ RdN q d (rwS d most (8 * d.length + 1) s).t D' E ∧ L' = rdR p q v' most kn' :: D' :: E :: C' :: L)) := by
  refine Gv.of_body Tryd.func18 rfl rfl ?_
  generalize hR : rwS d most (8 * d.length + 1) s = R
  (repeat' (first | (show WL _ _ _ _ _ _ _; first | refine jA ?_ | refine jB ?_ | refine jC ?_ | refine jD ?_ | refine jE ?_ | refine jF ?_) | (show OW _ _ _ _ _ _; first | refine OW_E ?_ | refine jI ?_ | refine jJ ?_ | refine jK (fun bk => ?_) | refine jL (fun bk => ?_)) | (show WC _ _ _ _ _ _; first | refine jM ?_ | refine jN ?_ | refine jO ?_ | refine jP ?_ | refine jR ?_ | refine jS ?_ | refine jT ?_ | refine jU ?_) | (show WQ _ _ _ _; with_reducible first | refine jV ?_ | refine jW ?_ | refine jX ?_ | refine jY ?_ | refine jZ ?_ | refine kA ?_ | refine kB ?_ | refine kC ?_) | ((first | (refine jG (fun hc => ?_) (fun hc => ?_) <;> rw [hc]) | refine jQ (fun hc => ?_) (fun hc => ?_)) <;> (try simp only [nrB] at hc) <;> (try (exfalso; first | omega | exact hc trivial | exact hc rfl)))))
  refine OW_callP rfl rfl rfl (kinds_n _) rfl ?_
  (repeat' (first | (show WL _ _ _ _ _ _ _; first | refine jA ?_ | refine jB ?_ | refine jC ?_ | refine jD ?_ | refine jE ?_ | refine jF ?_) | (show OW _ _ _ _ _ _; first | refine OW_E ?_ | refine jI ?_ | refine jJ ?_ | refine jK (fun bk => ?_) | refine jL (fun bk => ?_)) | (show WC _ _ _ _ _ _; first | refine jM ?_ | refine jN ?_ | refine jO ?_ | refine jP ?_ | refine jR ?_ | refine jS ?_ | refine jT ?_ | refine jU ?_) | (show WQ _ _ _ _; with_reducible first | refine jV ?_ | refine jW ?_ | refine jX ?_ | refine jY ?_ | refine jZ ?_ | refine kA ?_ | refine kB ?_ | refine kC ?_) | ((first | (refine jG (fun hc => ?_) (fun hc => ?_) <;> rw [hc]) | refine jQ (fun hc => ?_) (fun hc => ?_)) <;> (try simp only [nrB] at hc) <;> (try (exfalso; first | omega | exact hc trivial | exact hc rfl)))))
  obtain ⟨b3, hb3⟩ : ∃ b3, b3 = bk := ⟨_, rfl⟩
  rw [← hb3]
  refine OW_holds (L' := [(b3, cl [.nilFunc, .nilFunc, .nilFunc] 70)] :: rdR p q v most kn :: D :: E :: C :: K :: L) (fun w h => h) ?_
  clear hb3
  refine OW_storeAggTo (l := [.nilFunc, .nilFunc, .nilFunc]) (vs := knF) knF rfl rfl (by rfl) (by rfl) (by rfl) (by repeat (first | exact Upd.here | apply Upd.there)) (by decide) ?_
  (repeat' (first | (show WL _ _ _ _ _ _ _; first | refine jA ?_ | refine jB ?_ | refine jC ?_ | refine jD ?_ | refine jE ?_ | refine jF ?_) | (show OW _ _ _ _ _ _; first | refine OW_E ?_ | refine jI ?_ | refine jJ ?_ | refine jK (fun bk => ?_) | refine jL (fun bk => ?_)) | (show WC _ _ _ _ _ _; first | refine jM ?_ | refine jN ?_ | refine jO ?_ | refine jP ?_ | refine jR ?_ | refine jS ?_ | refine jT ?_ | refine jU ?_) | (show WQ _ _ _ _; with_reducible first | refine jV ?_ | refine jW ?_ | refine jX ?_ | refine jY ?_ | refine jZ ?_ | refine kA ?_ | refine kB ?_ | refine kC ?_) | ((first | (refine jG (fun hc => ?_) (fun hc => ?_) <;> rw [hc]) | refine jQ (fun hc => ?_) (fun hc => ?_)) <;> (try simp only [nrB] at hc) <;> (try (exfalso; first | omega | exact hc trivial | exact hc rfl)))))
  refine WC_loop (X := Nat × S6 × Bool × Value × Chunk × Chunk × Value × Chunk) (fun x => [(0, .pointer (some ⟨p, 0, none⟩)), (3, .pointer (some ⟨b3, 0, none⟩)), (4, .bool x.2.2.1)])
    (fun x => [(b3, cl knF 70)] :: rdR p q x.2.2.2.1 most x.2.2.2.2.2.2.1 :: x.2.2.2.2.1 :: E :: x.2.2.2.2.2.1 :: x.2.2.2.2.2.2.2 :: L)
    (fun x => x.2.1.e = 0 ∧ RdN q d x.2.1.t x.2.2.2.2.1 E ∧ Ow 5 1 x.2.2.2.1 x.2.1.out.length (bsv x.2.1.out) x.2.2.2.2.2.1 ∧ x.2.1.out.length ≤ most ∧ KnD x.2.2.2.2.2.2.1 x.2.2.2.2.2.2.2 ∧ (x.2.2.1 = false → 8 * d.length < x.1 + x.2.1.t ∧ rwS d most x.1 x.2.1 = R) ∧ (x.2.2.1 = true → x.2.1 = R)) (fun x => if x.2.2.1 then 0 else x.1 + 1)
    (8 * d.length + 1, s, false, v, D, C, kn, K) ⟨he, h, ho, hom, hkn, fun _ => ⟨by simp only; omega, hR⟩, fun hh => by cases hh⟩ (by repeat (first | exact Sub.nil | refine Sub.cons rfl ?_ | refine Sub.cons (lk_int rfl (by first | omega | (dsimp only; omega))) ?_)) (fun w h => h) ?_
  clear hR ho hom h
  rintro ⟨f, s1, bb, v1, D1, C1, kn1, K1⟩ ⟨he1, hr1, ho1, hl1, hk1, hf1, hf2⟩
  simp only at he1 hr1 ho1 hl1 hk1 hf1 hf2 ⊢
  cases bb with
  | true =>
    have hf2 := hf2 rfl
    subst hf2
    (repeat' (first | (show WL _ _ _ _ _ _ _; first | refine jA ?_ | refine jB ?_ | refine jC ?_ | refine jD ?_ | refine jE ?_ | refine jF ?_) | (show OW _ _ _ _ _ _; first | refine OW_E ?_ | refine jI ?_ | refine jJ ?_ | refine jK (fun bk => ?_) | refine jL (fun bk => ?_)) | (show WC _ _ _ _ _ _; first | refine jM ?_ | refine jN ?_ | refine jO ?_ | refine jP ?_ | refine jR ?_ | refine jS ?_ | refine jT ?_ | refine jU ?_) | (show WQ _ _ _ _; with_reducible first | refine jV ?_ | refine jW ?_ | refine jX ?_ | refine jY ?_ | refine jZ ?_ | refine kA ?_ | refine kB ?_ | refine kC ?_) | ((first | (refine jG (fun hc => ?_) (fun hc => ?_) <;> rw [hc]) | refine jQ (fun hc => ?_) (fun hc => ?_)) <;> (try simp only [nrB] at hc) <;> (try (exfalso; first | omega | exact hc trivial | exact hc rfl)))))
    (first | refine WQ_retI rfl rfl ?_ | refine WQ_endI rfl rfl ?_)
    exact ⟨_, iC, .inr ⟨he1, rfl, v1, D1, C1, kn1, ho1, hl1, hr1, rfl⟩⟩
  | false =>
    obtain ⟨hf3, hsl⟩ := hf1 rfl
    clear hf1 hf2
    have ht1 := hr1.1
    obtain ⟨f, rfl⟩ : ∃ g, f = g + 1 := ⟨f - 1, by omega⟩
    rw [rwS] at hsl
    have htk := ptake_n p q most 3 v1 kn1 d s1 D1 E (C1 :: K1 :: [(b3, cl knF 70)] :: L) hr1 hl (by decide) he1
    have htv := tv_lt d s1 3
    have hto := tk_out d s1 3
    have htt : (tk d s1 3).e = 0 → (tk d s1 3).t = s1.t + 3 := fun h0 => by
      by_cases hc : s1.t + 3 ≤ 8 * d.length
      · rw [tk_ok hc]
      · rw [Go.If.tk_no hc he1] at h0; cases h0
    generalize tv d s1 3 = z at htk htv hsl
    generalize tk d s1 3 = s2 at htk hto htt hsl
    rw [← hto] at ho1 hl1
    (repeat' (first | (show WL _ _ _ _ _ _ _; first | refine jA ?_ | refine jB ?_ | refine jC ?_ | refine jD ?_ | refine jE ?_ | refine jF ?_) | (show OW _ _ _ _ _ _; first | refine OW_E ?_ | refine jI ?_ | refine jJ ?_ | refine jK (fun bk => ?_) | refine jL (fun bk => ?_)) | (show WC _ _ _ _ _ _; first | refine jM ?_ | refine jN ?_ | refine jO ?_ | refine jP ?_ | refine jR ?_ | refine jS ?_ | refine jT ?_ | refine jU ?_) | (show WQ _ _ _ _; with_reducible first | refine jV ?_ | refine jW ?_ | refine jX ?_ | refine jY ?_ | refine jZ ?_ | refine kA ?_ | refine kB ?_ | refine kC ?_) | ((first | (refine jG (fun hc => ?_) (fun hc => ?_) <;> rw [hc]) | refine jQ (fun hc => ?_) (fun hc => ?_)) <;> (try simp only [nrB] at hc) <;> (try (exfalso; first | omega | exact hc trivial | exact hc rfl)))))
    refine OW_call rfl rfl rfl (Gv.holds htk (fun w h => iH h)) rfl (fun r L' hp => ?_)
    rcases hp with ⟨h2, rfl, rfl⟩ | ⟨h2, rfl, D2, hr2, rfl⟩
    · rw [if_pos h2] at hsl
      subst hsl
      (repeat' (first | (show WL _ _ _ _ _ _ _; first | refine jA ?_ | refine jB ?_ | refine jC ?_ | refine jD ?_ | refine jE ?_ | refine jF ?_) | (show OW _ _ _ _ _ _; first | refine OW_E ?_ | refine jI ?_ | refine jJ ?_ | refine jK (fun bk => ?_) | refine jL (fun bk => ?_)) | (show WC _ _ _ _ _ _; first | refine jM ?_ | refine jN ?_ | refine jO ?_ | refine jP ?_ | refine jR ?_ | refine jS ?_ | refine jT ?_ | refine jU ?_) | (show WQ _ _ _ _; with_reducible first | refine jV ?_ | refine jW ?_ | refine jX ?_ | refine jY ?_ | refine jZ ?_ | refine kA ?_ | refine kB ?_ | refine kC ?_) | ((first | (refine jG (fun hc => ?_) (fun hc => ?_) <;> rw [hc]) | refine jQ (fun hc => ?_) (fun hc => ?_)) <;> (try simp only [nrB] at hc) <;> (try (exfalso; first | omega | exact hc trivial | exact hc rfl)))))
      (first | refine WQ_retI rfl rfl ?_ | refine WQ_endI rfl rfl ?_)
      exact ⟨_, iC, .inl ⟨h2, rfl, rfl⟩⟩
    rw [if_neg (show ¬ s2.e ≠ 0 by omega)] at hsl
    have htt := htt h2
    (repeat' (first | (show WL _ _ _ _ _ _ _; first | refine jA ?_ | refine jB ?_ | refine jC ?_ | refine jD ?_ | refine jE ?_ | refine jF ?_) | (show OW _ _ _ _ _ _; first | refine OW_E ?_ | refine jI ?_ | refine jJ ?_ | refine jK (fun bk => ?_) | refine jL (fun bk => ?_)) | (show WC _ _ _ _ _ _; first | refine jM ?_ | refine jN ?_ | refine jO ?_ | refine jP ?_ | refine jR ?_ | refine jS ?_ | refine jT ?_ | refine jU ?_) | (show WQ _ _ _ _; with_reducible first | refine jV ?_ | refine jW ?_ | refine jX ?_ | refine jY ?_ | refine jZ ?_ | refine kA ?_ | refine kB ?_ | refine kC ?_) | ((first | (refine jG (fun hc => ?_) (fun hc => ?_) <;> rw [hc]) | refine jQ (fun hc => ?_) (fun hc => ?_)) <;> (try simp only [nrB] at hc) <;> (try (exfalso; first | omega | exact hc trivial | exact hc rfl)))))
    refine OW_EV (EV_bit rfl rfl (bit_and16 (a := z) (b := 1) (by omega) (by decide))) rfl ?_
    rw [Nat.and_one_is_mod]
    (repeat' (first | (show WL _ _ _ _ _ _ _; first | refine jA ?_ | refine jB ?_ | refine jC ?_ | refine jD ?_ | refine jE ?_ | refine jF ?_) | (show OW _ _ _ _ _ _; first | refine OW_E ?_ | refine jI ?_ | refine jJ ?_ | refine jK (fun bk => ?_) | refine jL (fun bk => ?_)) | (show WC _ _ _ _ _ _; first | refine jM ?_ | refine jN ?_ | refine jO ?_ | refine jP ?_ | refine jR ?_ | refine jS ?_ | refine jT ?_ | refine jU ?_) | (show WQ _ _ _ _; with_reducible first | refine jV ?_ | refine jW ?_ | refine jX ?_ | refine jY ?_ | refine jZ ?_ | refine kA ?_ | refine kB ?_ | refine kC ?_) | ((first | (refine jG (fun hc => ?_) (fun hc => ?_) <;> rw [hc]) | refine jQ (fun hc => ?_) (fun hc => ?_)) <;> (try simp only [nrB] at hc) <;> (try (exfalso; first | omega | exact hc trivial | exact hc rfl)))))
    · rw [if_pos (show 5 < z by omega)] at hsl
      have e3 : R.e = 3 := by rw [← hsl, fl3 h2]
      rw [e3]
      (first | refine WQ_retI rfl rfl ?_ | refine WQ_endI rfl rfl ?_)
      exact ⟨_, iC, .inl ⟨by decide, rfl, rfl⟩⟩
    rw [if_neg (show ¬ 5 < z by omega)] at hsl
    have hle := bkS_le d most (z / 2) s2
    obtain ⟨fn, hfn, hbd, hbk⟩ := block_n (z / 2) p q most v1 kn1 d s2 D2 E C1 K1 ([(b3, cl knF 70)] :: L) (by omega) hr2 hl h2 hm hk1 hor.there ho1 hl1
    generalize bkS d most (z / 2) s2 = s3 at hsl hle hbk
    haveI := hbd
    refine OW_EV (EV_indexAddrA' (z / 2) rfl rfl (by omega) (by omega)) rfl ?_
    (repeat' (first | (show WL _ _ _ _ _ _ _; first | refine jA ?_ | refine jB ?_ | refine jC ?_ | refine jD ?_ | refine jE ?_ | refine jF ?_) | (show OW _ _ _ _ _ _; first | refine OW_E ?_ | refine jI ?_ | refine jJ ?_ | refine jK (fun bk => ?_) | refine jL (fun bk => ?_)) | (show WC _ _ _ _ _ _; first | refine jM ?_ | refine jN ?_ | refine jO ?_ | refine jP ?_ | refine jR ?_ | refine jS ?_ | refine jT ?_ | refine jU ?_) | (show WQ _ _ _ _; with_reducible first | refine jV ?_ | refine jW ?_ | refine jX ?_ | refine jY ?_ | refine jZ ?_ | refine kA ?_ | refine kB ?_ | refine kC ?_) | ((first | (refine jG (fun hc => ?_) (fun hc => ?_) <;> rw [hc]) | refine jQ (fun hc => ?_) (fun hc => ?_)) <;> (try simp only [nrB] at hc) <;> (try (exfalso; first | omega | exact hc trivial | exact hc rfl)))))
    refine OW_EV (EV_load (v := .func (.func fn) #[] #[]) rfl (by exact Fnd.there (Fnd.there (Fnd.there (Fnd.there (Fnd.there Fnd.here))))) (by rw [Nat.zero_add, Nat.mul_one, List.getElem?_toArray]; exact hfn)) rfl ?_
    (repeat' (first | (show WL _ _ _ _ _ _ _; first | refine jA ?_ | refine jB ?_ | refine jC ?_ | refine jD ?_ | refine jE ?_ | refine jF ?_) | (show OW _ _ _ _ _ _; first | refine OW_E ?_ | refine jI ?_ | refine jJ ?_ | refine jK (fun bk => ?_) | refine jL (fun bk => ?_)) | (show WC _ _ _ _ _ _; first | refine jM ?_ | refine jN ?_ | refine jO ?_ | refine jP ?_ | refine jR ?_ | refine jS ?_ | refine jT ?_ | refine jU ?_) | (show WQ _ _ _ _; with_reducible first | refine jV ?_ | refine jW ?_ | refine jX ?_ | refine jY ?_ | refine jZ ?_ | refine kA ?_ | refine kB ?_ | refine kC ?_) | ((first | (refine jG (fun hc => ?_) (fun hc => ?_) <;> rw [hc]) | refine jQ (fun hc => ?_) (fun hc => ?_)) <;> (try simp only [nrB] at hc) <;> (try (exfalso; first | omega | exact hc trivial | exact hc rfl)))))
    refine OW_call rfl rfl rfl (Gv.holds hbk (fun w h => iH h)) rfl (fun r L' hp => ?_)
    rcases hp with ⟨h3, rfl, rfl⟩ | ⟨h3, rfl, v3, D3, C3, kn3, K3, hk3, ho3, hl3, hr3, rfl⟩
    · rw [if_pos h3] at hsl
      subst hsl
      (repeat' (first | (show WL _ _ _ _ _ _ _; first | refine jA ?_ | refine jB ?_ | refine jC ?_ | refine jD ?_ | refine jE ?_ | refine jF ?_) | (show OW _ _ _ _ _ _; first | refine OW_E ?_ | refine jI ?_ | refine jJ ?_ | refine jK (fun bk => ?_) | refine jL (fun bk => ?_)) | (show WC _ _ _ _ _ _; first | refine jM ?_ | refine jN ?_ | refine jO ?_ | refine jP ?_ | refine jR ?_ | refine jS ?_ | refine jT ?_ | refine jU ?_) | (show WQ _ _ _ _; with_reducible first | refine jV ?_ | refine jW ?_ | refine jX ?_ | refine jY ?_ | refine jZ ?_ | refine kA ?_ | refine kB ?_ | refine kC ?_) | ((first | (refine jG (fun hc => ?_) (fun hc => ?_) <;> rw [hc]) | refine jQ (fun hc => ?_) (fun hc => ?_)) <;> (try simp only [nrB] at hc) <;> (try (exfalso; first | omega | exact hc trivial | exact hc rfl)))))
      (first | refine WQ_retI rfl rfl ?_ | refine WQ_endI rfl rfl ?_)
      exact ⟨_, iC, .inl ⟨h3, rfl, rfl⟩⟩
    rw [if_neg (show ¬ s3.e ≠ 0 by omega)] at hsl
    have hlt := hle.t
    (repeat' (first | (show WL _ _ _ _ _ _ _; first | refine jA ?_ | refine jB ?_ | refine jC ?_ | refine jD ?_ | refine jE ?_ | refine jF ?_) | (show OW _ _ _ _ _ _; first | refine OW_E ?_ | refine jI ?_ | refine jJ ?_ | refine jK (fun bk => ?_) | refine jL (fun bk => ?_)) | (show WC _ _ _ _ _ _; first | refine jM ?_ | refine jN ?_ | refine jO ?_ | refine jP ?_ | refine jR ?_ | refine jS ?_ | refine jT ?_ | refine jU ?_) | (show WQ _ _ _ _; with_reducible first | refine jV ?_ | refine jW ?_ | refine jX ?_ | refine jY ?_ | refine jZ ?_ | refine kA ?_ | refine kB ?_ | refine kC ?_) | ((first | (refine jG (fun hc => ?_) (fun hc => ?_) <;> rw [hc]) | refine jQ (fun hc => ?_) (fun hc => ?_)) <;> (try simp only [nrB] at hc) <;> (try (exfalso; first | omega | exact hc trivial | exact hc rfl)))))
    refine WQ_round (X := Nat × S6 × Bool × Value × Chunk × Chunk × Value × Chunk) (μ := fun x => if x.2.2.1 then 0 else x.1 + 1) (x := (f + 1, s1, false, v1, D1, C1, kn1, K1)) (f, s3, ((z % 2 : Nat) : Int) == 1, v3, D3, C3, kn3, K3) (by simp only [Bool.false_eq_true, if_false]; split <;> omega) ⟨h3, hr3, ho3, hl3, hk3, fun hb => ?_, fun hb => ?_⟩ (by repeat (first | exact Sub.nil | refine Sub.cons rfl ?_ | refine Sub.cons (lk_int rfl (by first | omega | (dsimp only; omega))) ?_)) (fun w h => iH h)
    · have hb2 : ¬ z % 2 = 1 := fun hh => by simp only [hh] at hb; cases hb
      rw [if_neg hb2] at hsl
      exact ⟨by simp only; omega, hsl⟩
    · have hb2 : z % 2 = 1 := by
        simp only at hb
        have := eq_of_beq hb
        omega
      rw [if_pos hb2] at hsl
      exact hsl

set_option maxHeartbeats 4000000 in
theorem praw_n (a : Option Addr) (c : Nat) (d : List UInt8) (most : Int) (m : Nat) (L : List Chunk) (hv : Sl L 1 (.slice a d.length c) d.length (bsv d)) (hl : d.length ≤ 140737488355328) (hm1 : max most 0 = (m : Int)) (hm : m ≤ 1000000) (hor : OrAt L) :
    Gv Tryd.prog 12 [.slice a d.length c, .int .i64 most].toArray L (fun r L' =>
      ((rawS d m).e ≠ 0 ∧ r = .tuple #[.slice none 0 0, .int .i64 0, .int .i64 ((rawS d m).e : Int)] ∧ L' = L) ∨
      ((rawS d m).e = 0 ∧ ∃ v C, r = .tuple #[v, .int .i64 (((rawS d m).t + 7) / 8 : Nat), .int .i64 0] ∧ Ow 5 1 v (rawS d m).out.length (bsv (rawS d m).out) C ∧ (rawS d m).out.length ≤ m ∧ (rawS d m).t ≤ 8 * d.length ∧ L' = C :: L)) := by
  refine Gv.of_body Tryd.func12 rfl rfl ?_
  (repeat' (first | (show WL _ _ _ _ _ _ _; first | refine jA ?_ | refine jB ?_ | refine jC ?_ | refine jD ?_ | refine jE ?_ | refine jF ?_) | (show OW _ _ _ _ _ _; first | refine OW_E ?_ | refine jI ?_ | refine jJ ?_ | refine jK (fun bk => ?_) | refine jL (fun bk => ?_)) | (show WC _ _ _ _ _ _; first | refine jM ?_ | refine jN ?_ | refine jO ?_ | refine jP ?_ | refine jR ?_ | refine jS ?_ | refine jT ?_ | refine jU ?_) | (show WQ _ _ _ _; with_reducible first | refine jV ?_ | refine jW ?_ | refine jX ?_ | refine jY ?_ | refine jZ ?_ | refine kA ?_ | refine kB ?_ | refine kC ?_) | ((first | (refine jG (fun hc => ?_) (fun hc => ?_) <;> rw [hc]) | refine jQ (fun hc => ?_) (fun hc => ?_)) <;> (try simp only [nrB] at hc) <;> (try (exfalso; first | omega | exact hc trivial | exact hc rfl)))))
  refine OW_call rfl rfl rfl (read_n d _ L hv hl) rfl (fun r L' hp => ?_)
  obtain ⟨q, D, E, rfl, hr, rfl⟩ := hp
  (repeat' (first | (show WL _ _ _ _ _ _ _; first | refine jA ?_ | refine jB ?_ | refine jC ?_ | refine jD ?_ | refine jE ?_ | refine jF ?_) | (show OW _ _ _ _ _ _; first | refine OW_E ?_ | refine jI ?_ | refine jJ ?_ | refine jK (fun bk => ?_) | refine jL (fun bk => ?_)) | (show WC _ _ _ _ _ _; first | refine jM ?_ | refine jN ?_ | refine jO ?_ | refine jP ?_ | refine jR ?_ | refine jS ?_ | refine jT ?_ | refine jU ?_) | (show WQ _ _ _ _; with_reducible first | refine jV ?_ | refine jW ?_ | refine jX ?_ | refine jY ?_ | refine jZ ?_ | refine kA ?_ | refine kB ?_ | refine kC ?_) | ((first | (refine jG (fun hc => ?_) (fun hc => ?_) <;> rw [hc]) | refine jQ (fun hc => ?_) (fun hc => ?_)) <;> (try simp only [nrB] at hc) <;> (try (exfalso; first | omega | exact hc trivial | exact hc rfl)))))
  rw [hm1]
  obtain ⟨p, hp⟩ : ∃ p, p = bk := ⟨_, rfl⟩
  rw [← hp]
  clear hp
  refine OW_holds (L' := rdR p q (.slice none 0 0) m (.pointer none) :: D :: E :: [] :: [] :: L) (fun w h => by
    have h' : Holds w (rdR p q (.slice none 0 0) m (.pointer none) :: D :: E :: L) := h
    simpa only [Holds, List.flatten_cons, List.nil_append] using h') ?_
  have hb := blocks_n p q m (.slice none 0 0) (.pointer none) d ⟨0, [], 0⟩ D E [] [] L hr hl rfl hm (.inl ⟨rfl, rfl⟩) hor (.inl ⟨rfl, rfl, rfl, rfl⟩) (Nat.zero_le _)
  change Gv _ _ _ _ (fun r L' => ((rawS d m).e ≠ 0 ∧ r = .int .i64 ((rawS d m).e : Int) ∧ L' = L) ∨ ((rawS d m).e = 0 ∧ r = .int .i64 0 ∧ ∃ v' D' C' kn', Ow 5 1 v' (rawS d m).out.length (bsv (rawS d m).out) C' ∧ (rawS d m).out.length ≤ m ∧ RdN q d (rawS d m).t D' E ∧ L' = rdR p q v' m kn' :: D' :: E :: C' :: L)) at hb
  generalize rawS d m = R at hb ⊢
  refine OW_call rfl rfl rfl hb rfl (fun r L' hp => ?_)
  rcases hp with ⟨h1, rfl, rfl⟩ | ⟨h1, rfl, v1, D1, C1, kn1, ho1, hl1, hr1, rfl⟩
  · (repeat' (first | (show WL _ _ _ _ _ _ _; first | refine jA ?_ | refine jB ?_ | refine jC ?_ | refine jD ?_ | refine jE ?_ | refine jF ?_) | (show OW _ _ _ _ _ _; first | refine OW_E ?_ | refine jI ?_ | refine jJ ?_ | refine jK (fun bk => ?_) | refine jL (fun bk => ?_)) | (show WC _ _ _ _ _ _; first | refine jM ?_ | refine jN ?_ | refine jO ?_ | refine jP ?_ | refine jR ?_ | refine jS ?_ | refine jT ?_ | refine jU ?_) | (show WQ _ _ _ _; with_reducible first | refine jV ?_ | refine jW ?_ | refine jX ?_ | refine jY ?_ | refine jZ ?_ | refine kA ?_ | refine kB ?_ | refine kC ?_) | ((first | (refine jG (fun hc => ?_) (fun hc => ?_) <;> rw [hc]) | refine jQ (fun hc => ?_) (fun hc => ?_)) <;> (try simp only [nrB] at hc) <;> (try (exfalso; first | omega | exact hc trivial | exact hc rfl)))))
    refine WQ_retI (rs := [.tmp 4, .tmp 5, .tmp 6]) (vs := [.slice none 0 0, .int .i64 0, .int .i64 (R.e : Int)]) rfl rfl ?_
    exact ⟨_, iC, .inl ⟨h1, rfl, rfl⟩⟩
  · obtain ⟨ht1, rv, rfl, hoE⟩ := hr1
    have hus := used_n q ((R.t + 7) / 8) rv (.int .u64 ((val d / 2 ^ R.t % 2 ^ (8 * ((R.t + 7) / 8) - R.t) : Nat) : Int)) (.int .i64 ((8 * ((R.t + 7) / 8) - R.t : Nat) : Int)) 68 (rdR p q v1 m kn1 :: [(q, cl (rdC rv d R.t ((R.t + 7) / 8)) 68)] :: E :: C1 :: L) (by exact Fnd.there Fnd.here)
    generalize hn : (R.t + 7) / 8 = n at hus ⊢
    unfold rdR at hus ⊢
    (repeat' (first | (show WL _ _ _ _ _ _ _; first | refine jA ?_ | refine jB ?_ | refine jC ?_ | refine jD ?_ | refine jE ?_ | refine jF ?_) | (show OW _ _ _ _ _ _; first | refine OW_E ?_ | refine jI ?_ | refine jJ ?_ | refine jK (fun bk => ?_) | refine jL (fun bk => ?_)) | (show WC _ _ _ _ _ _; first | refine jM ?_ | refine jN ?_ | refine jO ?_ | refine jP ?_ | refine jR ?_ | refine jS ?_ | refine jT ?_ | refine jU ?_) | (show WQ _ _ _ _; with_reducible first | refine jV ?_ | refine jW ?_ | refine jX ?_ | refine jY ?_ | refine jZ ?_ | refine kA ?_ | refine kB ?_ | refine kC ?_) | ((first | (refine jG (fun hc => ?_) (fun hc => ?_) <;> rw [hc]) | refine jQ (fun hc => ?_) (fun hc => ?_)) <;> (try simp only [nrB] at hc) <;> (try (exfalso; first | omega | exact hc trivial | exact hc rfl)))))
    refine WC_draw [[(p, cl [.pointer (some ⟨q, 0, none⟩), v1, .int .i64 (m : Int), kn1] 47)]] [] mixed ?_
    (refine WR_t 0 ?_; refine WR_t 1 ?_; refine WR_t 2 ?_; refine WR_t 3 ?_; refine WR_t 4 ?_; refine WR_t 5 ?_; refine WR_t 6 ?_; refine WR_t 7 ?_)
    (refine WR_one 8 (by kernel_rfl) rfl rfl ?_)
    refine OW_callP rfl rfl rfl hus rfl ?_
    refine ⟨iC, ?_⟩
    (refine WR_t 9 ?_; refine WR_t 10 ?_; refine WR_t 11 ?_)
    (refine WR_done (by kernel_rfl) ?_)
    (repeat' (first | (show WL _ _ _ _ _ _ _; first | refine jA ?_ | refine jB ?_ | refine jC ?_ | refine jD ?_ | refine jE ?_ | refine jF ?_) | (show OW _ _ _ _ _ _; first | refine OW_E ?_ | refine jI ?_ | refine jJ ?_ | refine jK (fun bk => ?_) | refine jL (fun bk => ?_)) | (show WC _ _ _ _ _ _; first | refine jM ?_ | refine jN ?_ | refine jO ?_ | refine jP ?_ | refine jR ?_ | refine jS ?_ | refine jT ?_ | refine jU ?_) | (show WQ _ _ _ _; with_reducible first | refine jV ?_ | refine jW ?_ | refine jX ?_ | refine jY ?_ | refine jZ ?_ | refine kA ?_ | refine kB ?_ | refine kC ?_) | ((first | (refine jG (fun hc => ?_) (fun hc => ?_) <;> rw [hc]) | refine jQ (fun hc => ?_) (fun hc => ?_)) <;> (try simp only [nrB] at hc) <;> (try (exfalso; first | omega | exact hc trivial | exact hc rfl)))))
    refine WQ_retI (rs := [.tmp 4, .tmp 5, .tmp 6]) (vs := [v1, .int .i64 (n : Int), .int .i64 0]) rfl rfl ?_
    exact ⟨C1 :: L, iC, .inr ⟨h1, v1, C1, rfl, ho1, hl1, ht1, rfl⟩⟩
end Go.Proofs.YtkiaegkojlhaeaaDoor
