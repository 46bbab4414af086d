/- Contracts and facts on the way to the top. It proves no statement by itself. No conditions. -/
import Derived.Test.YtfbeigbkdkiliaaGreatDoorHA2
namespace Go.If
open Go.Vx Go.Hf
set_option linter.all false
structure Le (a b : S6) : Prop where
  t : a.t ≤ b.t
  o : a.out.length ≤ b.out.length
theorem Le.rfl' (a : S6) : Le a a := ⟨Nat.le_refl _, Nat.le_refl _⟩
theorem Le.tr {a b c : S6} (h : Le a b) (h2 : Le b c) : Le a c := ⟨Nat.le_trans h.t h2.t, Nat.le_trans h.o h2.o⟩
theorem fl_le (s : S6) (k : Nat) : Le s (fl s k) := ⟨by rw [fl_t]; exact Nat.le_refl _, by rw [fl_out]; exact Nat.le_refl _⟩
theorem tk_le (d : List UInt8) (s : S6) (n : Nat) : Le s (tk d s n) := ⟨tk_t d s n, by rw [tk_out]; exact Nat.le_refl _⟩
theorem sy_o [W0] (d : List UInt8) (s : S6) (l : List Nat) : (sy d s l).out = s.out := by
  unfold sy
  split
  · exact fl_out _ _
  · rfl
theorem sy_le [W0] (d : List UInt8) (s : S6) (l : List Nat) : Le s (sy d s l) := ⟨sy_t d s l, by rw [sy_o]; exact Nat.le_refl _⟩
theorem pt_le (most : Nat) (s : S6) (c : UInt8) : Le s (pt most s c) := by
  by_cases h : s.out.length < most
  · rw [pt_ok h]; exact ⟨Nat.le_refl _, by simp⟩
  · rw [pt_no (by omega)]; exact fl_le _ _
theorem cpL_le (most far : Nat) : ∀ n s, Le s (cpL most far n s)
  | 0, s => Le.rfl' s
  | n + 1, s => by
    rw [cpL]
    split
    · exact (pt_le _ _ _).tr (cpL_le most far n _)
    · exact Le.rfl' s
theorem mtS_le [W0] (d : List UInt8) (most k : Nat) (dl : List Nat) (s : S6) : Le s (mtS d most k dl s) := by
  unfold mtS
  have h1 := tk_le d s (lnB k).2
  have h2 := sy_le d (tk d s (lnB k).2) dl
  generalize tk d s (lnB k).2 = s1 at h1 h2 ⊢
  have h3 := h1.tr h2
  split
  · exact fl_le _ _
  · split
    · exact h3
    · split
      · exact h3.tr (fl_le _ _)
      · unfold mtD
        refine h3.tr (Le.tr ?_ (cpL_le _ _ _ _))
        split
        · exact (tk_le _ _ _).tr (fl_le _ _)
        · exact tk_le _ _ _
theorem cdC_le [W0] (d : List UInt8) (most : Nat) (l dl : List Nat) : ∀ f s, Le s (cdC d most l dl f s)
  | 0, s => Le.rfl' s
  | f + 1, s => by
    rw [cdC]
    have h := sy_le d s l
    split
    · exact Le.rfl' s
    · split
      · exact h
      · split
        · exact h.tr ((pt_le _ _ _).tr (cdC_le d most l dl f _))
        · split
          · exact h
          · exact h.tr ((mtS_le _ _ _ _ _).tr (cdC_le d most l dl f _))
theorem stL_le [W0] (d : List UInt8) (most : Nat) : ∀ k s, Le s (stL d most k s)
  | 0, s => Le.rfl' s
  | k + 1, s => by
    rw [stL]
    have h := tk_le d s 8
    split
    · refine Le.tr ?_ (stL_le d most k _)
      split
      · exact h.tr (pt_le _ _ _)
      · exact h
    · exact Le.rfl' s
theorem stS_le [W0] (d : List UInt8) (most : Nat) (s : S6) : Le s (stS d most s) := by
  unfold stS
  simp only
  have h0 : Le s ⟨8 * ((s.t + 7) / 8), s.out, s.e⟩ := ⟨by simp only; omega, Nat.le_refl _⟩
  have h1 := tk_le d ⟨8 * ((s.t + 7) / 8), s.out, s.e⟩ 16
  have h2 := tk_le d (tk d ⟨8 * ((s.t + 7) / 8), s.out, s.e⟩ 16) 16
  refine (h0.tr (h1.tr h2)).tr (Le.tr ?_ (stL_le d most _ _))
  split
  · exact Le.rfl' _
  · exact fl_le _ _
theorem rpS_le [W0] (d : List UInt8) (own : List Nat) (m : Nat) (s : S6) (l : List Nat) : Le s (rpS d own m s l) := by
  unfold rpS
  have h1 := sy_le d s own
  have h2 := h1.tr (tk_le d (sy d s own) (rpB (sv d s own)))
  split
  · exact h1
  · split
    · exact h2
    · split
      · exact h2.tr (fl_le _ _)
      · exact h2
theorem lpS_le [W0] (d : List UInt8) (own : List Nat) (m : Nat) : ∀ f s l, Le s (lpS d own m f s l).1
  | 0, s, l => Le.rfl' s
  | f + 1, s, l => by
    rw [lpS]
    have h := rpS_le d own m s l
    split
    · split
      · exact h.tr (lpS_le d own m f _ _)
      · exact h
    · exact Le.rfl' s
theorem owS_le [W0] (d : List UInt8) : ∀ k i s o, Le s (owS d k i s o).1
  | 0, i, s, o => Le.rfl' s
  | k + 1, i, s, o => by
    rw [owS]
    have h := tk_le d s 3
    split
    · exact h
    · exact h.tr (owS_le d k _ _ _)
theorem lcS_le [W0] (d : List UInt8) (s : S6) : Le s (lcS d s).1 := by
  unfold lcS
  have h := tk_le d s 4
  have h2 := h.tr (owS_le d (4 + tv d s 4) 0 (tk d s 4) (List.replicate 19 0))
  split
  · exact h
  · split
    · exact h2
    · split
      · exact h2
      · exact h2.tr (fl_le _ _)
theorem lgS_le [W0] (d : List UInt8) (m : Nat) (s : S6) : Le s (lgS d m s).1 := by
  unfold lgS
  have h := lcS_le d s
  split
  · exact h
  · exact h.tr (lpS_le _ _ _ _ _ _)
theorem dyT_le [W0] (d : List UInt8) (n1 n2 : Nat) (s : S6) : Le s (dyT d n1 n2 s).1 := by
  rw [dyT_eq]
  have h := lgS_le d (n1 + n2) s
  split
  · exact h
  · unfold dyK
    split
    · exact h
    · exact h.tr (fl_le _ _)
theorem dyS_le [W0] (d : List UInt8) (s : S6) : Le s (dyS d s).1 := by
  unfold dyS
  have h1 := tk_le d s 5
  have h2 := h1.tr (tk_le d (tk d s 5) 5)
  repeat' split
  · exact h1
  · exact h1.tr (fl_le _ _)
  · exact h2
  · exact h2.tr (fl_le _ _)
  · exact h2.tr (dyT_le _ _ _ _)
theorem dbS_le [W0] (d : List UInt8) (most : Nat) (s : S6) : Le s (dbS d most s) := by
  unfold dbS
  have h := dyS_le d s
  split
  · exact h
  · exact h.tr (cdC_le _ _ _ _ _ _)
def bkS [W0] (d : List UInt8) (most k : Nat) (s : S6) : S6 := if k = 0 then stS d most s else if k = 1 then cdC d most fxL fxD (8 * d.length + 1) s else dbS d most s
theorem bkS_le [W0] (d : List UInt8) (most k : Nat) (s : S6) : Le s (bkS d most k s) := by
  unfold bkS
  repeat' split
  · exact stS_le _ _ _
  · exact cdC_le _ _ _ _ _ _
  · exact dbS_le _ _ _
def rwS [W0] (d : List UInt8) (most : Nat) : Nat → S6 → S6
  | 0, s => s
  | f + 1, s => if (tk d s 3).e ≠ 0 then tk d s 3
    else if 5 < tv d s 3 then fl (tk d s 3) 3
    else if (bkS d most (tv d s 3 / 2) (tk d s 3)).e ≠ 0 then bkS d most (tv d s 3 / 2) (tk d s 3)
    else if tv d s 3 % 2 = 1 then bkS d most (tv d s 3 / 2) (tk d s 3)
    else rwS d most f (bkS d most (tv d s 3 / 2) (tk d s 3))
def rawS [W0] (d : List UInt8) (most : Nat) : S6 := rwS d most (8 * d.length + 1) ⟨0, [], 0⟩
end Go.If
namespace Go.Vx
theorem Gv.monoD {P : Program} {L : List Chunk} {f : FuncId} {args : Array Value} {post post' : Value → List Chunk → Prop} [W0] (h : Gv P f args L post) (hp : ∀ v L', post v L' → ∃ L'', (∀ w, Holds w L' → Holds w L'') ∧ post' v L'') : Gv P f args L post' :=
  ⟨fun w hw => (h.out w hw).mono fun _ _ he => let ⟨v, L', h1, h2, h3⟩ := he; let ⟨L'', h4, h5⟩ := hp v L' h2; ⟨v, L'', h1, h5, h4 _ h3⟩⟩
end Go.Vx
namespace Go.Proofs.YtfbeigbkdkiliaaGreatDoor
open Go Go.Vx Go.Hf Go.If
variable [W0]
set_option maxRecDepth 4000
set_option linter.all false
omit [W0] in
def knF : List Value := [.func (.func 215) #[] #[], .func (.func 216) #[] #[], .func (.func 217) #[] #[]]
set_option maxHeartbeats 2000000 in
theorem kinds_n (L : List Chunk) : GvP Tryz.prog 193 #[] L (.agg knF.toArray) := by
  refine Gv.of_body (args := []) Tryz.func193 rfl rfl ?_
  (repeat' first|refine kW ?_|refine kU fun bk=>?_|refine kV fun hc=>?_|refine kZ (fun hc=>?_) fun hc=>?_|fail)
  refine OW_EV (EV_buildArr (cs := knF) rfl (by rfl) (by rfl)) rfl ?_
  (repeat' first|refine kW ?_|refine kU fun bk=>?_|refine kV fun hc=>?_|refine kZ (fun hc=>?_) fun hc=>?_|fail)
  refine OW_holds (L' := [(bk, cl [.nilFunc, .nilFunc, .nilFunc] 292)] :: L) (fun w h => h) ?_
  refine OW_storeAggTo (l := [.nilFunc, .nilFunc, .nilFunc]) (vs := knF) knF rfl rfl (by rfl) (by rfl) (by rfl) iU (by decide) ?_
  (repeat' first|refine kW ?_|refine kU fun bk=>?_|refine kV fun hc=>?_|refine kZ (fun hc=>?_) fun hc=>?_|fail)
  first
    | (refine WQ_retC (vs := [.agg knF.toArray]) rfl (.agg ⟨by kernel_rfl, by kernel_rfl⟩ rfl (RdAt.cl' (vs := knF) (by repeat (first | assumption | exact Fnd.here | refine Fnd.there ?_)) rfl) rfl .nil) ?_
       exact ⟨L, fun w h => h.drop, rfl, rfl⟩)
    | (refine WQ_endC (vs := [.agg knF.toArray]) rfl (.agg ⟨by kernel_rfl, by kernel_rfl⟩ rfl (RdAt.cl' (vs := knF) (by repeat (first | assumption | exact Fnd.here | refine Fnd.there ?_)) rfl) rfl .nil) ?_
       exact ⟨L, fun w h => h.drop, rfl, rfl⟩)
set_option maxHeartbeats 4000000 in
/-- A block, by its type. -/
theorem block_n (k p q most : Nat) (v kn : Value) (d : List UInt8) (s : S6) (D E C K : Chunk) (L : List Chunk) (hk : k < 3) (h : RdN q d s.t D E) (hl : d.length ≤ 140737488355328) (he : s.e = 0) (hm : most ≤ 1000000) (hkn : KnD kn K) (hor : OrAt L)
    (ho : Ow 5 1 v s.out.length (bsv s.out) C) (hom : s.out.length ≤ most) : ∃ f, knF[k]? = some (.func (.func f) #[] #[]) ∧ BD Tryz.prog f ∧
    Gv Tryz.prog f [.pointer (some ⟨p, 0, none⟩)].toArray (rdR p q v most kn :: D :: E :: C :: K :: L) (fun r L' =>
      ((bkS d most k s).e ≠ 0 ∧ r = .int .i64 ((bkS d most k s).e : Int) ∧ L' = L) ∨
      ((bkS d most k s).e = 0 ∧ r = .int .i64 0 ∧ ∃ v' D' C' kn' K', KnD kn' K' ∧ Ow 5 1 v' (bkS d most k s).out.length (bsv (bkS d most k s).out) C' ∧ (bkS d most k s).out.length ≤ most ∧ RdN q d (bkS d most k s).t D' E ∧
        L' = rdR p q v' most kn' :: D' :: E :: C' :: K' :: L)) := by
  rcases (by omega : k = 0 ∨ k = 1 ∨ k = 2) with rfl | rfl | rfl
  · refine ⟨215, rfl, inferInstance, ?_⟩
    refine Gv.monoD (Gv.holds (pstored_n p q most v kn d s D E C (K :: L) h hl he hm hkn.one ho hom) (fun w h => h)) (fun r L' hp => ?_)
    rcases hp with ⟨h1, rfl, rfl⟩ | ⟨h1, rfl, v', D', C', ho', hl', hr', rfl⟩
    · exact ⟨L, fun w h => h.drop, .inl ⟨h1, rfl, rfl⟩⟩
    · exact ⟨_, fun w h => h, .inr ⟨h1, rfl, v', D', C', kn, K, hkn, ho', hl', hr', rfl⟩⟩
  · refine ⟨216, rfl, inferInstance, ?_⟩
    exact pfixed_n p q most v kn d s D E C K L h hl he hm hkn ho hom
  · refine ⟨217, rfl, inferInstance, ?_⟩
    refine Gv.monoD (pdynamic_n p q most v kn d s D E C (K :: L) h hl he hm hkn.one hor.there ho hom) (fun r L' hp => ?_)
    rcases hp with ⟨h1, rfl, rfl⟩ | ⟨h1, rfl, v', D', C', ho', hl', hr', rfl⟩
    · exact ⟨L, fun w h => h.drop, .inl ⟨h1, rfl, rfl⟩⟩
    · exact ⟨_, fun w h => h, .inr ⟨h1, rfl, v', D', C', kn, K, hkn, ho', hl', hr', rfl⟩⟩
set_option maxHeartbeats 8000000 in
theorem blocks_n (p q most : Nat) (v kn : Value) (d : List UInt8) (s : S6) (D E C K : Chunk) (L : List Chunk) (h : RdN q d s.t D E) (hl : d.length ≤ 140737488355328) (he : s.e = 0) (hm : most ≤ 1000000) (hkn : KnD kn K) (hor : OrAt L)
    (ho : Ow 5 1 v s.out.length (bsv s.out) C) (hom : s.out.length ≤ most) :
    Gv Tryz.prog 168 [.pointer (some ⟨p, 0, none⟩)].toArray (rdR p q v most kn :: D :: E :: C :: K :: L) (fun r L' =>
      ((rwS d most (8 * d.length + 1) s).e ≠ 0 ∧ r = .int .i64 ((rwS d most (8 * d.length + 1) s).e : Int) ∧ L' = L) ∨
      ((rwS d most (8 * d.length + 1) s).e = 0 ∧ r = .int .i64 0 ∧ ∃ v' D' C' kn', Ow 5 1 v' (rwS d most (8 * d.length + 1) s).out.length (bsv (rwS d most (8 * d.length + 1) s).out) C' ∧ (rwS d most (8 * d.length + 1) s).out.length ≤ most ∧ RdN q d (rwS d most (8 * d.length + 1) s).t D' E ∧ L' = rdR p q v' most kn' :: D' :: E :: C' :: L)) := by
  refine Gv.of_body Tryz.func168 rfl rfl ?_
  generalize hR : rwS d most (8 * d.length + 1) s = R
  (repeat' first|refine kW ?_|refine kU fun bk=>?_|refine kV fun hc=>?_|refine kZ (fun hc=>?_) fun hc=>?_|fail)
  refine OW_callP rfl rfl rfl (kinds_n _) rfl ?_
  (repeat' first|refine kW ?_|refine kU fun bk=>?_|refine kV fun hc=>?_|refine kZ (fun hc=>?_) fun hc=>?_|fail)
  obtain ⟨b3, hb3⟩ : ∃ b3, b3 = bk := ⟨_, rfl⟩
  rw [← hb3]
  refine OW_holds (L' := [(b3, cl [.nilFunc, .nilFunc, .nilFunc] 292)] :: rdR p q v most kn :: D :: E :: C :: K :: L) (fun w h => h) ?_
  clear hb3
  refine OW_storeAggTo (l := [.nilFunc, .nilFunc, .nilFunc]) (vs := knF) knF rfl rfl (by rfl) (by rfl) (by rfl) iU (by decide) ?_
  (repeat' first|refine kW ?_|refine kU fun bk=>?_|refine kV fun hc=>?_|refine kZ (fun hc=>?_) fun hc=>?_|fail)
  refine WC_loop (X := Nat × S6 × Bool × Value × Chunk × Chunk × Value × Chunk) (fun x => [(0, .pointer (some ⟨p, 0, none⟩)), (3, .pointer (some ⟨b3, 0, none⟩)), (4, .bool x.2.2.1)])
    (fun x => [(b3, cl knF 292)] :: rdR p q x.2.2.2.1 most x.2.2.2.2.2.2.1 :: x.2.2.2.2.1 :: E :: x.2.2.2.2.2.1 :: x.2.2.2.2.2.2.2 :: L)
    (fun x => x.2.1.e = 0 ∧ RdN q d x.2.1.t x.2.2.2.2.1 E ∧ Ow 5 1 x.2.2.2.1 x.2.1.out.length (bsv x.2.1.out) x.2.2.2.2.2.1 ∧ x.2.1.out.length ≤ most ∧ KnD x.2.2.2.2.2.2.1 x.2.2.2.2.2.2.2 ∧ (x.2.2.1 = false → 8 * d.length < x.1 + x.2.1.t ∧ rwS d most x.1 x.2.1 = R) ∧ (x.2.2.1 = true → x.2.1 = R)) (fun x => if x.2.2.1 then 0 else x.1 + 1)
    (8 * d.length + 1, s, false, v, D, C, kn, K) ⟨he, h, ho, hom, hkn, fun _ => ⟨by simp only; omega, hR⟩, fun hh => by cases hh⟩ iS (fun w h => h) ?_
  clear hR ho hom h
  rintro ⟨f, s1, bb, v1, D1, C1, kn1, K1⟩ ⟨he1, hr1, ho1, hl1, hk1, hf1, hf2⟩
  simp only at he1 hr1 ho1 hl1 hk1 hf1 hf2 ⊢
  cases bb with
  | true =>
    have hf2 := hf2 rfl
    subst hf2
    (repeat' first|refine kW ?_|refine kU fun bk=>?_|refine kV fun hc=>?_|refine kZ (fun hc=>?_) fun hc=>?_|fail)
    refine kR ?_
    exact ⟨_, iC, .inr ⟨he1, rfl, v1, D1, C1, kn1, ho1, hl1, hr1, rfl⟩⟩
  | false =>
    obtain ⟨hf3, hsl⟩ := hf1 rfl
    clear hf1 hf2
    have ht1 := hr1.1
    obtain ⟨f, rfl⟩ : ∃ g, f = g + 1 := ⟨f - 1, by omega⟩
    rw [rwS] at hsl
    have htk := ptake_n p q most 3 v1 kn1 d s1 D1 E (C1 :: K1 :: [(b3, cl knF 292)] :: L) hr1 hl (by decide) he1
    have htv := tv_lt d s1 3
    have hto := tk_out d s1 3
    have htt : (tk d s1 3).e = 0 → (tk d s1 3).t = s1.t + 3 := fun h0 => by
      by_cases hc : s1.t + 3 ≤ 8 * d.length
      · rw [tk_ok hc]
      · rw [Go.If.tk_no hc he1] at h0; cases h0
    generalize tv d s1 3 = z at htk htv hsl
    generalize tk d s1 3 = s2 at htk hto htt hsl
    rw [← hto] at ho1 hl1
    (repeat' first|refine kW ?_|refine kU fun bk=>?_|refine kV fun hc=>?_|refine kZ (fun hc=>?_) fun hc=>?_|fail)
    refine OW_call rfl rfl rfl (Gv.holds htk (fun w h => iH h)) rfl (fun r L' hp => ?_)
    rcases hp with ⟨h2, rfl, rfl⟩ | ⟨h2, rfl, D2, hr2, rfl⟩
    · rw [if_pos h2] at hsl
      subst hsl
      (repeat' first|refine kW ?_|refine kU fun bk=>?_|refine kV fun hc=>?_|refine kZ (fun hc=>?_) fun hc=>?_|fail)
      refine kR ?_
      exact ⟨_, iC, .inl ⟨h2, rfl, rfl⟩⟩
    rw [if_neg (show ¬ s2.e ≠ 0 by omega)] at hsl
    have htt := htt h2
    (repeat' first|refine kW ?_|refine kU fun bk=>?_|refine kV fun hc=>?_|refine kZ (fun hc=>?_) fun hc=>?_|fail)
    refine OW_EV (EV_bit rfl rfl (bit_and16 (a := z) (b := 1) (by omega) (by decide))) rfl ?_
    rw [Nat.and_one_is_mod]
    (repeat' first|refine kW ?_|refine kU fun bk=>?_|refine kV fun hc=>?_|refine kZ (fun hc=>?_) fun hc=>?_|fail)
    · rw [if_pos (show 5 < z by omega)] at hsl
      have e3 : R.e = 3 := by rw [← hsl, fl3 h2]
      rw [e3]
      refine kR ?_
      exact ⟨_, iC, .inl ⟨by decide, rfl, rfl⟩⟩
    rw [if_neg (show ¬ 5 < z by omega)] at hsl
    have hle := bkS_le d most (z / 2) s2
    obtain ⟨fn, hfn, hbd, hbk⟩ := block_n (z / 2) p q most v1 kn1 d s2 D2 E C1 K1 ([(b3, cl knF 292)] :: L) (by omega) hr2 hl h2 hm hk1 hor.there ho1 hl1
    generalize bkS d most (z / 2) s2 = s3 at hsl hle hbk
    haveI := hbd
    refine OW_EV (EV_indexAddrA' (z / 2) rfl rfl (by omega) (by omega)) rfl ?_
    (repeat' first|refine kW ?_|refine kU fun bk=>?_|refine kV fun hc=>?_|refine kZ (fun hc=>?_) fun hc=>?_|fail)
    refine OW_EV (EV_load (v := .func (.func fn) #[] #[]) rfl (by exact Fnd.there (Fnd.there (Fnd.there (Fnd.there (Fnd.there Fnd.here))))) (by rw [Nat.zero_add, Nat.mul_one, List.getElem?_toArray]; exact hfn)) rfl ?_
    (repeat' first|refine kW ?_|refine kU fun bk=>?_|refine kV fun hc=>?_|refine kZ (fun hc=>?_) fun hc=>?_|fail)
    refine OW_call rfl rfl rfl (Gv.holds hbk (fun w h => iH h)) rfl (fun r L' hp => ?_)
    rcases hp with ⟨h3, rfl, rfl⟩ | ⟨h3, rfl, v3, D3, C3, kn3, K3, hk3, ho3, hl3, hr3, rfl⟩
    · rw [if_pos h3] at hsl
      subst hsl
      (repeat' first|refine kW ?_|refine kU fun bk=>?_|refine kV fun hc=>?_|refine kZ (fun hc=>?_) fun hc=>?_|fail)
      refine kR ?_
      exact ⟨_, iC, .inl ⟨h3, rfl, rfl⟩⟩
    rw [if_neg (show ¬ s3.e ≠ 0 by omega)] at hsl
    have hlt := hle.t
    (repeat' first|refine kW ?_|refine kU fun bk=>?_|refine kV fun hc=>?_|refine kZ (fun hc=>?_) fun hc=>?_|fail)
    refine WQ_round (X := Nat × S6 × Bool × Value × Chunk × Chunk × Value × Chunk) (μ := fun x => if x.2.2.1 then 0 else x.1 + 1) (x := (f + 1, s1, false, v1, D1, C1, kn1, K1)) (f, s3, ((z % 2 : Nat) : Int) == 1, v3, D3, C3, kn3, K3) (by simp only [Bool.false_eq_true, if_false]; split <;> omega) ⟨h3, hr3, ho3, hl3, hk3, fun hb => ?_, fun hb => ?_⟩ iS (fun w h => iH h)
    · have hb2 : ¬ z % 2 = 1 := fun hh => by simp only [hh] at hb; cases hb
      rw [if_neg hb2] at hsl
      exact ⟨by simp only; omega, hsl⟩
    · have hb2 : z % 2 = 1 := by
        simp only at hb
        have := eq_of_beq hb
        omega
      rw [if_pos hb2] at hsl
      exact hsl
set_option maxHeartbeats 4000000 in
theorem praw_n (a : Option Addr) (c : Nat) (d : List UInt8) (most : Int) (m : Nat) (L : List Chunk) (hv : Sl L 1 (.slice a d.length c) d.length (bsv d)) (hl : d.length ≤ 140737488355328) (hm1 : max most 0 = (m : Int)) (hm : m ≤ 1000000) (hor : OrAt L) :
    Gv Tryz.prog 140 [.slice a d.length c, .int .i64 most].toArray L (fun r L' =>
      ((rawS d m).e ≠ 0 ∧ r = .tuple #[.slice none 0 0, .int .i64 0, .int .i64 ((rawS d m).e : Int)] ∧ L' = L) ∨
      ((rawS d m).e = 0 ∧ ∃ v C, r = .tuple #[v, .int .i64 (((rawS d m).t + 7) / 8 : Nat), .int .i64 0] ∧ Ow 5 1 v (rawS d m).out.length (bsv (rawS d m).out) C ∧ (rawS d m).out.length ≤ m ∧ (rawS d m).t ≤ 8 * d.length ∧ L' = C :: L)) := by
  refine Gv.of_body Tryz.func140 rfl rfl ?_
  (repeat' first|refine kW ?_|refine kU fun bk=>?_|refine kV fun hc=>?_|refine kZ (fun hc=>?_) fun hc=>?_|fail)
  refine OW_call rfl rfl rfl (read_n d _ L hv hl) rfl (fun r L' hp => ?_)
  obtain ⟨q, D, E, rfl, hr, rfl⟩ := hp
  (repeat' first|refine kW ?_|refine kU fun bk=>?_|refine kV fun hc=>?_|refine kZ (fun hc=>?_) fun hc=>?_|fail)
  rw [hm1]
  obtain ⟨p, hp⟩ : ∃ p, p = bk := ⟨_, rfl⟩
  rw [← hp]
  clear hp
  refine OW_holds (L' := rdR p q (.slice none 0 0) m (.pointer none) :: D :: E :: [] :: [] :: L) (fun w h => by
    have h' : Holds w (rdR p q (.slice none 0 0) m (.pointer none) :: D :: E :: L) := h
    simpa only [Holds, List.flatten_cons, List.nil_append] using h') ?_
  have hb := blocks_n p q m (.slice none 0 0) (.pointer none) d ⟨0, [], 0⟩ D E [] [] L hr hl rfl hm (.inl ⟨rfl, rfl⟩) hor (.inl ⟨rfl, rfl, rfl, rfl⟩) (Nat.zero_le _)
  change Gv _ _ _ _ (fun r L' => ((rawS d m).e ≠ 0 ∧ r = .int .i64 ((rawS d m).e : Int) ∧ L' = L) ∨ ((rawS d m).e = 0 ∧ r = .int .i64 0 ∧ ∃ v' D' C' kn', Ow 5 1 v' (rawS d m).out.length (bsv (rawS d m).out) C' ∧ (rawS d m).out.length ≤ m ∧ RdN q d (rawS d m).t D' E ∧ L' = rdR p q v' m kn' :: D' :: E :: C' :: L)) at hb
  generalize rawS d m = R at hb ⊢
  refine OW_call rfl rfl rfl hb rfl (fun r L' hp => ?_)
  rcases hp with ⟨h1, rfl, rfl⟩ | ⟨h1, rfl, v1, D1, C1, kn1, ho1, hl1, hr1, rfl⟩
  · (repeat' first|refine kW ?_|refine kU fun bk=>?_|refine kV fun hc=>?_|refine kZ (fun hc=>?_) fun hc=>?_|fail)
    refine WQ_retI (rs := [.tmp 4, .tmp 5, .tmp 6]) (vs := [.slice none 0 0, .int .i64 0, .int .i64 (R.e : Int)]) rfl rfl ?_
    exact ⟨_, iC, .inl ⟨h1, rfl, rfl⟩⟩
  · obtain ⟨ht1, rv, rfl, hoE⟩ := hr1
    have hus := used_n q ((R.t + 7) / 8) rv (.int .u64 ((val d / 2 ^ R.t % 2 ^ (8 * ((R.t + 7) / 8) - R.t) : Nat) : Int)) (.int .i64 ((8 * ((R.t + 7) / 8) - R.t : Nat) : Int)) 290 (rdR p q v1 m kn1 :: [(q, cl (rdC rv d R.t ((R.t + 7) / 8)) 290)] :: E :: C1 :: L) (by exact Fnd.there Fnd.here)
    generalize hn : (R.t + 7) / 8 = n at hus ⊢
    unfold rdR at hus ⊢
    (repeat' first|refine kW ?_|refine kU fun bk=>?_|refine kV fun hc=>?_|refine kZ (fun hc=>?_) fun hc=>?_|fail)
    refine WC_draw [[(p, cl [.pointer (some ⟨q, 0, none⟩), v1, .int .i64 (m : Int), kn1] 266)]] [] mixed ?_
    (refine WR_t 0 ?_; refine WR_t 1 ?_; refine WR_t 2 ?_; refine WR_t 3 ?_; refine WR_t 4 ?_; refine WR_t 5 ?_; refine WR_t 6 ?_; refine WR_t 7 ?_)
    (refine WR_one 8 (by kernel_rfl) rfl rfl ?_)
    refine OW_callP rfl rfl rfl hus rfl ?_
    refine ⟨iC, ?_⟩
    (refine WR_t 9 ?_; refine WR_t 10 ?_; refine WR_t 11 ?_)
    (refine WR_done (by kernel_rfl) ?_)
    (repeat' first|refine kW ?_|refine kU fun bk=>?_|refine kV fun hc=>?_|refine kZ (fun hc=>?_) fun hc=>?_|fail)
    refine WQ_retI (rs := [.tmp 4, .tmp 5, .tmp 6]) (vs := [v1, .int .i64 (n : Int), .int .i64 0]) rfl rfl ?_
    exact ⟨C1 :: L, iC, .inr ⟨h1, v1, C1, rfl, ho1, hl1, ht1, rfl⟩⟩
end Go.Proofs.YtfbeigbkdkiliaaGreatDoor
namespace Go.Proofs.YtfbeigbkdkiliaaGreatDoor
open Go Go.Vx Go.ChangeShapes Go.WideShapes Go.ChangeAt Go.RowKit
set_option maxRecDepth 4000
set_option linter.all false
def blks (W : World) : Chunk := W.heap.toList.zipIdx.map fun x => (x.2, x.1)
theorem blks_mem {W : World} {b : Nat} {o : Obj} : (b, o) ∈ blks W ↔ W.heap[b]? = some o := by
  unfold blks
  rw [List.mem_map]
  constructor
  · rintro ⟨⟨x, i⟩, hm, he⟩
    simp at he
    obtain ⟨rfl, rfl⟩ := he
    have := List.mk_mem_zipIdx_iff_getElem?.1 hm
    simpa using this
  · intro h
    exact ⟨(o, b), List.mk_mem_zipIdx_iff_getElem?.2 (by simpa using h), rfl⟩
theorem blks_keys (W : World) : ((blks W).map Prod.fst).Nodup := by
  have : (blks W).map Prod.fst = List.range' 0 W.heap.toList.length := by
    unfold blks
    rw [List.map_map]
    exact List.zipIdx_map_snd 0 _
  rw [this]
  exact List.nodup_range'
structure Kept (W W' : World) : Prop where
  os : W'.os = W.os
  output : W'.output = W.output
  block : ∀ k, k < W.heap.size → W'.heap[k]? = W.heap[k]?
theorem bridge {P : Program} {f : FuncId} {args : Array Value} {W : World} {v : Value} (h : ∀ [W0], GvP P f args [blks W] v) : Calls P f args W fun e W' => e = .returned v ∧ Kept W W' := by
  letI i : W0 := ⟨W.os, W.output⟩
  have h0 : GvP P f args [blks W] v := h
  have hH : Holds W [blks W] := ⟨by simpa using blks_keys W, fun x hx => blks_mem.1 (by simpa using hx), rfl, rfl⟩
  refine (h0.out W hH).mono fun e W' he => ?_
  obtain ⟨v', L', rfl, ⟨rfl, rfl⟩, hw⟩ := he
  refine ⟨rfl, hw.2.2.1, hw.2.2.2, fun k hk => ?_⟩
  have hm : W.heap[k]? = some W.heap[k] := by simp [hk]
  rw [hm]
  exact hw.2.1 (k, W.heap[k]) (by simpa using blks_mem.2 hm)
theorem Kept.frame {W W' : World} (h : Kept W W') (may : MemPlace → Prop) : W.keptBut W' may := by
  refine ⟨h.os, h.output, fun i hi => ?_⟩
  rw [h.block i hi]
  split <;> simp_all
theorem Kept.same {W W' : World} (h : Kept W W') {p : MemPlace} (hp : p.block < W.heap.size) : W.sameAt W' p := by
  cases p with
  | cell b o => exact World.cell?_of_block (w := W) (h.block b hp)
  | map b => exact h.block b hp
theorem Tryz.own : ownKnob Tryz.prog.godebug = none := by kernel_rfl
end Go.Proofs.YtfbeigbkdkiliaaGreatDoor
namespace Go.Proofs.YtfbeigbkdkiliaaGreatDoor
open Go Go.Vx
variable [W0]
set_option maxRecDepth 4000
set_option linter.all false
omit [W0] in
/-- A word turned to the left. -/
def rol (w : BitVec 32) (s : Nat) : BitVec 32 := w <<< s ||| w >>> (32 - s)
omit [W0] in
def stChoice (b c d : BitVec 32) : BitVec 32 := (b &&& c ||| ~~~ b &&& d) + 1518500249#32
omit [W0] in
def stParity (b c d : BitVec 32) : BitVec 32 := (b ^^^ c ^^^ d) + 1859775393#32
omit [W0] in
def stMajority (b c d : BitVec 32) : BitVec 32 := (b &&& c ||| b &&& d ||| c &&& d) + 2400959708#32
omit [W0] in
def stLast (b c d : BitVec 32) : BitVec 32 := (b ^^^ c ^^^ d) + 3395469782#32
abbrev w32 (w : BitVec 32) : Value := .int .u32 (w.toNat : Int)
theorem rotate_n (w : BitVec 32) (s : Nat) (L : List Chunk) (hs : s ≤ 32) : GvP Tryz.prog 98 [w32 w, .int .u64 (s : Int)].toArray L (w32 (rol w s)) := by
  refine Gv.of_body Tryz.func98 rfl rfl ?_
  (repeat' first|refine kX ?_|refine kU fun bk=>?_|refine kV fun hc=>?_|refine kZ (fun hc=>?_) fun hc=>?_|fail)
  refine OW_EV (EV_ari rfl rfl rfl) rfl ?_
  rw [show IntKind.u64.wrap (32 - (s : Int)) = ((32 - s : Nat) : Int) from by rw [wrap_u64 (by omega) (by omega)]; omega]
  (repeat' first|refine kX ?_|refine kU fun bk=>?_|refine kV fun hc=>?_|refine kZ (fun hc=>?_) fun hc=>?_|fail)
  ((first | refine WQ_retI rfl rfl ?_ | refine WQ_endI rfl rfl ?_); exact ⟨_, iC, rfl, rfl⟩)
theorem choice_n (b c d : BitVec 32) (L : List Chunk) : GvP Tryz.prog 133 [w32 b, w32 c, w32 d].toArray L (w32 (stChoice b c d)) := by
  refine Gv.of_body Tryz.func133 rfl rfl ?_
  (repeat' first|refine kX ?_|refine kU fun bk=>?_|refine kV fun hc=>?_|refine kZ (fun hc=>?_) fun hc=>?_|fail)
  ((first | refine WQ_retI rfl rfl ?_ | refine WQ_endI rfl rfl ?_); exact ⟨_, iC, rfl, rfl⟩)
theorem parity_n (b c d : BitVec 32) (L : List Chunk) : GvP Tryz.prog 134 [w32 b, w32 c, w32 d].toArray L (w32 (stParity b c d)) := by
  refine Gv.of_body Tryz.func134 rfl rfl ?_
  (repeat' first|refine kX ?_|refine kU fun bk=>?_|refine kV fun hc=>?_|refine kZ (fun hc=>?_) fun hc=>?_|fail)
  ((first | refine WQ_retI rfl rfl ?_ | refine WQ_endI rfl rfl ?_); exact ⟨_, iC, rfl, rfl⟩)
theorem majority_n (b c d : BitVec 32) (L : List Chunk) : GvP Tryz.prog 135 [w32 b, w32 c, w32 d].toArray L (w32 (stMajority b c d)) := by
  refine Gv.of_body Tryz.func135 rfl rfl ?_
  (repeat' first|refine kX ?_|refine kU fun bk=>?_|refine kV fun hc=>?_|refine kZ (fun hc=>?_) fun hc=>?_|fail)
  ((first | refine WQ_retI rfl rfl ?_ | refine WQ_endI rfl rfl ?_); exact ⟨_, iC, rfl, rfl⟩)
theorem last_n (b c d : BitVec 32) (L : List Chunk) : GvP Tryz.prog 136 [w32 b, w32 c, w32 d].toArray L (w32 (stLast b c d)) := by
  refine Gv.of_body Tryz.func136 rfl rfl ?_
  (repeat' first|refine kX ?_|refine kU fun bk=>?_|refine kV fun hc=>?_|refine kZ (fun hc=>?_) fun hc=>?_|fail)
  ((first | refine WQ_retI rfl rfl ?_ | refine WQ_endI rfl rfl ?_); exact ⟨_, iC, rfl, rfl⟩)
end Go.Proofs.YtfbeigbkdkiliaaGreatDoor
namespace Go.Proofs.YtfbeigbkdkiliaaGreatDoor
open Go Go.Vx
variable [W0]
set_option maxRecDepth 4000
set_option linter.all false
omit [W0] in
/-- A word's bytes, the highest first. -/
def wb (w : BitVec 32) : List UInt8 := [w2b (w >>> 24), w2b (w >>> 16), w2b (w >>> 8), w2b w]
omit [W0] in
def wbs : List (BitVec 32) → List UInt8
  | [] => []
  | w :: r => wb w ++ wbs r
theorem wbs_append (a b : List (BitVec 32)) : wbs (a ++ b) = wbs a ++ wbs b := by
  induction a with
  | nil => rfl
  | cons w r ih => simp [wbs, ih]
theorem wb_length (w : BitVec 32) : (wb w).length = 4 := rfl
theorem wbs_length (l : List (BitVec 32)) : (wbs l).length = 4 * l.length := by
  induction l with
  | nil => rfl
  | cons w r ih => simp [wbs, ih, wb_length]; omega
omit [W0] in
def stepFs : List Value := [.func (.func 133) #[] #[], .func (.func 134) #[] #[], .func (.func 135) #[] #[], .func (.func 136) #[] #[]]
theorem steps_n (L : List Chunk) : GvP Tryz.prog 97 [].toArray L (.agg stepFs.toArray) := by
  refine Gv.of_body Tryz.func97 rfl rfl ?_
  (repeat' first|refine kX ?_|refine kU fun bk=>?_|refine kV fun hc=>?_|refine kZ (fun hc=>?_) fun hc=>?_|fail)
  refine WQ_retC (vs := [.agg stepFs.toArray]) rfl (.agg ⟨by kernel_rfl, by kernel_rfl⟩ rfl (RdAt.cl' (vs := stepFs) (by repeat (first | assumption | exact Fnd.here | refine Fnd.there ?_)) rfl) rfl .nil) ?_
  exact ⟨L, fun w h => (iC : Inc L _).holds h, rfl, rfl⟩
theorem addWord_n (t : List UInt8) (w : BitVec 32) (v : Value) (m : Nat) (C : Chunk) (L : List Chunk) (h : Ow 5 1 v m (bsv t) C) (hm : m + 4 ≤ 140737488355328) :
    Gv Tryz.prog 59 [v, w32 w].toArray (C :: L) (fun r L' => ∃ v' C', r = v' ∧ L' = C' :: L ∧ Ow 5 1 v' (m + 4) (bsv (t ++ wb w)) C') := by
  refine Gv.of_body Tryz.func59 rfl rfl ?_
  (repeat' first|refine kX ?_|refine kU fun bk=>?_|refine kV fun hc=>?_|refine kZ (fun hc=>?_) fun hc=>?_|fail)
  refine OW_buildSlice (cs := bsv (wb w)) rfl (by rfl) (by simp [fillL, patch, Value.cells, zeros]; rfl) (by omega) rfl rfl (fun bk => ?_)
  (repeat' first|refine kX ?_|refine kU fun bk=>?_|refine kV fun hc=>?_|refine kZ (fun hc=>?_) fun hc=>?_|fail)
  refine OW_append rfl rfl h (sl_cells (c := (bsv (wb w)).toArray) (xs := bsv (wb w)) (m := 4) Fnd.here rfl (by simp)) (by repeat (first | exact Zip.here _ | apply Zip.there)) rfl bsv_ones (by omega) (by simp [maxLen]; omega) rfl (fun v' C' ho h1 h2 => ?_)
  (repeat' first|refine kX ?_|refine kU fun bk=>?_|refine kV fun hc=>?_|refine kZ (fun hc=>?_) fun hc=>?_|fail)
  (first | refine WQ_retI rfl rfl ?_ | refine WQ_endI rfl rfl ?_)
  rw [← bsv_append] at ho
  exact ⟨C' :: L, iC, v', C', rfl, rfl, ho⟩
end Go.Proofs.YtfbeigbkdkiliaaGreatDoor
namespace Go.Proofs.YtfbeigbkdkiliaaGreatDoor
open Go Go.Vx
variable [W0]
set_option maxRecDepth 4000
set_option linter.all false
omit [W0] in
/-- Word i of a block. -/
def wordAt (blk : List UInt8) (i : Nat) : BitVec 32 :=
  b2w (blk.getD (4 * i) 0) <<< 24 ||| b2w (blk.getD (4 * i + 1) 0) <<< 16 ||| b2w (blk.getD (4 * i + 2) 0) <<< 8 ||| b2w (blk.getD (4 * i + 3) 0)
omit [W0] in
def schedNext (blk : List UInt8) (l : List (BitVec 32)) : BitVec 32 :=
  if l.length < 16 then wordAt blk l.length
  else rol (l.getD (l.length - 3) 0 ^^^ l.getD (l.length - 8) 0 ^^^ l.getD (l.length - 14) 0 ^^^ l.getD (l.length - 16) 0) 1
omit [W0] in
/-- The first t words of a block's schedule. -/
def sched (blk : List UInt8) : Nat → List (BitVec 32)
  | 0 => []
  | t + 1 => sched blk t ++ [schedNext blk (sched blk t)]
theorem sched_length (blk : List UInt8) : ∀ t, (sched blk t).length = t
  | 0 => rfl
  | t + 1 => by simp [sched, sched_length blk t]
theorem sched_lo {blk : List UInt8} {t : Nat} (h : t < 16) : schedNext blk (sched blk t) = wordAt blk t := by
  simp [schedNext, sched_length, h]
theorem sched_hi {blk : List UInt8} {t : Nat} (h : 16 ≤ t) : schedNext blk (sched blk t) = rol ((sched blk t).getD (t - 3) 0 ^^^ (sched blk t).getD (t - 8) 0 ^^^ (sched blk t).getD (t - 14) 0 ^^^ (sched blk t).getD (t - 16) 0) 1 := by
  have : ¬ t < 16 := by omega
  simp [schedNext, sched_length, this]
theorem wsv_put (a : List (BitVec 32)) (w : BitVec 32) (rest : List Value) (j : Nat) (hj : j = a.length) (h : 0 < rest.length) : (wsv a ++ rest).set j (w32 w) = wsv (a ++ [w]) ++ rest.tail := by
  subst hj
  cases rest with
  | nil => simp at h
  | cons r rest =>
    have e : (wsv a).length = a.length := wsv_length
    rw [← e, List.set_append_right _ _ (Nat.le_refl _)]
    simp [wsv]
theorem wsv_app_get (a : List (BitVec 32)) (rest : List Value) {j : Nat} (h : j < a.length) : (wsv a ++ rest)[j]? = some (w32 (a.getD j 0)) := by
  rw [List.getElem?_append_left (by simpa [wsv_length] using h)]
  exact wsv_get (by simp [List.getD, h])
omit [W0] in
/-- The chain. -/
structure H5 where
  a : BitVec 32
  b : BitVec 32
  c : BitVec 32
  d : BitVec 32
  e : BitVec 32
omit [W0] in
/-- A digest in progress as cells. -/
def shaC (h : H5) (blk : List UInt8) (n : Nat) : List Value := w32 h.a :: w32 h.b :: w32 h.c :: w32 h.d :: w32 h.e :: (bsv blk ++ [.int .u64 (n : Int)])
theorem shaC_blk {h : H5} {blk : List UInt8} {n j : Nat} (hj : j < blk.length) : (shaC h blk n)[5 + j]? = some (.int .u8 ((blk.getD j 0).toNat : Int)) := by
  unfold shaC
  rw [show 5 + j = (j + 1 + 1 + 1 + 1) + 1 from by omega]
  simp only [List.getElem?_cons_succ]
  rw [List.getElem?_append_left (by simpa [bsv_length] using hj)]
  exact bsv_get (by simp [List.getD, hj])
theorem shaC_len {h : H5} {blk : List UInt8} {n : Nat} (hb : blk.length = 64) : (shaC h blk n)[69]? = some (.int .u64 (n : Int)) := by
  unfold shaC
  simp only [List.getElem?_cons_succ]
  rw [List.getElem?_append_right (by simp [bsv_length, hb])]
  simp [bsv_length, hb]
omit [W0] in
def Z80 : List Value := List.replicate 80 (.int .u32 0)
set_option maxHeartbeats 1000000 in
theorem schedule_n (h : H5) (blk : List UInt8) (n p : Nat) (T : TypeId) (L : List Chunk) (hb : blk.length = 64) (hp : Fnd L p (cl (shaC h blk n) T)) :
    GvP Tryz.prog 96 [.pointer (some ⟨p, 5, none⟩)].toArray L (.agg (wsv (sched blk 80)).toArray) := by
  refine Gv.of_body Tryz.func96 rfl rfl ?_
  (repeat' first|refine kX ?_|refine kU fun bk=>?_|refine kV fun hc=>?_|refine kZ (fun hc=>?_) fun hc=>?_|fail)
  rename_i b2
  refine WC_holds' (L' := [(bk, cl Z80 159)] :: [(b2, cl Z80 159)] :: L) (fun w h => h) ?_
  refine WC_loop (X := Nat × List Value) (fun x => [(0, .pointer (some ⟨p, 5, none⟩)), (2, .pointer (some ⟨b2, 0, none⟩)), (3, .pointer (some ⟨bk, 0, none⟩)), (7, .int .i64 (x.1 : Int))])
    (fun x => [(bk, cl (wsv (sched blk x.1) ++ x.2) 159)] :: [(b2, cl Z80 159)] :: L) (fun x => x.1 ≤ 16 ∧ x.2.length = 80 - x.1) (fun x => 80 - x.1) (0, Z80) ⟨by decide, by decide⟩ (by repeat (first | exact Sub.nil | refine Sub.cons rfl ?_ | refine Sub.cons (lk_int rfl (by first | omega | (dsimp only; omega))) ?_)) (fun w h => h) ?_
  intro x ⟨hx1, hx2⟩
  obtain ⟨t, rest⟩ := x
  simp only at hx1 hx2 ⊢
  (repeat' first|refine kX ?_|refine kU fun bk=>?_|refine kV fun hc=>?_|refine kZ (fun hc=>?_) fun hc=>?_|fail)
  · refine OW_W ?_ (he := EV_sliceArr (l := 4 * t) (h := 4 * t + 4) rfl (bnd_int rfl (by omega)) (bnd_int rfl (by omega)) (by omega) (by omega) (by omega))
    (repeat' first|refine kX ?_|refine kU fun bk=>?_|refine kV fun hc=>?_|refine kZ (fun hc=>?_) fun hc=>?_|fail)
    have ld : ∀ j, j < 4 → nth (shaC h blk n) (5 + 4 * t * 1 + j * 1) = some (.int .u8 ((blk.getD (4 * t + j) 0).toNat : Int)) := fun j hj => by
      rw [nth_eq, show 5 + 4 * t * 1 + j * 1 = 5 + (4 * t + j) from by omega]
      exact shaC_blk (by omega)
    have hf : Fnd ([(bk, cl (wsv (sched blk t) ++ rest) 159)] :: [(b2, cl Z80 159)] :: L) p (cl (shaC h blk n) T) := hp.there.there
    refine WC_drawAll [24] mixed ?_
    (refine WR_w 0 ?_; refine WR_w 1 ?_; refine WR_w 2 ?_)
    refine WR_w 3 ?_ (he := EV_loadc rfl hf (ld 0 (by omega)))
    (refine WR_w 4 ?_; refine WR_w 5 ?_; refine WR_w 6 ?_; refine WR_w 7 ?_)
    refine WR_w 8 ?_ (he := EV_loadc rfl hf (ld 1 (by omega)))
    (refine WR_w 9 ?_; refine WR_w 10 ?_; refine WR_w 11 ?_; refine WR_w 12 ?_; refine WR_w 13 ?_)
    refine WR_w 14 ?_ (he := EV_loadc rfl hf (ld 2 (by omega)))
    (refine WR_w 15 ?_; refine WR_w 16 ?_; refine WR_w 17 ?_; refine WR_w 18 ?_; refine WR_w 19 ?_)
    refine WR_w 20 ?_ (he := EV_loadc rfl hf (ld 3 (by omega)))
    (refine WR_w 21 ?_; refine WR_w 22 ?_; refine WR_w 23 ?_)
    (refine WR_last 24 (by kernel_rfl) rfl rfl rfl ?_)
    refine OW_storeTo (wsv (sched blk (t + 1)) ++ rest.tail) rfl rfl rfl ?_ (by repeat (first | exact Upd.here | apply Upd.there)) (by simp [wsv_length, sched_length]; omega) ?_
    · rw [Nat.zero_add, Nat.mul_one]
      have := wsv_put (sched blk t) (schedNext blk (sched blk t)) rest t (sched_length blk t).symm (by omega)
      rw [sched_lo (by omega)] at this
      rw [sched, sched_lo (by omega)]
      exact this
    (refine WR_done (by kernel_rfl) ?_)
    (repeat' first|refine kX ?_|refine kU fun bk=>?_|refine kV fun hc=>?_|refine kZ (fun hc=>?_) fun hc=>?_|fail)
    refine WQ_round (X := Nat × List Value) (μ := fun x => 80 - x.1) (x := (t, rest)) (t + 1, rest.tail) (by simp only; omega) ⟨by omega, by simp; omega⟩ (by repeat (first | exact Sub.nil | refine Sub.cons rfl ?_ | refine Sub.cons (lk_int rfl (by first | omega | (dsimp only; omega))) ?_)) (fun w h => h)
  · have ht : t = 16 := by omega
    subst ht
    refine WC_loop (X := Nat × List Value) (fun x => [(2, .pointer (some ⟨b2, 0, none⟩)), (3, .pointer (some ⟨bk, 0, none⟩)), (6, .int .i64 (x.1 : Int))])
      (fun x => [(bk, cl (wsv (sched blk x.1) ++ x.2) 159)] :: [(b2, cl Z80 159)] :: L) (fun x => 16 ≤ x.1 ∧ x.1 ≤ 80 ∧ x.2.length = 80 - x.1) (fun x => 80 - x.1) (16, rest) ⟨Nat.le_refl _, by simp only; omega, hx2⟩ (by repeat (first | exact Sub.nil | refine Sub.cons rfl ?_ | refine Sub.cons (lk_int rfl (by first | omega | (dsimp only; omega))) ?_)) (fun w h => h) ?_
    intro x ⟨hy0, hy1, hy2⟩
    clear hx1 hx2 hc rest
    obtain ⟨t, rest⟩ := x
    simp only at hy0 hy1 hy2 ⊢
    (repeat' first|refine kX ?_|refine kU fun bk=>?_|refine kV fun hc=>?_|refine kZ (fun hc=>?_) fun hc=>?_|fail)
    · have ld : ∀ j, 0 < j → j ≤ t → nth (wsv (sched blk t) ++ rest) (0 + (t - j) * 1) = some (w32 ((sched blk t).getD (t - j) 0)) := fun j h0 hj => by
        rw [nth_eq, Nat.zero_add, Nat.mul_one]
        exact wsv_app_get _ _ (by rw [sched_length]; omega)
      refine WC_drawAll [22] mixed ?_
      (refine WR_w 0 ?_; refine WR_w 1 ?_; refine WR_w 2 ?_)
      (refine WR_take 3 rfl rfl (by kernel_rfl) (by repeat (first | with_reducible exact PO.body | with_reducible exact RP_po | with_reducible refine PO.then ?_ | with_reducible refine PO.block ?_)) iC (EV_indexAddrA' (t - 3) rfl rfl (by omega) (by omega)) (by rfl) ?_)
      refine WR_w 4 ?_ (he := EV_loadc rfl (by repeat (first | assumption | exact Fnd.here | refine Fnd.there ?_)) (ld 3 (by omega) (by omega)))
      (refine WR_w 5 ?_; refine WR_w 6 ?_)
      (refine WR_take 7 rfl rfl (by kernel_rfl) (by repeat (first | with_reducible exact PO.body | with_reducible exact RP_po | with_reducible refine PO.then ?_ | with_reducible refine PO.block ?_)) iC (EV_indexAddrA' (t - 8) rfl rfl (by omega) (by omega)) (by rfl) ?_)
      refine WR_w 8 ?_ (he := EV_loadc rfl (by repeat (first | assumption | exact Fnd.here | refine Fnd.there ?_)) (ld 8 (by omega) (by omega)))
      (refine WR_w 9 ?_; refine WR_w 10 ?_; refine WR_w 11 ?_)
      (refine WR_take 12 rfl rfl (by kernel_rfl) (by repeat (first | with_reducible exact PO.body | with_reducible exact RP_po | with_reducible refine PO.then ?_ | with_reducible refine PO.block ?_)) iC (EV_indexAddrA' (t - 14) rfl rfl (by omega) (by omega)) (by rfl) ?_)
      refine WR_w 13 ?_ (he := EV_loadc rfl (by repeat (first | assumption | exact Fnd.here | refine Fnd.there ?_)) (ld 14 (by omega) (by omega)))
      (refine WR_w 14 ?_; refine WR_w 15 ?_; refine WR_w 16 ?_)
      (refine WR_take 17 rfl rfl (by kernel_rfl) (by repeat (first | with_reducible exact PO.body | with_reducible exact RP_po | with_reducible refine PO.then ?_ | with_reducible refine PO.block ?_)) iC (EV_indexAddrA' (t - 16) rfl rfl (by omega) (by omega)) (by rfl) ?_)
      refine WR_w 18 ?_ (he := EV_loadc rfl (by repeat (first | assumption | exact Fnd.here | refine Fnd.there ?_)) (ld 16 (by omega) (by omega)))
      (refine WR_w 19 ?_)
      (refine WR_one 20 (by kernel_rfl) rfl rfl ?_)
      refine OW_callP rfl rfl rfl (rotate_n _ 1 _ (by omega)) rfl ?_
      refine ⟨iC, ?_⟩
      (refine WR_take 21 rfl rfl (by kernel_rfl) (by repeat (first | with_reducible exact PO.body | with_reducible exact RP_po | with_reducible refine PO.then ?_ | with_reducible refine PO.block ?_)) iC (EV_indexAddrA' t rfl rfl rfl (by omega)) (by rfl) ?_)
      (refine WR_last 22 (by kernel_rfl) rfl rfl rfl ?_)
      refine OW_storeTo (wsv (sched blk (t + 1)) ++ rest.tail) rfl rfl rfl ?_ (by repeat (first | exact Upd.here | apply Upd.there)) (by simp [wsv_length, sched_length]; omega) ?_
      · rw [Nat.zero_add, Nat.mul_one]
        have := wsv_put (sched blk t) (schedNext blk (sched blk t)) rest t (sched_length blk t).symm (by omega)
        rw [sched_hi (by omega)] at this
        rw [sched, sched_hi (by omega)]
        exact this
      (refine WR_done (by kernel_rfl) ?_)
      (repeat' first|refine kX ?_|refine kU fun bk=>?_|refine kV fun hc=>?_|refine kZ (fun hc=>?_) fun hc=>?_|fail)
      refine WQ_round (X := Nat × List Value) (μ := fun x => 80 - x.1) (x := (t, rest)) (t + 1, rest.tail) (by simp only; omega) ⟨by omega, by omega, by simp; omega⟩ (by repeat (first | exact Sub.nil | refine Sub.cons rfl ?_ | refine Sub.cons (lk_int rfl (by first | omega | (dsimp only; omega))) ?_)) (fun w h => h)
    · have ht : t = 80 := by omega
      subst ht
      have hr : rest = [] := List.eq_nil_of_length_eq_zero (by simpa using hy2)
      subst hr
      rw [List.append_nil]
      have hwl : (wsv (sched blk 80)).length = 80 := by rw [wsv_length, sched_length]
      have hwo : ones (wsv (sched blk 80)) = true := wsv_ones
      generalize wsv (sched blk 80) = vs at hwl hwo ⊢
      refine OW_W ?_ (he := EV_loadAgg rfl (RdAt.cl' (vs := vs) Fnd.here (by simp [cut])) hwl)
      (repeat' first|refine kX ?_|refine kU fun bk=>?_|refine kV fun hc=>?_|refine kZ (fun hc=>?_) fun hc=>?_|fail)
      refine OW_storeAggTo vs rfl rfl hwl hwo ?_ (by repeat (first | exact Upd.here | apply Upd.there)) ?_ ?_
      · simp [patch, hwl, Z80]
      · rw [hwl]; decide
      (repeat' first|refine kX ?_|refine kU fun bk=>?_|refine kV fun hc=>?_|refine kZ (fun hc=>?_) fun hc=>?_|fail)
      refine WQ_retC (vs := [.agg vs.toArray]) rfl (.agg ⟨by kernel_rfl, by kernel_rfl⟩ rfl (RdAt.cl' (vs := vs) (Fnd.there Fnd.here) (by simp [cut])) hwl .nil) ?_
      exact ⟨L, fun w h => (iC : Inc L _).holds h, rfl, rfl⟩
end Go.Proofs.YtfbeigbkdkiliaaGreatDoor
namespace Go.Proofs.YtfbeigbkdkiliaaGreatDoor
open Go Go.Vx
variable [W0]
set_option maxRecDepth 4000
set_option linter.all false
omit [W0] in
def kindF : Nat → BitVec 32 → BitVec 32 → BitVec 32 → BitVec 32
  | 0 => stChoice
  | 1 => stParity
  | 2 => stMajority
  | _ => stLast
omit [W0] in
def kindId : Nat → Nat
  | 0 => 133
  | 1 => 134
  | 2 => 135
  | _ => 136
theorem kind_bd (i : Nat) : BD Tryz.prog (kindId i) := by
  unfold kindId
  split
  · exact inferInstance
  · exact inferInstance
  · exact inferInstance
  · exact inferInstance
theorem kind_n (i : Nat) (b c d : BitVec 32) (L : List Chunk) : GvP Tryz.prog (kindId i) [w32 b, w32 c, w32 d].toArray L (w32 (kindF i b c d)) := by
  unfold kindId kindF
  split
  · exact choice_n b c d L
  · exact parity_n b c d L
  · exact majority_n b c d L
  · exact last_n b c d L
theorem kind_get {i : Nat} (h : i < 4) : stepFs[i]? = some (.func (.func (kindId i)) #[] #[]) := by
  match i, h with
  | 0, _ => rfl
  | 1, _ => rfl
  | 2, _ => rfl
  | 3, _ => rfl
omit [W0] in
/-- One step. -/
def rnd (k : Nat) (h : H5) (w : BitVec 32) : H5 := ⟨rol h.a 5 + kindF k h.b h.c h.d + h.e + w, h.a, rol h.b 30, h.c, h.d⟩
omit [W0] in
/-- The first t steps. -/
def rounds (ws : List (BitVec 32)) (h : H5) : Nat → H5
  | 0 => h
  | t + 1 => rnd (t / 20) (rounds ws h t) (ws.getD t 0)
theorem rounds_at {ws : List (BitVec 32)} {h : H5} {i j : Nat} (hj : j < 20) : rounds ws h (20 * i + (j + 1)) = rnd i (rounds ws h (20 * i + j)) (ws.getD (20 * i + j) 0) := by
  show rnd ((20 * i + j) / 20) _ _ = _
  rw [show (20 * i + j) / 20 = i from by omega]
  rfl
omit [W0] in
def add5 (h r : H5) : H5 := ⟨h.a + r.a, h.b + r.b, h.c + r.c, h.d + r.d, h.e + r.e⟩
omit [W0] in
/-- A block taken into the chain. -/
def mixN (h : H5) (blk : List UInt8) : H5 := add5 h (rounds (sched blk 80) h 80)
set_option maxHeartbeats 2000000 in
theorem mix_n (h : H5) (blk : List UInt8) (n p : Nat) (L : List Chunk) (hb : blk.length = 64) :
    Gv Tryz.prog 57 [.pointer (some ⟨p, 0, none⟩)].toArray ([(p, cl (shaC h blk n) 123)] :: L) (fun r L' => r = .tuple #[] ∧ L' = [(p, cl (shaC (mixN h blk) blk n) 123)] :: L) := by
  refine Gv.of_body Tryz.func57 rfl rfl ?_
  (repeat' first|refine kX ?_|refine kU fun bk=>?_|refine kV fun hc=>?_|refine kZ (fun hc=>?_) fun hc=>?_|fail)
  refine OW_callP rfl rfl rfl (schedule_n h blk n p _ _ hb Fnd.here) rfl ?_
  have hwl : (wsv (sched blk 80)).length = 80 := by rw [wsv_length, sched_length]
  have hwo : ones (wsv (sched blk 80)) = true := wsv_ones
  have hm : mixN h blk = add5 h (rounds (sched blk 80) h 80) := rfl
  have hsl := sched_length blk 80
  rw [hm]
  clear hm
  generalize sched blk 80 = ws at hwl hwo hsl ⊢
  (repeat' first|refine kX ?_|refine kU fun bk=>?_|refine kV fun hc=>?_|refine kZ (fun hc=>?_) fun hc=>?_|fail)
  refine OW_holds (L' := [(bk, cl Z80 159)] :: [(p, cl (shaC h blk n) 123)] :: L) (fun w h => h) ?_
  refine OW_storeAggTo (wsv ws) rfl rfl hwl hwo ?_ (by repeat (first | exact Upd.here | apply Upd.there)) ?_ ?_
  · simp [patch, hwl, Z80]
  · rw [hwl]; decide
  (repeat' first|refine kX ?_|refine kU fun bk=>?_|refine kV fun hc=>?_|refine kZ (fun hc=>?_) fun hc=>?_|fail)
  refine WC_drawAll [] mixed ?_
  (refine WR_w 0 ?_; refine WR_w 1 ?_; refine WR_w 2 ?_; refine WR_w 3 ?_; refine WR_w 4 ?_; refine WR_w 5 ?_; refine WR_w 6 ?_; refine WR_w 7 ?_; refine WR_w 8 ?_; refine WR_w 9 ?_; refine WR_w 10 ?_; refine WR_w 11 ?_; refine WR_w 12 ?_; refine WR_w 13 ?_; refine WR_w 14 ?_; refine WR_w 15 ?_; refine WR_w 16 ?_; refine WR_w 17 ?_; refine WR_w 18 ?_; refine WR_w 19 ?_; refine WR_w 20 ?_; refine WR_w 21 ?_; refine WR_w 22 ?_; refine WR_w 23 ?_; refine WR_w 24 ?_; refine WR_w 25 ?_; refine WR_w 26 ?_; refine WR_w 27 ?_; refine WR_w 28 ?_; refine WR_w 29 ?_)
  (refine WR_done (by kernel_rfl) ?_)
  (repeat' first|refine kX ?_|refine kU fun bk=>?_|refine kV fun hc=>?_|refine kZ (fun hc=>?_) fun hc=>?_|fail)
  refine OW_callP rfl rfl rfl (steps_n _) rfl ?_
  (repeat' first|refine kX ?_|refine kU fun bk=>?_|refine kV fun hc=>?_|refine kZ (fun hc=>?_) fun hc=>?_|fail)
  refine WC_loop (X := Nat × H5) (fun x => [(0, .pointer (some ⟨p, 0, none⟩)), (2, .pointer (some ⟨bk, 0, none⟩)), (3, w32 x.2.a), (4, w32 x.2.b), (5, w32 x.2.c), (6, w32 x.2.d), (7, w32 x.2.e), (41, .agg stepFs.toArray), (42, .int .i64 (x.1 : Int))])
    (fun x => [(bk, cl (wsv ws) 159)] :: [(p, cl (shaC h blk n) 123)] :: L) (fun x => x.1 ≤ 4 ∧ x.2 = rounds ws h (20 * x.1)) (fun x => 4 - x.1) (0, h) ⟨by simp only; omega, rfl⟩ (by repeat (first | exact Sub.nil | refine Sub.cons rfl ?_ | refine Sub.cons (lk_int rfl (by first | omega | (dsimp only; omega))) ?_)) (fun w h => h) ?_
  intro x ⟨hx1, hx2⟩
  obtain ⟨i, r⟩ := x
  simp only at hx1 hx2 ⊢
  (repeat' first|refine kX ?_|refine kU fun bk=>?_|refine kV fun hc=>?_|refine kZ (fun hc=>?_) fun hc=>?_|fail)
  · have hi : i < 4 := by omega
    refine OW_W ?_ (he := EV_indexAgg rfl rfl rfl (kind_get hi) hi)
    (repeat' first|refine kX ?_|refine kU fun bk=>?_|refine kV fun hc=>?_|refine kZ (fun hc=>?_) fun hc=>?_|fail)
    refine OW_W ?_ (he := EV_sliceArr (l := i * 20) (h := (i + 1) * 20) rfl (bnd_int rfl (by omega)) (bnd_int rfl (by omega)) (by omega) (by omega) (by omega))
    (repeat' first|refine kX ?_|refine kU fun bk=>?_|refine kV fun hc=>?_|refine kZ (fun hc=>?_) fun hc=>?_|fail)
    refine WC_loop (X := Nat × H5) (fun x => [(0, .pointer (some ⟨p, 0, none⟩)), (2, .pointer (some ⟨bk, 0, none⟩)), (3, w32 x.2.a), (4, w32 x.2.b), (5, w32 x.2.c), (6, w32 x.2.d), (7, w32 x.2.e), (9, .func (.func (kindId i)) #[] #[]), (41, .agg stepFs.toArray), (42, .int .i64 (i : Int)),
        (51, .slice (some ⟨bk, 0 + i * 20 * 1, none⟩) ((i + 1) * 20 - i * 20) (80 - i * 20)), (52, .int .i64 (((i + 1) * 20 - i * 20 : Nat) : Int)), (53, .int .i64 (x.1 : Int))])
      (fun x => [(bk, cl (wsv ws) 159)] :: [(p, cl (shaC h blk n) 123)] :: L) (fun x => x.1 ≤ 20 ∧ x.2 = rounds ws h (20 * i + x.1)) (fun x => 20 - x.1) (0, r) ⟨by simp only; omega, hx2⟩ (by repeat (first | exact Sub.nil | refine Sub.cons rfl ?_ | refine Sub.cons (lk_int rfl (by first | omega | (dsimp only; omega))) ?_)) (fun w h => h) ?_
    intro y ⟨hy1, hy2⟩
    clear hx2 r hc
    obtain ⟨j, r⟩ := y
    simp only at hy1 hy2 ⊢
    (repeat' first|refine kX ?_|refine kU fun bk=>?_|refine kV fun hc=>?_|refine kZ (fun hc=>?_) fun hc=>?_|fail)
    · have hj : j < 20 := by omega
      have hld : nth (wsv ws) (0 + i * 20 * 1 + j * 1) = some (w32 (ws.getD (20 * i + j) 0)) := by
        rw [nth_eq, show 0 + i * 20 * 1 + j * 1 = 20 * i + j from by omega]
        exact wsv_get (by simp [List.getD, show 20 * i + j < ws.length from by omega])
      refine OW_W ?_ (he := EV_loadc rfl (by repeat (first | assumption | exact Fnd.here | refine Fnd.there ?_)) hld)
      (repeat' first|refine kX ?_|refine kU fun bk=>?_|refine kV fun hc=>?_|refine kZ (fun hc=>?_) fun hc=>?_|fail)
      refine OW_callP rfl rfl rfl (rotate_n _ 5 _ (by omega)) rfl ?_
      (repeat' first|refine kX ?_|refine kU fun bk=>?_|refine kV fun hc=>?_|refine kZ (fun hc=>?_) fun hc=>?_|fail)
      haveI := kind_bd i
      refine OW_callP rfl rfl rfl (kind_n i _ _ _ _) rfl ?_
      (repeat' first|refine kX ?_|refine kU fun bk=>?_|refine kV fun hc=>?_|refine kZ (fun hc=>?_) fun hc=>?_|fail)
      refine OW_callP rfl rfl rfl (rotate_n _ 30 _ (by omega)) rfl ?_
      (repeat' first|refine kX ?_|refine kU fun bk=>?_|refine kV fun hc=>?_|refine kZ (fun hc=>?_) fun hc=>?_|fail)
      refine WQ_round (X := Nat × H5) (μ := fun x => 20 - x.1) (x := (j, r)) (j + 1, rnd i r (ws.getD (20 * i + j) 0)) (by simp only; omega) ⟨by simp only; omega, by simp only; rw [rounds_at hj, hy2]⟩ (by repeat (first | exact Sub.nil | refine Sub.cons rfl ?_ | refine Sub.cons (lk_int rfl (by first | omega | (dsimp only; omega))) ?_)) (fun w h => h)
    · have hj : j = 20 := by omega
      subst hj
      (repeat' first|refine kX ?_|refine kU fun bk=>?_|refine kV fun hc=>?_|refine kZ (fun hc=>?_) fun hc=>?_|fail)
      refine WQ_round (X := Nat × H5) (μ := fun x => 4 - x.1) (x := (i, r)) (i + 1, r) (by simp only; omega) ⟨by simp only; omega, by simp only; rw [hy2]; rfl⟩ (by repeat (first | exact Sub.nil | refine Sub.cons rfl ?_ | refine Sub.cons (lk_int rfl (by first | omega | (dsimp only; omega))) ?_)) (fun w h => h)
  · have hi : i = 4 := by omega
    subst hi
    rw [← show r = rounds ws h 80 from hx2]
    clear hx2
    refine WC_drawAll [10] mixed ?_
    (refine WR_w 0 ?_; refine WR_w 1 ?_; refine WR_w 2 ?_; refine WR_w 3 ?_; refine WR_w 4 ?_; refine WR_w 5 ?_; refine WR_w 6 ?_; refine WR_w 7 ?_; refine WR_w 8 ?_; refine WR_w 9 ?_)
    (refine WR_last 10 (by kernel_rfl) rfl rfl rfl ?_)
    refine OW_storeTo (shaC ⟨h.a + r.a, h.b, h.c, h.d, h.e⟩ blk n) rfl rfl rfl rfl (by repeat (first | exact Upd.here | apply Upd.there)) (by simp [shaC]) ?_
    (refine WR_done (by kernel_rfl) ?_)
    (repeat' first|refine kX ?_|refine kU fun bk=>?_|refine kV fun hc=>?_|refine kZ (fun hc=>?_) fun hc=>?_|fail)
    refine WC_drawAll [10] mixed ?_
    (refine WR_w 0 ?_; refine WR_w 1 ?_; refine WR_w 2 ?_; refine WR_w 3 ?_; refine WR_w 4 ?_; refine WR_w 5 ?_; refine WR_w 6 ?_; refine WR_w 7 ?_; refine WR_w 8 ?_; refine WR_w 9 ?_)
    (refine WR_last 10 (by kernel_rfl) rfl rfl rfl ?_)
    refine OW_storeTo (shaC ⟨h.a + r.a, h.b + r.b, h.c, h.d, h.e⟩ blk n) rfl rfl rfl rfl (by repeat (first | exact Upd.here | apply Upd.there)) (by simp [shaC]) ?_
    (refine WR_done (by kernel_rfl) ?_)
    (repeat' first|refine kX ?_|refine kU fun bk=>?_|refine kV fun hc=>?_|refine kZ (fun hc=>?_) fun hc=>?_|fail)
    refine WC_drawAll [10] mixed ?_
    (refine WR_w 0 ?_; refine WR_w 1 ?_; refine WR_w 2 ?_; refine WR_w 3 ?_; refine WR_w 4 ?_; refine WR_w 5 ?_; refine WR_w 6 ?_; refine WR_w 7 ?_; refine WR_w 8 ?_; refine WR_w 9 ?_)
    (refine WR_last 10 (by kernel_rfl) rfl rfl rfl ?_)
    refine OW_storeTo (shaC ⟨h.a + r.a, h.b + r.b, h.c + r.c, h.d, h.e⟩ blk n) rfl rfl rfl rfl (by repeat (first | exact Upd.here | apply Upd.there)) (by simp [shaC]) ?_
    (refine WR_done (by kernel_rfl) ?_)
    (repeat' first|refine kX ?_|refine kU fun bk=>?_|refine kV fun hc=>?_|refine kZ (fun hc=>?_) fun hc=>?_|fail)
    refine WC_drawAll [10] mixed ?_
    (refine WR_w 0 ?_; refine WR_w 1 ?_; refine WR_w 2 ?_; refine WR_w 3 ?_; refine WR_w 4 ?_; refine WR_w 5 ?_; refine WR_w 6 ?_; refine WR_w 7 ?_; refine WR_w 8 ?_; refine WR_w 9 ?_)
    (refine WR_last 10 (by kernel_rfl) rfl rfl rfl ?_)
    refine OW_storeTo (shaC ⟨h.a + r.a, h.b + r.b, h.c + r.c, h.d + r.d, h.e⟩ blk n) rfl rfl rfl rfl (by repeat (first | exact Upd.here | apply Upd.there)) (by simp [shaC]) ?_
    (refine WR_done (by kernel_rfl) ?_)
    (repeat' first|refine kX ?_|refine kU fun bk=>?_|refine kV fun hc=>?_|refine kZ (fun hc=>?_) fun hc=>?_|fail)
    refine WC_drawAll [10] mixed ?_
    (refine WR_w 0 ?_; refine WR_w 1 ?_; refine WR_w 2 ?_; refine WR_w 3 ?_; refine WR_w 4 ?_; refine WR_w 5 ?_; refine WR_w 6 ?_; refine WR_w 7 ?_; refine WR_w 8 ?_; refine WR_w 9 ?_)
    (refine WR_last 10 (by kernel_rfl) rfl rfl rfl ?_)
    refine OW_storeTo (shaC ⟨h.a + r.a, h.b + r.b, h.c + r.c, h.d + r.d, h.e + r.e⟩ blk n) rfl rfl rfl rfl (by repeat (first | exact Upd.here | apply Upd.there)) (by simp [shaC]) ?_
    (refine WR_done (by kernel_rfl) ?_)
    (repeat' first|refine kX ?_|refine kU fun bk=>?_|refine kV fun hc=>?_|refine kZ (fun hc=>?_) fun hc=>?_|fail)
    (first | refine WQ_retI rfl rfl ?_ | refine WQ_endI rfl rfl ?_)
    exact ⟨_, iC, rfl, rfl⟩
end Go.Proofs.YtfbeigbkdkiliaaGreatDoor
namespace Go.Proofs.YtfbeigbkdkiliaaGreatDoor
open Go Go.Vx
variable [W0]
set_option maxRecDepth 4000
set_option linter.all false
omit [W0] in
def h50 : H5 := ⟨1732584193#32, 4023233417#32, 2562383102#32, 271733878#32, 3285377520#32⟩
omit [W0] in
/-- The chain behind the first k blocks of a text. -/
def chainN (t : List UInt8) : Nat → H5
  | 0 => h50
  | k + 1 => mixN (chainN t k) ((t.drop (64 * k)).take 64)
theorem chainN_app (t u : List UInt8) : ∀ k, 64 * k ≤ t.length → chainN (t ++ u) k = chainN t k
  | 0, _ => rfl
  | k + 1, h => by
    have e : ((t ++ u).drop (64 * k)).take 64 = (t.drop (64 * k)).take 64 := by
      rw [List.drop_append_of_le_length (by omega), List.take_append_of_le_length (by simp; omega)]
    simp only [chainN, chainN_app t u k (by omega), e]
omit [W0] in
/-- What a digest in progress is of a text. -/
structure ShaI (t : List UInt8) (h : H5) (blk : List UInt8) : Prop where
  len : blk.length = 64
  chain : h = chainN t (t.length / 64)
  rest : blk.take (t.length % 64) = t.drop (64 * (t.length / 64))
omit [W0] in
def fillB (blk : List UInt8) (r : Nat) (u : List UInt8) : List UInt8 := blk.take r ++ (u ++ blk.drop (r + u.length))
theorem fillB_length {blk u : List UInt8} {r : Nat} (hb : blk.length = 64) (h : r + u.length ≤ 64) : (fillB blk r u).length = 64 := by
  simp [fillB]; omega
theorem fillB_take {blk u : List UInt8} {r : Nat} (hb : blk.length = 64) (h : r + u.length ≤ 64) : (fillB blk r u).take (r + u.length) = blk.take r ++ u := by
  unfold fillB
  have e : (blk.take r ++ u).length = r + u.length := by simp; omega
  rw [← List.append_assoc, ← e, List.take_left]
theorem ShaI.part {t u : List UInt8} {h : H5} {blk : List UInt8} (hi : ShaI t h blk) (hu : t.length % 64 + u.length < 64) : ShaI (t ++ u) h (fillB blk (t.length % 64) u) := by
  have e1 : (t ++ u).length / 64 = t.length / 64 := by simp; omega
  have e2 : (t ++ u).length % 64 = t.length % 64 + u.length := by simp; omega
  refine ⟨fillB_length hi.len (by omega), ?_, ?_⟩
  · rw [e1, chainN_app _ _ _ (by omega)]; exact hi.chain
  · rw [e1, e2, fillB_take hi.len (by omega), hi.rest, List.drop_append_of_le_length (by omega)]
theorem ShaI.full {t u : List UInt8} {h : H5} {blk : List UInt8} (hi : ShaI t h blk) (hu : t.length % 64 + u.length = 64) : ShaI (t ++ u) (mixN h (fillB blk (t.length % 64) u)) (fillB blk (t.length % 64) u) := by
  have e1 : (t ++ u).length / 64 = t.length / 64 + 1 := by simp; omega
  have e2 : (t ++ u).length % 64 = 0 := by simp; omega
  have hl := fillB_length (u := u) hi.len (show t.length % 64 + u.length ≤ 64 by omega)
  have ht := fillB_take (u := u) hi.len (show t.length % 64 + u.length ≤ 64 by omega)
  rw [hu, List.take_of_length_le (by omega), hi.rest] at ht
  have e3 : ((t ++ u).drop (64 * (t.length / 64))).take 64 = fillB blk (t.length % 64) u := by
    rw [ht, List.drop_append_of_le_length (by omega), List.take_of_length_le]
    simp; omega
  refine ⟨hl, ?_, ?_⟩
  · rw [e1]
    simp only [chainN]
    rw [chainN_app _ _ _ (by omega), ← hi.chain, e3]
  · rw [e1, e2, List.take_zero, List.drop_of_length_le (by simp; omega)]
theorem ShaI.new : ShaI [] h50 (List.replicate 64 0) := ⟨by simp, rfl, rfl⟩
theorem shaC_length {h : H5} {blk : List UInt8} {n : Nat} : (shaC h blk n).length = 6 + blk.length := by simp [shaC, bsv_length]; omega
theorem patch_cons {v : Value} {l vs : List Value} {o : Nat} : patch (v :: l) (o + 1) vs = v :: patch l o vs := by
  simp [patch, Nat.add_right_comm o 1]
theorem shaC_patch {h : H5} {blk u : List UInt8} {n r : Nat} (hu : r + u.length ≤ blk.length) : patch (shaC h blk n) (5 + r * 1) (bsv u) = shaC h (fillB blk r u) n := by
  unfold shaC
  rw [Nat.mul_one, show 5 + r = (((((r + 1) + 1) + 1) + 1) + 1) from by omega]
  simp only [patch_cons]
  have e : patch (bsv blk ++ [Value.int .u64 (n : Int)]) r (bsv u) = bsv (fillB blk r u) ++ [.int .u64 (n : Int)] := by
    unfold patch fillB
    rw [List.take_append_of_le_length (by simp [bsv_length]; omega), List.drop_append_of_le_length (by simp [bsv_length]; omega)]
    simp [bsv, List.map_take, List.map_drop]
  rw [e]
theorem shaC_setlen {h : H5} {blk : List UInt8} {n : Nat} (m : Nat) (hb : blk.length = 64) : (shaC h blk n).set 69 (.int .u64 (m : Int)) = shaC h blk m := by
  unfold shaC
  simp only [List.set_cons_succ]
  rw [List.set_append_right _ _ (by simp [bsv_length, hb])]
  simp [bsv_length, hb]
omit [W0] in
/-- A slice that can be read, and its room. -/
structure SlC (L : List Chunk) (k : Nat) (v : Value) (m : Nat) (xs : List Value) : Prop where
  sl : Sl L k v m xs
  room : ∃ a c, v = .slice a m c ∧ m ≤ c
theorem SlC.there {L : List Chunk} {C : Chunk} {k m : Nat} {v : Value} {xs : List Value} (h : SlC L k v m xs) : SlC (C :: L) k v m xs := ⟨sl_there h.sl, h.room⟩
theorem SlC.ow {e k m : Nat} {v : Value} {xs : List Value} {C : Chunk} {L : List Chunk} (h : Ow e k v m xs C) : SlC (C :: L) k v m xs := by
  refine ⟨ow_sl h, ?_⟩
  rcases h with ⟨rfl, rfl, _⟩ | ⟨b, cap, rest, rfl, _, _, _, hmc, _⟩
  · exact ⟨_, _, rfl, Nat.le_refl _⟩
  · exact ⟨_, _, rfl, hmc⟩
theorem SlC.cut {L : List Chunk} {bb off m cap q : Nat} {l : List UInt8} {c : Array Value} {T : TypeId} {fr : Nat × Nat} (hf : Fnd L bb (.cells c T fr)) (hc : ∀ j u, (bsv l)[j]? = some u → c[off + j]? = some u) (hm : l.length = m) (hq : q ≤ m) (hmc : m ≤ cap) :
    SlC L 1 (.slice (some ⟨bb, if cap = q then off else off + q * 1, none⟩) (m - q) (cap - q)) (m - q) (bsv (l.drop q)) := by
  refine ⟨.inr ⟨_, _, rfl, ?_, by simp [bsv_length, hm]⟩, _, _, rfl, by omega⟩
  by_cases h0 : m = q
  · refine .inl ?_
    rw [List.drop_of_length_le (by omega)]; rfl
  · refine .inr ⟨bb, _, c, T, fr, rfl, hf, fun j u hj => ?_⟩
    rw [if_neg (by omega), Nat.mul_one, Nat.add_assoc]
    refine hc _ _ ?_
    rw [← hj]
    simp [bsv]
set_option maxHeartbeats 2000000 in
theorem write_n (t b : List UInt8) (h : H5) (blk : List UInt8) (v : Value) (p : Nat) (L : List Chunk) (hi : ShaI t h blk) (hlen : t.length + b.length < 1152921504606846976) (hv : SlC L 1 v b.length (bsv b)) :
    Gv Tryz.prog 36 [.pointer (some ⟨p, 0, none⟩), v].toArray ([(p, cl (shaC h blk t.length) 123)] :: L)
      (fun r L' => r = .tuple #[] ∧ ∃ h' blk', ShaI (t ++ b) h' blk' ∧ L' = [(p, cl (shaC h' blk' (t ++ b).length) 123)] :: L) := by
  refine Gv.of_body Tryz.func36 rfl rfl ?_
  (repeat' first|refine kX ?_|refine kU fun bk=>?_|refine kV fun hc=>?_|refine kZ (fun hc=>?_) fun hc=>?_|fail)
  refine WC_loop (X := Nat × Value × H5 × List UInt8) (fun x => [(0, .pointer (some ⟨p, 0, none⟩)), (1, x.2.1)])
    (fun x => [(p, cl (shaC x.2.2.1 x.2.2.2 (t ++ b.take x.1).length) 123)] :: L)
    (fun x => x.1 ≤ b.length ∧ SlC L 1 x.2.1 (b.length - x.1) (bsv (b.drop x.1)) ∧ ShaI (t ++ b.take x.1) x.2.2.1 x.2.2.2) (fun x => b.length - x.1) (0, v, h, blk) ⟨Nat.zero_le _, by simpa using hv, by simpa using hi⟩ (by repeat (first | exact Sub.nil | refine Sub.cons rfl ?_ | refine Sub.cons (lk_int rfl (by first | omega | (dsimp only; omega))) ?_)) (fun w h => by simpa using h) ?_
  clear hi hv h blk v
  intro x ⟨hx1, hx2, hx3⟩
  obtain ⟨k, v, h, blk⟩ := x
  simp only at hx1 hx2 hx3 ⊢
  obtain ⟨a, c, rfl, hmc⟩ := hx2.room
  (repeat' first|refine kX ?_|refine kU fun bk=>?_|refine kV fun hc=>?_|refine kZ (fun hc=>?_) fun hc=>?_|fail)
  · have hm0 : 0 < b.length - k := by omega
    have hN : (t ++ b.take k).length = t.length + k := by simp; omega
    obtain ⟨s, hs⟩ : ∃ s, s = t ++ b.take k := ⟨_, rfl⟩
    obtain ⟨u, hu⟩ : ∃ u, u = b.drop k := ⟨_, rfl⟩
    have hul : u.length = b.length - k := by rw [hu, List.length_drop]
    rw [← hs] at hx3 hN ⊢
    rw [← hu] at hx2
    rw [← hul] at hx2 hm0 hmc ⊢
    rcases sl_open hx2.sl with ⟨h0, _⟩ | ⟨bb, off, cap, cc, T, fr, hve, hfn, hcell⟩
    · omega
    injection hve with e1 e2 e3
    subst e1 e3
    clear e2
    have hr : (s.length : Int).tmod 64 = ((s.length % 64 : Nat) : Int) := by rw [Int.tmod_eq_emod_of_nonneg (by omega)]; omega
    have hlv : ∀ (h : H5) (blk : List UInt8) (n : Nat), blk.length = 64 → nth (shaC h blk n) 69 = some (.int .u64 (n : Int)) := fun h blk n hb => by rw [nth_eq]; exact shaC_len hb
    have hbl := hx3.len
    obtain ⟨q, hq⟩ : ∃ q, q = min u.length (64 - s.length % 64) := ⟨_, rfl⟩
    have hql : (u.take q).length = q := by simp; omega
    have htk : (bsv u).take (min u.length (64 - s.length % 64) * 1) = bsv (u.take q) := by simp [bsv, hq]
    have hbl2 := fillB_length (u := u.take q) (r := s.length % 64) hbl (by omega)
    refine WC_drawAll [10, 11] mixed ?_
    (refine WR_w 0 ?_; refine WR_w 1 ?_; refine WR_w 2 ?_; refine WR_w 3 ?_; refine WR_w 4 ?_; refine WR_w 5 ?_)
    refine WR_w 6 ?_ (he := EV_loadc rfl Fnd.here (hlv h blk _ hbl))
    (refine WR_take 7 rfl rfl (by kernel_rfl) (by repeat (first | with_reducible exact PO.body | with_reducible exact RP_po | with_reducible refine PO.then ?_ | with_reducible refine PO.block ?_)) iC (EV_rem rfl rfl (by decide)) (by rfl) ?_)
    rw [hr]
    (refine WR_take 8 rfl rfl (by kernel_rfl) (by repeat (first | with_reducible exact PO.body | with_reducible exact RP_po | with_reducible refine PO.then ?_ | with_reducible refine PO.block ?_)) iC (EV_sliceArr (l := s.length % 64) (h := 64) rfl rfl rfl (by omega) (by omega) (by omega)) (by rfl) ?_)
    (refine WR_w 9 ?_)
    (refine WR_last 10 (by kernel_rfl) rfl rfl rfl ?_)
    refine OW_copyTo (shaC h (fillB blk (s.length % 64) (u.take q)) s.length) rfl rfl (sl_there hx2.sl) (by rw [htk]; exact bsv_ones) ?_ (by repeat (first | exact Upd.here | apply Upd.there)) ?_ rfl ?_
    · rw [htk]
      exact shaC_patch (by omega)
    · rw [shaC_length]; omega
    rw [← hq]
    (refine WR_last 11 (by kernel_rfl) rfl rfl rfl ?_)
    refine OW_W ?_
    (refine WR_done (by kernel_rfl) ?_)
    (repeat' first|refine kX ?_|refine kU fun bk=>?_|refine kV fun hc=>?_|refine kZ (fun hc=>?_) fun hc=>?_|fail)
    refine OW_EV (EV_sliceSl (l := q) (h := u.length) rfl rfl rfl (by omega) hmc) rfl ?_
    (repeat' first|refine kX ?_|refine kU fun bk=>?_|refine kV fun hc=>?_|refine kZ (fun hc=>?_) fun hc=>?_|fail)
    refine OW_EV (EV_loadc rfl Fnd.here (hlv _ _ _ hbl2)) rfl ?_
    (repeat' first|refine kX ?_|refine kU fun bk=>?_|refine kV fun hc=>?_|refine kZ (fun hc=>?_) fun hc=>?_|fail)
    refine OW_EV (EV_ari rfl rfl rfl) rfl ?_
    rw [wrap_u64 (by omega) (by omega), show (s.length : Int) + (q : Int) = ((s.length + q : Nat) : Int) from by omega]
    (repeat' first|refine kX ?_|refine kU fun bk=>?_|refine kV fun hc=>?_|refine kZ (fun hc=>?_) fun hc=>?_|fail)
    refine OW_storeTo (shaC h (fillB blk (s.length % 64) (u.take q)) (s.length + q)) rfl rfl rfl (shaC_setlen _ hbl2) (by repeat (first | exact Upd.here | apply Upd.there)) (by rw [shaC_length]; omega) ?_
    (repeat' first|refine kX ?_|refine kU fun bk=>?_|refine kV fun hc=>?_|refine kZ (fun hc=>?_) fun hc=>?_|fail)
    refine OW_EV (EV_loadc rfl Fnd.here (hlv _ _ _ hbl2)) rfl ?_
    (repeat' first|refine kX ?_|refine kU fun bk=>?_|refine kV fun hc=>?_|refine kZ (fun hc=>?_) fun hc=>?_|fail)
    refine OW_EV (EV_rem rfl rfl (by decide)) rfl ?_
    rw [show ((s.length + q : Nat) : Int).tmod 64 = (((s.length + q) % 64 : Nat) : Int) from by rw [Int.tmod_eq_emod_of_nonneg (by omega)]; omega]
    have hnx : t ++ b.take (k + q) = s ++ u.take q := by
      rw [hs, hu, List.append_assoc, ← List.take_add]
    have hnl : (t ++ b.take (k + q)).length = s.length + q := by rw [hnx]; simp; omega
    have hsc : SlC L 1 (.slice (some ⟨bb, if c = q then off else off + q * 1, none⟩) (u.length - q) (c - q)) (b.length - (k + q)) (bsv (b.drop (k + q))) := by
      have := SlC.cut (L := L) (q := q) (cap := c) hfn hcell rfl (by omega) hmc
      rw [hul, hu, List.drop_drop] at this
      rw [hul, show b.length - (k + q) = b.length - k - q from by omega]
      exact this
    (repeat' first|refine kX ?_|refine kU fun bk=>?_|refine kV fun hc=>?_|refine kZ (fun hc=>?_) fun hc=>?_|fail)
    · have h64 : s.length % 64 + q = 64 := by omega
      refine OW_call rfl rfl rfl (mix_n _ _ _ p L hbl2) rfl (fun r L' hp => ?_)
      obtain ⟨rfl, rfl⟩ := hp
      (repeat' first|refine kX ?_|refine kU fun bk=>?_|refine kV fun hc=>?_|refine kZ (fun hc=>?_) fun hc=>?_|fail)
      rw [hul] at hsc ⊢
      refine WQ_round (X := Nat × Value × H5 × List UInt8) (μ := fun x => b.length - x.1) (x := (k, .slice (some ⟨bb, off, none⟩) u.length c, h, blk)) (k + q, _, mixN h (fillB blk (s.length % 64) (u.take q)), fillB blk (s.length % 64) (u.take q)) (by simp only; omega)
        ⟨by simp only; omega, hsc, by simp only; rw [hnx]; exact hx3.full (by omega)⟩ (by repeat (first | exact Sub.nil | refine Sub.cons rfl ?_ | refine Sub.cons (lk_int rfl (by first | omega | (dsimp only; omega))) ?_)) (fun w h => by simp only; rw [hnl]; exact h)
    · have h64 : s.length % 64 + q < 64 := by omega
      rw [hul] at hsc ⊢
      refine WQ_round (X := Nat × Value × H5 × List UInt8) (μ := fun x => b.length - x.1) (x := (k, .slice (some ⟨bb, off, none⟩) u.length c, h, blk)) (k + q, _, h, fillB blk (s.length % 64) (u.take q)) (by simp only; omega)
        ⟨by simp only; omega, hsc, by simp only; rw [hnx]; exact hx3.part (by omega)⟩ (by repeat (first | exact Sub.nil | refine Sub.cons rfl ?_ | refine Sub.cons (lk_int rfl (by first | omega | (dsimp only; omega))) ?_)) (fun w h => by simp only; rw [hnl]; exact h)
  · have hk : k = b.length := by omega
    subst hk
    rw [List.take_length] at hx3 ⊢
    (first | refine WQ_retI rfl rfl ?_ | refine WQ_endI rfl rfl ?_)
    exact ⟨_, iC, rfl, h, blk, hx3, rfl⟩
end Go.Proofs.YtfbeigbkdkiliaaGreatDoor
namespace Go.Proofs.YtfbeigbkdkiliaaGreatDoor
open Go Go.Vx
variable [W0]
set_option maxRecDepth 4000
set_option linter.all false
omit [W0] in
def hiW (n : Nat) : BitVec 32 := BitVec.ofNat 32 (8 * n / 4294967296)
omit [W0] in
def loW (n : Nat) : BitVec 32 := BitVec.ofNat 32 (8 * n)
omit [W0] in
/-- What is put behind a text of n bytes. -/
def padOf (n : Nat) : List UInt8 := 128 :: List.replicate ((119 - n % 64) % 64) 0 ++ wb (hiW n) ++ wb (loW n)
theorem padOf_length (n : Nat) : (padOf n).length = (119 - n % 64) % 64 + 9 := by simp [padOf, wb_length]
omit [W0] in
def hbs (h : H5) : List (BitVec 32) := [h.a, h.b, h.c, h.d, h.e]
omit [W0] in
/-- The digest of a text. -/
def shaN (t : List UInt8) : List UInt8 := wbs (hbs (chainN (t ++ padOf t.length) ((t ++ padOf t.length).length / 64)))
theorem shaN_length (t : List UInt8) : (shaN t).length = 20 := by simp [shaN, wbs_length, hbs]
set_option maxHeartbeats 2000000 in
theorem end_n (t : List UInt8) (h : H5) (blk : List UInt8) (p : Nat) (L : List Chunk) (hi : ShaI t h blk) (hlen : t.length < 576460752303423488) :
    Gv Tryz.prog 58 [.pointer (some ⟨p, 0, none⟩)].toArray ([(p, cl (shaC h blk t.length) 123)] :: L)
      (fun r L' => r = .tuple #[] ∧ ∃ h' blk', ShaI (t ++ padOf t.length) h' blk' ∧ L' = [(p, cl (shaC h' blk' (t ++ padOf t.length).length) 123)] :: L) := by
  refine Gv.of_body Tryz.func58 rfl rfl ?_
  have hbl := hi.len
  have hlv : nth (shaC h blk t.length) 69 = some (.int .u64 (t.length : Int)) := by rw [nth_eq]; exact shaC_len hbl
  obtain ⟨n, hn⟩ : ∃ n, n = t.length := ⟨_, rfl⟩
  rw [← hn] at hlv hlen
  rw [← hn]
  obtain ⟨z, hz⟩ : ∃ z, z = (119 - n % 64) % 64 := ⟨_, rfl⟩
  (repeat' first|refine kX ?_|refine kU fun bk=>?_|refine kV fun hc=>?_|refine kZ (fun hc=>?_) fun hc=>?_|fail)
  refine OW_EV (EV_loadc rfl Fnd.here hlv) rfl ?_
  (repeat' first|refine kX ?_|refine kU fun bk=>?_|refine kV fun hc=>?_|refine kZ (fun hc=>?_) fun hc=>?_|fail)
  refine OW_EV (EV_ari rfl rfl rfl) rfl ?_
  rw [wrap_u64 (by omega) (by omega)]
  (repeat' first|refine kX ?_|refine kU fun bk=>?_|refine kV fun hc=>?_|refine kZ (fun hc=>?_) fun hc=>?_|fail)
  refine OW_EV (EV_loadc rfl Fnd.here hlv) rfl ?_
  (repeat' first|refine kX ?_|refine kU fun bk=>?_|refine kV fun hc=>?_|refine kZ (fun hc=>?_) fun hc=>?_|fail)
  refine OW_EV (EV_ari rfl rfl rfl) rfl ?_
  (repeat' first|refine kX ?_|refine kU fun bk=>?_|refine kV fun hc=>?_|refine kZ (fun hc=>?_) fun hc=>?_|fail)
  refine OW_EV (EV_rem rfl rfl (by decide)) rfl ?_
  have e1 : (IntKind.u64.wrap (55 - (n : Int))).tmod 64 = (z : Int) := by
    simp [IntKind.wrap, IntKind.bits, IntKind.signed]
    rw [Int.tmod_eq_emod_of_nonneg (by omega)]
    omega
  rw [e1]
  (repeat' first|refine kX ?_|refine kU fun bk=>?_|refine kV fun hc=>?_|refine kZ (fun hc=>?_) fun hc=>?_|fail)
  refine OW_EV (EV_ari rfl rfl rfl) rfl ?_
  rw [wrap_u64 (by omega) (by omega), show 1 + (z : Int) = ((z + 1 : Nat) : Int) from by omega]
  (repeat' first|refine kX ?_|refine kU fun bk=>?_|refine kV fun hc=>?_|refine kZ (fun hc=>?_) fun hc=>?_|fail)
  refine OW_makeSlice rfl rfl (by rfl) (Nat.le_refl _) (by omega) (by omega) rfl (fun bn => ?_)
  (repeat' first|refine kX ?_|refine kU fun bk=>?_|refine kV fun hc=>?_|refine kZ (fun hc=>?_) fun hc=>?_|fail)
  refine OW_storeTo (bsv (128 :: List.replicate z 0)) rfl rfl rfl ?_ (by repeat (first | exact Upd.here | apply Upd.there)) (by simp [zeros_length, Value.cells]) ?_
  · show (zeros [.int .u8 0] (z + 1)).set 0 _ = _
    rw [zeros_bsv]; rfl
  (repeat' first|refine kX ?_|refine kU fun bk=>?_|refine kV fun hc=>?_|refine kZ (fun hc=>?_) fun hc=>?_|fail)
  have ho : Ow 5 1 (.slice (some ⟨bn, 0, none⟩) (z + 1) (z + 1)) (z + 1) (bsv (128 :: List.replicate z 0)) [(bn, cl (bsv (128 :: List.replicate z 0)) 5)] :=
    .inr ⟨bn, z + 1, [], rfl, by simp, by simp [bsv_length], by simp, Nat.le_refl _, by simp [maxLen]; omega⟩
  have e2 : BitVec.ofInt 32 ((n : Int) * 8 / 4294967296) = hiW n := by
    apply BitVec.eq_of_toNat_eq
    rw [BitVec.toNat_ofInt, hiW, BitVec.toNat_ofNat]
    omega
  have e3 : BitVec.ofInt 32 ((n : Int) * 8) = loW n := by
    apply BitVec.eq_of_toNat_eq
    rw [BitVec.toNat_ofInt, loW, BitVec.toNat_ofNat]
    omega
  rw [e2]
  refine OW_call rfl rfl rfl (addWord_n _ (hiW n) _ _ _ _ ho (by omega)) rfl (fun v1 L' hp => ?_)
  obtain ⟨_, C1, rfl, rfl, ho1⟩ := hp
  (repeat' first|refine kX ?_|refine kU fun bk=>?_|refine kV fun hc=>?_|refine kZ (fun hc=>?_) fun hc=>?_|fail)
  rw [e3]
  refine OW_call rfl rfl rfl (addWord_n _ (loW n) _ _ _ _ ho1 (by omega)) rfl (fun v2 L' hp => ?_)
  obtain ⟨_, C2, rfl, rfl, ho2⟩ := hp
  (repeat' first|refine kX ?_|refine kU fun bk=>?_|refine kV fun hc=>?_|refine kZ (fun hc=>?_) fun hc=>?_|fail)
  have hpad : 128 :: List.replicate z 0 ++ wb (hiW n) ++ wb (loW n) = padOf n := by rw [hz]; rfl
  rw [hpad] at ho2
  have hpl := padOf_length n
  have hv2 : SlC (C2 :: L) 1 v2 (padOf n).length (bsv (padOf n)) := by
    rw [hpl, show (119 - n % 64) % 64 + 9 = z + 1 + 4 + 4 from by omega]
    exact SlC.ow ho2
  have hw := write_n t (padOf n) h blk v2 p (C2 :: L) hi (by omega) hv2
  rw [← hn] at hw
  refine OW_call rfl rfl rfl (Gv.take hw (by repeat (first | exact Take.here | apply Take.there))) rfl (fun r L' hp => ?_)
  obtain ⟨rfl, h', blk', hi', rfl⟩ := hp
  (repeat' first|refine kX ?_|refine kU fun bk=>?_|refine kV fun hc=>?_|refine kZ (fun hc=>?_) fun hc=>?_|fail)
  (first | refine WQ_retI rfl rfl ?_ | refine WQ_endI rfl rfl ?_)
  exact ⟨_, iC, rfl, h', blk', hi', rfl⟩
omit [W0] in
def Z70 : List Value := shaC ⟨0, 0, 0, 0, 0⟩ (List.replicate 64 0) 0
theorem newSHA_n (L : List Chunk) : Gv Tryz.prog 35 [].toArray L (fun r L' => ∃ p, r = .pointer (some ⟨p, 0, none⟩) ∧ L' = [(p, cl (shaC h50 (List.replicate 64 0) 0) 123)] :: L) := by
  refine Gv.of_body Tryz.func35 rfl rfl ?_
  (repeat' first|refine kX ?_|refine kU fun bk=>?_|refine kV fun hc=>?_|refine kZ (fun hc=>?_) fun hc=>?_|fail)
  first | refine WQ_retH rfl rfl ?_ | refine WQ_endH rfl rfl ?_
  exact ⟨[(bk, cl (shaC h50 (List.replicate 64 0) 0) 123)] :: L, fun w h => h, bk, rfl, rfl⟩
set_option maxHeartbeats 2000000 in
theorem sum_n (t : List UInt8) (h : H5) (blk : List UInt8) (p : Nat) (L : List Chunk) (hi : ShaI t h blk) (hlen : t.length < 576460752303423488) :
    Gv Tryz.prog 37 [.pointer (some ⟨p, 0, none⟩)].toArray ([(p, cl (shaC h blk t.length) 123)] :: L)
      (fun r L' => ∃ C, L' = C :: [(p, cl (shaC h blk t.length) 123)] :: L ∧ Ow 5 1 r 20 (bsv (shaN t)) C) := by
  refine Gv.of_body Tryz.func37 rfl rfl ?_
  have hbl := hi.len
  have hsl : (shaC h blk t.length).length = 70 := by rw [shaC_length, hbl]
  have hone : ones (shaC h blk t.length) = true := by
    have := bsv_ones (l := blk)
    simp only [ones, shaC, List.all_cons, List.all_append] at *
    simp [this, Value.oneCell']
  (repeat' first|refine kX ?_|refine kU fun bk=>?_|refine kV fun hc=>?_|refine kZ (fun hc=>?_) fun hc=>?_|fail)
  refine OW_W ?_ (he := EV_loadAgg rfl (RdAt.cl' (vs := shaC h blk t.length) Fnd.here (by simp [cut])) hsl)
  (repeat' first|refine kX ?_|refine kU fun bk=>?_|refine kV fun hc=>?_|refine kZ (fun hc=>?_) fun hc=>?_|fail)
  refine OW_holds (L' := [(bk, cl Z70 123)] :: [(p, cl (shaC h blk t.length) 123)] :: L) (fun w h => h) ?_
  refine OW_storeAggTo (shaC h blk t.length) rfl rfl hsl hone ?_ (by repeat (first | exact Upd.here | apply Upd.there)) ?_ ?_
  · have : Z70.length = 70 := by decide
    simp [patch, hsl, this]
  · rw [hsl]; decide
  (repeat' first|refine kX ?_|refine kU fun bk=>?_|refine kV fun hc=>?_|refine kZ (fun hc=>?_) fun hc=>?_|fail)
  refine OW_call rfl rfl rfl (end_n t h blk bk _ hi hlen) rfl (fun r L' hp => ?_)
  obtain ⟨rfl, h', blk', hi', rfl⟩ := hp
  have hch := hi'.chain
  (repeat' first|refine kX ?_|refine kU fun bk=>?_|refine kV fun hc=>?_|refine kZ (fun hc=>?_) fun hc=>?_|fail)
  refine OW_makeSlice (m := 0) (c := 20) rfl rfl (by rfl) (by omega) (by omega) (by omega) rfl (fun bn => ?_)
  (repeat' first|refine kX ?_|refine kU fun bk=>?_|refine kV fun hc=>?_|refine kZ (fun hc=>?_) fun hc=>?_|fail)
  refine OW_W ?_ (he := EV_loadAgg rfl (RdAt.cl' (vs := [w32 h'.a, w32 h'.b, w32 h'.c, w32 h'.d, w32 h'.e]) (Fnd.there Fnd.here) rfl) rfl)
  (repeat' first|refine kX ?_|refine kU fun bk=>?_|refine kV fun hc=>?_|refine kZ (fun hc=>?_) fun hc=>?_|fail)
  have ho : Ow 5 1 (.slice (some ⟨bn, 0, none⟩) 0 20) 0 (bsv []) [(bn, cl (zeros [.int .u8 0] 20) 5)] :=
    .inr ⟨bn, 20, zeros [.int .u8 0] 20, rfl, rfl, rfl, by simp [zeros_length], by omega, by simp [maxLen]⟩
  refine WC_loop (X := Nat × Value × Chunk) (fun x => [(4, x.2.1), (13, .agg [w32 h'.a, w32 h'.b, w32 h'.c, w32 h'.d, w32 h'.e].toArray), (14, .int .i64 (x.1 : Int))])
    (fun x => x.2.2 :: [(p, cl (shaC h blk t.length) 123)] :: L)
    (fun x => x.1 ≤ 5 ∧ Ow 5 1 x.2.1 (4 * x.1) (bsv (wbs ((hbs h').take x.1))) x.2.2) (fun x => 5 - x.1) (0, _, _) ⟨Nat.zero_le _, ho⟩ (by repeat (first | exact Sub.nil | refine Sub.cons rfl ?_ | refine Sub.cons (lk_int rfl (by first | omega | (dsimp only; omega))) ?_)) (fun w h => iH h) ?_
  intro x ⟨hx1, hx2⟩
  obtain ⟨k, v, C⟩ := x
  simp only at hx1 hx2 ⊢
  (repeat' first|refine kX ?_|refine kU fun bk=>?_|refine kV fun hc=>?_|refine kZ (fun hc=>?_) fun hc=>?_|fail)
  · have hk : k < 5 := by omega
    obtain ⟨w, hw⟩ : ∃ w, (hbs h')[k]? = some w := ⟨(hbs h')[k]'hk, List.getElem?_eq_getElem hk⟩
    have hwv : [w32 h'.a, w32 h'.b, w32 h'.c, w32 h'.d, w32 h'.e][k]? = some (w32 w) := wsv_get hw
    refine OW_W ?_ (he := EV_indexAgg rfl rfl rfl hwv hk)
    (repeat' first|refine kX ?_|refine kU fun bk=>?_|refine kV fun hc=>?_|refine kZ (fun hc=>?_) fun hc=>?_|fail)
    refine OW_call rfl rfl rfl (addWord_n _ w _ _ _ _ hx2 (by omega)) rfl (fun v1 L' hp => ?_)
    obtain ⟨_, C1, rfl, rfl, ho1⟩ := hp
    (repeat' first|refine kX ?_|refine kU fun bk=>?_|refine kV fun hc=>?_|refine kZ (fun hc=>?_) fun hc=>?_|fail)
    have e : wbs ((hbs h').take k) ++ wb w = wbs ((hbs h').take (k + 1)) := by
      rw [List.take_add_one, hw, wbs_append]; simp [wbs]
    rw [e] at ho1
    refine WQ_round (X := Nat × Value × Chunk) (μ := fun x => 5 - x.1) (x := (k, v, C)) (k + 1, v1, C1) (by simp only; omega) ⟨by simp only; omega, ho1⟩ (by repeat (first | exact Sub.nil | refine Sub.cons rfl ?_ | refine Sub.cons (lk_int rfl (by first | omega | (dsimp only; omega))) ?_)) (fun w h => h)
  · have hk : k = 5 := by omega
    subst hk
    (repeat' first|refine kX ?_|refine kU fun bk=>?_|refine kV fun hc=>?_|refine kZ (fun hc=>?_) fun hc=>?_|fail)
    (first | refine WQ_retI rfl rfl ?_ | refine WQ_endI rfl rfl ?_)
    refine ⟨_, iC, C, rfl, ?_⟩
    rw [shaN, ← hch]
    exact hx2
theorem sha1_n (t : List UInt8) (v : Value) (L : List Chunk) (hlen : t.length < 576460752303423488) (hv : SlC L 1 v t.length (bsv t)) :
    Gv Tryz.prog 17 [v].toArray L (fun r L' => ∃ C, L' = C :: L ∧ Ow 5 1 r 20 (bsv (shaN t)) C) := by
  refine Gv.of_body Tryz.func17 rfl rfl ?_
  (repeat' first|refine kX ?_|refine kU fun bk=>?_|refine kV fun hc=>?_|refine kZ (fun hc=>?_) fun hc=>?_|fail)
  refine OW_call rfl rfl rfl (newSHA_n L) rfl (fun r L' hp => ?_)
  obtain ⟨p, rfl, rfl⟩ := hp
  (repeat' first|refine kX ?_|refine kU fun bk=>?_|refine kV fun hc=>?_|refine kZ (fun hc=>?_) fun hc=>?_|fail)
  refine OW_call rfl rfl rfl (write_n [] t h50 (List.replicate 64 0) v p L .new (by simp; omega) hv) rfl (fun r L' hp => ?_)
  obtain ⟨rfl, h', blk', hi', rfl⟩ := hp
  rw [List.nil_append] at hi' ⊢
  (repeat' first|refine kX ?_|refine kU fun bk=>?_|refine kV fun hc=>?_|refine kZ (fun hc=>?_) fun hc=>?_|fail)
  refine OW_call rfl rfl rfl (sum_n t h' blk' p L hi' hlen) rfl (fun r L' hp => ?_)
  obtain ⟨C, rfl, ho⟩ := hp
  (repeat' first|refine kX ?_|refine kU fun bk=>?_|refine kV fun hc=>?_|refine kZ (fun hc=>?_) fun hc=>?_|fail)
  (first | refine WQ_retI rfl rfl ?_ | refine WQ_endI rfl rfl ?_)
  exact ⟨C :: L, iC, C, rfl, ho⟩
end Go.Proofs.YtfbeigbkdkiliaaGreatDoor
namespace Go.Proofs.YtfbeigbkdkiliaaGreatDoor
open Go Go.Vx
variable [W0]
set_option maxRecDepth 4000
set_option linter.all false
theorem sl_byte {L : List Chunk} {v : Value} {m k : Nat} {t : List UInt8} (h : Sl L 1 v m (bsv t)) (hk : k < m) :
    ∃ bb off cap c T fr, v = .slice (some ⟨bb, off, none⟩) m cap ∧ Fnd L bb (.cells c T fr) ∧ c[off + k * 1]? = some (.int .u8 ((t.getD k 0).toNat : Int)) := by
  rcases h with ⟨c, rfl, rfl, h0⟩ | ⟨a, cap, rfl, hr, hl⟩
  · omega
  · have hlt : k < t.length := by rw [bsv_length] at hl; omega
    have hg : (bsv t)[k]? = some (.int .u8 ((t.getD k 0).toNat : Int)) := bsv_get (by simp [List.getD, hlt])
    rcases hr with h0 | ⟨b, off, c, T, fr, rfl, h1, h2⟩
    · rw [h0] at hg; simp at hg
    · exact ⟨b, off, cap, c, T, fr, rfl, h1, by rw [Nat.mul_one]; exact h2 _ _ hg⟩
theorem take_succ {α : Type} {t : List α} {k : Nat} (d : α) (h : k < t.length) : t.take (k + 1) = t.take k ++ [t.getD k d] := by
  rw [List.take_add_one, List.getElem?_eq_getElem h]
  simp [List.getD, h]
omit [W0] in
def tabL : List (BitVec 32) := [0#32, 498536548#32, 997073096#32, 651767980#32, 1994146192#32, 1802195444#32, 1303535960#32, 1342533948#32, 3988292384#32, 4027552580#32, 3604390888#32, 3412177804#32, 2607071920#32, 2262029012#32, 2685067896#32, 3183342108#32]
omit [W0] in
/-- The table is laid. -/
def TabAt (L : List Chunk) : Prop := ∃ c T fr, Fnd L 1 (.cells c T fr) ∧ ∀ i, i < 16 → c[i]? = some (w32 (tabL.getD i 0))
theorem TabAt.there {L : List Chunk} {C : Chunk} (h : TabAt L) : TabAt (C :: L) := by
  obtain ⟨c, T, fr, h1, h2⟩ := h
  exact ⟨c, T, fr, h1.there, h2⟩
omit [W0] in
/-- Four bits, eight bits. -/
def nib (r : BitVec 32) : BitVec 32 := r >>> 4 ^^^ tabL.getD (r &&& 15#32).toNat 0
omit [W0] in
def crcByte (r : BitVec 32) (x : UInt8) : BitVec 32 := nib (nib (r ^^^ b2w x))
omit [W0] in
def crcN (r : BitVec 32) (t : List UInt8) : BitVec 32 := t.foldl crcByte r
theorem crcN_snoc (r : BitVec 32) (t : List UInt8) (x : UInt8) : crcN r (t ++ [x]) = crcByte (crcN r t) x := by simp [crcN]
theorem nib_lt (r : BitVec 32) : (r &&& 15#32).toNat < 16 := by
  rw [BitVec.toNat_and]
  have : r.toNat &&& (15#32).toNat ≤ (15#32).toNat := Nat.and_le_right
  have : (15#32).toNat = 15 := rfl
  omega
set_option maxHeartbeats 1000000 in
theorem crcwrite_n (r : BitVec 32) (t : List UInt8) (v : Value) (p : Nat) (T : TypeId) (L : List Chunk) (hlen : t.length < 576460752303423488) (hv : SlC L 1 v t.length (bsv t)) (ht : TabAt L) :
    Gv Tryz.prog 104 [.pointer (some ⟨p, 0, none⟩), v].toArray ([(p, cl [w32 r] T)] :: L) (fun z L' => z = .tuple #[] ∧ L' = [(p, cl [w32 (~~~ (crcN (~~~ r) t))] T)] :: L) := by
  refine Gv.of_body Tryz.func104 rfl rfl ?_
  obtain ⟨a, c, rfl, hmc⟩ := hv.room
  obtain ⟨tc, tT, tfr, hf1, hf2⟩ := ht
  (repeat' first|refine kX ?_|refine kU fun bk=>?_|refine kV fun hc=>?_|refine kZ (fun hc=>?_) fun hc=>?_|fail)
  refine WC_loop (X := Nat) (fun k => [(0, .pointer (some ⟨p, 0, none⟩)), (4, w32 (crcN (~~~ r) (t.take k))), (11, .slice a t.length c), (12, .int .i64 (t.length : Int)), (13, .int .i64 (k : Int))])
    (fun k => [(p, cl [w32 r] T)] :: L) (fun k => k ≤ t.length) (fun k => t.length - k) 0 (Nat.zero_le _) (by repeat (first | exact Sub.nil | refine Sub.cons rfl ?_ | refine Sub.cons (lk_int rfl (by first | omega | (dsimp only; omega))) ?_)) (fun w h => h) ?_
  intro k hk
  replace hk : k ≤ t.length := hk
  (repeat' first|refine kX ?_|refine kU fun bk=>?_|refine kV fun hc=>?_|refine kZ (fun hc=>?_) fun hc=>?_|fail)
  · have hlt : k < t.length := by omega
    obtain ⟨bb, off, cap, cc, bT, bfr, hve, hfn, hcell⟩ := sl_byte hv.sl hlt
    injection hve with e1 e2 e3
    subst e1 e3
    clear e2
    (repeat' first|refine kX ?_|refine kU fun bk=>?_|refine kV fun hc=>?_|refine kZ (fun hc=>?_) fun hc=>?_|fail)
    refine OW_W ?_ (he := EV_load rfl hfn.there hcell)
    (repeat' first|refine kX ?_|refine kU fun bk=>?_|refine kV fun hc=>?_|refine kZ (fun hc=>?_) fun hc=>?_|fail)
    have hld : ∀ i, i < 16 → tc[0 + i * 1]? = some (w32 (tabL.getD i 0)) := fun i hi => by rw [Nat.zero_add, Nat.mul_one]; exact hf2 i hi
    refine OW_EV (EV_indexAddrA' _ rfl rfl rfl (nib_lt _)) rfl ?_
    (repeat' first|refine kX ?_|refine kU fun bk=>?_|refine kV fun hc=>?_|refine kZ (fun hc=>?_) fun hc=>?_|fail)
    refine OW_EV (EV_load rfl hf1.there (hld _ (nib_lt _))) rfl ?_
    (repeat' first|refine kX ?_|refine kU fun bk=>?_|refine kV fun hc=>?_|refine kZ (fun hc=>?_) fun hc=>?_|fail)
    refine OW_EV (EV_indexAddrA' _ rfl rfl rfl (nib_lt _)) rfl ?_
    (repeat' first|refine kX ?_|refine kU fun bk=>?_|refine kV fun hc=>?_|refine kZ (fun hc=>?_) fun hc=>?_|fail)
    refine OW_EV (EV_load rfl hf1.there (hld _ (nib_lt _))) rfl ?_
    (repeat' first|refine kX ?_|refine kU fun bk=>?_|refine kV fun hc=>?_|refine kZ (fun hc=>?_) fun hc=>?_|fail)
    refine WQ_round (X := Nat) (J := fun k => k ≤ t.length) (μ := fun k => t.length - k) (x := k) (k + 1) (by omega) (show k + 1 ≤ t.length by omega) ?_ (fun w h => h)
    rw [take_succ 0 hlt, crcN_snoc]
    exact (by repeat (first | exact Sub.nil | refine Sub.cons rfl ?_ | refine Sub.cons (lk_int rfl (by first | omega | (dsimp only; omega))) ?_))
  · have hk : k = t.length := by omega
    subst hk
    rw [List.take_length]
    (first | refine WQ_retI rfl rfl ?_ | refine WQ_endI rfl rfl ?_)
    exact ⟨_, iC, rfl, rfl⟩
theorem crc_n (t : List UInt8) (v : Value) (L : List Chunk) (hlen : t.length < 576460752303423488) (hv : SlC L 1 v t.length (bsv t)) (ht : TabAt L) :
    GvP Tryz.prog 63 [v].toArray L (w32 (~~~ (crcN (~~~ 0#32) t))) := by
  refine Gv.of_body Tryz.func63 rfl rfl ?_
  (repeat' first|refine kX ?_|refine kU fun bk=>?_|refine kV fun hc=>?_|refine kZ (fun hc=>?_) fun hc=>?_|fail)
  refine OW_call rfl rfl rfl (crcwrite_n 0#32 t v _ _ L hlen hv ht) rfl (fun r L' hp => ?_)
  obtain ⟨rfl, rfl⟩ := hp
  (repeat' first|refine kX ?_|refine kU fun bk=>?_|refine kV fun hc=>?_|refine kZ (fun hc=>?_) fun hc=>?_|fail)
  ((first | refine WQ_retI rfl rfl ?_ | refine WQ_endI rfl rfl ?_); exact ⟨_, iC, rfl, rfl⟩)
omit [W0] in
def adlA (a : BitVec 32) (x : UInt8) : BitVec 32 := (a + b2w x) % 65521#32
omit [W0] in
def adlN (s : BitVec 32 × BitVec 32) (t : List UInt8) : BitVec 32 × BitVec 32 := t.foldl (fun s x => (adlA s.1 x, (s.2 + adlA s.1 x) % 65521#32)) s
theorem adlN_snoc (s : BitVec 32 × BitVec 32) (t : List UInt8) (x : UInt8) : adlN s (t ++ [x]) = (adlA (adlN s t).1 x, ((adlN s t).2 + adlA (adlN s t).1 x) % 65521#32) := by simp [adlN]
omit [W0] in
def adlV (s : BitVec 32 × BitVec 32) : BitVec 32 := s.2 <<< 16 ||| s.1
theorem newAdler_n (L : List Chunk) : Gv Tryz.prog 81 [].toArray L (fun r L' => ∃ p, r = .pointer (some ⟨p, 0, none⟩) ∧ L' = [(p, cl [w32 1#32, w32 0#32] 202)] :: L) := by
  refine Gv.of_body Tryz.func81 rfl rfl ?_
  (repeat' first|refine kX ?_|refine kU fun bk=>?_|refine kV fun hc=>?_|refine kZ (fun hc=>?_) fun hc=>?_|fail)
  first | refine WQ_retH rfl rfl ?_ | refine WQ_endH rfl rfl ?_
  exact ⟨[(bk, cl [w32 1#32, w32 0#32] 202)] :: L, fun w h => h, bk, rfl, rfl⟩
theorem adlerwrite_n (s : BitVec 32 × BitVec 32) (t : List UInt8) (v : Value) (p : Nat) (L : List Chunk) (hlen : t.length < 576460752303423488) (hv : SlC L 1 v t.length (bsv t)) :
    Gv Tryz.prog 82 [.pointer (some ⟨p, 0, none⟩), v].toArray ([(p, cl [w32 s.1, w32 s.2] 202)] :: L)
      (fun z L' => z = .tuple #[] ∧ L' = [(p, cl [w32 (adlN s t).1, w32 (adlN s t).2] 202)] :: L) := by
  refine Gv.of_body Tryz.func82 rfl rfl ?_
  obtain ⟨a, c, rfl, hmc⟩ := hv.room
  (repeat' first|refine kX ?_|refine kU fun bk=>?_|refine kV fun hc=>?_|refine kZ (fun hc=>?_) fun hc=>?_|fail)
  refine WC_drawAll [] mixed ?_
  (refine WR_w 0 ?_; refine WR_w 1 ?_; refine WR_w 2 ?_; refine WR_w 3 ?_; refine WR_w 4 ?_; refine WR_w 5 ?_; refine WR_w 6 ?_; refine WR_w 7 ?_; refine WR_w 8 ?_; refine WR_w 9 ?_)
  (refine WR_done (by kernel_rfl) ?_)
  (repeat' first|refine kX ?_|refine kU fun bk=>?_|refine kV fun hc=>?_|refine kZ (fun hc=>?_) fun hc=>?_|fail)
  refine WC_loop (X := Nat) (fun k => [(0, .pointer (some ⟨p, 0, none⟩)), (4, w32 (adlN s (t.take k)).1), (5, w32 (adlN s (t.take k)).2), (16, .slice a t.length c), (17, .int .i64 (t.length : Int)), (18, .int .i64 (k : Int))])
    (fun k => [(p, cl [w32 s.1, w32 s.2] 202)] :: L) (fun k => k ≤ t.length) (fun k => t.length - k) 0 (Nat.zero_le _) (by repeat (first | exact Sub.nil | refine Sub.cons rfl ?_ | refine Sub.cons (lk_int rfl (by first | omega | (dsimp only; omega))) ?_)) (fun w h => h) ?_
  intro k hk
  replace hk : k ≤ t.length := hk
  (repeat' first|refine kX ?_|refine kU fun bk=>?_|refine kV fun hc=>?_|refine kZ (fun hc=>?_) fun hc=>?_|fail)
  · have hlt : k < t.length := by omega
    obtain ⟨bb, off, cap, cc, bT, bfr, hve, hfn, hcell⟩ := sl_byte hv.sl hlt
    injection hve with e1 e2 e3
    subst e1 e3
    clear e2
    (repeat' first|refine kX ?_|refine kU fun bk=>?_|refine kV fun hc=>?_|refine kZ (fun hc=>?_) fun hc=>?_|fail)
    refine OW_W ?_ (he := EV_load rfl hfn.there hcell)
    (repeat' first|refine kX ?_|refine kU fun bk=>?_|refine kV fun hc=>?_|refine kZ (fun hc=>?_) fun hc=>?_|fail)
    refine WQ_round (X := Nat) (J := fun k => k ≤ t.length) (μ := fun k => t.length - k) (x := k) (k + 1) (by omega) (show k + 1 ≤ t.length by omega) ?_ (fun w h => h)
    rw [take_succ 0 hlt, adlN_snoc]
    exact (by repeat (first | exact Sub.nil | refine Sub.cons rfl ?_ | refine Sub.cons (lk_int rfl (by first | omega | (dsimp only; omega))) ?_))
  · have hk : k = t.length := by omega
    subst hk
    rw [List.take_length]
    (first | refine WQ_retI rfl rfl ?_ | refine WQ_endI rfl rfl ?_)
    exact ⟨_, iC, rfl, rfl⟩
theorem adlervalue_n (s : BitVec 32 × BitVec 32) (p : Nat) (L : List Chunk) (hf : Fnd L p (cl [w32 s.1, w32 s.2] 202)) : GvP Tryz.prog 83 [.pointer (some ⟨p, 0, none⟩)].toArray L (w32 (adlV s)) := by
  refine Gv.of_body Tryz.func83 rfl rfl ?_
  (repeat' first|refine kX ?_|refine kU fun bk=>?_|refine kV fun hc=>?_|refine kZ (fun hc=>?_) fun hc=>?_|fail)
  refine WC_drawAll [] mixed ?_
  (refine WR_w 0 ?_; refine WR_w 1 ?_; refine WR_w 2 ?_; refine WR_w 3 ?_; refine WR_w 4 ?_; refine WR_w 5 ?_; refine WR_w 6 ?_; refine WR_w 7 ?_; refine WR_w 8 ?_; refine WR_w 9 ?_; refine WR_w 10 ?_)
  (refine WR_done (by kernel_rfl) ?_)
  (repeat' first|refine kX ?_|refine kU fun bk=>?_|refine kV fun hc=>?_|refine kZ (fun hc=>?_) fun hc=>?_|fail)
  ((first | refine WQ_retI rfl rfl ?_ | refine WQ_endI rfl rfl ?_); exact ⟨_, iC, rfl, rfl⟩)
theorem adler_n (t : List UInt8) (v : Value) (L : List Chunk) (hlen : t.length < 576460752303423488) (hv : SlC L 1 v t.length (bsv t)) :
    GvP Tryz.prog 53 [v].toArray L (w32 (adlV (adlN (1#32, 0#32) t))) := by
  refine Gv.of_body Tryz.func53 rfl rfl ?_
  (repeat' first|refine kX ?_|refine kU fun bk=>?_|refine kV fun hc=>?_|refine kZ (fun hc=>?_) fun hc=>?_|fail)
  refine OW_call rfl rfl rfl (newAdler_n L) rfl (fun r L' hp => ?_)
  obtain ⟨p, rfl, rfl⟩ := hp
  (repeat' first|refine kX ?_|refine kU fun bk=>?_|refine kV fun hc=>?_|refine kZ (fun hc=>?_) fun hc=>?_|fail)
  refine OW_call rfl rfl rfl (adlerwrite_n (1#32, 0#32) t v p L hlen hv) rfl (fun r L' hp => ?_)
  obtain ⟨rfl, rfl⟩ := hp
  (repeat' first|refine kX ?_|refine kU fun bk=>?_|refine kV fun hc=>?_|refine kZ (fun hc=>?_) fun hc=>?_|fail)
  refine OW_callP rfl rfl rfl (adlervalue_n (adlN (1#32, 0#32) t) p _ Fnd.here) rfl ?_
  (repeat' first|refine kX ?_|refine kU fun bk=>?_|refine kV fun hc=>?_|refine kZ (fun hc=>?_) fun hc=>?_|fail)
  ((first | refine WQ_retI rfl rfl ?_ | refine WQ_endI rfl rfl ?_); exact ⟨_, iC, rfl, rfl⟩)
end Go.Proofs.YtfbeigbkdkiliaaGreatDoor
namespace Go.Proofs.YtfbeigbkdkiliaaGreatDoor
open Go Go.Vx
variable [W0]
set_option maxRecDepth 4000
set_option linter.all false
omit [W0] in
def digL : List UInt8 := [48, 49, 50, 51, 52, 53, 54, 55, 56, 57, 97, 98, 99, 100, 101, 102]
omit [W0] in
def digS : ByteArray := ⟨digL.toArray⟩
omit [W0] in
def dig (i : Nat) : UInt8 := digL.getD i 0
theorem dig_get {i : Nat} (h : i < 16) : digS[i]? = some (dig i) := by
  have : ∀ i : Fin 16, digS[i.val]? = some (dig i.val) := by decide
  exact this ⟨i, h⟩
omit [W0] in
def hexB (x : UInt8) : List UInt8 := [dig (x.toNat / 16), dig (x.toNat % 16)]
omit [W0] in
def hexL : List UInt8 → List UInt8
  | [] => []
  | x :: r => hexB x ++ hexL r
theorem hexL_append (a b : List UInt8) : hexL (a ++ b) = hexL a ++ hexL b := by
  induction a with
  | nil => rfl
  | cons x r ih => simp [hexL, ih]
theorem hexL_length (a : List UInt8) : (hexL a).length = 2 * a.length := by
  induction a with
  | nil => rfl
  | cons x r ih => simp [hexL, hexB, ih]; omega
set_option maxHeartbeats 1000000 in
theorem hex_n (t : List UInt8) (v : Value) (L : List Chunk) (hlen : t.length ≤ 35184372088832) (hv : SlC L 1 v t.length (bsv t)) :
    GvP Tryz.prog 42 [v].toArray L (.string ⟨(hexL t).toArray⟩) := by
  refine Gv.of_body Tryz.func42 rfl rfl ?_
  obtain ⟨a, c, rfl, hmc⟩ := hv.room
  (repeat' first|refine kX ?_|refine kU fun bk=>?_|refine kV fun hc=>?_|refine kZ (fun hc=>?_) fun hc=>?_|fail)
  refine OW_makeSlice (m := 0) (c := 2 * t.length) rfl rfl (by rfl) (by omega) (by omega) (by omega) rfl (fun bn => ?_)
  (repeat' first|refine kX ?_|refine kU fun bk=>?_|refine kV fun hc=>?_|refine kZ (fun hc=>?_) fun hc=>?_|fail)
  have ho : Ow 5 1 (.slice (some ⟨bn, 0, none⟩) 0 (2 * t.length)) 0 (bsv []) [(bn, cl (zeros [.int .u8 0] (2 * t.length)) 5)] :=
    .inr ⟨bn, 2 * t.length, zeros [.int .u8 0] (2 * t.length), rfl, rfl, rfl, by simp [zeros_length], by omega, by simp [maxLen]; omega⟩
  refine WC_loop (X := Nat × Value × Chunk) (fun x => [(3, x.2.1), (10, .slice a t.length c), (11, .int .i64 (t.length : Int)), (12, .int .i64 (x.1 : Int))])
    (fun x => x.2.2 :: L) (fun x => x.1 ≤ t.length ∧ Ow 5 1 x.2.1 (2 * x.1) (bsv (hexL (t.take x.1))) x.2.2) (fun x => t.length - x.1) (0, _, _) ⟨Nat.zero_le _, ho⟩ (by repeat (first | exact Sub.nil | refine Sub.cons rfl ?_ | refine Sub.cons (lk_int rfl (by first | omega | (dsimp only; omega))) ?_)) (fun w h => h) ?_
  intro x ⟨hx1, hx2⟩
  obtain ⟨k, s, C⟩ := x
  simp only at hx1 hx2 ⊢
  (repeat' first|refine kX ?_|refine kU fun bk=>?_|refine kV fun hc=>?_|refine kZ (fun hc=>?_) fun hc=>?_|fail)
  · have hlt : k < t.length := by omega
    obtain ⟨bb, off, cap, cc, bT, bfr, hve, hfn, hcell⟩ := sl_byte hv.sl hlt
    injection hve with e1 e2 e3
    subst e1 e3
    clear e2
    obtain ⟨x, hx⟩ : ∃ x, x = t.getD k 0 := ⟨_, rfl⟩
    rw [← hx] at hcell
    have hxl := x.toNat_lt
    (repeat' first|refine kX ?_|refine kU fun bk=>?_|refine kV fun hc=>?_|refine kZ (fun hc=>?_) fun hc=>?_|fail)
    refine OW_W ?_ (he := EV_load rfl hfn.there hcell)
    (repeat' first|refine kX ?_|refine kU fun bk=>?_|refine kV fun hc=>?_|refine kZ (fun hc=>?_) fun hc=>?_|fail)
    refine WC_drawAll [8, 9] mixed ?_
    (refine WR_w 0 ?_; refine WR_w 1 ?_; refine WR_w 2 ?_)
    (refine WR_take 3 rfl rfl (by kernel_rfl) (by repeat (first | with_reducible exact PO.body | with_reducible exact RP_po | with_reducible refine PO.then ?_ | with_reducible refine PO.block ?_)) iC (EV_indexStr (s := digS) (j := x.toNat / 16) rfl rfl (by omega) (dig_get (by omega))) (by rfl) ?_)
    (refine WR_w 4 ?_)
    (refine WR_take 5 rfl rfl (by kernel_rfl) (by repeat (first | with_reducible exact PO.body | with_reducible exact RP_po | with_reducible refine PO.then ?_ | with_reducible refine PO.block ?_)) iC (EV_mask rfl rfl rfl) (by rfl) ?_)
    (refine WR_take 6 rfl rfl (by kernel_rfl) (by repeat (first | with_reducible exact PO.body | with_reducible exact RP_po | with_reducible refine PO.then ?_ | with_reducible refine PO.block ?_)) iC (EV_indexStr (s := digS) (j := x.toNat % 16) rfl rfl rfl (dig_get (by omega))) (by rfl) ?_)
    (refine WR_one 7 (by kernel_rfl) rfl rfl ?_)
    refine OW_buildSlice (cs := bsv (hexB x)) rfl (by rfl) (by simp [fillL, patch, Value.cells, zeros]; rfl) (by omega) rfl rfl (fun bk => ?_)
    refine ⟨iC, ?_⟩
    (refine WR_last 8 (by kernel_rfl) rfl rfl rfl ?_)
    refine OW_append rfl rfl hx2 (sl_cells (c := (bsv (hexB x)).toArray) (xs := bsv (hexB x)) (m := 2) Fnd.here rfl (by simp)) (by repeat (first | exact Zip.here _ | apply Zip.there)) (by rfl) bsv_ones (by omega) (by simp [maxLen]; omega) rfl (fun v' C' ho1 h1 h2 => ?_)
    (refine WR_last 9 (by kernel_rfl) rfl rfl rfl ?_)
    refine OW_W ?_
    (refine WR_done (by kernel_rfl) ?_)
    (repeat' first|refine kX ?_|refine kU fun bk=>?_|refine kV fun hc=>?_|refine kZ (fun hc=>?_) fun hc=>?_|fail)
    have e : hexL (t.take (k + 1)) = hexL (t.take k) ++ hexB x := by
      rw [take_succ 0 hlt, hexL_append, ← hx]; simp [hexL]
    rw [← bsv_append, ← e] at ho1
    refine WQ_round (X := Nat × Value × Chunk) (μ := fun x => t.length - x.1) (x := (k, s, C)) (k + 1, v', C') (by simp only; omega) ⟨by simp only; omega, ho1⟩ (by repeat (first | exact Sub.nil | refine Sub.cons rfl ?_ | refine Sub.cons (lk_int rfl (by first | omega | (dsimp only; omega))) ?_)) (fun w h => iH h)
  · have hk : k = t.length := by omega
    subst hk
    rw [List.take_length] at hx2
    refine OW_EV (EV_convStr (b := hexL t) rfl (ow_sl hx2)) rfl ?_
    (repeat' first|refine kX ?_|refine kU fun bk=>?_|refine kV fun hc=>?_|refine kZ (fun hc=>?_) fun hc=>?_|fail)
    (first | refine WQ_retI rfl rfl ?_ | refine WQ_endI rfl rfl ?_)
    exact ⟨L, iC, rfl, rfl⟩
end Go.Proofs.YtfbeigbkdkiliaaGreatDoor
namespace Go.Vx
open Go
set_option linter.all false
variable [W0]
omit [W0] in
/-- No cell of the row is marked. -/
def FrOk (fr : Nat × Nat) (n : Nat) : Prop := ∀ j, j < n → ¬ (fr.1 ≤ j ∧ j < fr.2)
theorem FrOk.zero (n : Nat) : FrOk (0, 0) n := fun j _ h => by simp at h
theorem FrOk.behind (n : Nat) : FrOk (n, n + 1) n := fun j hj h => by simp at h; omega
end Go.Vx
namespace Go.Proofs.YtfbeigbkdkiliaaGreatDoor
open Go Go.Vx
variable [W0]
set_option maxRecDepth 4000
set_option linter.all false
omit [W0] in
/-- A text as the model has it. -/
def str (t : List UInt8) : ByteArray := ⟨t.toArray⟩
theorem str_size (t : List UInt8) : (str t).size = t.length := rfl
theorem str_get {t : List UInt8} {k : Nat} (h : k < t.length) : (str t)[k]? = some (t.getD k 0) := by
  show (str t).data[k]? = _
  simp [str, List.getD, h]
end Go.Proofs.YtfbeigbkdkiliaaGreatDoor
namespace Go.If
open Go.Vx Go.Hf
set_option linter.all false
def hdK (x y : Nat) : Bool := x % 16 == 8 && decide (x / 16 ≤ 7) && (x * 256 + y) % 31 == 0 && (y &&& 32) == 0
def wdN (b0 b1 b2 b3 : Nat) : Nat := ((b0 * 256 + b1) * 256 + b2) * 256 + b3
end Go.If
namespace Go.Proofs.YtfbeigbkdkiliaaGreatDoor
open Go Go.Vx Go.Hf Go.If
variable [W0]
set_option maxRecDepth 4000
set_option linter.all false
theorem bit_and8 {a b : Nat} (ha : a < 256) (hb : b < 256) : bitI .and .u8 (a : Int) (b : Int) = some ((a &&& b : Nat) : Int) := by
  have h1 : a &&& b ≤ a := Nat.and_le_left
  have e : ((BitVec.ofInt 8 (a : Int) &&& BitVec.ofInt 8 (b : Int)).toNat) = a &&& b := by
    rw [BitVec.toNat_and, BitVec.ofInt_natCast, BitVec.ofInt_natCast, BitVec.toNat_ofNat, BitVec.toNat_ofNat, Nat.mod_eq_of_lt (by omega), Nat.mod_eq_of_lt (by omega)]
  show some (IntKind.u8.wrap (((BitVec.ofInt 8 (a : Int) &&& BitVec.ofInt 8 (b : Int)).toNat : Nat) : Int)) = _
  rw [e]
  congr 1
  exact wrap_nat rfl (by simp [IntKind.bits]; omega)
theorem bit_or16 {a b : Nat} (ha : a < 256) (hb : b < 256) : bitI .or .i64 ((a * 256 : Nat) : Int) (b : Int) = some ((a * 256 + b : Nat) : Int) := by
  have e0 : a * 256 ||| b = a * 256 + b := by
    have := Nat.two_pow_add_eq_or_of_lt (i := 8) (b := b) (by omega) a
    rw [Nat.mul_comm a 256]
    exact this.symm
  have e : ((BitVec.ofInt 64 ((a * 256 : Nat) : Int) ||| BitVec.ofInt 64 (b : Int)).toNat) = a * 256 + b := by
    rw [BitVec.toNat_or, BitVec.ofInt_natCast, BitVec.ofInt_natCast, BitVec.toNat_ofNat, BitVec.toNat_ofNat, Nat.mod_eq_of_lt (by omega), Nat.mod_eq_of_lt (by omega), e0]
  show some (IntKind.i64.wrap (((BitVec.ofInt 64 ((a * 256 : Nat) : Int) ||| BitVec.ofInt 64 (b : Int)).toNat : Nat) : Int)) = _
  rw [e]
  congr 1
  exact wrap_i64s (by omega)
set_option maxHeartbeats 4000000 in
theorem isHead_n (x y : UInt8) (L : List Chunk) : GvP Tryz.prog 139 [.int .u8 (x.toNat : Int), .int .u8 (y.toNat : Int)].toArray L (.bool (hdK x.toNat y.toNat)) := by
  refine Gv.of_body Tryz.func139 rfl rfl ?_
  have hx := x.toNat_lt
  have hy := y.toNat_lt
  generalize x.toNat = a at hx ⊢
  generalize y.toNat = b at hy ⊢
  unfold hdK
  (repeat' first|refine kW ?_|refine kU fun bk=>?_|refine kV fun hc=>?_|refine kZ (fun hc=>?_) fun hc=>?_|fail)
  refine OW_EV (EV_nand (k := .u8) a 4 rfl rfl rfl rfl rfl (by simp only [IntKind.bits]; omega) (by decide)) rfl ?_
  have hno : ∀ (c1 : Bool), c1 = false → Value.bool false = .bool c1 := fun c1 h => by rw [h]
  have hno2 : ¬ (a % 16 = 8 ∧ a / 16 ≤ 7 ∧ (a * 256 + b) % 31 = 0) → (a % 16 == 8 && decide (a / 16 ≤ 7) && (a * 256 + b) % 31 == 0 && (b &&& 32) == 0) = false := by
    intro h
    cases hh : (a % 16 == 8 && decide (a / 16 ≤ 7) && (a * 256 + b) % 31 == 0 && (b &&& 32) == 0)
    · rfl
    · exfalso
      simp only [Bool.and_eq_true, beq_iff_eq, decide_eq_true_eq] at hh
      exact h ⟨hh.1.1.1, hh.1.1.2, hh.1.2⟩
  (repeat' first|refine kW ?_|refine kU fun bk=>?_|refine kV fun hc=>?_|refine kZ (fun hc=>?_) fun hc=>?_|fail)
  · refine OW_EV (EV_shl64 a 8 rfl rfl rfl rfl (by decide) (by omega)) rfl ?_
    rw [show a * 2 ^ 8 = a * 256 from rfl]
    (repeat' first|refine kW ?_|refine kU fun bk=>?_|refine kV fun hc=>?_|refine kZ (fun hc=>?_) fun hc=>?_|fail)
    refine OW_EV (EV_bit rfl rfl (bit_or16 (a := a) (b := b) hx hy)) rfl ?_
    (repeat' first|refine kW ?_|refine kU fun bk=>?_|refine kV fun hc=>?_|refine kZ (fun hc=>?_) fun hc=>?_|fail)
    refine OW_EV (EV_remN (a * 256 + b) 31 rfl rfl rfl rfl (by decide)) rfl ?_
    (repeat' first|refine kW ?_|refine kU fun bk=>?_|refine kV fun hc=>?_|refine kZ (fun hc=>?_) fun hc=>?_|fail)
    · refine OW_EV (EV_bit rfl rfl (bit_and8 (a := b) (b := 32) hy (by decide))) rfl ?_
      generalize hz : b &&& 32 = z
      (repeat' first|refine kW ?_|refine kU fun bk=>?_|refine kV fun hc=>?_|refine kZ (fun hc=>?_) fun hc=>?_|fail)
      refine kR ?_
      refine ⟨_, iC, ?_, rfl⟩
      refine congrArg Value.bool ?_
      rw [show (a % 16 == 8) = true from by simp; omega, show decide (a / 16 ≤ 7) = true from by simp; omega, show ((a * 256 + b) % 31 == 0) = true from by simp; omega]
      simp only [Bool.true_and]
      by_cases h0 : z = 0
      · subst h0; rfl
      · rw [show (z == 0) = false from by simpa using h0]; simp; omega
    · refine kR ?_
      exact ⟨_, iC, hno _ (hno2 (by omega)), rfl⟩
  · refine kR ?_
    exact ⟨_, iC, hno _ (hno2 (by omega)), rfl⟩
  · refine kR ?_
    exact ⟨_, iC, hno _ (hno2 (by omega)), rfl⟩
theorem sl_bytes {L : List Chunk} {v : Value} {m : Nat} {t : List UInt8} (h : Sl L 1 v m (bsv t)) (hm : 0 < m) :
    ∃ bb off cap c T fr, v = .slice (some ⟨bb, off, none⟩) m cap ∧ Fnd L bb (.cells c T fr) ∧ ∀ k, k < m → c[off + k * 1]? = some (.int .u8 ((t.getD k 0).toNat : Int)) := by
  rcases h with ⟨c, rfl, rfl, h0⟩ | ⟨a, cap, rfl, hr, hl⟩
  · omega
  · rw [bsv_length, Nat.mul_one] at hl
    rcases hr with h0 | ⟨b, off, c, T, fr, rfl, h1, h2⟩
    · have h9 : (bsv t).length = 0 := by rw [h0]; rfl
      rw [bsv_length] at h9
      omega
    · exact ⟨b, off, cap, c, T, fr, rfl, h1, fun k hk => by rw [Nat.mul_one]; exact h2 _ _ (bsv_get (by simp [List.getD, show k < t.length by omega]))⟩
set_option maxHeartbeats 4000000 in
theorem word_n (v : Value) (m : Nat) (t : List UInt8) (L : List Chunk) (h : Sl L 1 v m (bsv t)) (hm : 4 ≤ m) :
    GvP Tryz.prog 141 [v].toArray L (.int .u32 ((wdN (t.getD 0 0).toNat (t.getD 1 0).toNat (t.getD 2 0).toNat (t.getD 3 0).toNat : Nat) : Int)) := by
  refine Gv.of_body Tryz.func141 rfl rfl ?_
  obtain ⟨bb, off, cap, cc, T, fr, rfl, hfn, hcs⟩ := sl_bytes h (by omega)
  have hc0 := hcs 0 (by omega)
  have hc1 := hcs 1 (by omega)
  have hc2 := hcs 2 (by omega)
  have hc3 := hcs 3 (by omega)
  have h0 := (t.getD 0 0).toNat_lt
  have h1 := (t.getD 1 0).toNat_lt
  have h2 := (t.getD 2 0).toNat_lt
  have h3 := (t.getD 3 0).toNat_lt
  clear h hcs
  generalize (t.getD 0 0).toNat = b0 at *
  generalize (t.getD 1 0).toNat = b1 at *
  generalize (t.getD 2 0).toNat = b2 at *
  generalize (t.getD 3 0).toNat = b3 at *
  (repeat' first|refine kW ?_|refine kU fun bk=>?_|refine kV fun hc=>?_|refine kZ (fun hc=>?_) fun hc=>?_|fail)
  refine WC_drawAll [] mixed ?_
  (refine WR_t 0 ?_)
  (refine WR_take 1 rfl rfl (by kernel_rfl) iP iC (EV_indexAddr (j := 0) rfl rfl rfl (by omega)) (by rfl) ?_)
  (refine WR_take 2 rfl rfl (by kernel_rfl) iP iC (EV_load rfl hfn hc0) (by rfl) ?_)
  (refine WR_take 3 rfl rfl (by kernel_rfl) iP iC (EV_nconv b0 rfl rfl rfl (by simp only [IntKind.bits]; omega)) (by rfl) ?_)
  (refine WR_take 4 rfl rfl (by kernel_rfl) iP iC (EV_nshl b0 24 rfl rfl rfl rfl rfl (by simp only [IntKind.bits]; omega)) (by rfl) ?_)
  (refine WR_t 5 ?_)
  (refine WR_take 6 rfl rfl (by kernel_rfl) iP iC (EV_indexAddr (j := 1) rfl rfl rfl (by omega)) (by rfl) ?_)
  (refine WR_take 7 rfl rfl (by kernel_rfl) iP iC (EV_load rfl hfn hc1) (by rfl) ?_)
  (refine WR_take 8 rfl rfl (by kernel_rfl) iP iC (EV_nconv b1 rfl rfl rfl (by simp only [IntKind.bits]; omega)) (by rfl) ?_)
  (refine WR_take 9 rfl rfl (by kernel_rfl) iP iC (EV_nshl b1 16 rfl rfl rfl rfl rfl (by simp only [IntKind.bits]; omega)) (by rfl) ?_)
  (refine WR_take 10 rfl rfl (by kernel_rfl) iP iC (EV_nor' (k := .u32) (b1 * 2 ^ 16) b0 24 rfl rfl rfl rfl rfl (by omega) (by simp only [IntKind.bits]; omega)) (by rfl) ?_)
  rw [show b1 * 2 ^ 16 + b0 * 2 ^ 24 = (b1 + b0 * 256) * 2 ^ 16 from by omega]
  (refine WR_t 11 ?_)
  (refine WR_take 12 rfl rfl (by kernel_rfl) iP iC (EV_indexAddr (j := 2) rfl rfl rfl (by omega)) (by rfl) ?_)
  (refine WR_take 13 rfl rfl (by kernel_rfl) iP iC (EV_load rfl hfn hc2) (by rfl) ?_)
  (refine WR_take 14 rfl rfl (by kernel_rfl) iP iC (EV_nconv b2 rfl rfl rfl (by simp only [IntKind.bits]; omega)) (by rfl) ?_)
  (refine WR_take 15 rfl rfl (by kernel_rfl) iP iC (EV_nshl b2 8 rfl rfl rfl rfl rfl (by simp only [IntKind.bits]; omega)) (by rfl) ?_)
  (refine WR_take 16 rfl rfl (by kernel_rfl) iP iC (EV_nor' (k := .u32) (b2 * 2 ^ 8) (b1 + b0 * 256) 16 rfl rfl rfl rfl rfl (by omega) (by simp only [IntKind.bits]; omega)) (by rfl) ?_)
  rw [show b2 * 2 ^ 8 + (b1 + b0 * 256) * 2 ^ 16 = (b2 + (b1 + b0 * 256) * 256) * 2 ^ 8 from by omega]
  (refine WR_t 17 ?_)
  (refine WR_take 18 rfl rfl (by kernel_rfl) iP iC (EV_indexAddr (j := 3) rfl rfl rfl (by omega)) (by rfl) ?_)
  (refine WR_take 19 rfl rfl (by kernel_rfl) iP iC (EV_load rfl hfn hc3) (by rfl) ?_)
  (refine WR_take 20 rfl rfl (by kernel_rfl) iP iC (EV_nconv b3 rfl rfl rfl (by simp only [IntKind.bits]; omega)) (by rfl) ?_)
  (refine WR_take 21 rfl rfl (by kernel_rfl) iP iC (EV_nor' (k := .u32) b3 (b2 + (b1 + b0 * 256) * 256) 8 rfl rfl rfl rfl rfl (by omega) (by simp only [IntKind.bits]; omega)) (by rfl) ?_)
  rw [show b3 + (b2 + (b1 + b0 * 256) * 256) * 2 ^ 8 = wdN b0 b1 b2 b3 from by unfold wdN; omega]
  (refine WR_t 22 ?_)
  (refine WR_done (by kernel_rfl) ?_)
  (repeat' first|refine kW ?_|refine kU fun bk=>?_|refine kV fun hc=>?_|refine kZ (fun hc=>?_) fun hc=>?_|fail)
  exact kE
end Go.Proofs.YtfbeigbkdkiliaaGreatDoor
namespace Go.If
open Go.Vx Go.Hf
set_option linter.all false
def byt (d : List UInt8) (k : Nat) : Nat := (d.getD k 0).toNat
def usd [W0] (d : List UInt8) (m : Nat) : Nat := ((rawS (d.drop 2) m).t + 7) / 8
end Go.If
namespace Go.Proofs.YtfbeigbkdkiliaaGreatDoor
open Go Go.Vx Go.Hf Go.If
variable [W0]
set_option maxRecDepth 4000
set_option linter.all false
def adS (d : List UInt8) (m : Nat) : Nat := (adlV (adlN (1#32, 0#32) (rawS (d.drop 2) m).out)).toNat
def zlE (d : List UInt8) (m : Nat) : Nat :=
  if d.length < 2 then 4
  else if hdK (byt d 0) (byt d 1) = false then 3
  else if (rawS (d.drop 2) m).e ≠ 0 then (rawS (d.drop 2) m).e
  else if d.length < 2 + usd d m + 4 then 4
  else if wdN (byt d (2 + usd d m)) (byt d (2 + usd d m + 1)) (byt d (2 + usd d m + 2)) (byt d (2 + usd d m + 3)) ≠ adS d m then 6
  else 0
set_option maxHeartbeats 4000000 in
theorem pzlib_n (a : Option Addr) (c : Nat) (d : List UInt8) (most : Int) (m : Nat) (L : List Chunk) (hv : Sl L 1 (.slice a d.length c) d.length (bsv d)) (hl : d.length ≤ 140737488355328) (hcap : d.length ≤ c) (hm1 : max most 0 = (m : Int)) (hm : m ≤ 1000000) (hor : OrAt L) :
    Gv Tryz.prog 103 [.slice a d.length c, .int .i64 most].toArray L (fun r L' =>
      (zlE d m ≠ 0 ∧ r = .tuple #[.slice none 0 0, .int .i64 0, .int .i64 (zlE d m : Int)] ∧ L' = L) ∨
      (zlE d m = 0 ∧ ∃ v C, r = .tuple #[v, .int .i64 ((2 + usd d m + 4 : Nat) : Int), .int .i64 0] ∧ Ow 5 1 v (rawS (d.drop 2) m).out.length (bsv (rawS (d.drop 2) m).out) C ∧ (rawS (d.drop 2) m).out.length ≤ m ∧ L' = C :: L)) := by
  refine Gv.of_body Tryz.func103 rfl rfl ?_
  by_cases h2 : d.length < 2
  · have hz : zlE d m = 4 := by unfold zlE; rw [if_pos h2]
    rw [hz]
    (repeat' first|refine kW ?_|refine kU fun bk=>?_|refine kV fun hc=>?_|refine kZ (fun hc=>?_) fun hc=>?_|fail)
    refine WQ_retI (rs := [.tmp 4, .tmp 5, .tmp 6]) (vs := [.slice none 0 0, .int .i64 0, .int .i64 4]) rfl rfl ?_
    exact ⟨_, iC, .inl ⟨by decide, rfl, rfl⟩⟩
  have hz : zlE d m = if hdK (byt d 0) (byt d 1) = false then 3 else if (rawS (d.drop 2) m).e ≠ 0 then (rawS (d.drop 2) m).e else if d.length < 2 + usd d m + 4 then 4 else if wdN (byt d (2 + usd d m)) (byt d (2 + usd d m + 1)) (byt d (2 + usd d m + 2)) (byt d (2 + usd d m + 3)) ≠ adS d m then 6 else 0 := by
    unfold zlE; rw [if_neg h2]
  rw [hz]
  clear hz
  obtain ⟨bb, off, cap, cc, T, fr, hve, hfn, hcs⟩ := sl_bytes hv (by omega)
  injection hve with q1 q2 q3
  subst q1 q3
  clear q2
  have hhd := isHead_n (d.getD 0 0) (d.getD 1 0) L
  change GvP _ _ _ L (.bool (hdK (byt d 0) (byt d 1))) at hhd
  generalize hK : hdK (byt d 0) (byt d 1) = K at hhd ⊢
  (repeat' first|refine kW ?_|refine kU fun bk=>?_|refine kV fun hc=>?_|refine kZ (fun hc=>?_) fun hc=>?_|fail)
  refine WC_drawAll [] mixed ?_
  (refine WR_t 0 ?_)
  (refine WR_take 1 rfl rfl (by kernel_rfl) iP iC (EV_indexAddr (j := 0) rfl rfl rfl (by omega)) (by rfl) ?_)
  (refine WR_take 2 rfl rfl (by kernel_rfl) iP iC (EV_load rfl hfn (hcs 0 (by omega))) (by rfl) ?_)
  (refine WR_t 3 ?_)
  (refine WR_take 4 rfl rfl (by kernel_rfl) iP iC (EV_indexAddr (j := 1) rfl rfl rfl (by omega)) (by rfl) ?_)
  (refine WR_take 5 rfl rfl (by kernel_rfl) iP iC (EV_load rfl hfn (hcs 1 (by omega))) (by rfl) ?_)
  (refine WR_one 6 (by kernel_rfl) rfl rfl ?_)
  refine OW_callP rfl rfl rfl hhd rfl ?_
  refine ⟨iC, ?_⟩
  (refine WR_t 7 ?_)
  (refine WR_done (by kernel_rfl) ?_)
  cases K with
  | false =>
    rw [if_pos rfl]
    (repeat' first|refine kW ?_|refine kU fun bk=>?_|refine kV fun hc=>?_|refine kZ (fun hc=>?_) fun hc=>?_|fail)
    refine WQ_retI (rs := [.tmp 4, .tmp 5, .tmp 6]) (vs := [.slice none 0 0, .int .i64 0, .int .i64 3]) rfl rfl ?_
    exact ⟨_, iC, .inl ⟨by decide, rfl, rfl⟩⟩
  | true =>
    rw [if_neg (by decide)]
    have hsub : ∀ k, k ≤ d.length → Sl L 1 (.slice (some ⟨bb, if c = k then off else off + k * 1, none⟩) (d.length - k) (c - k)) (d.length - k) (bsv (d.drop k)) := by
      intro k hk
      refine .inr ⟨_, _, rfl, ?_, by rw [bsv_length, List.length_drop, Nat.mul_one]⟩
      by_cases h0 : d.length = k
      · refine .inl ?_
        rw [List.drop_of_length_le (by omega)]; rfl
      · rw [if_neg (by omega)]
        refine .inr ⟨bb, _, cc, T, fr, rfl, hfn, fun j u hj => ?_⟩
        have hjl : j < (d.drop k).length := by
          have := (List.getElem?_eq_some_iff.1 hj).1
          rwa [bsv_length] at this
        have hj2 : u = .int .u8 ((d.getD (k + j) 0).toNat : Int) := by
          have h3 := bsv_get (l := d.drop k) (i := j) (b := d.getD (k + j) 0) (by rw [List.length_drop] at hjl; simp [List.getD, show k + j < d.length by omega])
          rw [h3] at hj
          injection hj with hj
          exact hj.symm
        rw [hj2, show off + k * 1 + j = off + (k + j) * 1 from by omega]
        rw [List.length_drop] at hjl
        exact hcs (k + j) (by omega)
    have hra := praw_n (some ⟨bb, if c = 2 then off else off + 2 * 1, none⟩) (c - 2) (d.drop 2) most m L (by rw [List.length_drop]; exact hsub 2 (by omega)) (by rw [List.length_drop]; omega) hm1 hm hor
    rw [List.length_drop] at hra
    have hus : usd d m = ((rawS (d.drop 2) m).t + 7) / 8 := rfl
    have had : adS d m = (adlV (adlN (1#32, 0#32) (rawS (d.drop 2) m).out)).toNat := rfl
    generalize rawS (d.drop 2) m = R at hra hus had ⊢
    rw [← hus] at hra
    generalize usd d m = n at hra hus ⊢
    generalize adS d m = ad at had ⊢
    (repeat' first|refine kW ?_|refine kU fun bk=>?_|refine kV fun hc=>?_|refine kZ (fun hc=>?_) fun hc=>?_|fail)
    refine OW_EV (EV_sliceSl (l := 2) (h := d.length) rfl rfl rfl (by omega) hcap) rfl ?_
    (repeat' first|refine kW ?_|refine kU fun bk=>?_|refine kV fun hc=>?_|refine kZ (fun hc=>?_) fun hc=>?_|fail)
    refine OW_call rfl rfl rfl hra rfl (fun r L' hp => ?_)
    rcases hp with ⟨h3, rfl, rfl⟩ | ⟨h3, v1, C1, rfl, ho1, hl1, ht1, rfl⟩
    · rw [if_pos h3]
      (repeat' first|refine kW ?_|refine kU fun bk=>?_|refine kV fun hc=>?_|refine kZ (fun hc=>?_) fun hc=>?_|fail)
      refine WQ_retI (rs := [.tmp 4, .tmp 5, .tmp 6]) (vs := [.slice none 0 0, .int .i64 0, .int .i64 (R.e : Int)]) rfl rfl ?_
      exact ⟨_, iC, .inl ⟨h3, rfl, rfl⟩⟩
    rw [if_neg (show ¬ R.e ≠ 0 by omega)]
    have hn2 : 2 + n ≤ d.length := by omega
    (repeat' first|refine kW ?_|refine kU fun bk=>?_|refine kV fun hc=>?_|refine kZ (fun hc=>?_) fun hc=>?_|fail)
    rw [show (2 : Int) + (n : Int) = ((2 + n : Nat) : Int) from by omega]
    refine OW_EV (EV_sliceSl (l := 2 + n) (h := d.length) rfl rfl rfl hn2 hcap) rfl ?_
    (repeat' first|refine kW ?_|refine kU fun bk=>?_|refine kV fun hc=>?_|refine kZ (fun hc=>?_) fun hc=>?_|fail)
    · rw [if_pos (show d.length < 2 + n + 4 by omega)]
      refine WQ_retI (rs := [.tmp 4, .tmp 5, .tmp 6]) (vs := [.slice none 0 0, .int .i64 0, .int .i64 4]) rfl rfl ?_
      exact ⟨_, iC, .inl ⟨by decide, rfl, rfl⟩⟩
    rw [if_neg (show ¬ d.length < 2 + n + 4 by omega)]
    have hw := word_n _ _ (d.drop (2 + n)) (C1 :: L) (sl_there (hsub (2 + n) hn2)) (by omega)
    have hgd : ∀ j, ((d.drop (2 + n)).getD j 0).toNat = byt d (2 + n + j) := fun j => by simp [byt, List.getD]
    rw [hgd, hgd, hgd, hgd, Nat.add_zero] at hw
    refine OW_callP rfl rfl rfl hw rfl ?_
    generalize wdN (byt d (2 + n)) (byt d (2 + n + 1)) (byt d (2 + n + 2)) (byt d (2 + n + 3)) = wd
    (repeat' first|refine kW ?_|refine kU fun bk=>?_|refine kV fun hc=>?_|refine kZ (fun hc=>?_) fun hc=>?_|fail)
    have hadl : GvP Tryz.prog 53 [v1].toArray (C1 :: L) (.int .u32 (ad : Int)) := by rw [had]; exact adler_n R.out v1 (C1 :: L) (by omega) (SlC.ow ho1)
    refine OW_callP rfl rfl rfl hadl rfl ?_
    (repeat' first|refine kW ?_|refine kU fun bk=>?_|refine kV fun hc=>?_|refine kZ (fun hc=>?_) fun hc=>?_|fail)
    · rw [if_pos (show wd ≠ ad by omega)]
      refine WQ_retI (rs := [.tmp 4, .tmp 5, .tmp 6]) (vs := [.slice none 0 0, .int .i64 0, .int .i64 6]) rfl rfl ?_
      exact ⟨_, iC, .inl ⟨by decide, rfl, rfl⟩⟩
    · rw [if_neg (show ¬ wd ≠ ad by omega)]
      refine kR ?_
      exact ⟨_, iC, .inr ⟨rfl, v1, C1, by rw [show ((2 + n + 4 : Nat) : Int) = 2 + (n : Int) + 4 from by omega]; rfl, ho1, hl1, rfl⟩⟩
end Go.Proofs.YtfbeigbkdkiliaaGreatDoor
namespace Go.Vx
open Go Go.WideMaps
variable [W0]
set_option linter.all false
omit [W0] in
/-- Three bytes as a key. -/
def kv3 (l : List UInt8) : Value := .agg (bsv l).toArray
omit [W0] in
class KA (P : Program) (k : Nat) (e : outParam Nat) : Prop where
  arr : ArrKey P k e 3
  byte : P.underlying e = some (.int .u8)
  pos : ∃ m, P.types.size = m + 1
omit [W0] in
theorem bsv_inj : ∀ {a b : List UInt8}, bsv a = bsv b → a = b
  | [], [], _ => rfl
  | [], _ :: _, h => by simp [bsv] at h
  | _ :: _, [], h => by simp [bsv] at h
  | x :: a, y :: b, h => by
    simp only [bsv, List.map_cons, List.cons.injEq, Value.int.injEq, true_and] at h
    have h1 : x.toNat = y.toNat := by omega
    rw [UInt8.toNat_inj.1 h1, bsv_inj h.2]
omit [W0] in
theorem kv3_inj {a b : List UInt8} (h : kv3 a = kv3 b) : a = b := by
  unfold kv3 at h
  simp only [Value.agg.injEq] at h
  exact bsv_inj (by simpa using congrArg Array.toList h)
omit [W0] in
theorem byte_wf (x : UInt8) : (Lit.int .u8 (x.toNat : Int)).wf = true := by
  have := x.toNat_lt
  simp [Lit.wf, IntKind.wrap, IntKind.bits, IntKind.signed, IntKind.min, IntKind.max]
  omega
omit [W0] in
theorem KA.key {P : Program} {k e : Nat} (h : KA P k e) {l : List UInt8} (hl : l.length = 3) : ∃ q, keyOf P k (kv3 l) = some q := by
  match l, hl with
  | [a, b, c], _ =>
    obtain ⟨m, hm⟩ := h.pos
    have hk := h.arr.keyType ⟨m, hm⟩
    have h1 : ∀ (x : UInt8) (D : Nat), P.keyLits (D + 1) e [.int .u8 (x.toNat : Int)] = some [.int .u8 (x.toNat : Int)] := fun x D => by
      unfold Program.keyLits
      rw [h.byte]
      simp only [byte_wf, and_self, if_true]
    have h2 : P.keyLits (P.types.size + 1) k [.int .u8 (a.toNat : Int), .int .u8 (b.toNat : Int), .int .u8 (c.toNat : Int)] = some [.int .u8 (a.toNat : Int), .int .u8 (b.toNat : Int), .int .u8 (c.toNat : Int)] := by
      rw [hm]
      unfold Program.keyLits
      rw [h.arr.hu]
      simp only [h.arr.size, h.arr.one]
      rw [if_pos (by rfl)]
      simp only [List.range_succ, List.range_zero, List.nil_append, List.cons_append, List.mapM_cons, List.mapM_nil, List.drop, List.take, Nat.zero_mul, Nat.one_mul, Nat.mul_one, h1]
      rfl
    unfold keyOf
    rw [h.arr.hu]
    have hf : (kv3 [a, b, c]).formed P k = true := by
      unfold kv3 Value.formed
      simp only [h.arr.hu, h.arr.size]
      rfl
    have hc : (kv3 [a, b, c]).cells.toList = [.int .u8 (a.toNat : Int), .int .u8 (b.toNat : Int), .int .u8 (c.toNat : Int)] := by simp [kv3, bsv, Value.cells]
    simp only [hk, hf, hc, h2, Bool.and_self, if_true, Option.map_some]
    exact ⟨_, rfl⟩
omit [W0] in
/-- What a map's block holds. -/
structure MpR (es : Array MapEntry) (g : List UInt8 → Option Nat) : Prop where
  ent : ∀ e ∈ es.toList, ∃ l m, l.length = 3 ∧ e.key = kv3 l ∧ e.val = .int .i64 ((m : Nat) : Int) ∧ g l = some m
  has : ∀ l m, l.length = 3 → g l = some m → ∃ e ∈ es.toList, e.key = kv3 l
  one : ∀ (i j : Nat) (e f : MapEntry), es[i]? = some e → es[j]? = some f → e.key = f.key → i = j
omit [W0] in
theorem MpR.nil : MpR #[] (fun _ => none) := ⟨fun e h => by simp at h, fun l m _ h => by simp at h, fun i j e f h => by simp at h⟩
omit [W0] in
def ups (g : List UInt8 → Option Nat) (l : List UInt8) (m : Nat) : List UInt8 → Option Nat := fun q => if q = l then some m else g q
omit [W0] in
theorem MpR.find {P : Program} {k e : Nat} (hk : KA P k e) {es : Array MapEntry} {g : List UInt8 → Option Nat} (h : MpR es g) {l : List UInt8} (hl : l.length = 3) (w : World) :
    (g l = none ∧ (Instr.findKey k (kv3 l) es.toList).run P w = .ok none w ∧ ∀ x ∈ es.toList, x.key ≠ kv3 l) ∨
    ∃ m j x, g l = some m ∧ (Instr.findKey k (kv3 l) es.toList).run P w = .ok (some (j, .int .i64 ((m : Nat) : Int))) w ∧ es[j]? = some x ∧ x.key = kv3 l := by
  obtain ⟨q, hq⟩ := hk.key hl
  have hall : ∀ x ∈ es.toList, ∃ y, keyOf P k x.key = some y := fun x hx => by
    obtain ⟨l', m', h1, h2, _⟩ := h.ent x hx
    rw [h2]
    exact hk.key h1
  rcases hk.arr.law.find w hq es.toList hall with ⟨h1, h2⟩ | ⟨j, x, h1, h2, h3⟩
  · left
    refine ⟨?_, h1, h2⟩
    cases hg : g l with
    | none => rfl
    | some m =>
      obtain ⟨x, hx, hxk⟩ := h.has l m hl hg
      exact absurd hxk (h2 x hx)
  · right
    have hx : x ∈ es.toList := List.mem_of_getElem? h2
    obtain ⟨l', m, g1, g2, g3, g4⟩ := h.ent x hx
    rw [h3] at g2
    have e := kv3_inj g2
    subst e
    exact ⟨m, j, x, g4, by rw [h1, g3], by simpa using h2, h3⟩
section
variable {P : Program} {n : Nat} {Q : Exit → Act → World → Prop} {M : List (Nat × Value)} {L : List Chunk} {K : List (Nat × Value) → List Chunk → Prop}
variable {d : Nat} {ty : TypeId} {ps : String} {af : Array Edge} {g : Option (Nat × Bool)} {x y z : Operand} {v : Value}
theorem OW_makeMap {t : Nat} (hn : Nat.blt d n = true) (h : ∀ b, K ((d, .map (some b)) :: M) ([(b, .map #[] 0)] :: L)) : OW P n ⟨some d, .makeMap t none, ty, ps, af, g⟩ K M L :=
  OW_newval (f := fun b => .map (some b)) rfl hn (fun a w ha hw => by
    simp only [execOp, Option.map_none, Sem.run_bind, show (Instr.makeMap t none).run P w = .ok (.map (some w.heap.size)) (w.alloc (.map #[] 0)) from rfl, Result.andThen_ok, Sem.run_pure]) h
omit [W0] in
theorem MpR.push {es : Array MapEntry} {f : List UInt8 → Option Nat} (h : MpR es f) {l : List UInt8} (hl : l.length = 3) (m c : Nat) (hno : ∀ x ∈ es.toList, x.key ≠ kv3 l) :
    MpR (es.push { key := kv3 l, val := .int .i64 ((m : Nat) : Int), born := c }) (ups f l m) := by
  refine ⟨fun e he => ?_, fun q r hq hr => ?_, fun i j e e' hi hj hk => ?_⟩
  · simp only [Array.toList_push, List.mem_append, List.mem_singleton] at he
    rcases he with he | rfl
    · obtain ⟨l', m', h1, h2, h3, h4⟩ := h.ent e he
      refine ⟨l', m', h1, h2, h3, ?_⟩
      unfold ups
      rw [if_neg (fun hh => hno e he (by rw [h2, hh]))]
      exact h4
    · exact ⟨l, m, hl, rfl, rfl, by unfold ups; rw [if_pos rfl]⟩
  · unfold ups at hr
    split at hr
    · rename_i hh
      exact ⟨_, by simp only [Array.toList_push, List.mem_append, List.mem_singleton]; exact .inr rfl, by rw [hh]⟩
    · obtain ⟨e, he, hk⟩ := h.has q r hq hr
      exact ⟨e, by simp only [Array.toList_push, List.mem_append]; exact .inl he, hk⟩
  · rw [Array.getElem?_push] at hi hj
    have hnew : ∀ (i : Nat) (e : MapEntry), es[i]? = some e → e.key ≠ kv3 l := fun i e hi => hno e (List.mem_of_getElem? (by simpa using hi))
    split at hi <;> split at hj
    · omega
    · cases hi
      exact absurd hk.symm (hnew j e' hj)
    · cases hj
      exact absurd hk (hnew i e hi)
    · exact h.one i j e e' hi hj hk
omit [W0] in
/-- A slice that can be read, with its room. -/
structure Rs (L : List Chunk) (k : Nat) (v : Value) (m : Nat) (xs : List Value) : Prop where
  sl : Sl L k v m xs
  room : ∃ a c, v = .slice a m c ∧ m ≤ c
theorem Rs.sub {L L' : List Chunk} (hs : ∀ x ∈ L.flatten, x ∈ L'.flatten) {k m : Nat} {v : Value} {xs : List Value} (h : Rs L k v m xs) : Rs L' k v m xs := ⟨sl_sub hs h.sl, h.room⟩
theorem Rs.there {L : List Chunk} {C : Chunk} {k m : Nat} {v : Value} {xs : List Value} (h : Rs L k v m xs) : Rs (C :: L) k v m xs := ⟨sl_there h.sl, h.room⟩
theorem Rs.ow {e k m : Nat} {v : Value} {xs : List Value} {C : Chunk} {L : List Chunk} (h : Ow e k v m xs C) : Rs (C :: L) k v m xs := by
  refine ⟨ow_sl h, ?_⟩
  rcases h with ⟨rfl, rfl, _⟩ | ⟨b, cap, rest, rfl, _, _, _, hmc, _⟩
  · exact ⟨_, _, rfl, Nat.le_refl _⟩
  · exact ⟨_, _, rfl, hmc⟩
theorem Rs.one {L : List Chunk} {k m : Nat} {v : Value} {xs : List Value} (h : Rs L k v m xs) : v.oneCell' = true := by obtain ⟨a, c, rfl, _⟩ := h.room; rfl
theorem Rs.nil {L : List Chunk} {k : Nat} : Rs L k (.slice none 0 0) 0 [] := ⟨.inl ⟨0, rfl, rfl, rfl⟩, none, 0, rfl, Nat.le_refl _⟩
theorem Rs.len {L : List Chunk} {k m : Nat} {v : Value} {xs : List Value} (h : Rs L k v m xs) : xs.length = m * k := by
  rcases h.sl with ⟨c, rfl, rfl, rfl⟩ | ⟨a, cap, rfl, _, hl⟩
  · simp
  · exact hl
theorem EV_sliceRs {P : Program} {T e k by_ : Nat} [hs : SL P T e k by_] {v : Value} {m : Nat} {xs : List Value} {L0 : List Chunk} (hO : Rs L0 k v m xs) {l h : Nat} (h1 : l ≤ h) (h2 : h ≤ m) :
    ∃ r, Rs L0 k r (h - l) ((xs.drop (l * k)).take ((h - l) * k)) ∧ ∀ {n : Nat} {M : List (Nat × Value)} {L : List Chunk} {d : Nat} {ty : TypeId} {ps : String} {af : Array Edge} {g : Option (Nat × Bool)} {x : Operand} {lo hi : Option Operand},
      ev M x = some v → bnd M lo 0 = some (l : Int) → bnd M hi m = some (h : Int) → EV P n ⟨some d, .slice T x lo hi none, ty, ps, af, g⟩ M L d r := by
  obtain ⟨a, c, rfl, hmc⟩ := hO.room
  have hlen := hO.len
  refine ⟨.slice (if c = l then a else a.map (·.add (l * k))) (h - l) (c - l), ⟨?_, _, _, rfl, by omega⟩, ?_⟩
  · rcases hO.sl with ⟨c', hv, rfl, rfl⟩ | ⟨a', cap, hv, hr, hl⟩
    · cases hv
      refine .inl ⟨c - l, ?_, by omega, by simp⟩
      rw [show h - l = 0 from by omega]
      split <;> rfl
    · cases hv
      refine .inr ⟨if c = l then a' else a'.add (l * k), c - l, by split <;> rfl, ?_, ?_⟩
      · rcases hr with h0 | ⟨b, off, cc, TT, fr, rfl, hf, hc⟩
        · subst h0
          exact .inl (by simp)
        · by_cases hcl : c = l
          · rw [if_pos hcl]
            refine .inl ?_
            rw [show h - l = 0 from by omega, Nat.zero_mul, List.take_zero]
          · rw [if_neg hcl, addr_add]
            refine .inr ⟨b, off + l * k, cc, TT, fr, rfl, hf, fun j u hj => ?_⟩
            rw [List.getElem?_take] at hj
            split at hj
            · rw [List.getElem?_drop] at hj
              rw [Nat.add_assoc]
              exact hc _ _ hj
            · cases hj
      · rw [List.length_take, List.length_drop, hlen]
        have : (h - l) * k ≤ m * k - l * k := by rw [← Nat.sub_mul]; exact Nat.mul_le_mul_right k (by omega)
        omega
  · intro n M L d ty ps af g x lo hi hx hl hh
    exact ⟨rfl, fun a' w ha _ => by
      obtain ⟨hu, i', hi', hk', _, hk0⟩ := hs.parts
      simp [execOp, ha.eval hx, Instr.sliceAt, Instr.slice, underlying, hu, sliceBounds_run ha hl hh h1 (show h ≤ c by omega), sizeOf, typeInfo, hi', hk']⟩
end
end Go.Vx
namespace Go.Vx
theorem Inc.mem [W0] {S L : List Chunk} (h : Inc S L) : ∀ x ∈ S.flatten, x ∈ L.flatten := by
  obtain ⟨R, hp⟩ := h
  intro x hx
  exact hp.flatten.mem_iff.2 (by rw [List.flatten_append]; exact List.mem_append_left _ hx)
end Go.Vx
namespace Go.Pk
set_option linter.all false
structure Rw where
  kind : Nat
  at_ : Nat
  size : Nat
  crc : BitVec 32
  data : List UInt8
  base : List UInt8
  off : Nat
def pg8 : List UInt8 := [80, 65, 67, 75, 0, 0, 0, 2]
def pgE : List UInt8 → List UInt8 → Nat
  | [], _ => 0
  | _ :: _, [] => 4
  | w :: ws, c :: cs => if c = w then pgE ws cs else 3
end Go.Pk
namespace Go.Proofs.YtfbeigbkdkiliaaGreatDoor
open Go Go.Vx Go.Dl Go.Pk Go.If
variable [W0]
set_option maxRecDepth 4000
set_option linter.all false
def dtN (d : List UInt8) : Nat → Nat → Nat
  | 0, n => n
  | f + 1, n => if zlE (d.take n) 65536 = 4 ∧ n < d.length then dtN d f (min (2 * n) d.length) else n
def dtM (d : List UInt8) (size : Nat) : Nat := dtN d (d.length + 1) (min (size + 64) d.length)
def pcB (b : List UInt8) (at_ q kind : Nat) : List UInt8 × Nat × Nat × Nat :=
  if kind = 6 then
    if ctN (b.drop q) = 0 then ([], 0, 0, 4)
    else if 5 < ctN (b.drop q) then ([], 0, 0, 3)
    else if poV ((b.drop q).take (ctN (b.drop q))) = 0 ∨ at_ < poV ((b.drop q).take (ctN (b.drop q))) then ([], 0, 0, 3)
    else ([], at_ - poV ((b.drop q).take (ctN (b.drop q))), q + ctN (b.drop q), 0)
  else if kind = 7 then
    if b.length - q < 20 then ([], 0, 0, 4) else (hexL ((b.drop q).take 20), 0, q + 20, 0)
  else ([], 0, q, 0)
def pqQ (b : List UInt8) (at_ : Nat) : Nat := at_ + ctN (b.drop at_)
def pB (b : List UInt8) (at_ : Nat) : List UInt8 × Nat × Nat × Nat := pcB b at_ (pqQ b at_) (pkK (b.drop at_))
def pD (b : List UInt8) (at_ : Nat) : List UInt8 := b.drop (pB b at_).2.2.1
def pZ (b : List UInt8) (at_ : Nat) : List UInt8 := (pD b at_).take (dtM (pD b at_) (pkS (b.drop at_)))
def pO (b : List UInt8) (at_ : Nat) : List UInt8 := (rawS ((pZ b at_).drop 2) 65536).out
def pP (b : List UInt8) (at_ : Nat) : Nat := (pB b at_).2.2.1 + (2 + usd (pZ b at_) 65536 + 4)
def pE (b : List UInt8) (at_ : Nat) : Nat :=
  if pkE (b.drop at_) ≠ 0 then pkE (b.drop at_)
  else if (pB b at_).2.2.2 ≠ 0 then (pB b at_).2.2.2
  else if zlE (pZ b at_) 65536 ≠ 0 then zlE (pZ b at_) 65536
  else if (pO b at_).length ≠ pkS (b.drop at_) then 3 else 0
def pR (b : List UInt8) (at_ : Nat) : Rw := ⟨pkK (b.drop at_), at_, pkS (b.drop at_), ~~~ (crcN (~~~ 0#32) ((b.drop at_).take (pP b at_ - at_))), pO b at_, (pB b at_).1, (pB b at_).2.1⟩
theorem zlE_room (d : List UInt8) (m : Nat) (h : zlE d m = 0) : 2 + usd d m + 4 ≤ d.length := by
  unfold zlE at h
  by_cases h1 : d.length < 2
  · rw [if_pos h1] at h; exact absurd h (by decide)
  rw [if_neg h1] at h
  by_cases h2 : hdK (byt d 0) (byt d 1) = false
  · rw [if_pos h2] at h; exact absurd h (by decide)
  rw [if_neg h2] at h
  by_cases h3 : (rawS (d.drop 2) m).e ≠ 0
  · rw [if_pos h3] at h; exact absurd h h3
  rw [if_neg h3] at h
  by_cases h4 : d.length < 2 + usd d m + 4
  · rw [if_pos h4] at h; exact absurd h (by decide)
  omega
theorem pcB_le (b : List UInt8) (at_ q kind : Nat) (hq : q ≤ b.length) : (pcB b at_ q kind).2.2.1 ≤ b.length ∧ ((pcB b at_ q kind).2.2.2 = 0 → q ≤ (pcB b at_ q kind).2.2.1) := by
  have := ctN_le (b.drop q)
  rw [List.length_drop] at this
  unfold pcB
  by_cases h1 : kind = 6
  · rw [if_pos h1]
    by_cases h2 : ctN (b.drop q) = 0
    · rw [if_pos h2]; exact ⟨Nat.zero_le _, fun h => absurd h (by decide)⟩
    rw [if_neg h2]
    by_cases h3 : 5 < ctN (b.drop q)
    · rw [if_pos h3]; exact ⟨Nat.zero_le _, fun h => absurd h (by decide)⟩
    rw [if_neg h3]
    split
    · exact ⟨Nat.zero_le _, fun h => absurd h (by decide)⟩
    · simp only; omega
  rw [if_neg h1]
  by_cases h2 : kind = 7
  · rw [if_pos h2]
    by_cases h3 : b.length - q < 20
    · rw [if_pos h3]; exact ⟨Nat.zero_le _, fun h => absurd h (by decide)⟩
    rw [if_neg h3]; simp only; omega
  rw [if_neg h2]; simp only; omega
theorem pqQ_le (b : List UInt8) (at_ : Nat) (h : at_ ≤ b.length) : pqQ b at_ ≤ b.length := by
  have := ctN_le (b.drop at_)
  rw [List.length_drop] at this
  unfold pqQ; omega
theorem pkE_pos {d : List UInt8} (h : pkE d = 0) : 1 ≤ ctN d ∧ ctN d ≤ 5 ∧ pkS d ≤ 65536 ∧ 1 ≤ pkK d ∧ pkK d ≤ 7 ∧ pkK d ≠ 5 := by
  have hk : pkK d ≤ 7 := by unfold pkK; omega
  unfold pkE at h
  by_cases h1 : d = []
  · rw [if_pos h1] at h; exact absurd h (by decide)
  rw [if_neg h1] at h
  by_cases h2 : pkK d = 0 ∨ pkK d = 5
  · rw [if_pos h2] at h; exact absurd h (by decide)
  rw [if_neg h2] at h
  by_cases h3 : ctN d = 0
  · rw [if_pos h3] at h; exact absurd h (by decide)
  rw [if_neg h3] at h
  by_cases h4 : 5 < ctN d
  · rw [if_pos h4] at h; exact absurd h (by decide)
  rw [if_neg h4] at h
  by_cases h5 : 2147483647 < pkS d
  · rw [if_pos h5] at h; exact absurd h (by decide)
  rw [if_neg h5] at h
  by_cases h6 : 65536 < pkS d
  · rw [if_pos h6] at h; exact absurd h (by decide)
  omega
theorem pE_fit (b : List UInt8) (at_ : Nat) (ha : at_ ≤ b.length) (h : pE b at_ = 0) : at_ < pP b at_ ∧ pP b at_ ≤ b.length := by
  unfold pE at h
  by_cases h1 : pkE (b.drop at_) ≠ 0
  · rw [if_pos h1] at h; exact absurd h h1
  rw [if_neg h1] at h
  by_cases h2 : (pB b at_).2.2.2 ≠ 0
  · rw [if_pos h2] at h; exact absurd h h2
  rw [if_neg h2] at h
  by_cases h3 : zlE (pZ b at_) 65536 ≠ 0
  · rw [if_pos h3] at h; exact absurd h h3
  have h4 := zlE_room (pZ b at_) 65536 (by omega)
  have h5 := pcB_le b at_ (pqQ b at_) (pkK (b.drop at_)) (pqQ_le b at_ ha)
  have h6 : pqQ b at_ ≤ (pB b at_).2.2.1 := h5.2 (by have : (pB b at_).2.2.2 = 0 := by omega
                                                     exact this)
  have h7 : (pB b at_).2.2.1 ≤ b.length := h5.1
  have h8 : (pZ b at_).length ≤ b.length - (pB b at_).2.2.1 := by
    unfold pZ pD; rw [List.length_take, List.length_drop]; omega
  unfold pP
  unfold pqQ at h6
  omega
def pL (b : List UInt8) : Nat → Nat → List Rw × Nat × Nat
  | 0, at_ => ([], at_, 0)
  | k + 1, at_ => if pE b at_ ≠ 0 then ([], 0, pE b at_)
      else if (pL b k (pP b at_)).2.2 ≠ 0 then ([], 0, (pL b k (pP b at_)).2.2)
      else (pR b at_ :: (pL b k (pP b at_)).1, (pL b k (pP b at_)).2.1, 0)
theorem pL_succ (b : List UInt8) (k at_ : Nat) : pL b (k + 1) at_ = if pE b at_ ≠ 0 then ([], 0, pE b at_)
      else if (pL b k (pP b at_)).2.2 ≠ 0 then ([], 0, (pL b k (pP b at_)).2.2)
      else (pR b at_ :: (pL b k (pP b at_)).1, (pL b k (pP b at_)).2.1, 0) := rfl
theorem pL_bad (b : List UInt8) : ∀ (k at_ : Nat), (pL b k at_).2.2 ≠ 0 → pL b k at_ = ([], 0, (pL b k at_).2.2)
  | 0, at_, h => absurd rfl h
  | k + 1, at_, h => by
    rw [pL_succ] at h ⊢
    by_cases h1 : pE b at_ ≠ 0
    · rw [if_pos h1]
    rw [if_neg h1] at h ⊢
    by_cases h2 : (pL b k (pP b at_)).2.2 ≠ 0
    · rw [if_pos h2]
    rw [if_neg h2] at h; exact absurd rfl h
def pN (b : List UInt8) : Nat := wdN (byt b 8) (byt b 9) (byt b 10) (byt b 11)
def pX (b : List UInt8) : List Rw × Nat × Nat := pL b (pN b) 12
def pdE (b : List UInt8) : Nat :=
  if 1048576 < b.length then 5
  else if pgE pg8 b ≠ 0 then pgE pg8 b
  else if b.length < 12 then 4
  else if 4096 < pN b then 5
  else if (pX b).2.2 ≠ 0 then (pX b).2.2
  else if b.length - (pX b).2.1 < 20 then 4
  else if (b.drop (pX b).2.1).take 20 ≠ shaN (b.take (pX b).2.1) then 6
  else if (pX b).2.1 + 20 < b.length then 3 else 0
def rwR (x : Rw × Value) : List Value := [.int .i64 (x.1.kind : Int), .int .i64 (x.1.at_ : Int), .int .i64 (x.1.size : Int), w32 x.1.crc, x.2, .string (str x.1.base), .int .i64 (x.1.off : Int)]
def RwD (S : List Chunk) (l : List (Rw × Value)) : Prop := ∀ x ∈ l, Rs S 1 x.2 x.1.data.length (bsv x.1.data)
end Go.Proofs.YtfbeigbkdkiliaaGreatDoor
namespace Go.Vx
open Go
set_option linter.all false
variable [W0]
omit [W0] in
/-- The fence that lets all in, in a round or outside one. -/
abbrev Fr (ro : Option Nat) : Fence := { Fence.wide with round := ro }
omit [W0] in
/-- Nothing is let out. -/
structure NL (Q : Exit → Act → World → Prop) : Prop where
  out : ∀ a w, ¬ Q .outgrown a w
theorem NL.then {Q : Exit → Act → World → Prop} {K : Act → World → Prop} (h : NL Q) : NL (Exit.then K Q) := ⟨h.out⟩
theorem NL.block {Q : Exit → Act → World → Prop} {i : Nat} (h : NL Q) : NL (Exit.inBlock i Q) := ⟨h.out⟩
section
variable {P : Program} {n : Nat} {ro : Option Nat} {Q : Exit → Act → World → Prop} {M : List (Nat × Value)} {L : List Chunk} {K : List (Nat × Value) → List Chunk → Prop}
structure Wic (P : Program) (n : Nat) (ro : Option Nat) (c : Code) (Q : Exit → Act → World → Prop) (M : List (Nat × Value)) (L : List Chunk) : Prop where
  out : ∀ a w, St n M a → Holds w L → c.wpIn (Fr ro) 0 P Q a w
theorem Wic.holds {L' : List Chunk} {c : Code} (h : Wic P n ro c Q M L') (hl : ∀ w, Holds w L → Holds w L') : Wic P n ro c Q M L := ⟨fun a w ha hw => h.out a w ha (hl w hw)⟩
theorem Wic.sub {M' : List (Nat × Value)} {c : Code} (h : Wic P n ro c Q M' L) (hs : Sub M' M) : Wic P n ro c Q M L := ⟨fun a w ha hw => h.out a w (ha.sub hs) hw⟩
end
end Go.Vx
namespace Go.Vx
open Go
set_option linter.all false
variable [W0]
section
variable {P : Program} {n : Nat} {ro : Option Nat} {Q : Exit → Act → World → Prop} {M : List (Nat × Value)} {L : List Chunk} {K : List (Nat × Value) → List Chunk → Prop}
structure Yd (P : Program) (l : Nat) (args : List Value) (L : List Chunk) (post : List Chunk → Prop) : Prop where
  out : ∀ w, Holds w L → ∃ fn tmps assign body, (Instr.yield l args.toArray).run P w = .ok (.round l fn tmps assign body) w ∧
    RoundIn Fence.wide 0 P l fn tmps assign body w (fun e w' => e = .returned (.bool true) ∧ ∃ L', post L' ∧ Holds w' L')
def YdAll (P : Program) (l : Nat) (xs : List (List Value)) (J : Nat → List Chunk → Prop) : Prop :=
  ∀ (R : List Chunk) (k : Nat) (L' : List Chunk), k < xs.length → J k L' → Yd P l (xs.getD k []) (L' ++ R) (fun L'' => ∃ L3, J (k + 1) L3 ∧ L'' = L3 ++ R)
structure It (P : Program) (gf : FuncId) (lb : Array Value) (Lit : List Chunk) (xs : List (List Value)) : Prop where
  out : ∀ (l : Nat) (J : Nat → List Chunk → Prop) (L0 : List Chunk), J 0 L0 → YdAll P l xs J → ∀ w, Holds w (L0 ++ Lit) →
    CallsIn Fence.wide 0 P gf (#[.func (.yield l) #[] #[]] ++ lb) w (fun e w' => ∃ v L', e = .returned v ∧ (∃ L3, J xs.length L3 ∧ L' = L3 ++ Lit) ∧ Holds w' L')
theorem It.of_body {gf : FuncId} {fn : Func} {c : Code} {lb : List Value} {Lit : List Chunk} {xs : List (List Value)} (hf : P.funcs[gf]? = some fn) (hb : fn.body = some c) (hle : Nat.ble (lb.length + 1) fn.ntmps = true)
    (h : ∀ (l : Nat) (J : Nat → List Chunk → Prop) (L0 : List Chunk), J 0 L0 → YdAll P l xs J → Wic P fn.ntmps none c (bodyPost P fn (fun e w' => ∃ v L', e = .returned v ∧ (∃ L3, J xs.length L3 ∧ L' = L3 ++ Lit) ∧ Holds w' L')) (params 0 (.func (.yield l) #[] #[] :: lb)) (L0 ++ Lit)) :
    It P gf lb.toArray Lit xs := ⟨fun l J L0 h0 hy w hw => by
  have e : #[Value.func (.yield l) #[] #[]] ++ lb.toArray = (Value.func (.yield l) #[] #[] :: lb).toArray := by simp
  rw [e]
  refine callsIn_of_wp hf hb trivial ((h l J L0 h0 hy).out _ w ⟨rfl, ?_, ?_⟩ hw)
  · have := Nat.le_of_ble_eq_true hle
    simp; omega
  · intro t v ht
    obtain ⟨_, h2⟩ := params_get (.func (.yield l) #[] #[] :: lb) 0 t v ht
    have h2' : (Value.func (.yield l) #[] #[] :: lb)[t]? = some v := by simpa using h2
    have hlt : t < (Value.func (.yield l) #[] #[] :: lb).length := by
      rcases Nat.lt_or_ge t (Value.func (.yield l) #[] #[] :: lb).length with h' | h'
      · exact h'
      · simp [List.getElem?_eq_none h'] at h2'
    rw [Array.getElem?_append_left (by simpa using hlt)]
    simpa using h2'⟩
theorem NL.body {fn : Func} {X : Value → List Chunk → World → Prop} : NL (bodyPost P fn (fun e w' => ∃ v L3, e = .returned v ∧ X v L3 w')) := ⟨fun a w h => by
  obtain ⟨v, L3, he, _⟩ := h
  cases he⟩
theorem Fnd.right {A B : List Chunk} {b : Nat} {o : Obj} (h : Fnd B b o) : Fnd (A ++ B) b o := by
  simp only [Fnd, List.flatten_append, List.mem_append] at *; exact .inr h
theorem Fnd.left {A B : List Chunk} {b : Nat} {o : Obj} (h : Fnd A b o) : Fnd (A ++ B) b o := by
  simp only [Fnd, List.flatten_append, List.mem_append] at *; exact .inl h
def RP (J : Nat → List Chunk → Prop) (k : Nat) (R : List Chunk) : Exit → Act → World → Prop := fun e _ w => e = .normal ∧ ∃ L3, J k L3 ∧ Holds w (L3 ++ R)
theorem RP_po {J : Nat → List Chunk → Prop} {k : Nat} {R : List Chunk} : PO (RP J k R) := ⟨fun c a d v w h => by cases h.1⟩
end
end Go.Vx
namespace Go.Proofs.YtfbeigbkdkiliaaGreatDoor
open Go Go.Vx
variable [W0]
set_option maxRecDepth 4000
set_option linter.all false
theorem bsv_snoc (a : List UInt8) (x : UInt8) : bsv (a ++ [x]) = bsv a ++ [Value.int .u8 (x.toNat : Int)] := by simp [bsv]
theorem rs_cut {P : Program} {T e by_ : Nat} [hs : SL P T e 1 by_] {v : Value} {d : List UInt8} {L0 : List Chunk} (hO : Rs L0 1 v d.length (bsv d)) {l h : Nat} (h1 : l ≤ h) (h2 : h ≤ d.length) :
    ∃ r, Rs L0 1 r ((d.drop l).take (h - l)).length (bsv ((d.drop l).take (h - l))) ∧ ∀ {n : Nat} {M : List (Nat × Value)} {L : List Chunk} {dd : Nat} {ty : TypeId} {ps : String} {af : Array Edge} {g : Option (Nat × Bool)} {x : Operand} {lo hi : Option Operand},
      ev M x = some v → bnd M lo 0 = some (l : Int) → bnd M hi d.length = some (h : Int) → EV P n ⟨some dd, .slice T x lo hi none, ty, ps, af, g⟩ M L dd r := by
  obtain ⟨r, h3, h4⟩ := EV_sliceRs (P := P) (T := T) hO h1 h2
  have e1 : ((d.drop l).take (h - l)).length = h - l := by rw [List.length_take, List.length_drop]; omega
  have e2 : bsv ((d.drop l).take (h - l)) = ((bsv d).drop (l * 1)).take ((h - l) * 1) := by simp [bsv, List.map_take, List.map_drop]
  exact ⟨r, by rw [e1, e2]; exact h3, h4⟩
theorem rs_val {L : List Chunk} {k m : Nat} {v : Value} {xs : List Value} (h : Rs L k v m xs) : ∃ a c, v = .slice a m c := by
  obtain ⟨a, c, rfl, _⟩ := h.room
  exact ⟨a, c, rfl⟩
end Go.Proofs.YtfbeigbkdkiliaaGreatDoor
namespace Go.Proofs.YtfbeigbkdkiliaaGreatDoor
open Go Go.Vx Go.Dl
variable [W0]
set_option maxRecDepth 4000
set_option linter.all false
theorem byte_mod (a : Nat) : (UInt8.ofNat a).toNat = a % 256 := by simp
theorem bsv_get {d : List UInt8} {i : Nat} (h : i < d.length) : (bsv d)[i]? = some (.int .u8 ((d[i]).toNat : Int)) := by simp [bsv, h]
end Go.Proofs.YtfbeigbkdkiliaaGreatDoor
namespace Go.Dl
set_option linter.all false
theorem p128 (i : Nat) : 2 ^ (7 * (i + 1)) = 128 * 2 ^ (7 * i) := by
  rw [Nat.mul_add, Nat.pow_add, Nat.mul_comm]
theorem vl_lt : ∀ l : List UInt8, vl l < 2 ^ (7 * l.length)
  | [] => by simp [vl]
  | c :: b => by
    have := vl_lt b
    rw [List.length_cons, p128, vl]
    omega
theorem vl_app (a : List UInt8) (x : UInt8) : vl (a ++ [x]) = vl a + (x.toNat % 128) * 2 ^ (7 * a.length) := by
  induction a with
  | nil => simp [vl]
  | cons b r ih =>
    simp only [List.cons_append, vl, ih, List.length_cons, p128]
    rw [Nat.mul_add, Nat.mul_left_comm]
    omega
theorem vl_take {l : List UInt8} {i : Nat} (h : i < l.length) : vl (l.take (i + 1)) = vl (l.take i) + ((l[i]).toNat % 128) * 2 ^ (7 * i) := by
  rw [List.take_add_one, List.getElem?_eq_getElem h]
  show vl (l.take i ++ [l[i]]) = _
  rw [vl_app, List.length_take, Nat.min_eq_left (by omega)]
end Go.Dl
namespace Go.Proofs.YtfbeigbkdkiliaaGreatDoor
open Go Go.Vx Go.Dl Go.Pk Go.If
variable [W0]
set_option maxRecDepth 4000
set_option linter.all false
def rC (p : Nat) (vb : Value) (at_ : Nat) : Chunk := [(p, cl [vb, .int .i64 (at_ : Int)] 57)]
def rwC (q k at_ s : Nat) (crc : BitVec 32) (vd : Value) (bs : List UInt8) (off : Nat) : Chunk := [(q, cl [.int .i64 (k : Int), .int .i64 (at_ : Int), .int .i64 (s : Int), w32 crc, vd, .string (str bs), .int .i64 (off : Int)] 98)]
set_option maxHeartbeats 4000000 in
theorem ktake_n (p n at_ : Nat) (vb : Value) (b : List UInt8) (L : List Chunk) (h : Rs L 1 vb b.length (bsv b)) (hl : b.length ≤ 140737488355328) (ha : at_ ≤ b.length) (hn : n ≤ 140737488355328) :
    Gv Tryz.prog 40 [.pointer (some ⟨p, 0, none⟩), .int .i64 (n : Int)].toArray (rC p vb at_ :: L) (fun r L' =>
      (b.length - at_ < n ∧ r = .tuple #[.slice none 0 0, .int .i64 4] ∧ L' = rC p vb at_ :: L) ∨
      (n ≤ b.length - at_ ∧ ∃ v, r = .tuple #[v, .int .i64 0] ∧ Rs L 1 v n (bsv ((b.drop at_).take n)) ∧ L' = rC p vb (at_ + n) :: L)) := by
  refine Gv.of_body (args := [.pointer (some ⟨p, 0, none⟩), .int .i64 (n : Int)]) Tryz.func40 rfl rfl ?_
  obtain ⟨ba, bc, rfl⟩ := rs_val h
  unfold rC
  (repeat' first|refine kW ?_|refine kU fun bk=>?_|refine kV fun hc=>?_|refine kZ (fun hc=>?_) fun hc=>?_|fail)
  refine WC_drawAll [] mixed ?_
  (refine WR_t 0 ?_; refine WR_t 1 ?_; refine WR_t 2 ?_; refine WR_t 3 ?_; refine WR_t 4 ?_; refine WR_t 5 ?_; refine WR_t 6 ?_; refine WR_t 7 ?_; refine WR_t 8 ?_; refine WR_t 9 ?_; refine WR_t 10 ?_; refine WR_t 11 ?_)
  (refine WR_done (by kernel_rfl) ?_)
  (repeat' first|refine kW ?_|refine kU fun bk=>?_|refine kV fun hc=>?_|refine kZ (fun hc=>?_) fun hc=>?_|fail)
  · refine kR ?_
    exact ⟨_, iC, .inl ⟨by omega, rfl, rfl⟩⟩
  have hf : n ≤ b.length - at_ := by omega
  obtain ⟨r1, q1, e1⟩ := rs_cut (P := Tryz.prog) (T := 23) h (l := at_) (h := at_ + n) (by omega) (by omega)
  rw [show at_ + n - at_ = n from by omega] at q1
  have hl1 : ((b.drop at_).take n).length = n := by rw [List.length_take, List.length_drop]; omega
  rw [hl1] at q1
  rw [← Int.natCast_add]
  (repeat' first|refine kW ?_|refine kU fun bk=>?_|refine kV fun hc=>?_|refine kZ (fun hc=>?_) fun hc=>?_|fail)
  refine WC_drawAll [] mixed ?_
  (refine WR_t 0 ?_; refine WR_t 1 ?_; refine WR_t 2 ?_; refine WR_t 3 ?_; refine WR_t 4 ?_; refine WR_t 5 ?_; refine WR_t 6 ?_; refine WR_t 7 ?_; refine WR_t 8 ?_; refine WR_t 9 ?_)
  rw [show ((at_ + n : Nat) : Int) - (n : Int) = (at_ : Int) from by omega]
  (refine WR_t 10 ?_; refine WR_t 11 ?_; refine WR_t 12 ?_; refine WR_t 13 ?_)
  (refine WR_take 14 rfl rfl (by kernel_rfl) iP iC (e1 rfl rfl rfl) (by rfl) ?_)
  (refine WR_t 15 ?_; refine WR_t 16 ?_)
  (refine WR_done (by kernel_rfl) ?_)
  (repeat' first|refine kW ?_|refine kU fun bk=>?_|refine kV fun hc=>?_|refine kZ (fun hc=>?_) fun hc=>?_|fail)
  refine kR ?_
  exact ⟨_, iC, .inr ⟨hf, r1, rfl, q1, rfl⟩⟩
theorem pgroups1_n (x : UInt8) (L : List Chunk) : GvP Tryz.prog 138 [.int .u8 (x.toNat : Int)].toArray L (.bool (decide (x.toNat < 128))) := by
  refine Gv.of_body (args := [.int .u8 (x.toNat : Int)]) Tryz.func138 rfl rfl ?_
  (repeat' first|refine kW ?_|refine kU fun bk=>?_|refine kV fun hc=>?_|refine kZ (fun hc=>?_) fun hc=>?_|fail)
  rw [show decide ((x.toNat : Int) < 128) = decide (x.toNat < 128) from decide_eq_decide.2 (by omega)]
  exact kE
set_option maxHeartbeats 2000000 in
theorem pindexf_n (v : Value) (d : List UInt8) (L : List Chunk) (h : Sl L 1 v d.length (bsv d)) (hl : d.length ≤ 140737488355328) :
    GvP Tryz.prog 137 [v, .func (.func 138) #[] #[]].toArray L (.int .i64 ((ctN d : Int) - 1)) := by
  refine Gv.of_body (args := [v, .func (.func 138) #[] #[]]) Tryz.func137 rfl rfl ?_
  obtain ⟨va, vc, rfl⟩ := sl_slice h
  (repeat' first|refine kW ?_|refine kU fun bk=>?_|refine kV fun hc=>?_|refine kZ (fun hc=>?_) fun hc=>?_|fail)
  refine WC_loop (X := Nat) (fun i => [(0, .slice va d.length vc), (1, .func (.func 138) #[] #[]), (7, .int .i64 (d.length : Int)), (8, .int .i64 (i : Int))]) (fun _ => L)
    (fun i => i ≤ d.length ∧ ctN d = if ctN (d.drop i) = 0 then 0 else ctN (d.drop i) + i) (fun i => d.length - i) 0 ⟨Nat.zero_le _, by simp⟩ iS (fun w h => h) ?_
  rintro i ⟨hi, hc0⟩
  (repeat' first|refine kW ?_|refine kU fun bk=>?_|refine kV fun hc=>?_|refine kZ (fun hc=>?_) fun hc=>?_|fail)
  · have hlt : i < d.length := by omega
    have hdr : d.drop i = d[i] :: d.drop (i + 1) := List.drop_eq_getElem_cons hlt
    obtain ⟨b, off, cap, cc, T, fr, hve, hfn, hcell⟩ := sl_at h (bsv_get hlt)
    injection hve with q1 q2 q3
    subst q1 q3
    clear q2
    refine OW_EV (EV_indexAddr (j := i) rfl rfl rfl hlt) rfl ?_
    (repeat' first|refine kW ?_|refine kU fun bk=>?_|refine kV fun hc=>?_|refine kZ (fun hc=>?_) fun hc=>?_|fail)
    refine OW_EV (EV_load rfl hfn hcell) rfl ?_
    (repeat' first|refine kW ?_|refine kU fun bk=>?_|refine kV fun hc=>?_|refine kZ (fun hc=>?_) fun hc=>?_|fail)
    haveI : BD Tryz.prog 138 := ⟨by kernel_rfl⟩
    refine OW_callP rfl rfl rfl (pgroups1_n d[i] L) rfl ?_
    rw [hdr] at hc0
    by_cases hx : (d[i]).toNat < 128
    · rw [decide_eq_true hx]
      rw [ctN, if_pos hx, if_neg (by decide)] at hc0
      (repeat' first|refine kW ?_|refine kU fun bk=>?_|refine kV fun hc=>?_|refine kZ (fun hc=>?_) fun hc=>?_|fail)
      rw [show (i : Int) = (ctN d : Int) - 1 from by omega]
      exact kE
    · rw [decide_eq_false hx]
      rw [ctN, if_neg hx] at hc0
      (repeat' first|refine kW ?_|refine kU fun bk=>?_|refine kV fun hc=>?_|refine kZ (fun hc=>?_) fun hc=>?_|fail)
      refine WQ_round (X := Nat) (μ := fun i => d.length - i) (x := i) (i + 1) (by omega) ⟨by omega, ?_⟩ iS (fun w h => h)
      rw [hc0]
      split <;> simp_all
      omega
  · obtain rfl : i = d.length := by omega
    rw [List.drop_length, ctN, if_pos rfl] at hc0
    rw [hc0]
    exact kE
set_option maxHeartbeats 4000000 in
theorem kgroups_n (p at_ : Nat) (vb : Value) (b : List UInt8) (L : List Chunk) (h : Rs L 1 vb b.length (bsv b)) (hl : b.length ≤ 140737488355328) (ha : at_ ≤ b.length) :
    Gv Tryz.prog 100 [.pointer (some ⟨p, 0, none⟩)].toArray (rC p vb at_ :: L) (fun r L' =>
      (ctN (b.drop at_) = 0 ∧ r = .tuple #[.slice none 0 0, .int .i64 4] ∧ L' = rC p vb at_ :: L) ∨
      (0 < ctN (b.drop at_) ∧ ∃ v, r = .tuple #[v, .int .i64 0] ∧ Rs L 1 v (ctN (b.drop at_)) (bsv ((b.drop at_).take (ctN (b.drop at_)))) ∧ L' = rC p vb (at_ + ctN (b.drop at_)) :: L)) := by
  refine Gv.of_body (args := [.pointer (some ⟨p, 0, none⟩)]) Tryz.func100 rfl rfl ?_
  have hC := fun n hn => ktake_n p n at_ vb b L h hl ha hn
  obtain ⟨ba, bc, rfl⟩ := rs_val h
  obtain ⟨r1, q1, e1⟩ := rs_cut (P := Tryz.prog) (T := 23) h (l := at_) (h := b.length) ha (Nat.le_refl _)
  rw [List.take_of_length_le (by rw [List.length_drop]; exact Nat.le_refl _)] at q1
  have hdl : (b.drop at_).length = b.length - at_ := List.length_drop
  have hct := ctN_le (b.drop at_)
  obtain ⟨c, hc0⟩ : ∃ c, c = ctN (b.drop at_) := ⟨_, rfl⟩
  have hix := pindexf_n r1 (b.drop at_) (rC p (.slice ba b.length bc) at_ :: L) (sl_there q1.sl) (by omega)
  rw [← hc0] at hct hix ⊢
  unfold rC at hix
  conv in (rC p _ at_ :: L) => unfold rC
  (repeat' first|refine kW ?_|refine kU fun bk=>?_|refine kV fun hc=>?_|refine kZ (fun hc=>?_) fun hc=>?_|fail)
  refine WC_drawAll [] mixed ?_
  (refine WR_t 0 ?_; refine WR_t 1 ?_; refine WR_t 2 ?_; refine WR_t 3 ?_; refine WR_t 4 ?_; refine WR_t 5 ?_; refine WR_t 6 ?_; refine WR_t 7 ?_)
  (refine WR_take 8 rfl rfl (by kernel_rfl) iP iC (e1 rfl rfl rfl) (by rfl) ?_)
  (refine WR_one 9 (by kernel_rfl) rfl rfl ?_)
  refine OW_callP rfl rfl rfl hix rfl ?_
  refine ⟨iC, ?_⟩
  (refine WR_t 10 ?_)
  (refine WR_done (by kernel_rfl) ?_)
  (repeat' first|refine kW ?_|refine kU fun bk=>?_|refine kV fun hc=>?_|refine kZ (fun hc=>?_) fun hc=>?_|fail)
  · refine kR ?_
    exact ⟨_, iC, .inl ⟨by omega, rfl, rfl⟩⟩
  rw [show (c : Int) - 1 + 1 = (c : Int) from by omega]
  refine OW_call rfl rfl rfl (hC c (by omega)) rfl (fun r L' hp => ?_)
  rcases hp with ⟨g, _⟩ | ⟨g, v, rfl, qv, rfl⟩
  · omega
  (repeat' first|refine kW ?_|refine kU fun bk=>?_|refine kV fun hc=>?_|refine kZ (fun hc=>?_) fun hc=>?_|fail)
  refine kR ?_
  exact ⟨_, iC, .inr ⟨by omega, v, rfl, qv, rfl⟩⟩
end Go.Proofs.YtfbeigbkdkiliaaGreatDoor
namespace Go.Proofs.YtfbeigbkdkiliaaGreatDoor
open Go Go.Vx Go.Dl Go.Pk Go.If
variable [W0]
set_option maxRecDepth 4000
set_option linter.all false
theorem iskind_n (k : Nat) (L : List Chunk) : GvP Tryz.prog 99 [.int .i64 (k : Int)].toArray L (.bool (decide (¬ (k = 0 ∨ k = 5)))) := by
  refine Gv.of_body (args := [.int .i64 (k : Int)]) Tryz.func99 rfl rfl ?_
  (repeat' first|refine kW ?_|refine kU fun bk=>?_|refine kV fun hc=>?_|refine kZ (fun hc=>?_) fun hc=>?_|fail)
  · rw [show ((k : Int) != 5) = decide (¬ (k = 0 ∨ k = 5)) from by rw [Bool.eq_iff_iff]; simp; omega]
    exact kE
  · rw [decide_eq_false (show ¬ ¬ (k = 0 ∨ k = 5) by omega)]
    exact kE
set_option maxHeartbeats 16000000 in
theorem phead_n (p q at_ k0 a0 s0 off : Nat) (crc : BitVec 32) (vd vb : Value) (bs b : List UInt8) (L : List Chunk) (h : Rs L 1 vb b.length (bsv b)) (hl : b.length ≤ 140737488355328) (ha : at_ ≤ b.length) (hvd : vd.oneCell' = true) :
    Gv Tryz.prog 60 [.pointer (some ⟨p, 0, none⟩), .pointer (some ⟨q, 0, none⟩)].toArray (rC p vb at_ :: rwC q k0 a0 s0 crc vd bs off :: L) (fun r L' =>
      ∃ at' k' s', r = .int .i64 (pkE (b.drop at_) : Int) ∧ (pkE (b.drop at_) = 0 → at' = at_ + ctN (b.drop at_) ∧ k' = pkK (b.drop at_) ∧ s' = pkS (b.drop at_)) ∧ L' = rC p vb at' :: rwC q k' a0 s' crc vd bs off :: L) := by
  refine Gv.of_body (args := [.pointer (some ⟨p, 0, none⟩), .pointer (some ⟨q, 0, none⟩)]) Tryz.func60 rfl rfl ?_
  have hC := fun (C : Chunk) => kgroups_n p at_ vb b (C :: L) h.there hl ha
  obtain ⟨ba, bc, rfl⟩ := rs_val h
  have hdl : (b.drop at_).length = b.length - at_ := List.length_drop
  have hct := ctN_le (b.drop at_)
  obtain ⟨d, hd⟩ : ∃ d, d = b.drop at_ := ⟨_, rfl⟩
  rw [← hd] at hdl hct hC ⊢
  conv in (rC p _ at_ :: _) => unfold rC
  conv in (rwC q k0 _ _ _ _ _ _ :: L) => unfold rwC
  (repeat' first|refine kW ?_|refine kU fun bk=>?_|refine kV fun hc=>?_|refine kZ (fun hc=>?_) fun hc=>?_|fail)
  refine WC_drawAll [] mixed ?_
  (refine WR_t 0 ?_; refine WR_t 1 ?_; refine WR_t 2 ?_; refine WR_t 3 ?_; refine WR_t 4 ?_; refine WR_t 5 ?_; refine WR_t 6 ?_; refine WR_t 7 ?_; refine WR_t 8 ?_; refine WR_t 9 ?_)
  (refine WR_done (by kernel_rfl) ?_)
  (repeat' first|refine kW ?_|refine kU fun bk=>?_|refine kV fun hc=>?_|refine kZ (fun hc=>?_) fun hc=>?_|fail)
  · have e : pkE d = 4 := by unfold pkE; rw [if_pos (List.eq_nil_of_length_eq_zero (by omega))]
    rw [e]
    refine kR ?_
    exact ⟨_, iC, at_, k0, s0, rfl, fun h => by omega, rfl⟩
  have hlt : at_ < b.length := by omega
  obtain ⟨c0, d1, hd1⟩ : ∃ c0 d1, d = c0 :: d1 := by
    cases hdd : d with
    | nil => rw [hdd] at hdl; simp at hdl; omega
    | cons c0 d1 => exact ⟨c0, d1, rfl⟩
  have hb0 : b[at_] = c0 := by
    have := List.drop_eq_getElem_cons hlt
    rw [← hd, hd1] at this
    exact (List.cons.inj this).1.symm
  have hK : pkK d = c0.toNat % 128 / 16 := by unfold pkK; rw [hd1]; rfl
  have hS : pkS d = c0.toNat % 16 + 16 * vl ((d.take (ctN d)).drop 1) := by unfold pkS; rw [hd1]; rfl
  have hE : pkE d = if pkK d = 0 ∨ pkK d = 5 then 3 else if ctN d = 0 then 4 else if 5 < ctN d then 3 else if 2147483647 < pkS d then 3 else if 65536 < pkS d then 5 else 0 := by
    unfold pkE; rw [if_neg (by rw [hd1]; simp)]
  obtain ⟨bb, boff, bcap, bcc, bT, bfr, hve, hfn, hcell⟩ := sl_at h.sl (bsv_get hlt)
  injection hve with r1 r2 r3
  subst r1 r3
  clear r2
  rw [hb0] at hcell
  have hc8 := c0.toNat_lt
  refine WC_drawAll [16] mixed ?_
  (refine WR_t 0 ?_; refine WR_t 1 ?_; refine WR_t 2 ?_; refine WR_t 3 ?_; refine WR_t 4 ?_; refine WR_t 5 ?_; refine WR_t 6 ?_; refine WR_t 7 ?_; refine WR_t 8 ?_)
  (refine WR_take 9 rfl rfl (by kernel_rfl) iP iC (EV_indexAddr (j := at_) rfl rfl rfl hlt) (by rfl) ?_)
  (refine WR_take 10 rfl rfl (by kernel_rfl) iP iC (EV_load rfl hfn.there.there hcell) (by rfl) ?_)
  (refine WR_take 11 rfl rfl (by kernel_rfl) iP iC (EV_remN (k := .u8) c0.toNat 128 rfl rfl rfl rfl (by decide)) (by rfl) ?_)
  (refine WR_t 12 ?_; refine WR_t 13 ?_; refine WR_t 14 ?_; refine WR_t 15 ?_)
  rw [show ((c0.toNat % 128 : Nat) : Int) / 16 = (pkK d : Int) from by rw [hK]; omega]
  (refine WR_last 16 (by kernel_rfl) rfl rfl rfl ?_)
  refine OW_storeTo [.int .i64 (pkK d : Int), .int .i64 (a0 : Int), .int .i64 (s0 : Int), w32 crc, vd, .string (str bs), .int .i64 (off : Int)] rfl rfl rfl rfl iU (by simp) ?_
  (refine WR_done (by kernel_rfl) ?_)
  (repeat' first|refine kW ?_|refine kU fun bk=>?_|refine kV fun hc=>?_|refine kZ (fun hc=>?_) fun hc=>?_|fail)
  refine OW_callP rfl rfl rfl (iskind_n (pkK d) _) rfl ?_
  by_cases hk5 : pkK d = 0 ∨ pkK d = 5
  · rw [if_pos hk5] at hE
    rw [decide_eq_false (fun q => q hk5), hE]
    ((repeat' first|refine kW ?_|refine kU fun bk=>?_|refine kV fun hc=>?_|refine kZ (fun hc=>?_) fun hc=>?_|fail) <;> try exact absurd trivial hc)
    refine kR ?_
    exact ⟨_, iC, at_, pkK d, s0, rfl, fun h => absurd h (by decide), rfl⟩
  rw [if_neg hk5] at hE
  rw [decide_eq_true hk5]
  ((repeat' first|refine kW ?_|refine kU fun bk=>?_|refine kV fun hc=>?_|refine kZ (fun hc=>?_) fun hc=>?_|fail) <;> try exact absurd trivial hc)
  refine OW_call rfl rfl rfl (hC _) rfl (fun r L' hp => ?_)
  rcases hp with ⟨g, rfl, rfl⟩ | ⟨g, v, rfl, qv, rfl⟩
  · rw [if_pos g] at hE
    rw [hE]
    ((repeat' first|refine kW ?_|refine kU fun bk=>?_|refine kV fun hc=>?_|refine kZ (fun hc=>?_) fun hc=>?_|fail) <;> try exact absurd trivial hc)
    refine kR ?_
    exact ⟨_, iC, at_, pkK d, s0, rfl, fun h => absurd h (by decide), rfl⟩
  rw [if_neg (by omega)] at hE
  obtain ⟨c, hc0⟩ : ∃ c, c = ctN d := ⟨_, rfl⟩
  obtain ⟨gs, hgs⟩ : ∃ gs, gs = d.take (ctN d) := ⟨_, rfl⟩
  have hgl : gs.length = c := by rw [hgs, List.length_take]; omega
  rw [← hgs, ← hc0] at qv
  rw [← hgs] at hS
  rw [← hc0] at g hE hct ⊢
  have hg0 : gs.getD 0 0 = c0 := by
    rw [hgs, hd1, ← hd1, ← hc0]
    obtain ⟨c', rfl⟩ : ∃ c', c = c' + 1 := ⟨c - 1, by omega⟩
    rw [hd1]; rfl
  rw [← hgl] at qv
  obtain ⟨va, vc, rfl⟩ := rs_val qv
  unfold rC
  by_cases h5 : 5 < c
  · rw [if_pos h5] at hE
    rw [hE]
    ((repeat' first|refine kW ?_|refine kU fun bk=>?_|refine kV fun hc=>?_|refine kZ (fun hc=>?_) fun hc=>?_|fail) <;> try exact absurd trivial hc)
    refine kR ?_
    exact ⟨_, iC, at_ + c, pkK d, s0, rfl, fun h => absurd h (by decide), rfl⟩
  rw [if_neg h5] at hE
  have hcell0 := bsv_get (d := gs) (i := 0) (by omega)
  rw [show gs[0] = c0 from by rw [← hg0, List.getD_eq_getElem?_getD, List.getElem?_eq_getElem (by omega)]; rfl] at hcell0
  obtain ⟨b2, off2, cap2, cc2, T2, fr2, hve, hfn2, hcell2⟩ := sl_at qv.sl hcell0
  injection hve with r1 r2 r3
  subst r1 r3
  clear r2
  obtain ⟨rt, qt, et⟩ := rs_cut (P := Tryz.prog) (T := 23) qv (l := 1) (h := gs.length) (by omega) (Nat.le_refl _)
  rw [List.take_of_length_le (by rw [List.length_drop]; exact Nat.le_refl _)] at qt
  obtain ⟨ts, hts⟩ : ∃ ts, ts = gs.drop 1 := ⟨_, rfl⟩
  have htl : ts.length = c - 1 := by rw [hts, List.length_drop]; omega
  rw [← hts] at qt hS
  obtain ⟨ta, tc, rfl⟩ := rs_val qt
  ((repeat' first|refine kW ?_|refine kU fun bk=>?_|refine kV fun hc=>?_|refine kZ (fun hc=>?_) fun hc=>?_|fail) <;> try exact absurd trivial hc)
  refine OW_EV (EV_indexAddr (j := 0) rfl rfl rfl (by omega)) rfl ?_
  ((repeat' first|refine kW ?_|refine kU fun bk=>?_|refine kV fun hc=>?_|refine kZ (fun hc=>?_) fun hc=>?_|fail) <;> try exact absurd trivial hc)
  refine OW_EV (EV_load rfl hfn2.there hcell2) rfl ?_
  ((repeat' first|refine kW ?_|refine kU fun bk=>?_|refine kV fun hc=>?_|refine kZ (fun hc=>?_) fun hc=>?_|fail) <;> try exact absurd trivial hc)
  refine OW_EV (EV_remN (k := .u8) c0.toNat 16 rfl rfl rfl rfl (by decide)) rfl ?_
  ((repeat' first|refine kW ?_|refine kU fun bk=>?_|refine kV fun hc=>?_|refine kZ (fun hc=>?_) fun hc=>?_|fail) <;> try exact absurd trivial hc)
  refine OW_EV (et rfl rfl rfl) rfl ?_
  ((repeat' first|refine kW ?_|refine kU fun bk=>?_|refine kV fun hc=>?_|refine kZ (fun hc=>?_) fun hc=>?_|fail) <;> try exact absurd trivial hc)
  refine WC_loop (X := Nat) (fun i => [(0, .pointer (some ⟨p, 0, none⟩)), (1, .pointer (some ⟨q, 0, none⟩)), (7, .int .u64 ((c0.toNat % 16 + 16 * vl (ts.take i) : Nat) : Int)), (59, .slice ta ts.length tc), (60, .int .i64 (ts.length : Int)), (61, .int .i64 (i : Int))])
    (fun _ => rC p (.slice (some ⟨bb, boff, none⟩) b.length bc) (at_ + c) :: rwC q (pkK d) a0 s0 crc vd bs off :: L) (fun i => i ≤ ts.length) (fun i => ts.length - i) 0 (Nat.zero_le _) iS (fun w h => h) ?_
  intro i hi
  have hi : i ≤ ts.length := hi
  by_cases hlt2 : i < ts.length
  · ((repeat' first|refine kW ?_|refine kU fun bk=>?_|refine kV fun hc=>?_|refine kZ (fun hc=>?_) fun hc=>?_|fail) <;> try exact absurd trivial hc)
    obtain ⟨b3, off3, cap3, cc3, T3, fr3, hve, hfn3, hcell3⟩ := sl_at qt.sl (bsv_get hlt2)
    injection hve with r1 r2 r3
    subst r1 r3
    clear r2
    have hb1 : vl (ts.take i) < 2 ^ (7 * i) := by
      have := vl_lt (ts.take i)
      rwa [List.length_take, Nat.min_eq_left (by omega)] at this
    have hp4 : 2 ^ (4 + 7 * i) = 16 * 2 ^ (7 * i) := by rw [Nat.pow_add]
    have hp6 : 2 ^ (7 * i) ≤ 2 ^ 28 := Nat.pow_le_pow_right (by decide) (by omega)
    have hvt := vl_take hlt2
    have hx8 := (ts[i]).toNat_lt
    obtain ⟨V, hV⟩ : ∃ V, V = vl (ts.take i) := ⟨_, rfl⟩
    obtain ⟨W, hW⟩ : ∃ W, W = 2 ^ (7 * i) := ⟨_, rfl⟩
    have hxW : ts[i].toNat % 128 * W ≤ 127 * W := Nat.mul_le_mul_right _ (by omega)
    have hxW2 : ts[i].toNat % 128 * (16 * W) = 16 * (ts[i].toNat % 128 * W) := by rw [Nat.mul_left_comm]
    rw [← hV] at hb1 hvt ⊢
    rw [← hW] at hb1 hp4 hp6 hvt
    unfold rC
    refine OW_EV (EV_indexAddr (j := i) rfl rfl rfl hlt2) rfl ?_
    ((repeat' first|refine kW ?_|refine kU fun bk=>?_|refine kV fun hc=>?_|refine kZ (fun hc=>?_) fun hc=>?_|fail) <;> try exact absurd trivial hc)
    refine OW_EV (EV_load rfl hfn3.there hcell3) rfl ?_
    ((repeat' first|refine kW ?_|refine kU fun bk=>?_|refine kV fun hc=>?_|refine kZ (fun hc=>?_) fun hc=>?_|fail) <;> try exact absurd trivial hc)
    refine OW_EV (EV_remN (k := .u8) (ts[i]).toNat 128 rfl rfl rfl rfl (by decide)) rfl ?_
    ((repeat' first|refine kW ?_|refine kU fun bk=>?_|refine kV fun hc=>?_|refine kZ (fun hc=>?_) fun hc=>?_|fail) <;> try exact absurd trivial hc)
    refine OW_EV (EV_nshl (k := .u64) ((ts[i]).toNat % 128) (4 + 7 * i) rfl rfl rfl (by omega) rfl (by rw [hp4, hxW2]; simp only [IntKind.bits]; omega)) rfl ?_
    ((repeat' first|refine kW ?_|refine kU fun bk=>?_|refine kV fun hc=>?_|refine kZ (fun hc=>?_) fun hc=>?_|fail) <;> try exact absurd trivial hc)
    refine OW_EV (EV_nor (k := .u64) (c0.toNat % 16 + 16 * V) ((ts[i]).toNat % 128) (4 + 7 * i) rfl rfl rfl rfl rfl (by rw [hp4]; omega) (by rw [hp4, hxW2]; simp only [IntKind.bits]; omega)) rfl ?_
    rw [show c0.toNat % 16 + 16 * V + ts[i].toNat % 128 * 2 ^ (4 + 7 * i) = c0.toNat % 16 + 16 * vl (ts.take (i + 1)) from by rw [hvt, hp4, hxW2]; omega]
    ((repeat' first|refine kW ?_|refine kU fun bk=>?_|refine kV fun hc=>?_|refine kZ (fun hc=>?_) fun hc=>?_|fail) <;> try exact absurd trivial hc)
    refine WQ_round (X := Nat) (μ := fun i => ts.length - i) (x := i) (i + 1) (by omega) (by omega) iS (fun w h => h)
  obtain rfl : i = ts.length := by omega
  rw [List.take_length, ← hS]
  unfold rC rwC
  have hSl : pkS d < 2 ^ 40 := by
    have h1 := vl_lt ts
    have h2 : 2 ^ (7 * ts.length) ≤ 2 ^ 28 := Nat.pow_le_pow_right (by decide) (by omega)
    omega
  by_cases h6 : 2147483647 < pkS d
  · rw [if_pos h6] at hE
    rw [hE]
    ((repeat' first|refine kW ?_|refine kU fun bk=>?_|refine kV fun hc=>?_|refine kZ (fun hc=>?_) fun hc=>?_|fail) <;> try exact absurd trivial hc)
    refine kR ?_
    exact ⟨_, iC, at_ + c, pkK d, s0, rfl, fun h => absurd h (by decide), rfl⟩
  rw [if_neg h6] at hE
  by_cases h7 : 65536 < pkS d
  · rw [if_pos h7] at hE
    rw [hE]
    ((repeat' first|refine kW ?_|refine kU fun bk=>?_|refine kV fun hc=>?_|refine kZ (fun hc=>?_) fun hc=>?_|fail) <;> try exact absurd trivial hc)
    refine kR ?_
    exact ⟨_, iC, at_ + c, pkK d, s0, rfl, fun h => absurd h (by decide), rfl⟩
  rw [if_neg h7] at hE
  rw [hE]
  ((repeat' first|refine kW ?_|refine kU fun bk=>?_|refine kV fun hc=>?_|refine kZ (fun hc=>?_) fun hc=>?_|fail) <;> try exact absurd trivial hc)
  refine kR ?_
  exact ⟨_, iC, at_ + c, pkK d, pkS d, rfl, fun _ => ⟨rfl, rfl, rfl⟩, rfl⟩
end Go.Proofs.YtfbeigbkdkiliaaGreatDoor
namespace Go.Dl
set_option linter.all false
theorem fd_split : ∀ (n m b : Nat) (d : List UInt8), fd b (n + m) d = (fd b n d).bind fun x => (fd (b / 2 ^ n) m x.2).map fun y => (x.1 + 256 ^ n * y.1, y.2)
  | 0, m, b, d => by
    simp only [Nat.zero_add, fd, Option.bind_some, Nat.pow_zero, Nat.div_one, Nat.one_mul]
    cases fd b m d <;> simp
  | n + 1, m, b, d => by
    have e : n + 1 + m = (n + m) + 1 := by omega
    have hdd : b / 2 / 2 ^ n = b / 2 ^ (n + 1) := by rw [Nat.div_div_eq_div_mul, Nat.pow_succ, Nat.mul_comm]
    rw [e]
    by_cases hb : b % 2 = 0
    · rw [fd_even _ d hb, fd_even _ d hb, fd_split n m (b / 2) d, hdd]
      cases fd (b / 2) n d with
      | none => rfl
      | some x =>
        simp only [Option.bind_some, Option.map_some]
        cases fd (b / 2 ^ (n + 1)) m x.2 with
        | none => rfl
        | some y => simp only [Option.map_some, Nat.pow_succ]; congr 2; rw [Nat.mul_add]; congr 1; ac_rfl
    · cases d with
      | nil => rw [fd_nil _ hb, fd_nil _ hb]; rfl
      | cons c d =>
        rw [fd_cons _ c d hb, fd_cons _ c d hb, fd_split n m (b / 2) d, hdd]
        cases fd (b / 2) n d with
        | none => rfl
        | some x =>
          simp only [Option.bind_some, Option.map_some]
          cases fd (b / 2 ^ (n + 1)) m x.2 with
          | none => rfl
          | some y => simp only [Option.map_some, Nat.pow_succ]; congr 2; rw [Nat.mul_add, Nat.add_assoc]; congr 2; ac_rfl
theorem fd_mod : ∀ (n b b' : Nat) (d : List UInt8), b % 2 ^ n = b' % 2 ^ n → fd b n d = fd b' n d
  | 0, b, b', d, _ => rfl
  | n + 1, b, b', d, h => by
    rw [Nat.pow_succ, Nat.mul_comm, Nat.mod_mul, Nat.mod_mul] at h
    have h1 : b % 2 = b' % 2 := by omega
    have h2 : b / 2 % 2 ^ n = b' / 2 % 2 ^ n := by omega
    by_cases hb : b % 2 = 0
    · rw [fd_even n d hb, fd_even n d (h1 ▸ hb), fd_mod n _ _ d h2]
    · have hb' : ¬ b' % 2 = 0 := fun hh => hb (by omega)
      cases d with
      | nil => rw [fd_nil n hb, fd_nil n hb']
      | cons c d => rw [fd_cons n c d hb, fd_cons n c d hb', fd_mod n _ _ d h2]
theorem ap_copy (base : List UInt8) (to k : Nat) (c : UInt8) (d out : List UInt8) (hc : 128 ≤ c.toNat) : ap base to (k + 1) (c :: d) out =
    match fd c.toNat 7 d with
      | none => ([], 4)
      | some x => if base.length < x.1 % 4294967296 + (if x.1 / 4294967296 = 0 then 65536 else x.1 / 4294967296) ∨ to - out.length < (if x.1 / 4294967296 = 0 then 65536 else x.1 / 4294967296) then ([], 3)
          else ap base to k x.2 (out ++ (base.drop (x.1 % 4294967296)).take (if x.1 / 4294967296 = 0 then 65536 else x.1 / 4294967296)) := by
  have h1 : fd (c.toNat % 16) 4 d = fd c.toNat 4 d := fd_mod 4 _ _ d (by omega)
  have h2 : ∀ e, fd (c.toNat / 16 % 8) 3 e = fd (c.toNat / 2 ^ 4) 3 e := fun e => fd_mod 3 _ _ e (by omega)
  have h7 := fd_split 4 3 c.toNat d
  rw [ap, if_neg (by omega), if_neg (by omega), h1, show (7 : Nat) = 4 + 3 from rfl, h7]
  cases hx : fd c.toNat 4 d with
  | none => rfl
  | some x =>
    have hxl := (fd_le _ _ _ _ hx).2
    simp only [Option.bind_some, h2]
    cases hy : fd (c.toNat / 2 ^ 4) 3 x.2 with
    | none => rfl
    | some y =>
      simp only [Option.map_some]
      have e1 : (x.1 + 256 ^ 4 * y.1) % 4294967296 = x.1 := by omega
      have e2 : (x.1 + 256 ^ 4 * y.1) / 4294967296 = y.1 := by omega
      rw [e1, e2]
      generalize hw : (if y.1 = 0 then 65536 else y.1) = w
      have hw0 : 0 < w := by rw [← hw]; split <;> omega
      by_cases hcnd : base.length < x.1 + w ∨ to - out.length < w
      · rw [if_pos hcnd, if_pos (by omega)]
      · rw [if_neg hcnd, if_neg (by omega)]
end Go.Dl
namespace Go.Proofs.YtfbeigbkdkiliaaGreatDoor
open Go Go.Vx Go.Dl
variable [W0]
set_option maxRecDepth 4000
set_option linter.all false
theorem EV_uadd {P : Program} {n : Nat} {M : List (Nat × Value)} {L : List Chunk} {d : Nat} {ty : TypeId} {ps : String} {af : Array Edge} {g : Option (Nat × Bool)} {x y : Operand} {t u : TypeId} {k : IntKind} {i j : Int} (a b : Nat) (hx : ev M x = some (.int k i)) (hy : ev M y = some (.int k j)) (hi : i = (a : Int)) (hj : j = (b : Int)) (hs : k.signed = false) (hr : a + b < 2 ^ k.bits) :
    EV P n ⟨some d, .binOp .add t x y u, ty, ps, af, g⟩ M L d (.int k ((a + b : Nat) : Int)) := by
  subst hi hj
  have h := EV_ari (P := P) (n := n) (L := L) (d := d) (ty := ty) (ps := ps) (af := af) (g := g) (op := .add) (t := t) (u := u) hx hy rfl
  rwa [show (a : Int) + (b : Int) = ((a + b : Nat) : Int) from by omega, wrap_nat hs hr] at h
end Go.Proofs.YtfbeigbkdkiliaaGreatDoor
namespace Go.Pk
set_option linter.all false
theorem poF_lt (c : Nat) (h : c < 128) : ∀ (g : List UInt8), poF c g + 2 ≤ 2 ^ (8 * (g.length + 1)) := fun g => by
  have key : ∀ (l : List UInt8) (v k : Nat), v + 2 ≤ 2 ^ (8 * (k + 1)) → poF v l + 2 ≤ 2 ^ (8 * (k + l.length + 1)) := by
    intro l
    induction l with
    | nil => intro v k hv; exact hv
    | cons x l ih =>
      intro v k hv
      have := ih ((v + 1) * 128 + x.toNat % 128) (k + 1) (by rw [Nat.mul_add 8 (k + 1) 1, Nat.pow_add]; omega)
      rw [show k + (x :: l).length + 1 = k + 1 + l.length + 1 from by simp; omega]
      exact this
  have := key g c 0 (by omega)
  rwa [Nat.zero_add] at this
theorem poF_take {c : Nat} {l : List UInt8} {i : Nat} (h : i < l.length) : poF c (l.take (i + 1)) = (poF c (l.take i) + 1) * 128 + (l[i]).toNat % 128 := by
  rw [List.take_add_one, List.getElem?_eq_getElem h]
  exact poF_snoc _ _ _
end Go.Pk
namespace Go.Proofs.YtfbeigbkdkiliaaGreatDoor
open Go Go.Vx Go.Dl Go.Pk Go.If
variable [W0]
set_option maxRecDepth 4000
set_option linter.all false
set_option maxHeartbeats 16000000 in
theorem phash_n (p q at_ k a0 s off : Nat) (crc : BitVec 32) (vd vb : Value) (bs b : List UInt8) (L : List Chunk) (h : Rs L 1 vb b.length (bsv b)) (hl : b.length ≤ 140737488355328) (ha : at_ ≤ b.length) (hvd : vd.oneCell' = true) :
    Gv Tryz.prog 102 [.pointer (some ⟨p, 0, none⟩), .pointer (some ⟨q, 0, none⟩)].toArray (rC p vb at_ :: rwC q k a0 s crc vd bs off :: L) (fun r L' =>
      ∃ at' bs', r = .int .i64 ((pcB b a0 at_ 7).2.2.2 : Int) ∧ ((pcB b a0 at_ 7).2.2.2 = 0 → at' = (pcB b a0 at_ 7).2.2.1 ∧ bs' = (pcB b a0 at_ 7).1) ∧ L' = rC p vb at' :: rwC q k a0 s crc vd bs' off :: L) := by
  refine Gv.of_body (args := [.pointer (some ⟨p, 0, none⟩), .pointer (some ⟨q, 0, none⟩)]) Tryz.func102 rfl rfl ?_
  have hT := fun (C : Chunk) => ktake_n p 20 at_ vb b (C :: L) h.there hl ha (by decide)
  (repeat' first|refine kW ?_|refine kU fun bk=>?_|refine kV fun hc=>?_|refine kZ (fun hc=>?_) fun hc=>?_|fail)
  refine OW_call rfl rfl rfl (hT _) rfl (fun r L' hp => ?_)
  have hP : pcB b a0 at_ 7 = if b.length - at_ < 20 then ([], 0, 0, 4) else (hexL ((b.drop at_).take 20), 0, at_ + 20, 0) := by
    unfold pcB; rw [if_neg (by decide), if_pos rfl]
  rcases hp with ⟨g, rfl, rfl⟩ | ⟨g, v, rfl, qv, rfl⟩
  · rw [if_pos g] at hP
    rw [hP]
    ((repeat' first|refine kW ?_|refine kU fun bk=>?_|refine kV fun hc=>?_|refine kZ (fun hc=>?_) fun hc=>?_|fail) <;> try exact absurd trivial hc)
    refine kR ?_
    exact ⟨_, iC, at_, bs, rfl, fun h => absurd h (by decide), rfl⟩
  rw [if_neg (by omega)] at hP
  rw [hP]
  have hcl : ((b.drop at_).take 20).length = 20 := by rw [List.length_take, List.length_drop]; omega
  replace qv : Rs (rwC q k a0 s crc vd bs off :: L) 1 v ((b.drop at_).take 20).length (bsv ((b.drop at_).take 20)) := by rw [hcl]; exact qv
  ((repeat' first|refine kW ?_|refine kU fun bk=>?_|refine kV fun hc=>?_|refine kZ (fun hc=>?_) fun hc=>?_|fail) <;> try exact absurd trivial hc)
  refine OW_callP rfl rfl rfl (hex_n ((b.drop at_).take 20) v _ (by omega) ⟨sl_there qv.sl, qv.room⟩) rfl ?_
  rw [show (⟨(hexL ((b.drop at_).take 20)).toArray⟩ : ByteArray) = str (hexL ((b.drop at_).take 20)) from rfl]
  unfold rwC
  ((repeat' first|refine kW ?_|refine kU fun bk=>?_|refine kV fun hc=>?_|refine kZ (fun hc=>?_) fun hc=>?_|fail) <;> try exact absurd trivial hc)
  refine kR ?_
  exact ⟨_, iC, at_ + 20, hexL ((b.drop at_).take 20), rfl, fun _ => ⟨rfl, rfl⟩, rfl⟩
set_option maxHeartbeats 16000000 in
theorem poffset_n (p q at_ k a0 s off : Nat) (crc : BitVec 32) (vd vb : Value) (bs b : List UInt8) (L : List Chunk) (h : Rs L 1 vb b.length (bsv b)) (hl : b.length ≤ 140737488355328) (ha : at_ ≤ b.length) (ha0 : a0 ≤ b.length) (hvd : vd.oneCell' = true) :
    Gv Tryz.prog 101 [.pointer (some ⟨p, 0, none⟩), .pointer (some ⟨q, 0, none⟩)].toArray (rC p vb at_ :: rwC q k a0 s crc vd bs off :: L) (fun r L' =>
      ∃ at' off', r = .int .i64 ((pcB b a0 at_ 6).2.2.2 : Int) ∧ ((pcB b a0 at_ 6).2.2.2 = 0 → at' = (pcB b a0 at_ 6).2.2.1 ∧ off' = (pcB b a0 at_ 6).2.1) ∧ L' = rC p vb at' :: rwC q k a0 s crc vd bs off' :: L) := by
  refine Gv.of_body (args := [.pointer (some ⟨p, 0, none⟩), .pointer (some ⟨q, 0, none⟩)]) Tryz.func101 rfl rfl ?_
  have hC := fun (C : Chunk) => kgroups_n p at_ vb b (C :: L) h.there hl ha
  have hct := ctN_le (b.drop at_)
  have hE : pcB b a0 at_ 6 = if ctN (b.drop at_) = 0 then ([], 0, 0, 4)
    else if 5 < ctN (b.drop at_) then ([], 0, 0, 3)
    else if poV ((b.drop at_).take (ctN (b.drop at_))) = 0 ∨ a0 < poV ((b.drop at_).take (ctN (b.drop at_))) then ([], 0, 0, 3)
    else ([], a0 - poV ((b.drop at_).take (ctN (b.drop at_))), at_ + ctN (b.drop at_), 0) := by unfold pcB; rw [if_pos rfl]
  (repeat' first|refine kW ?_|refine kU fun bk=>?_|refine kV fun hc=>?_|refine kZ (fun hc=>?_) fun hc=>?_|fail)
  refine OW_call rfl rfl rfl (hC _) rfl (fun r L' hp => ?_)
  rcases hp with ⟨g, rfl, rfl⟩ | ⟨g, v, rfl, qv, rfl⟩
  · rw [if_pos g] at hE
    rw [hE]
    ((repeat' first|refine kW ?_|refine kU fun bk=>?_|refine kV fun hc=>?_|refine kZ (fun hc=>?_) fun hc=>?_|fail) <;> try exact absurd trivial hc)
    refine kR ?_
    exact ⟨_, iC, at_, off, rfl, fun h => absurd h (by decide), rfl⟩
  rw [if_neg (by omega)] at hE
  obtain ⟨c, hc0⟩ : ∃ c, c = ctN (b.drop at_) := ⟨_, rfl⟩
  obtain ⟨gs, hgs⟩ : ∃ gs, gs = (b.drop at_).take (ctN (b.drop at_)) := ⟨_, rfl⟩
  have hgl : gs.length = c := by rw [hgs, List.length_take]; omega
  rw [← hgs, ← hc0] at qv
  rw [← hgs] at hE
  rw [← hc0] at g hE hct ⊢
  rw [← hgl] at qv
  obtain ⟨va, vc, rfl⟩ := rs_val qv
  by_cases h5 : 5 < c
  · rw [if_pos h5] at hE
    rw [hE]
    ((repeat' first|refine kW ?_|refine kU fun bk=>?_|refine kV fun hc=>?_|refine kZ (fun hc=>?_) fun hc=>?_|fail) <;> try exact absurd trivial hc)
    refine kR ?_
    exact ⟨_, iC, at_ + c, off, rfl, fun h => absurd h (by decide), rfl⟩
  rw [if_neg h5] at hE
  obtain ⟨c0, ts, hct2⟩ : ∃ c0 ts, gs = c0 :: ts := by
    cases hgd : gs with
    | nil => rw [hgd] at hgl; simp at hgl; omega
    | cons c0 ts => exact ⟨c0, ts, rfl⟩
  have htl : ts.length = c - 1 := by rw [← hgl, hct2]; simp
  have hcell0 := bsv_get (d := gs) (i := 0) (by omega)
  rw [show gs[0] = c0 from by simp [hct2]] at hcell0
  obtain ⟨b2, off2, cap2, cc2, T2, fr2, hve, hfn2, hcell2⟩ := sl_at qv.sl hcell0
  injection hve with r1 r2 r3
  subst r1 r3
  clear r2
  obtain ⟨rt, qt, et⟩ := rs_cut (P := Tryz.prog) (T := 23) qv (l := 1) (h := gs.length) (by omega) (Nat.le_refl _)
  rw [List.take_of_length_le (by rw [List.length_drop]; exact Nat.le_refl _)] at qt
  rw [show gs.drop 1 = ts from by rw [hct2]; rfl] at qt
  obtain ⟨ta, tc, rfl⟩ := rs_val qt
  have hV : poV gs = poF (c0.toNat % 128) ts := by rw [hct2]; rfl
  rw [hV] at hE
  unfold rC rwC
  have hc8 := c0.toNat_lt
  ((repeat' first|refine kW ?_|refine kU fun bk=>?_|refine kV fun hc=>?_|refine kZ (fun hc=>?_) fun hc=>?_|fail) <;> try exact absurd trivial hc)
  refine OW_EV (EV_indexAddr (j := 0) rfl rfl rfl (by omega)) rfl ?_
  ((repeat' first|refine kW ?_|refine kU fun bk=>?_|refine kV fun hc=>?_|refine kZ (fun hc=>?_) fun hc=>?_|fail) <;> try exact absurd trivial hc)
  refine OW_EV (EV_load rfl hfn2.there hcell2) rfl ?_
  ((repeat' first|refine kW ?_|refine kU fun bk=>?_|refine kV fun hc=>?_|refine kZ (fun hc=>?_) fun hc=>?_|fail) <;> try exact absurd trivial hc)
  refine OW_EV (EV_remN (k := .u8) c0.toNat 128 rfl rfl rfl rfl (by decide)) rfl ?_
  ((repeat' first|refine kW ?_|refine kU fun bk=>?_|refine kV fun hc=>?_|refine kZ (fun hc=>?_) fun hc=>?_|fail) <;> try exact absurd trivial hc)
  refine OW_EV (et rfl rfl rfl) rfl ?_
  ((repeat' first|refine kW ?_|refine kU fun bk=>?_|refine kV fun hc=>?_|refine kZ (fun hc=>?_) fun hc=>?_|fail) <;> try exact absurd trivial hc)
  refine WC_loop (X := Nat) (fun i => [(0, .pointer (some ⟨p, 0, none⟩)), (1, .pointer (some ⟨q, 0, none⟩)), (7, .int .u64 ((poF (c0.toNat % 128) (ts.take i) : Nat) : Int)), (27, .slice ta ts.length tc), (28, .int .i64 (ts.length : Int)), (29, .int .i64 (i : Int))])
    (fun _ => rC p vb (at_ + c) :: rwC q k a0 s crc vd bs off :: L) (fun i => i ≤ ts.length) (fun i => ts.length - i) 0 (Nat.zero_le _) iS (fun w h => h) ?_
  intro i hi
  have hi : i ≤ ts.length := hi
  have hlt := poF_lt (c0.toNat % 128) (by omega) (ts.take i)
  rw [List.length_take, Nat.min_eq_left hi] at hlt
  have hp8 : 2 ^ (8 * (i + 1)) ≤ 2 ^ 40 := Nat.pow_le_pow_right (by decide) (by omega)
  by_cases hlt2 : i < ts.length
  · ((repeat' first|refine kW ?_|refine kU fun bk=>?_|refine kV fun hc=>?_|refine kZ (fun hc=>?_) fun hc=>?_|fail) <;> try exact absurd trivial hc)
    obtain ⟨b3, off3, cap3, cc3, T3, fr3, hve, hfn3, hcell3⟩ := sl_at qt.sl (bsv_get hlt2)
    injection hve with r1 r2 r3
    subst r1 r3
    clear r2
    have hvt := poF_take (c := c0.toNat % 128) hlt2
    obtain ⟨V, hV2⟩ : ∃ V, V = poF (c0.toNat % 128) (ts.take i) := ⟨_, rfl⟩
    rw [← hV2] at hlt hvt ⊢
    have hx8 := (ts[i]).toNat_lt
    unfold rC rwC
    refine OW_EV (EV_indexAddr (j := i) rfl rfl rfl hlt2) rfl ?_
    ((repeat' first|refine kW ?_|refine kU fun bk=>?_|refine kV fun hc=>?_|refine kZ (fun hc=>?_) fun hc=>?_|fail) <;> try exact absurd trivial hc)
    refine OW_EV (EV_load rfl hfn3.there hcell3) rfl ?_
    ((repeat' first|refine kW ?_|refine kU fun bk=>?_|refine kV fun hc=>?_|refine kZ (fun hc=>?_) fun hc=>?_|fail) <;> try exact absurd trivial hc)
    refine OW_EV (EV_uadd V 1 rfl rfl rfl rfl rfl (by simp only [IntKind.bits]; omega)) rfl ?_
    ((repeat' first|refine kW ?_|refine kU fun bk=>?_|refine kV fun hc=>?_|refine kZ (fun hc=>?_) fun hc=>?_|fail) <;> try exact absurd trivial hc)
    refine OW_EV (EV_nshl (k := .u64) (V + 1) 7 rfl rfl rfl rfl rfl (by simp only [IntKind.bits]; omega)) rfl ?_
    ((repeat' first|refine kW ?_|refine kU fun bk=>?_|refine kV fun hc=>?_|refine kZ (fun hc=>?_) fun hc=>?_|fail) <;> try exact absurd trivial hc)
    refine OW_EV (EV_remN (k := .u8) (ts[i]).toNat 128 rfl rfl rfl rfl (by decide)) rfl ?_
    ((repeat' first|refine kW ?_|refine kU fun bk=>?_|refine kV fun hc=>?_|refine kZ (fun hc=>?_) fun hc=>?_|fail) <;> try exact absurd trivial hc)
    refine OW_EV (EV_nor' (k := .u64) ((ts[i]).toNat % 128) (V + 1) 7 rfl rfl rfl rfl rfl (by omega) (by simp only [IntKind.bits]; omega)) rfl ?_
    rw [show (ts[i]).toNat % 128 + (V + 1) * 2 ^ 7 = poF (c0.toNat % 128) (ts.take (i + 1)) from by rw [hvt]; omega]
    ((repeat' first|refine kW ?_|refine kU fun bk=>?_|refine kV fun hc=>?_|refine kZ (fun hc=>?_) fun hc=>?_|fail) <;> try exact absurd trivial hc)
    refine WQ_round (X := Nat) (μ := fun i => ts.length - i) (x := i) (i + 1) (by omega) (by omega) iS (fun w h => h)
  obtain rfl : i = ts.length := by omega
  rw [List.take_length] at hlt ⊢
  obtain ⟨V, hV2⟩ : ∃ V, V = poF (c0.toNat % 128) ts := ⟨_, rfl⟩
  rw [← hV2] at hlt hE ⊢
  unfold rC rwC
  by_cases h6 : V = 0 ∨ a0 < V
  · rw [if_pos h6] at hE
    rw [hE]
    ((repeat' first|refine kW ?_|refine kU fun bk=>?_|refine kV fun hc=>?_|refine kZ (fun hc=>?_) fun hc=>?_|fail) <;> try exact absurd trivial hc)
    all_goals
      refine kR ?_
      exact ⟨_, iC, at_ + c, off, rfl, fun h => absurd h (by decide), rfl⟩
  rw [if_neg h6] at hE
  rw [hE]
  ((repeat' first|refine kW ?_|refine kU fun bk=>?_|refine kV fun hc=>?_|refine kZ (fun hc=>?_) fun hc=>?_|fail) <;> try exact absurd trivial hc)
  rw [show (a0 : Int) - (V : Int) = ((a0 - V : Nat) : Int) from by omega]
  ((repeat' first|refine kW ?_|refine kU fun bk=>?_|refine kV fun hc=>?_|refine kZ (fun hc=>?_) fun hc=>?_|fail) <;> try exact absurd trivial hc)
  refine kR ?_
  exact ⟨_, iC, at_ + c, a0 - V, rfl, fun _ => ⟨rfl, rfl⟩, rfl⟩
end Go.Proofs.YtfbeigbkdkiliaaGreatDoor
namespace Go.Proofs.YtfbeigbkdkiliaaGreatDoor
open Go Go.Vx Go.Dl Go.Pk Go.If
variable [W0]
set_option maxRecDepth 4000
set_option linter.all false
set_option maxHeartbeats 8000000 in
theorem pbase_n (p q at_ k a0 s : Nat) (crc : BitVec 32) (vd vb : Value) (b : List UInt8) (L : List Chunk) (h : Rs L 1 vb b.length (bsv b)) (hl : b.length ≤ 140737488355328) (ha : at_ ≤ b.length) (ha0 : a0 ≤ b.length) (hvd : vd.oneCell' = true) :
    Gv Tryz.prog 61 [.pointer (some ⟨p, 0, none⟩), .pointer (some ⟨q, 0, none⟩)].toArray (rC p vb at_ :: rwC q k a0 s crc vd [] 0 :: L) (fun r L' =>
      ∃ at' bs' off', r = .int .i64 ((pcB b a0 at_ k).2.2.2 : Int) ∧ ((pcB b a0 at_ k).2.2.2 = 0 → at' = (pcB b a0 at_ k).2.2.1 ∧ bs' = (pcB b a0 at_ k).1 ∧ off' = (pcB b a0 at_ k).2.1) ∧ L' = rC p vb at' :: rwC q k a0 s crc vd bs' off' :: L) := by
  refine Gv.of_body (args := [.pointer (some ⟨p, 0, none⟩), .pointer (some ⟨q, 0, none⟩)]) Tryz.func61 rfl rfl ?_
  have h6 := poffset_n p q at_ 6 a0 s 0 crc vd vb [] b L h hl ha ha0 hvd
  have h7 := phash_n p q at_ 7 a0 s 0 crc vd vb [] b L h hl ha hvd
  by_cases hk6 : k = 6
  · subst hk6
    unfold rC rwC
    ((repeat' first|refine kW ?_|refine kU fun bk=>?_|refine kV fun hc=>?_|refine kZ (fun hc=>?_) fun hc=>?_|fail) <;> try exact absurd trivial hc)
    refine OW_call rfl rfl rfl h6 rfl (fun r L' hp => ?_)
    obtain ⟨at', off', rfl, g1, rfl⟩ := hp
    have g2 : (pcB b a0 at_ 6).2.2.2 = 0 → ([] : List UInt8) = (pcB b a0 at_ 6).1 := fun h => by
      unfold pcB; rw [if_pos rfl]; split
      · rfl
      · split
        · rfl
        · split <;> rfl
    ((repeat' first|refine kW ?_|refine kU fun bk=>?_|refine kV fun hc=>?_|refine kZ (fun hc=>?_) fun hc=>?_|fail) <;> try exact absurd trivial hc)
    refine kR ?_
    exact ⟨_, iC, at', [], off', rfl, fun h => ⟨(g1 h).1, g2 h, (g1 h).2⟩, rfl⟩
  by_cases hk7 : k = 7
  · subst hk7
    unfold rC rwC
    ((repeat' first|refine kW ?_|refine kU fun bk=>?_|refine kV fun hc=>?_|refine kZ (fun hc=>?_) fun hc=>?_|fail) <;> try exact absurd trivial hc)
    refine OW_call rfl rfl rfl h7 rfl (fun r L' hp => ?_)
    obtain ⟨at', bs', rfl, g1, rfl⟩ := hp
    have g2 : (pcB b a0 at_ 7).2.2.2 = 0 → 0 = (pcB b a0 at_ 7).2.1 := fun h => by
      unfold pcB; rw [if_neg (by decide), if_pos rfl]; split <;> rfl
    ((repeat' first|refine kW ?_|refine kU fun bk=>?_|refine kV fun hc=>?_|refine kZ (fun hc=>?_) fun hc=>?_|fail) <;> try exact absurd trivial hc)
    refine kR ?_
    exact ⟨_, iC, at', bs', 0, rfl, fun h => ⟨(g1 h).1, (g1 h).2, g2 h⟩, rfl⟩
  have hE : pcB b a0 at_ k = ([], 0, at_, 0) := by unfold pcB; rw [if_neg hk6, if_neg hk7]
  rw [hE]
  unfold rC rwC
  ((repeat' first|refine kW ?_|refine kU fun bk=>?_|refine kV fun hc=>?_|refine kZ (fun hc=>?_) fun hc=>?_|fail) <;> try exact absurd trivial hc)
  refine kR ?_
  exact ⟨_, iC, at_, [], 0, rfl, fun _ => ⟨rfl, rfl, rfl⟩, rfl⟩
def DtR (z : List UInt8) (v : Value) (u : Nat) (C : Chunk) : Prop :=
  (zlE z 65536 ≠ 0 ∧ v = .slice none 0 0 ∧ u = 0 ∧ C = []) ∨ (zlE z 65536 = 0 ∧ u = 2 + usd z 65536 + 4 ∧ Ow 5 1 v (rawS (z.drop 2) 65536).out.length (bsv (rawS (z.drop 2) 65536).out) C)
theorem DtR.slc {z : List UInt8} {v : Value} {u : Nat} {C : Chunk} (h : DtR z v u C) : ∃ a m c, v = .slice a m c ∧ (zlE z 65536 = 0 → m = (rawS (z.drop 2) 65536).out.length) := by
  rcases h with ⟨h1, rfl, _⟩ | ⟨_, _, ho⟩
  · exact ⟨_, _, _, rfl, fun h => absurd h h1⟩
  · obtain ⟨a, c, rfl⟩ := ow_slc ho
    exact ⟨a, _, c, rfl, fun _ => rfl⟩
def dtE (z : List UInt8) (s : Nat) : Nat := if zlE z 65536 ≠ 0 then zlE z 65536 else if (rawS (z.drop 2) 65536).out.length ≠ s then 3 else 0
theorem pz_n (a : Option Addr) (c : Nat) (z : List UInt8) (L : List Chunk) (hv : Sl L 1 (.slice a z.length c) z.length (bsv z)) (hl : z.length ≤ 140737488355328) (hcap : z.length ≤ c) (hor : OrAt L) :
    Gv Tryz.prog 103 [.slice a z.length c, .int .i64 65536].toArray L (fun r L' => ∃ v u C, r = .tuple #[v, .int .i64 ((u : Nat) : Int), .int .i64 (zlE z 65536 : Int)] ∧ DtR z v u C ∧ L' = C :: L) := by
  refine Gv.monoD (pzlib_n a c z 65536 65536 L hv hl hcap (by decide) (by decide) hor) (fun v L' hp => ?_)
  rcases hp with ⟨h1, rfl, rfl⟩ | ⟨h1, v, C, rfl, ho, _, rfl⟩
  · exact ⟨[] :: L', fun w h => Holds.nil.2 h, .slice none 0 0, 0, [], rfl, .inl ⟨h1, rfl, rfl, rfl⟩, rfl⟩
  · exact ⟨C :: L, fun w h => h, v, _, C, by rw [h1]; rfl, .inr ⟨h1, rfl, ho⟩, rfl⟩
set_option maxHeartbeats 16000000 in
theorem pdata_n (p q at_ k a0 s off : Nat) (crc : BitVec 32) (vd vb : Value) (bs b : List UInt8) (L : List Chunk) (h : Rs L 1 vb b.length (bsv b)) (hl : b.length ≤ 10000000) (ha : at_ ≤ b.length) (hvd : vd.oneCell' = true) (hs : s ≤ 65536) (hor : OrAt L) :
    Gv Tryz.prog 62 [.pointer (some ⟨p, 0, none⟩), .pointer (some ⟨q, 0, none⟩)].toArray (rC p vb at_ :: rwC q k a0 s crc vd bs off :: L) (fun r L' =>
      ∃ at' vd' C', r = .int .i64 (dtE ((b.drop at_).take (dtM (b.drop at_) s)) s : Int) ∧ (dtE ((b.drop at_).take (dtM (b.drop at_) s)) s = 0 → at' = at_ + (2 + usd ((b.drop at_).take (dtM (b.drop at_) s)) 65536 + 4) ∧ Ow 5 1 vd' (rawS (((b.drop at_).take (dtM (b.drop at_) s)).drop 2) 65536).out.length (bsv (rawS (((b.drop at_).take (dtM (b.drop at_) s)).drop 2) 65536).out) C') ∧ vd'.oneCell' = true ∧ L' = rC p vb at' :: rwC q k a0 s crc vd' bs off :: C' :: L) := by
  refine Gv.of_body (args := [.pointer (some ⟨p, 0, none⟩), .pointer (some ⟨q, 0, none⟩)]) Tryz.func62 rfl rfl ?_
  obtain ⟨ba, bc, rfl⟩ := rs_val h
  obtain ⟨r1, q1, e1⟩ := rs_cut (P := Tryz.prog) (T := 23) h (l := at_) (h := b.length) ha (Nat.le_refl _)
  rw [List.take_of_length_le (by rw [List.length_drop]; exact Nat.le_refl _)] at q1
  have hdl : (b.drop at_).length = b.length - at_ := List.length_drop
  obtain ⟨d, hd⟩ : ∃ d, d = b.drop at_ := ⟨_, rfl⟩
  rw [← hd] at hdl q1 ⊢
  obtain ⟨ra, rc, rfl⟩ := rs_val q1
  obtain ⟨m0, hm0⟩ : ∃ m0, m0 = min (s + 64) d.length := ⟨_, rfl⟩
  have hM : dtM d s = dtN d (d.length + 1) m0 := by rw [hm0]; rfl
  unfold rC rwC
  have hz : ∀ n, n ≤ d.length → ∃ va vc, (∀ {M : List (Nat × Value)} {L2 : List Chunk} {nn dd ty : Nat} {ps : String} {af : Array Edge} {g : Option (Nat × Bool)} {x y : Operand}, ev M x = some (.slice ra d.length rc) → ev M y = some (.int .i64 (n : Int)) → EV Tryz.prog nn ⟨some dd, .slice 23 x none (some y) none, ty, ps, af, g⟩ M L2 dd (.slice va (d.take n).length vc)) ∧ Rs L 1 (.slice va (d.take n).length vc) (d.take n).length (bsv (d.take n)) := fun n hn => by
    obtain ⟨r2, q2, e2⟩ := rs_cut (P := Tryz.prog) (T := 23) q1 (l := 0) (h := n) (Nat.zero_le _) hn
    rw [List.drop_zero, Nat.sub_zero] at q2
    obtain ⟨va, vc, rfl⟩ := rs_val q2
    exact ⟨va, vc, fun hx hy => e2 hx rfl (bnd_int hy rfl), q2⟩
  obtain ⟨za, zc, ez, qz⟩ := hz m0 (by omega)
  have hroom : (d.take m0).length ≤ zc := by
    obtain ⟨x, y, hv, hmc⟩ := qz.room
    injection hv with _ _ e3
    omega
  have htl : (d.take m0).length ≤ 10000000 := by rw [List.length_take]; omega
  (repeat' first|refine kW ?_|refine kU fun bk=>?_|refine kV fun hc=>?_|refine kZ (fun hc=>?_) fun hc=>?_|fail)
  refine WC_drawAll [] mixed ?_
  (refine WR_t 0 ?_; refine WR_t 1 ?_; refine WR_t 2 ?_; refine WR_t 3 ?_; refine WR_t 4 ?_; refine WR_t 5 ?_; refine WR_t 6 ?_; refine WR_t 7 ?_)
  (refine WR_take 8 rfl rfl (by kernel_rfl) iP iC (e1 rfl rfl rfl) (by rfl) ?_)
  (refine WR_t 9 ?_)
  (refine WR_done (by kernel_rfl) ?_)
  (repeat' first|refine kW ?_|refine kU fun bk=>?_|refine kV fun hc=>?_|refine kZ (fun hc=>?_) fun hc=>?_|fail)
  rw [show min ((s : Int) + 64) (d.length : Int) = (m0 : Int) from by omega]
  (repeat' first|refine kW ?_|refine kU fun bk=>?_|refine kV fun hc=>?_|refine kZ (fun hc=>?_) fun hc=>?_|fail)
  refine OW_EV (ez rfl rfl) rfl ?_
  (repeat' first|refine kW ?_|refine kU fun bk=>?_|refine kV fun hc=>?_|refine kZ (fun hc=>?_) fun hc=>?_|fail)
  refine OW_call rfl rfl rfl (pz_n za zc (d.take m0) _ (sl_there (sl_there qz.sl)) (by omega) hroom hor.there.there) rfl (fun r L' hp => ?_)
  obtain ⟨v0, u0, C0, rfl, hr0, rfl⟩ := hp
  (repeat' first|refine kW ?_|refine kU fun bk=>?_|refine kV fun hc=>?_|refine kZ (fun hc=>?_) fun hc=>?_|fail)
  refine WC_loop (X := Nat × Value × Nat × Chunk × Nat) (fun x => [(0, .pointer (some ⟨p, 0, none⟩)), (1, .pointer (some ⟨q, 0, none⟩)), (5, .slice ra d.length rc), (6, .int .i64 (x.1 : Int)), (7, x.2.1), (8, .int .i64 (x.2.2.1 : Int)), (9, .int .i64 (zlE (d.take x.1) 65536 : Int))])
    (fun x => x.2.2.2.1 :: rC p (.slice ba b.length bc) at_ :: rwC q k a0 s crc vd bs off :: L)
    (fun x => x.1 ≤ d.length ∧ (x.1 < d.length → 1 ≤ x.1) ∧ d.length < x.2.2.2.2 + x.1 ∧ dtM d s = dtN d x.2.2.2.2 x.1 ∧ DtR (d.take x.1) x.2.1 x.2.2.1 x.2.2.2.1) (fun x => d.length - x.1) (m0, v0, u0, C0, d.length + 1)
    ⟨by simp only; omega, by simp only; omega, by simp only; omega, hM, hr0⟩ iS (fun w h => h) ?_
  clear hr0
  rintro ⟨n, v, u, C, f⟩ ⟨g1, g2, g3, g4, g5⟩
  simp only at g1 g2 g3 g4 g5 ⊢
  unfold rC rwC
  obtain ⟨da, dm, dc, rfl, hdm⟩ := g5.slc
  by_cases hgo : zlE (d.take n) 65536 = 4 ∧ n < d.length
  · obtain ⟨n', hn'⟩ : ∃ n', n' = min (2 * n) d.length := ⟨_, rfl⟩
    obtain ⟨za, zc, ez, qz⟩ := hz n' (by omega)
    have hroom : (d.take n').length ≤ zc := by
      obtain ⟨x, y, hv, hmc⟩ := qz.room
      injection hv with _ _ e3
      omega
    have htl : (d.take n').length ≤ 10000000 := by rw [List.length_take]; omega
    obtain ⟨f', rfl⟩ : ∃ f', f = f' + 1 := ⟨f - 1, by omega⟩
    rw [dtN, if_pos hgo, ← hn'] at g4
    rw [hgo.1]
    ((repeat' first|refine kW ?_|refine kU fun bk=>?_|refine kV fun hc=>?_|refine kZ (fun hc=>?_) fun hc=>?_|fail) <;> try exact absurd trivial hc)
    rw [show min (2 * (n : Int)) (d.length : Int) = (n' : Int) from by omega]
    ((repeat' first|refine kW ?_|refine kU fun bk=>?_|refine kV fun hc=>?_|refine kZ (fun hc=>?_) fun hc=>?_|fail) <;> try exact absurd trivial hc)
    refine OW_EV (ez rfl rfl) rfl ?_
    ((repeat' first|refine kW ?_|refine kU fun bk=>?_|refine kV fun hc=>?_|refine kZ (fun hc=>?_) fun hc=>?_|fail) <;> try exact absurd trivial hc)
    refine OW_call rfl rfl rfl (pz_n za zc (d.take n') _ (sl_there (sl_there (sl_there qz.sl))) (by omega) hroom hor.there.there.there) rfl (fun r L' hp => ?_)
    obtain ⟨v2, u2, C2, rfl, hr2, rfl⟩ := hp
    ((repeat' first|refine kW ?_|refine kU fun bk=>?_|refine kV fun hc=>?_|refine kZ (fun hc=>?_) fun hc=>?_|fail) <;> try exact absurd trivial hc)
    refine WQ_round (X := Nat × Value × Nat × Chunk × Nat) (μ := fun x => d.length - x.1) (x := (n, .slice da dm dc, u, C, f' + 1)) (n', v2, u2, C2, f') (by simp only; omega) ⟨by simp only; omega, by simp only; omega, by simp only; omega, g4, hr2⟩ iS (fun w h => (iC : Inc (C2 :: rC p (.slice ba b.length bc) at_ :: rwC q k a0 s crc vd bs off :: L) _).holds h)
  have hn : dtM d s = n := by
    rw [g4]
    cases f with
    | zero => rfl
    | succ f => rw [dtN, if_neg hgo]
  rw [hn]
  clear g4
  by_cases h0 : zlE (d.take n) 65536 ≠ 0
  · have hE : dtE (d.take n) s = zlE (d.take n) 65536 := by unfold dtE; rw [if_pos h0]
    rw [hE]
    ((repeat' first|refine kW ?_|refine kU fun bk=>?_|refine kV fun hc=>?_|refine kZ (fun hc=>?_) fun hc=>?_|fail) <;> try exact absurd trivial hc)
    all_goals
      refine kR ?_
      exact ⟨_, iC, at_, vd, C, rfl, fun h => absurd h h0, hvd, rfl⟩
  have h0 : zlE (d.take n) 65536 = 0 := by omega
  rcases g5 with ⟨h1, _⟩ | ⟨_, rfl, ho⟩
  · exact absurd h0 h1
  rw [hdm h0] at ho ⊢
  by_cases h1 : (rawS ((d.take n).drop 2) 65536).out.length ≠ s
  · have hE : dtE (d.take n) s = 3 := by unfold dtE; rw [if_neg (fun h => h h0), if_pos h1]
    rw [hE, h0]
    ((repeat' first|refine kW ?_|refine kU fun bk=>?_|refine kV fun hc=>?_|refine kZ (fun hc=>?_) fun hc=>?_|fail) <;> try exact absurd trivial hc)
    refine kR ?_
    exact ⟨_, iC, at_, vd, C, rfl, fun h => absurd h (by decide), hvd, rfl⟩
  have hE : dtE (d.take n) s = 0 := by unfold dtE; rw [if_neg (fun h => h h0), if_neg h1]
  rw [hE, h0]
  have hu := zlE_room (d.take n) 65536 h0
  have hu2 : (d.take n).length ≤ 10000000 := by rw [List.length_take]; omega
  ((repeat' first|refine kW ?_|refine kU fun bk=>?_|refine kV fun hc=>?_|refine kZ (fun hc=>?_) fun hc=>?_|fail) <;> try exact absurd trivial hc)
  rw [← Int.natCast_add]
  ((repeat' first|refine kW ?_|refine kU fun bk=>?_|refine kV fun hc=>?_|refine kZ (fun hc=>?_) fun hc=>?_|fail) <;> try exact absurd trivial hc)
  refine kR ?_
  exact ⟨_, iC, _, .slice da (rawS ((d.take n).drop 2) 65536).out.length dc, C, rfl, fun _ => ⟨rfl, ho⟩, rfl, rfl⟩
end Go.Proofs.YtfbeigbkdkiliaaGreatDoor
namespace Go.Proofs.YtfbeigbkdkiliaaGreatDoor
open Go Go.Vx Go.Dl Go.Pk Go.If
variable [W0]
set_option maxRecDepth 4000
set_option linter.all false
theorem dt_pE (b : List UInt8) (at_ : Nat) (h1 : pkE (b.drop at_) = 0) (h2 : (pB b at_).2.2.2 = 0) : pE b at_ = dtE (pZ b at_) (pkS (b.drop at_)) := by
  unfold pE dtE pO
  rw [if_neg (fun h => h h1), if_neg (fun h => h h2)]
omit [W0] in
def rwZ : List Value := [.int .i64 0, .int .i64 0, .int .i64 0, .int .u32 0, .slice none 0 0, .string .empty, .int .i64 0]
def EnS (b : List UInt8) (at_ : Nat) (x : Nat × Nat × Nat × Nat × List UInt8 × Nat × Value × Chunk) : Prop :=
  x = (0, at_, 0, 0, [], 0, .slice none 0 0, []) ∨
  (pkE (b.drop at_) = 0 ∧ x = (1, pqQ b at_, pkK (b.drop at_), pkS (b.drop at_), [], 0, .slice none 0 0, [])) ∨
  (pkE (b.drop at_) = 0 ∧ (pB b at_).2.2.2 = 0 ∧ x = (2, (pB b at_).2.2.1, pkK (b.drop at_), pkS (b.drop at_), (pB b at_).1, (pB b at_).2.1, .slice none 0 0, [])) ∨
  (pE b at_ = 0 ∧ ∃ vd C, x = (3, pP b at_, pkK (b.drop at_), pkS (b.drop at_), (pB b at_).1, (pB b at_).2.1, vd, C) ∧ vd.oneCell' = true ∧ Ow 5 1 vd (pO b at_).length (bsv (pO b at_)) C)
theorem EnS.le {b : List UInt8} {at_ : Nat} {x : Nat × Nat × Nat × Nat × List UInt8 × Nat × Value × Chunk} (h : EnS b at_ x) : x.1 ≤ 3 := by
  rcases h with rfl | ⟨_, rfl⟩ | ⟨_, _, rfl⟩ | ⟨_, vd, C, rfl, _⟩
  · exact Nat.zero_le _
  · exact Nat.le_add_left 1 2
  · exact Nat.le_add_left 2 1
  · exact Nat.le_refl 3
def fnP (p : Nat) : List Value := [.func (.func 60) #[.pointer (some ⟨p, 0, none⟩)] #[], .func (.func 61) #[.pointer (some ⟨p, 0, none⟩)] #[], .func (.func 62) #[.pointer (some ⟨p, 0, none⟩)] #[]]
set_option maxHeartbeats 16000000 in
theorem pentry_n (p at_ : Nat) (vb : Value) (b : List UInt8) (L : List Chunk) (h : Rs L 1 vb b.length (bsv b)) (hl : b.length ≤ 10000000) (ha : at_ ≤ b.length) (hor : OrAt L) (htb : TabAt L) :
    Gv Tryz.prog 39 [.pointer (some ⟨p, 0, none⟩)].toArray (rC p vb at_ :: L) (fun r L' =>
      (pE b at_ ≠ 0 ∧ r = .tuple #[.agg #[.int .i64 0, .int .i64 0, .int .i64 0, .int .u32 0, .slice none 0 0, .string .empty, .int .i64 0], .int .i64 (pE b at_ : Int)] ∧ ∃ at', L' = rC p vb at' :: L) ∨
      (pE b at_ = 0 ∧ ∃ vd C, r = .tuple #[.agg (rwR (pR b at_, vd)).toArray, .int .i64 0] ∧ Ow 5 1 vd (pO b at_).length (bsv (pO b at_)) C ∧ L' = rC p vb (pP b at_) :: C :: L)) := by
  refine Gv.of_body (args := [.pointer (some ⟨p, 0, none⟩)]) Tryz.func39 rfl rfl ?_
  unfold rC
  (repeat' first|refine kW ?_|refine kU fun bk=>?_|refine kV fun hc=>?_|refine kZ (fun hc=>?_) fun hc=>?_|fail)
  revert bk
  intro q
  revert bk
  intro r0
  refine OW_buildSlice (cs := fnP p) rfl (by rfl) (by first | rfl | (simp [fillL, patch, Value.cells, zeros, fnP]; done) | (simp [fillL, patch, Value.cells, zeros, fnP]; rfl)) (by omega) rfl rfl (fun b1 => ?_)
  (repeat' first|refine kW ?_|refine kU fun bk=>?_|refine kV fun hc=>?_|refine kZ (fun hc=>?_) fun hc=>?_|fail)
  refine WC_loop (X := Nat × Nat × Nat × Nat × List UInt8 × Nat × Value × Chunk) (fun x => [(0, .pointer (some ⟨p, 0, none⟩)), (2, .pointer (some ⟨r0, 0, none⟩)), (4, .pointer (some ⟨q, 0, none⟩)), (19, .slice (some ⟨b1, 0, none⟩) 3 3), (20, .int .i64 3), (21, .int .i64 (x.1 : Int))])
    (fun x => rC p vb x.2.1 :: rwC q x.2.2.1 at_ x.2.2.2.1 0#32 x.2.2.2.2.2.2.1 x.2.2.2.2.1 x.2.2.2.2.2.1 :: x.2.2.2.2.2.2.2 :: [(r0, cl rwZ 98)] :: [(b1, cl (fnP p) 125)] :: L)
    (EnS b at_) (fun x => 3 - x.1) (0, at_, 0, 0, [], 0, .slice none 0 0, []) (.inl rfl) iS ?_ ?_
  · intro w h
    exact (iC : Inc (rC p vb at_ :: rwC q 0 at_ 0 0#32 (.slice none 0 0) [] 0 :: [(r0, cl rwZ 98)] :: [(b1, cl (fnP p) 125)] :: L) _).holds h
  intro x hx
  rcases hx with rfl | ⟨e1, rfl⟩ | ⟨e1, e2, rfl⟩ | ⟨e3, vd, C, rfl, hv1, ho⟩
  · simp only
    have hc := phead_n p q at_ 0 at_ 0 0 0#32 (.slice none 0 0) vb [] b ([] :: [(r0, cl rwZ 98)] :: [(b1, cl (fnP p) 125)] :: L) h.there.there.there (by omega) ha rfl
    unfold rC rwC rwZ at hc ⊢
    ((repeat' first|refine kW ?_|refine kU fun bk=>?_|refine kV fun hc=>?_|refine kZ (fun hc=>?_) fun hc=>?_|fail) <;> try exact absurd trivial hc)
    refine OW_EV (EV_indexAddr (j := 0) rfl rfl rfl (by omega)) rfl ?_
    ((repeat' first|refine kW ?_|refine kU fun bk=>?_|refine kV fun hc=>?_|refine kZ (fun hc=>?_) fun hc=>?_|fail) <;> try exact absurd trivial hc)
    haveI : BD Tryz.prog 60 := ⟨by kernel_rfl⟩
    refine OW_call rfl rfl rfl hc rfl (fun r L' hp => ?_)
    obtain ⟨at', k', s', rfl, g1, rfl⟩ := hp
    by_cases h0 : pkE (b.drop at_) = 0
    · obtain ⟨rfl, rfl, rfl⟩ := g1 h0
      rw [h0]
      ((repeat' first|refine kW ?_|refine kU fun bk=>?_|refine kV fun hc=>?_|refine kZ (fun hc=>?_) fun hc=>?_|fail) <;> try exact absurd trivial hc)
      exact WQ_round (X := Nat × Nat × Nat × Nat × List UInt8 × Nat × Value × Chunk) (μ := fun x => 3 - x.1) (x := (0, at_, 0, 0, [], 0, .slice none 0 0, [])) (1, pqQ b at_, pkK (b.drop at_), pkS (b.drop at_), [], 0, .slice none 0 0, []) (show 3 - 1 < 3 - 0 from by decide) (.inr (.inl ⟨h0, rfl⟩)) iS (fun w h => h)
    · have hE : pE b at_ = pkE (b.drop at_) := by unfold pE; rw [if_pos h0]
      ((repeat' first|refine kW ?_|refine kU fun bk=>?_|refine kV fun hc=>?_|refine kZ (fun hc=>?_) fun hc=>?_|fail) <;> try exact absurd trivial hc)
      (first
        | (refine WQ_retC (vs := [.agg (rwZ).toArray, .int .i64 (pkE (b.drop at_) : Int)]) rfl (.agg ⟨by kernel_rfl, by kernel_rfl⟩ rfl (RdAt.cl' (vs := rwZ) (by repeat (first | assumption | exact Fnd.here | refine Fnd.there ?_)) rfl) rfl (.tmp rfl .nil)) ?_)
        | (refine WQ_endC (vs := [.agg (rwZ).toArray, .int .i64 (pkE (b.drop at_) : Int)]) rfl (.agg ⟨by kernel_rfl, by kernel_rfl⟩ rfl (RdAt.cl' (vs := rwZ) (by repeat (first | assumption | exact Fnd.here | refine Fnd.there ?_)) rfl) rfl (.tmp rfl .nil)) ?_))
      exact ⟨rC p vb at' :: L, fun w h => iH h, .inl ⟨by omega, by rw [hE]; rfl, at', rfl⟩⟩
  · simp only
    have hc := pbase_n p q (pqQ b at_) (pkK (b.drop at_)) at_ (pkS (b.drop at_)) 0#32 (.slice none 0 0) vb b ([] :: [(r0, cl rwZ 98)] :: [(b1, cl (fnP p) 125)] :: L) h.there.there.there (by omega) (pqQ_le b at_ ha) ha rfl
    change Gv _ _ _ _ (fun r L' => ∃ at' bs' off', r = .int .i64 ((pB b at_).2.2.2 : Int) ∧ ((pB b at_).2.2.2 = 0 → at' = (pB b at_).2.2.1 ∧ bs' = (pB b at_).1 ∧ off' = (pB b at_).2.1) ∧ _) at hc
    unfold rC rwC rwZ at hc ⊢
    ((repeat' first|refine kW ?_|refine kU fun bk=>?_|refine kV fun hc=>?_|refine kZ (fun hc=>?_) fun hc=>?_|fail) <;> try exact absurd trivial hc)
    refine OW_EV (EV_indexAddr (j := 1) rfl rfl rfl (by omega)) rfl ?_
    ((repeat' first|refine kW ?_|refine kU fun bk=>?_|refine kV fun hc=>?_|refine kZ (fun hc=>?_) fun hc=>?_|fail) <;> try exact absurd trivial hc)
    haveI : BD Tryz.prog 61 := ⟨by kernel_rfl⟩
    refine OW_call rfl rfl rfl hc rfl (fun r L' hp => ?_)
    obtain ⟨at', bs', off', rfl, g1, rfl⟩ := hp
    by_cases h0 : (pB b at_).2.2.2 = 0
    · obtain ⟨rfl, rfl, rfl⟩ := g1 h0
      rw [h0]
      ((repeat' first|refine kW ?_|refine kU fun bk=>?_|refine kV fun hc=>?_|refine kZ (fun hc=>?_) fun hc=>?_|fail) <;> try exact absurd trivial hc)
      exact WQ_round (X := Nat × Nat × Nat × Nat × List UInt8 × Nat × Value × Chunk) (μ := fun x => 3 - x.1) (x := (1, pqQ b at_, pkK (b.drop at_), pkS (b.drop at_), [], 0, .slice none 0 0, [])) (2, (pB b at_).2.2.1, pkK (b.drop at_), pkS (b.drop at_), (pB b at_).1, (pB b at_).2.1, .slice none 0 0, []) (show 3 - 2 < 3 - 1 from by decide) (.inr (.inr (.inl ⟨e1, h0, rfl⟩))) iS (fun w h => h)
    · have hE : pE b at_ = (pB b at_).2.2.2 := by unfold pE; rw [if_neg (fun q => q e1), if_pos h0]
      ((repeat' first|refine kW ?_|refine kU fun bk=>?_|refine kV fun hc=>?_|refine kZ (fun hc=>?_) fun hc=>?_|fail) <;> try exact absurd trivial hc)
      (first
        | (refine WQ_retC (vs := [.agg (rwZ).toArray, .int .i64 ((pB b at_).2.2.2 : Int)]) rfl (.agg ⟨by kernel_rfl, by kernel_rfl⟩ rfl (RdAt.cl' (vs := rwZ) (by repeat (first | assumption | exact Fnd.here | refine Fnd.there ?_)) rfl) rfl (.tmp rfl .nil)) ?_)
        | (refine WQ_endC (vs := [.agg (rwZ).toArray, .int .i64 ((pB b at_).2.2.2 : Int)]) rfl (.agg ⟨by kernel_rfl, by kernel_rfl⟩ rfl (RdAt.cl' (vs := rwZ) (by repeat (first | assumption | exact Fnd.here | refine Fnd.there ?_)) rfl) rfl (.tmp rfl .nil)) ?_))
      exact ⟨rC p vb at' :: L, fun w h => iH h, .inl ⟨by omega, by rw [hE]; rfl, at', rfl⟩⟩
  · simp only
    have hP : (pB b at_).2.2.1 ≤ b.length := (pcB_le b at_ (pqQ b at_) (pkK (b.drop at_)) (pqQ_le b at_ ha)).1
    have hs := (pkE_pos e1).2.2.1
    have hc := pdata_n p q (pB b at_).2.2.1 (pkK (b.drop at_)) at_ (pkS (b.drop at_)) (pB b at_).2.1 0#32 (.slice none 0 0) vb (pB b at_).1 b ([] :: [(r0, cl rwZ 98)] :: [(b1, cl (fnP p) 125)] :: L) h.there.there.there hl hP rfl hs hor.there.there.there
    change Gv _ _ _ _ (fun r L' => ∃ at' vd' C', r = .int .i64 (dtE (pZ b at_) (pkS (b.drop at_)) : Int) ∧ (dtE (pZ b at_) (pkS (b.drop at_)) = 0 → at' = pP b at_ ∧ Ow 5 1 vd' (pO b at_).length (bsv (pO b at_)) C') ∧ vd'.oneCell' = true ∧ _) at hc
    rw [← dt_pE b at_ e1 e2] at hc
    unfold rC rwC rwZ at hc ⊢
    ((repeat' first|refine kW ?_|refine kU fun bk=>?_|refine kV fun hc=>?_|refine kZ (fun hc=>?_) fun hc=>?_|fail) <;> try exact absurd trivial hc)
    refine OW_EV (EV_indexAddr (j := 2) rfl rfl rfl (by omega)) rfl ?_
    ((repeat' first|refine kW ?_|refine kU fun bk=>?_|refine kV fun hc=>?_|refine kZ (fun hc=>?_) fun hc=>?_|fail) <;> try exact absurd trivial hc)
    haveI : BD Tryz.prog 62 := ⟨by kernel_rfl⟩
    refine OW_call rfl rfl rfl hc rfl (fun r L' hp => ?_)
    obtain ⟨at', vd, C, rfl, g1, hv1, rfl⟩ := hp
    by_cases h0 : pE b at_ = 0
    · obtain ⟨rfl, ho⟩ := g1 h0
      rw [h0]
      ((repeat' first|refine kW ?_|refine kU fun bk=>?_|refine kV fun hc=>?_|refine kZ (fun hc=>?_) fun hc=>?_|fail) <;> try exact absurd trivial hc)
      exact WQ_round (X := Nat × Nat × Nat × Nat × List UInt8 × Nat × Value × Chunk) (μ := fun x => 3 - x.1) (x := (2, (pB b at_).2.2.1, pkK (b.drop at_), pkS (b.drop at_), (pB b at_).1, (pB b at_).2.1, .slice none 0 0, [])) (3, pP b at_, pkK (b.drop at_), pkS (b.drop at_), (pB b at_).1, (pB b at_).2.1, vd, C) (show 3 - 3 < 3 - 2 from by decide) (.inr (.inr (.inr ⟨h0, vd, C, rfl, hv1, ho⟩))) iS (fun w h => (iC : Inc (rC p vb (pP b at_) :: rwC q (pkK (b.drop at_)) at_ (pkS (b.drop at_)) 0#32 vd (pB b at_).1 (pB b at_).2.1 :: C :: [(r0, cl rwZ 98)] :: [(b1, cl (fnP p) 125)] :: L) _).holds h)
    · ((repeat' first|refine kW ?_|refine kU fun bk=>?_|refine kV fun hc=>?_|refine kZ (fun hc=>?_) fun hc=>?_|fail) <;> try exact absurd trivial hc)
      (first
        | (refine WQ_retC (vs := [.agg (rwZ).toArray, .int .i64 (pE b at_ : Int)]) rfl (.agg ⟨by kernel_rfl, by kernel_rfl⟩ rfl (RdAt.cl' (vs := rwZ) (by repeat (first | assumption | exact Fnd.here | refine Fnd.there ?_)) rfl) rfl (.tmp rfl .nil)) ?_)
        | (refine WQ_endC (vs := [.agg (rwZ).toArray, .int .i64 (pE b at_ : Int)]) rfl (.agg ⟨by kernel_rfl, by kernel_rfl⟩ rfl (RdAt.cl' (vs := rwZ) (by repeat (first | assumption | exact Fnd.here | refine Fnd.there ?_)) rfl) rfl (.tmp rfl .nil)) ?_))
      exact ⟨rC p vb at' :: L, fun w h => iH h, .inl ⟨by omega, rfl, at', rfl⟩⟩
  · simp only
    have hfit := pE_fit b at_ ha e3
    obtain ⟨da, dc, rfl⟩ := ow_slc ho
    obtain ⟨r1, q1, e1⟩ := rs_cut (P := Tryz.prog) (T := 23) h (l := at_) (h := pP b at_) (by omega) (by omega)
    obtain ⟨xs, hxs⟩ : ∃ xs, xs = (b.drop at_).take (pP b at_ - at_) := ⟨_, rfl⟩
    have hxl : xs.length ≤ 10000000 := by rw [hxs, List.length_take, List.length_drop]; omega
    rw [← hxs] at q1
    obtain ⟨ba, bc, rfl⟩ := rs_val h
    unfold rC rwC rwZ
    ((repeat' first|refine kW ?_|refine kU fun bk=>?_|refine kV fun hc=>?_|refine kZ (fun hc=>?_) fun hc=>?_|fail) <;> try exact absurd trivial hc)
    refine WC_drawAll [13] mixed ?_
    (refine WR_t 0 ?_; refine WR_t 1 ?_; refine WR_t 2 ?_; refine WR_t 3 ?_; refine WR_t 4 ?_; refine WR_t 5 ?_; refine WR_t 6 ?_; refine WR_t 7 ?_; refine WR_t 8 ?_; refine WR_t 9 ?_)
    (refine WR_take 10 rfl rfl (by kernel_rfl) iP iC (e1 rfl rfl rfl) (by rfl) ?_)
    (refine WR_one 11 (by kernel_rfl) rfl rfl ?_)
    refine OW_callP rfl rfl rfl (crc_n xs r1 _ (by omega) ⟨sl_there (sl_there (sl_there (sl_there (sl_there q1.sl)))), q1.room⟩ htb.there.there.there.there.there) rfl ?_
    refine ⟨iC, ?_⟩
    (refine WR_t 12 ?_)
    (refine WR_last 13 (by kernel_rfl) rfl rfl rfl ?_)
    refine OW_storeTo [.int .i64 (pkK (b.drop at_) : Int), .int .i64 (at_ : Int), .int .i64 (pkS (b.drop at_) : Int), w32 (~~~ (crcN (~~~ 0#32) xs)), .slice da (pO b at_).length dc, .string (str (pB b at_).1), .int .i64 ((pB b at_).2.1 : Int)] rfl rfl rfl rfl iU (by simp) ?_
    (refine WR_done (by kernel_rfl) ?_)
    have hR : rwR (pR b at_, .slice da (pO b at_).length dc) = [.int .i64 (pkK (b.drop at_) : Int), .int .i64 (at_ : Int), .int .i64 (pkS (b.drop at_) : Int), w32 (~~~ (crcN (~~~ 0#32) xs)), .slice da (pO b at_).length dc, .string (str (pB b at_).1), .int .i64 ((pB b at_).2.1 : Int)] := by rw [hxs]; rfl
    ((repeat' first|refine kW ?_|refine kU fun bk=>?_|refine kV fun hc=>?_|refine kZ (fun hc=>?_) fun hc=>?_|fail) <;> try exact absurd trivial hc)
    (first
      | (refine WQ_retC (vs := [.agg ([.int .i64 (pkK (b.drop at_) : Int), .int .i64 (at_ : Int), .int .i64 (pkS (b.drop at_) : Int), w32 (~~~ (crcN (~~~ 0#32) xs)), .slice da (pO b at_).length dc, .string (str (pB b at_).1), .int .i64 ((pB b at_).2.1 : Int)]).toArray, .int .i64 0]) rfl (.agg ⟨by kernel_rfl, by kernel_rfl⟩ rfl (RdAt.cl' (vs := [.int .i64 (pkK (b.drop at_) : Int), .int .i64 (at_ : Int), .int .i64 (pkS (b.drop at_) : Int), w32 (~~~ (crcN (~~~ 0#32) xs)), .slice da (pO b at_).length dc, .string (str (pB b at_).1), .int .i64 ((pB b at_).2.1 : Int)]) (by repeat (first | assumption | exact Fnd.here | refine Fnd.there ?_)) rfl) rfl (.tmp rfl .nil)) ?_)
      | (refine WQ_endC (vs := [.agg ([.int .i64 (pkK (b.drop at_) : Int), .int .i64 (at_ : Int), .int .i64 (pkS (b.drop at_) : Int), w32 (~~~ (crcN (~~~ 0#32) xs)), .slice da (pO b at_).length dc, .string (str (pB b at_).1), .int .i64 ((pB b at_).2.1 : Int)]).toArray, .int .i64 0]) rfl (.agg ⟨by kernel_rfl, by kernel_rfl⟩ rfl (RdAt.cl' (vs := [.int .i64 (pkK (b.drop at_) : Int), .int .i64 (at_ : Int), .int .i64 (pkS (b.drop at_) : Int), w32 (~~~ (crcN (~~~ 0#32) xs)), .slice da (pO b at_).length dc, .string (str (pB b at_).1), .int .i64 ((pB b at_).2.1 : Int)]) (by repeat (first | assumption | exact Fnd.here | refine Fnd.there ?_)) rfl) rfl (.tmp rfl .nil)) ?_))
    exact ⟨rC p (.slice ba b.length bc) (pP b at_) :: C :: L, fun w h => iH h, .inr ⟨e3, .slice da (pO b at_).length dc, C, by rw [hR]; rfl, ho, rfl⟩⟩
end Go.Proofs.YtfbeigbkdkiliaaGreatDoor
namespace Go.Proofs.YtfbeigbkdkiliaaGreatDoor
open Go Go.Vx Go.Dl Go.Pk Go.If
variable [W0]
set_option maxRecDepth 4000
set_option linter.all false
def stE (b : List UInt8) : Nat := if pgE pg8 b ≠ 0 then pgE pg8 b else if b.length < 12 then 4 else if 4096 < pN b then 5 else 0
set_option maxHeartbeats 16000000 in
theorem pstart_n (p : Nat) (vb : Value) (b : List UInt8) (L : List Chunk) (h : Rs L 1 vb b.length (bsv b)) (hl : b.length ≤ 10000000) :
    Gv Tryz.prog 38 [.pointer (some ⟨p, 0, none⟩)].toArray (rC p vb 0 :: L) (fun r L' =>
      (stE b ≠ 0 ∧ r = .tuple #[.int .i64 0, .int .i64 (stE b : Int)] ∧ ∃ at', L' = rC p vb at' :: L) ∨
      (stE b = 0 ∧ 12 ≤ b.length ∧ pN b ≤ 4096 ∧ r = .tuple #[.int .i64 (pN b : Int), .int .i64 0] ∧ L' = rC p vb 12 :: L)) := by
  refine Gv.of_body (args := [.pointer (some ⟨p, 0, none⟩)]) Tryz.func38 rfl rfl ?_
  have hT := fun (n at_ : Nat) (hn : n ≤ 100) (ha : at_ ≤ b.length) => ktake_n p n at_ vb b L h (by omega) ha (by omega)
  (repeat' first|refine kW ?_|refine kU fun bk=>?_|refine kV fun hc=>?_|refine kZ (fun hc=>?_) fun hc=>?_|fail)
  refine WC_loop (X := Nat) (fun i => [(0, .pointer (some ⟨p, 0, none⟩)), (10, .int .i64 (i : Int))]) (fun i => rC p vb i :: L)
    (fun i => i ≤ 8 ∧ i ≤ b.length ∧ pgE pg8 b = pgE (pg8.drop i) (b.drop i)) (fun i => 8 - i) 0 ⟨by omega, by omega, rfl⟩ iS (fun w h => h) ?_
  intro i ⟨h1, h2, h3⟩
  have hl8 : pg8.length = 8 := rfl
  by_cases hi8 : i < 8
  · ((repeat' first|refine kW ?_|refine kU fun bk=>?_|refine kV fun hc=>?_|refine kZ (fun hc=>?_) fun hc=>?_|fail) <;> try exact absurd trivial hc)
    refine OW_call rfl rfl rfl (hT 1 i (by decide) h2) rfl (fun r L' hp => ?_)
    rcases hp with ⟨g, rfl, rfl⟩ | ⟨g, v, rfl, qv, rfl⟩
    · have hp : pgE pg8 b = 4 := by
        have hd : b.drop i = [] := List.drop_of_length_le (by omega)
        rw [h3, hd]
        have : i = 0 ∨ i = 1 ∨ i = 2 ∨ i = 3 ∨ i = 4 ∨ i = 5 ∨ i = 6 ∨ i = 7 := by omega
        rcases this with rfl | rfl | rfl | rfl | rfl | rfl | rfl | rfl <;> rfl
      have e : stE b = 4 := by unfold stE; rw [hp]; rfl
      rw [e]
      ((repeat' first|refine kW ?_|refine kU fun bk=>?_|refine kV fun hc=>?_|refine kZ (fun hc=>?_) fun hc=>?_|fail) <;> try exact absurd trivial hc)
      refine kR ?_
      exact ⟨_, iC, .inl ⟨by decide, rfl, i, rfl⟩⟩
    have hlt : i < b.length := by omega
    have hxs : (b.drop i).take 1 = [b[i]] := by rw [List.drop_eq_getElem_cons hlt]; rfl
    rw [hxs] at qv
    obtain ⟨va, vc, rfl⟩ := rs_val qv
    obtain ⟨bb, off, cap, cc, T, fr, hve, hfn, hcell⟩ := sl_at qv.sl (bsv_get (d := [b[i]]) (i := 0) (by simp))
    injection hve with r1 r2 r3
    subst r1 r3
    clear r2
    have hgd : pg8.getD i 0 = pg8[i]'(by omega) := by rw [List.getD_eq_getElem?_getD, List.getElem?_eq_getElem (by omega)]; rfl
    ((repeat' first|refine kW ?_|refine kU fun bk=>?_|refine kV fun hc=>?_|refine kZ (fun hc=>?_) fun hc=>?_|fail) <;> try exact absurd trivial hc)
    refine WC_drawAll [] mixed ?_
    (refine WR_t 0 ?_)
    (refine WR_take 1 rfl rfl (by kernel_rfl) iP iC (EV_indexAddr (j := 0) rfl rfl rfl (by omega)) (by rfl) ?_)
    (refine WR_take 2 rfl rfl (by kernel_rfl) iP iC (EV_load rfl hfn.there hcell) (by rfl) ?_)
    (refine WR_t 3 ?_)
    (refine WR_take 4 rfl rfl (by kernel_rfl) iP iC (EV_indexStr (s := str pg8) (j := i) (u := pg8.getD i 0) rfl rfl rfl (str_get (by omega))) (by rfl) ?_)
    (refine WR_t 5 ?_)
    (refine WR_done (by kernel_rfl) ?_)
    by_cases q : b[i] = pg8[i]'(by omega)
    · have q2 : (([b[i]] : List UInt8)[0].toNat : Int) = ((pg8.getD i 0).toNat : Int) := by rw [hgd, ← q]; rfl
      ((repeat' first|refine kW ?_|refine kU fun bk=>?_|refine kV fun hc=>?_|refine kZ (fun hc=>?_) fun hc=>?_|fail) <;> try exact absurd trivial hc)
      refine WQ_round (X := Nat) (μ := fun i => 8 - i) (x := i) (i + 1) (by omega) ⟨by omega, by omega, ?_⟩ iS (fun w h => h)
      rw [h3, List.drop_eq_getElem_cons (show i < pg8.length by omega), List.drop_eq_getElem_cons hlt]
      exact if_pos q
    · have q2 : ¬ (([b[i]] : List UInt8)[0].toNat : Int) = ((pg8.getD i 0).toNat : Int) := fun h => q (UInt8.toNat_inj.mp (by rw [← hgd]; exact Int.ofNat.inj h))
      have hp : pgE pg8 b = 3 := by
        rw [h3, List.drop_eq_getElem_cons (show i < pg8.length by omega), List.drop_eq_getElem_cons hlt]
        exact if_neg q
      have e : stE b = 3 := by unfold stE; rw [hp]; rfl
      rw [e]
      ((repeat' first|refine kW ?_|refine kU fun bk=>?_|refine kV fun hc=>?_|refine kZ (fun hc=>?_) fun hc=>?_|fail) <;> try exact absurd trivial hc)
      refine kR ?_
      exact ⟨_, iC, .inl ⟨by decide, rfl, i + 1, rfl⟩⟩
  obtain rfl : i = 8 := by omega
  have hp : pgE pg8 b = 0 := h3
  have hE : stE b = if b.length < 12 then 4 else if 4096 < pN b then 5 else 0 := by unfold stE; rw [hp, if_neg (fun h => h rfl)]
  ((repeat' first|refine kW ?_|refine kU fun bk=>?_|refine kV fun hc=>?_|refine kZ (fun hc=>?_) fun hc=>?_|fail) <;> try exact absurd trivial hc)
  refine OW_call rfl rfl rfl (hT 4 8 (by decide) h2) rfl (fun r L' hp2 => ?_)
  rcases hp2 with ⟨g, rfl, rfl⟩ | ⟨g, v, rfl, qv, rfl⟩
  · rw [if_pos (by omega)] at hE
    rw [hE]
    ((repeat' first|refine kW ?_|refine kU fun bk=>?_|refine kV fun hc=>?_|refine kZ (fun hc=>?_) fun hc=>?_|fail) <;> try exact absurd trivial hc)
    refine kR ?_
    exact ⟨_, iC, .inl ⟨by decide, rfl, 8, rfl⟩⟩
  rw [if_neg (by omega)] at hE
  obtain ⟨t, ht⟩ : ∃ t, t = (b.drop 8).take 4 := ⟨_, rfl⟩
  have hN : pN b = wdN (t.getD 0 0).toNat (t.getD 1 0).toNat (t.getD 2 0).toNat (t.getD 3 0).toNat := by
    have e : ∀ k, k < 4 → t.getD k 0 = b.getD (8 + k) 0 := fun k hk => by
      rw [ht, List.getD_eq_getElem?_getD, List.getD_eq_getElem?_getD, List.getElem?_take, if_pos hk, List.getElem?_drop]
    rw [e 0 (by decide), e 1 (by decide), e 2 (by decide), e 3 (by decide)]; rfl
  rw [← ht] at qv
  rw [hN] at hE ⊢
  obtain ⟨va, vc, rfl⟩ := rs_val qv
  obtain ⟨bb, off, cap, cc, T, fr, hve, hfn, hcs⟩ := sl_bytes qv.sl (by omega)
  injection hve with r1 r2 r3
  subst r1 r3
  clear r2
  have hc0 := hcs 0 (by omega)
  have hc1 := hcs 1 (by omega)
  have hc2 := hcs 2 (by omega)
  have hc3 := hcs 3 (by omega)
  have h0 := (t.getD 0 0).toNat_lt
  have h1 := (t.getD 1 0).toNat_lt
  have h2 := (t.getD 2 0).toNat_lt
  have h3 := (t.getD 3 0).toNat_lt
  clear hcs
  generalize (t.getD 0 0).toNat = b0 at *
  generalize (t.getD 1 0).toNat = b1 at *
  generalize (t.getD 2 0).toNat = b2 at *
  generalize (t.getD 3 0).toNat = b3 at *
  unfold rC
  ((repeat' first|refine kW ?_|refine kU fun bk=>?_|refine kV fun hc=>?_|refine kZ (fun hc=>?_) fun hc=>?_|fail) <;> try exact absurd trivial hc)
  refine WC_drawAll [] mixed ?_
  (refine WR_t 0 ?_)
  (refine WR_take 1 rfl rfl (by kernel_rfl) iP iC (EV_indexAddr (j := 0) rfl rfl rfl (by omega)) (by rfl) ?_)
  (refine WR_take 2 rfl rfl (by kernel_rfl) iP iC (EV_load rfl hfn.there hc0) (by rfl) ?_)
  (refine WR_take 3 rfl rfl (by kernel_rfl) iP iC (EV_nconv b0 rfl rfl rfl (by simp only [IntKind.bits]; omega)) (by rfl) ?_)
  (refine WR_take 4 rfl rfl (by kernel_rfl) iP iC (EV_nshl b0 24 rfl rfl rfl rfl rfl (by simp only [IntKind.bits]; omega)) (by rfl) ?_)
  (refine WR_t 5 ?_)
  (refine WR_take 6 rfl rfl (by kernel_rfl) iP iC (EV_indexAddr (j := 1) rfl rfl rfl (by omega)) (by rfl) ?_)
  (refine WR_take 7 rfl rfl (by kernel_rfl) iP iC (EV_load rfl hfn.there hc1) (by rfl) ?_)
  (refine WR_take 8 rfl rfl (by kernel_rfl) iP iC (EV_nconv b1 rfl rfl rfl (by simp only [IntKind.bits]; omega)) (by rfl) ?_)
  (refine WR_take 9 rfl rfl (by kernel_rfl) iP iC (EV_nshl b1 16 rfl rfl rfl rfl rfl (by simp only [IntKind.bits]; omega)) (by rfl) ?_)
  (refine WR_take 10 rfl rfl (by kernel_rfl) iP iC (EV_nor' (k := .u32) (b1 * 2 ^ 16) b0 24 rfl rfl rfl rfl rfl (by omega) (by simp only [IntKind.bits]; omega)) (by rfl) ?_)
  rw [show b1 * 2 ^ 16 + b0 * 2 ^ 24 = (b1 + b0 * 256) * 2 ^ 16 from by omega]
  (refine WR_t 11 ?_)
  (refine WR_take 12 rfl rfl (by kernel_rfl) iP iC (EV_indexAddr (j := 2) rfl rfl rfl (by omega)) (by rfl) ?_)
  (refine WR_take 13 rfl rfl (by kernel_rfl) iP iC (EV_load rfl hfn.there hc2) (by rfl) ?_)
  (refine WR_take 14 rfl rfl (by kernel_rfl) iP iC (EV_nconv b2 rfl rfl rfl (by simp only [IntKind.bits]; omega)) (by rfl) ?_)
  (refine WR_take 15 rfl rfl (by kernel_rfl) iP iC (EV_nshl b2 8 rfl rfl rfl rfl rfl (by simp only [IntKind.bits]; omega)) (by rfl) ?_)
  (refine WR_take 16 rfl rfl (by kernel_rfl) iP iC (EV_nor' (k := .u32) (b2 * 2 ^ 8) (b1 + b0 * 256) 16 rfl rfl rfl rfl rfl (by omega) (by simp only [IntKind.bits]; omega)) (by rfl) ?_)
  rw [show b2 * 2 ^ 8 + (b1 + b0 * 256) * 2 ^ 16 = (b2 + (b1 + b0 * 256) * 256) * 2 ^ 8 from by omega]
  (refine WR_t 17 ?_)
  (refine WR_take 18 rfl rfl (by kernel_rfl) iP iC (EV_indexAddr (j := 3) rfl rfl rfl (by omega)) (by rfl) ?_)
  (refine WR_take 19 rfl rfl (by kernel_rfl) iP iC (EV_load rfl hfn.there hc3) (by rfl) ?_)
  (refine WR_take 20 rfl rfl (by kernel_rfl) iP iC (EV_nconv b3 rfl rfl rfl (by simp only [IntKind.bits]; omega)) (by rfl) ?_)
  (refine WR_take 21 rfl rfl (by kernel_rfl) iP iC (EV_nor' (k := .u32) b3 (b2 + (b1 + b0 * 256) * 256) 8 rfl rfl rfl rfl rfl (by omega) (by simp only [IntKind.bits]; omega)) (by rfl) ?_)
  rw [show b3 + (b2 + (b1 + b0 * 256) * 256) * 2 ^ 8 = wdN b0 b1 b2 b3 from by unfold wdN; omega]
  (refine WR_t 22 ?_)
  (refine WR_done (by kernel_rfl) ?_)
  obtain ⟨W, hW⟩ : ∃ W, W = wdN b0 b1 b2 b3 := ⟨_, rfl⟩
  rw [← hW] at hE hN ⊢
  by_cases h6 : 4096 < W
  · rw [if_pos h6] at hE
    rw [hE]
    ((repeat' first|refine kW ?_|refine kU fun bk=>?_|refine kV fun hc=>?_|refine kZ (fun hc=>?_) fun hc=>?_|fail) <;> try exact absurd trivial hc)
    refine kR ?_
    exact ⟨_, iC, .inl ⟨by decide, rfl, 12, rfl⟩⟩
  rw [if_neg h6] at hE
  rw [hE]
  ((repeat' first|refine kW ?_|refine kU fun bk=>?_|refine kV fun hc=>?_|refine kZ (fun hc=>?_) fun hc=>?_|fail) <;> try exact absurd trivial hc)
  refine kR ?_
  exact ⟨_, iC, .inr ⟨rfl, by omega, by omega, rfl, rfl⟩⟩
end Go.Proofs.YtfbeigbkdkiliaaGreatDoor
namespace Go.Proofs.YtfbeigbkdkiliaaGreatDoor
open Go Go.Vx Go.Dl Go.Pk Go.If
variable [W0]
set_option maxRecDepth 4000
set_option linter.all false
set_option maxHeartbeats 4000000 in
theorem sequal_n (va vb : Value) (a b : List UInt8) (L : List Chunk) (ha : Sl L 1 va a.length (bsv a)) (hb : Sl L 1 vb b.length (bsv b)) (hal : a.length ≤ 140737488355328) :
    GvP Tryz.prog 41 [va, vb].toArray L (.bool (decide (a = b))) := by
  refine Gv.of_body (args := [va, vb]) Tryz.func41 rfl rfl ?_
  obtain ⟨aa, ac, rfl⟩ := sl_slice ha
  obtain ⟨ba, bc, rfl⟩ := sl_slice hb
  by_cases hlen : a.length ≠ b.length
  · rw [decide_eq_false (fun q => hlen (by rw [q]))]
    ((repeat' first|refine kW ?_|refine kU fun bk=>?_|refine kV fun hc=>?_|refine kZ (fun hc=>?_) fun hc=>?_|fail) <;> try exact absurd trivial hc)
    exact kE
  have hlen : a.length = b.length := by omega
  ((repeat' first|refine kW ?_|refine kU fun bk=>?_|refine kV fun hc=>?_|refine kZ (fun hc=>?_) fun hc=>?_|fail) <;> try exact absurd trivial hc)
  refine WC_loop (X := Nat) (fun i => [(0, .slice aa a.length ac), (1, .slice ba b.length bc), (12, .int .i64 (a.length : Int)), (13, .int .i64 (i : Int))]) (fun _ => L)
    (fun i => i ≤ a.length ∧ a.take i = b.take i) (fun i => a.length - i) 0 ⟨Nat.zero_le _, rfl⟩ iS (fun w h => h) ?_
  intro i ⟨h1, h2⟩
  by_cases hlt : i < a.length
  · ((repeat' first|refine kW ?_|refine kU fun bk=>?_|refine kV fun hc=>?_|refine kZ (fun hc=>?_) fun hc=>?_|fail) <;> try exact absurd trivial hc)
    obtain ⟨b1, o1, c1, cc1, T1, f1, e1, hf1, hc1⟩ := sl_at ha (bsv_get hlt)
    obtain ⟨b2, o2, c2, cc2, T2, f2, e2, hf2, hc2⟩ := sl_at hb (bsv_get (d := b) (i := i) (by omega))
    injection e1 with r1 r2 r3
    subst r1 r3
    clear r2
    injection e2 with r1 r2 r3
    subst r1 r3
    clear r2
    refine WC_drawAll [] mixed ?_
    (refine WR_t 0 ?_; refine WR_t 1 ?_)
    (refine WR_take 2 rfl rfl (by kernel_rfl) iP iC (EV_indexAddr (j := i) rfl rfl rfl hlt) (by rfl) ?_)
    (refine WR_take 3 rfl rfl (by kernel_rfl) iP iC (EV_load rfl hf1 hc1) (by rfl) ?_)
    (refine WR_t 4 ?_; refine WR_t 5 ?_)
    (refine WR_take 6 rfl rfl (by kernel_rfl) iP iC (EV_indexAddr (j := i) rfl rfl rfl (by omega)) (by rfl) ?_)
    (refine WR_take 7 rfl rfl (by kernel_rfl) iP iC (EV_load rfl hf2 hc2) (by rfl) ?_)
    (refine WR_t 8 ?_)
    (refine WR_done (by kernel_rfl) ?_)
    by_cases q : a[i] = b[i]
    · have q2 : ((a[i]).toNat : Int) = ((b[i]).toNat : Int) := by rw [q]
      ((repeat' first|refine kW ?_|refine kU fun bk=>?_|refine kV fun hc=>?_|refine kZ (fun hc=>?_) fun hc=>?_|fail) <;> try exact absurd trivial hc)
      refine WQ_round (X := Nat) (μ := fun i => a.length - i) (x := i) (i + 1) (by omega) ⟨by omega, ?_⟩ iS (fun w h => h)
      rw [List.take_add_one, List.take_add_one, h2, List.getElem?_eq_getElem hlt, List.getElem?_eq_getElem (by omega), q]
    · have q2 : ¬ ((a[i]).toNat : Int) = ((b[i]).toNat : Int) := fun h => q (UInt8.toNat_inj.mp (Int.ofNat.inj h))
      rw [decide_eq_false (fun h => q (by simp [h]))]
      ((repeat' first|refine kW ?_|refine kU fun bk=>?_|refine kV fun hc=>?_|refine kZ (fun hc=>?_) fun hc=>?_|fail) <;> try exact absurd trivial hc)
      exact kE
  · obtain rfl : i = a.length := by omega
    have hab : a = b := by rw [List.take_length] at h2; rw [h2, hlen, List.take_length]
    rw [decide_eq_true hab]
    ((repeat' first|refine kW ?_|refine kU fun bk=>?_|refine kV fun hc=>?_|refine kZ (fun hc=>?_) fun hc=>?_|fail) <;> try exact absurd trivial hc)
    exact kE
def ndE (b : List UInt8) (at_ : Nat) : Nat := if b.length - at_ < 20 then 4 else if (b.drop at_).take 20 ≠ shaN (b.take at_) then 6 else if at_ + 20 < b.length then 3 else 0
set_option maxHeartbeats 8000000 in
theorem pend_n (p at_ : Nat) (vb : Value) (b : List UInt8) (L : List Chunk) (h : Rs L 1 vb b.length (bsv b)) (hl : b.length ≤ 10000000) (ha : at_ ≤ b.length) :
    Gv Tryz.prog 19 [.pointer (some ⟨p, 0, none⟩)].toArray (rC p vb at_ :: L) (fun r L' =>
      ((ndE b at_ ≠ 0 ∧ r = .tuple #[.string .empty, .int .i64 (ndE b at_ : Int)]) ∨ (ndE b at_ = 0 ∧ r = .tuple #[.string (str (hexL ((b.drop at_).take 20))), .int .i64 0])) ∧ ∃ at', L' = rC p vb at' :: L) := by
  refine Gv.of_body (args := [.pointer (some ⟨p, 0, none⟩)]) Tryz.func19 rfl rfl ?_
  have hT := fun (C : Chunk) => ktake_n p 20 at_ vb b (C :: L) h.there (by omega) ha (by decide)
  obtain ⟨ba, bc, rfl⟩ := rs_val h
  obtain ⟨r1, q1, e1⟩ := rs_cut (P := Tryz.prog) (T := 23) h (l := 0) (h := at_) (Nat.zero_le _) ha
  rw [List.drop_zero, Nat.sub_zero] at q1
  have hcl : (b.take at_).length ≤ 10000000 := by rw [List.length_take]; omega
  unfold rC
  (repeat' first|refine kW ?_|refine kU fun bk=>?_|refine kV fun hc=>?_|refine kZ (fun hc=>?_) fun hc=>?_|fail)
  refine WC_drawAll [] mixed ?_
  (refine WR_t 0 ?_; refine WR_t 1 ?_; refine WR_t 2 ?_; refine WR_t 3 ?_; refine WR_t 4 ?_; refine WR_t 5 ?_; refine WR_t 6 ?_; refine WR_t 7 ?_)
  (refine WR_take 8 rfl rfl (by kernel_rfl) iP iC (e1 rfl rfl rfl) (by rfl) ?_)
  (refine WR_one 9 (by kernel_rfl) rfl rfl ?_)
  refine OW_call rfl rfl rfl (sha1_n (b.take at_) r1 _ (by omega) ⟨sl_there q1.sl, q1.room⟩) rfl (fun r L' hp => ?_)
  obtain ⟨C, rfl, o5⟩ := hp
  refine ⟨iC, ?_⟩
  (refine WR_t 10 ?_)
  (refine WR_done (by kernel_rfl) ?_)
  (repeat' first|refine kW ?_|refine kU fun bk=>?_|refine kV fun hc=>?_|refine kZ (fun hc=>?_) fun hc=>?_|fail)
  refine OW_holds (L' := rC p (.slice ba b.length bc) at_ :: C :: L) (fun w h => iH h) ?_
  refine OW_call rfl rfl rfl (hT C) rfl (fun r L' hp => ?_)
  rcases hp with ⟨g, rfl, rfl⟩ | ⟨g, v, rfl, qv, rfl⟩
  · have hE : ndE b at_ = 4 := by unfold ndE; rw [if_pos g]
    rw [hE]
    ((repeat' first|refine kW ?_|refine kU fun bk=>?_|refine kV fun hc=>?_|refine kZ (fun hc=>?_) fun hc=>?_|fail) <;> try exact absurd trivial hc)
    refine kR ?_
    exact ⟨rC p (.slice ba b.length bc) at_ :: L, iC, .inl ⟨by decide, rfl⟩, at_, rfl⟩
  have hE : ndE b at_ = if (b.drop at_).take 20 ≠ shaN (b.take at_) then 6 else if at_ + 20 < b.length then 3 else 0 := by unfold ndE; rw [if_neg (by omega)]
  have hc20 : ((b.drop at_).take 20).length = 20 := by rw [List.length_take, List.length_drop]; omega
  replace qv : Rs (C :: L) 1 v ((b.drop at_).take 20).length (bsv ((b.drop at_).take 20)) := by rw [hc20]; exact qv
  obtain ⟨xs, hxs⟩ : ∃ xs, xs = (b.drop at_).take 20 := ⟨_, rfl⟩
  rw [← hxs] at qv hE hc20 ⊢
  (repeat' first|refine kW ?_|refine kU fun bk=>?_|refine kV fun hc=>?_|refine kZ (fun hc=>?_) fun hc=>?_|fail)
  refine OW_callP rfl rfl rfl (sequal_n v _ xs (shaN (b.take at_)) _ (sl_there qv.sl) (by rw [shaN_length]; exact sl_there (ow_sl o5)) (by omega)) rfl ?_
  by_cases hq : xs = shaN (b.take at_)
  · rw [if_neg (fun h => h hq)] at hE
    rw [decide_eq_true hq]
    unfold rC
    ((repeat' first|refine kW ?_|refine kU fun bk=>?_|refine kV fun hc=>?_|refine kZ (fun hc=>?_) fun hc=>?_|fail) <;> try exact absurd trivial hc)
    refine WC_drawAll [] mixed ?_
    (refine WR_t 0 ?_; refine WR_t 1 ?_; refine WR_t 2 ?_; refine WR_t 3 ?_; refine WR_t 4 ?_; refine WR_t 5 ?_; refine WR_t 6 ?_; refine WR_t 7 ?_; refine WR_t 8 ?_; refine WR_t 9 ?_)
    (refine WR_done (by kernel_rfl) ?_)
    by_cases h9 : at_ + 20 < b.length
    · rw [if_pos h9] at hE
      rw [hE]
      ((repeat' first|refine kW ?_|refine kU fun bk=>?_|refine kV fun hc=>?_|refine kZ (fun hc=>?_) fun hc=>?_|fail) <;> try exact absurd trivial hc)
      refine kR ?_
      exact ⟨rC p (.slice ba b.length bc) (at_ + 20) :: L, iC, .inl ⟨by decide, rfl⟩, at_ + 20, rfl⟩
    · rw [if_neg h9] at hE
      rw [hE]
      ((repeat' first|refine kW ?_|refine kU fun bk=>?_|refine kV fun hc=>?_|refine kZ (fun hc=>?_) fun hc=>?_|fail) <;> try exact absurd trivial hc)
      refine OW_callP rfl rfl rfl (hex_n xs v _ (by omega) ⟨sl_there qv.sl, qv.room⟩) rfl ?_
      rw [show (⟨(hexL xs).toArray⟩ : ByteArray) = str (hexL xs) from rfl]
      ((repeat' first|refine kW ?_|refine kU fun bk=>?_|refine kV fun hc=>?_|refine kZ (fun hc=>?_) fun hc=>?_|fail) <;> try exact absurd trivial hc)
      refine kR ?_
      exact ⟨rC p (.slice ba b.length bc) (at_ + 20) :: L, iC, .inr ⟨rfl, rfl⟩, at_ + 20, rfl⟩
  · rw [if_pos hq] at hE
    rw [hE, decide_eq_false hq]
    ((repeat' first|refine kW ?_|refine kU fun bk=>?_|refine kV fun hc=>?_|refine kZ (fun hc=>?_) fun hc=>?_|fail) <;> try exact absurd trivial hc)
    refine kR ?_
    exact ⟨rC p (.slice ba b.length bc) (at_ + 20) :: L, iC, .inl ⟨by decide, rfl⟩, at_ + 20, rfl⟩
end Go.Proofs.YtfbeigbkdkiliaaGreatDoor
namespace Go.Proofs.YtfbeigbkdkiliaaGreatDoor
open Go Go.Vx Go.Dl Go.Pk Go.If
variable [W0]
set_option maxRecDepth 4000
set_option linter.all false
def esE (b : List UInt8) : Nat := if stE b ≠ 0 then stE b else (pX b).2.2
theorem rwv_snoc' (l : List (Rw × Value)) (r : Rw × Value) : (l ++ [r]).flatMap rwR = l.flatMap rwR ++ rwR r := by simp
theorem RwD.snoc {D C : Chunk} {l : List (Rw × Value)} {r : Rw × Value} (h : RwD [D] l) (g : Rs [C] 1 r.2 r.1.data.length (bsv r.1.data)) : RwD [C ++ D] (l ++ [r]) := fun x hx => by
  rcases List.mem_append.1 hx with h1 | h1
  · exact (h x h1).sub (fun y hy => by simp only [List.flatten_cons, List.flatten_nil, List.append_nil] at hy ⊢; exact List.mem_append_right _ hy)
  · simp only [List.mem_singleton] at h1
    subst h1
    exact g.sub (fun y hy => by simp only [List.flatten_cons, List.flatten_nil, List.append_nil] at hy ⊢; exact List.mem_append_left _ hy)
theorem holds2c {w : World} {A B : Chunk} {L : List Chunk} : Holds w ((A ++ B) :: L) ↔ Holds w (A :: B :: L) := by simp [Holds, List.append_assoc]
set_option maxHeartbeats 16000000 in
theorem pentries_n (p : Nat) (vb : Value) (b : List UInt8) (L : List Chunk) (h : Rs L 1 vb b.length (bsv b)) (hl : b.length ≤ 10000000) (hor : OrAt L) (htb : TabAt L) :
    Gv Tryz.prog 18 [.pointer (some ⟨p, 0, none⟩)].toArray (rC p vb 0 :: L) (fun r L' =>
      (esE b ≠ 0 ∧ r = .tuple #[.slice none 0 0, .int .i64 (esE b : Int)] ∧ ∃ at', L' = rC p vb at' :: L) ∨
      (esE b = 0 ∧ ∃ v l R D, r = .tuple #[v, .int .i64 0] ∧ Ow 98 7 v l.length (l.flatMap rwR) R ∧ RwD [D] l ∧ l.map (fun x => x.1) = (pX b).1 ∧ (pX b).2.1 ≤ b.length ∧ L' = rC p vb (pX b).2.1 :: R :: D :: L)) := by
  refine Gv.of_body (args := [.pointer (some ⟨p, 0, none⟩)]) Tryz.func18 rfl rfl ?_
  have hS := pstart_n p vb b L h hl
  have hEn := fun (at_ : Nat) (C1 C2 : Chunk) (ha : at_ ≤ b.length) => pentry_n p at_ vb b (C1 :: C2 :: L) h.there.there hl ha hor.there.there htb.there.there
  (repeat' first|refine kW ?_|refine kU fun bk=>?_|refine kV fun hc=>?_|refine kZ (fun hc=>?_) fun hc=>?_|fail)
  refine OW_call rfl rfl rfl hS rfl (fun r L' hp => ?_)
  rcases hp with ⟨g, rfl, at', rfl⟩ | ⟨g, h12, hN4, rfl, rfl⟩
  · have e : esE b = stE b := by unfold esE; rw [if_pos g]
    rw [e]
    ((repeat' first|refine kW ?_|refine kU fun bk=>?_|refine kV fun hc=>?_|refine kZ (fun hc=>?_) fun hc=>?_|fail) <;> try exact absurd trivial hc)
    refine kR ?_
    exact ⟨_, iC, .inl ⟨g, rfl, at', rfl⟩⟩
  have e : esE b = (pX b).2.2 := by unfold esE; rw [if_neg (fun q => q g)]
  rw [e]
  obtain ⟨N, hN⟩ : ∃ N, N = pN b := ⟨_, rfl⟩
  have hX : pX b = pL b N 12 := by rw [hN]; rfl
  rw [← hN] at hN4 ⊢
  clear g e
  ((repeat' first|refine kW ?_|refine kU fun bk=>?_|refine kV fun hc=>?_|refine kZ (fun hc=>?_) fun hc=>?_|fail) <;> try exact absurd trivial hc)
  refine WC_loop (X := Nat × Nat × List (Rw × Value) × Value × Chunk × Chunk) (fun x => [(0, .pointer (some ⟨p, 0, none⟩)), (6, x.2.2.2.1), (17, .int .i64 (N : Int)), (18, .int .i64 (x.1 : Int))])
    (fun x => rC p vb x.2.1 :: x.2.2.2.2.1 :: x.2.2.2.2.2 :: L)
    (fun x => x.1 ≤ N ∧ x.2.1 ≤ b.length ∧ x.2.2.1.length = x.1 ∧ Ow 98 7 x.2.2.2.1 x.2.2.1.length (x.2.2.1.flatMap rwR) x.2.2.2.2.1 ∧ RwD [x.2.2.2.2.2] x.2.2.1 ∧
      pX b = if (pL b (N - x.1) x.2.1).2.2 ≠ 0 then ([], 0, (pL b (N - x.1) x.2.1).2.2) else (x.2.2.1.map (fun x => x.1) ++ (pL b (N - x.1) x.2.1).1, (pL b (N - x.1) x.2.1).2.1, 0)) (fun x => N - x.1)
    (0, 12, [], .slice none 0 0, [], []) ⟨Nat.zero_le _, h12, rfl, .inl ⟨rfl, rfl, rfl, rfl⟩, (fun x hx => absurd hx (by simp)), ?_⟩ iS (fun w h => (iC : Inc (rC p vb 12 :: [] :: [] :: L) ([] :: [] :: rC p vb 12 :: L)).holds (Holds.nil.2 (Holds.nil.2 h))) ?_
  · simp only [Nat.sub_zero, List.map_nil, List.nil_append]
    rw [hX]
    by_cases q : (pL b N 12).2.2 ≠ 0
    · rw [if_pos q]; exact pL_bad b N 12 q
    · rw [if_neg q]
      have : (pL b N 12).2.2 = 0 := by omega
      conv => lhs; rw [show pL b N 12 = ((pL b N 12).1, (pL b N 12).2.1, (pL b N 12).2.2) from rfl, this]
  rintro ⟨i, at_, l, v, R, D⟩ ⟨h1, h2, h3, h4, h5, h6⟩
  simp only at h1 h2 h3 h4 h5 h6 ⊢
  obtain ⟨pa, pc, rfl⟩ := ow_slc h4
  by_cases hlt : i < N
  · ((repeat' first|refine kW ?_|refine kU fun bk=>?_|refine kV fun hc=>?_|refine kZ (fun hc=>?_) fun hc=>?_|fail) <;> try exact absurd trivial hc)
    refine OW_call rfl rfl rfl (hEn at_ R D h2) rfl (fun r L' hp => ?_)
    have hk : N - i = N - (i + 1) + 1 := by omega
    rw [hk, pL_succ] at h6
    rcases hp with ⟨g, rfl, at', rfl⟩ | ⟨g, vd, C, rfl, ho, rfl⟩
    · rw [if_pos g, if_pos g] at h6
      rw [h6]
      ((repeat' first|refine kW ?_|refine kU fun bk=>?_|refine kV fun hc=>?_|refine kZ (fun hc=>?_) fun hc=>?_|fail) <;> try exact absurd trivial hc)
      refine kR ?_
      exact ⟨rC p vb at' :: L, iC, .inl ⟨g, rfl, at', rfl⟩⟩
    obtain ⟨da, dc, rfl⟩ := ow_slc ho
    have hfit := pE_fit b at_ h2 g
    rw [if_neg (show ¬ pE b at_ ≠ 0 from fun q => q g)] at h6
    obtain ⟨rw0, hrw0⟩ : ∃ x : Rw × Value, x = (pR b at_, .slice da (pO b at_).length dc) := ⟨_, rfl⟩
    have hcs : rwR rw0 = [.int .i64 ((pR b at_).kind : Int), .int .i64 ((pR b at_).at_ : Int), .int .i64 ((pR b at_).size : Int), w32 (pR b at_).crc, .slice da (pO b at_).length dc, .string (str (pR b at_).base), .int .i64 ((pR b at_).off : Int)] := by rw [hrw0]; rfl
    have hgd : Rs [C] 1 rw0.2 rw0.1.data.length (bsv rw0.1.data) := by rw [hrw0]; exact Rs.ow (L := []) ho
    rw [← hrw0, hcs]
    ((repeat' first|refine kW ?_|refine kU fun bk=>?_|refine kV fun hc=>?_|refine kZ (fun hc=>?_) fun hc=>?_|fail) <;> try exact absurd trivial hc)
    refine OW_buildSlice (cs := rwR rw0) rfl (by rfl) (by rw [hcs]; first | rfl | (simp [fillL, patch, Value.cells, zeros]; done) | (simp [fillL, patch, Value.cells, zeros]; rfl)) (by omega) rfl rfl (fun b1 => ?_)
    ((repeat' first|refine kW ?_|refine kU fun bk=>?_|refine kV fun hc=>?_|refine kZ (fun hc=>?_) fun hc=>?_|fail) <;> try exact absurd trivial hc)
    refine OW_append rfl rfl h4 (sl_cells (k := 7) (c := (rwR rw0).toArray) (xs := rwR rw0) (m := 1) Fnd.here rfl (by rw [hcs]; rfl)) (by repeat (first | exact Zip.here _ | apply Zip.there)) rfl (by rw [hcs]; rfl) (by omega) (by unfold maxLen; omega) rfl (fun v1 R1 g2 _ _ => ?_)
    rw [← rwv_snoc'] at g2
    obtain ⟨qa, qc, rfl⟩ : ∃ a c, v1 = .slice a (l.length + 1) c := by
      rcases g2 with ⟨_, h, _, _⟩ | ⟨b, cap, rest, rfl, _⟩
      · omega
      · exact ⟨_, _, rfl⟩
    ((repeat' first|refine kW ?_|refine kU fun bk=>?_|refine kV fun hc=>?_|refine kZ (fun hc=>?_) fun hc=>?_|fail) <;> try exact absurd trivial hc)
    refine WQ_round (X := Nat × Nat × List (Rw × Value) × Value × Chunk × Chunk) (μ := fun x => N - x.1) (x := (i, at_, l, .slice pa l.length pc, R, D)) (i + 1, pP b at_, l ++ [rw0], .slice qa (l.length + 1) qc, R1, C ++ D) (by simp only; omega) ⟨by simp only; omega, hfit.2, by simp only [List.length_append, List.length_singleton]; omega, by simp only [List.length_append, List.length_singleton]; exact g2, h5.snoc hgd, ?_⟩ iS (fun w h => ?_)
    · simp only
      rw [h6]
      by_cases hz : (pL b (N - (i + 1)) (pP b at_)).2.2 ≠ 0
      · rw [if_pos hz, if_pos hz, if_pos hz]
      · rw [if_neg hz, if_neg hz, if_neg (show ¬ ((0 : Nat) ≠ 0) by simp)]
        simp only [List.map_append, List.map_cons, List.map_nil, List.append_assoc, List.cons_append, List.nil_append]
        rw [hrw0]
    · have := (iC : Inc (C :: D :: rC p vb (pP b at_) :: R1 :: L) _).holds h
      exact (iC : Inc (rC p vb (pP b at_) :: R1 :: (C ++ D) :: L) ((C ++ D) :: rC p vb (pP b at_) :: R1 :: L)).holds (holds2c.2 this)
  · obtain rfl : i = N := by omega
    rw [Nat.sub_self] at h6
    have h7 : pX b = (l.map (fun x => x.1), at_, 0) := by rw [h6]; show (if (0 : Nat) ≠ 0 then _ else (l.map (fun x => x.1) ++ [], at_, 0)) = _; rw [if_neg (by simp), List.append_nil]
    rw [h7]
    ((repeat' first|refine kW ?_|refine kU fun bk=>?_|refine kV fun hc=>?_|refine kZ (fun hc=>?_) fun hc=>?_|fail) <;> try exact absurd trivial hc)
    refine kR ?_
    exact ⟨_, iC, .inr ⟨rfl, .slice pa l.length pc, l, R, D, rfl, h4, h5, rfl, h2, rfl⟩⟩
end Go.Proofs.YtfbeigbkdkiliaaGreatDoor
namespace Go.Proofs.YtfbeigbkdkiliaaGreatDoor
open Go Go.Vx Go.Dl Go.Pk Go.If
variable [W0]
set_option maxRecDepth 4000
set_option linter.all false
theorem pdE_eq (b : List UInt8) : pdE b = if 1048576 < b.length then 5 else if esE b ≠ 0 then esE b else ndE b (pX b).2.1 := by
  unfold pdE esE stE ndE
  by_cases h1 : 1048576 < b.length
  · rw [if_pos h1, if_pos h1]
  rw [if_neg h1, if_neg h1]
  by_cases h2 : pgE pg8 b ≠ 0
  · simp only [if_pos h2]
  simp only [if_neg h2]
  by_cases h3 : b.length < 12
  · simp [h3]
  simp only [if_neg h3]
  by_cases h4 : 4096 < pN b
  · simp [h4]
  simp only [if_neg h4, ne_eq, not_true_eq_false, if_false]
def RdP (b : List UInt8) (r : Value) (l : List (Rw × Value)) (R D : Chunk) : Prop :=
  (pdE b ≠ 0 ∧ l = [] ∧ R = [] ∧ D = [] ∧ r = .tuple #[.slice none 0 0, .string .empty, .int .i64 (pdE b : Int)]) ∨
  (pdE b = 0 ∧ ∃ v, r = .tuple #[v, .string (str (hexL ((b.drop (pX b).2.1).take 20))), .int .i64 0] ∧ Ow 98 7 v l.length (l.flatMap rwR) R ∧ RwD [D] l ∧ l.map (fun x => x.1) = (pX b).1 ∧ (pX b).2.1 + 20 ≤ b.length)
set_option maxHeartbeats 8000000 in
theorem pread_n (vb : Value) (b : List UInt8) (L : List Chunk) (h : Rs L 1 vb b.length (bsv b)) (hl : b.length ≤ 10000000) (hor : OrAt L) (htb : TabAt L) :
    Gv Tryz.prog 9 [vb].toArray L (fun r L' => ∃ l R D, RdP b r l R D ∧ L' = R :: D :: L) := by
  refine Gv.of_body (args := [vb]) Tryz.func9 rfl rfl ?_
  have hEs := fun p => pentries_n p vb b L h hl hor htb
  have hEn := fun (p at_ : Nat) (C1 C2 : Chunk) (ha : at_ ≤ b.length) => pend_n p at_ vb b (C1 :: C2 :: L) h.there.there hl ha
  obtain ⟨ba, bc, rfl⟩ := rs_val h
  have hE := pdE_eq b
  by_cases h1 : 1048576 < b.length
  · rw [if_pos h1] at hE
    ((repeat' first|refine kW ?_|refine kU fun bk=>?_|refine kV fun hc=>?_|refine kZ (fun hc=>?_) fun hc=>?_|fail) <;> try exact absurd trivial hc)
    (first | refine WQ_retH rfl rfl ?_ | refine WQ_endH rfl rfl ?_)
    exact ⟨[] :: [] :: L, fun w h => Holds.nil.2 (Holds.nil.2 h), [], [], [], .inl ⟨by omega, rfl, rfl, rfl, by rw [hE]; rfl⟩, rfl⟩
  rw [if_neg h1] at hE
  ((repeat' first|refine kW ?_|refine kU fun bk=>?_|refine kV fun hc=>?_|refine kZ (fun hc=>?_) fun hc=>?_|fail) <;> try exact absurd trivial hc)
  revert bk
  intro p
  refine OW_call rfl rfl rfl (hEs p) rfl (fun r L' hp => ?_)
  rcases hp with ⟨g, rfl, at', rfl⟩ | ⟨g, v, l, R, D, rfl, ho, hd, hm, hat, rfl⟩
  · rw [if_pos g] at hE
    ((repeat' first|refine kW ?_|refine kU fun bk=>?_|refine kV fun hc=>?_|refine kZ (fun hc=>?_) fun hc=>?_|fail) <;> try exact absurd trivial hc)
    (first | refine WQ_retH rfl rfl ?_ | refine WQ_endH rfl rfl ?_)
    exact ⟨[] :: [] :: L, fun w h => Holds.nil.2 (Holds.nil.2 h.drop), [], [], [], .inl ⟨by omega, rfl, rfl, rfl, by rw [hE]; rfl⟩, rfl⟩
  rw [if_neg (fun q => q g)] at hE
  obtain ⟨va, vc, rfl⟩ := ow_slc ho
  ((repeat' first|refine kW ?_|refine kU fun bk=>?_|refine kV fun hc=>?_|refine kZ (fun hc=>?_) fun hc=>?_|fail) <;> try exact absurd trivial hc)
  refine OW_call rfl rfl rfl (hEn p (pX b).2.1 R D hat) rfl (fun r L' hp => ?_)
  obtain ⟨hp, at', rfl⟩ := hp
  rcases hp with ⟨g2, rfl⟩ | ⟨g2, rfl⟩
  · ((repeat' first|refine kW ?_|refine kU fun bk=>?_|refine kV fun hc=>?_|refine kZ (fun hc=>?_) fun hc=>?_|fail) <;> try exact absurd trivial hc)
    (first | refine WQ_retH rfl rfl ?_ | refine WQ_endH rfl rfl ?_)
    exact ⟨[] :: [] :: L, fun w h => Holds.nil.2 (Holds.nil.2 h.drop.drop.drop), [], [], [], .inl ⟨by omega, rfl, rfl, rfl, by rw [hE]; rfl⟩, rfl⟩
  have hf : (pX b).2.1 + 20 ≤ b.length := by
    unfold ndE at g2
    by_cases q : b.length - (pX b).2.1 < 20
    · rw [if_pos q] at g2; exact absurd g2 (by decide)
    · omega
  rw [g2] at hE
  ((repeat' first|refine kW ?_|refine kU fun bk=>?_|refine kV fun hc=>?_|refine kZ (fun hc=>?_) fun hc=>?_|fail) <;> try exact absurd trivial hc)
  (first | refine WQ_retH rfl rfl ?_ | refine WQ_endH rfl rfl ?_)
  exact ⟨R :: D :: L, fun w h => iH h, l, R, D, .inr ⟨hE, .slice va l.length vc, rfl, ho, hd, hm, hf⟩, rfl⟩
end Go.Proofs.YtfbeigbkdkiliaaGreatDoor
namespace Go.Df
open Go.Vx Go.If
set_option linter.all false
def lenB (v : Nat) : Nat := if v = 0 then 0 else Nat.log2 v + 1
def plF (v st : Nat) : Nat := st * (lenB (v / st) - 1) + v / 2 ^ (lenB (v / st) - 1)
def olN (n : Nat) : Nat := if n = 258 then 285 else 257 + plF (n - 3) 4
def odN (d : Nat) : Nat := plF (d - 1) 2
theorem lenB_b {v k : Nat} (h1 : 2 ^ k ≤ v) (h2 : v < 2 ^ (k + 1)) : lenB v = k + 1 := by
  have h0 : v ≠ 0 := by have : 0 < 2 ^ k := Nat.pow_pos (by decide); omega
  unfold lenB
  rw [if_neg h0, show Nat.log2 v = k from (Nat.log2_eq_iff h0).2 ⟨h1, h2⟩]
theorem pl_sp {v st : Nat} (hs : 1 ≤ st) : spF (plF v st) st ≤ v ∧ v - spF (plF v st) st < 2 ^ spX (plF v st) st := by
  by_cases h0 : v / st = 0
  · have hv : v < st := by
      rcases Nat.lt_or_ge v st with h | h
      · exact h
      · have : 1 ≤ v / st := (Nat.le_div_iff_mul_le (by omega)).2 (by omega)
        omega
    have e : plF v st = v := by unfold plF lenB; rw [if_pos h0]; simp
    unfold spF spX
    rw [e, if_pos (by omega), if_pos (by omega)]
    simp
  · obtain ⟨k, hk⟩ : ∃ k, k = Nat.log2 (v / st) := ⟨_, rfl⟩
    have hlb : lenB (v / st) - 1 = k := by unfold lenB; rw [if_neg h0, hk]; rfl
    have h1 := (Nat.log2_eq_iff h0).1 hk.symm
    have a1 : 2 ^ k * st ≤ v := (Nat.le_div_iff_mul_le (by omega)).1 h1.1
    have a2 : v < 2 ^ (k + 1) * st := (Nat.div_lt_iff_lt_mul (by omega)).1 h1.2
    have hp : 0 < 2 ^ k := Nat.pow_pos (by decide)
    have b1 : st ≤ v / 2 ^ k := (Nat.le_div_iff_mul_le hp).2 (by rw [Nat.mul_comm]; exact a1)
    have b2 : v / 2 ^ k < 2 * st := (Nat.div_lt_iff_lt_mul hp).2 (by rw [Nat.pow_succ] at a2; rw [show 2 * st * 2 ^ k = 2 ^ k * 2 * st from by rw [Nat.mul_comm (2 * st), Nat.mul_assoc]]; exact a2)
    obtain ⟨m, hm⟩ : ∃ m, m = v / 2 ^ k - st := ⟨_, rfl⟩
    have e : plF v st = st * k + (st + m) := by unfold plF; rw [hlb, hm]; omega
    have hmod := Nat.div_add_mod v (2 ^ k)
    have hml := Nat.mod_lt v hp
    have hvk : v / 2 ^ k = st + m := by omega
    rw [hvk] at hmod
    unfold spF spX
    rw [e]
    by_cases hk0 : k = 0
    · subst hk0
      rw [if_pos (by omega), if_pos (by omega)]
      simp only [Nat.mul_zero, Nat.zero_add, Nat.pow_zero, Nat.one_mul] at hmod hml ⊢
      omega
    · have h2 : ¬ st * k + (st + m) < 2 * st := by
        have : st * 1 ≤ st * k := Nat.mul_le_mul_left _ (by omega)
        omega
      have hmst : m < st := by omega
      have e1 : (st * k + (st + m)) / st = k + 1 := by
        rw [show st * k + (st + m) = m + st * (k + 1) from by rw [Nat.mul_add, Nat.mul_one]; omega, Nat.add_mul_div_left _ _ (by omega), Nat.div_eq_of_lt hmst]
        omega
      have e2 : (st * k + (st + m)) % st = m := by
        rw [show st * k + (st + m) = m + st * (k + 1) from by rw [Nat.mul_add, Nat.mul_one]; omega, Nat.add_mul_mod_self_left, Nat.mod_eq_of_lt hmst]
      rw [if_neg h2, if_neg h2, e1, e2, show k + 1 - 1 = k from rfl, Nat.mul_comm]
      omega
theorem plF_mono_b {v st k : Nat} (hs : 1 ≤ st) (h : v < 2 ^ k * st) (hk : 1 ≤ k) : plF v st < st * (k + 1) := by
  by_cases h0 : v / st = 0
  · have hv : v < st := by
      rcases Nat.lt_or_ge v st with h | h
      · exact h
      · have : 1 ≤ v / st := (Nat.le_div_iff_mul_le (by omega)).2 (by omega)
        omega
    have e : plF v st = v := by unfold plF lenB; rw [if_pos h0]; simp
    rw [e]
    have : st * 1 ≤ st * (k + 1) := Nat.mul_le_mul_left _ (by omega)
    omega
  · obtain ⟨j, hj⟩ : ∃ j, j = Nat.log2 (v / st) := ⟨_, rfl⟩
    have hlb : lenB (v / st) - 1 = j := by unfold lenB; rw [if_neg h0, hj]; rfl
    have h1 := (Nat.log2_eq_iff h0).1 hj.symm
    have a1 : 2 ^ j * st ≤ v := (Nat.le_div_iff_mul_le (by omega)).1 h1.1
    have a2 : v < 2 ^ (j + 1) * st := (Nat.div_lt_iff_lt_mul (by omega)).1 h1.2
    have hp : 0 < 2 ^ j := Nat.pow_pos (by decide)
    have b2 : v / 2 ^ j < 2 * st := (Nat.div_lt_iff_lt_mul hp).2 (by rw [Nat.pow_succ] at a2; rw [show 2 * st * 2 ^ j = 2 ^ j * 2 * st from by rw [Nat.mul_comm (2 * st), Nat.mul_assoc]]; exact a2)
    have hjk : j < k := by
      rcases Nat.lt_or_ge j k with h' | h'
      · exact h'
      · have : 2 ^ k ≤ 2 ^ j := Nat.pow_le_pow_right (by decide) h'
        have := Nat.mul_le_mul_right st this
        omega
    have h3 : st * j ≤ st * (k - 1) := Nat.mul_le_mul_left _ (by omega)
    have h4 : st * (k + 1) = st * (k - 1) + 2 * st := by
      rw [show k + 1 = (k - 1) + 2 from by omega, Nat.mul_add]; omega
    unfold plF
    rw [hlb]
    omega
theorem olN_ok {n : Nat} (h3 : 3 ≤ n) (h : n ≤ 258) : 257 ≤ olN n ∧ olN n ≤ 285 ∧ (lnB (olN n)).1 ≤ n ∧ n - (lnB (olN n)).1 < 2 ^ (lnB (olN n)).2 := by
  have : ∀ n, n < 259 → 3 ≤ n → 257 ≤ olN n ∧ olN n ≤ 285 ∧ (lnB (olN n)).1 ≤ n ∧ n - (lnB (olN n)).1 < 2 ^ (lnB (olN n)).2 := by decide +kernel
  exact this n (by omega) h3
theorem odN_ok {d : Nat} (h1 : 1 ≤ d) (h : d ≤ 32768) : odN d ≤ 29 ∧ baB 1 2 4 (odN d) ≤ d ∧ d - baB 1 2 4 (odN d) < 2 ^ exB (odN d) 2 4 := by
  have hb : odN d < 2 * (14 + 1) := plF_mono_b (v := d - 1) (st := 2) (k := 14) (by decide) (by omega) (by decide)
  have hp := pl_sp (v := d - 1) (st := 2) (by decide)
  have hs := sp_dst (odN d) (by omega)
  have hp' : spF (odN d) 2 ≤ d - 1 ∧ d - 1 - spF (odN d) 2 < 2 ^ spX (odN d) 2 := hp
  rw [hs.2] at hp'
  rw [← hs.1]
  exact ⟨by omega, by omega, by omega⟩
end Go.Df
namespace Go.Df
open Go.Vx Go.If
set_option linter.all false
theorem tabQ (s : ByteArray) (h : (List.range 256).all (fun i => s[i]? == some (UInt8.ofNat (lenB i))) = true) {w : Nat} (hw : w < 256) : s[w]? = some (UInt8.ofNat (lenB w)) := by
  rw [List.all_eq_true] at h
  have := h w (by simpa using hw)
  simpa using this
theorem lenB_le : ∀ w, w < 256 → lenB w ≤ 8 := by decide +kernel
theorem lenB_256 {v : Nat} (h1 : 256 ≤ v) (h2 : v < 65536) : lenB v = 8 + lenB (v / 256) := by
  have h0 : v / 256 ≠ 0 := by omega
  have h3 := (Nat.log2_eq_iff h0).1 rfl
  obtain ⟨k, hk⟩ : ∃ k, k = Nat.log2 (v / 256) := ⟨_, rfl⟩
  rw [← hk] at h3
  have e1 : lenB (v / 256) = k + 1 := lenB_b h3.1 h3.2
  have a1 : 2 ^ k * 256 ≤ v := (Nat.le_div_iff_mul_le (by decide)).1 h3.1
  have a2 : v < 2 ^ (k + 1) * 256 := (Nat.div_lt_iff_lt_mul (by decide)).1 h3.2
  have e2 : lenB v = k + 8 + 1 := lenB_b (by rw [Nat.pow_add]; exact a1) (by rw [show k + 8 + 1 = (k + 1) + 8 from by omega, Nat.pow_add]; exact a2)
  omega
end Go.Df
namespace Go.Proofs.YtfbeigbkdkiliaaGreatDoor
open Go Go.Vx Go.Hf Go.If Go.Df
variable [W0]
set_option maxRecDepth 4000
set_option linter.all false
set_option maxHeartbeats 2000000 in
theorem len64_n (v : Nat) (L : List Chunk) (h : v < 65536) : GvP Tryz.prog 73 [.int .u64 (v : Int)].toArray L (.int .i64 ((lenB v : Nat) : Int)) := by
  refine Gv.of_body Tryz.func73 rfl rfl ?_
  (repeat' first|refine kW ?_|refine kU fun bk=>?_|refine kV fun hc=>?_|refine kZ (fun hc=>?_) fun hc=>?_|fail)
  · rw [lenB_256 (by omega) h]
    obtain ⟨w, hw9⟩ : ∃ w, w = v / 256 := ⟨_, rfl⟩
    have hw : w < 256 := by omega
    rw [← hw9]
    have hle := lenB_le w hw
    refine OW_EV (EV_indexStr (j := w) (u := UInt8.ofNat (lenB w)) rfl rfl (by rw [wrap_u8]; omega) (tabQ _ (by kernel_rfl) hw)) rfl ?_
    rw [show ((UInt8.ofNat (lenB w)).toNat : Int) = ((lenB w : Nat) : Int) from by rw [UInt8.toNat_ofNat', Nat.mod_eq_of_lt (by omega)]]
    generalize lenB w = z at hle ⊢
    refine jA ?_
    refine OW_EV (EV_convII (r := (z : Int)) rfl (wrap_i64 (by omega) (by omega))) rfl ?_
    (repeat' first|refine kW ?_|refine kU fun bk=>?_|refine kV fun hc=>?_|refine kZ (fun hc=>?_) fun hc=>?_|fail)
    refine kR ?_
    exact ⟨_, iC, by rw [Int.natCast_add]; rfl, rfl⟩
  · have hw : v < 256 := by omega
    have hle := lenB_le v hw
    refine OW_EV (EV_indexStr (j := v) (u := UInt8.ofNat (lenB v)) rfl rfl (by rw [wrap_u8]; omega) (tabQ _ (by kernel_rfl) hw)) rfl ?_
    rw [show ((UInt8.ofNat (lenB v)).toNat : Int) = ((lenB v : Nat) : Int) from by rw [UInt8.toNat_ofNat', Nat.mod_eq_of_lt (by omega)]]
    generalize lenB v = z at hle ⊢
    refine jA ?_
    refine OW_EV (EV_convII (r := (z : Int)) rfl (wrap_i64 (by omega) (by omega))) rfl ?_
    (repeat' first|refine kW ?_|refine kU fun bk=>?_|refine kV fun hc=>?_|refine kZ (fun hc=>?_) fun hc=>?_|fail)
    refine kR ?_
    exact ⟨_, iC, by simp [tupled], rfl⟩
theorem len_n (v : Nat) (L : List Chunk) (h : v < 65536) : GvP Tryz.prog 44 [.int .u64 (v : Int)].toArray L (.int .i64 ((lenB v : Nat) : Int)) := by
  refine Gv.of_body Tryz.func44 rfl rfl ?_
  have h6 := len64_n v L h
  (repeat' first|refine kW ?_|refine kU fun bk=>?_|refine kV fun hc=>?_|refine kZ (fun hc=>?_) fun hc=>?_|fail)
  refine OW_callP rfl rfl rfl h6 rfl ?_
  (repeat' first|refine kW ?_|refine kU fun bk=>?_|refine kV fun hc=>?_|refine kZ (fun hc=>?_) fun hc=>?_|fail)
  refine kR ?_
  exact ⟨_, iC, rfl, rfl⟩
end Go.Proofs.YtfbeigbkdkiliaaGreatDoor
namespace Go.Proofs.YtfbeigbkdkiliaaGreatDoor
open Go Go.Vx
variable [W0]
set_option maxRecDepth 4000
set_option linter.all false
theorem inssort_nil (f : Value) (hf : f.oneCell' = true) (L : List Chunk) : GvP Tryz.prog 64 [.slice none 0 0, .int .i64 0, .int .i64 0, f].toArray L (.tuple #[]) := by
  refine Gv.of_body (args := [.slice none 0 0, .int .i64 0, .int .i64 0, f]) Tryz.func64 rfl rfl ?_
  (repeat' first|refine kW ?_|refine kU fun bk=>?_|refine kV fun hc=>?_|refine kZ (fun hc=>?_) fun hc=>?_|fail)
  refine WC_loop (X := Unit) (fun _ => [(2, .int .i64 0), (8, .int .i64 1)]) (fun _ => L) (fun _ => True) (fun _ => 0) () trivial iS (fun w h => h) ?_
  intro _ _
  ((repeat' first|refine kW ?_|refine kU fun bk=>?_|refine kV fun hc=>?_|refine kZ (fun hc=>?_) fun hc=>?_|fail) <;> try exact absurd trivial hc)
  exact kE
theorem pdq_nil (f : Value) (hf : f.oneCell' = true) (l : Int) (L : List Chunk) : GvP Tryz.prog 43 [.slice none 0 0, .int .i64 0, .int .i64 0, .int .i64 l, f].toArray L (.tuple #[]) := by
  refine Gv.of_body (args := [.slice none 0 0, .int .i64 0, .int .i64 0, .int .i64 l, f]) Tryz.func43 rfl rfl ?_
  (repeat' first|refine kW ?_|refine kU fun bk=>?_|refine kV fun hc=>?_|refine kZ (fun hc=>?_) fun hc=>?_|fail)
  refine WC_loop (X := Unit) (fun _ => [(0, .slice none 0 0), (1, .int .i64 0), (2, .int .i64 0), (3, .int .i64 l), (4, f)]) (fun _ => L) (fun _ => True) (fun _ => 0) () trivial iS (fun w h => h) ?_
  intro _ _
  ((repeat' first|refine kW ?_|refine kU fun bk=>?_|refine kV fun hc=>?_|refine kZ (fun hc=>?_) fun hc=>?_|fail) <;> try exact absurd trivial hc)
  refine OW_callP rfl rfl rfl (inssort_nil f hf L) rfl ?_
  ((repeat' first|refine kW ?_|refine kU fun bk=>?_|refine kV fun hc=>?_|refine kZ (fun hc=>?_) fun hc=>?_|fail) <;> try exact absurd trivial hc)
  exact kE
theorem sort_nil (f : Value) (hf : f.oneCell' = true) (L : List Chunk) : GvP Tryz.prog 20 [.slice none 0 0, f].toArray L (.tuple #[]) := by
  refine Gv.of_body (args := [.slice none 0 0, f]) Tryz.func20 rfl rfl ?_
  (repeat' first|refine kW ?_|refine kU fun bk=>?_|refine kV fun hc=>?_|refine kZ (fun hc=>?_) fun hc=>?_|fail)
  refine OW_callP rfl rfl rfl (len_n 0 L (by decide)) rfl ?_
  (repeat' first|refine kW ?_|refine kU fun bk=>?_|refine kV fun hc=>?_|refine kZ (fun hc=>?_) fun hc=>?_|fail)
  refine OW_callP rfl rfl rfl (pdq_nil f hf _ L) rfl ?_
  (repeat' first|refine kW ?_|refine kU fun bk=>?_|refine kV fun hc=>?_|refine kZ (fun hc=>?_) fun hc=>?_|fail)
  exact kE
end Go.Proofs.YtfbeigbkdkiliaaGreatDoor
