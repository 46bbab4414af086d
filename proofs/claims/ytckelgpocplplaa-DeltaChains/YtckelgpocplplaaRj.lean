/- Package delta: copies, insertions, Apply. It proves no statement by itself. No conditions. -/
import Derived.Test.YtckelgpocplplaaRi
namespace Go.Proofs.Ytckelgpocplplaa
open Go Go.Vx Go.Dl
variable [W0]
set_option maxRecDepth 4000
set_option linter.all false
theorem EV_uadd {P : Program} {n : Nat} {M : List (Nat × Value)} {L : List Chunk} {d : Nat} {ty : TypeId} {ps : String} {af : Array Edge} {g : Option (Nat × Bool)} {x y : Operand} {t u : TypeId} {k : IntKind} {i j : Int} (a b : Nat) (hx : ev M x = some (.int k i)) (hy : ev M y = some (.int k j)) (hi : i = (a : Int)) (hj : j = (b : Int)) (hs : k.signed = false) (hr : a + b < 2 ^ k.bits) :
    EV P n ⟨some d, .binOp .add t x y u, ty, ps, af, g⟩ M L d (.int k ((a + b : Nat) : Int)) := by
  subst hi hj
  have h := EV_ari (P := P) (n := n) (L := L) (d := d) (ty := ty) (ps := ps) (af := af) (g := g) (op := .add) (t := t) (u := u) hx hy rfl
  rwa [show (a : Int) + (b : Int) = ((a + b : Nat) : Int) from by omega, wrap_nat hs hr] at h
/-- What an instruction comes to. -/
def StR (base : List UInt8) (to : Nat) (L0 L : List Chunk) (p : Nat) (vb : Value) (rest out : List UInt8) (r : Value) (L' : List Chunk) : Prop :=
  (∃ e : Nat, e ≠ 0 ∧ r = .int .i64 (e : Int) ∧ ap base to rest.length rest out = ([], e) ∧ L' = L) ∨
  (r = .int .i64 0 ∧ ∃ (rest' out' : List UInt8) (vr' vo' : Value) (C' : Chunk), rest'.length < rest.length ∧ out'.length ≤ to ∧ ap base to rest.length rest out = ap base to rest'.length rest' out' ∧
    Rs L0 1 vr' rest'.length (bsv rest') ∧ Ow 5 1 vo' out'.length (bsv out') C' ∧ L' = rsC p vb vr' vo' to :: C' :: L)

set_option maxHeartbeats 8000000 in
theorem dcopy_n (p : Nat) (vb vr vo : Value) (to : Nat) (c : UInt8) (base d out : List UInt8) (C : Chunk) (L0 L : List Chunk) (hb : Rs L0 1 vb base.length (bsv base)) (hr : Rs L0 1 vr d.length (bsv d)) (ho : Ow 5 1 vo out.length (bsv out) C)
    (hi : ∀ x ∈ L0.flatten, x ∈ L.flatten) (hl : d.length ≤ 140737488355328) (hbl : base.length ≤ 140737488355328) (hto : to ≤ 2147483647) (hot : out.length ≤ to) (h128 : 128 ≤ c.toNat) :
    Gv Try.prog 44 [.pointer (some ⟨p, 0, none⟩), .int .u8 (c.toNat : Int)].toArray (rsC p vb vr vo to :: C :: L) (StR base to L0 L p vb (c :: d) out) := by
  refine Gv.of_body (args := [.pointer (some ⟨p, 0, none⟩), .int .u8 (c.toNat : Int)]) Try.func44 rfl rfl ?_
  have hap : ap base to (c :: d).length (c :: d) out = _ := ap_copy base to d.length c d out h128
  have hf := fields_n p vb vr vo to c d L0 (C :: L) hr (mem_tail hi) hl
  obtain ⟨va, vc, rfl⟩ := ow_slc ho
  obtain ⟨ba, bc, rfl⟩ := rs_val hb
  (repeat' first|refine kW ?_|refine kU fun bk=>?_|refine kV fun hc=>?_|refine kZ (fun hc=>?_) fun hc=>?_|fail)
  refine OW_call rfl rfl rfl hf rfl (fun r L' hp => ?_)
  rcases hp with ⟨h1, rfl, rfl⟩ | ⟨x, h1, rfl, vr', hr', rfl⟩
  · rw [h1] at hap
    (repeat' first|refine kW ?_|refine kU fun bk=>?_|refine kV fun hc=>?_|refine kZ (fun hc=>?_) fun hc=>?_|fail)
    refine kR ?_
    exact ⟨_, iC, .inl ⟨4, by decide, rfl, hap, rfl⟩⟩
  have hxl := fd_le _ _ _ _ h1
  rw [h1] at hap
  simp only at hap
  obtain ⟨v, e⟩ := x
  simp only at hap hxl hr' ⊢
  obtain ⟨at_, hat⟩ : ∃ a, a = v % 4294967296 := ⟨_, rfl⟩
  obtain ⟨n, hn⟩ : ∃ n, n = (if v / 4294967296 = 0 then 65536 else v / 4294967296) := ⟨_, rfl⟩
  rw [← hat, ← hn] at hap
  have hn0 : 0 < n := by rw [hn]; split <;> omega
  have hn1 : n < 16777216 := by rw [hn]; split <;> omega
  have hat1 : at_ < 4294967296 := by omega
  obtain ⟨ra, rc, rfl⟩ := rs_val hr'
  have hroom := room_n p (.slice ba base.length bc) (.slice ra e.length rc) va out.length vc to (C :: L) hot (by omega)
  unfold rsC at hroom ⊢
  (repeat' first|refine kW ?_|refine kU fun bk=>?_|refine kV fun hc=>?_|refine kZ (fun hc=>?_) fun hc=>?_|fail)
  refine OW_EV (EV_remN (k := .u64) v 4294967296 rfl rfl rfl rfl (by decide)) rfl ?_
  rw [← hat]
  (repeat' first|refine kY ?_|refine kU fun bk=>?_|refine kV fun hc=>?_|refine kZ (fun hc=>?_) fun hc=>?_|fail)
  refine WC_cut (X := Unit) (fun _ => [(0, .pointer (some ⟨p, 0, none⟩)), (7, .int .u64 (at_ : Int)), (8, .int .u64 (n : Int))]) (fun _ => [(p, cl [.slice ba base.length bc, .slice ra e.length rc, .slice va out.length vc, .int .i64 (to : Int)] 45)] :: C :: L) (fun _ => True) ?_ ?_
  · (repeat' first|refine kW ?_|refine kU fun bk=>?_|refine kV fun hc=>?_|refine kZ (fun hc=>?_) fun hc=>?_|fail)
    · rw [if_pos (by omega)] at hn
      subst hn
      exact WQ_cut () trivial iS (fun w h => h)
    · rw [if_neg (by omega)] at hn
      rw [show (v : Int) / 4294967296 = (n : Int) from by omega]
      exact WQ_cut () trivial iS (fun w h => h)
  intro _ _
  (repeat' first|refine kW ?_|refine kU fun bk=>?_|refine kV fun hc=>?_|refine kZ (fun hc=>?_) fun hc=>?_|fail)
  refine OW_EV (EV_uadd at_ n rfl rfl rfl rfl rfl (by simp only [IntKind.bits]; omega)) rfl ?_
  (repeat' first|refine kW ?_|refine kU fun bk=>?_|refine kV fun hc=>?_|refine kZ (fun hc=>?_) fun hc=>?_|fail)
  · rw [if_pos (by omega)] at hap
    refine kR ?_
    exact ⟨_, iC, .inl ⟨3, by decide, rfl, hap, rfl⟩⟩
  refine OW_callP rfl rfl rfl hroom rfl ?_
  (repeat' first|refine kW ?_|refine kU fun bk=>?_|refine kV fun hc=>?_|refine kZ (fun hc=>?_) fun hc=>?_|fail)
  · rw [if_pos (by omega)] at hap
    refine kR ?_
    exact ⟨_, iC, .inl ⟨3, by decide, rfl, hap, rfl⟩⟩
  rw [if_neg (by omega)] at hap
  obtain ⟨r1, q1, e1⟩ := rs_cut (P := Try.prog) (T := 23) hb (l := at_) (h := at_ + n) (by omega) (by omega)
  rw [show at_ + n - at_ = n from by omega] at q1
  have hcl : ((base.drop at_).take n).length = n := by rw [List.length_take, List.length_drop]; omega
  refine WC_draw ([(p, cl [.slice ba base.length bc, .slice ra e.length rc, .slice va out.length vc, .int .i64 (to : Int)] 45)] :: L) [17] mixed ?_
  (refine WR_t 0 ?_; refine WR_t 1 ?_; refine WR_t 2 ?_; refine WR_t 3 ?_; refine WR_t 4 ?_; refine WR_t 5 ?_; refine WR_t 6 ?_; refine WR_t 7 ?_; refine WR_t 8 ?_; refine WR_t 9 ?_; refine WR_t 10 ?_; refine WR_t 11 ?_)
  (refine WR_take 12 rfl rfl (by kernel_rfl) iP iC (EV_uadd at_ n rfl rfl rfl rfl rfl (by simp only [IntKind.bits]; omega)) (by rfl) ?_)
  (refine WR_take 13 rfl rfl (by kernel_rfl) iP iC (e1 rfl rfl rfl) (by rfl) ?_)
  (refine WR_one 14 (by kernel_rfl) rfl rfl ?_)
  refine OW_append rfl rfl ho (sl_sub (mem_tail (mem_tail hi)) q1.sl) (by repeat (first | exact Zip.here _ | apply Zip.there)) rfl bsv_ones (by omega) (by simp [maxLen]; omega) rfl (fun v' C' ho' _ _ => ?_)
  refine ⟨iC, ?_⟩
  (refine WR_t 15 ?_; refine WR_t 16 ?_)
  (refine WR_last 17 (by kernel_rfl) rfl rfl rfl ?_)
  refine OW_storeTo [.slice ba base.length bc, .slice ra e.length rc, v', .int .i64 (to : Int)] rfl rfl (ow_one ho') rfl iU (by simp) ?_
  (refine WR_done (by kernel_rfl) ?_)
  (repeat' first|refine kW ?_|refine kU fun bk=>?_|refine kV fun hc=>?_|refine kZ (fun hc=>?_) fun hc=>?_|fail)
  refine kR ?_
  rw [← bsv_append] at ho'
  refine ⟨_, iC, .inr ⟨rfl, e, out ++ (base.drop at_).take n, _, v', C', by simp; omega, by simp only [List.length_append, hcl]; omega, ?_, hr', by rw [List.length_append]; exact ho', rfl⟩⟩
  rw [hap]
  exact ap_fuel _ _ _ _ _ _ (by omega) (Nat.le_refl _)

set_option maxHeartbeats 8000000 in
theorem dinsert_n (p : Nat) (vb vr vo : Value) (to : Nat) (c : UInt8) (base d out : List UInt8) (C : Chunk) (L0 L : List Chunk) (hr : Rs L0 1 vr d.length (bsv d)) (ho : Ow 5 1 vo out.length (bsv out) C)
    (hi : ∀ x ∈ L0.flatten, x ∈ L.flatten) (hl : d.length ≤ 140737488355328) (hto : to ≤ 2147483647) (hot : out.length ≤ to) (h0 : c.toNat ≠ 0) (h128 : c.toNat < 128) :
    Gv Try.prog 45 [.pointer (some ⟨p, 0, none⟩), .int .i64 (c.toNat : Int)].toArray (rsC p vb vr vo to :: C :: L) (StR base to L0 L p vb (c :: d) out) := by
  refine Gv.of_body (args := [.pointer (some ⟨p, 0, none⟩), .int .i64 (c.toNat : Int)]) Try.func45 rfl rfl ?_
  have hap : ap base to (c :: d).length (c :: d) out = _ := ap_ins base to d.length c d out h0 h128
  obtain ⟨va, vc, rfl⟩ := ow_slc ho
  obtain ⟨ra, rc, rfl⟩ := rs_val hr
  have hroom := room_n p vb (.slice ra d.length rc) va out.length vc to (C :: L) hot (by omega)
  (repeat' first|refine kW ?_|refine kU fun bk=>?_|refine kV fun hc=>?_|refine kZ (fun hc=>?_) fun hc=>?_|fail)
  refine OW_callP rfl rfl rfl hroom rfl ?_
  unfold rsC
  (repeat' first|refine kW ?_|refine kU fun bk=>?_|refine kV fun hc=>?_|refine kZ (fun hc=>?_) fun hc=>?_|fail)
  · rw [if_pos (by omega)] at hap
    refine kR ?_
    exact ⟨_, iC, .inl ⟨3, by decide, rfl, hap, rfl⟩⟩
  · rw [if_neg (by omega), if_pos (by omega)] at hap
    refine kR ?_
    exact ⟨_, iC, .inl ⟨4, by decide, rfl, hap, rfl⟩⟩
  rw [if_neg (by omega), if_neg (by omega)] at hap
  have ht := dtake_n p vb (.slice ra d.length rc) (.slice va out.length vc) to c.toNat d L0 (C :: L) hr (by omega)
  have hcl : (d.take c.toNat).length = c.toNat := by rw [List.length_take]; omega
  unfold rsC at ht
  refine WC_draw [] [] mixed ?_
  (refine WR_t 0 ?_; refine WR_t 1 ?_; refine WR_t 2 ?_; refine WR_t 3 ?_; refine WR_t 5 ?_; refine WR_t 6 ?_)
  refine WR_two 4 7 (by kernel_rfl) rfl rfl rfl rfl ?_ ?_
  · refine OW_EV (v := .slice va out.length vc) (EV_loadc rfl Fnd.here rfl) rfl ?_
    refine ⟨iC, ?_⟩
    (refine WR_one 7 (by kernel_rfl) rfl rfl ?_)
    refine OW_call rfl rfl rfl ht rfl (fun r L' hp => ?_)
    obtain ⟨vr', q1, q2, rfl⟩ := hp
    refine ⟨iC, ?_⟩
    (refine WR_one 8 (by kernel_rfl) rfl rfl ?_)
    refine OW_append rfl rfl ho (sl_sub (mem_tail (mem_tail hi)) q1.sl) (by repeat (first | exact Zip.here _ | apply Zip.there)) rfl bsv_ones (by omega) (by simp [maxLen]; omega) rfl (fun v' C' ho' _ _ => ?_)
    refine ⟨iC, ?_⟩
    (refine WR_t 9 ?_; refine WR_t 10 ?_)
    (refine WR_one 11 (by kernel_rfl) rfl rfl ?_)
    refine OW_storeTo [vb, vr', v', .int .i64 (to : Int)] rfl rfl (ow_one ho') rfl iU (by simp) ?_
    refine ⟨iC, ?_⟩
    (refine WR_done (by kernel_rfl) ?_)
    (repeat' first|refine kW ?_|refine kU fun bk=>?_|refine kV fun hc=>?_|refine kZ (fun hc=>?_) fun hc=>?_|fail)
    refine kR ?_
    rw [← bsv_append] at ho'
    refine ⟨_, iC, .inr ⟨rfl, d.drop c.toNat, out ++ d.take c.toNat, vr', v', C', by simp; omega, by simp only [List.length_append, hcl]; omega, ?_, q2, by rw [List.length_append, hcl]; exact ho', rfl⟩⟩
    rw [hap]
    exact ap_fuel _ _ _ _ _ _ (by rw [List.length_drop]; omega) (Nat.le_refl _)
  · refine OW_call rfl rfl rfl ht rfl (fun r L' hp => ?_)
    obtain ⟨vr', q1, q2, rfl⟩ := hp
    refine ⟨iC, ?_⟩
    (refine WR_one 4 (by kernel_rfl) rfl rfl ?_)
    refine OW_EV (v := .slice va out.length vc) (EV_loadc rfl Fnd.here rfl) rfl ?_
    refine ⟨iC, ?_⟩
    (refine WR_one 8 (by kernel_rfl) rfl rfl ?_)
    refine OW_append rfl rfl ho (sl_sub (mem_tail (mem_tail hi)) q1.sl) (by repeat (first | exact Zip.here _ | apply Zip.there)) rfl bsv_ones (by omega) (by simp [maxLen]; omega) rfl (fun v' C' ho' _ _ => ?_)
    refine ⟨iC, ?_⟩
    (refine WR_t 9 ?_; refine WR_t 10 ?_)
    (refine WR_one 11 (by kernel_rfl) rfl rfl ?_)
    refine OW_storeTo [vb, vr', v', .int .i64 (to : Int)] rfl rfl (ow_one ho') rfl iU (by simp) ?_
    refine ⟨iC, ?_⟩
    (refine WR_done (by kernel_rfl) ?_)
    (repeat' first|refine kW ?_|refine kU fun bk=>?_|refine kV fun hc=>?_|refine kZ (fun hc=>?_) fun hc=>?_|fail)
    refine kR ?_
    rw [← bsv_append] at ho'
    refine ⟨_, iC, .inr ⟨rfl, d.drop c.toNat, out ++ d.take c.toNat, vr', v', C', by simp; omega, by simp only [List.length_append, hcl]; omega, ?_, q2, by rw [List.length_append, hcl]; exact ho', rfl⟩⟩
    rw [hap]
    exact ap_fuel _ _ _ _ _ _ (by rw [List.length_drop]; omega) (Nat.le_refl _)
end Go.Proofs.Ytckelgpocplplaa
