/- Package delta: many copies, pieces inserted. It proves no statement by itself. No conditions. -/
import Derived.Test.YtckelgpocplplaaRw
namespace Go.Proofs.Ytckelgpocplplaa
open Go Go.Vx Go.Dl
variable [W0]
set_option maxRecDepth 4000
set_option linter.all false
omit [W0] in
/-- What the copies of n bytes cost at most. -/
def cpc (n : Nat) : Nat := 4 * (n / 65536) + (if n % 65536 = 0 then 0 else 6)
omit [W0] in
theorem cpc_le (n : Nat) : cpc n ≤ 4 * (n / 65536) + 6 := by unfold cpc; split <;> omega
omit [W0] in
theorem cpc_zero : cpc 0 = 0 := rfl
omit [W0] in
theorem cpc_many {m : Nat} (h : 65536 ≤ m) : cpc m = cpc (m - 65536) + 4 := by
  unfold cpc
  rw [show (m - 65536) % 65536 = m % 65536 from by omega]
  split <;> omega
omit [W0] in
theorem cpc_one {m : Nat} (h : 0 < m) (h2 : m < 65536) : cpc m = 6 := by
  unfold cpc
  rw [if_neg (by omega)]; omega
set_option maxHeartbeats 8000000 in
theorem appendcopies_n (base : List UInt8) (v : Value) (pre : List UInt8) (a n : Nat) (C : Chunk) (L : List Chunk) (ho : Ow 5 1 v pre.length (bsv pre) C) (hpl : pre.length ≤ 100000000) (hl : a + n ≤ base.length) (hb : base.length ≤ 16777216) :
    Gv Try.prog 14 [v, .int .i64 (a : Int), .int .i64 (n : Int)].toArray (C :: L) (fun r L' => ∃ D C', Mk base D ((base.drop a).take n) ∧ D.length ≤ cpc n ∧ Ow 5 1 r (pre ++ D).length (bsv (pre ++ D)) C' ∧ L' = C' :: L) := by
  refine Gv.of_body (args := [v, .int .i64 (a : Int), .int .i64 (n : Int)]) Try.func14 rfl rfl ?_
  have hcn := cpc_le n
  (repeat' first|refine kW ?_|refine kU fun bk=>?_|refine kV fun hc=>?_|refine kZ (fun hc=>?_) fun hc=>?_|fail)
  refine WC_loop (X := Nat × List UInt8 × Value × Chunk) (fun x => [(0, x.2.2.1), (1, .int .i64 ((a + x.1 : Nat) : Int)), (2, .int .i64 ((n - x.1 : Nat) : Int))]) (fun x => x.2.2.2 :: L)
    (fun x => x.1 ≤ n ∧ Mk base x.2.1 ((base.drop a).take x.1) ∧ x.2.1.length + cpc (n - x.1) ≤ cpc n ∧ Ow 5 1 x.2.2.1 (pre ++ x.2.1).length (bsv (pre ++ x.2.1)) x.2.2.2) (fun x => n - x.1) (0, [], v, C)
    ⟨Nat.zero_le _, by simpa using Mk.nil base, by simp, by simpa using ho⟩ iS (fun w h => h) ?_
  rintro ⟨j, D, vq, E⟩ ⟨h1, h2, h3, h4⟩
  simp only at h1 h2 h3 h4 ⊢
  have hpd : (pre ++ D).length ≤ 1000000000 := by rw [List.length_append]; omega
  have hdd : (base.drop a).drop j = base.drop (a + j) := by rw [List.drop_drop]
  (repeat' first|refine kW ?_|refine kU fun bk=>?_|refine kV fun hc=>?_|refine kZ (fun hc=>?_) fun hc=>?_|fail)
  · obtain ⟨e, he⟩ : ∃ e, e = min (n - j) 65536 := ⟨_, rfl⟩
    rw [show min ((n - j : Nat) : Int) 65536 = (e : Int) from by omega]
    refine OW_call rfl rfl rfl (appendcopy_n vq (pre ++ D) (a + j) e E L h4 hpd (by omega) (by omega)) rfl (fun r L' hp => ?_)
    obtain ⟨w, C', hc1, ho', rfl⟩ := hp
    rw [List.append_assoc] at ho'
    (repeat' first|refine kW ?_|refine kU fun bk=>?_|refine kV fun hc=>?_|refine kZ (fun hc=>?_) fun hc=>?_|fail)
    rw [show ((a + j : Nat) : Int) + (e : Int) = ((a + (j + e) : Nat) : Int) from by omega, show ((n - j : Nat) : Int) - (e : Int) = ((n - (j + e) : Nat) : Int) from by omega]
    refine WQ_round (X := Nat × List UInt8 × Value × Chunk) (μ := fun x => n - x.1) (x := (j, D, vq, E)) (j + e, D ++ cpV w, r, C') (by simp only; omega) ⟨by simp only; omega, ?_, ?_, ho'⟩ iS (fun w h => h)
    · refine h2.more (hc1.mk (by omega) (by omega) (by omega) (by omega)) ?_
      rw [← hdd]
      exact take_piece _ _ _
    · simp only [List.length_append]
      rcases Nat.lt_or_ge (n - j) 65536 with h6 | h6
      · have g1 := cpc_one (m := n - j) (by omega) h6
        have g2 := hc1.len (by omega)
        have g3 : n - (j + e) = 0 := by omega
        rw [g3, cpc_zero]; omega
      · have g1 := cpc_many h6
        have g0 : e = 65536 := by omega
        rw [g0] at hc1
        have g2 := hc1.len4 (by omega)
        have g3 : n - (j + e) = n - j - 65536 := by omega
        rw [g3]; omega
  · obtain rfl : j = n := by omega
    refine kR ?_
    exact ⟨_, iC, D, E, h2, by omega, h4, rfl⟩
omit [W0] in
/-- The pieces of 127 of a slice. -/
def ckB (a : Option Addr) (m k : Nat) : Value := match a with
  | some ⟨b, off, none⟩ => .slice (some ⟨b, off + 127 * k * 1, none⟩) (min 127 (m - 127 * k)) (min 127 (m - 127 * k))
  | x => .slice x 0 0
omit [W0] in
def ckL (a : Option Addr) (m : Nat) : List (List Value) := (List.range ((m + 126) / 127)).map fun k => [ckB a m k]
theorem ckL_length (a : Option Addr) (m : Nat) : (ckL a m).length = (m + 126) / 127 := by simp [ckL]
theorem ckL_get (a : Option Addr) (m : Nat) {k : Nat} (h : k < (m + 126) / 127) : (ckL a m).getD k [] = [ckB a m k] := by simp [ckL, List.getD, h]
omit [W0] in
/-- A slice's header that may be cut. -/
def HdB (a : Option Addr) (m c : Nat) : Prop := m ≤ c ∧ (m = 0 ∨ ∃ b off, a = some ⟨b, off, none⟩)
theorem bchunk_c (a : Option Addr) (m c : Nat) (L : List Chunk) :
    Gv Try.prog 39 [.slice a m c, .int .i64 127].toArray L
      (fun r L' => ∃ p q, r = .func (.func 46) #[] #[.pointer (some ⟨p, 0, none⟩), .pointer (some ⟨q, 0, none⟩)] ∧ L' = [(q, cl [.int .i64 127] 3)] :: [(p, cl [.slice a m c] 23)] :: L) := by
  refine Gv.of_body (args := [.slice a m c, .int .i64 127]) Try.func39 rfl rfl ?_
  (repeat' first|refine kW ?_|refine kU fun bk=>?_|refine kV fun hc=>?_|refine kZ (fun hc=>?_) fun hc=>?_|fail)
  first | refine WQ_retH rfl rfl ?_ | refine WQ_endH rfl rfl ?_
  exact ⟨_, fun w h => h, _, _, rfl, rfl⟩
set_option maxHeartbeats 4000000 in
theorem bchunk_it (a : Option Addr) (m c p q : Nat) (hm : m ≤ 100000000) (hh : HdB a m c) :
    It Try.prog 46 [.pointer (some ⟨p, 0, none⟩), .pointer (some ⟨q, 0, none⟩)].toArray ([(q, cl [.int .i64 127] 3)] :: [(p, cl [.slice a m c] 23)] :: []) (ckL a m) := by
  refine It.of_body Try.func46 rfl rfl fun l J L0 h0 hy => ?_
  obtain ⟨Lit, hLit⟩ : ∃ Lit : List Chunk, Lit = [(q, cl [.int .i64 127] 3)] :: [(p, cl [.slice a m c] 23)] :: [] := ⟨_, rfl⟩
  rw [← hLit]
  have fq : ∀ L', Fnd (L' ++ Lit) q (cl [.int .i64 127] 3) := fun L' => by rw [hLit]; exact Fnd.right Fnd.here
  have fp : ∀ L', Fnd (L' ++ Lit) p (cl [.slice a m c] 23) := fun L' => by rw [hLit]; exact Fnd.right (Fnd.there Fnd.here)
  (repeat' first|refine kI ?_|refine kU fun bk=>?_|refine kJ fun hc=>?_|refine kK (fun hc=>?_) fun hc=>?_|fail)
  refine WI_loop (X := Nat × List Chunk) (fun x => [(0, .func (.yield l) #[] #[]), (1, .pointer (some ⟨p, 0, none⟩)), (2, .pointer (some ⟨q, 0, none⟩)), (4, .int .i64 ((127 * x.1 : Nat) : Int))])
    (fun x => x.2 ++ Lit) (fun x => x.1 ≤ (ckL a m).length ∧ J x.1 x.2) (fun x => (ckL a m).length - x.1) (0, L0) ⟨Nat.zero_le _, h0⟩ iS (fun w h => h) ?_
  rintro ⟨k, L'⟩ ⟨hk, hj⟩
  simp only at hk hj ⊢
  rw [ckL_length] at hk
  (repeat' first|refine kI ?_|refine kU fun bk=>?_|refine kJ fun hc=>?_|refine kK (fun hc=>?_) fun hc=>?_|fail)
  refine OW_EV (EV_loadc rfl (fp L') rfl) rfl ?_
  (repeat' first|refine kI ?_|refine kU fun bk=>?_|refine kJ fun hc=>?_|refine kK (fun hc=>?_) fun hc=>?_|fail)
  · have hlt : 127 * k < m := by omega
    obtain ⟨hmc, hh⟩ := hh
    obtain ⟨b, off, rfl⟩ : ∃ b off, a = some ⟨b, off, none⟩ := by
      rcases hh with h | h
      · omega
      · exact h
    refine WI_draw (L' ++ Lit) [] (by repeat (first | with_reducible exact NL.body | with_reducible exact RP_nl | with_reducible exact AP_nl | with_reducible refine NL.then ?_ | with_reducible refine NL.block ?_)) rfl mixed ?_
    (refine WR_take 0 rfl rfl (by kernel_rfl) iP iC (EV_loadc rfl (fq L') rfl) (by rfl) ?_)
    (refine WR_take 1 rfl rfl (by kernel_rfl) iP iC (EV_loadc rfl (fp L') rfl) (by rfl) ?_)
    (refine WR_t 2 ?_)
    (refine WR_take 3 rfl rfl (by kernel_rfl) iP iC (EV_sliceSl (l := 127 * k) (h := m) rfl (bnd_int rfl rfl) rfl (by omega) hmc) (by rfl) ?_)
    (refine WR_t 4 ?_; refine WR_t 5 ?_)
    obtain ⟨e, he⟩ : ∃ e, e = min 127 (m - 127 * k) := ⟨_, rfl⟩
    rw [show min (127 : Int) ((m - 127 * k : Nat) : Int) = (e : Int) from by omega]
    (refine WR_t 6 ?_)
    (refine WR_done (by kernel_rfl) ?_)
    have hck : ckB (some ⟨b, off, none⟩) m k = .slice (some ⟨b, off + 127 * k * 1, none⟩) e e := by rw [he]; rfl
    (repeat' first|refine kI ?_|refine kU fun bk=>?_|refine kJ fun hc=>?_|refine kK (fun hc=>?_) fun hc=>?_|fail)
    refine WI_list ?_
    (repeat' first|refine kL ?_|refine kU fun bk=>?_|refine kJ fun hc=>?_|refine kK (fun hc=>?_) fun hc=>?_|fail)
    refine OW_EV (EV_loadc rfl (fp L') rfl) rfl ?_
    (repeat' first|refine kL ?_|refine kU fun bk=>?_|refine kJ fun hc=>?_|refine kK (fun hc=>?_) fun hc=>?_|fail)
    rw [show ((127 * k : Nat) : Int) + (e : Int) = ((127 * k + e : Nat) : Int) from by omega]
    refine OW_EV (EV_slice3 (l := 127 * k) (h := 127 * k + e) (m := 127 * k + e) rfl rfl rfl rfl (by omega) (Nat.le_refl _) (by omega)) rfl ?_
    rw [if_neg (by omega), show 127 * k + e - 127 * k = e from by omega, ← hck]
    have hyk := hy Lit k L' (by rw [ckL_length]; omega) hj
    rw [ckL_get _ _ (by omega)] at hyk
    refine WJ_yield rfl rfl hyk rfl ?_
    rintro L'' ⟨L3, hj3, rfl⟩
    (repeat' first|refine kL ?_|refine kU fun bk=>?_|refine kJ fun hc=>?_|refine kK (fun hc=>?_) fun hc=>?_|fail)
    (repeat' first|refine kI ?_|refine kU fun bk=>?_|refine kJ fun hc=>?_|refine kK (fun hc=>?_) fun hc=>?_|fail)
    refine OW_EV (EV_loadc rfl (fq L3) rfl) rfl ?_
    (repeat' first|refine kI ?_|refine kU fun bk=>?_|refine kJ fun hc=>?_|refine kK (fun hc=>?_) fun hc=>?_|fail)
    refine WQ_round (X := Nat × List Chunk) (μ := fun x => (ckL (some ⟨b, off, none⟩) m).length - x.1) (x := (k, L')) (k + 1, L3) (by simp only [ckL_length]; omega) ⟨by simp only [ckL_length]; omega, hj3⟩ iS (fun w h => h)
  · have hke : k = (m + 126) / 127 := by omega
    first | refine WQ_retH rfl rfl ?_ | refine WQ_endH rfl rfl ?_
    refine ⟨_, fun w h => h, L', ?_, rfl⟩
    rw [ckL_length, ← hke]
    exact hj
end Go.Proofs.Ytckelgpocplplaa
