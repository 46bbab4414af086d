/- Package delta: numbers written, a delta's head read. It proves no statement by itself. No conditions. -/
import Derived.Test.YtckelgpocplplaaRe
import Derived.Test.YtckelgpocplplaaDa
import Derived.Test.YtckelgpocplplaaTy
import Derived.Test.YtckelgpocplplaaBa
import Derived.Test.YtckelgpocplplaaVj
import Derived.Test.YtckelgpocplplaaVk
namespace Go.Proofs.Ytckelgpocplplaa
open Go Go.Vx Go.Dl
variable [W0]
set_option maxRecDepth 4000
set_option linter.all false

theorem or128 : ∀ b : Fin 256, bitI .or .u8 (b.val : Int) 128 = some (((b.val % 128 + 128 : Nat)) : Int) := by decide +kernel
theorem byte_mod (a : Nat) : (UInt8.ofNat a).toNat = a % 256 := by simp
/-- A byte with the highest bit. -/
theorem EV_or128 {P : Program} {n : Nat} {M : List (Nat × Value)} {L : List Chunk} {d : Nat} {ty : TypeId} {ps : String} {af : Array Edge} {g : Option (Nat × Bool)} {x y : Operand} {t u : TypeId} {i : Int} (a : Nat) (hx : ev M x = some (.int .u8 i)) (hy : ev M y = some (.int .u8 128)) (hi : i = ((UInt8.ofNat a).toNat : Int)) :
    EV P n ⟨some d, .binOp .or t x y u, ty, ps, af, g⟩ M L d (.int .u8 ((UInt8.ofNat (a % 128 + 128)).toNat : Int)) := by
  subst hi
  refine EV_bit hx hy ?_
  have := or128 ⟨(UInt8.ofNat a).toNat, (UInt8.ofNat a).toNat_lt⟩
  rw [this]
  simp only [byte_mod]
  congr 1
  omega
theorem num_big {m : Nat} (h : 128 ≤ m) : num m = UInt8.ofNat (m % 128 + 128) :: num (m / 128) := by
  rw [num, dif_neg (by omega)]
theorem num_small {m : Nat} (h : m < 128) : num m = [UInt8.ofNat m] := by
  rw [num, dif_pos (by omega)]
theorem bsv_snoc (a : List UInt8) (x : UInt8) : bsv (a ++ [x]) = bsv a ++ [Value.int .u8 (x.toNat : Int)] := by simp [bsv]

set_option maxHeartbeats 4000000 in
theorem number_n (n : Int) (L : List Chunk) (hn : n ≤ 9223372036854775807) :
    Gv Try.prog 11 [.int .i64 n].toArray L (fun r L' => ∃ C, L' = C :: L ∧ Ow 5 1 r (num n.toNat).length (bsv (num n.toNat)) C) := by
  refine Gv.of_body (args := [.int .i64 n]) Try.func11 rfl rfl ?_
  obtain ⟨N, hN⟩ : ∃ N, N = n.toNat := ⟨_, rfl⟩
  rw [← hN]
  have hN2 : max n 0 = (N : Int) := by omega
  have hN3 : N ≤ 9223372036854775807 := by omega
  (repeat' first|refine kW ?_|refine kU fun bk=>?_|refine kV fun hc=>?_|refine kZ (fun hc=>?_) fun hc=>?_|fail)
  rw [hN2]
  have hNl : (num N).length ≤ 9 := num_le 8 N (by omega)
  refine WC_loop (X := Nat × List UInt8 × Value × Chunk) (fun x => [(3, x.2.2.1), (4, .int .u64 (x.1 : Int))]) (fun x => x.2.2.2 :: L)
    (fun x => x.1 ≤ 9223372036854775807 ∧ num N = x.2.1 ++ num x.1 ∧ Ow 5 1 x.2.2.1 x.2.1.length (bsv x.2.1) x.2.2.2) (fun x => x.1) (N, [], .slice none 0 0, [])
    ⟨hN3, rfl, .inl ⟨rfl, rfl, rfl, rfl⟩⟩ iS (fun w h => Holds.nil.2 h) ?_
  rintro ⟨m, pre, v, C⟩ ⟨h1, h2, ho⟩
  simp only at h1 h2 ho ⊢
  have hpl : pre.length ≤ 9 := by rw [h2, List.length_append] at hNl; omega
  (repeat' first|refine kW ?_|refine kU fun bk=>?_|refine kV fun hc=>?_|refine kZ (fun hc=>?_) fun hc=>?_|fail)
  · refine OW_EV (EV_or128 m rfl rfl (wrap_byte m)) rfl ?_
    (repeat' first|refine kW ?_|refine kU fun bk=>?_|refine kV fun hc=>?_|refine kZ (fun hc=>?_) fun hc=>?_|fail)
    refine OW_buildSlice (cs := [.int .u8 ((UInt8.ofNat (m % 128 + 128)).toNat : Int)]) rfl (by rfl) (by first | (simp [fillL, patch, Value.cells, zeros]; done) | (simp [fillL, patch, Value.cells, zeros]; rfl)) (by omega) rfl rfl (fun bn => ?_)
    (repeat' first|refine kW ?_|refine kU fun bk=>?_|refine kV fun hc=>?_|refine kZ (fun hc=>?_) fun hc=>?_|fail)
    refine OW_append rfl rfl ho (sl_cells (k := 1) (c := #[.int .u8 ((UInt8.ofNat (m % 128 + 128)).toNat : Int)]) (xs := [.int .u8 ((UInt8.ofNat (m % 128 + 128)).toNat : Int)]) (m := 1) Fnd.here rfl (by simp)) (by repeat (first | exact Zip.here _ | apply Zip.there)) rfl (by rfl) (by omega) (by simp [maxLen]; omega) rfl (fun v' C' ho' _ _ => ?_)
    rw [← bsv_snoc] at ho'
    (repeat' first|refine kW ?_|refine kU fun bk=>?_|refine kV fun hc=>?_|refine kZ (fun hc=>?_) fun hc=>?_|fail)
    rw [show (m : Int) / 128 = ((m / 128 : Nat) : Int) from by omega]
    refine WQ_round (X := Nat × List UInt8 × Value × Chunk) (μ := fun x => x.1) (x := (m, pre, v, C)) (m / 128, pre ++ [UInt8.ofNat (m % 128 + 128)], v', C') (by simp only; omega) ⟨by simp only; omega, ?_, ?_⟩ iS (fun w h => iH h)
    · simp only
      rw [h2, num_big (by omega), List.append_assoc]; rfl
    · simp only
      rw [List.length_append]; exact ho'
  · have hs := num_small (m := m) (by omega)
    rw [wrap_byte]
    refine OW_buildSlice (cs := [.int .u8 ((UInt8.ofNat m).toNat : Int)]) rfl (by rfl) (by first | (simp [fillL, patch, Value.cells, zeros]; done) | (simp [fillL, patch, Value.cells, zeros]; rfl)) (by omega) rfl rfl (fun bn => ?_)
    (repeat' first|refine kW ?_|refine kU fun bk=>?_|refine kV fun hc=>?_|refine kZ (fun hc=>?_) fun hc=>?_|fail)
    refine OW_append rfl rfl ho (sl_cells (k := 1) (c := #[.int .u8 ((UInt8.ofNat m).toNat : Int)]) (xs := [.int .u8 ((UInt8.ofNat m).toNat : Int)]) (m := 1) Fnd.here rfl (by simp)) (by repeat (first | exact Zip.here _ | apply Zip.there)) rfl (by rfl) (by omega) (by simp [maxLen]; omega) rfl (fun v' C' ho' _ _ => ?_)
    rw [← bsv_snoc, ← hs, ← h2] at ho'
    (repeat' first|refine kW ?_|refine kU fun bk=>?_|refine kV fun hc=>?_|refine kZ (fun hc=>?_) fun hc=>?_|fail)
    refine kR ?_
    refine ⟨_, iC, C', rfl, ?_⟩
    rw [h2, hs, List.length_append]
    rw [h2, hs] at ho'
    exact ho'

/-- A piece of bytes that can be read. -/
theorem rs_cut {P : Program} {T e by_ : Nat} [hs : SL P T e 1 by_] {v : Value} {d : List UInt8} {L0 : List Chunk} (hO : Rs L0 1 v d.length (bsv d)) {l h : Nat} (h1 : l ≤ h) (h2 : h ≤ d.length) :
    ∃ r, Rs L0 1 r ((d.drop l).take (h - l)).length (bsv ((d.drop l).take (h - l))) ∧ ∀ {n : Nat} {M : List (Nat × Value)} {L : List Chunk} {dd : Nat} {ty : TypeId} {ps : String} {af : Array Edge} {g : Option (Nat × Bool)} {x : Operand} {lo hi : Option Operand},
      ev M x = some v → bnd M lo 0 = some (l : Int) → bnd M hi d.length = some (h : Int) → EV P n ⟨some dd, .slice T x lo hi none, ty, ps, af, g⟩ M L dd r := by
  obtain ⟨r, h3, h4⟩ := EV_sliceRs (P := P) (T := T) hO h1 h2
  have e1 : ((d.drop l).take (h - l)).length = h - l := by rw [List.length_take, List.length_drop]; omega
  have e2 : bsv ((d.drop l).take (h - l)) = ((bsv d).drop (l * 1)).take ((h - l) * 1) := by simp [bsv, List.map_take, List.map_drop]
  exact ⟨r, by rw [e1, e2]; exact h3, h4⟩
theorem rs_val {L : List Chunk} {k m : Nat} {v : Value} {xs : List Value} (h : Rs L k v m xs) : ∃ a c, v = .slice a m c := by
  obtain ⟨a, c, rfl, _⟩ := h.room
  exact ⟨a, c, rfl⟩
theorem bsv_get {d : List UInt8} {i : Nat} (h : i < d.length) : (bsv d)[i]? = some (.int .u8 ((d[i]).toNat : Int)) := by simp [bsv, h]

theorem cut1_n (x : UInt8) (L : List Chunk) : GvP Try.prog 42 [.int .u8 (x.toNat : Int)].toArray L (.bool (decide (x.toNat < 128))) := by
  refine Gv.of_body (args := [.int .u8 (x.toNat : Int)]) Try.func42 rfl rfl ?_
  (repeat' first|refine kW ?_|refine kU fun bk=>?_|refine kV fun hc=>?_|refine kZ (fun hc=>?_) fun hc=>?_|fail)
  rw [show decide ((x.toNat : Int) < 128) = decide (x.toNat < 128) from decide_eq_decide.2 (by omega)]
  exact kE
set_option maxHeartbeats 2000000 in
theorem indexf_n (v : Value) (d : List UInt8) (L : List Chunk) (h : Sl L 1 v d.length (bsv d)) (hl : d.length ≤ 140737488355328) :
    GvP Try.prog 41 [v, .func (.func 42) #[] #[]].toArray L (.int .i64 ((ctN d : Int) - 1)) := by
  refine Gv.of_body (args := [v, .func (.func 42) #[] #[]]) Try.func41 rfl rfl ?_
  obtain ⟨va, vc, rfl⟩ := sl_slice h
  (repeat' first|refine kW ?_|refine kU fun bk=>?_|refine kV fun hc=>?_|refine kZ (fun hc=>?_) fun hc=>?_|fail)
  refine WC_loop (X := Nat) (fun i => [(0, .slice va d.length vc), (1, .func (.func 42) #[] #[]), (7, .int .i64 (d.length : Int)), (8, .int .i64 (i : Int))]) (fun _ => L)
    (fun i => i ≤ d.length ∧ ctN d = if ctN (d.drop i) = 0 then 0 else ctN (d.drop i) + i) (fun i => d.length - i) 0 ⟨Nat.zero_le _, by simp⟩ iS (fun w h => h) ?_
  rintro i ⟨hi, hc0⟩
  (repeat' first|refine kW ?_|refine kU fun bk=>?_|refine kV fun hc=>?_|refine kZ (fun hc=>?_) fun hc=>?_|fail)
  · have hlt : i < d.length := by omega
    have hdr : d.drop i = d[i] :: d.drop (i + 1) := List.drop_eq_getElem_cons hlt
    obtain ⟨b, off, cap, cc, T, fr, hve, hfn, hcell⟩ := sl_at h (bsv_get hlt)
    injection hve with q1 q2 q3
    subst q1 q3
    clear q2
    refine OW_EV (EV_indexAddr (j := i) rfl rfl rfl hlt) rfl ?_
    (repeat' first|refine kW ?_|refine kU fun bk=>?_|refine kV fun hc=>?_|refine kZ (fun hc=>?_) fun hc=>?_|fail)
    refine OW_EV (EV_load rfl hfn hcell) rfl ?_
    (repeat' first|refine kW ?_|refine kU fun bk=>?_|refine kV fun hc=>?_|refine kZ (fun hc=>?_) fun hc=>?_|fail)
    haveI : BD Try.prog 42 := ⟨by kernel_rfl⟩
    refine OW_callP rfl rfl rfl (cut1_n d[i] L) rfl ?_
    rw [hdr] at hc0
    by_cases hx : (d[i]).toNat < 128
    · rw [decide_eq_true hx]
      rw [ctN, if_pos hx, if_neg (by decide)] at hc0
      (repeat' first|refine kW ?_|refine kU fun bk=>?_|refine kV fun hc=>?_|refine kZ (fun hc=>?_) fun hc=>?_|fail)
      rw [show (i : Int) = (ctN d : Int) - 1 from by omega]
      exact kE
    · rw [decide_eq_false hx]
      rw [ctN, if_neg hx] at hc0
      (repeat' first|refine kW ?_|refine kU fun bk=>?_|refine kV fun hc=>?_|refine kZ (fun hc=>?_) fun hc=>?_|fail)
      refine WQ_round (X := Nat) (μ := fun i => d.length - i) (x := i) (i + 1) (by omega) ⟨by omega, ?_⟩ iS (fun w h => h)
      rw [hc0]
      split <;> simp_all
      omega
  · obtain rfl : i = d.length := by omega
    rw [List.drop_length, ctN, if_pos rfl] at hc0
    rw [hc0]
    exact kE
set_option maxHeartbeats 2000000 in
theorem dcut_n (v : Value) (d : List UInt8) (L : List Chunk) (h : Rs L 1 v d.length (bsv d)) (hl : d.length ≤ 140737488355328) :
    Gv Try.prog 32 [v].toArray L (fun r L' => ∃ v1 v2, r = .tuple #[v1, v2] ∧ Rs L 1 v1 (szA d).length (bsv (szA d)) ∧ Rs L 1 v2 (szR d).length (bsv (szR d)) ∧ L' = L) := by
  refine Gv.of_body (args := [v]) Try.func32 rfl rfl ?_
  have hle := ctN_le d
  by_cases h0 : ctN d = 0
  · have hix := indexf_n v d L h.sl hl
    rw [h0] at hix
    (repeat' first|refine kW ?_|refine kU fun bk=>?_|refine kV fun hc=>?_|refine kZ (fun hc=>?_) fun hc=>?_|fail)
    refine OW_callP rfl rfl rfl hix rfl ?_
    (repeat' first|refine kW ?_|refine kU fun bk=>?_|refine kV fun hc=>?_|refine kZ (fun hc=>?_) fun hc=>?_|fail)
    refine kR ?_
    refine ⟨_, iC, _, _, rfl, ?_, ?_, rfl⟩
    · unfold szA; rw [h0]; exact Rs.nil
    · unfold szR; rw [if_pos h0]; exact Rs.nil
  · have hix := indexf_n v d L h.sl hl
    obtain ⟨r1, q1, e1⟩ := rs_cut (P := Try.prog) (T := 23) h (l := 0) (h := ctN d) (Nat.zero_le _) hle
    obtain ⟨r2, q2, e2⟩ := rs_cut (P := Try.prog) (T := 23) h (l := ctN d) (h := d.length) hle (Nat.le_refl _)
    rw [List.drop_zero, Nat.sub_zero] at q1
    rw [List.take_of_length_le (by rw [List.length_drop]; exact Nat.le_refl _)] at q2
    obtain ⟨va, vc, rfl⟩ := rs_val h
    (repeat' first|refine kW ?_|refine kU fun bk=>?_|refine kV fun hc=>?_|refine kZ (fun hc=>?_) fun hc=>?_|fail)
    refine OW_callP rfl rfl rfl hix rfl ?_
    (repeat' first|refine kW ?_|refine kU fun bk=>?_|refine kV fun hc=>?_|refine kZ (fun hc=>?_) fun hc=>?_|fail)
    refine WC_drawAll [] mixed ?_
    (refine WR_t 0 ?_; refine WR_t 1 ?_; refine WR_t 2 ?_)
    (refine WR_take 3 rfl rfl (by kernel_rfl) iP iC (e1 rfl rfl (bnd_int rfl (by omega))) (by rfl) ?_)
    (refine WR_t 4 ?_; refine WR_t 5 ?_; refine WR_t 6 ?_)
    (refine WR_take 7 rfl rfl (by kernel_rfl) iP iC (e2 rfl (bnd_int rfl (by omega)) rfl) (by rfl) ?_)
    (refine WR_t 8 ?_; refine WR_t 9 ?_)
    (refine WR_done (by kernel_rfl) ?_)
    (repeat' first|refine kW ?_|refine kU fun bk=>?_|refine kV fun hc=>?_|refine kZ (fun hc=>?_) fun hc=>?_|fail)
    refine kR ?_
    refine ⟨_, iC, _, _, rfl, q1, ?_, rfl⟩
    unfold szR; rw [if_neg h0]; exact q2
end Go.Proofs.Ytckelgpocplplaa
