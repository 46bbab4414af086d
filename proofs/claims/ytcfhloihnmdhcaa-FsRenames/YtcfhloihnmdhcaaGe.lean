/- FsRenames returns true and leaves its arguments as they were, wherever what it reads is of bulk at most 1048576. Condition: that bound alone. -/
import Derived.Test.YtcfhloihnmdhcaaGc
import Derived.Test.YtcfhloihnmdhcaaGd
namespace Go.Proofs.Ytcfhloihnmdhcaa
open Go Go.Vx Go.ChangeShapes Go.WideShapes Go.ChangeAt Go.RowKit
set_option maxRecDepth 4000
set_option linter.all false

theorem renames_row (v0 v1 v2 : Value) (l0 c0 l1 c1 l2 c2 : Nat) (a0 a1 a2 : Option Addr) (fuse names : Int) (W : World) (x0 x1 x2 : List Int)
    (hl0 : x0.length = l0) (hl1 : x1.length = l1) (hl2 : x2.length = l2) (hw0 : ∀ n ∈ x0, (Lit.int .u8 n).wf = true) (hw1 : ∀ n ∈ x1, (Lit.int .u8 n).wf = true)
    (h0 : Sl [blks W] 1 (.slice a0 l0 c0) l0 (x0.map (Value.int .u8))) (h1 : Sl [blks W] 1 (.slice a1 l1 c1) l1 (x1.map (Value.int .u8))) (h2 : Sl [blks W] 1 (.slice a2 l2 c2) l2 (x2.map (Value.int .i64)))
    (hb0 : l0 ≤ 1048576) (hb1 : l1 ≤ 1048576) (hf : (Lit.int .i64 fuse).wf = true) :
    Calls Try.prog 7 #[.slice a0 l0 c0, .slice a1 l1 c1, .int .i64 fuse, .int .i64 names, .slice a2 l2 c2] W fun e W' => e = .returned (.bool true) ∧ Kept W W' := by
  subst hl0 hl1 hl2
  have hk : -9223372036854775808 ≤ fuse ∧ fuse ≤ 9223372036854775807 := by
    simpa [Lit.wf, IntKind.min, IntKind.max, IntKind.signed, IntKind.bits] using hf
  refine bridge (fun {i} => ?_)
  refine renames_1 (x0.map fun n => UInt8.ofNat n.toNat) (x1.map fun n => UInt8.ofNat n.toNat) fuse names x2 _ _ _ _ ?_ ?_ h2 (by simp; omega) (by simp; omega) hk
  · rw [bytes_of x0 hw0]; simpa using h0
  · rw [bytes_of x1 hw1]; simpa using h1

theorem renames_contract (H : Type) (enc : TypeId × Value → H) (W : World) (base : Nat) (args : Array Value) (ds gs : List (DataW H)) (before : List MemPlace)
    (hval : ∀ (j : Nat) t v, Try.f7.params[j]? = some t → args[j]? = some v → Value.okWide Try.prog W .any base t v)
    (hW : DataW.Whole enc Try.prog Try.f7.params.toList Rows.fsRenamesSpec.vars false W args.toList ds gs before) (hk : Rows.uptoSmall H (ds ++ gs) = true) :
    Calls Try.prog 7 args W fun e W' => ∃ v, e = .returned v ∧ Rows.fsRenamesSpec.post enc Try.prog Try.f7 false true false false W args v W' := by
  have hW' := hW
  obtain ⟨p, q, hA0, hV, rfl, hfz, hnd⟩ := hW
  have hA : DataW.TrodAll enc Try.prog W 0 (fun _ => true) true Try.f7.params.toList args.toList ds p := hA0
  rw [Try.params7] at hA hval
  obtain ⟨v0, vs0, d0, ds0, p0, q0, hargs, rfl, rfl, h0, r0⟩ := trodAll_cons hA
  obtain ⟨v1, vs1, d1, ds1, p1, q1, rfl, rfl, rfl, h1, r1⟩ := trodAll_cons r0
  obtain ⟨v2, vs2, d2, ds2, p2, q2, rfl, rfl, rfl, h2, r2⟩ := trodAll_cons r1
  obtain ⟨v3, vs3, d3, ds3, p3, q3, rfl, rfl, rfl, h3, r3⟩ := trodAll_cons r2
  obtain ⟨v4, vs4, d4, ds4, p4, q4, rfl, rfl, rfl, h4, r4⟩ := trodAll_cons r3
  obtain ⟨rfl, rfl, rfl⟩ := trodAll_nil r4
  obtain rfl : args = #[v0, v1, v2, v3, v4] := by cases args; simp_all
  obtain ⟨rfl, rfl⟩ := trodVars_none hV
  obtain ⟨a0, l0, c0, rfl⟩ := okWide_slice Try.underlying27 (hval 0 _ v0 rfl rfl)
  obtain ⟨a1, l1, c1, rfl⟩ := okWide_slice Try.underlying27 (hval 1 _ v1 rfl rfl)
  obtain ⟨a4, l4, c4, rfl⟩ := okWide_slice Try.underlying22 (hval 4 _ v4 rfl rfl)
  obtain ⟨x0, k0, w0, s0, b0⟩ := open_row Try.underlying27 Try.underlying5 (by kernel_rfl) h0
  obtain ⟨x1, k1, w1, s1, b1⟩ := open_row Try.underlying27 Try.underlying5 (by kernel_rfl) h1
  obtain ⟨x4, k4, w4, s4, b4⟩ := open_row Try.underlying22 Try.underlying3 (by kernel_rfl) h4
  obtain ⟨fuse, rfl, rfl, rfl, wf⟩ := open_int Try.underlying3 (hval 2 _ v2 rfl rfl) h2
  obtain ⟨names, rfl, rfl, rfl, wn⟩ := open_int Try.underlying3 (hval 3 _ v3 rfl rfl) h3
  clear hA0
  have lt0 : ∀ x ∈ p0, x.block < W.heap.size := by obtain ⟨m, hm⟩ := h0; exact DataW.trod_lt m _ _ _ hm
  have lt1 : ∀ x ∈ p1, x.block < W.heap.size := by obtain ⟨m, hm⟩ := h1; exact DataW.trod_lt m _ _ _ hm
  have lt4 : ∀ x ∈ p4, x.block < W.heap.size := by obtain ⟨m, hm⟩ := h4; exact DataW.trod_lt m _ _ _ hm
  have hbulk : Rows.uptoBulk d0 + (Rows.uptoBulk d1 + Rows.uptoBulk d4) ≤ 1048576 := by
    simp only [Rows.uptoSmall, decide_eq_true_eq, List.append_nil, Rows.uptoBulkAll, Rows.uptoBulk] at hk
    omega
  refine (renames_row (.slice a0 l0 c0) (.slice a1 l1 c1) (.slice a4 l4 c4) l0 c0 l1 c1 l4 c4 a0 a1 a4 fuse names W x0 x1 x4 k0 k1 k4 w0 w1 s0 s1 s4 (by omega) (by omega) wf).mono fun e W' ⟨he, bel⟩ => ?_
  subst he
  exact ⟨_, rfl, _, _, _, [], _, [], hW', trodAll_mk1 (shut_bool Try.underlying4 _), (trodAll_cons_mk (Kept.trod Try.laidOut (by kernel_rfl) (of_decide_eq_true (by kernel_rfl)) h0 bel lt0) (trodAll_cons_mk (Kept.trod Try.laidOut (by kernel_rfl) (of_decide_eq_true (by kernel_rfl)) h1 bel lt1) (trodAll_cons_mk (shut_int Try.underlying3 wf) (trodAll_cons_mk (shut_int Try.underlying3 wn) (trodAll_cons_mk (Kept.trod Try.laidOut (by kernel_rfl) (of_decide_eq_true (by kernel_rfl)) h4 bel lt4) trodAll_mk0))))), rfl, bel.frame _, fun h => by cases h⟩

set_option maxRecDepth 100000 in
theorem renames_lifted (os : Os) (started : os.Started) (H : Type) (enc : TypeId × Value → H) (F : Stop.Interp) :
    ReturnsInHanded {} Try.checked os 7 .any ((Rows.OpenSpec.upto Rows.fsRenamesSpec).pre6 enc Try.prog Try.f7 Rows.fsRenamesUptoRow.domain false) (((Rows.OpenSpec.upto Rows.fsRenamesSpec).at F).post enc Try.prog Try.f7 false true false false) := by
  refine returnsInHanded_of_cond (C := Try.checked) (s := Rows.OpenSpec.upto Rows.fsRenamesSpec) (k := Rows.uptoSmall) rfl Try.own started (by kernel_rfl) Try.func7
    (OpenSpec.witness (enc := enc) (C := Try.checked) (s := Rows.OpenSpec.upto Rows.fsRenamesSpec) (k := Rows.uptoSmall) rfl false ⟨#[], #[.slice none 0 0, .slice none 0 0, .int .i64 0, .int .i64 0, .slice none 0 0], []⟩ 8 (by kernel_rfl) (by kernel_rfl) (by kernel_rfl)
      (x := ([.nil, .nil, .lit (.int .i64 0), .lit (.int .i64 0), .nil], [], [])) (by kernel_rfl) rfl (by kernel_rfl)) ?_
  intro W base args ds gs before hval hW _ hk _
  exact renames_contract H enc W base args ds gs before hval hW hk

theorem renames_over : Rows.fsRenamesUptoRow.holds Try.pinned (Rows.OpenSpec.upto Rows.fsRenamesSpec) :=
  OpenClaim.holds_of_cond 7 Try.f7 rfl rfl rfl rfl rfl rfl rfl ⟨rfl, rfl, rfl, rfl, rfl⟩ rfl rfl rfl rfl rfl (by kernel_rfl) Try.func7 (by kernel_rfl)
    (of_decide_eq_true (by kernel_rfl)) (by unfold Func.isWrapper; first | (rw [if_pos (by decide +kernel)]; kernel_rfl) | (rw [if_neg (by decide +kernel)]; exact ⟨rfl, rfl⟩))
    (fun os started H enc _ F => renames_lifted os started H enc F)

theorem renames_holds : Rows.FsRenamesUptoSaid :=
  renames_over
end Go.Proofs.Ytcfhloihnmdhcaa
