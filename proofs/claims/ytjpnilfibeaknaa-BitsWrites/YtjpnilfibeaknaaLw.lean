/- BitsWrites returns true and leaves its arguments as they were, wherever what it reads is of bulk at most 1048576. Condition: that bound. -/
import Derived.Test.YtjpnilfibeaknaaBi
import Derived.Test.YtjpnilfibeaknaaVe
namespace Go.Proofs.Ytjpnilfibeaknaa
open Go Go.Vx Go.ChangeShapes Go.WideShapes Go.ChangeAt Go.RowKit
set_option linter.all false
set_option maxRecDepth 4000

theorem bulk_mem {H : Type} {d : DataW H} : ∀ {l : List (DataW H)}, d ∈ l → Rows.uptoBulk d ≤ Rows.uptoBulkAll l
  | [], h => by simp at h
  | x :: r, h => by
    simp only [Rows.uptoBulkAll]
    rcases List.mem_cons.1 h with h2 | h2
    · subst h2; omega
    · have := bulk_mem h2; omega

/-- A slice of integers in a cell that came in. -/
theorem open_cellB {H : Type} {enc : TypeId × Value → H} {P : Program} {W : World} {t e fuel : Nat} {k : IntKind} {cs : List Value} {x : DataW H × List MemPlace} (ht : P.underlying t = some (.slice e)) (he : P.underlying e = some (.int k)) (hc : P.cellsOf e = 1)
    (h : DataW.trod enc P W 0 (fun _ => true) true fuel t cs = some x) :
    ∃ (v : Value) (xs : List Int), cs = [v] ∧ (∀ n ∈ xs, (Lit.int k n).wf = true) ∧ Sl [blks W] 1 v xs.length (xs.map (Value.int k)) ∧ xs.length ≤ Rows.uptoBulk x.1 := by
  have hcs : ∃ a len cap, cs = [.slice a len cap] := by
    rcases open_ints ht he hc h with ⟨h1, _⟩ | ⟨y, l, c, zs, h1, _⟩
    · exact ⟨_, _, _, h1⟩
    · exact ⟨_, _, _, h1⟩
  obtain ⟨a, len, cap, rfl⟩ := hcs
  obtain ⟨xs, hx, hw, hs, hbk⟩ := open_row (enc := enc) (a := a) (len := len) (cap := cap) (d := x.1) (ps := x.2) ht he hc ⟨fuel, by simpa [Value.cells] using h⟩
  subst hx
  exact ⟨_, xs, rfl, hw, hs, hbk⟩
theorem take_oneB {cs : List Value} {i : Nat} {v : Value} (h : (cs.drop i).take 1 = [v]) : cs[i]? = some v := by
  have : ((cs.drop i).take 1)[0]? = some v := by rw [h]; rfl
  simpa using this

theorem open_opB {H : Type} {enc : TypeId × Value → H} {W : World} {fuel : Nat} {cs : List Value} {x : DataW H × List MemPlace} (h : DataW.trod enc Try.prog W 0 (fun _ => true) true fuel 39 cs = some x) :
    ∃ (o : OpB) (w3 : Value), cs = opB o w3 ∧ Sl [blks W] 1 w3 o.data.length (bsv o.data) ∧ o.data.length ≤ Rows.uptoBulk x.1 := by
  obtain ⟨xs, n, rfl, rfl, hl, hxl, hf⟩ := DataW.trod_struct Try.underlying39 h
  have hxl : xs.length = 4 := hxl
  have hl : cs.length = 4 := by rw [hl]; kernel_rfl
  have c_bytes : Try.prog.cellsOf 23 = 1 := by kernel_rfl
  have c_int : Try.prog.cellsOf 3 = 1 := by kernel_rfl
  have c_u32 : Try.prog.cellsOf 22 = 1 := by kernel_rfl
  obtain ⟨y0, m0, t0⟩ : ∃ y, y ∈ xs ∧ DataW.trod enc Try.prog W 0 (fun _ => true) true n 3 ((cs.drop 0).take (Try.prog.cellsOf 3)) = some y := by
    have := hf 0 _ rfl
    rw [List.getElem?_eq_getElem (by omega)] at this
    exact ⟨_, List.getElem_mem _, this⟩
  rw [c_int] at t0
  obtain ⟨y1, m1, t1⟩ : ∃ y, y ∈ xs ∧ DataW.trod enc Try.prog W 0 (fun _ => true) true n 3 ((cs.drop 1).take (Try.prog.cellsOf 3)) = some y := by
    have := hf 1 _ rfl
    rw [List.getElem?_eq_getElem (by omega)] at this
    exact ⟨_, List.getElem_mem _, this⟩
  rw [c_int] at t1
  obtain ⟨y2, m2, t2⟩ : ∃ y, y ∈ xs ∧ DataW.trod enc Try.prog W 0 (fun _ => true) true n 22 ((cs.drop 2).take (Try.prog.cellsOf 22)) = some y := by
    have := hf 2 _ rfl
    rw [List.getElem?_eq_getElem (by omega)] at this
    exact ⟨_, List.getElem_mem _, this⟩
  rw [c_u32] at t2
  obtain ⟨y3, m3, t3⟩ : ∃ y, y ∈ xs ∧ DataW.trod enc Try.prog W 0 (fun _ => true) true n 23 ((cs.drop 3).take (Try.prog.cellsOf 23)) = some y := by
    have := hf 3 _ rfl
    rw [List.getElem?_eq_getElem (by omega)] at this
    exact ⟨_, List.getElem_mem _, this⟩
  rw [c_bytes] at t3
  obtain ⟨u0, e0, _⟩ := DataW.trod_int Try.underlying3 t0
  obtain ⟨u1, e1, _⟩ := DataW.trod_int Try.underlying3 t1
  obtain ⟨u2, e2, _, w2⟩ := DataW.trod_int Try.underlying22 t2
  obtain ⟨u2, rfl, hl2⟩ := nat_of_wf (k := .u32) rfl w2
  obtain ⟨w3, u3, e3, f3, s3, bk3⟩ := open_cellB Try.underlying23 Try.underlying5 (by kernel_rfl) t3
  refine ⟨⟨u0, u1, u2, u3.map fun n => UInt8.ofNat n.toNat, hl2⟩, w3, ?_, ?_, ?_⟩
  · have q0 := take_oneB e0
    have q1 := take_oneB e1
    have q2 := take_oneB e2
    have q3 := take_oneB e3
    match cs, hl with
    | [z0, z1, z2, z3], _ =>
      simp at q0 q1 q2 q3
      subst q0 q1 q2 q3
      rfl
  · show Sl [blks W] 1 w3 (List.map (fun n : Int => UInt8.ofNat n.toNat) u3).length (bsv (List.map (fun n : Int => UInt8.ofNat n.toNat) u3))
    rw [bytes_of u3 f3]; simpa using s3
  · have : Rows.uptoBulk y3.1 ≤ Rows.uptoBulkAll (xs.map (fun x => x.1)) := bulk_mem (List.mem_map_of_mem (f := fun x => x.1) m3)
    simp only [Rows.uptoBulk, List.length_map]
    omega

theorem open_opsB {H : Type} {enc : TypeId × Value → H} {W : World} {a : Option Addr} {len cap : Nat} {d : DataW H} {ps : List MemPlace} (h : DataW.Trod enc Try.prog W 0 (fun _ => true) true 32 (.slice a len cap) d ps) :
    ∃ ops : List OpB, BopsAt [blks W] (.slice a len cap) ops ∧ ops.length = len ∧ ∀ o ∈ ops, o.data.length ≤ Rows.uptoBulk d := by
  letI : W0 := ⟨W.os, W.output⟩
  obtain ⟨fuel, hf⟩ := h
  rcases DataW.trod_slice Try.underlying32 hf with ⟨hcs, _⟩ | ⟨x, l, c, elems, rest, n, _, hcs, hxx, _, hl, _, hel, hat, _, _⟩
  · simp [Value.cells] at hcs
    obtain ⟨rfl, rfl, rfl⟩ := hcs
    exact ⟨[], ⟨⟨_, _, rfl⟩, fun i o h => by simp at h⟩, rfl, fun o h => by simp at h⟩
  · simp [Value.cells] at hcs
    obtain ⟨rfl, rfl, rfl⟩ := hcs
    have csz : Try.prog.cellsOf 39 = 4 := by kernel_rfl
    simp only [csz] at hat
    have hdd : d = .slice (elems.map (·.1)) (rest.map (·.1)) := by injection hxx
    have hbd : ∀ y ∈ elems, Rows.uptoBulk y.1 ≤ Rows.uptoBulk d := fun y hy => by
      have := bulk_mem (List.mem_map_of_mem (f := (·.1)) hy)
      rw [hdd]; simp only [Rows.uptoBulk]; omega
    clear hxx
    have hsp : 0 < len → x.spot = none := fun hp => by
      have h1 := hat 0 hp
      rw [List.getElem?_eq_getElem (by omega)] at h1
      obtain ⟨cs, h2, h3⟩ := Option.bind_eq_some_iff.1 h1
      obtain ⟨_, h4, h5⟩ := World.cells?_some h2
      obtain ⟨o, w3, rfl, g0, k0⟩ := open_opB h3
      have h6 := h5 0 (by omega)
      have := World.cell?_spot (h6.trans (by rfl : (opB o w3)[0]? = some (.int .i64 o.kind)))
      simpa [Addr.add] using this
    have key : ∀ i, i < len → ∃ (o : OpB) (w3 : Value) (b off : Nat), x = ⟨b, off, none⟩ ∧ RdAt [blks W] ⟨b, off + i * 4, none⟩ (opB o w3) ∧ Sl [blks W] 1 w3 o.data.length (bsv o.data) ∧ o.data.length ≤ Rows.uptoBulk d := by
      intro i hi
      have h1 := hat i hi
      rw [List.getElem?_eq_getElem (by omega)] at h1
      obtain ⟨cs, h2, h3⟩ := Option.bind_eq_some_iff.1 h1
      obtain ⟨_, h4, h5⟩ := World.cells?_some h2
      obtain ⟨o, w3, rfl, g0, k0⟩ := open_opB h3
      have h6 := h5 0 (by omega)
      obtain ⟨b, off, spot⟩ := x
      have hspot : spot = none := hsp (by omega)
      subst hspot
      rw [addr_add, addr_add] at h6
      have hblk : ∃ C T fr, W.heap[b]? = some (.cells C T fr) := by
        have h7 : W.cell? ⟨b, off + i * 4 + 0, none⟩ = some (.int .i64 o.kind) := h6
        unfold World.cell? at h7
        split at h7
        · rename_i C T fr hb; exact ⟨C, T, fr, hb⟩
        · cases h7
      obtain ⟨C, T, fr, hb⟩ := hblk
      refine ⟨o, w3, b, off, rfl, .inr ⟨b, _, C, T, fr, rfl, by simpa [Fnd] using blks_mem.2 hb, fun j u hj => ?_⟩, g0, Nat.le_trans k0 (hbd _ (List.getElem_mem _))⟩
      have hj6 : j < 4 := by
        rcases Nat.lt_or_ge j 4 with h' | h'
        · exact h'
        · rw [List.getElem?_eq_none (by simp [opB]; omega)] at hj; simp at hj
      have h8 := h5 j hj6
      rw [addr_add, addr_add, cell_of hb] at h8
      rw [h8]; exact hj
    have hex : ∃ ops : List OpB, ops.length = len ∧ ∀ i o, ops[i]? = some o → ∃ (w3 : Value) (b off : Nat), x = ⟨b, off, none⟩ ∧ RdAt [blks W] ⟨b, off + i * 4, none⟩ (opB o w3) ∧ Sl [blks W] 1 w3 o.data.length (bsv o.data) ∧ o.data.length ≤ Rows.uptoBulk d := by
      clear hf hat hel hbd
      have : ∀ m, m ≤ len → ∃ ops : List OpB, ops.length = m ∧ ∀ i o, ops[i]? = some o → ∃ (w3 : Value) (b off : Nat), x = ⟨b, off, none⟩ ∧ RdAt [blks W] ⟨b, off + i * 4, none⟩ (opB o w3) ∧ Sl [blks W] 1 w3 o.data.length (bsv o.data) ∧ o.data.length ≤ Rows.uptoBulk d := by
        intro m
        induction m with
        | zero => intro _; exact ⟨[], rfl, fun i o h => by simp at h⟩
        | succ m ih =>
          intro hm
          obtain ⟨ops, h1, h2⟩ := ih (by omega)
          obtain ⟨o, r⟩ := key m (by omega)
          refine ⟨ops ++ [o], by simp [h1], fun i u hu => ?_⟩
          rcases Nat.lt_or_ge i ops.length with h' | h'
          · rw [List.getElem?_append_left h'] at hu; exact h2 i u hu
          · rw [List.getElem?_append_right h'] at hu
            have hi0 : i = m := by
              rcases Nat.eq_zero_or_pos (i - ops.length) with h3 | h3
              · omega
              · rw [List.getElem?_eq_none (by simp; omega)] at hu; simp at hu
            subst hi0
            rw [h1] at hu
            simp at hu
            subst hu
            exact r
      exact this len (Nat.le_refl _)
    obtain ⟨ops, h1, h2⟩ := hex
    refine ⟨ops, ⟨⟨_, _, by rw [h1]⟩, fun i o ho => ?_⟩, h1, fun o ho => ?_⟩
    · obtain ⟨w3, b, off, rfl, hr, g0, k0⟩ := h2 i o ho
      exact ⟨b, off, cap, w3, by rw [h1], hr, g0⟩
    · obtain ⟨i, hi⟩ := List.getElem?_of_mem ho
      obtain ⟨w3, b, off, rfl, hr, g0, k0⟩ := h2 i o hi
      exact k0


theorem top_row (H : Type) (enc : TypeId × Value → H) (W : World) (base : Nat) (args : Array Value) (ds gs : List (DataW H)) (before : List MemPlace)
    (hval : ∀ (j : Nat) t v, Try.f5.params[j]? = some t → args[j]? = some v → Value.okWide Try.prog W .any base t v)
    (hW : DataW.Whole enc Try.prog Try.f5.params.toList Rows.bitsWritesSpec.vars false W args.toList ds gs before) (hk : Rows.uptoSmall H (ds ++ gs) = true)
    (hz : (DataW.weightsEach Try.prog (Try.f5.params.toList ++ Rows.bitsWritesSpec.plain.varTypes Try.prog) (ds ++ gs)).all (· ≤ reachBytes) = true) (hL : laidMetH Try.prog [] W) :
    Calls Try.prog 5 args W fun e W' => ∃ v, e = .returned v ∧ Rows.bitsWritesSpec.post enc Try.prog Try.f5 false true false false W args v W' := by
  have hW' := hW
  obtain ⟨p, q, hA0, hV, rfl, hfz, hnd⟩ := hW
  have hA : DataW.TrodAll enc Try.prog W 0 (fun _ => true) true Try.f5.params.toList args.toList ds p := hA0
  rw [Try.params5] at hA hval hz
  obtain ⟨v0, vs0, d0, ds0, p0, q0, hargs, rfl, rfl, h0, r0⟩ := trodAll_cons hA
  obtain ⟨rfl, rfl, rfl⟩ := trodAll_nil r0
  obtain rfl : args = #[v0] := by cases args; simp_all
  obtain ⟨rfl, rfl⟩ := trodVars_none hV
  obtain ⟨a0, l0, c0, rfl⟩ := okWide_slice Try.underlying32 (hval 0 _ v0 rfl rfl)
  obtain ⟨x0, s0, e0, b0⟩ := open_opsB h0
  clear hA0
  have lt0 : ∀ x ∈ p0, x.block < W.heap.size := by obtain ⟨m, hm⟩ := h0; exact DataW.trod_lt m _ _ _ hm
  have hbulk : Rows.uptoBulk d0 ≤ 1048576 := by
    simp only [Rows.uptoSmall, decide_eq_true_eq, List.append_nil, Rows.uptoBulkAll, Rows.uptoBulk] at hk
    omega
  have hc : Calls Try.prog 5 #[.slice a0 l0 c0] W fun e W' => e = .returned (.bool true) ∧ Kept W W' := by
    refine bridge (fun {i} => ?_)
    exact writes_n x0 _ _ s0 (fun o ho => by have := b0 o ho; omega)
  refine hc.mono fun e W' ⟨he, bel⟩ => ?_
  subst he
  exact ⟨_, rfl, _, _, _, [], _, [], hW', trodAll_mk1 (shut_bool Try.underlying4 _), (trodAll_cons_mk (Kept.trod Try.laidOut (by kernel_rfl) (of_decide_eq_true (by kernel_rfl)) h0 bel lt0) trodAll_mk0), rfl, bel.frame _, fun h => by cases h⟩

theorem reads (os : Os) {H : Type} (enc : TypeId × Value → H) : ∃ places, DataW.whole enc Try.prog ((World.holding Try.prog os ⟨#[], #[], []⟩).forCall (fun _ _ => 0) ⟨#[], #[.slice none 0 0], []⟩).memory Try.f5.params.toList Rows.bitsWritesSpec.vars false #[.slice none 0 0].toList 8 = some ([.nil], [], places) :=
  ⟨[], by kernel_rfl⟩

set_option maxRecDepth 100000 in
theorem top_lifted (os : Os) (started : os.Started) (H : Type) (enc : TypeId × Value → H) (F : Stop.Interp) :
    ReturnsInHanded {} Try.checked os 5 .any ((Rows.OpenSpec.upto Rows.bitsWritesSpec).preRow enc Try.prog Try.f5 Rows.bitsWritesUptoRow.domain false Rows.bitsWritesUptoRow.laid) (((Rows.OpenSpec.upto Rows.bitsWritesSpec).at F).post enc Try.prog Try.f5 false true false false) := by
  obtain ⟨places, hx⟩ := reads os enc
  refine returnsInHanded_of_row (C := Try.checked) (s := (Rows.OpenSpec.upto Rows.bitsWritesSpec)) Try.own started (by kernel_rfl) Try.func5
    (witness_row_at (enc := enc) (C := Try.checked) false (World.holding Try.prog os ⟨#[], #[], []⟩) #[.slice none 0 0] rfl (by kernel_rfl) (by kernel_rfl) (by kernel_rfl)
      (OpenSpec.preRow_of_cond 8 hx (by kernel_rfl) (fun k hk => by cases hk; kernel_rfl) (by kernel_rfl) (laidMet_of_run' 8 (by kernel_rfl) (by kernel_rfl)))) ?_
  intro W base args ds gs before hval hW _ hcond hz hL _ _
  exact top_row H enc W base args ds gs before hval hW (hcond _ rfl) hz hL

theorem top_over : Rows.BitsWritesUptoSaid :=
  OpenClaim.holds_of_cond 5 Try.f5 rfl rfl rfl rfl rfl rfl rfl ⟨rfl, rfl, rfl, rfl, rfl⟩ rfl rfl rfl rfl rfl (by kernel_rfl) Try.func5 (by kernel_rfl)
    (of_decide_eq_true (by kernel_rfl)) (by unfold Func.isWrapper; first | (rw [if_pos (by decide +kernel)]; kernel_rfl) | (rw [if_neg (by decide +kernel)]; exact ⟨rfl, rfl⟩))
    (fun os started H enc _ F => by rw [OpenClaim.pre_eq_preRow]; exact top_lifted os started H enc F)
theorem top_holds : Rows.BitsWritesUptoSaid := top_over
end Go.Proofs.Ytjpnilfibeaknaa
