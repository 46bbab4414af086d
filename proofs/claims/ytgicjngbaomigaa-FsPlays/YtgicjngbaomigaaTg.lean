/- FsPlays returns true and leaves its arguments as they were, wherever what it reads is of bulk at most 1048576. Condition: that bound alone. -/
import Derived.Test.YtgicjngbaomigaaTf
import Derived.Test.YtgicjngbaomigaaGd
namespace Go.Proofs.Ytgicjngbaomigaa
open Go Go.Vx Go.ChangeShapes Go.WideShapes Go.ChangeAt Go.RowKit
set_option linter.all false
set_option maxRecDepth 4000

theorem bulk_mem {H : Type} {d : DataW H} : ∀ {l : List (DataW H)}, d ∈ l → Rows.uptoBulk d ≤ Rows.uptoBulkAll l
  | [], h => by simp at h
  | x :: r, h => by
    simp only [Rows.uptoBulkAll]
    rcases List.mem_cons.1 h with h2 | h2
    · subst h2; omega
    · have := bulk_mem h2; omega

/-- A slice of integers in a cell that came in. -/
theorem open_cellB {H : Type} {enc : TypeId × Value → H} {P : Program} {W : World} {t e fuel : Nat} {k : IntKind} {cs : List Value} {x : DataW H × List MemPlace} (ht : P.underlying t = some (.slice e)) (he : P.underlying e = some (.int k)) (hc : P.cellsOf e = 1)
    (h : DataW.trod enc P W 0 (fun _ => true) true fuel t cs = some x) :
    ∃ (v : Value) (xs : List Int), cs = [v] ∧ (∀ n ∈ xs, (Lit.int k n).wf = true) ∧ Sl [blks W] 1 v xs.length (xs.map (Value.int k)) ∧ xs.length ≤ Rows.uptoBulk x.1 := by
  have hcs : ∃ a len cap, cs = [.slice a len cap] := by
    rcases open_ints ht he hc h with ⟨h1, _⟩ | ⟨y, l, c, zs, h1, _⟩
    · exact ⟨_, _, _, h1⟩
    · exact ⟨_, _, _, h1⟩
  obtain ⟨a, len, cap, rfl⟩ := hcs
  obtain ⟨xs, hx, hw, hs, hbk⟩ := open_row (enc := enc) (a := a) (len := len) (cap := cap) (d := x.1) (ps := x.2) ht he hc ⟨fuel, by simpa [Value.cells] using h⟩
  subst hx
  exact ⟨_, xs, rfl, hw, hs, hbk⟩
theorem take_oneB {cs : List Value} {i : Nat} {v : Value} (h : (cs.drop i).take 1 = [v]) : cs[i]? = some v := by
  have : ((cs.drop i).take 1)[0]? = some v := by rw [h]; rfl
  simpa using this

/-- A call whose parts are of bulk at most B. -/
structure OkOp (B : Nat) (o : OpD) : Prop where
  d : o.data.length ≤ B
  a : o.a.size ≤ B
  b : o.b.size ≤ B
  n : -9223372036854775808 ≤ o.n ∧ o.n ≤ 9223372036854775807
theorem OkOp.mono {B B' : Nat} {o : OpD} (h : OkOp B o) (hb : B ≤ B') : OkOp B' o :=
  ⟨Nat.le_trans h.d hb, Nat.le_trans h.a hb, Nat.le_trans h.b hb, h.n⟩

theorem open_opB {H : Type} {enc : TypeId × Value → H} {W : World} {fuel : Nat} {cs : List Value} {x : DataW H × List MemPlace} (h : DataW.trod enc Try.prog W 0 (fun _ => true) true fuel 39 cs = some x) :
    ∃ (o : OpD) (w4 w5 : Value), cs = opC o w4 w5 ∧ Sl [blks W] 1 w4 o.data.length (bsv o.data) ∧ Sl [blks W] 1 w5 o.keep.length (intsV o.keep) ∧ OkOp (Rows.uptoBulk x.1) o := by
  obtain ⟨xs, n, rfl, rfl, hl, hxl, hf⟩ := DataW.trod_struct Try.underlying39 h
  have hxl : xs.length = 6 := hxl
  have hl : cs.length = 6 := by rw [hl]; kernel_rfl
  have c_bytes : Try.prog.cellsOf 27 = 1 := by kernel_rfl
  have c_int : Try.prog.cellsOf 3 = 1 := by kernel_rfl
  have c_ints : Try.prog.cellsOf 22 = 1 := by kernel_rfl
  have c_string : Try.prog.cellsOf 9 = 1 := by kernel_rfl
  obtain ⟨y0, m0, t0⟩ : ∃ y, y ∈ xs ∧ DataW.trod enc Try.prog W 0 (fun _ => true) true n 3 ((cs.drop 0).take (Try.prog.cellsOf 3)) = some y := by
    have := hf 0 _ rfl
    rw [List.getElem?_eq_getElem (by omega)] at this
    exact ⟨_, List.getElem_mem _, this⟩
  rw [c_int] at t0
  obtain ⟨y1, m1, t1⟩ : ∃ y, y ∈ xs ∧ DataW.trod enc Try.prog W 0 (fun _ => true) true n 3 ((cs.drop 1).take (Try.prog.cellsOf 3)) = some y := by
    have := hf 1 _ rfl
    rw [List.getElem?_eq_getElem (by omega)] at this
    exact ⟨_, List.getElem_mem _, this⟩
  rw [c_int] at t1
  obtain ⟨y2, m2, t2⟩ : ∃ y, y ∈ xs ∧ DataW.trod enc Try.prog W 0 (fun _ => true) true n 9 ((cs.drop 2).take (Try.prog.cellsOf 9)) = some y := by
    have := hf 2 _ rfl
    rw [List.getElem?_eq_getElem (by omega)] at this
    exact ⟨_, List.getElem_mem _, this⟩
  rw [c_string] at t2
  obtain ⟨y3, m3, t3⟩ : ∃ y, y ∈ xs ∧ DataW.trod enc Try.prog W 0 (fun _ => true) true n 9 ((cs.drop 3).take (Try.prog.cellsOf 9)) = some y := by
    have := hf 3 _ rfl
    rw [List.getElem?_eq_getElem (by omega)] at this
    exact ⟨_, List.getElem_mem _, this⟩
  rw [c_string] at t3
  obtain ⟨y4, m4, t4⟩ : ∃ y, y ∈ xs ∧ DataW.trod enc Try.prog W 0 (fun _ => true) true n 27 ((cs.drop 4).take (Try.prog.cellsOf 27)) = some y := by
    have := hf 4 _ rfl
    rw [List.getElem?_eq_getElem (by omega)] at this
    exact ⟨_, List.getElem_mem _, this⟩
  rw [c_bytes] at t4
  obtain ⟨y5, m5, t5⟩ : ∃ y, y ∈ xs ∧ DataW.trod enc Try.prog W 0 (fun _ => true) true n 22 ((cs.drop 5).take (Try.prog.cellsOf 22)) = some y := by
    have := hf 5 _ rfl
    rw [List.getElem?_eq_getElem (by omega)] at this
    exact ⟨_, List.getElem_mem _, this⟩
  rw [c_ints] at t5
  obtain ⟨u0, e0, _⟩ := DataW.trod_int Try.underlying3 t0
  obtain ⟨u1, e1, _, wf1⟩ := DataW.trod_int Try.underlying3 t1
  obtain ⟨u2, e2, f2, _⟩ := DataW.trod_string Try.underlying9 t2
  obtain ⟨u3, e3, f3, _⟩ := DataW.trod_string Try.underlying9 t3
  obtain ⟨w4, u4, e4, f4, s4, bk4⟩ := open_cellB Try.underlying27 Try.underlying5 (by kernel_rfl) t4
  obtain ⟨w5, u5, e5, f5, s5, bk5⟩ := open_cellB Try.underlying22 Try.underlying3 (by kernel_rfl) t5
  refine ⟨⟨u0, u1, u2, u3, u4.map fun n => UInt8.ofNat n.toNat, u5⟩, w4, w5, ?_, ?_, ?_, ?_⟩
  · have q0 := take_oneB e0
    have q1 := take_oneB e1
    have q2 := take_oneB e2
    have q3 := take_oneB e3
    have q4 := take_oneB e4
    have q5 := take_oneB e5
    match cs, hl with
    | [z0, z1, z2, z3, z4, z5], _ =>
      simp at q0 q1 q2 q3 q4 q5
      subst q0 q1 q2 q3 q4 q5
      rfl
  · show Sl [blks W] 1 w4 (List.map (fun n : Int => UInt8.ofNat n.toNat) u4).length (bsv (List.map (fun n : Int => UInt8.ofNat n.toNat) u4))
    rw [bytes_of u4 f4]; simpa using s4
  · exact s5
  · have g4 : Rows.uptoBulk y4.1 ≤ Rows.uptoBulkAll (xs.map (fun x => x.1)) := bulk_mem (List.mem_map_of_mem (f := fun x => x.1) m4)
    have g2 : Rows.uptoBulk y2.1 ≤ Rows.uptoBulkAll (xs.map (fun x => x.1)) := bulk_mem (List.mem_map_of_mem (f := fun x => x.1) m2)
    have g3 : Rows.uptoBulk y3.1 ≤ Rows.uptoBulkAll (xs.map (fun x => x.1)) := bulk_mem (List.mem_map_of_mem (f := fun x => x.1) m3)
    rw [f2] at g2
    rw [f3] at g3
    have s2 : u2.data.toList.length = u2.size := rfl
    have s3 : u3.data.toList.length = u3.size := rfl
    simp only [Rows.uptoBulk] at g2 g3
    rw [s2] at g2
    rw [s3] at g3
    have hw1 : -9223372036854775808 ≤ u1 ∧ u1 ≤ 9223372036854775807 := by
      simp only [Lit.wf, Bool.and_eq_true, decide_eq_true_eq] at wf1
      have hmin : IntKind.i64.min = -9223372036854775808 := by kernel_rfl
      have hmax : IntKind.i64.max = 9223372036854775807 := by kernel_rfl
      rw [hmin, hmax] at wf1
      exact wf1
    refine ⟨?_, ?_, ?_, hw1⟩
    · simp only [Rows.uptoBulk, List.length_map]; omega
    · simp only [Rows.uptoBulk]; omega
    · simp only [Rows.uptoBulk]; omega

theorem open_opsB {H : Type} {enc : TypeId × Value → H} {W : World} {a : Option Addr} {len cap : Nat} {d : DataW H} {ps : List MemPlace} (h : DataW.Trod enc Try.prog W 0 (fun _ => true) true 37 (.slice a len cap) d ps) :
    ∃ ops : List OpD, OpsAt [blks W] (.slice a len cap) ops ∧ ops.length = len ∧ ∀ o ∈ ops, OkOp (Rows.uptoBulk d) o := by
  letI : W0 := ⟨W.os, W.output⟩
  obtain ⟨fuel, hf⟩ := h
  rcases DataW.trod_slice Try.underlying37 hf with ⟨hcs, _⟩ | ⟨x, l, c, elems, rest, n, _, hcs, hxx, _, hl, _, hel, hat, _, _⟩
  · simp [Value.cells] at hcs
    obtain ⟨rfl, rfl, rfl⟩ := hcs
    exact ⟨[], ⟨⟨_, _, rfl⟩, fun i o h => by simp at h⟩, rfl, fun o h => by simp at h⟩
  · simp [Value.cells] at hcs
    obtain ⟨rfl, rfl, rfl⟩ := hcs
    have csz : Try.prog.cellsOf 39 = 6 := by kernel_rfl
    simp only [csz] at hat
    have hdd : d = .slice (elems.map (·.1)) (rest.map (·.1)) := by injection hxx
    have hbd : ∀ y ∈ elems, Rows.uptoBulk y.1 ≤ Rows.uptoBulk d := fun y hy => by
      have := bulk_mem (List.mem_map_of_mem (f := (·.1)) hy)
      rw [hdd]; simp only [Rows.uptoBulk]; omega
    clear hxx
    have hsp : 0 < len → x.spot = none := fun hp => by
      have h1 := hat 0 hp
      rw [List.getElem?_eq_getElem (by omega)] at h1
      obtain ⟨cs, h2, h3⟩ := Option.bind_eq_some_iff.1 h1
      obtain ⟨_, h4, h5⟩ := World.cells?_some h2
      obtain ⟨o, w4, w5, rfl, g0, g1, k0⟩ := open_opB h3
      have h6 := h5 0 (by omega)
      have := World.cell?_spot (h6.trans (by rfl : (opC o w4 w5)[0]? = some (.int .i64 o.kind)))
      simpa [Addr.add] using this
    have key : ∀ i, i < len → ∃ (o : OpD) (w4 w5 : Value) (b off : Nat), x = ⟨b, off, none⟩ ∧ RdAt [blks W] ⟨b, off + i * 6, none⟩ (opC o w4 w5) ∧ Sl [blks W] 1 w4 o.data.length (bsv o.data) ∧ Sl [blks W] 1 w5 o.keep.length (intsV o.keep) ∧ OkOp (Rows.uptoBulk d) o := by
      intro i hi
      have h1 := hat i hi
      rw [List.getElem?_eq_getElem (by omega)] at h1
      obtain ⟨cs, h2, h3⟩ := Option.bind_eq_some_iff.1 h1
      obtain ⟨_, h4, h5⟩ := World.cells?_some h2
      obtain ⟨o, w4, w5, rfl, g0, g1, k0⟩ := open_opB h3
      have h6 := h5 0 (by omega)
      obtain ⟨b, off, spot⟩ := x
      have hspot : spot = none := hsp (by omega)
      subst hspot
      rw [addr_add, addr_add] at h6
      have hblk : ∃ C T fr, W.heap[b]? = some (.cells C T fr) := by
        have h7 : W.cell? ⟨b, off + i * 6 + 0, none⟩ = some (.int .i64 o.kind) := h6
        unfold World.cell? at h7
        split at h7
        · rename_i C T fr hb; exact ⟨C, T, fr, hb⟩
        · cases h7
      obtain ⟨C, T, fr, hb⟩ := hblk
      refine ⟨o, w4, w5, b, off, rfl, .inr ⟨b, _, C, T, fr, rfl, by simpa [Fnd] using blks_mem.2 hb, fun j u hj => ?_⟩, g0, g1, k0.mono (hbd _ (List.getElem_mem _))⟩
      have hj6 : j < 6 := by
        rcases Nat.lt_or_ge j 6 with h' | h'
        · exact h'
        · rw [List.getElem?_eq_none (by simp [opC]; omega)] at hj; simp at hj
      have h8 := h5 j hj6
      rw [addr_add, addr_add, cell_of hb] at h8
      rw [h8]; exact hj
    have hex : ∃ ops : List OpD, ops.length = len ∧ ∀ i o, ops[i]? = some o → ∃ (w4 w5 : Value) (b off : Nat), x = ⟨b, off, none⟩ ∧ RdAt [blks W] ⟨b, off + i * 6, none⟩ (opC o w4 w5) ∧ Sl [blks W] 1 w4 o.data.length (bsv o.data) ∧ Sl [blks W] 1 w5 o.keep.length (intsV o.keep) ∧ OkOp (Rows.uptoBulk d) o := by
      clear hf hat hel hbd
      have : ∀ m, m ≤ len → ∃ ops : List OpD, ops.length = m ∧ ∀ i o, ops[i]? = some o → ∃ (w4 w5 : Value) (b off : Nat), x = ⟨b, off, none⟩ ∧ RdAt [blks W] ⟨b, off + i * 6, none⟩ (opC o w4 w5) ∧ Sl [blks W] 1 w4 o.data.length (bsv o.data) ∧ Sl [blks W] 1 w5 o.keep.length (intsV o.keep) ∧ OkOp (Rows.uptoBulk d) o := by
        intro m
        induction m with
        | zero => intro _; exact ⟨[], rfl, fun i o h => by simp at h⟩
        | succ m ih =>
          intro hm
          obtain ⟨ops, h1, h2⟩ := ih (by omega)
          obtain ⟨o, r⟩ := key m (by omega)
          refine ⟨ops ++ [o], by simp [h1], fun i u hu => ?_⟩
          rcases Nat.lt_or_ge i ops.length with h' | h'
          · rw [List.getElem?_append_left h'] at hu; exact h2 i u hu
          · rw [List.getElem?_append_right h'] at hu
            have hi0 : i = m := by
              rcases Nat.eq_zero_or_pos (i - ops.length) with h3 | h3
              · omega
              · rw [List.getElem?_eq_none (by simp; omega)] at hu; simp at hu
            subst hi0
            rw [h1] at hu
            simp at hu
            subst hu
            exact r
      exact this len (Nat.le_refl _)
    obtain ⟨ops, h1, h2⟩ := hex
    refine ⟨ops, ⟨⟨_, _, by rw [h1]⟩, fun i o ho => ?_⟩, h1, fun o ho => ?_⟩
    · obtain ⟨w4, w5, b, off, rfl, hr, g0, g1, k0⟩ := h2 i o ho
      exact ⟨b, off, cap, w4, w5, by rw [h1], hr, g0, g1⟩
    · obtain ⟨i, hi⟩ := List.getElem?_of_mem ho
      obtain ⟨w4, w5, b, off, rfl, hr, g0, g1, k0⟩ := h2 i o hi
      exact k0


theorem top_row (H : Type) (enc : TypeId × Value → H) (W : World) (base : Nat) (args : Array Value) (ds gs : List (DataW H)) (before : List MemPlace)
    (hval : ∀ (j : Nat) t v, Try.f5.params[j]? = some t → args[j]? = some v → Value.okWide Try.prog W .any base t v)
    (hW : DataW.Whole enc Try.prog Try.f5.params.toList Rows.fsPlaysSpec.vars false W args.toList ds gs before) (hk : Rows.uptoSmall H (ds ++ gs) = true) :
    Calls Try.prog 5 args W fun e W' => ∃ v, e = .returned v ∧ Rows.fsPlaysSpec.post enc Try.prog Try.f5 false true false false W args v W' := by
  have hW' := hW
  obtain ⟨p, q, hA0, hV, rfl, hfz, hnd⟩ := hW
  have hA : DataW.TrodAll enc Try.prog W 0 (fun _ => true) true Try.f5.params.toList args.toList ds p := hA0
  rw [Try.params5] at hA hval
  obtain ⟨v0, vs0, d0, ds0, p0, q0, hargs, rfl, rfl, h0, r0⟩ := trodAll_cons hA
  obtain ⟨v1, vs1, d1, ds1, p1, q1, rfl, rfl, rfl, h1, r1⟩ := trodAll_cons r0
  obtain ⟨rfl, rfl, rfl⟩ := trodAll_nil r1
  obtain rfl : args = #[v0, v1] := by cases args; simp_all
  obtain ⟨rfl, rfl⟩ := trodVars_none hV
  obtain ⟨n0, rfl, rfl, rfl, w0⟩ := open_int Try.underlying3 (hval 0 _ v0 rfl rfl) h0
  obtain ⟨a1, l1, c1, rfl⟩ := okWide_slice Try.underlying37 (hval 1 _ v1 rfl rfl)
  obtain ⟨x1, s1, k1, b1⟩ := open_opsB h1
  clear hA0
  have lt1 : ∀ x ∈ p1, x.block < W.heap.size := by obtain ⟨m, hm⟩ := h1; exact DataW.trod_lt m _ _ _ hm
  have hbulk : Rows.uptoBulk d1 ≤ 1048576 := by
    simp only [Rows.uptoSmall, decide_eq_true_eq, List.append_nil, Rows.uptoBulkAll, Rows.uptoBulk] at hk
    omega
  have hc : Calls Try.prog 5 #[.int .i64 n0, .slice a1 l1 c1] W fun e W' => e = .returned (.bool true) ∧ Kept W W' := by
    refine bridge (fun {i} => ?_)
    subst k1
    exact fplays_1 n0 x1 _ _ s1 (fun o ho => by have h := b1 o ho; exact ⟨by have := h.d; omega, by have := h.a; omega, by have := h.b; omega, h.n⟩)
  refine hc.mono fun e W' ⟨he, bel⟩ => ?_
  subst he
  exact ⟨_, rfl, _, _, _, [], _, [], hW', trodAll_mk1 (shut_bool Try.underlying4 _), (trodAll_cons_mk (shut_int Try.underlying3 w0) (trodAll_cons_mk (Kept.trod Try.laidOut (by kernel_rfl) (of_decide_eq_true (by kernel_rfl)) h1 bel lt1) trodAll_mk0)), rfl, bel.frame _, fun h => by cases h⟩

set_option maxRecDepth 100000 in
theorem top_lifted (os : Os) (started : os.Started) (H : Type) (enc : TypeId × Value → H) (F : Stop.Interp) :
    ReturnsInHanded {} Try.checked os 5 .any ((Rows.OpenSpec.upto Rows.fsPlaysSpec).pre6 enc Try.prog Try.f5 Rows.fsPlaysUptoRow.domain false) (((Rows.OpenSpec.upto Rows.fsPlaysSpec).at F).post enc Try.prog Try.f5 false true false false) := by
  refine returnsInHanded_of_cond (C := Try.checked) (s := Rows.OpenSpec.upto Rows.fsPlaysSpec) (k := Rows.uptoSmall) rfl Try.own started (by kernel_rfl) Try.func5
    (OpenSpec.witness (enc := enc) (C := Try.checked) (s := Rows.OpenSpec.upto Rows.fsPlaysSpec) (k := Rows.uptoSmall) rfl false ⟨#[], #[.int .i64 0, .slice none 0 0], []⟩ 8 (by kernel_rfl) (by kernel_rfl) (by kernel_rfl)
      (x := ([.lit (.int .i64 0), .nil], [], [])) (by kernel_rfl) rfl (by kernel_rfl)) ?_
  intro W base args ds gs before hval hW _ hk _
  exact top_row H enc W base args ds gs before hval hW hk

theorem top_over : Rows.fsPlaysUptoRow.holds Try.pinned (Rows.OpenSpec.upto Rows.fsPlaysSpec) :=
  OpenClaim.holds_of_cond 5 Try.f5 rfl rfl rfl rfl rfl rfl rfl ⟨rfl, rfl, rfl, rfl, rfl⟩ rfl rfl rfl rfl rfl (by kernel_rfl) Try.func5 (by kernel_rfl)
    (of_decide_eq_true (by kernel_rfl)) (by unfold Func.isWrapper; first | (rw [if_pos (by decide +kernel)]; kernel_rfl) | (rw [if_neg (by decide +kernel)]; exact ⟨rfl, rfl⟩))
    (fun os started H enc _ F => top_lifted os started H enc F)

theorem top_holds : Rows.FsPlaysUptoSaid :=
  top_over
end Go.Proofs.Ytgicjngbaomigaa
