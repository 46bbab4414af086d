/- Coins and packages in one level. It proves no statement by itself. No conditions. -/
import Derived.Test.YteebdaoanfnkgaaOg
import Derived.Test.YteebdaoanfnkgaaOe
namespace Go.Pm
set_option linter.all false
theorem pairs_up : ∀ {l : List Pm.It}, l.Pairwise (fun a b => a.w ≤ b.w) → (pairs l).Pairwise (fun a b => a.w ≤ b.w)
  | [], _ => .nil
  | [_], _ => .nil
  | a :: b :: r, h => by
    have ha := (List.pairwise_cons.1 h).1
    have h2 := (List.pairwise_cons.1 h).2
    have hb := (List.pairwise_cons.1 h2).1
    have hr := (List.pairwise_cons.1 h2).2
    refine List.pairwise_cons.2 ⟨fun x hx => ?_, pairs_up hr⟩
    obtain ⟨y, hy, hxy⟩ : ∃ y ∈ r, ∃ z ∈ r, x.w = y.w + z.w := by
      have key : ∀ l : List Pm.It, ∀ x ∈ pairs l, ∃ y ∈ l, ∃ z ∈ l, x.w = y.w + z.w := by
        intro l
        induction l using pairs.induct with
        | case1 a b r ih =>
          intro x hx
          rcases List.mem_cons.1 hx with rfl | hx
          · exact ⟨a, by simp, b, by simp, rfl⟩
          · obtain ⟨y, hy, z, hz, e⟩ := ih x hx
            exact ⟨y, by simp [hy], z, by simp [hz], e⟩
        | case2 t ht =>
          intro x hx
          match t, ht with
          | [], _ => simp [pairs] at hx
          | [_], _ => simp [pairs] at hx
          | a :: b :: r, ht => exact absurd rfl (ht a b r)
      exact key r x hx
    obtain ⟨z, hz, e⟩ := hxy
    have h1 := ha y (List.mem_cons_of_mem _ hy)
    have h3 := hb z hz
    show a.w + b.w ≤ x.w
    omega
/-- A level in the making: i coins, t packages. -/
structure Mp (cs ps : List Pm.It) (i t : Nat) (A : List Pm.It) : Prop where
  ci : A.filter isC = cs.take i
  pt : A.filter (fun x => !isC x) = ps.take t
  up : A.Pairwise fun a b => a.w ≤ b.w
  lc : ∀ x ∈ A, ∀ y ∈ cs.drop i, x.w ≤ y.w
  lp : ∀ x ∈ A, ∀ y ∈ ps.drop t, x.w ≤ y.w
theorem Mp.nil (cs ps : List Pm.It) : Mp cs ps 0 0 [] := ⟨by simp, by simp, .nil, fun x hx => by simp at hx, fun x hx => by simp at hx⟩
theorem up_app {A : List Pm.It} {x : Pm.It} (h : A.Pairwise fun a b => a.w ≤ b.w) (hx : ∀ y ∈ A, y.w ≤ x.w) : (A ++ [x]).Pairwise fun a b => a.w ≤ b.w := by
  rw [List.pairwise_append]
  exact ⟨h, List.pairwise_singleton _ _, fun a ha b hb => by rw [List.mem_singleton.1 hb]; exact hx a ha⟩
theorem mem_drop {l : List Pm.It} {i : Nat} {x y : Pm.It} (hx : l[i]? = some x) (hy : y ∈ l.drop i) : y = x ∨ y ∈ l.drop (i + 1) := by
  have hlt := (List.getElem?_eq_some_iff.1 hx).1
  rw [List.drop_eq_getElem_cons hlt] at hy
  rcases List.mem_cons.1 hy with h | h
  · rw [List.getElem?_eq_getElem hlt] at hx
    exact .inl (h.trans (Option.some.inj hx))
  · exact .inr h
theorem drop_le {l : List Pm.It} {i : Nat} {x : Pm.It} (hl : l.Pairwise fun a b => a.w ≤ b.w) (hx : l[i]? = some x) : ∀ y ∈ l.drop i, x.w ≤ y.w := by
  intro y hy
  have hlt := (List.getElem?_eq_some_iff.1 hx).1
  have h2 := hl.sublist (List.drop_sublist i l)
  rw [List.drop_eq_getElem_cons hlt] at h2 hy
  have he : l[i] = x := by rw [List.getElem?_eq_getElem hlt] at hx; exact Option.some.inj hx
  rw [he] at h2 hy
  rcases List.mem_cons.1 hy with h | h
  · rw [h]; exact Nat.le_refl _
  · exact (List.pairwise_cons.1 h2).1 y h
theorem get_mem_drop {l : List Pm.It} {i : Nat} {x : Pm.It} (hx : l[i]? = some x) : x ∈ l.drop i := by
  have hlt := (List.getElem?_eq_some_iff.1 hx).1
  rw [List.drop_eq_getElem_cons hlt]
  have he : l[i] = x := by rw [List.getElem?_eq_getElem hlt] at hx; exact Option.some.inj hx
  rw [he]; exact List.mem_cons_self
theorem drop_sub {l : List Pm.It} {i : Nat} {y : Pm.It} (hy : y ∈ l.drop (i + 1)) : y ∈ l.drop i := by
  rw [← List.drop_drop] at hy
  exact List.mem_of_mem_drop hy
theorem Mp.pack {cs ps : List Pm.It} {i t : Nat} {A : List Pm.It} {x z : Pm.It} (h : Mp cs ps i t A) (hcs : cs.Pairwise fun a b => a.w ≤ b.w) (hps : ps.Pairwise fun a b => a.w ≤ b.w) (hpp : ∀ x ∈ ps, isC x = false)
    (hx : ps[t]? = some x) (hz : cs[i]? = some z) (hlt : x.w < z.w) : Mp cs ps i (t + 1) (A ++ [x]) := by
  have hxc := hpp x (List.mem_of_getElem? hx)
  refine ⟨?_, ?_, up_app h.up fun y hy => h.lp y hy x (get_mem_drop hx), fun a ha y hy => ?_, fun a ha y hy => ?_⟩
  · rw [List.filter_append, h.ci]; simp [hxc]
  · rw [List.filter_append, h.pt, List.take_add_one, hx]; simp [hxc]
  · rcases List.mem_append.1 ha with ha | ha
    · exact h.lc a ha y hy
    · rw [List.mem_singleton.1 ha]; exact Nat.le_trans (Nat.le_of_lt hlt) (drop_le hcs hz y hy)
  · rcases List.mem_append.1 ha with ha | ha
    · exact h.lp a ha y (drop_sub hy)
    · rw [List.mem_singleton.1 ha]; exact drop_le hps hx y (drop_sub hy)
theorem Mp.coin {cs ps : List Pm.It} {i t : Nat} {A : List Pm.It} {z : Pm.It} (h : Mp cs ps i t A) (hcs : cs.Pairwise fun a b => a.w ≤ b.w) (hps : ps.Pairwise fun a b => a.w ≤ b.w) (hcc : ∀ x ∈ cs, isC x = true)
    (hz : cs[i]? = some z) (hge : ∀ x, ps[t]? = some x → z.w ≤ x.w) : Mp cs ps (i + 1) t (A ++ [z]) := by
  have hzc := hcc z (List.mem_of_getElem? hz)
  refine ⟨?_, ?_, up_app h.up fun y hy => h.lc y hy z (get_mem_drop hz), fun a ha y hy => ?_, fun a ha y hy => ?_⟩
  · rw [List.filter_append, h.ci, List.take_add_one, hz]; simp [hzc]
  · rw [List.filter_append, h.pt]; simp [hzc]
  · rcases List.mem_append.1 ha with ha | ha
    · exact h.lc a ha y (drop_sub hy)
    · rw [List.mem_singleton.1 ha]; exact drop_le hcs hz y (drop_sub hy)
  · rcases List.mem_append.1 ha with ha | ha
    · exact h.lp a ha y hy
    · rw [List.mem_singleton.1 ha]
      cases hp : ps[t]? with
      | none => rw [List.drop_of_length_le (List.getElem?_eq_none_iff.1 hp)] at hy; simp at hy
      | some x => exact Nat.le_trans (hge x hp) (drop_le hps hp y hy)
theorem Mp.fin {cs ps : List Pm.It} {t : Nat} {A : List Pm.It} (h : Mp cs ps cs.length t A) (hps : ps.Pairwise fun a b => a.w ≤ b.w) (hpp : ∀ x ∈ ps, isC x = false) : Mg cs ps (A ++ ps.drop t) := by
  have h1 : (ps.drop t).filter isC = [] := List.filter_eq_nil_iff.2 fun x hx => by rw [hpp x (List.mem_of_mem_drop hx)]; simp
  have h2 : (ps.drop t).filter (fun x => !isC x) = ps.drop t := List.filter_eq_self.2 fun x hx => by rw [hpp x (List.mem_of_mem_drop hx)]; rfl
  refine ⟨?_, ?_, ?_⟩
  · rw [List.pairwise_append]
    exact ⟨h.up, hps.sublist (List.drop_sublist _ _), fun a ha b hb => h.lp a ha b hb⟩
  · rw [List.filter_append, h.ci, h1, List.take_length, List.append_nil]
  · rw [List.filter_append, h.pt, h2, List.take_append_drop]
theorem Mp.len {cs ps : List Pm.It} {i t : Nat} {A : List Pm.It} (h : Mp cs ps i t A) : A.length ≤ cs.length + ps.length := by
  have h1 := (filter_perm isC A).length_eq
  rw [List.length_append, h.ci, h.pt, List.length_take, List.length_take] at h1
  omega
end Go.Pm
namespace Go.Proofs.Yteebdaoanfnkgaa
open Go Go.Vx Go.So
variable [W0]
set_option maxRecDepth 4000
set_option linter.all false
omit [W0] in
/-- What is left of a list of packages. -/
def PsV (ps : List Pm.It) (Cp : Chunk) (v : Value) (t : Nat) : Prop := (ps.length ≤ t ∧ ∃ a c, v = .slice a 0 c) ∨
  (t < ps.length ∧ ∃ bp cp rp, v = .slice (some ⟨bp, t * 2, none⟩) (ps.length - t) (cp - t) ∧ ps.length ≤ cp ∧ Cp = [(bp, cl (itvs ps ++ rp) 109)])
theorem PsV.new {ps : List Pm.It} {Cp : Chunk} {v : Value} (h : Ow 109 2 v ps.length (itvs ps) Cp) : PsV ps Cp v 0 := by
  rcases h with ⟨rfl, h1, _⟩ | ⟨b, cap, rest, rfl, rfl, _, _, hmc, _⟩
  · exact .inl ⟨by omega, _, _, rfl⟩
  · rcases Nat.eq_zero_or_pos ps.length with h0 | h0
    · rw [h0]; exact .inl ⟨by omega, _, _, rfl⟩
    · exact .inr ⟨h0, b, cap, rest, by simp, hmc, rfl⟩
theorem itvs_drop (l : List Pm.It) (t : Nat) : itvs (l.drop t) = (itvs l).drop (t * 2) := by
  conv => rhs; rw [← List.take_append_drop t l, itvs_app]
  rcases Nat.lt_or_ge t l.length with h | h
  · have e : (itvs (l.take t)).length = t * 2 := by rw [itvs_length, List.length_take]; omega
    rw [← e, List.drop_left]
  · have e : (itvs (l.take t)).length ≤ t * 2 := by rw [itvs_length, List.length_take]; omega
    rw [List.drop_of_length_le h]
    show [] = _
    rw [show itvs ([] : List Pm.It) = [] from rfl, List.append_nil, List.drop_of_length_le e]
theorem PsV.sl {ps : List Pm.It} {Cp : Chunk} {v : Value} {t : Nat} {L : List Chunk} (h : PsV ps Cp v t) (hL : ∀ x ∈ Cp, x ∈ L.flatten) : Sl L 2 v (ps.drop t).length (itvs (ps.drop t)) := by
  rcases h with ⟨h1, a, c, rfl⟩ | ⟨h1, bp, cp, rp, rfl, h2, rfl⟩
  · rw [List.drop_of_length_le h1]
    cases a with
    | none => exact .inl ⟨c, rfl, rfl, rfl⟩
    | some a => exact .inr ⟨a, c, rfl, .inl rfl, rfl⟩
  · refine .inr ⟨⟨bp, t * 2, none⟩, cp - t, by rw [List.length_drop], ?_, itvs_length _⟩
    refine .inr ⟨bp, t * 2, _, _, (0, 0), rfl, hL (bp, _) (by simp; rfl), fun j u hj => ?_⟩
    rw [itvs_drop, List.getElem?_drop] at hj
    rw [List.getElem?_toArray, List.getElem?_append_left (List.getElem?_eq_some_iff.1 hj).1]
    exact hj
end Go.Proofs.Yteebdaoanfnkgaa
