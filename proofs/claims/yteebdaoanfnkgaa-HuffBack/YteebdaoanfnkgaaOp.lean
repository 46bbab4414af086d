/- Facts about the lengths: each symbol that comes has one, they are whole. They prove no statement by themselves. No conditions. -/
import Derived.Test.YteebdaoanfnkgaaOq
import Derived.Test.YteebdaoanfnkgaaYj
namespace Go.Hf
open Go.Pm
set_option linter.all false
theorem sum_filter {p : Nat → Bool} {G : Nat → Nat} : ∀ {l : List Nat}, (∀ x ∈ l, p x = false → G x = 0) → (l.map G).sum = ((l.filter p).map G).sum
  | [], _ => rfl
  | x :: r, h => by
    have ih := sum_filter (l := r) fun y hy => h y (List.mem_cons_of_mem _ hy)
    rw [List.map_cons, List.sum_cons, ih, List.filter_cons]
    rcases hp : p x with _ | _
    · rw [if_neg (by simp), h x (List.mem_cons_self ..) hp, Nat.zero_add]
    · rw [if_pos rfl, List.map_cons, List.sum_cons]
theorem getD_map (is : List Nat) : (List.range is.length).map (fun i => is.getD i 0) = is := by
  apply List.ext_getElem?
  intro k
  rw [List.getElem?_map]
  rcases Nat.lt_or_ge k is.length with h | h
  · rw [List.getElem?_range h]
    simp [List.getD, h]
  · rw [List.getElem?_eq_none (by simpa using h), List.getElem?_eq_none h]
    rfl
theorem sumTo_range (G : Nat → Nat) (n : Nat) : sumTo G n = ((List.range n).map G).sum := by
  have h := sumTo_map G (List.range n)
  rw [List.length_range] at h
  rw [← h]
  refine sumTo_congr fun i hi => ?_
  congr 1
  simp [List.getD, List.getElem?_range hi]
section
variable {cs : List Nat} {n N : Nat} {g : Nat → Nat × Nat} (h : Cn cs n N g)
include h
theorem Cn.perm : ((List.range N).map fun r => (g r).1).Perm ((List.range n).filter fun i => decide (0 < cs.getD i 0)) := by
  have hn1 : ((List.range N).map fun r => (g r).1).Nodup := by
    unfold List.Nodup
    rw [List.pairwise_map]
    refine List.Pairwise.imp_of_mem (fun {a b} ha hb (hab : a ≠ b) he => hab ?_) List.nodup_range
    exact h.inj a b (List.mem_range.1 ha) (List.mem_range.1 hb) he
  refine (List.perm_ext_iff_of_nodup hn1 (List.nodup_range.filter _)).2 fun i => ?_
  rw [List.mem_map, List.mem_filter, List.mem_range]
  constructor
  · rintro ⟨r, hr, rfl⟩
    have h1 := h.sy r (List.mem_range.1 hr)
    exact ⟨h1.1, by simpa using h1.2.1⟩
  · rintro ⟨h1, h2⟩
    obtain ⟨r, hr, he⟩ := h.onto i h1 (by simpa using h2)
    exact ⟨r, List.mem_range.2 hr, he⟩
theorem Cn.sum {G : Nat → Nat} (hz : ∀ i, i < n → cs.getD i 0 = 0 → G i = 0) : sumTo G n = sumTo (fun r => G (g r).1) N := by
  rw [sumTo_range, sumTo_range, sum_filter (p := fun i => decide (0 < cs.getD i 0)) (fun i hi hp => hz i (List.mem_range.1 hi) (by have := of_decide_eq_false hp; omega)), ← (h.perm.map G).sum_nat, List.map_map]
  rfl
theorem Cn.ws (hl : cs.length = n) : ((List.range N).map fun r => cs.getD (g r).1 0).Perm (cs.filter fun x => decide (0 < x)) := by
  have h1 := h.perm.map fun i => cs.getD i 0
  rw [List.map_map] at h1
  refine h1.trans (List.Perm.of_eq ?_)
  subst hl
  conv => rhs; rw [← getD_map cs]
  rw [List.filter_map]
  rfl
end
end Go.Hf
namespace Go.Proofs.Yteebdaoanfnkgaa
open Go Go.Vx Go.So Go.Hf Go.Pm
variable [W0]
set_option maxRecDepth 4000
set_option linter.all false
theorem ow_int {e m : Nat} {v : Value} {xs : List Nat} {C : Chunk} (h : Ow e 1 v m (ivn xs) C) {k : Nat} (hk : k < m) :
    ∃ b cap rest, v = .slice (some ⟨b, 0, none⟩) m cap ∧ C = [(b, cl (ivn xs ++ rest) e)] ∧ (ivn xs ++ rest).toArray[k * 1]? = some (.int .i64 (xs.getD k 0 : Int)) := by
  rcases h with ⟨rfl, rfl, _⟩ | ⟨b, cap, rest, rfl, rfl, hxl, hrl, hmc, hcm⟩
  · omega
  · refine ⟨b, cap, rest, rfl, rfl, ?_⟩
    have hlt : k < xs.length := by rw [ivn_length] at hxl; omega
    rw [Nat.mul_one]
    simpa using getE_app (r := rest) (ivn_get (l := xs) (i := k) (n := xs.getD k 0) (by simp [List.getD, hlt]))
theorem LenOf.rank {cs lens : List Nat} {M : Nat} (h : LenOf cs M lens) {i k : Nat} (hi : i < cs.length) (hk : k < cs.length) (h0 : 0 < cs.getD k 0) (h1 : cs.getD k 0 < cs.getD i 0) : lens.getD i 0 ≤ lens.getD k 0 := by
  obtain ⟨N, g, hN, hcn, hNM, hone, htwo⟩ := h.ex
  obtain ⟨r, hr, rfl⟩ := hcn.onto i hi (by omega)
  obtain ⟨q, hq, rfl⟩ := hcn.onto k hk h0
  have hr3 := (hcn.sy r hr).2.2
  have hq3 := (hcn.sy q hq).2.2
  by_cases h2 : 2 ≤ N
  · obtain ⟨lv, _, hln⟩ := htwo h2
    rw [hln r hr, hln q hq]
    refine Pm.ln_anti _ ?_
    rcases Nat.lt_or_ge r q with hlt | hge
    · have : (g r).2 ≤ (g q).2 := hcn.up r q (Nat.zero_le _) (by omega) hq
      omega
    · exact hge
  · have e : r = q := by omega
    subst e
    omega

theorem coins_w {cs : List Nat} {n N : Nat} {g : Nat → Nat × Nat} (h : Cn cs n N g) : ∀ x ∈ coinsOf (fun i => cs.getD i 0) g N, 0 < x.w := by
  intro x hx
  obtain ⟨r, hr, rfl⟩ := List.mem_map.1 hx
  exact (h.sy r (List.mem_range.1 hr)).2.1
theorem LenOf.on {cs lens : List Nat} {M : Nat} (h : LenOf cs M lens) {i : Nat} (hi : i < cs.length) (h0 : 0 < cs.getD i 0) : 1 ≤ lens.getD i 0 ∧ lens.getD i 0 ≤ M := by
  obtain ⟨N, g, hN, hcn, hNM, hone, htwo⟩ := h.ex
  obtain ⟨r, hr, rfl⟩ := hcn.onto i hi h0
  have hm1 := h.m1
  by_cases h2 : 2 ≤ N
  · obtain ⟨lv, hlv, hln⟩ := htwo h2
    obtain ⟨k, rfl⟩ : ∃ k, M = k + 1 := ⟨M - 1, by omega⟩
    have hcl := coinsOf_length (fun i => cs.getD i 0) g N
    have h3 := taken hlv (coins_w hcn) k (by omega) (by omega) r (by omega)
    rw [hcl] at h3
    have h4 := ln_le (sel lv (k + 1) (2 * N - 2)) r
    rw [sel_length] at h4
    rw [hln r hr]
    exact ⟨h3, h4⟩
  · have := hone (by omega) r hr
    omega
theorem LenOf.pos {cs lens : List Nat} {M : Nat} (h : LenOf cs M lens) {i : Nat} (hi : i < cs.length) : 0 < lens.getD i 0 ↔ 0 < cs.getD i 0 := by
  rcases Nat.eq_zero_or_pos (cs.getD i 0) with h0 | h0
  · rw [h.off i h0, h0]
  · have := h.on hi h0
    omega
theorem LenOf.le {cs lens : List Nat} {M : Nat} (h : LenOf cs M lens) (i : Nat) : lens.getD i 0 ≤ M := by
  rcases Nat.lt_or_ge i cs.length with hi | hi
  · rcases Nat.eq_zero_or_pos (cs.getD i 0) with h0 | h0
    · rw [h.off i h0]; omega
    · exact (h.on hi h0).2
  · have : lens.getD i 0 = 0 := by simp [List.getD, List.getElem?_eq_none (show lens.length ≤ i by rw [h.len]; exact hi)]
    omega
theorem LenOf.nC {cs lens : List Nat} {M : Nat} (h : LenOf cs M lens) : (cs.filter fun x => decide (0 < x)).length = (Go.Hf.pos cs cs.length).length := by
  obtain ⟨N, g, hN, hcn, _⟩ := h.ex
  have := (hcn.ws rfl).length_eq
  rw [List.length_map, List.length_range] at this
  rw [← this, hN]
theorem LenOf.all {cs lens : List Nat} {M : Nat} (h : LenOf cs M lens) (h2 : 2 ≤ (Go.Hf.pos cs cs.length).length) : kS lens = 32768 := by
  have hle := h.le
  have hpos := fun i => h.pos (i := i)
  have hm1 := h.m1
  have hm15 := h.m15
  have hlen := h.len
  obtain ⟨N, g, hN, hcn, hNM, hone, htwo⟩ := h.ex
  rw [← hN] at h2
  obtain ⟨lv, hlv, hln⟩ := htwo h2
  have hcl := coinsOf_length (fun i => cs.getD i 0) g N
  have hgl : ((List.range N).map fun r => (g r).1).length = N := by simp
  obtain ⟨k, rfl⟩ : ∃ k, M = k + 1 := ⟨M - 1, by omega⟩
  have hw := whole hlv (coins_w hcn) k (by omega) (by omega)
  rw [hcl] at hw
  refine kS_whole (l := lens) (is := (List.range N).map fun r => (g r).1) (L := k + 1) (g := fun r => ln (sel lv (k + 1) (2 * N - 2)) r) ?_ hm15 (fun r hr => ?_) (fun r hr => ?_) ?_
  · refine hcn.perm.trans (List.Perm.of_eq ?_)
    rw [hlen]
    refine List.filter_congr fun i hi => ?_
    exact decide_eq_decide.2 (hpos i (List.mem_range.1 hi)).symm
  · rw [hgl] at hr
    have : ((List.range N).map fun r => (g r).1).getD r 0 = (g r).1 := by simp [List.getD, List.getElem?_range hr]
    rw [this]
    exact hln r hr
  · have h4 := ln_le (sel lv (k + 1) (2 * N - 2)) r
    rw [sel_length] at h4
    exact h4
  · rw [hgl]; exact hw
end Go.Proofs.Yteebdaoanfnkgaa
