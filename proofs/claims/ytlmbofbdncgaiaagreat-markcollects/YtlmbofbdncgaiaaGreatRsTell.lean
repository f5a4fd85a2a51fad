/-
  What All and Roots tell.
-/
import Derived.Test.YtlmbofbdncgaiaaGreatRsRefs
namespace Go.Proofs.YtlmbofbdncgaiaaGreat.Rs
open Go Go.RowKit

theorem list_app {ops : Array Oper} {rest : List Oper} {o : Oper} {a : Act} {w w' : World} {Q : Exit → Act → World → Prop} (hg : o.guard = none) (s x : Operand)
    (hop : o.op = Op.call { callee := Callee.builtin Builtin.append, args := #[s, x], argTypes := #[34, 34] })
    (v u r : Value) (hs : a.eval s = v) (hx : a.eval x = u) (hrun : (Builtin.append_ #[34, 34] o.type #[v, u]).run Tryz.prog w = .ok r w')
    (hK : wpList Tryz.prog ops Q rest (a.put o.dst r) w') : wpList Tryz.prog ops Q (o :: rest) a w := by
  refine wpList_plain hg fun K hK' => ?_
  unfold Oper.wp
  simp [execOp, hop, resolve, invoke, builtin, hs, hx, hrun, Result.andThen]
  exact hK' _ _ hK
/-- The first i stacks, one behind the other. -/
def cat (T : Nat → List Int) (i : Nat) : List Int := (List.range i).flatMap T
theorem cat_succ (T : Nat → List Int) (i : Nat) : cat T (i + 1) = cat T i ++ T i := by simp [cat, List.range_succ]
theorem cat_mem {T : Nat → List Int} {i : Nat} {x : Int} : x ∈ cat T i ↔ ∃ k, k < i ∧ x ∈ T k := by simp [cat]
theorem cat_mono (T : Nat → List Int) {i n : Nat} (h : i ≤ n) : (cat T i).length ≤ (cat T n).length := by
  induction n with
  | zero => have : i = 0 := by omega
            subst this
            exact Nat.le_refl _
  | succ n ih =>
    rcases Nat.lt_or_ge n i with h1 | h1
    · have : i = n + 1 := by omega
      subst this
      exact Nat.le_refl _
    · rw [cat_succ, List.length_append]
      have := ih h1
      omega
/-- The roots: in rising order, just what is held and no constant. -/
structure IsRoots (P : Int → Option Int) (n : Nat) (T : Nat → List Int) (l : List Int) : Prop where
  up : l.Pairwise (· < ·)
  mem : ∀ x, x ∈ l ↔ cst x = false ∧ ((P x).isSome = true ∨ ∃ k, k < n ∧ x ∈ T k)
section
variable {w : World} {R S n m : Nat} {mb : Option Nat} {A : Nat → Option Addr} {C : Nat → Nat} {T : Nat → List Int} {P : Int → Option Int}
theorem IsR.below {w' : World} (h : IsR w R mb S n A C T P m) (b : Below w.heap.size w w') : IsR w' R mb S n A C T P m := h.kept fun k hk => b.block k (h.lt k hk)
set_option maxHeartbeats 1600000 in
theorem roots_any (h : IsR w R mb S n A C T P m) (hm : m + (cat T n).length ≤ 60000) :
    Calls Tryz.prog 41 #[.pointer (some ⟨R, 0, none⟩)] w fun e w' => ∃ ad cap l, e = .returned (.slice ad l.length cap) ∧ IsRoots P n T l ∧ l.length ≤ 60000 ∧ OwnH w' ad cap l ∧ (∀ k, At ad k → w.heap.size ≤ k) ∧ Below w.heap.size w w' := by
  have f0 := h.f0
  have f1 := h.f1
  have K1 := keys_any mb w
  have h1 : IsR (w.alloc (.cells #[.map mb] 91)) R mb S n A C T P m := h.below ((Below.refl _ w).alloc (Nat.le_refl _) _)
  have K2 := collect_any w.heap.size m mb P (w.alloc (.cells #[.map mb] 91)) (by omega) (by simp) (by simp) h1.map
  have hA : Aside (IsR w R mb S n A C T P m) := h
  have hn4 : n ≤ 4 := h.four
  have hmA : Aside (m + (cat T n).length ≤ 60000) := hm
  clear h h1 hm
  go_enter Tryz.func41, Tryz.ntmps41
  go_wp2_with (first
    | (go_at_call 64; refine K1.mono ?_; clear K1; rintro e w1 ⟨rfl, rfl⟩)
    | (go_at_call 60; refine K2.mono ?_; clear K2; rintro e w2 ⟨ad, cap, ks, rfl, hK, hkm, ho, hnew, hB⟩; have hB2 : Below w.heap.size w w2 := (((Below.refl _ w).alloc (Nat.le_refl _) (.cells #[.map mb] 91)).trans (hB.mono (by simp))); have f2 := (hA.out.below hB2).f1))
  have hnew2 : ∀ k, At ad k → w.heap.size ≤ k := fun k hk => by have := hnew k hk; simp at this; omega
  clear hnew hB f2
  go_loopg [3, 17] n (fun g s1 s2 wr => ∃ (i : Nat) (ad : Option Addr) (cap : Nat) (xs : List Int), s1 = .slice ad xs.length cap ∧ s2 = .int .i64 (i : Int) ∧ i + g = n ∧ Aside (xs = ks ++ cat T i) ∧ Aside (OwnH wr ad cap xs) ∧ Aside (∀ k, At ad k → w.heap.size ≤ k) ∧ Aside (Below w.heap.size w wr))
  case atStart => exact ⟨0, ad, cap, ks, rfl, rfl, by omega, (show Aside _ from by simp [Aside, cat]), ho, hnew2, hB2⟩
  case round =>
    clear ho hnew2 hB2
    obtain ⟨i, ad, cap, xs, rfl, rfl, hg, hxs, ho, hnew, hB⟩ := hrel
    by_cases hi : i < n
    · have hiz : (i : Int) < (n : Int) := by omega
      have hR := hA.out.below hB.out
      have c1 := hR.stk.slice hi
      have own := hR.stk.own i hi
      have hlen : xs.length + (T i).length ≤ 60000 := by
        have h1 := hmA.out
        have h2 := cat_mono T (show i + 1 ≤ n by omega)
        rw [hxs.out]
        rw [cat_succ, List.length_append] at h2
        simp
        omega
      have hgA : Aside (i + gk = n) := hg
      by_cases h0 : (T i).length = 0
      · have hT : T i = [] := List.length_eq_zero_iff.1 h0
        rw [h0] at c1
        have hr := run_append0 wr ad xs.length cap ho.out.max.2 (A i) (C i) 34
        have hTA : Aside (T i = []) := hT
        generalize A i = adi at c1 hr
        generalize C i = capi at c1 hr
        clear own hT h0 hR
        go_wp2_with (at_builtin; refine list_app rfl _ _ rfl _ _ _ rfl rfl hr ?_)
        go_roundg (gk - 1)
        case measure => omega
        case rel => exact ⟨i + 1, ad, cap, xs, rfl, by go_num, by have := hgA.out; omega, (show Aside _ from by show _ = _; rw [cat_succ, hTA.out, List.append_nil]; exact hxs.out), ho, hnew, hB⟩
      · obtain ⟨src, hsrc⟩ := own.form (by omega)
        rw [hsrc] at c1 own
        have hcell : ∀ j, j < (T i).length → wr.cell? ⟨src, j, none⟩ = some (hV (T i)[j]!) := fun j hj => own.cell hj
        have hcA : Aside (∀ j, j < (T i).length → wr.cell? ⟨src, j, none⟩ = some (hV (T i)[j]!)) := hcell
        have hoA := ho.out
        clear own hcell hR
        go_wp2_with (at_builtin; refine append_hs hoA src (C i) (T i) hcA.out (by omega) (by omega) rfl _ _ rfl rfl rfl ?_; intro g cap' w3 o3 b3 hg3)
        have e : xs.length + (T i).length = (xs ++ T i).length := by simp
        rw [e]
        go_roundg (gk - 1)
        case measure => omega
        case rel =>
          refine ⟨i + 1, some ⟨g, 0, none⟩, cap', xs ++ T i, rfl, by go_num, by have := hgA.out; omega, (show Aside _ from by show _ = _; rw [cat_succ, hxs.out, List.append_assoc]), o3, (show Aside _ from fun k hk => ?_), (show Aside _ from ?_)⟩
          · obtain ⟨a, ha, rfl⟩ := hk
            cases ha
            rcases hg3 with h1 | h1
            · exact hnew.out _ h1
            · show w.heap.size ≤ g
              rw [h1]
              exact hB.out.size
          · exact hB.out.trans (b3.below hB.out.size fun k hk => hnew.out k hk)
    · have hiz : ¬ (i : Int) < (n : Int) := by omega
      have hin : i = n := by omega
      have hlen : xs.length ≤ 60000 := by
        have h1 := hmA.out
        rw [hxs.out, hin]
        simp
        omega
      have K := deleteH ho.out (by omega)
      have hinA : Aside (i = n) := hin
      clear hin
      go_wp2_with (first
        | (go_at_call 65; refine K.mono ?_; clear K; rintro e w4 ⟨l4, rfl, hl4, o4, b4⟩; have hl4l : l4.length ≤ xs.length := (by rw [hl4]; exact List.length_filter_le _ _); have hl4A : Aside (l4 = xs.filter nc) := hl4; clear hl4; have K2 := sortH o4 (by omega))
        | (go_at_call 61; refine K2.mono ?_; clear K2; rintro e w5 ⟨rfl, l5, hp5, hs5, o5, b5⟩; have hl5l : l5.length = l4.length := hp5.length_eq; have K3 := compactH o5 (by omega) hs5; rw [hl5l] at K3; have hl5A : Aside (l5.length = l4.length) := hl5l; have hs5A : Aside (∀ i, i + 1 < l5.length → l5[i]! ≤ l5[i + 1]!) := hs5; clear hl5l hs5)
        | (go_at_call 67; refine K3.mono ?_; clear K3; rintro e w6 ⟨l6, rfl, hp6, hs6, o6, b6⟩))
      go_ret
      have hll : l6.length ≤ 60000 := by
        have := nodup_len l6 l5 (hp6.imp fun h => by omega) fun x hx => (hs6 x).1 hx
        have := hl5A.out
        omega
      refine ⟨ad, cap, l6, rfl, ⟨hp6, fun x => ?_⟩, hll, o6, hnew.out, ((hB.out.trans (b4.below hB.out.size fun k hk => hnew.out k hk)).trans (b5.below ?_ fun k hk => hnew.out k hk)).trans (b6.below ?_ fun k hk => hnew.out k hk)⟩
      · rw [hs6 x, hp5.mem_iff, hl4A.out, List.mem_filter, hxs.out, hinA.out, List.mem_append, cat_mem, hK.2 x]
        unfold nc
        cases cst x <;> simp
      · exact Nat.le_trans hB.out.size b4.size
      · exact Nat.le_trans (Nat.le_trans hB.out.size b4.size) b5.size
end
end Go.Proofs.YtlmbofbdncgaiaaGreat.Rs
