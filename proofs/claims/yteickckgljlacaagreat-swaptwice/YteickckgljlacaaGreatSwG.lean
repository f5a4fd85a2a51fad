/-
  The whole plan, without a program: what it holds while it is made, and that it exchanges both levels.
-/
import Derived.Test.YteickckgljlacaaGreatSwF
namespace Go.Proofs.YteickckgljlacaaGreat.Sw
open Go

/-- A handle that lies below both levels. -/
def Deep (M : Mdl) (k c : Nat) : Prop := M.isNode c ∧ k + 1 < M.lev c
/-- A join, by the map of the lower level. -/
def JnL (L : List (Nd × Nat)) (k x p q : Nat) : Prop := (p = q ∧ x = p) ∨ (p ≠ q ∧ ((k + 1, p, q), x) ∈ L)
/-- How many handles are made besides. -/
def madeN (M : Mdl) (N : List (Nat × Nd)) : Nat := (N.filter fun p => decide (p.1 ∉ M.hs)).length
/-- What holds while the plan is made: pre of those that hang on both are done. -/
structure PInv (M : Mdl) (k : Nat) (pre : List Nat) (c : Nat) (N : List (Nat × Nd)) (L : List (Nd × Nat)) (last : Nat) : Prop where
  keys : (N.map (·.1)).Nodup
  lkeys : (L.map (·.1)).Nodup
  ln : ∀ d x, (d, x) ∈ L ↔ (x, d) ∈ N ∧ d.1 = k + 1
  old : ∀ x d, (x, d) ∈ N → x ∈ M.hs → ((M.nd x).1 = k + 1 ∧ d = (k, (M.nd x).2)) ∨ ((M.nd x).1 = k ∧ bothB M k x = false ∧ d = (k + 1, (M.nd x).2)) ∨ (x ∈ pre ∧ ∃ a b, d = (k, a, b) ∧ JnL L k a (cof M k (M.nd x).2.1 false) (cof M k (M.nd x).2.2 false) ∧ JnL L k b (cof M k (M.nd x).2.1 true) (cof M k (M.nd x).2.2 true))
  moved : ∀ x ∈ M.hs, bothB M k x = false → ((M.nd x).1 = k + 1 ∨ (M.nd x).1 = k) → x ∈ N.map (·.1)
  done : ∀ x ∈ pre, x ∈ N.map (·.1)
  sub : ∀ x ∈ pre, x ∈ M.hs ∧ bothB M k x = true
  made : ∀ x d, (x, d) ∈ N → x ∉ M.hs → d.1 = k + 1 ∧ d.2.1 ≠ d.2.2 ∧ Deep M k d.2.1 ∧ Deep M k d.2.2 ∧ 2 ≤ x ∧ x ≤ last
  full : ∀ z, 2 ≤ z → z ≤ last → z ∈ M.hs ∨ z ∈ N.map (·.1)
  one : 1 ≤ last
  few : madeN M N ≤ c
section
variable {M : Mdl} {k c last x p q : Nat} {pre : List Nat} {N N' : List (Nat × Nd)} {L L' : List (Nd × Nat)}
theorem JnL.mono (h : JnL L k x p q) (m : ∀ r ∈ L, r ∈ L') : JnL L' k x p q := h.imp id fun ⟨a, b⟩ => ⟨a, m _ b⟩
theorem both_iff : bothB M k x = true ↔ (M.nd x).1 = k ∧ (M.lev (M.nd x).2.1 = k + 1 ∨ M.lev (M.nd x).2.2 = k + 1) := by
  unfold bothB
  simp
theorem madeN_snoc (N : List (Nat × Nd)) (r : Nat × Nd) : madeN M (N ++ [r]) = madeN M N + if r.1 ∈ M.hs then 0 else 1 := by
  unfold madeN
  rw [List.filter_append, List.length_append, List.filter_cons]
  by_cases e : r.1 ∈ M.hs
  · rw [if_neg (by simp [e]), if_pos e]; rfl
  · rw [if_pos (by simp [e]), if_neg e]; rfl
theorem mem_key {x : Nat} {d : Nd} (h : (x, d) ∈ N) : x ∈ N.map (·.1) := List.mem_map.2 ⟨_, h, rfl⟩
theorem key_mem {x : Nat} (h : x ∈ N.map (·.1)) : ∃ d, (x, d) ∈ N := by
  obtain ⟨⟨y, d⟩, hm, rfl⟩ := List.mem_map.1 h
  exact ⟨d, hm⟩
theorem PInv.start (o : M.Ok) : PInv M k [] 0 (mvN M k M.hs) (mvL M k M.hs) 1 := by
  have nd := o.nodup
  have hk : ∀ l : List Nat, l.Nodup → ((mvN M k l).map (·.1)).Nodup := fun l => by
    induction l with
    | nil => intro _; exact List.nodup_nil
    | cons a l ih =>
      intro hn
      have h1 := List.nodup_cons.1 hn
      show ((mvN1 M k a ++ mvN M k l).map (·.1)).Nodup
      have hx : ∀ y ∈ (mvN M k l).map (·.1), y ≠ a := fun y hy e => by
        obtain ⟨d, hd⟩ := key_mem hy
        exact h1.1 (e ▸ (mvN_mem.1 hd).1)
      unfold mvN1
      split
      · exact List.nodup_cons.2 ⟨fun h => hx _ h rfl, ih h1.2⟩
      · split
        · exact List.nodup_cons.2 ⟨fun h => hx _ h rfl, ih h1.2⟩
        · exact ih h1.2
  have hl : ∀ l : List Nat, l.Nodup → (∀ y ∈ l, y ∈ M.hs) → ((mvL M k l).map (·.1)).Nodup := fun l => by
    induction l with
    | nil => intro _ _; exact List.nodup_nil
    | cons a l ih =>
      intro hn hs
      have h1 := List.nodup_cons.1 hn
      show ((mvL1 M k a ++ mvL M k l).map (·.1)).Nodup
      unfold mvL1
      split
      · next ca =>
        refine List.nodup_cons.2 ⟨fun h => ?_, ih h1.2 fun y hy => hs y (List.mem_cons_of_mem _ hy)⟩
        obtain ⟨⟨d, y⟩, hm, hd⟩ := List.mem_map.1 h
        obtain ⟨hy, cy, _, ey⟩ := mvL_mem.1 hm
        change d = (k + 1, (M.nd a).2) at hd
        rw [hd] at ey
        have e2 : (M.nd a).2 = (M.nd y).2 := (Prod.mk.inj ey).2
        have := o.one a (hs a (by simp)) y (hs y (List.mem_cons_of_mem _ hy)) (Prod.ext (by rw [ca.1, cy]) e2)
        exact h1.1 (this ▸ hy)
      · exact ih h1.2 fun y hy => hs y (List.mem_cons_of_mem _ hy)
  refine ⟨hk _ nd, hl _ nd fun _ h => h, fun d x => ?_, fun x d hm hx => ?_, fun x hx hb hl => ?_, fun x hx => absurd hx List.not_mem_nil, fun x hx => absurd hx List.not_mem_nil, fun x d hm hx => absurd (mvN_mem.1 hm).1 hx, fun z h1 h2 => by omega, Nat.le_refl _, ?_⟩
  · rw [mvL_mem, mvN_mem]
    constructor
    · rintro ⟨a, b, e, rfl⟩
      exact ⟨⟨a, .inr ⟨b, e, rfl⟩⟩, rfl⟩
    · rintro ⟨⟨a, ⟨b, rfl⟩ | ⟨b, e, rfl⟩⟩, h⟩
      · simp only at h; omega
      · exact ⟨a, b, e, rfl⟩
  · rcases (mvN_mem.1 hm).2 with h | h
    · exact .inl h
    · exact .inr (.inl h)
  · rcases hl with h | h
    · exact mem_key (mvN_mem.2 ⟨hx, .inl ⟨h, rfl⟩⟩)
    · exact mem_key (mvN_mem.2 ⟨hx, .inr ⟨h, hb, rfl⟩⟩)
  · have : (mvN M k M.hs).filter (fun p => decide (p.1 ∉ M.hs)) = [] := by
      rw [List.filter_eq_nil_iff]
      rintro ⟨x, d⟩ hm
      simp [(mvN_mem.1 hm).1]
    unfold madeN
    rw [this]
    exact Nat.le_refl _
/-- What is laid behind it is there. -/
theorem PInv.keys_in (h : PInv M k pre c N L last) : ∀ y ∈ N.map (·.1), M.isNode y ∨ y ≤ last := fun y hy => by
  obtain ⟨d, hd⟩ := key_mem hy
  by_cases e : y ∈ M.hs
  · exact .inl (.inr e)
  · exact .inr (h.made y d hd e).2.2.2.2.2
/-- One join. -/
theorem PInv.join (h : PInv M k pre c N L last) {last' : Nat} (dp : Deep M k p) (dq : Deep M k q) (j : JnS M k p q N L last x N' L' last') : PInv M k pre (c + 1) N' L' last' ∧ JnL L' k x p q ∧ ∀ r ∈ L, r ∈ L' := by
  rcases j with ⟨e, rfl, rfl, rfl, rfl⟩ | ⟨e, hm, rfl, rfl, rfl⟩ | ⟨e, hn, h1, h2, h3, rfl, rfl, el⟩
  · exact ⟨{ h with few := Nat.le_succ_of_le h.few }, .inl ⟨e, rfl⟩, fun _ r => r⟩
  · exact ⟨{ h with few := Nat.le_succ_of_le h.few }, .inr ⟨e, hm⟩, fun _ r => r⟩
  · obtain rfl : x = last' := el.symm
    have hx : x ∉ M.hs := fun m => h2 (.inr m)
    have hx2 : 2 ≤ x := by have := h.one; omega
    have hxk : x ∉ N.map (·.1) := fun m => (h.keys_in x m).elim h2 fun m => by omega
    have sub : ∀ r ∈ L, r ∈ L ++ [((k + 1, p, q), x)] := fun r hr => List.mem_append.2 (.inl hr)
    have subN : ∀ r ∈ N, r ∈ N ++ [(x, (k + 1, p, q))] := fun r hr => List.mem_append.2 (.inl hr)
    have subK : ∀ y ∈ N.map (·.1), y ∈ (N ++ [(x, (k + 1, p, q))]).map (·.1) := fun y hy => by rw [List.map_append]; exact List.mem_append.2 (.inl hy)
    refine ⟨⟨?_, ?_, fun d y => ?_, fun y d hm hy => ?_, fun y hy hb hl => subK y (h.moved y hy hb hl), fun y hy => subK y (h.done y hy), h.sub, fun y d hm hy => ?_, fun z hz1 hz2 => ?_, by have := h.one; omega, ?_⟩, .inr ⟨e, by simp⟩, sub⟩
    · rw [List.map_append, List.nodup_append]
      refine ⟨h.keys, by simp, fun a ha b hb q => ?_⟩
      simp at hb
      subst hb
      exact hxk (q ▸ ha)
    · rw [List.map_append, List.nodup_append]
      refine ⟨h.lkeys, by simp, fun a ha b hb q => ?_⟩
      simp only [List.map_cons, List.map_nil, List.mem_singleton] at hb
      subst hb
      exact hn (q ▸ ha)
    · rw [List.mem_append, List.mem_append, List.mem_singleton, List.mem_singleton, h.ln d y]
      constructor
      · rintro (⟨a, b⟩ | a)
        · exact ⟨.inl a, b⟩
        · obtain ⟨rfl, rfl⟩ := Prod.mk.inj a
          exact ⟨.inr rfl, rfl⟩
      · rintro ⟨a | a, b⟩
        · exact .inl ⟨a, b⟩
        · obtain ⟨rfl, rfl⟩ := Prod.mk.inj a
          exact .inr rfl
    · rcases List.mem_append.1 hm with hm | hm
      · refine (h.old y d hm hy).imp id (Or.imp id ?_)
        rintro ⟨a, s, t, b1, b2, b3⟩
        exact ⟨a, s, t, b1, b2.mono sub, b3.mono sub⟩
      · obtain ⟨rfl, rfl⟩ := Prod.mk.inj (List.mem_singleton.1 hm)
        exact absurd hy hx
    · rcases List.mem_append.1 hm with hm | hm
      · obtain ⟨a1, a2, a3, a4, a5, a6⟩ := h.made y d hm hy
        exact ⟨a1, a2, a3, a4, a5, by omega⟩
      · obtain ⟨rfl, rfl⟩ := Prod.mk.inj (List.mem_singleton.1 hm)
        exact ⟨rfl, e, dp, dq, hx2, Nat.le_refl _⟩
    · by_cases e1 : z ≤ last
      · exact (h.full z hz1 e1).imp id (subK z)
      · by_cases e2 : z = x
        · right
          rw [e2, List.map_append]
          exact List.mem_append.2 (.inr (by simp))
        · exact .inl ((h3 z (by omega) (by omega)).resolve_left (by omega))
    · rw [madeN_snoc, if_neg hx]
      have := h.few
      omega
/-- One node that hangs on both is laid. -/
theorem PInv.lay (h : PInv M k pre c N L last) (hx : x ∈ M.hs) (hb : bothB M k x = true) (hn : x ∉ pre) {a b : Nat} (j0 : JnL L k a (cof M k (M.nd x).2.1 false) (cof M k (M.nd x).2.2 false)) (j1 : JnL L k b (cof M k (M.nd x).2.1 true) (cof M k (M.nd x).2.2 true)) : PInv M k (pre ++ [x]) c (N ++ [(x, (k, a, b))]) L last ∧ x ∉ N.map (·.1) ∧ (k, a, b) ∉ L.map (·.1) := by
  have bk := (both_iff.1 hb).1
  have hxk : x ∉ N.map (·.1) := fun m => by
    obtain ⟨d, hd⟩ := key_mem m
    rcases h.old x d hd hx with ⟨e, _⟩ | ⟨_, e, _⟩ | ⟨e, _⟩
    · omega
    · rw [hb] at e; cases e
    · exact hn e
  have subK : ∀ y ∈ N.map (·.1), y ∈ (N ++ [(x, (k, a, b))]).map (·.1) := fun y hy => by rw [List.map_append]; exact List.mem_append.2 (.inl hy)
  refine ⟨⟨?_, h.lkeys, fun d y => ?_, fun y d hm hy => ?_, fun y hy hb hl => subK y (h.moved y hy hb hl), fun y hy => ?_, fun y hy => ?_, fun y d hm hy => ?_, fun z hz1 hz2 => (h.full z hz1 hz2).imp id (subK z), h.one, ?_⟩, hxk, fun m => ?_⟩
  · rw [List.map_append, List.nodup_append]
    refine ⟨h.keys, by simp, fun s hs t ht q => ?_⟩
    simp at ht
    subst ht
    exact hxk (q ▸ hs)
  · rw [h.ln d y, List.mem_append, List.mem_singleton]
    constructor
    · rintro ⟨s, t⟩
      exact ⟨.inl s, t⟩
    · rintro ⟨s | s, t⟩
      · exact ⟨s, t⟩
      · obtain ⟨rfl, rfl⟩ := Prod.mk.inj s
        simp only at t
        omega
  · rcases List.mem_append.1 hm with hm | hm
    · refine (h.old y d hm hy).imp id (Or.imp id ?_)
      rintro ⟨s, t⟩
      exact ⟨List.mem_append.2 (.inl s), t⟩
    · obtain ⟨rfl, rfl⟩ := Prod.mk.inj (List.mem_singleton.1 hm)
      exact .inr (.inr ⟨by simp, a, b, rfl, j0, j1⟩)
  · rcases List.mem_append.1 hy with hy | hy
    · exact subK y (h.done y hy)
    · rw [List.mem_singleton] at hy
      subst hy
      rw [List.map_append]
      exact List.mem_append.2 (.inr (by simp))
  · rcases List.mem_append.1 hy with hy | hy
    · exact h.sub y hy
    · rw [List.mem_singleton] at hy
      subst hy
      exact ⟨hx, hb⟩
  · rcases List.mem_append.1 hm with hm | hm
    · exact h.made y d hm hy
    · obtain ⟨rfl, rfl⟩ := Prod.mk.inj (List.mem_singleton.1 hm)
      exact absurd hx hy
  · rw [madeN_snoc, if_pos hx]
    exact h.few
  · obtain ⟨⟨d, y⟩, hm, hd⟩ := List.mem_map.1 m
    change d = (k, a, b) at hd
    have := ((h.ln d y).1 hm).2
    rw [hd] at this
    simp only at this
    omega
end
end Go.Proofs.YteickckgljlacaaGreat.Sw
