/-
  Which functions a function is made of, level by level; what making one node more makes there be. No program is walked here.
-/
import Derived.Test.YtdmfbfbebcneeaaCnt
namespace Go.Proofs.Ytdmfbfbebcneeaa
open Rf (fixAt fixF)

/-- A function that is the same everywhere. -/
def Cst (F : Nat → Bool) : Prop := Eqt F (fun _ => false) ∨ Eqt F (fun _ => true)
/-- The functions of the nodes that a function has, from level k on, so many levels deep. -/
def Subs (v : Nat → Nat) : Nat → Nat → (Nat → Bool) → (Nat → Bool) → Prop
  | 0, _, _, _ => False
  | d + 1, k, F, G => ¬ Cst F ∧ ((Eqt (fixF F (v k) false) (fixF F (v k) true) ∧ Subs v d (k + 1) (fixF F (v k) false) G) ∨
      (¬ Eqt (fixF F (v k) false) (fixF F (v k) true) ∧ (Eqt F G ∨ Subs v d (k + 1) (fixF F (v k) false) G ∨ Subs v d (k + 1) (fixF F (v k) true) G)))
/-- There is a node of that function. -/
def Has (M : Mdl) (G : Nat → Bool) : Prop := ∃ h ∈ M.hs, Eqt (M.tbl h) G
theorem Eqt.refl (F : Nat → Bool) : Eqt F F := fun _ _ => rfl
theorem Eqt.symm {F G : Nat → Bool} (h : Eqt F G) : Eqt G F := fun x hx => (h x hx).symm
theorem Eqt.trans {F G H : Nat → Bool} (h : Eqt F G) (k : Eqt G H) : Eqt F H := fun x hx => (h x hx).trans (k x hx)
section
variable {M M' : Mdl}
theorem Has.grew (g : Mdl.Grew M M') (o : M.Ok) {G : Nat → Bool} (h : Has M G) : Has M' G := by
  obtain ⟨x, hx, e⟩ := h
  exact ⟨x, (g.keep x hx).1, fun y hy => (g.tbl o (.inr hx) y).trans (e y hy)⟩
theorem Has.adds {x l a b : Nat} {F : Nat → Bool} (ad : M.Adds x (l, a, b) M') (o : M.Ok) (e : Eqt (M'.tbl x) F) (G : Nat → Bool) : Has M' G ↔ Has M G ∨ Eqt F G := by
  constructor
  · rintro ⟨h, hm, q⟩
    rcases (ad.mem h).1 hm with rfl | hm
    · exact .inr (e.symm.trans q)
    · exact .inl ⟨h, hm, fun y hy => (ad.grew.tbl o (.inr hm) y).symm.trans (q y hy)⟩
  · rintro (h | h)
    · exact h.grew ad.grew o
    · exact ⟨x, ad.at.1, e.trans h⟩
theorem Has.there {x : Nat} {F : Nat → Bool} (hx : x ∈ M.hs) (e : Eqt (M.tbl x) F) (G : Nat → Bool) : Has M G ↔ Has M G ∨ Eqt F G :=
  ⟨.inl, fun h => h.elim id fun q => ⟨x, hx, e.trans q⟩⟩
end
/-- What stands behind the making of a function. -/
structure MadeIs (M : Mdl) (k : Nat) (F : Nat → Bool) (h : Nat) (M' : Mdl) : Prop where
  grew : Mdl.Grew M M'
  node : M'.isNode h
  lev : k ≤ M'.lev h
  tbl : Eqt (M'.tbl h) F
  up : M'.up ≤ M.up + (2 ^ (M.n - 2 - k) - 1)
  subs : ∀ G, Has M' G ↔ Has M G ∨ Subs M.v (M.n - k) k F G
theorem MadeIs.const {M : Mdl} {k : Nat} {F : Nat → Bool} (hk : k ≤ M.n) (h : Nat) (h2 : h < 2) (e : Eqt F (fun _ => decide (h = 1))) : MadeIs M k F h M := by
  refine ⟨Mdl.Grew.refl M, .inl h2, by rw [Mdl.lev_const h2]; exact hk, fun x hx => ?_, by omega, fun G => ⟨.inl, fun q => q.elim id fun q => ?_⟩⟩
  · unfold Mdl.tbl
    rw [Mdl.val_const h2, e x hx]
  · exfalso
    have c : Cst F := by
      by_cases h1 : h = 1
      · exact .inr fun x hx => by rw [e x hx]; simp [h1]
      · exact .inl fun x hx => by rw [e x hx]; simp [h1]
    cases hd : M.n - k with
    | zero => rw [hd] at q; exact q
    | succ d => rw [hd] at q; exact q.1 c
theorem two_pow_pos' (n : Nat) : 1 ≤ 2 ^ n := Nat.one_le_two_pow
/-- Both parts are one. -/
theorem MadeIs.skip {M M' : Mdl} {k h : Nat} {F : Nat → Bool} (o : M.Ok) (hk : k < M.n) (nc : ¬ Cst F) (e : Eqt (fixF F (M.v k) false) (fixF F (M.v k) true)) (m : MadeIs M (k + 1) (fixF F (M.v k) false) h M') : MadeIs M k F h M' := by
  have hv : M.v k < 8 := by have := o.vlt k hk; have := o.le8; omega
  have up := m.up
  have p : (2 : Nat) ^ (M.n - 2 - (k + 1)) ≤ 2 ^ (M.n - 2 - k) := Nat.pow_le_pow_right (by omega) (by omega)
  refine ⟨m.grew, m.node, by have := m.lev; omega, m.tbl.trans (fix_same hv e), by omega, fun G => ?_⟩
  rw [m.subs G]
  have hd : M.n - k = (M.n - (k + 1)) + 1 := by omega
  rw [hd]
  constructor
  · rintro (q | q)
    · exact .inl q
    · exact .inr ⟨nc, .inl ⟨e, q⟩⟩
  · rintro (q | ⟨_, ⟨_, q⟩ | ⟨q, _⟩⟩)
    · exact .inl q
    · exact .inr q
    · exact absurd e q
/-- Two parts, and a node of both. -/
theorem MadeIs.node2 {M M1 M2 M3 : Mdl} {k a b x : Nat} {F : Nat → Bool} (hk : k < M.n) (nc : ¬ Cst F) (ne : ¬ Eqt (fixF F (M.v k) false) (fixF F (M.v k) true)) (m1 : MadeIs M (k + 1) (fixF F (M.v k) false) a M1) (m2 : MadeIs M1 (k + 1) (fixF F (M.v k) true) b M2) (g : Mdl.Grew M2 M3) (xn : M3.isNode x) (xl : k ≤ M3.lev x) (xt : Eqt (M3.tbl x) F) (up : M3.up ≤ M2.up + if k + 2 < M.n then 1 else 0) (hs : ∀ G, Has M3 G ↔ Has M2 G ∨ Eqt F G) : MadeIs M k F x M3 := by
  have u1 := m1.up
  have u2 := m2.up
  have n1 := m1.grew.n
  have v1 := m1.grew.v
  rw [n1] at u2
  refine ⟨(m1.grew.trans m2.grew).trans g, xn, xl, xt, ?_, fun G => ?_⟩
  · have p1 := two_pow_pos' (M.n - 2 - (k + 1))
    by_cases c : k + 2 < M.n
    · rw [if_pos c] at up
      have : (2 : Nat) ^ (M.n - 2 - k) = 2 * 2 ^ (M.n - 2 - (k + 1)) := by
        rw [show M.n - 2 - k = (M.n - 2 - (k + 1)) + 1 by omega, Nat.pow_succ]
        omega
      omega
    · rw [if_neg c] at up
      have e0 : M.n - 2 - (k + 1) = 0 := by omega
      have e1 : M.n - 2 - k = 0 := by omega
      rw [e0] at u1 u2
      rw [e1]
      simp at u1 u2 ⊢
      omega
  · rw [hs G, m2.subs G, m1.subs G, n1, v1]
    have hd : M.n - k = (M.n - (k + 1)) + 1 := by omega
    rw [hd]
    constructor
    · rintro (((q | q) | q) | q)
      · exact .inl q
      · exact .inr ⟨nc, .inr ⟨ne, .inr (.inl q)⟩⟩
      · exact .inr ⟨nc, .inr ⟨ne, .inr (.inr q)⟩⟩
      · exact .inr ⟨nc, .inr ⟨ne, .inl q⟩⟩
    · rintro (q | ⟨_, ⟨q, _⟩ | ⟨_, q | q | q⟩⟩)
      · exact .inl (.inl (.inl q))
      · exact absurd q ne
      · exact .inr q
      · exact .inl (.inl (.inr q))
      · exact .inl (.inr q)
section
variable {M M8 M9 M3 : Mdl} {k a c x : Nat} {F : Nat → Bool}
theorem MadeIs.fits (hk : k < M.n) (o8 : M8.Ok) (ne : ¬ Eqt (fixF F (M.v k) false) (fixF F (M.v k) true)) (m8 : MadeIs M (k + 1) (fixF F (M.v k) false) a M8) (m9 : MadeIs M8 (k + 1) (fixF F (M.v k) true) c M9) : M9.Fits (k, a, c) := by
  have n9 : M9.n = M.n := m9.grew.n.trans m8.grew.n
  refine ⟨by show k < M9.n; omega, fun e => ne ?_, ⟨m9.grew.isNode m8.node, ?_⟩, ⟨m9.node, ?_⟩⟩
  · have e : a = c := e
    intro y hy
    rw [← m8.tbl y hy, ← m9.tbl y hy, ← e, m9.grew.tbl o8 m8.node]
  · show k < M9.lev a
    rw [m9.grew.lev m8.node]
    have := m8.lev
    omega
  · show k < M9.lev c
    have := m9.lev
    omega
theorem MadeIs.join (hk : k < M.n) (o8 : M8.Ok) (o9 : M9.Ok) (o3 : M3.Ok) (nc : ¬ Cst F) (ne : ¬ Eqt (fixF F (M.v k) false) (fixF F (M.v k) true)) (m8 : MadeIs M (k + 1) (fixF F (M.v k) false) a M8) (m9 : MadeIs M8 (k + 1) (fixF F (M.v k) true) c M9) (q : (x ∈ M9.hs ∧ M9.nd x = (k, a, c) ∧ M3 = M9) ∨ M9.Adds x (k, a, c) M3) : MadeIs M k F x M3 := by
  have f := m8.fits hk o8 ne m9
  have n9 : M9.n = M.n := m9.grew.n.trans m8.grew.n
  have v9 : M9.v = M.v := m9.grew.v.trans m8.grew.v
  have ta : Eqt (M9.tbl a) (fixF F (M9.v k) false) := fun y hy => by rw [v9, m9.grew.tbl o8 m8.node]; exact m8.tbl y hy
  have tc : Eqt (M9.tbl c) (fixF F (M9.v k) true) := fun y hy => by rw [v9]; exact m9.tbl y hy
  rcases q with ⟨xm, xe, rfl⟩ | ad
  · have xt : Eqt (M3.tbl x) F := Mdl.joined o9 xm (by rw [xe]; exact ta) (by rw [xe]; exact tc)
    refine MadeIs.node2 hk nc ne m8 m9 (Mdl.Grew.refl _) (.inr xm) (by rw [Mdl.lev_in o9 xm, xe]; exact Nat.le_refl _) xt (by omega) (Has.there xm xt)
  · have xt : Eqt (M3.tbl x) F := Mdl.join ad o9 o3 f ta tc
    refine MadeIs.node2 hk nc ne m8 m9 ad.grew (.inr ad.at.1) (by rw [Mdl.lev_in o3 ad.at.1, ad.at.2]; exact Nat.le_refl _) xt (by have := ad.up o3; rw [n9] at this; exact this) (Has.adds ad o9 xt)
end
end Go.Proofs.Ytdmfbfbebcneeaa
