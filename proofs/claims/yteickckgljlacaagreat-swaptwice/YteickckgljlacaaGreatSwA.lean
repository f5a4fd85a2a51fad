/-
  Two levels of a store exchanged, without a program: what the nodes are then, and that each is what it was.
-/
import Derived.Test.YteickckgljlacaaGreatBaseD
namespace Go.Proofs.YteickckgljlacaaGreat.Sw
open Go

/-- The variables with two neighbours exchanged. -/
def swv (v : Nat → Nat) (k : Nat) (i : Nat) : Nat := if i = k then v (k + 1) else if i = k + 1 then v k else v i
theorem swv_k (v : Nat → Nat) (k : Nat) : swv v k k = v (k + 1) := if_pos rfl
theorem swv_k1 (v : Nat → Nat) (k : Nat) : swv v k (k + 1) = v k := by unfold swv; rw [if_neg (by omega), if_pos rfl]
theorem swv_far {v : Nat → Nat} {k i : Nat} (h : i ≠ k) (h' : i ≠ k + 1) : swv v k i = v i := by unfold swv; rw [if_neg h, if_neg h']
/-- What a child of the upper level's is where the lower level's variable has one value. -/
def cof (M : Mdl) (k c : Nat) (b : Bool) : Nat := if M.lev c = k + 1 then (if b then (M.nd c).2.2 else (M.nd c).2.1) else c
/-- The node of the lower level of this low and high. -/
def Jn (M' : Mdl) (k x p q : Nat) : Prop := (p = q ∧ x = p) ∨ (p ≠ q ∧ x ∈ M'.hs ∧ M'.nd x = (k + 1, p, q))
/-- Both levels exchanged. -/
structure Plan (M : Mdl) (k : Nat) (M' : Mdl) : Prop where
  kn : k + 1 < M.n
  n : M'.n = M.n
  room : M'.room = M.room
  v : M'.v = swv M.v k
  sorted : M'.hs.Pairwise (· < ·)
  range : ∀ h ∈ M'.hs, 2 ≤ h ∧ h < 268435456
  len : M'.hs.length ≤ M'.room
  keep : ∀ h ∈ M.hs, h ∈ M'.hs
  far : ∀ h ∈ M.hs, (M.nd h).1 ≠ k → (M.nd h).1 ≠ k + 1 → M'.nd h = M.nd h
  up : ∀ h ∈ M.hs, (M.nd h).1 = k + 1 → M'.nd h = (k, (M.nd h).2)
  down : ∀ h ∈ M.hs, (M.nd h).1 = k → M.lev (M.nd h).2.1 ≠ k + 1 → M.lev (M.nd h).2.2 ≠ k + 1 → M'.nd h = (k + 1, (M.nd h).2)
  both : ∀ h ∈ M.hs, (M.nd h).1 = k → (M.lev (M.nd h).2.1 = k + 1 ∨ M.lev (M.nd h).2.2 = k + 1) → ∃ x y, M'.nd h = (k, x, y) ∧ Jn M' k x (cof M k (M.nd h).2.1 false) (cof M k (M.nd h).2.2 false) ∧ Jn M' k y (cof M k (M.nd h).2.1 true) (cof M k (M.nd h).2.2 true)
  new : ∀ h ∈ M'.hs, h ∉ M.hs → (M'.nd h).1 = k + 1 ∧ (M'.nd h).2.1 ≠ (M'.nd h).2.2 ∧ (M.isNode (M'.nd h).2.1 ∧ k + 1 < M.lev (M'.nd h).2.1) ∧ M.isNode (M'.nd h).2.2 ∧ k + 1 < M.lev (M'.nd h).2.2
  one : ∀ h ∈ M'.hs, ∀ g ∈ M'.hs, (M'.nd h).1 = k + 1 → M'.nd h = M'.nd g → h = g
section
variable {M M' : Mdl} {k : Nat}
theorem cof_no {c : Nat} (h : M.lev c ≠ k + 1) (b : Bool) : cof M k c b = c := if_neg h
theorem cof_lo {c : Nat} (h : M.lev c = k + 1) : cof M k c false = (M.nd c).2.1 := by unfold cof; rw [if_pos h]; rfl
theorem cof_hi {c : Nat} (h : M.lev c = k + 1) : cof M k c true = (M.nd c).2.2 := by unfold cof; rw [if_pos h]; rfl
theorem low_in (o : M.Ok) (kn : k + 1 < M.n) {c : Nat} (hc : M.isNode c) (h : M.lev c = k + 1) : c ∈ M.hs ∧ (M.nd c).1 = k + 1 := by
  have hm := Mdl.inner_of_lev hc (by omega)
  exact ⟨hm, by rw [← Mdl.lev_in o hm]; exact h⟩
theorem cof_node (o : M.Ok) (kn : k + 1 < M.n) {c : Nat} (hc : M.isNode c) (hl : k < M.lev c) (b : Bool) : M.isNode (cof M k c b) ∧ k + 1 < M.lev (cof M k c b) := by
  by_cases h : M.lev c = k + 1
  · obtain ⟨hm, e⟩ := low_in o kn hc h
    cases b with
    | false => rw [cof_lo h]; have := o.lo c hm; exact ⟨this.1, by omega⟩
    | true => rw [cof_hi h]; have := o.hi c hm; exact ⟨this.1, by omega⟩
  · rw [cof_no h]; exact ⟨hc, by omega⟩
/-- A child is told by its two halves. -/
theorem cof_inj (o : M.Ok) (kn : k + 1 < M.n) {c d : Nat} (hc : M.isNode c) (hd : M.isNode d) (h0 : cof M k c false = cof M k d false) (h1 : cof M k c true = cof M k d true) : c = d := by
  by_cases a : M.lev c = k + 1 <;> by_cases b : M.lev d = k + 1
  · obtain ⟨m1, e1⟩ := low_in o kn hc a
    obtain ⟨m2, e2⟩ := low_in o kn hd b
    rw [cof_lo a, cof_lo b] at h0
    rw [cof_hi a, cof_hi b] at h1
    exact o.one c m1 d m2 (Prod.ext (by rw [e1, e2]) (Prod.ext h0 h1))
  · obtain ⟨m1, _⟩ := low_in o kn hc a
    rw [cof_lo a, cof_no b] at h0
    rw [cof_hi a, cof_no b] at h1
    exact absurd (h0.trans h1.symm) (o.ne c m1)
  · obtain ⟨m2, _⟩ := low_in o kn hd b
    rw [cof_no a, cof_lo b] at h0
    rw [cof_no a, cof_hi b] at h1
    exact absurd (h0.symm.trans h1) (o.ne d m2)
  · rw [cof_no a, cof_no b] at h0
    exact h0
theorem cof_val (o : M.Ok) (kn : k + 1 < M.n) {c : Nat} (hc : M.isNode c) (s : Nat → Bool) : M.val c s = if s (M.v (k + 1)) = true then M.val (cof M k c true) s else M.val (cof M k c false) s := by
  by_cases h : M.lev c = k + 1
  · obtain ⟨hm, e⟩ := low_in o kn hc h
    rw [cof_lo h, cof_hi h, Mdl.val_in o hm, e]
  · rw [cof_no h, cof_no h]
    split <;> rfl
namespace Plan
theorem lev_far (p : Plan M k M') (_o : M.Ok) {c : Nat} (hc : M.isNode c) (h : M.lev c ≠ k) (h' : M.lev c ≠ k + 1) : M'.isNode c ∧ M'.lev c = M.lev c := by
  refine ⟨hc.imp id fun e => p.keep c e, ?_⟩
  unfold Mdl.lev at h h' ⊢
  by_cases q : c < 2
  · rw [if_pos q, if_pos q, p.n]
  · rw [if_neg q] at h h'
    rw [if_neg q, if_neg q, p.far c (hc.resolve_left q) h h']
theorem lev_of (p : Plan M k M') {x : Nat} (hx : x ∈ M'.hs) : M'.lev x = (M'.nd x).1 := by
  unfold Mdl.lev
  rw [if_neg]
  have := (p.range x hx).1
  omega
theorem lev_up (p : Plan M k M') {c : Nat} (hc : c ∈ M.hs) (h : (M.nd c).1 = k + 1) : M'.lev c = k := by
  rw [p.lev_of (p.keep c hc), p.up c hc h]
theorem lev_two (p : Plan M k M') {c : Nat} (hc : c ∈ M.hs) (h : (M.nd c).1 = k) : M'.lev c = k ∨ M'.lev c = k + 1 := by
  rw [p.lev_of (p.keep c hc)]
  by_cases q : M.lev (M.nd c).2.1 = k + 1 ∨ M.lev (M.nd c).2.2 = k + 1
  · obtain ⟨x, y, e, _⟩ := p.both c hc h q
    exact .inl (by rw [e])
  · have := not_or.1 q
    exact .inr (by rw [p.down c hc h this.1 this.2])
/-- A child of a node above both levels. -/
theorem lev_above (p : Plan M k M') (o : M.Ok) {c j : Nat} (hc : M.isNode c) (hj : j < k) (h : j < M.lev c) : M'.isNode c ∧ j < M'.lev c := by
  by_cases a : M.lev c = k
  · have hm := Mdl.inner_of_lev hc (by have := p.kn; omega)
    refine ⟨.inr (p.keep c hm), ?_⟩
    have := p.lev_two hm (by rw [← Mdl.lev_in o hm]; exact a)
    omega
  · by_cases b : M.lev c = k + 1
    · obtain ⟨hm, e⟩ := low_in o p.kn hc b
      exact ⟨.inr (p.keep c hm), by rw [p.lev_up hm e]; exact hj⟩
    · have := p.lev_far o hc a b
      exact ⟨this.1, by rw [this.2]; exact h⟩
theorem lev_below (p : Plan M k M') (o : M.Ok) {c : Nat} (hc : M.isNode c) (h : k + 1 < M.lev c) : M'.isNode c ∧ M'.lev c = M.lev c := p.lev_far o hc (by omega) (by omega)
theorem jn_lev (p : Plan M k M') (o : M.Ok) {x a b : Nat} (j : Jn M' k x a b) (ha : M.isNode a ∧ k + 1 < M.lev a) : M'.isNode x ∧ k < M'.lev x := by
  rcases j with ⟨_, rfl⟩ | ⟨_, hx, e⟩
  · have := p.lev_below o ha.1 ha.2
    exact ⟨this.1, by omega⟩
  · exact ⟨.inr hx, by rw [p.lev_of hx, e]; exact Nat.lt_succ_self k⟩
theorem jn_one (p : Plan M k M') (o : M.Ok) {x a b c d : Nat} (j : Jn M' k x a b) (j' : Jn M' k x c d) (ha : M.isNode a ∧ k + 1 < M.lev a) (hc : M.isNode c ∧ k + 1 < M.lev c) : a = c ∧ b = d := by
  rcases j with ⟨rfl, rfl⟩ | ⟨_, hx, e⟩ <;> rcases j' with ⟨rfl, e'⟩ | ⟨_, hx', e'⟩
  · exact ⟨e', e'⟩
  · have := p.lev_below o ha.1 ha.2
    rw [p.lev_of hx', e'] at this
    have := this.2
    simp only at this
    have := ha.2
    omega
  · subst e'
    have := p.lev_below o hc.1 hc.2
    rw [p.lev_of hx, e] at this
    have := this.2
    simp only at this
    have := hc.2
    omega
  · rw [e] at e'
    simp only [Prod.mk.injEq, true_and] at e'
    exact e'
/-- One of both halves lies at the lower level. -/
theorem both_low (p : Plan M k M') (o : M.Ok) {h x y : Nat} (hm : h ∈ M.hs) (j0 : Jn M' k x (cof M k (M.nd h).2.1 false) (cof M k (M.nd h).2.2 false)) (j1 : Jn M' k y (cof M k (M.nd h).2.1 true) (cof M k (M.nd h).2.2 true)) : M'.lev x = k + 1 ∨ M'.lev y = k + 1 := by
  rcases j0 with ⟨e0, _⟩ | ⟨_, hx, e⟩
  · rcases j1 with ⟨e1, _⟩ | ⟨_, hy, e⟩
    · exact absurd (cof_inj o p.kn (o.lo h hm).1 (o.hi h hm).1 e0 e1) (o.ne h hm)
    · exact .inr (by rw [p.lev_of hy, e])
  · exact .inl (by rw [p.lev_of hx, e])
theorem both_ne (p : Plan M k M') (o : M.Ok) {h x y : Nat} (hm : h ∈ M.hs) (hk : (M.nd h).1 = k) (q : M.lev (M.nd h).2.1 = k + 1 ∨ M.lev (M.nd h).2.2 = k + 1) (j0 : Jn M' k x (cof M k (M.nd h).2.1 false) (cof M k (M.nd h).2.2 false)) (j1 : Jn M' k y (cof M k (M.nd h).2.1 true) (cof M k (M.nd h).2.2 true)) : x ≠ y := fun e => by
  subst e
  have c := fun b => cof_node o p.kn (o.lo h hm).1 (by have := (o.lo h hm).2; omega : k < M.lev (M.nd h).2.1) b
  obtain ⟨e0, e1⟩ := p.jn_one o j0 j1 (c false) (c true)
  rcases q with q | q
  · obtain ⟨hm', _⟩ := low_in o p.kn (o.lo h hm).1 q
    rw [cof_lo q, cof_hi q] at e0
    exact o.ne _ hm' e0
  · obtain ⟨hm', _⟩ := low_in o p.kn (o.hi h hm).1 q
    rw [cof_lo q, cof_hi q] at e1
    exact o.ne _ hm' e1
/-- What a node is then. -/
theorem cases (p : Plan M k M') (o : M.Ok) {h : Nat} (hm : h ∈ M'.hs) : (h ∈ M.hs ∧ (M.nd h).1 ≠ k ∧ (M.nd h).1 ≠ k + 1 ∧ M'.nd h = M.nd h) ∨ (h ∈ M.hs ∧ (M.nd h).1 = k + 1 ∧ M'.nd h = (k, (M.nd h).2)) ∨ ((M'.nd h).1 = k + 1 ∧ (M'.nd h).2.1 ≠ (M'.nd h).2.2 ∧ (M.isNode (M'.nd h).2.1 ∧ k + 1 < M.lev (M'.nd h).2.1) ∧ M.isNode (M'.nd h).2.2 ∧ k + 1 < M.lev (M'.nd h).2.2) ∨ (h ∈ M.hs ∧ (M.nd h).1 = k ∧ (M.lev (M.nd h).2.1 = k + 1 ∨ M.lev (M.nd h).2.2 = k + 1) ∧ ∃ x y, M'.nd h = (k, x, y) ∧ Jn M' k x (cof M k (M.nd h).2.1 false) (cof M k (M.nd h).2.2 false) ∧ Jn M' k y (cof M k (M.nd h).2.1 true) (cof M k (M.nd h).2.2 true)) := by
  by_cases i : h ∈ M.hs
  · by_cases a : (M.nd h).1 = k
    · by_cases q : M.lev (M.nd h).2.1 = k + 1 ∨ M.lev (M.nd h).2.2 = k + 1
      · exact .inr (.inr (.inr ⟨i, a, q, p.both h i a q⟩))
      · have q' := not_or.1 q
        have e := p.down h i a q'.1 q'.2
        have l := o.lo h i
        have r := o.hi h i
        refine .inr (.inr (.inl ?_))
        rw [e]
        exact ⟨rfl, o.ne h i, ⟨l.1, by have := l.2; have := q'.1; simp only; omega⟩, r.1, by have := r.2; have := q'.2; simp only; omega⟩
    · by_cases b : (M.nd h).1 = k + 1
      · exact .inr (.inl ⟨i, b, p.up h i b⟩)
      · exact .inl ⟨i, a, b, p.far h i a b⟩
  · exact .inr (.inr (.inl (p.new h hm i)))
theorem ok (p : Plan M k M') (o : M.Ok) : M'.Ok := by
  have kn := p.kn
  refine ⟨p.n ▸ o.pos, p.n ▸ o.le8, fun i hi => ?_, fun i j hi hj e => ?_, p.sorted, p.range, p.len, fun h hm => ?_, fun h hm => ?_, fun h hm => ?_, fun h hm => ?_, fun h hm g gm e => ?_⟩
  · rw [p.n] at hi ⊢
    rw [p.v]
    unfold swv
    split
    · exact o.vlt _ kn
    · split
      · exact o.vlt _ (by omega)
      · exact o.vlt _ hi
  · rw [p.n] at hi hj
    rw [p.v] at e
    unfold swv at e
    have inj := fun a b ha hb => o.vinj a b ha hb
    split at e
    · split at e
      · omega
      · split at e
        · have := inj _ _ kn (by omega) e; omega
        · have := inj _ _ kn hj e; omega
    · split at e
      · split at e
        · have := inj _ _ (by omega) kn e; omega
        · split at e
          · omega
          · have := inj _ _ (by omega) hj e; omega
      · split at e
        · have := inj _ _ hi kn e; omega
        · split at e
          · have := inj _ _ hi (by omega) e; omega
          · exact inj _ _ hi hj e
  · rw [p.n]
    rcases p.cases o hm with ⟨i, _, _, e⟩ | ⟨i, _, e⟩ | ⟨e, _⟩ | ⟨i, _, _, x, y, e, _⟩
    · rw [e]; exact o.lv h i
    · rw [e]; simp only; omega
    · rw [e]; exact kn
    · rw [e]; simp only; omega
  · rcases p.cases o hm with ⟨i, _, _, e⟩ | ⟨i, _, e⟩ | ⟨_, e, _⟩ | ⟨i, a, q, x, y, e, j0, j1⟩
    · rw [e]; exact o.ne h i
    · rw [e]; exact o.ne h i
    · exact e
    · rw [e]; exact p.both_ne o i a q j0 j1
  · rcases p.cases o hm with ⟨i, a, b, e⟩ | ⟨i, a, e⟩ | ⟨a, _, l, _⟩ | ⟨i, a, q, x, y, e, j0, j1⟩
    · rw [e]
      have l := o.lo h i
      rcases Nat.lt_or_ge (M.nd h).1 k with c | c
      · exact p.lev_above o l.1 c l.2
      · have := p.lev_below o l.1 (by omega)
        exact ⟨this.1, by rw [this.2]; exact l.2⟩
    · rw [e]
      have l := o.lo h i
      have := p.lev_below o l.1 (by omega)
      exact ⟨this.1, by rw [this.2]; simp only; omega⟩
    · have := p.lev_below o l.1 l.2
      exact ⟨this.1, by rw [this.2]; omega⟩
    · rw [e]
      exact p.jn_lev o j0 (cof_node o kn (o.lo h i).1 (by have := (o.lo h i).2; omega) false)
  · rcases p.cases o hm with ⟨i, a, b, e⟩ | ⟨i, a, e⟩ | ⟨a, _, _, l⟩ | ⟨i, a, q, x, y, e, j0, j1⟩
    · rw [e]
      have l := o.hi h i
      rcases Nat.lt_or_ge (M.nd h).1 k with c | c
      · exact p.lev_above o l.1 c l.2
      · have := p.lev_below o l.1 (by omega)
        exact ⟨this.1, by rw [this.2]; exact l.2⟩
    · rw [e]
      have l := o.hi h i
      have := p.lev_below o l.1 (by omega)
      exact ⟨this.1, by rw [this.2]; simp only; omega⟩
    · have := p.lev_below o l.1 l.2
      exact ⟨this.1, by rw [this.2]; omega⟩
    · rw [e]
      exact p.jn_lev o j1 (cof_node o kn (o.lo h i).1 (by have := (o.lo h i).2; omega) true)
  · by_cases low : (M'.nd h).1 = k + 1
    · exact p.one h hm g gm low e
    · have low' : (M'.nd g).1 ≠ k + 1 := by rw [← e]; exact low
      have deep : ∀ {h : Nat}, h ∈ M.hs → (M.nd h).1 = k + 1 → M'.lev (M.nd h).2.1 ≠ k + 1 ∧ M'.lev (M.nd h).2.2 ≠ k + 1 := fun {h} i a => by
        have l := o.lo h i
        have r := o.hi h i
        rw [(p.lev_below o l.1 (by omega)).2, (p.lev_below o r.1 (by omega)).2]
        omega
      rcases p.cases o hm with ⟨i, a, b, e1⟩ | ⟨i, a, e1⟩ | ⟨a, _⟩ | ⟨i, a, q, x, y, e1, j0, j1⟩ <;> rcases p.cases o gm with ⟨i', a', b', e1'⟩ | ⟨i', a', e1'⟩ | ⟨a', _⟩ | ⟨i', a', q', x', y', e1', j0', j1'⟩
      · exact o.one h i g i' (by rw [← e1, ← e1', e])
      · rw [e1, e1'] at e; exact absurd (congrArg Prod.fst e) a
      · exact absurd a' low'
      · rw [e1, e1'] at e; exact absurd (congrArg Prod.fst e) a
      · rw [e1, e1'] at e; exact absurd (congrArg Prod.fst e).symm a'
      · rw [e1, e1'] at e
        exact o.one h i g i' (Prod.ext (by rw [a, a']) (Prod.mk.inj e).2)
      · exact absurd a' low'
      · exfalso
        rw [e1, e1'] at e
        have e2 : (M.nd h).2 = (x', y') := (Prod.mk.inj e).2
        have d := deep i a
        rw [e2] at d
        exact (p.both_low o i' j0' j1').elim d.1 d.2
      · exact absurd a low
      · exact absurd a low
      · exact absurd a low
      · exact absurd a low
      · rw [e1, e1'] at e; exact absurd (congrArg Prod.fst e).symm a'
      · exfalso
        rw [e1, e1'] at e
        have e2 : (M.nd g).2 = (x, y) := ((Prod.mk.inj e).2).symm
        have d := deep i' a'
        rw [e2] at d
        exact (p.both_low o i j0 j1).elim d.1 d.2
      · exact absurd a' low'
      · rw [e1, e1'] at e
        simp only [Prod.mk.injEq, true_and] at e
        obtain ⟨rfl, rfl⟩ := e
        have c := fun b => cof_node o p.kn (o.lo h i).1 (by have := (o.lo h i).2; omega : k < M.lev (M.nd h).2.1) b
        have c' := fun b => cof_node o p.kn (o.lo g i').1 (by have := (o.lo g i').2; omega : k < M.lev (M.nd g).2.1) b
        obtain ⟨f1, f2⟩ := p.jn_one o j0 j0' (c _) (c' _)
        obtain ⟨f3, f4⟩ := p.jn_one o j1 j1' (c _) (c' _)
        exact o.one h i g i' (Prod.ext (by rw [a, a']) (Prod.ext (cof_inj o kn (o.lo h i).1 (o.lo g i').1 f1 f3) (cof_inj o kn (o.hi h i).1 (o.hi g i').1 f2 f4)))
/-- Each handle that was is the same function. -/
theorem val (p : Plan M k M') (o : M.Ok) : ∀ {x : Nat}, M.isNode x → ∀ s, M'.val x s = M.val x s := by
  have o' := p.ok o
  have kn := p.kn
  have main : ∀ d x, M.isNode x → M.n - M.lev x ≤ d → ∀ s, M'.val x s = M.val x s := by
    intro d
    induction d with
    | zero =>
      intro x hx hd s
      have hc : x < 2 := by
        rcases hx with e | e
        · exact e
        · have := o.lv x e; rw [Mdl.lev_in o e] at hd; omega
      rw [Mdl.val_const hc, Mdl.val_const hc]
    | succ d ih =>
      intro x hx hd s
      by_cases hc : x < 2
      · rw [Mdl.val_const hc, Mdl.val_const hc]
      · have hm := hx.resolve_left hc
        have l := o.lo x hm
        have r := o.hi x hm
        rw [Mdl.lev_in o hm] at hd
        have jn : ∀ {y a b : Nat}, Jn M' k y a b → M.isNode a ∧ k + 1 < M.lev a → M.isNode b ∧ k + 1 < M.lev b → (M.nd x).1 = k → M'.val y s = if s (M.v k) = true then M.val b s else M.val a s := fun {y a b} j ha hb hk => by
          have ea := ih a ha.1 (by omega) s
          have eb := ih b hb.1 (by omega) s
          rcases j with ⟨rfl, rfl⟩ | ⟨_, hy, e⟩
          · rw [ea]; split <;> rfl
          · rw [Mdl.val_in o' hy, e, p.v]
            show (if s (swv M.v k (k + 1)) = true then M'.val b s else M'.val a s) = _
            rw [swv_k1, ea, eb]
        rcases p.cases o (p.keep x hm) with ⟨_, a, b, e⟩ | ⟨_, a, e⟩ | ⟨a, _⟩ | ⟨_, a, q, y, z, e, j0, j1⟩
        · rw [Mdl.val_in o' (p.keep x hm), Mdl.val_in o hm, e, p.v, swv_far a b, ih _ l.1 (by omega), ih _ r.1 (by omega)]
        · rw [Mdl.val_in o' (p.keep x hm), Mdl.val_in o hm, e, p.v, a]
          show (if s (swv M.v k k) = true then _ else _) = _
          rw [swv_k, ih _ l.1 (by omega), ih _ r.1 (by omega)]
        · have a0 : (M.nd x).1 = k ∧ M.lev (M.nd x).2.1 ≠ k + 1 ∧ M.lev (M.nd x).2.2 ≠ k + 1 := by
            by_cases c : (M.nd x).1 = k
            · by_cases q : M.lev (M.nd x).2.1 = k + 1 ∨ M.lev (M.nd x).2.2 = k + 1
              · obtain ⟨y, z, e, _⟩ := p.both x hm c q
                rw [e] at a
                simp only at a
                omega
              · exact ⟨c, not_or.1 q⟩
            · exfalso
              by_cases b : (M.nd x).1 = k + 1
              · rw [p.up x hm b] at a; simp only at a; omega
              · rw [p.far x hm c b] at a; exact b a
          have e := p.down x hm a0.1 a0.2.1 a0.2.2
          rw [Mdl.val_in o' (p.keep x hm), Mdl.val_in o hm, e, p.v, a0.1]
          show (if s (swv M.v k (k + 1)) = true then _ else _) = _
          rw [swv_k1, ih _ l.1 (by omega), ih _ r.1 (by omega)]
        · have c := fun b => cof_node o kn l.1 (by have := l.2; omega : k < M.lev (M.nd x).2.1) b
          have c' := fun b => cof_node o kn r.1 (by have := r.2; omega : k < M.lev (M.nd x).2.2) b
          rw [Mdl.val_in o' (p.keep x hm), Mdl.val_in o hm, e, p.v, a]
          show (if s (swv M.v k k) = true then M'.val z s else M'.val y s) = _
          rw [swv_k, jn j0 (c _) (c' _) a, jn j1 (c _) (c' _) a, cof_val o kn l.1 s, cof_val o kn r.1 s]
          cases s (M.v k) <;> cases s (M.v (k + 1)) <;> rfl
  exact fun {x} hx s => main _ x hx (Nat.le_refl _) s
end Plan
end
end Go.Proofs.YteickckgljlacaaGreat.Sw
