/-
  Operations over the nodes of a store, without a program: which nodes an answer is made of, what making them leaves, what a full store means. The rules of package logic: where an answer is told at once; what becomes of an argument further down. Package logic: the walk of all operations, over whatever rule. Package logic: what each operation comes to. Package logic by its face: Not, And, Or, Xor, Ite, Var. A store some of whose handles are known by their functions; package logic over it. Var. A drawn statement each of whose operations leaves a value with a property that new memory keeps; behind it the frame is told slot by slot. Functions made in a store of just so much room. As many nodes as several functions have together, without a program; room for them.
-/
import Derived.Test.YteickckgljlacaaGreatBaseG
import Derived.Test.YteickckgljlacaaGreatBaseS
import Derived.Deep.RegionHeld3
import Derived.Test.YteickckgljlacaaGreatBaseD
import Derived.Test.YteickckgljlacaaGreatBaseF
namespace Go.Proofs.YteickckgljlacaaGreat
open Rf (fixAt fixF)

section
variable {M M' M'' : Mdl} {F F' G : Nat → Bool} {k : Nat}
theorem Dep.congr (d : Dep M k F) (e : Eqt F F') : Dep M k F' := fun x y hx hy q => by rw [← e x hx, ← e y hy]; exact d x y hx hy q
theorem Dep.mono {j : Nat} (d : Dep M k F) (h : j ≤ k) : Dep M j F := fun x y hx hy q => d x y hx hy fun i hi hn => q i (by omega) hn
theorem Dep.grew (d : Dep M k F) (g : Mdl.Grew M M') : Dep M' k F := fun x y hx hy q => d x y hx hy fun i hi hn => by rw [← g.v]; exact q i hi (by rw [g.n]; exact hn)
theorem v8 (o : M.Ok) {i : Nat} (h : i < M.n) : M.v i < 8 := by have := o.vlt i h; have := o.le8; omega
/-- One that lies deeper isn't changed. -/
theorem Dep.fixed (o : M.Ok) (hk : k < M.n) (d : Dep M (k + 1) F) (b : Bool) : Eqt (fixF F (M.v k) b) F := fun x hx => by
  obtain ⟨h1, h2⟩ := fixAt_bits hx (v8 o hk) b
  refine d _ _ h1 hx fun j hj hn => ?_
  rw [h2]
  exact Mdl.setA_other _ _ fun e => by have := o.vinj j k hn hk e; omega
/-- The parts of a function. -/
def Prt (M : Mdl) (F G : Nat → Bool) : Prop := Subs M.v M.n 0 F G
theorem Prt.grew_iff (g : Mdl.Grew M M') : Prt M' F G ↔ Prt M F G := by unfold Prt; rw [g.v, g.n]
theorem subs_step (o : M.Ok) (hk : k < M.n) (d : Dep M k F) : Subs M.v (M.n - k) k F G ↔ (Eqt F G ∧ ¬ Cst G) ∨ Subs M.v (M.n - (k + 1)) (k + 1) (fixF F (M.v k) false) G ∨ Subs M.v (M.n - (k + 1)) (k + 1) (fixF F (M.v k) true) G := by
  rw [subs_desc o _ k F G (by omega) d, subs_desc o _ (k + 1) _ G (by omega) (d.fix o hk false), subs_desc o _ (k + 1) _ G (by omega) (d.fix o hk true)]
  constructor
  · rintro ⟨j, hj, h, c⟩
    match j, h with
    | 0, h => exact .inl ⟨h, c⟩
    | j + 1, .inl h => exact .inr (.inl ⟨j, by omega, h, c⟩)
    | j + 1, .inr h => exact .inr (.inr ⟨j, by omega, h, c⟩)
  · rintro (⟨e, c⟩ | ⟨j, hj, h, c⟩ | ⟨j, hj, h, c⟩)
    · exact ⟨0, by omega, e, c⟩
    · exact ⟨j + 1, by omega, .inl h, c⟩
    · exact ⟨j + 1, by omega, .inr h, c⟩
theorem subs_like (o : M.Ok) (hk : k ≤ M.n) (d : Dep M k F) (d' : Dep M k F') (e : Eqt F F') : Subs M.v (M.n - k) k F G ↔ Subs M.v (M.n - k) k F' G := by
  rw [subs_desc o _ k F G (by omega) d, subs_desc o _ k F' G (by omega) d']
  have hv : ∀ j, j ≤ M.n - k → ∀ i, i < j → M.v (k + i) < 8 := fun j hj i hi => v8 o (by omega)
  constructor
  · rintro ⟨j, hj, h, c⟩
    exact ⟨j, hj, desc_from (hv j hj) h e, c⟩
  · rintro ⟨j, hj, h, c⟩
    exact ⟨j, hj, desc_from (hv j hj) h e.symm, c⟩
/-- From which level on one looks is all one. -/
theorem subs_up (o : M.Ok) : ∀ (k : Nat), k ≤ M.n → ∀ {F G : Nat → Bool}, Dep M k F → (Subs M.v (M.n - k) k F G ↔ Prt M F G)
  | 0, _, _, _, _ => Iff.rfl
  | k + 1, hk, F, G, d => by
    have d0 : Dep M k F := d.mono (by omega)
    rw [← subs_up o k (by omega) d0, subs_step o (by omega) d0]
    have e0 := d.fixed o (by omega) false
    have e1 := d.fixed o (by omega) true
    rw [subs_like o hk (d.congr e0.symm) d e0, subs_like o hk (d.congr e1.symm) d e1]
    constructor
    · exact fun h => .inr (.inl h)
    · rintro (⟨e, c⟩ | h | h)
      · exact (subs_desc o _ (k + 1) F G (by omega) d).2 ⟨0, by omega, e, c⟩
      · exact h
      · exact h
theorem Prt.step (o : M.Ok) (hk : k < M.n) (d : Dep M k F) : Prt M F G ↔ (Eqt F G ∧ ¬ Cst G) ∨ Prt M (fixF F (M.v k) false) G ∨ Prt M (fixF F (M.v k) true) G := by
  rw [← subs_up o k (by omega) d, subs_step o hk d, subs_up o (k + 1) hk (d.fix o hk false), subs_up o (k + 1) hk (d.fix o hk true)]
theorem Prt.like (o : M.Ok) (d : Dep M 0 F) (e : Eqt F F') : Prt M F G ↔ Prt M F' G := subs_like o (Nat.zero_le _) d (d.congr e) e
theorem Prt.self (o : M.Ok) (d : Dep M 0 F) (nc : ¬ Cst F) : Prt M F F := (subs_desc o _ 0 F F (by omega) d).2 ⟨0, by omega, Eqt.refl F, nc⟩
theorem Prt.not_cst (o : M.Ok) (d : Dep M 0 F) (c : Cst F) : ¬ Prt M F G := fun h => by
  obtain ⟨j, hj, h, nc⟩ := (subs_desc o _ 0 F G (by omega) d).1 h
  exact nc (desc_cst (fun i hi => v8 o (by omega)) c h)

/-! ## The functions of nodes -/
theorem tbl_dep (o : M.Ok) {h : Nat} (hh : M.isNode h) (hk : k ≤ M.lev h) : Dep M k (M.tbl h) := fun x y hx hy q =>
  Mdl.val_congr o _ hh (Nat.le_refl _) fun j hj hn => q j (by omega) hn
theorem tbl_fix (o : M.Ok) {h : Nat} (hh : M.isNode h) (hk : k < M.lev h) (hn : k < M.n) (b : Bool) : Eqt (fixF (M.tbl h) (M.v k) b) (M.tbl h) := (tbl_dep o hh hk).fixed o hn b
theorem tbl_lo (o : M.Ok) {h : Nat} (hm : h ∈ M.hs) : Eqt (M.tbl (M.nd h).2.1) (fixF (M.tbl h) (M.v (M.nd h).1) false) := fun x hx => by
  obtain ⟨h1, h2⟩ := fixAt_bits hx (v8 o (o.lv h hm)) false
  show M.val _ _ = M.val h (fixAt (M.v (M.nd h).1) false x).testBit
  rw [h2, Mdl.val_lo o hm]
theorem tbl_hi (o : M.Ok) {h : Nat} (hm : h ∈ M.hs) : Eqt (M.tbl (M.nd h).2.2) (fixF (M.tbl h) (M.v (M.nd h).1) true) := fun x hx => by
  obtain ⟨h1, h2⟩ := fixAt_bits hx (v8 o (o.lv h hm)) true
  show M.val _ _ = M.val h (fixAt (M.v (M.nd h).1) true x).testBit
  rw [h2, Mdl.val_hi o hm]
theorem tbl_cst {h : Nat} (h2 : h < 2) : Cst (M.tbl h) := by
  have e : ∀ x, M.tbl h x = decide (h = 1) := fun x => Mdl.val_const h2 _
  by_cases c : h = 1
  · exact .inr fun x _ => by rw [e]; simp [c]
  · exact .inl fun x _ => by rw [e]; simp [c]
/-- All parts of a node's function are there. -/
theorem Prt.there (o : M.Ok) (d : Nat) : ∀ {h : Nat}, M.isNode h → M.n - M.lev h ≤ d → Prt M (M.tbl h) G → Has M G := by
  induction d with
  | zero =>
    intro h hh hd p
    refine absurd p (Prt.not_cst o (tbl_dep o hh (Nat.zero_le _)) (tbl_cst ?_))
    rcases hh with e | e
    · exact e
    · have := o.lv h e; rw [Mdl.lev_in o e] at hd; omega
  | succ d ih =>
    intro h hh hd p
    rcases hh with e | hm
    · exact absurd p (Prt.not_cst o (tbl_dep o (.inl e) (Nat.zero_le _)) (tbl_cst e))
    · have lv := o.lv h hm
      have l1 := o.lo h hm
      have l2 := o.hi h hm
      rw [Mdl.lev_in o hm] at hd
      have dp : Dep M (M.nd h).1 (M.tbl h) := tbl_dep o (.inr hm) (by rw [Mdl.lev_in o hm]; exact Nat.le_refl _)
      rcases (Prt.step o lv dp).1 p with ⟨e, _⟩ | q | q
      · exact ⟨h, hm, e⟩
      · exact ih l1.1 (by omega) ((Prt.like o (tbl_dep o l1.1 (Nat.zero_le _)) (tbl_lo o hm)).2 q)
      · exact ih l2.1 (by omega) ((Prt.like o (tbl_dep o l2.1 (Nat.zero_le _)) (tbl_hi o hm)).2 q)
end

/-! ## What an operation leaves -/
/-- The answer's node is there, and just its parts are new. -/
structure Got (M : Mdl) (k : Nat) (F : Nat → Bool) (x : Nat) (M' : Mdl) : Prop where
  grew : Mdl.Grew M M'
  node : M'.isNode x
  lev : k ≤ M'.lev x
  tbl : Eqt (M'.tbl x) F
  up : M'.up ≤ M.up + (2 ^ (M.n - 2 - k) - 1)
  has : ∀ G, Has M' G ↔ Has M G ∨ Prt M F G
/-- There is no room for all of them. -/
structure Stuck (M : Mdl) (k : Nat) (F : Nat → Bool) (M' : Mdl) : Prop where
  grew : Mdl.Grew M M'
  full : M'.hs.length = M'.room
  up : M'.up ≤ M.up + (2 ^ (M.n - 2 - k) - 1)
  has : ∀ G, Has M' G → Has M G ∨ Prt M F G
  miss : ∃ G, Prt M F G ∧ ¬ Has M' G
def Told (M : Mdl) (k : Nat) (F : Nat → Bool) (x : Nat) (er : Int) (M' : Mdl) : Prop := (er = 0 ∧ Got M k F x M') ∨ (er = 60 ∧ x = 0 ∧ Stuck M k F M')
section
variable {M M1 M2 M3 : Mdl} {F F' : Nat → Bool} {k L x p q : Nat} {er : Int}
theorem Got.here (o : M.Ok) (hx : M.isNode x) (hk : k ≤ M.lev x) (e : Eqt (M.tbl x) F) : Got M k F x M :=
  ⟨Mdl.Grew.refl M, hx, hk, e, by omega, fun G => ⟨.inl, fun h => h.elim id fun h => Prt.there o _ hx (Nat.le_refl _) ((Prt.like o (tbl_dep o hx (Nat.zero_le _)) e).2 h)⟩⟩
theorem pow_le (h : k ≤ L) (n : Nat) : 2 ^ (n - L) ≤ 2 ^ (n - k) := Nat.pow_le_pow_right (by omega) (by omega)
theorem Got.like (o : M.Ok) (d : Dep M 0 F) (e : Eqt F F') (g : Got M k F x M1) : Got M k F' x M1 :=
  ⟨g.grew, g.node, g.lev, g.tbl.trans e, g.up, fun G => by rw [g.has G, Prt.like o d e]⟩
theorem Stuck.like (o : M.Ok) (d : Dep M 0 F) (e : Eqt F F') (g : Stuck M k F M1) : Stuck M k F' M1 :=
  ⟨g.grew, g.full, g.up, fun G h => (g.has G h).imp id (Prt.like o d e).1, g.miss.imp fun _ h => ⟨(Prt.like o d e).1 h.1, h.2⟩⟩
theorem Told.like (o : M.Ok) (d : Dep M 0 F) (e : Eqt F F') (g : Told M k F x er M1) : Told M k F' x er M1 := g.imp (fun g => ⟨g.1, g.2.like o d e⟩) fun g => ⟨g.1, g.2.1, g.2.2.like o d e⟩
/-- It stuck at the first half. -/
theorem Stuck.low (o : M.Ok) (hL : L < M.n) (d : Dep M L F) (g : Stuck M (L + 1) (fixF F (M.v L) false) M1) : Stuck M L F M1 := by
  refine ⟨g.grew, g.full, by have := g.up; have := pow_le (show L ≤ L + 1 by omega) (M.n - 2); omega, fun G h => (g.has G h).imp id fun h => (Prt.step o hL d).2 (.inr (.inl h)), ?_⟩
  obtain ⟨G, h1, h2⟩ := g.miss
  exact ⟨G, (Prt.step o hL d).2 (.inr (.inl h1)), h2⟩
theorem up_two (hL : L < M.n) {a b : Nat} (h1 : a ≤ M.up + (2 ^ (M.n - 2 - (L + 1)) - 1)) (h2 : b ≤ a + (2 ^ (M.n - 2 - (L + 1)) - 1)) : b + (if L + 2 < M.n then 1 else 0) ≤ M.up + (2 ^ (M.n - 2 - L) - 1) := by
  have p1 := two_pow_pos' (M.n - 2 - (L + 1))
  by_cases c : L + 2 < M.n
  · rw [if_pos c]
    have : (2 : Nat) ^ (M.n - 2 - L) = 2 * 2 ^ (M.n - 2 - (L + 1)) := by
      rw [show M.n - 2 - L = (M.n - 2 - (L + 1)) + 1 by omega, Nat.pow_succ]
      omega
    omega
  · rw [if_neg c]
    have e0 : M.n - 2 - (L + 1) = 0 := by omega
    have e1 : M.n - 2 - L = 0 := by omega
    rw [e0] at h1 h2
    rw [e1]
    simp at h1 h2 ⊢
    omega
/-- It stuck at the second half. -/
theorem Stuck.high (o : M.Ok) (hL : L < M.n) (d : Dep M L F) (g1 : Got M (L + 1) (fixF F (M.v L) false) p M1) (g : Stuck M1 (L + 1) (fixF F (M.v L) true) M2) : Stuck M L F M2 := by
  have u2 := g.up
  rw [g1.grew.n] at u2
  have up := up_two hL g1.up u2
  refine ⟨g1.grew.trans g.grew, g.full, by omega, fun G h => ?_, ?_⟩
  · rw [Prt.step o hL d]
    rcases g.has G h with h | h
    · exact ((g1.has G).1 h).imp id fun h => .inr (.inl h)
    · exact .inr (.inr (.inr ((Prt.grew_iff g1.grew).1 h)))
  · obtain ⟨G, h1, h2⟩ := g.miss
    exact ⟨G, (Prt.step o hL d).2 (.inr (.inr ((Prt.grew_iff g1.grew).1 h1))), h2⟩
/-- Both halves are one. -/
theorem Got.same (o : M.Ok) (o1 : M1.Ok) (hL : L < M.n) (d : Dep M L F) (g1 : Got M (L + 1) (fixF F (M.v L) false) p M1) (g2 : Got M1 (L + 1) (fixF F (M.v L) true) p M2) : Got M L F p M2 := by
  have u2 := g2.up
  rw [g1.grew.n] at u2
  have up := up_two hL g1.up u2
  have e01 : Eqt (fixF F (M.v L) false) (fixF F (M.v L) true) := fun y hy => by rw [← g1.tbl y hy, ← g2.tbl y hy, g2.grew.tbl o1 g1.node]
  have eF := fix_same (v8 o hL) e01
  have tF : Eqt (M2.tbl p) F := g2.tbl.trans (e01.symm.trans eF)
  have dF : Dep M (L + 1) F := (d.fix o hL false).congr eF
  refine ⟨g1.grew.trans g2.grew, g2.node, by have := g2.lev; omega, tF, by omega, fun G => ?_⟩
  rw [g2.has G, g1.has G, Prt.grew_iff g1.grew, Prt.like o ((d.fix o hL false).mono (Nat.zero_le _)) eF, Prt.like o ((d.fix o hL true).mono (Nat.zero_le _)) (e01.symm.trans eF)]
  constructor
  · rintro ((h | h) | h)
    · exact .inl h
    · exact .inr h
    · exact .inr h
  · rintro (h | h)
    · exact .inl (.inl h)
    · exact .inr h
/-- A node of that function is the node of its halves. -/
theorem node_is (o : M2.Ok) (hL : L < M2.n) (d : Dep M2 L F) (hp : M2.isNode p ∧ L < M2.lev p) (hq : M2.isNode q ∧ L < M2.lev q) (ne : p ≠ q) (tp : Eqt (M2.tbl p) (fixF F (M2.v L) false)) (tq : Eqt (M2.tbl q) (fixF F (M2.v L) true)) {y : Nat} (hy : y ∈ M2.hs) (e : Eqt (M2.tbl y) F) : M2.nd y = (L, p, q) := by
  have ly := Mdl.lev_in o hy
  have l0 := o.lv y hy
  have l1 := o.lo y hy
  have l2 := o.hi y hy
  rcases Nat.lt_trichotomy (M2.nd y).1 L with c | c | c
  · exfalso
    have dF : Dep M2 ((M2.nd y).1 + 1) (M2.tbl y) := (d.mono c).congr e.symm
    refine o.ne y hy ((Mdl.one_iff o l1.1 l2.1).1 fun x hx => ?_)
    rw [tbl_lo o hy x hx, tbl_hi o hy x hx, dF.fixed o l0 false x hx, dF.fixed o l0 true x hx]
  · have e1 : (M2.nd y).2.1 = p := (Mdl.one_iff o l1.1 hp.1).1 fun x hx => by
      rw [tbl_lo o hy x hx, c, tp x hx]
      exact fixF_congr e (v8 o hL) false x hx
    have e2 : (M2.nd y).2.2 = q := (Mdl.one_iff o l2.1 hq.1).1 fun x hx => by
      rw [tbl_hi o hy x hx, c, tq x hx]
      exact fixF_congr e (v8 o hL) true x hx
    exact Prod.ext c (Prod.ext e1 e2)
  · exfalso
    have t := fun b => (fixF_congr e (v8 o hL) b).symm.trans (tbl_fix o (.inr hy) (by rw [ly]; exact c) hL b)
    exact ne ((Mdl.one_iff o hp.1 hq.1).1 fun x hx => by rw [tp x hx, tq x hx, t false x hx, t true x hx])
theorem Got.fits (hL : L < M.n) (g1 : Got M (L + 1) (fixF F (M.v L) false) p M1) (g2 : Got M1 (L + 1) (fixF F (M.v L) true) q M2) (ne : p ≠ q) : M2.Fits (L, p, q) := by
  have n2 : M2.n = M.n := g2.grew.n.trans g1.grew.n
  refine ⟨by show L < M2.n; omega, ne, ⟨g2.grew.isNode g1.node, ?_⟩, ⟨g2.node, ?_⟩⟩
  · show L < M2.lev p
    rw [g2.grew.lev g1.node]
    exact g1.lev
  · exact g2.lev
theorem Got.ncst (o : M.Ok) (o1 : M1.Ok) (o2 : M2.Ok) (hL : L < M.n) (g1 : Got M (L + 1) (fixF F (M.v L) false) p M1) (g2 : Got M1 (L + 1) (fixF F (M.v L) true) q M2) (ne : p ≠ q) : ¬ Cst F := fun c => by
  have e : Eqt (fixF F (M.v L) false) (fixF F (M.v L) true) := fun x hx => by
    have a := (fixAt_bits hx (v8 o hL) false).1
    have b := (fixAt_bits hx (v8 o hL) true).1
    show F _ = F _
    rcases c with c | c
    · rw [c _ a, c _ b]
    · rw [c _ a, c _ b]
  exact ne ((Mdl.one_iff o2 (g2.grew.isNode g1.node) g2.node).1 fun y hy => by rw [g2.grew.tbl o1 g1.node, g1.tbl y hy, g2.tbl y hy, e y hy])
theorem Got.parts (o1 : M1.Ok) (g1 : Got M (L + 1) (fixF F (M.v L) false) p M1) (g2 : Got M1 (L + 1) (fixF F (M.v L) true) q M2) : Eqt (M2.tbl p) (fixF F (M2.v L) false) ∧ Eqt (M2.tbl q) (fixF F (M2.v L) true) := by
  have v2 : M2.v = M.v := g2.grew.v.trans g1.grew.v
  rw [v2]
  exact ⟨fun y hy => by rw [g2.grew.tbl o1 g1.node]; exact g1.tbl y hy, g2.tbl⟩
/-- A node of both halves, there or new. -/
theorem Got.join (o : M.Ok) (o1 : M1.Ok) (o2 : M2.Ok) (hL : L < M.n) (d : Dep M L F) (g1 : Got M (L + 1) (fixF F (M.v L) false) p M1) (g2 : Got M1 (L + 1) (fixF F (M.v L) true) q M2) (ne : p ≠ q) (o3 : M3.Ok) (c : (x ∈ M2.hs ∧ M2.nd x = (L, p, q) ∧ M3 = M2) ∨ M2.Adds x (L, p, q) M3) : Got M L F x M3 := by
  have f := Got.fits hL g1 g2 ne
  have nc := Got.ncst o o1 o2 hL g1 g2 ne
  obtain ⟨tp, tq⟩ := Got.parts o1 g1 g2
  have n2 : M2.n = M.n := g2.grew.n.trans g1.grew.n
  have u2 := g2.up
  rw [g1.grew.n] at u2
  have up := up_two hL g1.up u2
  have hs : ∀ G, (Has M2 G ∨ Eqt F G) ↔ Has M G ∨ Prt M F G := fun G => by
    rw [g2.has G, g1.has G, Prt.grew_iff g1.grew, Prt.step o hL d]
    constructor
    · rintro (((h | h) | h) | h)
      · exact .inl h
      · exact .inr (.inr (.inl h))
      · exact .inr (.inr (.inr h))
      · exact .inr (.inl ⟨h, fun c => nc ((cst_congr h).2 c)⟩)
    · rintro (h | ⟨h, _⟩ | h | h)
      · exact .inl (.inl (.inl h))
      · exact .inr h
      · exact .inl (.inl (.inr h))
      · exact .inl (.inr h)
  rcases c with ⟨xm, xe, rfl⟩ | ad
  · have xt : Eqt (M3.tbl x) F := Mdl.joined o2 xm (by rw [xe]; exact tp) (by rw [xe]; exact tq)
    exact ⟨g1.grew.trans g2.grew, .inr xm, by rw [Mdl.lev_in o2 xm, xe]; exact Nat.le_refl _, xt, by omega, fun G => by rw [← hs G]; exact Has.there xm xt G⟩
  · have xt : Eqt (M3.tbl x) F := Mdl.join ad o2 o3 f tp tq
    have ua := ad.up o3
    rw [n2] at ua
    exact ⟨(g1.grew.trans g2.grew).trans ad.grew, .inr ad.at.1, by rw [Mdl.lev_in o3 ad.at.1, ad.at.2]; exact Nat.le_refl _, xt, by
      have : (L, p, q).1 = L := rfl
      rw [this] at ua
      omega, fun G => by rw [← hs G]; exact Has.adds ad o2 xt G⟩
/-- There is no room for it. -/
theorem Stuck.join (o : M.Ok) (o1 : M1.Ok) (o2 : M2.Ok) (hL : L < M.n) (d : Dep M L F) (g1 : Got M (L + 1) (fixF F (M.v L) false) p M1) (g2 : Got M1 (L + 1) (fixF F (M.v L) true) q M2) (ne : p ≠ q) (no : ∀ y ∈ M2.hs, M2.nd y ≠ (L, p, q)) (full : M2.hs.length = M2.room) : Stuck M L F M2 := by
  have nc := Got.ncst o o1 o2 hL g1 g2 ne
  have f := Got.fits hL g1 g2 ne
  obtain ⟨tp, tq⟩ := Got.parts o1 g1 g2
  have u2 := g2.up
  rw [g1.grew.n] at u2
  have up := up_two hL g1.up u2
  refine ⟨g1.grew.trans g2.grew, full, by omega, fun G h => ?_, F, Prt.self o (d.mono (Nat.zero_le _)) nc, ?_⟩
  · rw [g2.has G, g1.has G, Prt.grew_iff g1.grew] at h
    rw [Prt.step o hL d]
    rcases h with (h | h) | h
    · exact .inl h
    · exact .inr (.inr (.inl h))
    · exact .inr (.inr (.inr h))
  · rintro ⟨y, hy, e⟩
    exact no y hy (node_is o2 f.lv ((d.grew g1.grew).grew g2.grew) f.lo f.hi ne tp tq hy e)
end

/-! ## Counting -/
/-- The tables of the nodes. -/
def encs (M : Mdl) : List (List Bool) := M.hs.map fun x => encT (M.tbl x)
theorem encs_nodup {M : Mdl} (o : M.Ok) : (encs M).Nodup := nodup_map_on _ _ o.nodup fun _ hx _ hy e => (Mdl.one_iff o (.inr hx) (.inr hy)).1 ((encT_iff _ _).1 e)
theorem encs_iff {M : Mdl} {G : Nat → Bool} : encT G ∈ encs M ↔ Has M G := by
  unfold encs Has
  rw [List.mem_map]
  exact ⟨fun ⟨x, hx, e⟩ => ⟨x, hx, (encT_iff _ _).1 e⟩, fun ⟨x, hx, e⟩ => ⟨x, hx, (encT_iff _ _).2 e⟩⟩
theorem encs_ex {M : Mdl} {z : List Bool} (h : z ∈ encs M) : ∃ G, z = encT G := by
  obtain ⟨x, _, e⟩ := List.mem_map.1 h
  exact ⟨_, e.symm⟩
theorem encs_len (M : Mdl) : (encs M).length = M.hs.length := List.length_map _
/-- The parts as the reference lists them. -/
def prts (M : Mdl) (F : Nat → Bool) : List (Nat → Bool) := (Rf.prt (fun i => (M.v i : Int)) M.n [F] (min M.n 8 + 1)).1
theorem prts_iff {M : Mdl} (o : M.Ok) {F : Nat → Bool} (d : Dep M 0 F) (G : Nat → Bool) : InT (prts M F) G ↔ Prt M F G := by
  have e8 : min M.n 8 = M.n := by have := o.le8; omega
  unfold prts Prt
  rw [e8, in_prt _ _ _ (M.n + 1) (Nat.le_refl _) (by have := o.le8; omega)]
  constructor
  · rintro ⟨j, hj, h1, h2⟩
    obtain ⟨F', hF, q⟩ := (lv_desc o [F] j (by omega) G).1 h1
    rw [List.mem_singleton] at hF
    subst hF
    exact (subs_desc o M.n 0 F' G (by omega) d).2 ⟨j, by omega, q, h2⟩
  · intro s
    obtain ⟨j, hj, q, h2⟩ := (subs_desc o M.n 0 F G (by omega) d).1 s
    exact ⟨j, by omega, (lv_desc o [F] j hj G).2 ⟨F, List.mem_singleton.2 rfl, q⟩, h2⟩
theorem prts_nodup (M : Mdl) (F : Nat → Bool) : ((prts M F).map encT).Nodup := by
  unfold List.Nodup
  rw [List.pairwise_map]
  exact (pw_prt _ _ _ _).imp fun q e => q ((encT_iff _ _).1 e)
theorem prts_enc {M : Mdl} (o : M.Ok) {F : Nat → Bool} (d : Dep M 0 F) (G : Nat → Bool) : encT G ∈ (prts M F).map encT ↔ Prt M F G := by
  rw [← prts_iff o d, List.mem_map]
  exact ⟨fun ⟨x, hx, e⟩ => ⟨x, hx, (encT_iff _ _).1 e⟩, fun ⟨x, hx, e⟩ => ⟨x, hx, (encT_iff _ _).2 e⟩⟩
/-- How many are in both; those that are not in the other. -/
def meet {α : Type} [DecidableEq α] (l m : List α) : Nat := (l.filter fun z => decide (z ∈ m)).length
def rest {α : Type} [DecidableEq α] (l m : List α) : List α := m.filter fun z => decide (z ∉ l)
theorem mem_rest {α : Type} [DecidableEq α] {l m : List α} {z : α} : z ∈ rest l m ↔ z ∈ m ∧ z ∉ l := by
  unfold rest
  rw [List.mem_filter, decide_eq_true_eq]
/-- How many nodes are parts. -/
def both (M : Mdl) (F : Nat → Bool) : Nat := meet (encs M) ((prts M F).map encT)
theorem inter_len {α : Type} [DecidableEq α] {l m : List α} (hl : l.Nodup) (hm : m.Nodup) : meet l m = meet m l := by
  unfold meet
  refine Nat.le_antisymm (nodup_le _ _ (hl.filter _) fun x hx => ?_) (nodup_le _ _ (hm.filter _) fun x hx => ?_)
  · rw [List.mem_filter] at hx ⊢
    exact ⟨of_decide_eq_true hx.2, decide_eq_true hx.1⟩
  · rw [List.mem_filter] at hx ⊢
    exact ⟨of_decide_eq_true hx.2, decide_eq_true hx.1⟩
theorem split_len {α : Type} [DecidableEq α] (l m : List α) : meet m l + (rest l m).length = m.length := by
  unfold meet rest
  induction m with
  | nil => rfl
  | cons x m ih =>
    by_cases c : x ∈ l
    · rw [List.filter_cons_of_pos (by simpa using c), List.filter_cons_of_neg (by simpa using c), List.length_cons, List.length_cons]
      omega
    · rw [List.filter_cons_of_neg (by simpa using c), List.filter_cons_of_pos (by simpa using c), List.length_cons, List.length_cons]
      omega
theorem join_len {M : Mdl} (o : M.Ok) (F : Nat → Bool) : (encs M ++ rest (encs M) ((prts M F).map encT)).length = M.hs.length + ((prts M F).length - both M F) := by
  have h1 := split_len (encs M) ((prts M F).map encT)
  have h2 := inter_len (encs_nodup o) (prts_nodup M F)
  rw [List.length_append, encs_len]
  rw [List.length_map] at h1
  unfold both
  omega
theorem join_nodup {M : Mdl} (o : M.Ok) (F : Nat → Bool) : (encs M ++ rest (encs M) ((prts M F).map encT)).Nodup := by
  refine List.nodup_append.2 ⟨encs_nodup o, (prts_nodup M F).filter _, fun a ha b hb e => ?_⟩
  subst e
  exact (mem_rest.1 hb).2 ha
theorem join_mem {M : Mdl} (o : M.Ok) {F : Nat → Bool} (d : Dep M 0 F) (G : Nat → Bool) : encT G ∈ (encs M ++ rest (encs M) ((prts M F).map encT)) ↔ Has M G ∨ Prt M F G := by
  rw [List.mem_append, mem_rest, prts_enc o d]
  constructor
  · rintro (h | h)
    · exact .inl (encs_iff.1 h)
    · exact .inr h.1
  · intro h
    by_cases c : Has M G
    · exact .inl (encs_iff.2 c)
    · exact .inr ⟨h.resolve_left c, fun h => c (encs_iff.1 h)⟩
section
variable {M M' : Mdl} {F : Nat → Bool} {k x : Nat}
theorem Got.len (o : M.Ok) (o' : M'.Ok) (d : Dep M 0 F) (g : Got M k F x M') : M'.hs.length = M.hs.length + ((prts M F).length - both M F) := by
  rw [← join_len o F, ← encs_len M']
  refine Nat.le_antisymm (nodup_le _ _ (encs_nodup o') fun z hz => ?_) (nodup_le _ _ (join_nodup o F) fun z hz => ?_)
  · obtain ⟨G, rfl⟩ := encs_ex hz
    exact (join_mem o d G).2 ((g.has G).1 (encs_iff.1 hz))
  · have hG : ∃ G, z = encT G := by
      rcases List.mem_append.1 hz with h | h
      · exact encs_ex h
      · obtain ⟨G, _, e⟩ := List.mem_map.1 (mem_rest.1 h).1
        exact ⟨G, e.symm⟩
    obtain ⟨G, rfl⟩ := hG
    exact encs_iff.2 ((g.has G).2 ((join_mem o d G).1 hz))
theorem Stuck.len (o : M.Ok) (o' : M'.Ok) (d : Dep M 0 F) (g : Stuck M k F M') : M.room < M.hs.length + ((prts M F).length - both M F) := by
  obtain ⟨G, h1, h2⟩ := g.miss
  have := nodup_le (encT G :: encs M') _ (List.nodup_cons.2 ⟨fun h => h2 (encs_iff.1 h), encs_nodup o'⟩) (fun z hz => by
    rcases List.mem_cons.1 hz with rfl | hz
    · exact (join_mem o d G).2 (.inr h1)
    · obtain ⟨H, rfl⟩ := encs_ex hz
      exact (join_mem o d H).2 (g.has H (encs_iff.1 hz)))
  rw [join_len o F, List.length_cons, encs_len] at this
  have r := g.grew.room
  have f := g.full
  omega
end
end Go.Proofs.YteickckgljlacaaGreat

namespace Go.Proofs.YteickckgljlacaaGreat
open Go Go.RowKit
open Rf (fixAt fixF)

/-! ## Without a program -/
structure IsRule (R : Nat → Nat → Nat → Option Nat) (op : Bool → Bool → Bool → Bool) : Prop where
  ends : ∀ a b c h, R a b c = some h → h = 0 ∨ h = 1 ∨ h = a ∨ h = b ∨ h = c
  val : ∀ a b c h, R a b c = some h → ∀ V : Nat → Bool, V 0 = false → V 1 = true → V h = op (V a) (V b) (V c)
  goes : ∀ a b c, R a b c = none → 2 ≤ a ∨ 2 ≤ b ∨ 2 ≤ c
def rNot (a _b _c : Nat) : Option Nat := if a = 0 then some 1 else if a = 1 then some 0 else none
def rAnd (a b _c : Nat) : Option Nat := if a = 0 ∨ b = 1 ∨ a = b then some a else if b = 0 ∨ a = 1 then some b else none
def rOr (a b _c : Nat) : Option Nat := if a = 1 ∨ b = 0 ∨ a = b then some a else if b = 1 ∨ a = 0 then some b else none
def rXor (a b _c : Nat) : Option Nat := if a = b then some 0 else if a = 0 then some b else if b = 0 then some a else none
def rIte (a b c : Nat) : Option Nat := if a = 1 ∨ b = c then some b else if a = 0 then some c else if b = 1 ∧ c = 0 then some a else none
def oNot (a _b _c : Bool) : Bool := !a
def oAnd (a b _c : Bool) : Bool := a && b
def oOr (a b _c : Bool) : Bool := a || b
def oXor (a b _c : Bool) : Bool := xor a b
def oIte (a b c : Bool) : Bool := if a then b else c
/-- The answer's function. -/
def ans (M : Mdl) (op : Bool → Bool → Bool → Bool) (a b c : Nat) : Nat → Bool := fun x => op (M.tbl a x) (M.tbl b x) (M.tbl c x)
/-- What becomes of an argument where the variable of a level is fixed. -/
def kid (M : Mdl) (L : Nat) (hi : Bool) (h : Nat) : Nat := if M.lev h = L then (if hi then (M.nd h).2.2 else (M.nd h).2.1) else h
def top (M : Mdl) (a b c : Nat) : Nat := min (min (M.lev a) (M.lev b)) (M.lev c)
section
variable {M M' : Mdl} {L a b c h k : Nat} {hi : Bool} {op : Bool → Bool → Bool → Bool} {R : Nat → Nat → Nat → Option Nat}
end

/-! ## As they are walked -/
def arg3 (a b c : Nat) : Value := .agg #[.int .u32 (a : Int), .int .u32 (b : Int), .int .u32 (c : Int)]
def Rl (f : Nat) (R : Nat → Nat → Nat → Option Nat) : Prop := ∀ (a b c : Nat) (w : World), Calls Tryz.prog f #[arg3 a b c] w fun e w' => e = .returned (.tuple #[.int .u32 (((R a b c).getD 0 : Nat) : Int), .bool (R a b c).isSome]) ∧ Below w.heap.size w w'
theorem nb (w : World) (o : Obj) : Below w.heap.size w (w.alloc o) := (Below.refl _ w).alloc (Nat.le_refl _) o
end Go.Proofs.YteickckgljlacaaGreat

namespace Go.Proofs.YteickckgljlacaaGreat
open Go Go.RowKit
open Rf (fixAt fixF)

/-- A function as a value. -/
abbrev fv (f : Nat) : Value := .func (.func f) #[] #[]
section
variable {w : World} {S : Nat} {F0 : Nat → Prop} {M : Mdl} {L a b c h : Nat}
def ch (hi : Bool) : Nat := if hi then 49 else 29
/-- A block that holds three handles. -/
def IsA (w : World) (g a b c : Nat) : Prop := w.heap[g]? = some (.cells #[.int .u32 (a : Int), .int .u32 (b : Int), .int .u32 (c : Int)] 118 (0, 0))
theorem IsA.cells {g : Nat} (i : IsA w g a b c) : w.cell? ⟨g, 0, none⟩ = some (.int .u32 (a : Int)) ∧ w.cell? ⟨g, 1, none⟩ = some (.int .u32 (b : Int)) ∧ w.cell? ⟨g, 2, none⟩ = some (.int .u32 (c : Int)) := by
  unfold IsA at i
  refine ⟨?_, ?_, ?_⟩ <;> simp [World.cell?, i]
theorem IsA.new (w : World) (a b c : Nat) : IsA (w.alloc (.cells #[.int .u32 (a : Int), .int .u32 (b : Int), .int .u32 (c : Int)] 118)) w.heap.size a b c := Go.Deep.blk_alloc_new _ _
theorem IsA.lt {g : Nat} (i : IsA w g a b c) : g < w.heap.size := (Array.getElem?_eq_some_iff.1 i).1
theorem IsA.below {g : Nat} {w' : World} (i : IsA w g a b c) (k : Below w.heap.size w w') : IsA w' g a b c := (k.block _ i.lt).trans i
theorem IsA.wf {g : Nat} {w' : World} {F' : Nat → Prop} (i : IsA w g a b c) (s : St w S F0 M) (k : Wf F0 F' w w') : IsA w' g a b c := (k.block _ i.lt (s.row i (by decide))).trans i
/-- All but one block are as they were, and that one has room for three handles. -/
structure SitA (w : World) (r : Nat) (u : World) : Prop where
  turned : Rf.Turned r w u
  room : ∃ x y z : Value, u.heap[r]? = some (.cells #[x, y, z] 118 (0, 0))
def laidA (w : World) (r a b c : Nat) : World := ((w.setCell ⟨r, 0, none⟩ (.int .u32 (a : Int))).setCell ⟨r, 1, none⟩ (.int .u32 (b : Int))).setCell ⟨r, 2, none⟩ (.int .u32 (c : Int))
theorem laidA_turned (w : World) (r a b c : Nat) : Rf.Turned r w (laidA w r a b c) := by
  unfold laidA
  refine ⟨rfl, rfl, rfl, by simp [World.setCell], fun k _ hk => ?_⟩
  rw [Below.heap_setCell _ _ _ _ hk, Below.heap_setCell _ _ _ _ hk, Below.heap_setCell _ _ _ _ hk]
theorem laidA_is {w : World} {r : Nat} (h : ∃ x y z : Value, w.heap[r]? = some (.cells #[x, y, z] 118 (0, 0))) (a b c : Nat) : IsA (laidA w r a b c) r a b c := by
  obtain ⟨x, y, z, h⟩ := h
  unfold laidA IsA
  simp [World.setCell, Array.getElem?_modify, h]
theorem SitA.laid {w u : World} {r : Nat} (s : SitA w r u) (a b c : Nat) : SitA w r (laidA u r a b c) := by
  have t := laidA_turned u r a b c
  exact ⟨⟨t.os.trans s.turned.os, t.tape.trans s.turned.tape, t.output.trans s.turned.output, Nat.le_trans s.turned.size t.size, fun i hi hne => (t.block i (Nat.lt_of_lt_of_le hi s.turned.size) hne).trans (s.turned.block i hi hne)⟩, _, _, _, laidA_is s.room a b c⟩
theorem SitA.drew {w u : World} {r : Nat} (s : SitA w r u) : SitA w r u.drew := ⟨⟨s.turned.os, s.turned.tape, s.turned.output, s.turned.size, s.turned.block⟩, s.room⟩
theorem IsA.drew {g a b c : Nat} {w : World} (i : IsA w g a b c) : IsA w.drew g a b c := i
end
end Go.Proofs.YteickckgljlacaaGreat

namespace Go.Proofs.YteickckgljlacaaGreat
open Go Go.RowKit
open Rf (fixAt fixF)

/-- What an operation leaves: a handle and an error, and a store. -/
def Left (S : Nat) (F0 : Nat → Prop) (w : World) (M : Mdl) (k : Nat) (X : Nat → Bool) (e : Ending) (w' : World) : Prop :=
  ∃ (x : Nat) (er : Int) (M' : Mdl) (F' : Nat → Prop), e = .returned (.tuple #[.int .u32 (x : Int), .int .i64 er]) ∧ Told M k X x er M' ∧ St w' S F' M' ∧ Wf F0 F' w w'
section
variable {w : World} {S : Nat} {F0 : Nat → Prop} {M : Mdl} {k a b c f : Nat} {R : Nat → Nat → Nat → Option Nat} {op : Bool → Bool → Bool → Bool}
end
end Go.Proofs.YteickckgljlacaaGreat

namespace Go.Proofs.YteickckgljlacaaGreat
open Go Go.RowKit

section
variable {w : World} {S : Nat} {F0 : Nat → Prop} {M : Mdl} {a b c f : Nat} {R : Nat → Nat → Nat → Option Nat} {op : Bool → Bool → Bool → Bool}
end
end Go.Proofs.YteickckgljlacaaGreat

namespace Go.Proofs.YteickckgljlacaaGreat
open Go Go.RowKit
open Rf (fixAt fixF tab)

theorem tbl_zero (M : Mdl) : Eqt (M.tbl 0) (fun _ => false) := fun _ _ => Mdl.val_zero _
theorem tbl_one (M : Mdl) : Eqt (M.tbl 1) (fun _ => true) := fun _ _ => Mdl.val_one _

/-! ## Var -/
section
variable {w : World} {S : Nat} {F0 : Nat → Prop} {M : Mdl}
end

/-! ## Stores with known handles -/
def fN (X : Nat → Bool) : Nat → Bool := fun y => !X y
def fA (X Y : Nat → Bool) : Nat → Bool := fun y => X y && Y y
def fO (X Y : Nat → Bool) : Nat → Bool := fun y => X y || Y y
def fX (X Y : Nat → Bool) : Nat → Bool := fun y => xor (X y) (Y y)
def fI (X Y Z : Nat → Bool) : Nat → Bool := fun y => if X y then Y y else Z y
def c0 : Nat → Bool := fun _ => false
def c1 : Nat → Bool := fun _ => true
abbrev Kl := List (Nat × (Nat → Bool))
/-- All these are nodes of these functions. -/
def Kn (M : Mdl) (l : Kl) : Prop := ∀ p ∈ l, M.isNode p.1 ∧ Eqt (M.tbl p.1) p.2
/-- A store at S, of so many variables, so much room, made since W, in which these handles are these functions; so many nodes above the two lowest levels at most. -/
def Sx (W w : World) (S n r : Nat) (l : Kl) (b : Nat) : Prop := ∃ F M, St w S F M ∧ M.n = n ∧ M.room = r ∧ M.up ≤ b ∧ Kn M l ∧ Below W.heap.size W w ∧ ∀ k, F k → W.heap.size ≤ k
section
variable {W w w' : World} {S n r b : Nat} {l : Kl} {x y z : Nat} {X Y Z : Nat → Bool}
theorem Kn.cons {M : Mdl} (h : Kn M l) (hx : M.isNode x) (e : Eqt (M.tbl x) X) : Kn M ((x, X) :: l) := fun p hp => by
  rcases List.mem_cons.1 hp with rfl | hp
  · exact ⟨hx, e⟩
  · exact h p hp
theorem Kn.grew {M M' : Mdl} (h : Kn M l) (o : M.Ok) (g : Mdl.Grew M M') : Kn M' l := fun p hp => ⟨g.isNode (h p hp).1, fun y hy => by rw [g.tbl o (h p hp).1]; exact (h p hp).2 y hy⟩
/-- Two handles are one just if their functions are. -/
theorem Sx.one (h : Sx W w S n r l b) (hx : (x, X) ∈ l) (hy : (y, Y) ∈ l) : x = y ↔ Eqt X Y := by
  obtain ⟨F, M, s, _, _, _, k, _⟩ := h
  obtain ⟨n1, e1⟩ := k _ hx
  obtain ⟨n2, e2⟩ := k _ hy
  rw [← Mdl.one_iff s.ok n1 n2]
  exact ⟨fun e => e1.symm.trans (Eqt.trans e e2), fun e => e1.trans (e.trans e2.symm)⟩
theorem Sx.same (h : Sx W w S n r l b) (hx : (x, X) ∈ l) (hy : (y, Y) ∈ l) (e : Eqt X Y) : x = y := (h.one hx hy).2 e
theorem Sx.below (h : Sx W w S n r l b) (k : Below w.heap.size w w') : Sx W w' S n r l b := by
  obtain ⟨F, M, s, e1, e2, e3, q, B, f⟩ := h
  exact ⟨F, M, s.below k, e1, e2, e3, q, Rf.below_far B k, f⟩
theorem Sx.base (h : Sx W w S n r l b) : Below W.heap.size W w := by
  obtain ⟨F, M, s, e1, e2, e3, q, B, f⟩ := h
  exact B
theorem Sx.mono {l' : Kl} (h : Sx W w S n r l b) (m : ∀ p ∈ l', p ∈ l) : Sx W w S n r l' b := by
  obtain ⟨F, M, s, e1, e2, e3, q, B, f⟩ := h
  exact ⟨F, M, s, e1, e2, e3, fun p hp => q p (m p hp), B, f⟩
/-- A block of another kind stays as it is. -/
theorem Sx.row (h : Sx W w S n r l b) {k : Nat} {cs : Array Value} {t : TypeId} {fr : Nat × Nat} (hk : w.heap[k]? = some (.cells cs t fr)) (ht : t ≠ 94 ∧ t ≠ 131 ∧ t ≠ 228 ∧ t ≠ 22 ∧ t ≠ 38) : ∃ F M, St w S F M ∧ ¬ F k := by
  obtain ⟨F, M, s, _⟩ := h
  exact ⟨F, M, s, s.row hk ht⟩
/-- What lies outside the store. -/
def Out (w w' : World) : Prop := ∀ (k : Nat) (cs : Array Value) (t : TypeId) (fr : Nat × Nat), w.heap[k]? = some (Obj.cells cs t fr) → (t ≠ 94 ∧ t ≠ 131 ∧ t ≠ 228 ∧ t ≠ 22 ∧ t ≠ 38) → w'.heap[k]? = some (Obj.cells cs t fr)
theorem Out.of {F F' : Nat → Prop} {M : Mdl} (s : St w S F M) (g : Wf F F' w w') : Out w w' := fun k _ _ _ hk ht => (g.block k (Array.getElem?_eq_some_iff.1 hk).1 (s.row hk ht)).trans hk
theorem Out.below (g : Below w.heap.size w w') : Out w w' := fun k _ _ _ hk _ => (g.block k (Array.getElem?_eq_some_iff.1 hk).1).trans hk
/-- What an operation leaves where there is room. -/
def LeftX (W : World) (S n r : Nat) (l : Kl) (b : Nat) (X : Nat → Bool) (w : World) (e : Ending) (w' : World) : Prop := ∃ z : Nat, e = .returned (.tuple #[.int .u32 (z : Int), .int .i64 0]) ∧ Sx W w' S n r ((z, X) :: l) b ∧ Out w w'
end
end Go.Proofs.YteickckgljlacaaGreat

namespace Go.Proofs.YteickckgljlacaaGreat
open Go Go.RowKit

end Go.Proofs.YteickckgljlacaaGreat

namespace Go.Proofs.YteickckgljlacaaGreat
open Go Go.RowKit
open Rf (fixAt fixF tab)

/-- All parts of a function go in. -/
def Just (M : Mdl) (_k : Nat) (F : Nat → Bool) : Prop := M.hs.length + ((prts M F).length - both M F) ≤ M.room
section
variable {M M1 M2 : Mdl} {F G : Nat → Bool} {k a c x : Nat}
theorem MadeIs.got (o : M.Ok) (hk : k ≤ M.n) (d : Dep M k F) (m : MadeIs M k F x M1) : Got M k F x M1 :=
  ⟨m.grew, m.node, m.lev, m.tbl, m.up, fun G => by rw [m.subs G, subs_up o k hk d]⟩
/-- What goes in says how many there may be. -/
theorem just_iff (o : M.Ok) (d : Dep M 0 F) (l : List (List Bool)) (hl : l.Nodup) (h : ∀ z ∈ l, ∃ G, z = encT G ∧ (Has M G ∨ Prt M F G)) : l.length ≤ M.hs.length + ((prts M F).length - both M F) := by
  rw [← join_len o F]
  refine nodup_le _ _ hl fun z hz => ?_
  obtain ⟨G, rfl, q⟩ := h z hz
  exact (join_mem o d G).2 q
theorem join_ex {z : List Bool} (hz : z ∈ encs M ++ rest (encs M) ((prts M F).map encT)) : ∃ G, z = encT G := by
  rcases List.mem_append.1 hz with h | h
  · exact encs_ex h
  · obtain ⟨G, _, e⟩ := List.mem_map.1 (mem_rest.1 h).1
    exact ⟨G, e.symm⟩
theorem just_mono (o : M.Ok) (o1 : M1.Ok) (d : Dep M 0 F) (d1 : Dep M1 0 G) (r : M1.room = M.room) (h : ∀ X, Has M1 X ∨ Prt M1 G X → Has M X ∨ Prt M F X) (j : Just M k F) : Just M1 c G := by
  unfold Just at *
  rw [← join_len o1 G, r]
  refine Nat.le_trans (just_iff o d _ (join_nodup o1 G) fun z hz => ?_) j
  obtain ⟨X, rfl⟩ := join_ex hz
  exact ⟨X, rfl, h X ((join_mem o1 d1 X).1 hz)⟩
theorem Rm.just : Rm Just := by
  refine ⟨fun {M k F} o hk d h => ?_, fun {M M1 k a F} o o1 hk d h m => ?_, fun {M M1 M2 k a c F} o o1 o2 hk d nc ne h m1 m2 no => ?_⟩
  · refine just_mono (k := k) o o (d.mono (Nat.zero_le _)) ((d.fix o hk false).mono (Nat.zero_le _)) rfl (fun X q => q.imp id fun q => ?_) h
    exact (Prt.step o hk d).2 (.inr (.inl q))
  · have g := m.got o hk (d.fix o hk false)
    refine just_mono (k := k) o o1 (d.mono (Nat.zero_le _)) (((d.fix o hk true).mono (Nat.zero_le _)).grew m.grew) m.grew.room (fun X q => ?_) h
    rw [Prt.step o hk d]
    rcases q with q | q
    · exact ((g.has X).1 q).imp id fun q => .inr (.inl q)
    · exact .inr (.inr (.inr ((Prt.grew_iff g.grew).1 q)))
  · have g1 := m1.got o hk (d.fix o hk false)
    have n1 := m1.grew.n
    have g2 := m2.got o1 (by omega) ((d.fix o hk true).grew m1.grew)
    have hac : a ≠ c := fun e => ne fun y hy => by rw [← m1.tbl y hy, ← m2.tbl y hy, ← e, m2.grew.tbl o1 m1.node]
    by_cases q : M2.hs.length < M2.room
    · exact q
    · exfalso
      have full : M2.hs.length = M2.room := by have := o2.len; omega
      have st := Stuck.join o o1 o2 hk d g1 g2 hac no full
      have := st.len o o2 (d.mono (Nat.zero_le _))
      unfold Just at h
      omega
end
end Go.Proofs.YteickckgljlacaaGreat

namespace Go.Proofs.YteickckgljlacaaGreat
open Go Go.RowKit
open Rf (fixAt fixF tab prt dedup addN hasUpto lvA lvX)

theorem mem_addN {ts : List (Nat → Bool)} {F A : Nat → Bool} (h : A ∈ addN ts F) : A ∈ ts ∨ A = F := by
  cases q : hasUpto (fun i => ts.getD i fun _ => false) F ts.length with
  | true => rw [Rf.addN_skip q] at h; exact .inl h
  | false =>
    rw [Rf.addN_new q] at h
    rcases List.mem_append.1 h with h | h
    · exact .inl h
    · exact .inr (List.mem_singleton.1 h)
theorem mem_dedup {T : Nat → Nat → Bool} {A : Nat → Bool} : ∀ {L}, A ∈ dedup T L → ∃ i, i < L ∧ A = T i
  | 0, h => by cases h
  | L + 1, h => by
    have h' : A ∈ addN (dedup T L) (T L) := h
    rcases mem_addN h' with q | q
    · obtain ⟨i, hi, e⟩ := mem_dedup q
      exact ⟨i, by omega, e⟩
    · exact ⟨L, by omega, q⟩
theorem in_dedup (T : Nat → Nat → Bool) (X : Nat → Bool) : ∀ L, InT (dedup T L) X ↔ ∃ i, i < L ∧ Eqt (T i) X
  | 0 => ⟨fun ⟨F, h, _⟩ => (by cases h), fun ⟨i, hi, _⟩ => (by omega)⟩
  | L + 1 => by
    have e : dedup T (L + 1) = addN (dedup T L) (T L) := rfl
    rw [e, in_addN, in_dedup T X L]
    constructor
    · rintro (⟨i, hi, q⟩ | q)
      · exact ⟨i, by omega, q⟩
      · exact ⟨L, by omega, q⟩
    · rintro ⟨i, hi, q⟩
      by_cases c : i = L
      · subst c; exact .inr q
      · exact .inl ⟨i, by omega, q⟩
/-- How many nodes the functions have together. -/
def sizeN (M : Mdl) (T : Nat → Nat → Bool) (L : Nat) : Nat := (prt (fun i => (M.v i : Int)) M.n (dedup T L) (min M.n 8 + 1)).1.length
section
variable {M M1 : Mdl} {T : Nat → Nat → Bool} {L : Nat} {A : Nat → Bool}
/-- The parts of all of them. -/
def PrtT (M : Mdl) (T : Nat → Nat → Bool) (L : Nat) (X : Nat → Bool) : Prop := ∃ i, i < L ∧ Prt M (T i) X
theorem prt_dedup (o : M.Ok) (d : ∀ i, i < L → Dep M 0 (T i)) (X : Nat → Bool) : (∃ F ∈ dedup T L, Prt M F X) ↔ PrtT M T L X := by
  constructor
  · rintro ⟨F, hF, p⟩
    obtain ⟨i, hi, rfl⟩ := mem_dedup hF
    exact ⟨i, hi, p⟩
  · rintro ⟨i, hi, p⟩
    obtain ⟨F, hF, e⟩ := (in_dedup T (T i) L).2 ⟨i, hi, Eqt.refl _⟩
    exact ⟨F, hF, (Prt.like o (d i hi) e.symm).1 p⟩
theorem sizeN_mem (o : M.Ok) (d : ∀ i, i < L → Dep M 0 (T i)) (X : Nat → Bool) : encT X ∈ ((prt (fun i => (M.v i : Int)) M.n (dedup T L) (min M.n 8 + 1)).1.map encT) ↔ PrtT M T L X := by
  have n8 := o.le8
  have e8 : min M.n 8 = M.n := by omega
  rw [← prt_dedup o d, e8, List.mem_map]
  have key : (∃ a ∈ (prt (fun i => (M.v i : Int)) M.n (dedup T L) (M.n + 1)).1, encT a = encT X) ↔ InT (prt (fun i => (M.v i : Int)) M.n (dedup T L) (M.n + 1)).1 X :=
    ⟨fun ⟨x, hx, e⟩ => ⟨x, hx, (encT_iff _ _).1 e⟩, fun ⟨x, hx, e⟩ => ⟨x, hx, (encT_iff _ _).2 e⟩⟩
  rw [key, in_prt _ _ _ (M.n + 1) (Nat.le_refl _) (by omega)]
  constructor
  · rintro ⟨j, hj, h1, h2⟩
    obtain ⟨F, hF, q⟩ := (lv_desc o (dedup T L) j (by omega) X).1 h1
    obtain ⟨i, hi, rfl⟩ := mem_dedup hF
    exact ⟨_, hF, (subs_desc o M.n 0 _ X (by omega) (d i hi)).2 ⟨j, by omega, q, h2⟩⟩
  · rintro ⟨F, hF, s⟩
    obtain ⟨i, hi, rfl⟩ := mem_dedup hF
    obtain ⟨j, hj, q, h2⟩ := (subs_desc o M.n 0 _ X (by omega) (d i hi)).1 s
    exact ⟨j, by omega, (lv_desc o (dedup T L) j hj X).2 ⟨_, hF, q⟩, h2⟩
theorem sizeN_nodup (M : Mdl) (T : Nat → Nat → Bool) (L : Nat) : ((prt (fun i => (M.v i : Int)) M.n (dedup T L) (min M.n 8 + 1)).1.map encT).Nodup := by
  unfold List.Nodup
  rw [List.pairwise_map]
  exact (pw_prt _ _ _ _).imp fun q e => q ((encT_iff _ _).1 e)
/-- As many nodes. -/
theorem size_len (o : M.Ok) (d : ∀ i, i < L → Dep M 0 (T i)) (h : ∀ X, Has M X ↔ PrtT M T L X) : M.hs.length = sizeN M T L := by
  have e : sizeN M T L = ((prt (fun i => (M.v i : Int)) M.n (dedup T L) (min M.n 8 + 1)).1.map encT).length := by rw [List.length_map]; rfl
  rw [← encs_len M, e]
  refine Nat.le_antisymm (nodup_le _ _ (encs_nodup o) fun z hz => ?_) (nodup_le _ _ (sizeN_nodup M T L) fun z hz => ?_)
  · obtain ⟨G, rfl⟩ := encs_ex hz
    exact (sizeN_mem o d G).2 ((h G).1 (encs_iff.1 hz))
  · obtain ⟨G, _, rfl⟩ := List.mem_map.1 hz
    exact encs_iff.2 ((h G).2 ((sizeN_mem o d G).1 hz))
theorem sizeN_grew (g : Mdl.Grew M M1) : sizeN M1 T L = sizeN M T L := by unfold sizeN; rw [g.v, g.n]
theorem PrtT.grew_iff (g : Mdl.Grew M M1) {X : Nat → Bool} : PrtT M1 T L X ↔ PrtT M T L X :=
  ⟨fun ⟨i, hi, p⟩ => ⟨i, hi, (Prt.grew_iff g).1 p⟩, fun ⟨i, hi, p⟩ => ⟨i, hi, (Prt.grew_iff g).2 p⟩⟩
end
end Go.Proofs.YteickckgljlacaaGreat
