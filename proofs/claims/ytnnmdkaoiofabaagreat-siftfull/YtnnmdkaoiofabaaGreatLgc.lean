/-
 Operations over the nodes of a store, without a program: which nodes an answer is made of, what making them leaves, what a full store means.
 The rules of package logic: where an answer is told at once; what becomes of an argument further down.
 Package logic: the walk of all operations, over whatever rule.
 Package logic: what each operation comes to.
 Package logic by its face: Not, And, Or, Xor, Ite, Var.
 A store some of whose handles are known by their functions; package logic over it. Var.
 A drawn statement each of whose operations leaves a value with a property that new memory keeps; behind it the frame is told slot by slot.
 Functions made in a store of just so much room.
 As many nodes as several functions have together, without a program; room for them.
-/
import Derived.Test.YtnnmdkaoiofabaaGreatBaseG
import Derived.Test.YtnnmdkaoiofabaaGreatBaseS
import Derived.Deep.RegionHeld3
import Derived.Test.YtnnmdkaoiofabaaGreatBaseD
import Derived.Test.YtnnmdkaoiofabaaGreatBaseF
namespace Go.Proofs.YtnnmdkaoiofabaaGreat
open Rf (fixAt fixF)
section
variable {M M' M'' : Mdl} {F F' G : Nat → Bool} {k : Nat}
theorem Dep.congr (d : Dep M k F) (e : Eqt F F') : Dep M k F' := fun x y hx hy q => by rw [← e x hx, ← e y hy]; exact d x y hx hy q
theorem Dep.mono {j : Nat} (d : Dep M k F) (h : j ≤ k) : Dep M j F := fun x y hx hy q => d x y hx hy fun i hi hn => q i (by omega) hn
theorem Dep.grew (d : Dep M k F) (g : Mdl.Grew M M') : Dep M' k F := fun x y hx hy q => d x y hx hy fun i hi hn => by rw [← g.v]; exact q i hi (by rw [g.n]; exact hn)
theorem v8 (o : M.Ok) {i : Nat} (h : i < M.n) : M.v i < 8 := by have := o.vlt i h; have := o.le8; omega
theorem Dep.fixed (o : M.Ok) (hk : k < M.n) (d : Dep M (k + 1) F) (b : Bool) : Eqt (fixF F (M.v k) b) F := fun x hx => by
 obtain ⟨h1, h2⟩ := fixAt_bits hx (v8 o hk) b
 refine d _ _ h1 hx fun j hj hn => ?_
 rw [h2]
 exact Mdl.setA_other _ _ fun e => by have := o.vinj j k hn hk e; omega
def Prt (M : Mdl) (F G : Nat → Bool) : Prop := Subs M.v M.n 0 F G
theorem Prt.grew_iff (g : Mdl.Grew M M') : Prt M' F G ↔ Prt M F G := by unfold Prt; rw [g.v, g.n]
theorem subs_step (o : M.Ok) (hk : k < M.n) (d : Dep M k F) : Subs M.v (M.n - k) k F G ↔ (Eqt F G ∧ ¬ Cst G) ∨ Subs M.v (M.n - (k + 1)) (k + 1) (fixF F (M.v k) false) G ∨ Subs M.v (M.n - (k + 1)) (k + 1) (fixF F (M.v k) true) G := by
 rw [subs_desc o _ k F G (by omega) d, subs_desc o _ (k + 1) _ G (by omega) (d.fix o hk false), subs_desc o _ (k + 1) _ G (by omega) (d.fix o hk true)]
 constructor
 ·rintro ⟨j, hj, h, c⟩
  match j, h with
  | 0, h => exact .inl ⟨h, c⟩
  | j + 1, .inl h => exact .inr (.inl ⟨j, by omega, h, c⟩)
  | j + 1, .inr h => exact .inr (.inr ⟨j, by omega, h, c⟩)
 ·rintro (⟨e, c⟩ | ⟨j, hj, h, c⟩ | ⟨j, hj, h, c⟩)
  ·exact ⟨0, by omega, e, c⟩
  ·exact ⟨j + 1, by omega, .inl h, c⟩
  ·exact ⟨j + 1, by omega, .inr h, c⟩
theorem subs_like (o : M.Ok) (hk : k ≤ M.n) (d : Dep M k F) (d' : Dep M k F') (e : Eqt F F') : Subs M.v (M.n - k) k F G ↔ Subs M.v (M.n - k) k F' G := by
 rw [subs_desc o _ k F G (by omega) d, subs_desc o _ k F' G (by omega) d']
 have hv : ∀ j, j ≤ M.n - k → ∀ i, i < j → M.v (k + i) < 8 := fun j hj i hi => v8 o (by omega)
 constructor
 ·rintro ⟨j, hj, h, c⟩
  exact ⟨j, hj, desc_from (hv j hj) h e, c⟩
 ·rintro ⟨j, hj, h, c⟩
  exact ⟨j, hj, desc_from (hv j hj) h e.symm, c⟩
theorem subs_up (o : M.Ok) : ∀ (k : Nat), k ≤ M.n → ∀ {F G : Nat → Bool}, Dep M k F → (Subs M.v (M.n - k) k F G ↔ Prt M F G)
 | 0, _, _, _, _ => Iff.rfl
 | k + 1, hk, F, G, d => by
  have d0 : Dep M k F := d.mono (by omega)
  rw [← subs_up o k (by omega) d0, subs_step o (by omega) d0]
  have e0 := d.fixed o (by omega) false
  have e1 := d.fixed o (by omega) true
  rw [subs_like o hk (d.congr e0.symm) d e0, subs_like o hk (d.congr e1.symm) d e1]
  constructor
  ·exact fun h => .inr (.inl h)
  ·rintro (⟨e, c⟩ | h | h)
   ·exact (subs_desc o _ (k + 1) F G (by omega) d).2 ⟨0, by omega, e, c⟩
   ·exact h
   ·exact h
theorem Prt.step (o : M.Ok) (hk : k < M.n) (d : Dep M k F) : Prt M F G ↔ (Eqt F G ∧ ¬ Cst G) ∨ Prt M (fixF F (M.v k) false) G ∨ Prt M (fixF F (M.v k) true) G := by
 rw [← subs_up o k (by omega) d, subs_step o hk d, subs_up o (k + 1) hk (d.fix o hk false), subs_up o (k + 1) hk (d.fix o hk true)]
theorem Prt.like (o : M.Ok) (d : Dep M 0 F) (e : Eqt F F') : Prt M F G ↔ Prt M F' G := subs_like o (Nat.zero_le _) d (d.congr e) e
theorem Prt.self (o : M.Ok) (d : Dep M 0 F) (nc : ¬ Cst F) : Prt M F F := (subs_desc o _ 0 F F (by omega) d).2 ⟨0, by omega, Eqt.refl F, nc⟩
theorem Prt.not_cst (o : M.Ok) (d : Dep M 0 F) (c : Cst F) : ¬ Prt M F G := fun h => by
 obtain ⟨j, hj, h, nc⟩ := (subs_desc o _ 0 F G (by omega) d).1 h
 exact nc (desc_cst (fun i hi => v8 o (by omega)) c h)
theorem tbl_dep (o : M.Ok) {h : Nat} (hh : M.isNode h) (hk : k ≤ M.lev h) : Dep M k (M.tbl h) := fun x y hx hy q =>
 Mdl.val_congr o _ hh (Nat.le_refl _) fun j hj hn => q j (by omega) hn
theorem tbl_fix (o : M.Ok) {h : Nat} (hh : M.isNode h) (hk : k < M.lev h) (hn : k < M.n) (b : Bool) : Eqt (fixF (M.tbl h) (M.v k) b) (M.tbl h) := (tbl_dep o hh hk).fixed o hn b
theorem tbl_lo (o : M.Ok) {h : Nat} (hm : h ∈ M.hs) : Eqt (M.tbl (M.nd h).2.1) (fixF (M.tbl h) (M.v (M.nd h).1) false) := fun x hx => by
 obtain ⟨h1, h2⟩ := fixAt_bits hx (v8 o (o.lv h hm)) false
 show M.val _ _ = M.val h (fixAt (M.v (M.nd h).1) false x).testBit
 rw [h2, Mdl.val_lo o hm]
theorem tbl_hi (o : M.Ok) {h : Nat} (hm : h ∈ M.hs) : Eqt (M.tbl (M.nd h).2.2) (fixF (M.tbl h) (M.v (M.nd h).1) true) := fun x hx => by
 obtain ⟨h1, h2⟩ := fixAt_bits hx (v8 o (o.lv h hm)) true
 show M.val _ _ = M.val h (fixAt (M.v (M.nd h).1) true x).testBit
 rw [h2, Mdl.val_hi o hm]
theorem tbl_cst {h : Nat} (h2 : h < 2) : Cst (M.tbl h) := by
 have e : ∀ x, M.tbl h x = decide (h = 1) := fun x => Mdl.val_const h2 _
 by_cases c : h = 1
 ·exact .inr fun x _ => by rw [e]; simp [c]
 ·exact .inl fun x _ => by rw [e]; simp [c]
theorem Prt.there (o : M.Ok) (d : Nat) : ∀ {h : Nat}, M.isNode h → M.n - M.lev h ≤ d → Prt M (M.tbl h) G → Has M G := by
 induction d with
 | zero =>
  intro h hh hd p
  refine absurd p (Prt.not_cst o (tbl_dep o hh (Nat.zero_le _)) (tbl_cst ?_))
  rcases hh with e | e
  ·exact e
  ·have := o.lv h e; rw [Mdl.lev_in o e] at hd; omega
 | succ d ih =>
  intro h hh hd p
  rcases hh with e | hm
  ·exact absurd p (Prt.not_cst o (tbl_dep o (.inl e) (Nat.zero_le _)) (tbl_cst e))
  ·have lv := o.lv h hm
   have l1 := o.lo h hm
   have l2 := o.hi h hm
   rw [Mdl.lev_in o hm] at hd
   have dp : Dep M (M.nd h).1 (M.tbl h) := tbl_dep o (.inr hm) (by rw [Mdl.lev_in o hm]; exact Nat.le_refl _)
   rcases (Prt.step o lv dp).1 p with ⟨e, _⟩ | q | q
   ·exact ⟨h, hm, e⟩
   ·exact ih l1.1 (by omega) ((Prt.like o (tbl_dep o l1.1 (Nat.zero_le _)) (tbl_lo o hm)).2 q)
   ·exact ih l2.1 (by omega) ((Prt.like o (tbl_dep o l2.1 (Nat.zero_le _)) (tbl_hi o hm)).2 q)
end
structure Got (M : Mdl) (k : Nat) (F : Nat → Bool) (x : Nat) (M' : Mdl) : Prop where
 grew : Mdl.Grew M M'
 node : M'.isNode x
 lev : k ≤ M'.lev x
 tbl : Eqt (M'.tbl x) F
 up : M'.up ≤ M.up + (2 ^ (M.n - 2 - k) - 1)
 has : ∀ G, Has M' G ↔ Has M G ∨ Prt M F G
structure Stuck (M : Mdl) (k : Nat) (F : Nat → Bool) (M' : Mdl) : Prop where
 grew : Mdl.Grew M M'
 full : M'.hs.length = M'.room
 up : M'.up ≤ M.up + (2 ^ (M.n - 2 - k) - 1)
 has : ∀ G, Has M' G → Has M G ∨ Prt M F G
 miss : ∃ G, Prt M F G ∧ ¬ Has M' G
def Told (M : Mdl) (k : Nat) (F : Nat → Bool) (x : Nat) (er : Int) (M' : Mdl) : Prop := (er = 0 ∧ Got M k F x M') ∨ (er = 60 ∧ x = 0 ∧ Stuck M k F M')
section
variable {M M1 M2 M3 : Mdl} {F F' : Nat → Bool} {k L x p q : Nat} {er : Int}
theorem Got.here (o : M.Ok) (hx : M.isNode x) (hk : k ≤ M.lev x) (e : Eqt (M.tbl x) F) : Got M k F x M :=
 ⟨Mdl.Grew.refl M, hx, hk, e, by omega, fun G => ⟨.inl, fun h => h.elim id fun h => Prt.there o _ hx (Nat.le_refl _) ((Prt.like o (tbl_dep o hx (Nat.zero_le _)) e).2 h)⟩⟩
theorem pow_le (h : k ≤ L) (n : Nat) : 2 ^ (n - L) ≤ 2 ^ (n - k) := Nat.pow_le_pow_right (by omega) (by omega)
theorem Got.raise (g : Got M L F x M1) (h : k ≤ L) : Got M k F x M1 :=
 ⟨g.grew, g.node, Nat.le_trans h g.lev, g.tbl, by have := g.up; have := pow_le h (M.n - 2); omega, g.has⟩
theorem Stuck.raise (g : Stuck M L F M1) (h : k ≤ L) : Stuck M k F M1 :=
 ⟨g.grew, g.full, by have := g.up; have := pow_le h (M.n - 2); omega, g.has, g.miss⟩
theorem Got.like (o : M.Ok) (d : Dep M 0 F) (e : Eqt F F') (g : Got M k F x M1) : Got M k F' x M1 :=
 ⟨g.grew, g.node, g.lev, g.tbl.trans e, g.up, fun G => by rw [g.has G, Prt.like o d e]⟩
theorem Stuck.like (o : M.Ok) (d : Dep M 0 F) (e : Eqt F F') (g : Stuck M k F M1) : Stuck M k F' M1 :=
 ⟨g.grew, g.full, g.up, fun G h => (g.has G h).imp id (Prt.like o d e).1, g.miss.imp fun _ h => ⟨(Prt.like o d e).1 h.1, h.2⟩⟩
theorem Stuck.low (o : M.Ok) (hL : L < M.n) (d : Dep M L F) (g : Stuck M (L + 1) (fixF F (M.v L) false) M1) : Stuck M L F M1 := by
 refine ⟨g.grew, g.full, by have := g.up; have := pow_le (show L ≤ L + 1 by omega) (M.n - 2); omega, fun G h => (g.has G h).imp id fun h => (Prt.step o hL d).2 (.inr (.inl h)), ?_⟩
 obtain ⟨G, h1, h2⟩ := g.miss
 exact ⟨G, (Prt.step o hL d).2 (.inr (.inl h1)), h2⟩
theorem up_two (hL : L < M.n) {a b : Nat} (h1 : a ≤ M.up + (2 ^ (M.n - 2 - (L + 1)) - 1)) (h2 : b ≤ a + (2 ^ (M.n - 2 - (L + 1)) - 1)) : b + (if L + 2 < M.n then 1 else 0) ≤ M.up + (2 ^ (M.n - 2 - L) - 1) := by
 have p1 := two_pow_pos' (M.n - 2 - (L + 1))
 by_cases c : L + 2 < M.n
 ·rw [if_pos c]
  have : (2 : Nat) ^ (M.n - 2 - L) = 2 * 2 ^ (M.n - 2 - (L + 1)) := by
   rw [show M.n - 2 - L = (M.n - 2 - (L + 1)) + 1 by omega, Nat.pow_succ]
   omega
  omega
 ·rw [if_neg c]
  have e0 : M.n - 2 - (L + 1) = 0 := by omega
  have e1 : M.n - 2 - L = 0 := by omega
  rw [e0] at h1 h2
  rw [e1]
  simp at h1 h2 ⊢
  omega
theorem Stuck.high (o : M.Ok) (hL : L < M.n) (d : Dep M L F) (g1 : Got M (L + 1) (fixF F (M.v L) false) p M1) (g : Stuck M1 (L + 1) (fixF F (M.v L) true) M2) : Stuck M L F M2 := by
 have u2 := g.up
 rw [g1.grew.n] at u2
 have up := up_two hL g1.up u2
 refine ⟨g1.grew.trans g.grew, g.full, by omega, fun G h => ?_, ?_⟩
 ·rw [Prt.step o hL d]
  rcases g.has G h with h | h
  ·exact ((g1.has G).1 h).imp id fun h => .inr (.inl h)
  ·exact .inr (.inr (.inr ((Prt.grew_iff g1.grew).1 h)))
 ·obtain ⟨G, h1, h2⟩ := g.miss
  exact ⟨G, (Prt.step o hL d).2 (.inr (.inr ((Prt.grew_iff g1.grew).1 h1))), h2⟩
theorem Got.same (o : M.Ok) (o1 : M1.Ok) (hL : L < M.n) (d : Dep M L F) (g1 : Got M (L + 1) (fixF F (M.v L) false) p M1) (g2 : Got M1 (L + 1) (fixF F (M.v L) true) p M2) : Got M L F p M2 := by
 have u2 := g2.up
 rw [g1.grew.n] at u2
 have up := up_two hL g1.up u2
 have e01 : Eqt (fixF F (M.v L) false) (fixF F (M.v L) true) := fun y hy => by rw [← g1.tbl y hy, ← g2.tbl y hy, g2.grew.tbl o1 g1.node]
 have eF := fix_same (v8 o hL) e01
 have tF : Eqt (M2.tbl p) F := g2.tbl.trans (e01.symm.trans eF)
 have dF : Dep M (L + 1) F := (d.fix o hL false).congr eF
 refine ⟨g1.grew.trans g2.grew, g2.node, by have := g2.lev; omega, tF, by omega, fun G => ?_⟩
 rw [g2.has G, g1.has G, Prt.grew_iff g1.grew, Prt.like o ((d.fix o hL false).mono (Nat.zero_le _)) eF, Prt.like o ((d.fix o hL true).mono (Nat.zero_le _)) (e01.symm.trans eF)]
 constructor
 ·rintro ((h | h) | h)
  ·exact .inl h
  ·exact .inr h
  ·exact .inr h
 ·rintro (h | h)
  ·exact .inl (.inl h)
  ·exact .inr h
theorem node_is (o : M2.Ok) (hL : L < M2.n) (d : Dep M2 L F) (hp : M2.isNode p ∧ L < M2.lev p) (hq : M2.isNode q ∧ L < M2.lev q) (ne : p ≠ q) (tp : Eqt (M2.tbl p) (fixF F (M2.v L) false)) (tq : Eqt (M2.tbl q) (fixF F (M2.v L) true)) {y : Nat} (hy : y ∈ M2.hs) (e : Eqt (M2.tbl y) F) : M2.nd y = (L, p, q) := by
 have ly := Mdl.lev_in o hy
 have l0 := o.lv y hy
 have l1 := o.lo y hy
 have l2 := o.hi y hy
 rcases Nat.lt_trichotomy (M2.nd y).1 L with c | c | c
 ·exfalso
  have dF : Dep M2 ((M2.nd y).1 + 1) (M2.tbl y) := (d.mono c).congr e.symm
  refine o.ne y hy ((Mdl.one_iff o l1.1 l2.1).1 fun x hx => ?_)
  rw [tbl_lo o hy x hx, tbl_hi o hy x hx, dF.fixed o l0 false x hx, dF.fixed o l0 true x hx]
 ·have e1 : (M2.nd y).2.1 = p := (Mdl.one_iff o l1.1 hp.1).1 fun x hx => by
   rw [tbl_lo o hy x hx, c, tp x hx]
   exact fixF_congr e (v8 o hL) false x hx
  have e2 : (M2.nd y).2.2 = q := (Mdl.one_iff o l2.1 hq.1).1 fun x hx => by
   rw [tbl_hi o hy x hx, c, tq x hx]
   exact fixF_congr e (v8 o hL) true x hx
  exact Prod.ext c (Prod.ext e1 e2)
 ·exfalso
  have t := fun b => (fixF_congr e (v8 o hL) b).symm.trans (tbl_fix o (.inr hy) (by rw [ly]; exact c) hL b)
  exact ne ((Mdl.one_iff o hp.1 hq.1).1 fun x hx => by rw [tp x hx, tq x hx, t false x hx, t true x hx])
theorem Got.fits (hL : L < M.n) (g1 : Got M (L + 1) (fixF F (M.v L) false) p M1) (g2 : Got M1 (L + 1) (fixF F (M.v L) true) q M2) (ne : p ≠ q) : M2.Fits (L, p, q) := by
 have n2 : M2.n = M.n := g2.grew.n.trans g1.grew.n
 refine ⟨by show L < M2.n; omega, ne, ⟨g2.grew.isNode g1.node, ?_⟩, ⟨g2.node, ?_⟩⟩
 ·show L < M2.lev p
  rw [g2.grew.lev g1.node]
  exact g1.lev
 ·exact g2.lev
theorem Got.ncst (o : M.Ok) (o1 : M1.Ok) (o2 : M2.Ok) (hL : L < M.n) (g1 : Got M (L + 1) (fixF F (M.v L) false) p M1) (g2 : Got M1 (L + 1) (fixF F (M.v L) true) q M2) (ne : p ≠ q) : ¬ Cst F := fun c => by
 have e : Eqt (fixF F (M.v L) false) (fixF F (M.v L) true) := fun x hx => by
  have a := (fixAt_bits hx (v8 o hL) false).1
  have b := (fixAt_bits hx (v8 o hL) true).1
  show F _ = F _
  rcases c with c | c
  ·rw [c _ a, c _ b]
  ·rw [c _ a, c _ b]
 exact ne ((Mdl.one_iff o2 (g2.grew.isNode g1.node) g2.node).1 fun y hy => by rw [g2.grew.tbl o1 g1.node, g1.tbl y hy, g2.tbl y hy, e y hy])
theorem Got.parts (o1 : M1.Ok) (g1 : Got M (L + 1) (fixF F (M.v L) false) p M1) (g2 : Got M1 (L + 1) (fixF F (M.v L) true) q M2) : Eqt (M2.tbl p) (fixF F (M2.v L) false) ∧ Eqt (M2.tbl q) (fixF F (M2.v L) true) := by
 have v2 : M2.v = M.v := g2.grew.v.trans g1.grew.v
 rw [v2]
 exact ⟨fun y hy => by rw [g2.grew.tbl o1 g1.node]; exact g1.tbl y hy, g2.tbl⟩
theorem Got.join (o : M.Ok) (o1 : M1.Ok) (o2 : M2.Ok) (hL : L < M.n) (d : Dep M L F) (g1 : Got M (L + 1) (fixF F (M.v L) false) p M1) (g2 : Got M1 (L + 1) (fixF F (M.v L) true) q M2) (ne : p ≠ q) (o3 : M3.Ok) (c : (x ∈ M2.hs ∧ M2.nd x = (L, p, q) ∧ M3 = M2) ∨ M2.Adds x (L, p, q) M3) : Got M L F x M3 := by
 have f := Got.fits hL g1 g2 ne
 have nc := Got.ncst o o1 o2 hL g1 g2 ne
 obtain ⟨tp, tq⟩ := Got.parts o1 g1 g2
 have n2 : M2.n = M.n := g2.grew.n.trans g1.grew.n
 have u2 := g2.up
 rw [g1.grew.n] at u2
 have up := up_two hL g1.up u2
 have hs : ∀ G, (Has M2 G ∨ Eqt F G) ↔ Has M G ∨ Prt M F G := fun G => by
  rw [g2.has G, g1.has G, Prt.grew_iff g1.grew, Prt.step o hL d]
  constructor
  ·rintro (((h | h) | h) | h)
   ·exact .inl h
   ·exact .inr (.inr (.inl h))
   ·exact .inr (.inr (.inr h))
   ·exact .inr (.inl ⟨h, fun c => nc ((cst_congr h).2 c)⟩)
  ·rintro (h | ⟨h, _⟩ | h | h)
   ·exact .inl (.inl (.inl h))
   ·exact .inr h
   ·exact .inl (.inl (.inr h))
   ·exact .inl (.inr h)
 rcases c with ⟨xm, xe, rfl⟩ | ad
 ·have xt : Eqt (M3.tbl x) F := Mdl.joined o2 xm (by rw [xe]; exact tp) (by rw [xe]; exact tq)
  exact ⟨g1.grew.trans g2.grew, .inr xm, by rw [Mdl.lev_in o2 xm, xe]; exact Nat.le_refl _, xt, by omega, fun G => by rw [← hs G]; exact Has.there xm xt G⟩
 ·have xt : Eqt (M3.tbl x) F := Mdl.join ad o2 o3 f tp tq
  have ua := ad.up o3
  rw [n2] at ua
  exact ⟨(g1.grew.trans g2.grew).trans ad.grew, .inr ad.at.1, by rw [Mdl.lev_in o3 ad.at.1, ad.at.2]; exact Nat.le_refl _, xt, by
   have : (L, p, q).1 = L := rfl
   rw [this] at ua
   omega, fun G => by rw [← hs G]; exact Has.adds ad o2 xt G⟩
theorem Stuck.join (o : M.Ok) (o1 : M1.Ok) (o2 : M2.Ok) (hL : L < M.n) (d : Dep M L F) (g1 : Got M (L + 1) (fixF F (M.v L) false) p M1) (g2 : Got M1 (L + 1) (fixF F (M.v L) true) q M2) (ne : p ≠ q) (no : ∀ y ∈ M2.hs, M2.nd y ≠ (L, p, q)) (full : M2.hs.length = M2.room) : Stuck M L F M2 := by
 have nc := Got.ncst o o1 o2 hL g1 g2 ne
 have f := Got.fits hL g1 g2 ne
 obtain ⟨tp, tq⟩ := Got.parts o1 g1 g2
 have u2 := g2.up
 rw [g1.grew.n] at u2
 have up := up_two hL g1.up u2
 refine ⟨g1.grew.trans g2.grew, full, by omega, fun G h => ?_, F, Prt.self o (d.mono (Nat.zero_le _)) nc, ?_⟩
 ·rw [g2.has G, g1.has G, Prt.grew_iff g1.grew] at h
  rw [Prt.step o hL d]
  rcases h with (h | h) | h
  ·exact .inl h
  ·exact .inr (.inr (.inl h))
  ·exact .inr (.inr (.inr h))
 ·rintro ⟨y, hy, e⟩
  exact no y hy (node_is o2 f.lv ((d.grew g1.grew).grew g2.grew) f.lo f.hi ne tp tq hy e)
end
def encs (M : Mdl) : List (List Bool) := M.hs.map fun x => encT (M.tbl x)
def prts (M : Mdl) (F : Nat → Bool) : List (Nat → Bool) := (Rf.prt (fun i => (M.v i : Int)) M.n [F] (min M.n 8 + 1)).1
def meet {α : Type} [DecidableEq α] (l m : List α) : Nat := (l.filter fun z => decide (z ∈ m)).length
def rest {α : Type} [DecidableEq α] (l m : List α) : List α := m.filter fun z => decide (z ∉ l)
def both (M : Mdl) (F : Nat → Bool) : Nat := meet (encs M) ((prts M F).map encT)
section
variable {M M' : Mdl} {F : Nat → Bool} {k x : Nat}
theorem Stuck.never (o' : M'.Ok) (g : Stuck M k F M') (room : M.up + (2 ^ (M.n - 2 - k) - 1) + 19 ≤ M.room) : False := by
 have := Mdl.len_le o'
 have := g.full
 have := g.up
 have := g.grew.room
 omega
end
end Go.Proofs.YtnnmdkaoiofabaaGreat
namespace Go.Proofs.YtnnmdkaoiofabaaGreat
open Go Go.RowKit
open Rf (fixAt fixF)
structure IsRule (R : Nat → Nat → Nat → Option Nat) (op : Bool → Bool → Bool → Bool) : Prop where
 ends : ∀ a b c h, R a b c = some h → h = 0 ∨ h = 1 ∨ h = a ∨ h = b ∨ h = c
 val : ∀ a b c h, R a b c = some h → ∀ V : Nat → Bool, V 0 = false → V 1 = true → V h = op (V a) (V b) (V c)
 goes : ∀ a b c, R a b c = none → 2 ≤ a ∨ 2 ≤ b ∨ 2 ≤ c
def rOr (a b _c : Nat) : Option Nat := if a = 1 ∨ b = 0 ∨ a = b then some a else if b = 1 ∨ a = 0 then some b else none
def oOr (a b _c : Bool) : Bool := a || b
theorem rule_or : IsRule rOr oOr := by
 refine ⟨fun a b c h e => ?_, fun a b c h e V z o => ?_, fun a b c e => ?_⟩
 ·unfold rOr at e; split at e
  ·simp at e; simp [e]
  ·split at e <;> simp at e; simp [e]
 ·unfold rOr at e; unfold oOr
  split at e
  ·rename_i q
   simp at e; subst e
   rcases q with rfl | rfl | rfl
   ·simp [o]
   ·simp [z]
   ·simp
  ·split at e <;> simp at e
   rename_i q
   subst e
   rcases q with rfl | rfl
   ·simp [o]
   ·simp [z]
 ·unfold rOr at e
  split at e
  ·cases e
  ·split at e
   ·cases e
   ·omega
def ans (M : Mdl) (op : Bool → Bool → Bool → Bool) (a b c : Nat) : Nat → Bool := fun x => op (M.tbl a x) (M.tbl b x) (M.tbl c x)
def kid (M : Mdl) (L : Nat) (hi : Bool) (h : Nat) : Nat := if M.lev h = L then (if hi then (M.nd h).2.2 else (M.nd h).2.1) else h
def top (M : Mdl) (a b c : Nat) : Nat := min (min (M.lev a) (M.lev b)) (M.lev c)
section
variable {M M' : Mdl} {L a b c h k : Nat} {hi : Bool} {op : Bool → Bool → Bool → Bool} {R : Nat → Nat → Nat → Option Nat}
theorem kid_ok (o : M.Ok) (hn : L < M.n) (hh : M.isNode h) (hl : L ≤ M.lev h) : M.isNode (kid M L hi h) ∧ L + 1 ≤ M.lev (kid M L hi h) ∧ Eqt (M.tbl (kid M L hi h)) (fixF (M.tbl h) (M.v L) hi) := by
 unfold kid
 by_cases e : M.lev h = L
 ·rw [if_pos e]
  have hm := Mdl.inner_of_lev hh (by omega)
  rw [Mdl.lev_in o hm] at e
  have l1 := o.lo h hm
  have l2 := o.hi h hm
  rw [← e]
  cases hi with
  | true => exact ⟨l2.1, l2.2, tbl_hi o hm⟩
  | false => exact ⟨l1.1, l1.2, tbl_lo o hm⟩
 ·rw [if_neg e]
  exact ⟨hh, by omega, (tbl_fix o hh (by omega) hn hi).symm⟩
theorem kid_grew (g : Mdl.Grew M M') (hh : M.isNode h) (hn : L < M.n) : kid M' L hi h = kid M L hi h := by
 unfold kid
 rw [g.lev hh]
 by_cases e : M.lev h = L
 ·rw [if_pos e, if_pos e, (g.keep h (Mdl.inner_of_lev hh (by omega))).2]
 ·rw [if_neg e, if_neg e]
theorem ans_grew (g : Mdl.Grew M M') (o : M.Ok) (ha : M.isNode a) (hb : M.isNode b) (hc : M.isNode c) : ans M' op a b c = ans M op a b c := by
 funext x
 unfold ans
 rw [g.tbl o ha, g.tbl o hb, g.tbl o hc]
theorem ans_dep (o : M.Ok) (ha : M.isNode a ∧ k ≤ M.lev a) (hb : M.isNode b ∧ k ≤ M.lev b) (hc : M.isNode c ∧ k ≤ M.lev c) : Dep M k (ans M op a b c) := fun x y hx hy q => by
 unfold ans
 rw [tbl_dep o ha.1 ha.2 x y hx hy q, tbl_dep o hb.1 hb.2 x y hx hy q, tbl_dep o hc.1 hc.2 x y hx hy q]
theorem ans_kid (o : M.Ok) (hn : L < M.n) (ha : M.isNode a ∧ L ≤ M.lev a) (hb : M.isNode b ∧ L ≤ M.lev b) (hc : M.isNode c ∧ L ≤ M.lev c) : Eqt (ans M op (kid M L hi a) (kid M L hi b) (kid M L hi c)) (fixF (ans M op a b c) (M.v L) hi) := fun x hx => by
 show op _ _ _ = op _ _ _
 rw [(kid_ok o hn ha.1 ha.2).2.2 x hx, (kid_ok o hn hb.1 hb.2).2.2 x hx, (kid_ok o hn hc.1 hc.2).2.2 x hx]
 rfl
theorem rule_got (r : IsRule R op) (o : M.Ok) (ha : M.isNode a ∧ k ≤ M.lev a) (hb : M.isNode b ∧ k ≤ M.lev b) (hc : M.isNode c ∧ k ≤ M.lev c) (e : R a b c = some h) : Got M k (ans M op a b c) h M := by
 have kn : k ≤ M.n := Nat.le_trans ha.2 (Mdl.lev_le o ha.1)
 have hh : M.isNode h ∧ k ≤ M.lev h := by
  rcases r.ends a b c h e with rfl | rfl | rfl | rfl | rfl
  ·exact ⟨.inl (by omega), by rw [Mdl.lev_const (by omega)]; exact kn⟩
  ·exact ⟨.inl (by omega), by rw [Mdl.lev_const (by omega)]; exact kn⟩
  ·exact ha
  ·exact hb
  ·exact hc
 exact Got.here o hh.1 hh.2 fun x _ => r.val a b c h e (fun y => M.tbl y x) (Mdl.val_zero _) (Mdl.val_one _)
theorem rule_top (r : IsRule R op) (o : M.Ok) (ha : M.isNode a) (hb : M.isNode b) (hc : M.isNode c) (e : R a b c = none) : top M a b c < M.n := by
 have key : ∀ {z}, M.isNode z → 2 ≤ z → M.lev z < M.n := fun {z} hz h2 => by
  have hm := hz.resolve_left (by omega)
  rw [Mdl.lev_in o hm]
  exact o.lv z hm
 unfold top
 rcases r.goes a b c e with h | h | h
 ·have := key ha h; omega
 ·have := key hb h; omega
 ·have := key hc h; omega
theorem top_le : top M a b c ≤ M.lev a ∧ top M a b c ≤ M.lev b ∧ top M a b c ≤ M.lev c := by unfold top; omega
end
def arg3 (a b c : Nat) : Value := .agg #[.int .u32 (a : Int), .int .u32 (b : Int), .int .u32 (c : Int)]
def Rl (f : Nat) (R : Nat → Nat → Nat → Option Nat) : Prop := ∀ (a b c : Nat) (w : World), Calls Tryz.prog f #[arg3 a b c] w fun e w' => e = .returned (.tuple #[.int .u32 (((R a b c).getD 0 : Nat) : Int), .bool (R a b c).isSome]) ∧ Below w.heap.size w w'
theorem nb (w : World) (o : Obj) : Below w.heap.size w (w.alloc o) := (Below.refl _ w).alloc (Nat.le_refl _) o
set_option maxHeartbeats 1000000 in
theorem or_rl : Rl 71 rOr := by
 intro a b c w
 unfold arg3
 by_cases ha1 : a = 1
 ·skip
  have hR : rOr a b c = some a := by
   unfold rOr
   repeat' split
   all_goals first | rfl | omega
  rw [hR]
  have ha1' : ((a : Int) == 1) = true := by simp; omega
  clear hR ha1
  go_enter Tryz.func71, Tryz.ntmps71
  go_wp2_with fail
  go_ret2
  exact ⟨rfl, nb _ _⟩
 ·skip
  by_cases hb0 : b = 0
  ·skip
   have hR : rOr a b c = some a := by
    unfold rOr
    repeat' split
    all_goals first | rfl | omega
   rw [hR]
   have ha1' : ((a : Int) == 1) = false := by simp; omega
   have hb0' : ((b : Int) == 0) = true := by simp; omega
   clear hR ha1 hb0
   go_enter Tryz.func71, Tryz.ntmps71
   go_wp2_with fail
   go_ret2
   exact ⟨rfl, nb _ _⟩
  ·skip
   by_cases hab : a = b
   ·skip
    have hR : rOr a b c = some a := by
     unfold rOr
     repeat' split
     all_goals first | rfl | omega
    rw [hR]
    have ha1' : ((a : Int) == 1) = false := by simp; omega
    have hb0' : ((b : Int) == 0) = false := by simp; omega
    have hab' : ((a : Int) == (b : Int)) = true := by simp; omega
    clear hR ha1 hb0 hab
    go_enter Tryz.func71, Tryz.ntmps71
    go_wp2_with fail
    go_ret2
    exact ⟨rfl, nb _ _⟩
   ·skip
    by_cases hb1 : b = 1
    ·skip
     have hR : rOr a b c = some b := by
      unfold rOr
      repeat' split
      all_goals first | rfl | omega
     rw [hR]
     have ha1' : ((a : Int) == 1) = false := by simp; omega
     have hb0' : ((b : Int) == 0) = false := by simp; omega
     have hab' : ((a : Int) == (b : Int)) = false := by simp; omega
     have hb1' : ((b : Int) == 1) = true := by simp; omega
     clear hR ha1 hb0 hab hb1
     go_enter Tryz.func71, Tryz.ntmps71
     go_wp2_with fail
     go_ret2
     exact ⟨rfl, nb _ _⟩
    ·skip
     by_cases ha0 : a = 0
     ·skip
      have hR : rOr a b c = some b := by
       unfold rOr
       repeat' split
       all_goals first | rfl | omega
      rw [hR]
      have ha1' : ((a : Int) == 1) = false := by simp; omega
      have hb0' : ((b : Int) == 0) = false := by simp; omega
      have hab' : ((a : Int) == (b : Int)) = false := by simp; omega
      have hb1' : ((b : Int) == 1) = false := by simp; omega
      have ha0' : ((a : Int) == 0) = true := by simp; omega
      clear hR ha1 hb0 hab hb1 ha0
      go_enter Tryz.func71, Tryz.ntmps71
      go_wp2_with fail
      go_ret2
      exact ⟨rfl, nb _ _⟩
     ·skip
      have hR : rOr a b c = none := by
       unfold rOr
       repeat' split
       all_goals first | rfl | omega
      rw [hR]
      have ha1' : ((a : Int) == 1) = false := by simp; omega
      have hb0' : ((b : Int) == 0) = false := by simp; omega
      have hab' : ((a : Int) == (b : Int)) = false := by simp; omega
      have hb1' : ((b : Int) == 1) = false := by simp; omega
      have ha0' : ((a : Int) == 0) = false := by simp; omega
      clear hR ha1 hb0 hab hb1 ha0
      go_enter Tryz.func71, Tryz.ntmps71
      go_wp2_with fail
      go_ret2
      exact ⟨rfl, nb _ _⟩
end Go.Proofs.YtnnmdkaoiofabaaGreat
namespace Go.Proofs.YtnnmdkaoiofabaaGreat
open Go Go.RowKit
open Rf (fixAt fixF)
abbrev fv (f : Nat) : Value := .func (.func f) #[] #[]
section
variable {w : World} {S : Nat} {F0 : Nat → Prop} {M : Mdl} {L a b c h : Nat}
theorem lv_any (s : St w S F0 M) (hh : M.isNode h) : Calls Tryz.prog 63 #[.pointer (some ⟨S, 0, none⟩), .int .u32 (h : Int)] w fun e w' => e = .returned (.int .i64 (M.lev h : Int)) ∧ w' = w := by
 have := s_level s h (by have := Mdl.isNode_lt s.ok hh; omega)
 rwa [Mdl.levI_node hh] at this
def ch (hi : Bool) : Nat := if hi then 65 else 64
set_option maxHeartbeats 1000000 in
theorem fixed_any (s : St w S F0 M) (hh : M.isNode h) (hn : L < M.n) (hi : Bool) : Calls Tryz.prog 138 #[.pointer (some ⟨S, 0, none⟩), .int .u32 (h : Int), .int .i64 (L : Int), fv (ch hi)] w fun e w' => e = .returned (.int .u32 (kid M L hi h : Int)) ∧ w' = w := by
 have hb := Mdl.isNode_lt s.ok hh
 have K1 := lv_any s hh
 unfold kid
 by_cases e : M.lev h = L
 ·rw [if_pos e]
  have hm := Mdl.inner_of_lev hh (by omega)
  have K2 := s_low s h (by omega)
  have K3 := s_high s h (by omega)
  rw [Mdl.lowN_in s.ok hm] at K2
  rw [Mdl.highN_in s.ok hm] at K3
  rw [e] at K1
  clear e
  cases hi with
  | true =>
   unfold ch fv
   simp only [if_true]
   go_enter Tryz.func138, Tryz.ntmps138
   go_wp2_with (first
    | (go_at_call 63; refine K1.mono ?_; clear K1; rintro e w ⟨rfl, rfl⟩)
    | (go_at_call 65; refine K3.mono ?_; clear K3; rintro e w ⟨rfl, rfl⟩))
   go_ret
   exact ⟨rfl, rfl⟩
  | false =>
   unfold ch fv
   simp only [Bool.false_eq_true, if_false]
   go_enter Tryz.func138, Tryz.ntmps138
   go_wp2_with (first
    | (go_at_call 63; refine K1.mono ?_; clear K1; rintro e w ⟨rfl, rfl⟩)
    | (go_at_call 64; refine K2.mono ?_; clear K2; rintro e w ⟨rfl, rfl⟩))
   go_ret
   exact ⟨rfl, rfl⟩
 ·rw [if_neg e]
  have e' : ¬ (M.lev h : Int) = (L : Int) := by omega
  go_enter Tryz.func138, Tryz.ntmps138
  go_wp2_with (first
   | (go_at_call 63; refine K1.mono ?_; clear K1; rintro e w ⟨rfl, rfl⟩))
  go_ret
  exact ⟨rfl, rfl⟩
def IsA (w : World) (g a b c : Nat) : Prop := w.heap[g]? = some (.cells #[.int .u32 (a : Int), .int .u32 (b : Int), .int .u32 (c : Int)] 129 (0, 0))
theorem IsA.cells {g : Nat} (i : IsA w g a b c) : w.cell? ⟨g, 0, none⟩ = some (.int .u32 (a : Int)) ∧ w.cell? ⟨g, 1, none⟩ = some (.int .u32 (b : Int)) ∧ w.cell? ⟨g, 2, none⟩ = some (.int .u32 (c : Int)) := by
 unfold IsA at i
 refine ⟨?_, ?_, ?_⟩ <;> simp [World.cell?, i]
theorem IsA.new (w : World) (a b c : Nat) : IsA (w.alloc (.cells #[.int .u32 (a : Int), .int .u32 (b : Int), .int .u32 (c : Int)] 129)) w.heap.size a b c := Go.Deep.blk_alloc_new _ _
theorem IsA.lt {g : Nat} (i : IsA w g a b c) : g < w.heap.size := (Array.getElem?_eq_some_iff.1 i).1
theorem IsA.below {g : Nat} {w' : World} (i : IsA w g a b c) (k : Below w.heap.size w w') : IsA w' g a b c := (k.block _ i.lt).trans i
theorem IsA.wf {g : Nat} {w' : World} {F' : Nat → Prop} (i : IsA w g a b c) (s : St w S F0 M) (k : Wf F0 F' w w') : IsA w' g a b c := (k.block _ i.lt (s.row i (by decide))).trans i
theorem run_min2 (x y : Int) (w : World) : (Builtin.min2 (.int .i64 x) (.int .i64 y)).run Tryz.prog w = .ok (.int .i64 (min x y)) w := by
 unfold Builtin.min2
 by_cases h : y < x
 ·rw [show min x y = y by omega]
  simp [h, go_sem]
 ·rw [show min x y = x by omega]
  simp [h, go_sem]
theorem run_min3 (x y z : Int) (w : World) : (Builtin.min_ #[3, 3, 3] 3 #[.int .i64 x, .int .i64 y, .int .i64 z]).run Tryz.prog w = .ok (.int .i64 (min (min x y) z)) w := by
 have h1 := run_min2 x y
 have h2 := run_min2 (min x y) z
 unfold Builtin.min_
 go_simp
set_option maxRecDepth 100000 in
set_option maxHeartbeats 1000000 in
theorem top_any (s : St w S F0 M) (ha : M.isNode a) (hb : M.isNode b) (hc : M.isNode c) : Calls Tryz.prog 116 #[arg3 a b c, .pointer (some ⟨S, 0, none⟩)] w fun e w' => e = .returned (.int .i64 (top M a b c : Int)) ∧ Below w.heap.size w w' := by
 unfold arg3
 have hm : ∀ u, (Builtin.min_ #[3, 3, 3] 3 #[.int .i64 (M.lev a : Int), .int .i64 (M.lev b : Int), .int .i64 (M.lev c : Int)]).run Tryz.prog u = .ok (.int .i64 (top M a b c : Int)) u := fun u => by
  rw [run_min3]
  congr 2
  unfold top
  omega
 go_enter Tryz.func116, Tryz.ntmps116
 go_wp2_with fail
 have i4 := IsA.new w a b c
 have B4 := nb w (.cells #[.int .u32 (a : Int), .int .u32 (b : Int), .int .u32 (c : Int)] 129)
 have s4 := s.below B4
 have B4A : Aside (Below w.heap.size w (w.alloc (.cells #[.int .u32 (a : Int), .int .u32 (b : Int), .int .u32 (c : Int)] 129))) := B4
 generalize w.alloc (.cells #[.int .u32 (a : Int), .int .u32 (b : Int), .int .u32 (c : Int)] 129) = w4 at i4 B4A s4 ⊢
 have C4 := i4.cells
 obtain ⟨g, hg⟩ : ∃ g, w.heap.size = g := ⟨_, rfl⟩
 have hgA : Aside (Below w.heap.size w w4) := B4A.out
 rw [hg] at i4 C4
 conv in (occs := *) (Value.pointer (some ⟨w.heap.size, 0, none⟩)) => all_goals rw [hg]
 clear hg B4A
 have K1 : ∀ (z : Nat) (_ : M.isNode z), Calls Tryz.prog 63 #[.pointer (some ⟨S, 0, none⟩), .int .u32 (z : Int)] w4.drew fun e w' => e = .returned (.int .i64 (M.lev z : Int)) ∧ w' = w4.drew := fun z hz => lv_any (h := z) s4.drew hz
 clear s4 s B4 i4
 go_region_held3 (fun u => u.cell? ⟨g, 0, none⟩ = some (.int .u32 (a : Int)) ∧ u.cell? ⟨g, 1, none⟩ = some (.int .u32 (b : Int)) ∧ u.cell? ⟨g, 2, none⟩ = some (.int .u32 (c : Int))) (first | assumption | exact C4) (first
  | (go_at_call 63; refine (K1 _ (by assumption)).mono ?_; rintro e w5 ⟨rfl, rfl⟩))
 go_wp2_with fail
 go_ret
 exact ⟨rfl, hgA.out.drew⟩
structure SitA (w : World) (r : Nat) (u : World) : Prop where
 turned : Rf.Turned r w u
 room : ∃ x y z : Value, u.heap[r]? = some (.cells #[x, y, z] 129 (0, 0))
def laidA (w : World) (r a b c : Nat) : World := ((w.setCell ⟨r, 0, none⟩ (.int .u32 (a : Int))).setCell ⟨r, 1, none⟩ (.int .u32 (b : Int))).setCell ⟨r, 2, none⟩ (.int .u32 (c : Int))
theorem laidA_turned (w : World) (r a b c : Nat) : Rf.Turned r w (laidA w r a b c) := by
 unfold laidA
 refine ⟨rfl, rfl, rfl, by simp [World.setCell], fun k _ hk => ?_⟩
 rw [Below.heap_setCell _ _ _ _ hk, Below.heap_setCell _ _ _ _ hk, Below.heap_setCell _ _ _ _ hk]
theorem laidA_is {w : World} {r : Nat} (h : ∃ x y z : Value, w.heap[r]? = some (.cells #[x, y, z] 129 (0, 0))) (a b c : Nat) : IsA (laidA w r a b c) r a b c := by
 obtain ⟨x, y, z, h⟩ := h
 unfold laidA IsA
 simp [World.setCell, Array.getElem?_modify, h]
theorem SitA.laid {w u : World} {r : Nat} (s : SitA w r u) (a b c : Nat) : SitA w r (laidA u r a b c) := by
 have t := laidA_turned u r a b c
 exact ⟨⟨t.os.trans s.turned.os, t.tape.trans s.turned.tape, t.output.trans s.turned.output, Nat.le_trans s.turned.size t.size, fun i hi hne => (t.block i (Nat.lt_of_lt_of_le hi s.turned.size) hne).trans (s.turned.block i hi hne)⟩, _, _, _, laidA_is s.room a b c⟩
theorem SitA.drew {w u : World} {r : Nat} (s : SitA w r u) : SitA w r u.drew := ⟨⟨s.turned.os, s.turned.tape, s.turned.output, s.turned.size, s.turned.block⟩, s.room⟩
theorem IsA.drew {g a b c : Nat} {w : World} (i : IsA w g a b c) : IsA w.drew g a b c := i
theorem results_arg {fn : Func} {p : Tmp} (h : fn.results = #[.cell p 129]) {tmps : Array Value} {w : World} {g a b c : Nat} (hp : tmps.getD p undef = .pointer (some ⟨g, 0, none⟩)) (i : IsA w g a b c) :
  (results fn tmps).run Tryz.prog w = .ok (arg3 a b c) w := by
 obtain ⟨c0, c1, c2⟩ := i.cells
 rw [Rf.results_cell1 h, hp]
 unfold arg3
 go_simp
set_option maxRecDepth 100000 in
set_option maxHeartbeats 1000000 in
theorem half_any (s : St w S F0 M) (ha : M.isNode a) (hb : M.isNode b) (hc : M.isNode c) (hn : L < M.n) (hi : Bool) : Calls Tryz.prog 117 #[arg3 a b c, .pointer (some ⟨S, 0, none⟩), .int .i64 (L : Int), fv (ch hi)] w fun e w' => e = .returned (arg3 (kid M L hi a) (kid M L hi b) (kid M L hi c)) ∧ Below w.heap.size w w' := by
 obtain ⟨R, hR⟩ : ∃ R, arg3 (kid M L hi a) (kid M L hi b) (kid M L hi c) = R := ⟨_, rfl⟩
 have hRA : Aside (R = arg3 (kid M L hi a) (kid M L hi b) (kid M L hi c)) := hR.symm
 rw [hR]
 clear hR
 unfold arg3
 obtain ⟨fu, hfu⟩ : ∃ fu, fv (ch hi) = fu := ⟨_, rfl⟩
 have KF : Aside (∀ u z, St u S F0 M → M.isNode z → Calls Tryz.prog 138 #[.pointer (some ⟨S, 0, none⟩), .int .u32 ((z : Nat) : Int), .int .i64 (L : Int), fu] u fun e w' => e = .returned (.int .u32 (kid M L hi z : Int)) ∧ w' = u) := fun u z hu hz => by rw [← hfu]; exact fixed_any hu hz hn hi
 rw [hfu]
 clear hfu
 go_enter Tryz.func117, Tryz.ntmps117
 go_wp2_with fail
 have i4 := (IsA.new w a b c).below (nb _ (.cells #[.int .u32 0, .int .u32 0, .int .u32 0] 129))
 have B4 : Aside (Below w.heap.size w ((w.alloc (.cells #[.int .u32 (a : Int), .int .u32 (b : Int), .int .u32 (c : Int)] 129)).alloc (.cells #[.int .u32 0, .int .u32 0, .int .u32 0] 129))) := ((Below.refl _ w).alloc (Nat.le_refl _) _).alloc (by simp) _
 have r4 : ((w.alloc (.cells #[.int .u32 (a : Int), .int .u32 (b : Int), .int .u32 (c : Int)] 129)).alloc (.cells #[.int .u32 0, .int .u32 0, .int .u32 0] 129)).heap[w.heap.size + 1]? = some (.cells #[.int .u32 0, .int .u32 0, .int .u32 0] 129 (0, 0)) := by
  have := Go.Deep.blk_alloc_new (w.alloc (.cells #[.int .u32 (a : Int), .int .u32 (b : Int), .int .u32 (c : Int)] 129)) (.cells #[.int .u32 0, .int .u32 0, .int .u32 0] 129)
  simpa using this
 have s4 := s.below B4.out
 have fk : ∀ k, F0 k → k ≠ w.heap.size + 1 := fun k hk => by have := s.lt k hk; omega
 generalize (w.alloc (.cells #[.int .u32 (a : Int), .int .u32 (b : Int), .int .u32 (c : Int)] 129)).alloc (.cells #[.int .u32 0, .int .u32 0, .int .u32 0] 129) = w4 at i4 B4 r4 s4 ⊢
 have st0 : SitA w4 (w.heap.size + 1) w4.drew := ⟨⟨rfl, rfl, rfl, Nat.le_refl _, fun _ _ _ => rfl⟩, _, _, _, r4⟩
 have stw : SitA w4 (w.heap.size + 1) w4 := ⟨Rf.Turned.refl _ _, _, _, _, r4⟩
 have lc : ∀ u, SitA w4 (w.heap.size + 1) u → IsA u w.heap.size a b c := fun u su => (su.turned.block _ i4.lt (by omega)).trans i4
 have lc0 : ∀ u, SitA w4 (w.heap.size + 1) u → u.cell? ⟨w.heap.size, 0, none⟩ = some (.int .u32 (a : Int)) := fun u su => (lc u su).cells.1
 have lc1 : ∀ u, SitA w4 (w.heap.size + 1) u → u.cell? ⟨w.heap.size, 1, none⟩ = some (.int .u32 (b : Int)) := fun u su => (lc u su).cells.2.1
 have lc2 : ∀ u, SitA w4 (w.heap.size + 1) u → u.cell? ⟨w.heap.size, 2, none⟩ = some (.int .u32 (c : Int)) := fun u su => (lc u su).cells.2.2
 have hS : ∀ u, SitA w4 (w.heap.size + 1) u → St u S F0 M := fun u su => s4.kept fun k hk => su.turned.block k (s4.lt k hk) (fk k hk)
 have K1 : ∀ u, SitA w4 (w.heap.size + 1) u → ∀ (z : Nat), M.isNode z → Calls Tryz.prog 138 #[.pointer (some ⟨S, 0, none⟩), .int .u32 ((z : Nat) : Int), .int .i64 (L : Int), fu] u fun e w' => e = .returned (.int .u32 (kid M L hi z : Int)) ∧ w' = u := fun u su z hz => KF.out u z (hS u su) hz
 obtain ⟨r, hr⟩ : ∃ r, w.heap.size + 1 = r := ⟨_, rfl⟩
 have hrA : Aside (w.heap.size + 1 = r) := hr
 rw [hr] at stw st0 lc0 lc1 lc2 K1 ⊢
 rw [hr] at r4
 have d0 : w4.cell? ⟨r, 0, none⟩ = some (.int .u32 0) := by simp [World.cell?, r4]
 have d1 : w4.cell? ⟨r, 1, none⟩ = some (.int .u32 0) := by simp [World.cell?, r4]
 have d2 : w4.cell? ⟨r, 2, none⟩ = some (.int .u32 0) := by simp [World.cell?, r4]
 have f0 : w4.frozen? ⟨r, 0, none⟩ = false := by simp [World.frozen?, r4]
 have f1 : w4.frozen? ⟨r, 1, none⟩ = false := by simp [World.frozen?, r4]
 have f2 : w4.frozen? ⟨r, 2, none⟩ = false := by simp [World.frozen?, r4]
 clear lc s i4 r4 s4 fk hS KF hr
 go_region_held3 (fun u => SitA w4 r u) (first | assumption | exact st0 | exact (stw.laid _ _ _).drew) (first
  | (go_at_call 138; refine (K1 _ (by assumption) _ (by assumption)).mono ?_; rintro e w5 ⟨rfl, e5⟩; subst w5))
 go_wp2_with fail
 refine bodyPost_ret (results_arg rfl rfl (laidA_is stw.room _ _ _).drew) rfl ⟨by rw [hRA.out], ?_⟩
 exact B4.out.trans ((stw.laid _ _ _).drew.turned.below B4.out.size (by have := hrA.out; omega))
end
end Go.Proofs.YtnnmdkaoiofabaaGreat
namespace Go.Proofs.YtnnmdkaoiofabaaGreat
open Go Go.RowKit
open Rf (fixAt fixF)
def Left (S : Nat) (F0 : Nat → Prop) (w : World) (M : Mdl) (k : Nat) (X : Nat → Bool) (e : Ending) (w' : World) : Prop :=
 ∃ (x : Nat) (er : Int) (M' : Mdl) (F' : Nat → Prop), e = .returned (.tuple #[.int .u32 (x : Int), .int .i64 er]) ∧ Told M k X x er M' ∧ St w' S F' M' ∧ Wf F0 F' w w'
section
variable {w : World} {S : Nat} {F0 : Nat → Prop} {M : Mdl} {k a b c f : Nat} {R : Nat → Nat → Nat → Option Nat} {op : Bool → Bool → Bool → Bool}
set_option maxRecDepth 100000 in
set_option maxHeartbeats 2000000 in
theorem lwalk_step (r : IsRule R op) (rl : Rl f R) (hf : ∀ (vs : Array Value) (w : World), (callFunc f vs).run Tryz.prog w = .ok (.enter f vs) w) (s : St w S F0 M) (ha : M.isNode a ∧ k ≤ M.lev a) (hb : M.isNode b ∧ k ≤ M.lev b) (hc : M.isNode c ∧ k ≤ M.lev c)
  (ih : ∀ {w : World} {F0 : Nat → Prop} {M' : Mdl} {L a b c : Nat}, M'.n = M.n → k ≤ L → L < M.n → St w S F0 M' → (M'.isNode a ∧ L + 1 ≤ M'.lev a) → (M'.isNode b ∧ L + 1 ≤ M'.lev b) → (M'.isNode c ∧ L + 1 ≤ M'.lev c) → Calls Tryz.prog 98 #[.pointer (some ⟨S, 0, none⟩), arg3 a b c, fv f] w (Left S F0 w M' (L + 1) (ans M' op a b c))) :
  Calls Tryz.prog 98 #[.pointer (some ⟨S, 0, none⟩), arg3 a b c, fv f] w (Left S F0 w M k (ans M op a b c)) := by
 have o := s.ok
 have K0 := rl a b c
 unfold arg3 at K0
 conv in #[Value.pointer (some ⟨S, 0, none⟩), arg3 a b c, fv f] => unfold arg3
 cases hR : R a b c with
 | some h =>
  have g : Aside (Got M k (ans M op a b c) h M) := rule_got r o ha hb hc hR
  rw [hR] at K0
  clear hR ih
  go_enter Tryz.func98, Tryz.ntmps98
  go_wp2_with (first
   | (guard_target =~ Calls Tryz.prog f _ _ _; refine (K0 _).mono ?_; clear K0; rintro e w5 ⟨rfl, b5⟩))
  go_ret2
  have B5 := Rf.below_far (nb w (.cells #[.int .u32 (a : Int), .int .u32 (b : Int), .int .u32 (c : Int)] 129)) b5
  exact ⟨h, 0, M, F0, rfl, .inl ⟨rfl, g.out⟩, s.below B5, Wf.of_below B5 F0⟩
 | none =>
  have hLn : top M a b c < M.n := rule_top r o ha.1 hb.1 hc.1 hR
  obtain ⟨hla, hlb, hlc⟩ := top_le (M := M) (a := a) (b := b) (c := c)
  have hkL : k ≤ top M a b c := by unfold top; have := ha.2; have := hb.2; have := hc.2; omega
  have Kt : Aside (∀ {u : World}, St u S F0 M → Calls Tryz.prog 116 #[arg3 a b c, .pointer (some ⟨S, 0, none⟩)] u fun e w' => e = .returned (.int .i64 (top M a b c : Int)) ∧ Below u.heap.size u w') := fun {u} su => top_any su ha.1 hb.1 hc.1
  generalize top M a b c = L at hLn hla hlb hlc hkL Kt
  rw [hR] at K0
  have dep : Aside (Dep M L (ans M op a b c)) := ans_dep o ⟨ha.1, hla⟩ ⟨hb.1, hlb⟩ ⟨hc.1, hlc⟩
  have A0 := kid_ok (hi := false) o hLn ha.1 hla
  have B0 := kid_ok (hi := false) o hLn hb.1 hlb
  have C0 := kid_ok (hi := false) o hLn hc.1 hlc
  have A1 := kid_ok (hi := true) o hLn ha.1 hla
  have B1 := kid_ok (hi := true) o hLn hb.1 hlb
  have C1 := kid_ok (hi := true) o hLn hc.1 hlc
  have G0 : Aside (Eqt (ans M op (kid M L false a) (kid M L false b) (kid M L false c)) (fixF (ans M op a b c) (M.v L) false)) := ans_kid o hLn ⟨ha.1, hla⟩ ⟨hb.1, hlb⟩ ⟨hc.1, hlc⟩
  have G1 : Aside (Eqt (ans M op (kid M L true a) (kid M L true b) (kid M L true c)) (fixF (ans M op a b c) (M.v L) true)) := ans_kid o hLn ⟨ha.1, hla⟩ ⟨hb.1, hlb⟩ ⟨hc.1, hlc⟩
  have Kh0 : Aside (∀ {u : World}, St u S F0 M → Calls Tryz.prog 117 #[arg3 a b c, .pointer (some ⟨S, 0, none⟩), .int .i64 (L : Int), .func (.func 64) #[] #[]] u fun e w' => e = .returned (arg3 (kid M L false a) (kid M L false b) (kid M L false c)) ∧ Below u.heap.size u w') := fun {u} su => half_any su ha.1 hb.1 hc.1 hLn false
  have Kh1 : Aside (∀ {u : World} {F' : Nat → Prop} {M' : Mdl}, Mdl.Grew M M' → St u S F' M' → Calls Tryz.prog 117 #[arg3 a b c, .pointer (some ⟨S, 0, none⟩), .int .i64 (L : Int), .func (.func 65) #[] #[]] u fun e w' => e = .returned (arg3 (kid M L true a) (kid M L true b) (kid M L true c)) ∧ Below u.heap.size u w') := fun {u F' M'} g su => by
   have := half_any su (g.isNode ha.1) (g.isNode hb.1) (g.isNode hc.1) (L := L) (by rw [g.n]; exact hLn) true
   rw [kid_grew g ha.1 hLn, kid_grew g hb.1 hLn, kid_grew g hc.1 hLn] at this
   exact this
  generalize kid M L false a = a0 at A0 G0 Kh0
  generalize kid M L false b = b0 at B0 G0 Kh0
  generalize kid M L false c = c0 at C0 G0 Kh0
  generalize kid M L true a = a1 at A1 G1 Kh1
  generalize kid M L true b = b1 at B1 G1 Kh1
  generalize kid M L true c = c1 at C1 G1 Kh1
  have d0 : Aside (Dep M 0 (ans M op a0 b0 c0)) := ans_dep o ⟨A0.1, Nat.zero_le _⟩ ⟨B0.1, Nat.zero_le _⟩ ⟨C0.1, Nat.zero_le _⟩
  clear hR hla hlb hlc r rl
  go_enter Tryz.func98, Tryz.ntmps98
  go_upto_region 1 with fail
  have i4 := IsA.new w a b c
  have B4 := nb w (.cells #[.int .u32 (a : Int), .int .u32 (b : Int), .int .u32 (c : Int)] 129)
  have s4 := s.below B4
  generalize w.alloc (.cells #[.int .u32 (a : Int), .int .u32 (b : Int), .int .u32 (c : Int)] 129) = w4 at i4 B4 s4 ⊢
  obtain ⟨g, hg⟩ : ∃ g, w.heap.size = g := ⟨_, rfl⟩
  have B4A : Aside (Below w.heap.size w w4) := B4
  rw [hg] at i4 ⊢
  clear hg B4 s
  obtain ⟨x0, x1, x2⟩ := i4.cells
  go_upto_region 6 with (first
   | (go_at_call 116; refine Kz.mono ?_; clear Kz; rintro e w6 ⟨rfl, b6⟩; have i6 := i5.below b6; obtain ⟨z0, z1, z2⟩ := i6.cells; have s6 := s5.below b6; have Ky := Kh0.out s6; unfold arg3 at Ky)
   | (go_at_call 117; refine Ky.mono ?_; clear Ky; rintro e w7 ⟨rfl, b7⟩; have i7 := i6.below b7; have s7 := s6.below b7; have Kw := ih rfl hkL hLn s7 ⟨A0.1, A0.2.1⟩ ⟨B0.1, B0.2.1⟩ ⟨C0.1, C0.2.1⟩; unfold arg3 at Kw)
   | (go_at_call 98; refine Kw.mono ?_; clear Kw; rintro e w8 ⟨p, er, M8, F8, rfl, t8, s8, b8⟩)
   | (guard_target =~ Calls Tryz.prog f _ _ _; refine (K0 _).mono ?_; clear K0; rintro e w5 ⟨rfl, b5⟩; have i5 := i4.below b5; obtain ⟨y0, y1, y2⟩ := i5.cells; have s5 := s4.below b5; have Kz := Kt.out s5; unfold arg3 at Kz))
  have i8 := i7.wf s7 b8
  have B8 : Wf F0 F8 w w8 := (Wf.of_below (Rf.below_far (Rf.below_far (Rf.below_far B4A.out b5) b6) b7) F0).trans b8
  clear x0 x1 x2 y0 y1 y2 z0 z1 z2 i4 i5 i6 i7 s4 s5 s6 s7 b5 b6 b7 b8 Kt Kh0 B4A
  rcases t8 with ⟨rfl, g8⟩ | ⟨rfl, rfl, g8⟩
  rotate_left
  ·have t : Aside (Stuck M k (ans M op a b c) M8) := (Stuck.low o hLn dep.out (g8.like o d0.out G0.out)).raise hkL
   clear g8
   go_wp2_with fail
   go_ret2
   exact ⟨0, 60, M8, F8, rfl, .inr ⟨rfl, rfl, t.out⟩, s8, B8⟩
  ·have g8' : Aside (Got M (L + 1) (fixF (ans M op a b c) (M.v L) false) p M8) := g8.like o d0.out G0.out
   have gr := g8.grew
   obtain ⟨x0, x1, x2⟩ := i8.cells
   have Ky := Kh1.out gr s8
   unfold arg3 at Ky
   have n8 := gr.n
   have A8 : M8.isNode a1 ∧ L + 1 ≤ M8.lev a1 := ⟨gr.isNode A1.1, by rw [gr.lev A1.1]; exact A1.2.1⟩
   have B8' : M8.isNode b1 ∧ L + 1 ≤ M8.lev b1 := ⟨gr.isNode B1.1, by rw [gr.lev B1.1]; exact B1.2.1⟩
   have C8 : M8.isNode c1 ∧ L + 1 ≤ M8.lev c1 := ⟨gr.isNode C1.1, by rw [gr.lev C1.1]; exact C1.2.1⟩
   have e8 : Aside (ans M8 op a1 b1 c1 = ans M op a1 b1 c1) := ans_grew gr o A1.1 B1.1 C1.1
   have d8 : Aside (Dep M8 0 (ans M op a1 b1 c1)) := (ans_dep o ⟨A1.1, Nat.zero_le _⟩ ⟨B1.1, Nat.zero_le _⟩ ⟨C1.1, Nat.zero_le _⟩ : Dep M 0 _).grew gr
   clear g8 i8
   go_upto_region 9 with (first
    | (go_at_call 117; refine Ky.mono ?_; clear Ky; rintro e w9 ⟨rfl, b9⟩; have s9 := s8.below b9; have Kw := ih n8 hkL hLn s9 A8 B8' C8; unfold arg3 at Kw)
    | (go_at_call 98; refine Kw.mono ?_; clear Kw; rintro e w10 ⟨q, er, M10, F10, rfl, t10, s10, b10⟩))
   have B10 : Wf F0 F10 w w10 := (B8.trans (Wf.of_below b9 F8)).trans b10
   have o8 := s8.ok
   rw [e8.out] at t10
   clear x0 x1 x2 s9 b9 b10 B8 Kh1 s8
   rcases t10 with ⟨rfl, g10⟩ | ⟨rfl, rfl, g10⟩
   rotate_left
   ·have t : Aside (Stuck M k (ans M op a b c) M10) := (Stuck.high o hLn dep.out g8'.out (g10.like o8 d8.out G1.out)).raise hkL
    clear g10
    go_wp2_with fail
    go_ret2
    exact ⟨0, 60, M10, F10, rfl, .inr ⟨rfl, rfl, t.out⟩, s10, B10⟩
   ·have g10' : Aside (Got M8 (L + 1) (fixF (ans M op a b c) (M.v L) true) q M10) := g10.like o8 d8.out G1.out
    have o10 := s10.ok
    have lb : Aside (L < M10.lev p) := by
     show L < M10.lev p
     rw [g10.grew.lev g8'.out.node]
     exact g8'.out.lev
    clear g10
    by_cases hpq : p = q
    ·subst hpq
     have t : Aside (Got M k (ans M op a b c) p M10) := (Got.same o o8 hLn dep.out g8'.out g10'.out).raise hkL
     have Km := s_mk_same s10 L p lb.out g10'.out.node
     go_wp2_with (first
      | (go_at_call 77; refine Km.mono ?_; clear Km; rintro e w11 ⟨rfl, e11⟩; subst w11))
     go_ret2
     exact ⟨p, 0, M10, F10, rfl, .inl ⟨rfl, t.out⟩, s10, B10⟩
    ·have fit := Got.fits hLn g8'.out g10'.out hpq
     by_cases hth : ∃ y ∈ M10.hs, M10.nd y = (L, p, q)
     ·obtain ⟨y, ym, ye⟩ := hth
      have t : Aside (Got M k (ans M op a b c) y M10) := (Got.join o o8 o10 hLn dep.out g8'.out g10'.out hpq o10 (.inl ⟨ym, ye, rfl⟩)).raise hkL
      have Km := s_mk_there s10 L p q fit y ym ye
      clear ye hpq fit
      go_wp2_with (first
       | (go_at_call 77; refine Km.mono ?_; clear Km; rintro e w11 ⟨rfl, F11, s11, b11⟩))
      go_ret2
      exact ⟨y, 0, M10, F11, rfl, .inl ⟨rfl, t.out⟩, s11, B10.trans b11⟩
     ·have no : ∀ y ∈ M10.hs, M10.nd y ≠ (L, p, q) := fun y ym ye => hth ⟨y, ym, ye⟩
      clear hth
      by_cases full : M10.hs.length = M10.room
      ·have t : Aside (Stuck M k (ans M op a b c) M10) := (Stuck.join o o8 o10 hLn dep.out g8'.out g10'.out hpq no full).raise hkL
       have Km := s_mk_full s10 L p q fit no full
       clear hpq fit no full
       go_wp2_with (first
        | (go_at_call 77; refine Km.mono ?_; clear Km; rintro e w11 ⟨rfl, F11, s11, b11⟩))
       go_ret2
       exact ⟨0, 60, M10, F11, rfl, .inr ⟨rfl, rfl, t.out⟩, s11, B10.trans b11⟩
      ·have lt : M10.hs.length < M10.room := by have := o10.len; omega
       have t : Aside (∀ {y : Nat} {M11 : Mdl}, M11.Ok → M10.Adds y (L, p, q) M11 → Got M k (ans M op a b c) y M11) := fun {y M11} o11 ad => (Got.join o o8 o10 hLn dep.out g8'.out g10'.out hpq o11 (.inr ad)).raise hkL
       have Km := s_mk_new s10 L p q fit no lt
       clear hpq fit no full lt
       go_wp2_with (first
        | (go_at_call 77; refine Km.mono ?_; clear Km; rintro e w11 ⟨y, rfl, F11, M11, ad11, s11, b11, y11⟩; have adA : Aside (M10.Adds y (L, p, q) M11) := ad11; clear ad11 y11))
       go_ret2
       exact ⟨y, 0, M11, F11, rfl, .inl ⟨rfl, t.out s11.ok adA.out⟩, s11, B10.trans b11⟩
theorem lwalk_any (r : IsRule R op) (rl : Rl f R) (hf : ∀ (vs : Array Value) (w : World), (callFunc f vs).run Tryz.prog w = .ok (.enter f vs) w) (d : Nat) : ∀ {w : World} {F0 : Nat → Prop} {M : Mdl} {k a b c : Nat}, M.n - k ≤ d → St w S F0 M → (M.isNode a ∧ k ≤ M.lev a) → (M.isNode b ∧ k ≤ M.lev b) → (M.isNode c ∧ k ≤ M.lev c) →
  Calls Tryz.prog 98 #[.pointer (some ⟨S, 0, none⟩), arg3 a b c, fv f] w (Left S F0 w M k (ans M op a b c)) := by
 induction d with
 | zero =>
  intro w F0 M k a b c hd s ha hb hc
  exact lwalk_step r rl hf s ha hb hc fun {w' F' M' L a' b' c'} hn h1 h2 => by omega
 | succ d ih =>
  intro w F0 M k a b c hd s ha hb hc
  exact lwalk_step r rl hf s ha hb hc fun {w' F' M' L a' b' c'} hn h1 h2 s' ha' hb' hc' => ih (by omega) s' ha' hb' hc'
end
end Go.Proofs.YtnnmdkaoiofabaaGreat
namespace Go.Proofs.YtnnmdkaoiofabaaGreat
open Go Go.RowKit
section
variable {w : World} {S : Nat} {F0 : Nat → Prop} {M : Mdl} {a b c f : Nat} {R : Nat → Nat → Nat → Option Nat} {op : Bool → Bool → Bool → Bool}
set_option maxHeartbeats 1000000 in
theorem answer_any (r : IsRule R op) (rl : Rl f R) (hf : ∀ (vs : Array Value) (w : World), (callFunc f vs).run Tryz.prog w = .ok (.enter f vs) w) (s : St w S F0 M) (ha : M.isNode a) (hb : M.isNode b) (hc : M.isNode c) :
  Calls Tryz.prog 70 #[.pointer (some ⟨S, 0, none⟩), arg3 a b c, fv f] w (Left S F0 w M 0 (ans M op a b c)) := by
 have o := s.ok
 have Ki : Aside (∀ {u : World}, St u S F0 M → ∀ (z : Nat), M.isNode z → Calls Tryz.prog 25 #[.pointer (some ⟨S, 0, none⟩), .int .u32 (z : Int)] u fun e w' => e = .returned (.bool true) ∧ w' = u) := fun {u} su z hz => by
  have := s_is su z (by have := Mdl.isNode_lt o hz; omega)
  rwa [Mdl.nodeB_true hz] at this
 have Kw : Aside (∀ {u : World}, St u S F0 M → Calls Tryz.prog 98 #[.pointer (some ⟨S, 0, none⟩), arg3 a b c, fv f] u (Left S F0 u M 0 (ans M op a b c))) := fun {u} su => lwalk_any r rl hf _ (Nat.le_refl _) su ⟨ha, Nat.zero_le _⟩ ⟨hb, Nat.zero_le _⟩ ⟨hc, Nat.zero_le _⟩
 conv in #[Value.pointer (some ⟨S, 0, none⟩), arg3 a b c, fv f] => unfold arg3
 go_enter Tryz.func70, Tryz.ntmps70
 go_upto_region 1 with fail
 have i4 := IsA.new w a b c
 have B4 := nb w (.cells #[.int .u32 (a : Int), .int .u32 (b : Int), .int .u32 (c : Int)] 129)
 have s4 := s.below B4
 generalize w.alloc (.cells #[.int .u32 (a : Int), .int .u32 (b : Int), .int .u32 (c : Int)] 129) = w4 at i4 B4 s4 ⊢
 have B4A : Aside (Below w.heap.size w w4) := B4
 generalize w.heap.size = g at i4 ⊢
 obtain ⟨x0, x1, x2⟩ := i4.cells
 have K1 := fun z hz => Ki.out s4 z hz
 have K2 := Kw.out s4
 unfold arg3 at K2
 clear Ki Kw B4 s i4
 go_wp2_with (first
  | (go_at_call 25; refine (K1 _ (by assumption)).mono ?_; rintro e w5 ⟨rfl, e5⟩; subst w5)
  | (go_at_call 98; refine K2.mono ?_; clear K2; rintro e w8 ⟨p, er, M8, F8, rfl, t8, s8, b8⟩; have t8A : Aside (Told M 0 (ans M op a b c) p er M8) := t8; clear t8))
 go_ret2
 exact ⟨p, er, M8, F8, rfl, t8A.out, s8, (Wf.of_below B4A.out F0).trans b8⟩
theorem call_or (vs : Array Value) (w : World) : (callFunc 71 vs).run Tryz.prog w = .ok (.enter 71 vs) w := by
 have h := Tryz.func71
 go_simp
theorem or_op (s : St w S F0 M) (ha : M.isNode a) (hb : M.isNode b) :
  Calls Tryz.prog 29 #[.pointer (some ⟨S, 0, none⟩), .int .u32 (a : Int), .int .u32 (b : Int)] w (Left S F0 w M 0 (ans M oOr a b 0)) := by
 have K := answer_any (a := a) (b := b) (c := 0) rule_or or_rl call_or s ha hb (.inl (by omega))
 unfold arg3 fv at K
 go_enter Tryz.func29, Tryz.ntmps29
 go_wp2_with (first
  | (go_at_call 70; refine K.mono ?_; clear K; rintro e w8 ⟨p, er, M8, F8, rfl, t8, s8, b8⟩; have t8A : Aside (Told M 0 (ans M oOr a b 0) p er M8) := t8; clear t8))
 go_ret2
 exact ⟨p, er, M8, F8, rfl, t8A.out, s8, b8⟩
end
end Go.Proofs.YtnnmdkaoiofabaaGreat
namespace Go.Proofs.YtnnmdkaoiofabaaGreat
open Go Go.RowKit
open Rf (fixAt fixF tab)
theorem tbl_zero (M : Mdl) : Eqt (M.tbl 0) (fun _ => false) := fun _ _ => Mdl.val_zero _
theorem tbl_one (M : Mdl) : Eqt (M.tbl 1) (fun _ => true) := fun _ _ => Mdl.val_one _
def fA (X Y : Nat → Bool) : Nat → Bool := fun y => X y && Y y
def fO (X Y : Nat → Bool) : Nat → Bool := fun y => X y || Y y
def fI (X Y Z : Nat → Bool) : Nat → Bool := fun y => if X y then Y y else Z y
def c0 : Nat → Bool := fun _ => false
def c1 : Nat → Bool := fun _ => true
abbrev Kl := List (Nat × (Nat → Bool))
def Kn (M : Mdl) (l : Kl) : Prop := ∀ p ∈ l, M.isNode p.1 ∧ Eqt (M.tbl p.1) p.2
section
variable {W w w' : World} {S n r b : Nat} {l : Kl} {x y z : Nat} {X Y Z : Nat → Bool}
theorem Kn.cons {M : Mdl} (h : Kn M l) (hx : M.isNode x) (e : Eqt (M.tbl x) X) : Kn M ((x, X) :: l) := fun p hp => by
 rcases List.mem_cons.1 hp with rfl | hp
 ·exact ⟨hx, e⟩
 ·exact h p hp
theorem Kn.grew {M M' : Mdl} (h : Kn M l) (o : M.Ok) (g : Mdl.Grew M M') : Kn M' l := fun p hp => ⟨g.isNode (h p hp).1, fun y hy => by rw [g.tbl o (h p hp).1]; exact (h p hp).2 y hy⟩
def Out (w w' : World) : Prop := ∀ (k : Nat) (cs : Array Value) (t : TypeId) (fr : Nat × Nat), w.heap[k]? = some (Obj.cells cs t fr) → (t ≠ 92 ∧ t ≠ 144 ∧ t ≠ 261 ∧ t ≠ 22 ∧ t ≠ 36) → w'.heap[k]? = some (Obj.cells cs t fr)
theorem Out.of {F F' : Nat → Prop} {M : Mdl} (s : St w S F M) (g : Wf F F' w w') : Out w w' := fun k _ _ _ hk ht => (g.block k (Array.getElem?_eq_some_iff.1 hk).1 (s.row hk ht)).trans hk
end
end Go.Proofs.YtnnmdkaoiofabaaGreat
namespace Go.Proofs.YtnnmdkaoiofabaaGreat
open Go Go.RowKit
open Rf (fixAt fixF tab prt dedup addN hasUpto lvA lvX)
theorem mem_addN {ts : List (Nat → Bool)} {F A : Nat → Bool} (h : A ∈ addN ts F) : A ∈ ts ∨ A = F := by
 cases q : hasUpto (fun i => ts.getD i fun _ => false) F ts.length with
 | true => rw [Rf.addN_skip q] at h; exact .inl h
 | false =>
  rw [Rf.addN_new q] at h
  rcases List.mem_append.1 h with h | h
  ·exact .inl h
  ·exact .inr (List.mem_singleton.1 h)
theorem mem_dedup {T : Nat → Nat → Bool} {A : Nat → Bool} : ∀ {L}, A ∈ dedup T L → ∃ i, i < L ∧ A = T i
 | 0, h => by cases h
 | L + 1, h => by
  have h' : A ∈ addN (dedup T L) (T L) := h
  rcases mem_addN h' with q | q
  ·obtain ⟨i, hi, e⟩ := mem_dedup q
   exact ⟨i, by omega, e⟩
  ·exact ⟨L, by omega, q⟩
theorem in_dedup (T : Nat → Nat → Bool) (X : Nat → Bool) : ∀ L, InT (dedup T L) X ↔ ∃ i, i < L ∧ Eqt (T i) X
 | 0 => ⟨fun ⟨F, h, _⟩ => (by cases h), fun ⟨i, hi, _⟩ => (by omega)⟩
 | L + 1 => by
  have e : dedup T (L + 1) = addN (dedup T L) (T L) := rfl
  rw [e, in_addN, in_dedup T X L]
  constructor
  ·rintro (⟨i, hi, q⟩ | q)
   ·exact ⟨i, by omega, q⟩
   ·exact ⟨L, by omega, q⟩
  ·rintro ⟨i, hi, q⟩
   by_cases c : i = L
   ·subst c; exact .inr q
   ·exact .inl ⟨i, by omega, q⟩
def sizeN (M : Mdl) (T : Nat → Nat → Bool) (L : Nat) : Nat := (prt (fun i => (M.v i : Int)) M.n (dedup T L) (min M.n 8 + 1)).1.length
section
variable {M M1 : Mdl} {T : Nat → Nat → Bool} {L : Nat} {A : Nat → Bool}
def PrtT (M : Mdl) (T : Nat → Nat → Bool) (L : Nat) (X : Nat → Bool) : Prop := ∃ i, i < L ∧ Prt M (T i) X
theorem prt_dedup (o : M.Ok) (d : ∀ i, i < L → Dep M 0 (T i)) (X : Nat → Bool) : (∃ F ∈ dedup T L, Prt M F X) ↔ PrtT M T L X := by
 constructor
 ·rintro ⟨F, hF, p⟩
  obtain ⟨i, hi, rfl⟩ := mem_dedup hF
  exact ⟨i, hi, p⟩
 ·rintro ⟨i, hi, p⟩
  obtain ⟨F, hF, e⟩ := (in_dedup T (T i) L).2 ⟨i, hi, Eqt.refl _⟩
  exact ⟨F, hF, (Prt.like o (d i hi) e.symm).1 p⟩
theorem sizeN_mem (o : M.Ok) (d : ∀ i, i < L → Dep M 0 (T i)) (X : Nat → Bool) : encT X ∈ ((prt (fun i => (M.v i : Int)) M.n (dedup T L) (min M.n 8 + 1)).1.map encT) ↔ PrtT M T L X := by
 have n8 := o.le8
 have e8 : min M.n 8 = M.n := by omega
 rw [← prt_dedup o d, e8, List.mem_map]
 have key : (∃ a ∈ (prt (fun i => (M.v i : Int)) M.n (dedup T L) (M.n + 1)).1, encT a = encT X) ↔ InT (prt (fun i => (M.v i : Int)) M.n (dedup T L) (M.n + 1)).1 X :=
  ⟨fun ⟨x, hx, e⟩ => ⟨x, hx, (encT_iff _ _).1 e⟩, fun ⟨x, hx, e⟩ => ⟨x, hx, (encT_iff _ _).2 e⟩⟩
 rw [key, in_prt _ _ _ (M.n + 1) (Nat.le_refl _) (by omega)]
 constructor
 ·rintro ⟨j, hj, h1, h2⟩
  obtain ⟨F, hF, q⟩ := (lv_desc o (dedup T L) j (by omega) X).1 h1
  obtain ⟨i, hi, rfl⟩ := mem_dedup hF
  exact ⟨_, hF, (subs_desc o M.n 0 _ X (by omega) (d i hi)).2 ⟨j, by omega, q, h2⟩⟩
 ·rintro ⟨F, hF, s⟩
  obtain ⟨i, hi, rfl⟩ := mem_dedup hF
  obtain ⟨j, hj, q, h2⟩ := (subs_desc o M.n 0 _ X (by omega) (d i hi)).1 s
  exact ⟨j, by omega, (lv_desc o (dedup T L) j hj X).2 ⟨_, hF, q⟩, h2⟩
theorem sizeN_nodup (M : Mdl) (T : Nat → Nat → Bool) (L : Nat) : ((prt (fun i => (M.v i : Int)) M.n (dedup T L) (min M.n 8 + 1)).1.map encT).Nodup := by
 unfold List.Nodup
 rw [List.pairwise_map]
 exact (pw_prt _ _ _ _).imp fun q e => q ((encT_iff _ _).1 e)
end
end Go.Proofs.YtnnmdkaoiofabaaGreat
