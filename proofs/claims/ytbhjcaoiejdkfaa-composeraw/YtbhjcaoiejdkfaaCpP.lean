/-
  One function within another, without a program: what the variables of a function are as (inputs), what it is then, its halves.
-/
import Derived.Test.YtbhjcaoiejdkfaaLgc
namespace Go.Proofs.Ytbhjcaoiejdkfaa
open Rf (fixAt fixF)

/-! ## Inputs -/
/-- The input that is a node; the one that is the variable of a level. -/
def nodeI (M : Mdl) (h : Nat) : Nd := (M.lev h, M.lowN h, M.highN h)
def varI (l : Nat) : Nd := (l, 0, 1)
/-- An input is one. -/
structure WI (M : Mdl) (t : Nd) : Prop where
  le : t.1 ≤ M.n
  lo : M.isNode t.2.1
  hi : M.isNode t.2.2
  deep : t.1 < M.n → t.1 < M.lev t.2.1 ∧ t.1 < M.lev t.2.2
  cst : ¬ t.1 < M.n → t.2.1 = t.2.2 ∧ t.2.1 < 2
/-- Its function. -/
def inF (M : Mdl) (t : Nd) (x : Nat) : Bool := if x.testBit (M.v t.1) then M.tbl t.2.2 x else M.tbl t.2.1 x
def kidI (b : Bool) (t : Nd) : Nat := if b then t.2.2 else t.2.1
def halfI (M : Mdl) (L : Nat) (b : Bool) (I : Nat → Nd) : Nat → Nd := fun i => if (I i).1 = L then nodeI M (kidI b (I i)) else I i
/-- What the variables are as. -/
def asg (M : Mdl) (I : Nat → Nd) (x u : Nat) : Bool := (List.range M.n).any fun i => decide (M.v i = u) && inF M (I i) x
/-- The function of a node where its variables are as the inputs are. -/
def subF (M : Mdl) (I : Nat → Nd) (h x : Nat) : Bool := M.val h (asg M I x)
section
variable {M M' : Mdl} {I J : Nat → Nd} {t : Nd} {h L l i x y : Nat} {b : Bool}
theorem node_wi (o : M.Ok) (hh : M.isNode h) : WI M (nodeI M h) := by
  rcases hh with c | hm
  · have hl := Mdl.lev_const (M := M) c
    refine ⟨?_, ?_, ?_, fun q => ?_, fun _ => ?_⟩
    · show M.lev h ≤ M.n
      omega
    · show M.isNode (M.lowN h)
      rw [Mdl.lowN_const c]; exact .inl c
    · show M.isNode (M.highN h)
      rw [Mdl.highN_const c]; exact .inl c
    · have q : M.lev h < M.n := q
      omega
    · show M.lowN h = M.highN h ∧ M.lowN h < 2
      rw [Mdl.lowN_const c, Mdl.highN_const c]; exact ⟨rfl, c⟩
  · have hl := Mdl.lev_in o hm
    have lt := o.lv h hm
    refine ⟨?_, ?_, ?_, fun _ => ?_, fun q => ?_⟩
    · show M.lev h ≤ M.n
      omega
    · show M.isNode (M.lowN h)
      rw [Mdl.lowN_in o hm]; exact (o.lo h hm).1
    · show M.isNode (M.highN h)
      rw [Mdl.highN_in o hm]; exact (o.hi h hm).1
    · show M.lev h < M.lev (M.lowN h) ∧ M.lev h < M.lev (M.highN h)
      rw [Mdl.lowN_in o hm, Mdl.highN_in o hm, hl]; exact ⟨(o.lo h hm).2, (o.hi h hm).2⟩
    · have q : ¬ M.lev h < M.n := q
      omega
theorem node_f (o : M.Ok) (hh : M.isNode h) (x : Nat) : inF M (nodeI M h) x = M.tbl h x := by
  show (if x.testBit (M.v (M.lev h)) then M.tbl (M.highN h) x else M.tbl (M.lowN h) x) = _
  rcases hh with c | hm
  · rw [Mdl.lowN_const c, Mdl.highN_const c, ite_self]
  · rw [Mdl.lowN_in o hm, Mdl.highN_in o hm, Mdl.lev_in o hm]
    exact (Mdl.val_in o hm x.testBit).symm
theorem var_wi (hl : l < M.n) : WI M (varI l) := by
  have h0 : M.lev 0 = M.n := Mdl.lev_const (by omega)
  have h1 : M.lev 1 = M.n := Mdl.lev_const (by omega)
  refine ⟨Nat.le_of_lt hl, .inl (by show 0 < 2; omega), .inl (by show 1 < 2; omega), fun _ => ?_, fun q => absurd hl q⟩
  show l < M.lev 0 ∧ l < M.lev 1
  omega
theorem var_f (l x : Nat) : inF M (varI l) x = x.testBit (M.v l) := by
  show (if x.testBit (M.v l) then M.tbl 1 x else M.tbl 0 x) = _
  have h1 : M.tbl 1 x = true := Mdl.val_one _
  have h0 : M.tbl 0 x = false := Mdl.val_zero _
  rw [h1, h0]
  cases x.testBit (M.v l) <;> rfl
theorem zero_wi (o : M.Ok) : WI M (0, 0, 0) := by
  have h0 : M.lev 0 = M.n := Mdl.lev_const (by omega)
  have p := o.pos
  refine ⟨Nat.zero_le _, .inl (by show 0 < 2; omega), .inl (by show 0 < 2; omega), fun _ => ?_, fun q => absurd (show 0 < M.n by omega) q⟩
  show 0 < M.lev 0 ∧ 0 < M.lev 0
  omega
theorem WI.grew (g : Mdl.Grew M M') (w : WI M t) : WI M' t := by
  refine ⟨by rw [g.n]; exact w.le, g.isNode w.lo, g.isNode w.hi, fun q => ?_, fun q => w.cst (by rw [← g.n]; exact q)⟩
  rw [g.lev w.lo, g.lev w.hi]
  exact w.deep (by rw [← g.n]; exact q)
theorem in_grew (g : Mdl.Grew M M') (o : M.Ok) (w : WI M t) (x : Nat) : inF M' t x = inF M t x := by
  unfold inF
  rw [g.v, g.tbl o w.lo, g.tbl o w.hi]
theorem node_grew (g : Mdl.Grew M M') (o : M.Ok) (o' : M'.Ok) (hh : M.isNode h) : nodeI M' h = nodeI M h := by
  unfold nodeI
  rw [g.lev hh]
  rcases hh with c | hm
  · rw [Mdl.lowN_const c, Mdl.highN_const c, Mdl.lowN_const c, Mdl.highN_const c]
  · rw [Mdl.lowN_in o hm, Mdl.highN_in o hm, Mdl.lowN_in o' (g.keep h hm).1, Mdl.highN_in o' (g.keep h hm).1, (g.keep h hm).2]
theorem kid_node (w : WI M t) (b : Bool) : M.isNode (kidI b t) := by
  cases b
  · exact w.lo
  · exact w.hi
theorem half_grew (g : Mdl.Grew M M') (o : M.Ok) (o' : M'.Ok) (w : ∀ i, WI M (I i)) (L : Nat) (b : Bool) : halfI M' L b I = halfI M L b I := funext fun i => by
  unfold halfI
  rw [node_grew g o o' (kid_node (w i) b)]
/-! ## What a function is then -/
theorem asg_at (o : M.Ok) (hi : i < M.n) : asg M I x (M.v i) = inF M (I i) x := by
  unfold asg
  cases c : inF M (I i) x with
  | true => exact List.any_eq_true.2 ⟨i, List.mem_range.2 hi, by rw [c, decide_eq_true rfl]; rfl⟩
  | false =>
    refine List.any_eq_false.2 fun j hj => ?_
    by_cases e : M.v j = M.v i
    · rw [o.vinj j i (List.mem_range.1 hj) hi e, c, Bool.and_false]; exact Bool.false_ne_true
    · rw [decide_eq_false e, Bool.false_and]; exact Bool.false_ne_true
theorem in_dep (o : M.Ok) (w : WI M t) (hL : L ≤ t.1) : Dep M L (inF M t) := fun x y hx hy q => by
  unfold inF
  by_cases c : t.1 < M.n
  · have d := w.deep c
    rw [q t.1 hL c, tbl_dep o w.lo (k := L) (by omega) x y hx hy q, tbl_dep o w.hi (k := L) (by omega) x y hx hy q]
  · have e := w.cst c
    have l0 : M.lev t.2.2 = M.n := Mdl.lev_const (by rw [← e.1]; exact e.2)
    have le := w.le
    rw [e.1, ite_self, ite_self]
    exact tbl_dep o w.hi (k := L) (by omega) x y hx hy q
theorem sub_ext (o : M.Ok) (hh : M.isNode h) (e : ∀ i, M.lev h ≤ i → i < M.n → inF M (I i) x = inF M (J i) y) : subF M I h x = subF M J h y :=
  Mdl.val_congr o _ hh (Nat.le_refl _) fun j hj hn => by rw [asg_at o hn, asg_at o hn]; exact e j hj hn
theorem sub_dep (o : M.Ok) (hh : M.isNode h) (w : ∀ i, WI M (I i)) (hL : ∀ i, M.lev h ≤ i → i < M.n → L ≤ (I i).1) : Dep M L (subF M I h) := fun x y hx hy q =>
  sub_ext o hh fun i hi hn => in_dep o (w i) (hL i hi hn) x y hx hy q
theorem half_wi (o : M.Ok) (w : ∀ i, WI M (I i)) (L : Nat) (b : Bool) (i : Nat) : WI M (halfI M L b I i) := by
  unfold halfI
  split
  · exact node_wi o (kid_node (w i) b)
  · exact w i
theorem half_deep (w : WI M (I i)) (hL : L < M.n) (hi : L ≤ (I i).1) : L + 1 ≤ (halfI M L b I i).1 := by
  unfold halfI
  by_cases e : (I i).1 = L
  · rw [if_pos e]
    have d := w.deep (by omega)
    rw [e] at d
    show L + 1 ≤ M.lev (kidI b (I i))
    cases b
    · exact d.1
    · exact d.2
  · rw [if_neg e]
    omega
theorem half_f (o : M.Ok) (w : WI M (I i)) (hL : L < M.n) (hi : L ≤ (I i).1) (hx : x < 256) : inF M (halfI M L b I i) x = inF M (I i) (fixAt (M.v L) b x) := by
  unfold halfI
  by_cases e : (I i).1 = L
  · rw [if_pos e, node_f o (kid_node w b)]
    have d := w.deep (by omega)
    have fb : (fixAt (M.v L) b x).testBit (M.v L) = b := by
      rw [(fixAt_bits hx (v8 o hL) b).2]
      exact Mdl.setA_same _ _ _
    unfold inF
    rw [e] at d ⊢
    rw [fb]
    cases b
    · exact (tbl_fix o w.lo d.1 hL false x hx).symm
    · exact (tbl_fix o w.hi d.2 hL true x hx).symm
  · rw [if_neg e]
    exact ((in_dep o w (show L + 1 ≤ (I i).1 by omega)).fixed o hL b x hx).symm
theorem sub_half (o : M.Ok) (hh : M.isNode h) (w : ∀ i, WI M (I i)) (hL : L < M.n) (hi : ∀ i, M.lev h ≤ i → i < M.n → L ≤ (I i).1) (b : Bool) : Eqt (subF M (halfI M L b I) h) (fixF (subF M I h) (M.v L) b) := fun _ hx =>
  sub_ext o hh fun i a c => half_f o (w i) hL (hi i a c) hx
theorem sub_const (c : h < 2) (x : Nat) : subF M I h x = M.tbl h x := by
  show M.val h _ = M.val h _
  rw [Mdl.val_const c, Mdl.val_const c]
/-- Where the inputs tell the way. -/
def nextI (M : Mdl) (I : Nat → Nd) (h : Nat) : Nat := if (I (M.lev h)).2.1 = 1 then (M.nd h).2.2 else (M.nd h).2.1
theorem next_ok (o : M.Ok) (hm : h ∈ M.hs) : M.isNode (nextI M I h) ∧ M.lev h < M.lev (nextI M I h) := by
  unfold nextI
  rw [Mdl.lev_in o hm]
  split
  · exact o.hi h hm
  · exact o.lo h hm
theorem sub_next (o : M.Ok) (hm : h ∈ M.hs) (w : WI M (I (M.lev h))) (e : ¬ (I (M.lev h)).1 < M.n) : subF M I (nextI M I h) = subF M I h := funext fun x => by
  have c := w.cst e
  have hn : M.lev h < M.n := by rw [Mdl.lev_in o hm]; exact o.lv h hm
  have q : asg M I x (M.v (M.nd h).1) = decide ((I (M.lev h)).2.1 = 1) := by
    rw [← Mdl.lev_in o hm, asg_at o hn]
    unfold inF
    rw [← c.1, ite_self]
    exact Mdl.val_const c.2 _
  show _ = M.val h _
  rw [Mdl.val_in o hm, q]
  unfold subF nextI
  by_cases d : (I (M.lev h)).2.1 = 1
  · rw [if_pos d, if_pos (decide_eq_true d)]
  · rw [if_neg d, if_neg (by rw [decide_eq_false d]; exact Bool.false_ne_true)]
theorem sub_grew (g : Mdl.Grew M M') (o : M.Ok) (hh : M.isNode h) (w : ∀ i, WI M (I i)) : subF M' I h = subF M I h := funext fun x => by
  show M'.val h _ = _
  rw [g.val o hh]
  have : asg M' I x = asg M I x := funext fun u => by
    unfold asg
    rw [g.n, g.v]
    congr 1
    funext i
    rw [in_grew g o (w i)]
  rw [this]
  rfl
/-! ## What the calls come to -/
/-- One function as a variable of another. -/
def comF (v : Nat) (F G : Nat → Bool) (x : Nat) : Bool := F (fixAt v (G x) x)
/-- An assignment with the first so many variables as these functions are. -/
def sbA (G : Nat → Nat → Bool) (x : Nat) : Nat → Nat
  | 0 => x
  | k + 1 => fixAt k (G k x) (sbA G x k)
def sbF (n : Nat) (G : Nat → Nat → Bool) (F : Nat → Bool) (x : Nat) : Bool := F (sbA G x n)
theorem fixl {x v : Nat} (hx : x < 256) (hv : v < 8) (b : Bool) : fixAt v b x < 256 := (fixAt_bits hx hv b).1
theorem fixb {x v : Nat} (hx : x < 256) (hv : v < 8) (b : Bool) (j : Nat) : (fixAt v b x).testBit j = if j = v then b else x.testBit j := by
  rw [(fixAt_bits hx hv b).2]
  rfl
theorem sb_bit (G : Nat → Nat → Bool) (hx : x < 256) : ∀ k, k ≤ 8 → sbA G x k < 256 ∧ ∀ j, (sbA G x k).testBit j = if j < k then G j x else x.testBit j
  | 0, _ => ⟨hx, fun j => by rw [if_neg (by omega)]; rfl⟩
  | k + 1, hk => by
    obtain ⟨a, q⟩ := sb_bit G hx k (by omega)
    refine ⟨fixl a (by omega) _, fun j => ?_⟩
    show (fixAt k (G k x) (sbA G x k)).testBit j = _
    rw [fixb a (by omega), q]
    by_cases e : j = k
    · rw [if_pos e, if_pos (by omega), e]
    · rw [if_neg e]
      by_cases c : j < k
      · rw [if_pos c, if_pos (by omega)]
      · rw [if_neg c, if_neg (by omega)]
theorem sub_com (o : M.Ok) (hh : M.isNode h) {g : Nat} (hg : M.isNode g) (hL : L < M.n) (e : ∀ i, i < M.n → I i = if i = L then nodeI M g else varI i) : Eqt (subF M I h) (comF (M.v L) (M.tbl h) (M.tbl g)) := fun x hx => by
  refine Mdl.val_congr o _ hh (Nat.le_refl _) fun j _ hn => ?_
  rw [asg_at o hn, e j hn, fixb hx (v8 o hL)]
  by_cases c : j = L
  · rw [if_pos c, if_pos (by rw [c]), node_f o hg]
  · rw [if_neg c, if_neg fun q => c (o.vinj j L hn hL q), var_f]
/-- All inputs together. -/
theorem sub_all (o : M.Ok) (hh : M.isNode h) {G : Nat → Nat → Bool} (e : ∀ i, i < M.n → Eqt (inF M (I i)) (G (M.v i))) : Eqt (subF M I h) (sbF M.n G (M.tbl h)) := fun x hx => by
  refine Mdl.val_congr o _ hh (Nat.le_refl _) fun j _ hn => ?_
  rw [asg_at o hn, e j hn x hx, (sb_bit G hx M.n o.le8).2, if_pos (o.vlt j hn)]
end
end Go.Proofs.Ytbhjcaoiejdkfaa
