/-
  One function within another, without a program: what the variables of a function are as (inputs), what it is then, its halves.
  Package compose: a walk in memory and as a value; its inputs; node, low, high.
  Package compose: half, follow, top.
  Package compose: follow, top.
  Package compose: the walk's answer.
  Package compose by its face: Compose, Subst, Rename.
  Package compose by its face: what Compose refuses; Rename.
-/
import Derived.Test.YtdjjelknjojnfaaGreatLgc
import Derived.Deep.RegionHeld3
import Derived.Deep.LoopGhost
import Derived.BigQuiet
import Derived.Test.YtdjjelknjojnfaaGreatQtc
namespace Go.Proofs.YtdjjelknjojnfaaGreat
open Rf (fixAt fixF)

/-! ## Inputs -/
/-- The input that is a node; the one that is the variable of a level. -/
def nodeI (M : Mdl) (h : Nat) : Nd := (M.lev h, M.lowN h, M.highN h)
def varI (l : Nat) : Nd := (l, 0, 1)
/-- An input is one. -/
structure WI (M : Mdl) (t : Nd) : Prop where
  le : t.1 ≤ M.n
  lo : M.isNode t.2.1
  hi : M.isNode t.2.2
  deep : t.1 < M.n → t.1 < M.lev t.2.1 ∧ t.1 < M.lev t.2.2
  cst : ¬ t.1 < M.n → t.2.1 = t.2.2 ∧ t.2.1 < 2
/-- Its function. -/
def inF (M : Mdl) (t : Nd) (x : Nat) : Bool := if x.testBit (M.v t.1) then M.tbl t.2.2 x else M.tbl t.2.1 x
def kidI (b : Bool) (t : Nd) : Nat := if b then t.2.2 else t.2.1
def halfI (M : Mdl) (L : Nat) (b : Bool) (I : Nat → Nd) : Nat → Nd := fun i => if (I i).1 = L then nodeI M (kidI b (I i)) else I i
/-- What the variables are as. -/
def asg (M : Mdl) (I : Nat → Nd) (x u : Nat) : Bool := (List.range M.n).any fun i => decide (M.v i = u) && inF M (I i) x
/-- The function of a node where its variables are as the inputs are. -/
def subF (M : Mdl) (I : Nat → Nd) (h x : Nat) : Bool := M.val h (asg M I x)
section
variable {M M' : Mdl} {I J : Nat → Nd} {t : Nd} {h L l i x y : Nat} {b : Bool}
theorem node_wi (o : M.Ok) (hh : M.isNode h) : WI M (nodeI M h) := by
  rcases hh with c | hm
  · have hl := Mdl.lev_const (M := M) c
    refine ⟨?_, ?_, ?_, fun q => ?_, fun _ => ?_⟩
    · show M.lev h ≤ M.n
      omega
    · show M.isNode (M.lowN h)
      rw [Mdl.lowN_const c]; exact .inl c
    · show M.isNode (M.highN h)
      rw [Mdl.highN_const c]; exact .inl c
    · have q : M.lev h < M.n := q
      omega
    · show M.lowN h = M.highN h ∧ M.lowN h < 2
      rw [Mdl.lowN_const c, Mdl.highN_const c]; exact ⟨rfl, c⟩
  · have hl := Mdl.lev_in o hm
    have lt := o.lv h hm
    refine ⟨?_, ?_, ?_, fun _ => ?_, fun q => ?_⟩
    · show M.lev h ≤ M.n
      omega
    · show M.isNode (M.lowN h)
      rw [Mdl.lowN_in o hm]; exact (o.lo h hm).1
    · show M.isNode (M.highN h)
      rw [Mdl.highN_in o hm]; exact (o.hi h hm).1
    · show M.lev h < M.lev (M.lowN h) ∧ M.lev h < M.lev (M.highN h)
      rw [Mdl.lowN_in o hm, Mdl.highN_in o hm, hl]; exact ⟨(o.lo h hm).2, (o.hi h hm).2⟩
    · have q : ¬ M.lev h < M.n := q
      omega
theorem node_f (o : M.Ok) (hh : M.isNode h) (x : Nat) : inF M (nodeI M h) x = M.tbl h x := by
  show (if x.testBit (M.v (M.lev h)) then M.tbl (M.highN h) x else M.tbl (M.lowN h) x) = _
  rcases hh with c | hm
  · rw [Mdl.lowN_const c, Mdl.highN_const c, ite_self]
  · rw [Mdl.lowN_in o hm, Mdl.highN_in o hm, Mdl.lev_in o hm]
    exact (Mdl.val_in o hm x.testBit).symm
theorem var_wi (hl : l < M.n) : WI M (varI l) := by
  have h0 : M.lev 0 = M.n := Mdl.lev_const (by omega)
  have h1 : M.lev 1 = M.n := Mdl.lev_const (by omega)
  refine ⟨Nat.le_of_lt hl, .inl (by show 0 < 2; omega), .inl (by show 1 < 2; omega), fun _ => ?_, fun q => absurd hl q⟩
  show l < M.lev 0 ∧ l < M.lev 1
  omega
theorem var_f (l x : Nat) : inF M (varI l) x = x.testBit (M.v l) := by
  show (if x.testBit (M.v l) then M.tbl 1 x else M.tbl 0 x) = _
  have h1 : M.tbl 1 x = true := Mdl.val_one _
  have h0 : M.tbl 0 x = false := Mdl.val_zero _
  rw [h1, h0]
  cases x.testBit (M.v l) <;> rfl
theorem zero_wi (o : M.Ok) : WI M (0, 0, 0) := by
  have h0 : M.lev 0 = M.n := Mdl.lev_const (by omega)
  have p := o.pos
  refine ⟨Nat.zero_le _, .inl (by show 0 < 2; omega), .inl (by show 0 < 2; omega), fun _ => ?_, fun q => absurd (show 0 < M.n by omega) q⟩
  show 0 < M.lev 0 ∧ 0 < M.lev 0
  omega
theorem WI.grew (g : Mdl.Grew M M') (w : WI M t) : WI M' t := by
  refine ⟨by rw [g.n]; exact w.le, g.isNode w.lo, g.isNode w.hi, fun q => ?_, fun q => w.cst (by rw [← g.n]; exact q)⟩
  rw [g.lev w.lo, g.lev w.hi]
  exact w.deep (by rw [← g.n]; exact q)
theorem in_grew (g : Mdl.Grew M M') (o : M.Ok) (w : WI M t) (x : Nat) : inF M' t x = inF M t x := by
  unfold inF
  rw [g.v, g.tbl o w.lo, g.tbl o w.hi]
theorem node_grew (g : Mdl.Grew M M') (o : M.Ok) (o' : M'.Ok) (hh : M.isNode h) : nodeI M' h = nodeI M h := by
  unfold nodeI
  rw [g.lev hh]
  rcases hh with c | hm
  · rw [Mdl.lowN_const c, Mdl.highN_const c, Mdl.lowN_const c, Mdl.highN_const c]
  · rw [Mdl.lowN_in o hm, Mdl.highN_in o hm, Mdl.lowN_in o' (g.keep h hm).1, Mdl.highN_in o' (g.keep h hm).1, (g.keep h hm).2]
theorem kid_node (w : WI M t) (b : Bool) : M.isNode (kidI b t) := by
  cases b
  · exact w.lo
  · exact w.hi
theorem half_grew (g : Mdl.Grew M M') (o : M.Ok) (o' : M'.Ok) (w : ∀ i, WI M (I i)) (L : Nat) (b : Bool) : halfI M' L b I = halfI M L b I := funext fun i => by
  unfold halfI
  rw [node_grew g o o' (kid_node (w i) b)]
/-! ## What a function is then -/
theorem asg_at (o : M.Ok) (hi : i < M.n) : asg M I x (M.v i) = inF M (I i) x := by
  unfold asg
  cases c : inF M (I i) x with
  | true => exact List.any_eq_true.2 ⟨i, List.mem_range.2 hi, by rw [c, decide_eq_true rfl]; rfl⟩
  | false =>
    refine List.any_eq_false.2 fun j hj => ?_
    by_cases e : M.v j = M.v i
    · rw [o.vinj j i (List.mem_range.1 hj) hi e, c, Bool.and_false]; exact Bool.false_ne_true
    · rw [decide_eq_false e, Bool.false_and]; exact Bool.false_ne_true
theorem in_dep (o : M.Ok) (w : WI M t) (hL : L ≤ t.1) : Dep M L (inF M t) := fun x y hx hy q => by
  unfold inF
  by_cases c : t.1 < M.n
  · have d := w.deep c
    rw [q t.1 hL c, tbl_dep o w.lo (k := L) (by omega) x y hx hy q, tbl_dep o w.hi (k := L) (by omega) x y hx hy q]
  · have e := w.cst c
    have l0 : M.lev t.2.2 = M.n := Mdl.lev_const (by rw [← e.1]; exact e.2)
    have le := w.le
    rw [e.1, ite_self, ite_self]
    exact tbl_dep o w.hi (k := L) (by omega) x y hx hy q
theorem sub_ext (o : M.Ok) (hh : M.isNode h) (e : ∀ i, M.lev h ≤ i → i < M.n → inF M (I i) x = inF M (J i) y) : subF M I h x = subF M J h y :=
  Mdl.val_congr o _ hh (Nat.le_refl _) fun j hj hn => by rw [asg_at o hn, asg_at o hn]; exact e j hj hn
theorem sub_dep (o : M.Ok) (hh : M.isNode h) (w : ∀ i, WI M (I i)) (hL : ∀ i, M.lev h ≤ i → i < M.n → L ≤ (I i).1) : Dep M L (subF M I h) := fun x y hx hy q =>
  sub_ext o hh fun i hi hn => in_dep o (w i) (hL i hi hn) x y hx hy q
theorem half_wi (o : M.Ok) (w : ∀ i, WI M (I i)) (L : Nat) (b : Bool) (i : Nat) : WI M (halfI M L b I i) := by
  unfold halfI
  split
  · exact node_wi o (kid_node (w i) b)
  · exact w i
theorem half_deep (w : WI M (I i)) (hL : L < M.n) (hi : L ≤ (I i).1) : L + 1 ≤ (halfI M L b I i).1 := by
  unfold halfI
  by_cases e : (I i).1 = L
  · rw [if_pos e]
    have d := w.deep (by omega)
    rw [e] at d
    show L + 1 ≤ M.lev (kidI b (I i))
    cases b
    · exact d.1
    · exact d.2
  · rw [if_neg e]
    omega
theorem half_f (o : M.Ok) (w : WI M (I i)) (hL : L < M.n) (hi : L ≤ (I i).1) (hx : x < 256) : inF M (halfI M L b I i) x = inF M (I i) (fixAt (M.v L) b x) := by
  unfold halfI
  by_cases e : (I i).1 = L
  · rw [if_pos e, node_f o (kid_node w b)]
    have d := w.deep (by omega)
    have fb : (fixAt (M.v L) b x).testBit (M.v L) = b := by
      rw [(fixAt_bits hx (v8 o hL) b).2]
      exact Mdl.setA_same _ _ _
    unfold inF
    rw [e] at d ⊢
    rw [fb]
    cases b
    · exact (tbl_fix o w.lo d.1 hL false x hx).symm
    · exact (tbl_fix o w.hi d.2 hL true x hx).symm
  · rw [if_neg e]
    exact ((in_dep o w (show L + 1 ≤ (I i).1 by omega)).fixed o hL b x hx).symm
theorem sub_half (o : M.Ok) (hh : M.isNode h) (w : ∀ i, WI M (I i)) (hL : L < M.n) (hi : ∀ i, M.lev h ≤ i → i < M.n → L ≤ (I i).1) (b : Bool) : Eqt (subF M (halfI M L b I) h) (fixF (subF M I h) (M.v L) b) := fun _ hx =>
  sub_ext o hh fun i a c => half_f o (w i) hL (hi i a c) hx
theorem sub_const (c : h < 2) (x : Nat) : subF M I h x = M.tbl h x := by
  show M.val h _ = M.val h _
  rw [Mdl.val_const c, Mdl.val_const c]
/-- Where the inputs tell the way. -/
def nextI (M : Mdl) (I : Nat → Nd) (h : Nat) : Nat := if (I (M.lev h)).2.1 = 1 then (M.nd h).2.2 else (M.nd h).2.1
theorem next_ok (o : M.Ok) (hm : h ∈ M.hs) : M.isNode (nextI M I h) ∧ M.lev h < M.lev (nextI M I h) := by
  unfold nextI
  rw [Mdl.lev_in o hm]
  split
  · exact o.hi h hm
  · exact o.lo h hm
theorem sub_next (o : M.Ok) (hm : h ∈ M.hs) (w : WI M (I (M.lev h))) (e : ¬ (I (M.lev h)).1 < M.n) : subF M I (nextI M I h) = subF M I h := funext fun x => by
  have c := w.cst e
  have hn : M.lev h < M.n := by rw [Mdl.lev_in o hm]; exact o.lv h hm
  have q : asg M I x (M.v (M.nd h).1) = decide ((I (M.lev h)).2.1 = 1) := by
    rw [← Mdl.lev_in o hm, asg_at o hn]
    unfold inF
    rw [← c.1, ite_self]
    exact Mdl.val_const c.2 _
  show _ = M.val h _
  rw [Mdl.val_in o hm, q]
  unfold subF nextI
  by_cases d : (I (M.lev h)).2.1 = 1
  · rw [if_pos d, if_pos (decide_eq_true d)]
  · rw [if_neg d, if_neg (by rw [decide_eq_false d]; exact Bool.false_ne_true)]
theorem sub_grew (g : Mdl.Grew M M') (o : M.Ok) (hh : M.isNode h) (w : ∀ i, WI M (I i)) : subF M' I h = subF M I h := funext fun x => by
  show M'.val h _ = _
  rw [g.val o hh]
  have : asg M' I x = asg M I x := funext fun u => by
    unfold asg
    rw [g.n, g.v]
    congr 1
    funext i
    rw [in_grew g o (w i)]
  rw [this]
  rfl
/-! ## What the calls come to -/
/-- One function as a variable of another. -/
def comF (v : Nat) (F G : Nat → Bool) (x : Nat) : Bool := F (fixAt v (G x) x)
/-- An assignment with the first so many variables as these functions are. -/
def sbA (G : Nat → Nat → Bool) (x : Nat) : Nat → Nat
  | 0 => x
  | k + 1 => fixAt k (G k x) (sbA G x k)
def sbF (n : Nat) (G : Nat → Nat → Bool) (F : Nat → Bool) (x : Nat) : Bool := F (sbA G x n)
theorem fixl {x v : Nat} (hx : x < 256) (hv : v < 8) (b : Bool) : fixAt v b x < 256 := (fixAt_bits hx hv b).1
theorem fixb {x v : Nat} (hx : x < 256) (hv : v < 8) (b : Bool) (j : Nat) : (fixAt v b x).testBit j = if j = v then b else x.testBit j := by
  rw [(fixAt_bits hx hv b).2]
  rfl
theorem sb_bit (G : Nat → Nat → Bool) (hx : x < 256) : ∀ k, k ≤ 8 → sbA G x k < 256 ∧ ∀ j, (sbA G x k).testBit j = if j < k then G j x else x.testBit j
  | 0, _ => ⟨hx, fun j => by rw [if_neg (by omega)]; rfl⟩
  | k + 1, hk => by
    obtain ⟨a, q⟩ := sb_bit G hx k (by omega)
    refine ⟨fixl a (by omega) _, fun j => ?_⟩
    show (fixAt k (G k x) (sbA G x k)).testBit j = _
    rw [fixb a (by omega), q]
    by_cases e : j = k
    · rw [if_pos e, if_pos (by omega), e]
    · rw [if_neg e]
      by_cases c : j < k
      · rw [if_pos c, if_pos (by omega)]
      · rw [if_neg c, if_neg (by omega)]
theorem sub_com (o : M.Ok) (hh : M.isNode h) {g : Nat} (hg : M.isNode g) (hL : L < M.n) (e : ∀ i, i < M.n → I i = if i = L then nodeI M g else varI i) : Eqt (subF M I h) (comF (M.v L) (M.tbl h) (M.tbl g)) := fun x hx => by
  refine Mdl.val_congr o _ hh (Nat.le_refl _) fun j _ hn => ?_
  rw [asg_at o hn, e j hn, fixb hx (v8 o hL)]
  by_cases c : j = L
  · rw [if_pos c, if_pos (by rw [c]), node_f o hg]
  · rw [if_neg c, if_neg fun q => c (o.vinj j L hn hL q), var_f]
/-- All inputs together. -/
theorem sub_all (o : M.Ok) (hh : M.isNode h) {G : Nat → Nat → Bool} (e : ∀ i, i < M.n → Eqt (inF M (I i)) (G (M.v i))) : Eqt (subF M I h) (sbF M.n G (M.tbl h)) := fun x hx => by
  refine Mdl.val_congr o _ hh (Nat.le_refl _) fun j _ hn => ?_
  rw [asg_at o hn, e j hn x hx, (sb_bit G hx M.n o.le8).2, if_pos (o.vlt j hn)]
end
end Go.Proofs.YtdjjelknjojnfaaGreat

namespace Go.Proofs.YtdjjelknjojnfaaGreat
open Go Go.RowKit
open Rf (fixAt fixF)

/-! ## Values -/
/-- An input as a value. -/
def inA (t : Nd) : Array Value := #[.int .i64 (t.1 : Int), .int .u32 (t.2.1 : Int), .int .u32 (t.2.2 : Int)]
/-- The cells of a walk. -/
def wcell (S : Nat) (I : Nat → Nd) (k : Nat) : Value :=
  if k = 0 then .pointer (some ⟨S, 0, none⟩) else if (k - 1) % 3 = 0 then .int .i64 ((I ((k - 1) / 3)).1 : Int) else if (k - 1) % 3 = 1 then .int .u32 ((I ((k - 1) / 3)).2.1 : Int) else .int .u32 ((I ((k - 1) / 3)).2.2 : Int)
def wA (S : Nat) (I : Nat → Nd) : Array Value := ((List.range 25).map (wcell S I)).toArray
/-- Its inputs. -/
def wI (I : Nat → Nd) : Array Value := ((List.range 24).map fun k => wcell 0 I (k + 1)).toArray
section
variable {S i k : Nat} {I J : Nat → Nd}
theorem wA_size : (wA S I).size = 25 := by simp [wA]
theorem wI_size : (wI I).size = 24 := by simp [wI]
theorem wA_at (hk : k < 25) : (wA S I)[k]? = some (wcell S I k) := by simp [wA, hk]
theorem wI_at (hk : k < 24) : (wI I)[k]? = some (wcell 0 I (k + 1)) := by simp [wI, hk]
theorem wcell_in (S T : Nat) (I : Nat → Nd) (k : Nat) : wcell S I (k + 1) = wcell T I (k + 1) := by simp [wcell]
theorem wcell_lev (S : Nat) (I : Nat → Nd) (i : Nat) : wcell S I (1 + 3 * i) = .int .i64 ((I i).1 : Int) := by
  unfold wcell
  rw [if_neg (by omega), if_pos (by omega), show (1 + 3 * i - 1) / 3 = i by omega]
theorem wcell_lo (S : Nat) (I : Nat → Nd) (i : Nat) : wcell S I (1 + 3 * i + 1) = .int .u32 ((I i).2.1 : Int) := by
  unfold wcell
  rw [if_neg (by omega), if_neg (by omega), if_pos (by omega), show (1 + 3 * i + 1 - 1) / 3 = i by omega]
theorem wcell_hi (S : Nat) (I : Nat → Nd) (i : Nat) : wcell S I (1 + 3 * i + 2) = .int .u32 ((I i).2.2 : Int) := by
  unfold wcell
  rw [if_neg (by omega), if_neg (by omega), if_neg (by omega), show (1 + 3 * i + 2 - 1) / 3 = i by omega]
theorem wcell_one (S : Nat) (I : Nat → Nd) (k : Nat) : (wcell S I k).oneCell' = true := by
  unfold wcell
  split
  · rfl
  · split
    · rfl
    · split <;> rfl
theorem wA_one : (wA S I).all (·.oneCell') = true := by
  rw [Array.all_eq_true]
  intro i hi
  simp [wA, wcell_one]
theorem wA_congr (e : ∀ i, i < 8 → I i = J i) : wA S I = wA S J := by
  unfold wA
  congr 1
  refine List.map_congr_left fun k hk => ?_
  have hk := List.mem_range.1 hk
  unfold wcell
  by_cases c : k = 0
  · rw [if_pos c, if_pos c]
  · rw [if_neg c, if_neg c, e _ (by omega)]
/-- One input out of all of them. -/
theorem wI_part (hi : i < 8) : (wI I).extract (i * 3) (i * 3 + 3) = inA (I i) := by
  apply Array.ext_getElem?
  intro k
  rw [Array.getElem?_extract]
  by_cases hk : k < 3
  · rw [if_pos (by rw [wI_size]; omega), wI_at (by omega)]
    have : k = 0 ∨ k = 1 ∨ k = 2 := by omega
    rcases this with rfl | rfl | rfl
    · rw [show i * 3 + 0 + 1 = 1 + 3 * i by omega, wcell_lev]; rfl
    · rw [show i * 3 + 1 + 1 = 1 + 3 * i + 1 by omega, wcell_lo]; rfl
    · rw [show i * 3 + 2 + 1 = 1 + 3 * i + 2 by omega, wcell_hi]; rfl
  · rw [if_neg (by rw [wI_size]; omega)]
    unfold inA
    simp
    omega
end

/-! ## In memory -/
/-- A block that holds a walk. -/
def IsW (w : World) (g S : Nat) (I : Nat → Nd) : Prop := w.heap[g]? = some (.cells (wA S I) 181 (0, 0))
/-- A block that holds an input. -/
def IsN (w : World) (g : Nat) (t : Nd) : Prop := w.heap[g]? = some (.cells #[.int .i64 (t.1 : Int), .int .u32 (t.2.1 : Int), .int .u32 (t.2.2 : Int)] 178 (0, 0))
section
variable {w w' : World} {g S i : Nat} {I : Nat → Nd} {t : Nd} {F0 F' : Nat → Prop} {M : Mdl}
theorem IsW.new (w : World) (S : Nat) (I : Nat → Nd) : IsW (w.alloc (.cells (wA S I) 181)) w.heap.size S I := Go.Deep.blk_alloc_new _ _
theorem IsW.lt (h : IsW w g S I) : g < w.heap.size := (Array.getElem?_eq_some_iff.1 h).1
theorem IsW.below (h : IsW w g S I) (k : Below w.heap.size w w') : IsW w' g S I := (k.block _ h.lt).trans h
theorem IsW.wf (h : IsW w g S I) (s : St w S F0 M) (k : Wf F0 F' w w') : IsW w' g S I := (k.block _ h.lt (s.row h (by decide))).trans h
theorem IsW.cell (h : IsW w g S I) {k : Nat} (hk : k < 25) : w.cell? ⟨g, k, none⟩ = some (wcell S I k) := by
  unfold IsW at h
  simp [World.cell?, h, wA_at hk]
theorem IsW.free (h : IsW w g S I) (k : Nat) : w.frozen? ⟨g, k, none⟩ = false := by
  unfold IsW at h
  simp [World.frozen?, h]
theorem IsW.store (h : IsW w g S I) : w.cell? ⟨g, 0, none⟩ = some (.pointer (some ⟨S, 0, none⟩)) := h.cell (k := 0) (by omega)
theorem IsW.lev (h : IsW w g S I) (hi : i < 8) : w.cell? ⟨g, 1 + i * 3, none⟩ = some (.int .i64 ((I i).1 : Int)) := by
  rw [h.cell (by omega), show 1 + i * 3 = 1 + 3 * i by omega, wcell_lev]
theorem IsW.lo (h : IsW w g S I) (hi : i < 8) : w.cell? ⟨g, 1 + i * 3 + 1, none⟩ = some (.int .u32 ((I i).2.1 : Int)) := by
  rw [h.cell (by omega), show 1 + i * 3 + 1 = 1 + 3 * i + 1 by omega, wcell_lo]
theorem IsW.hi (h : IsW w g S I) (hi : i < 8) : w.cell? ⟨g, 1 + i * 3 + 2, none⟩ = some (.int .u32 ((I i).2.2 : Int)) := by
  rw [h.cell (by omega), show 1 + i * 3 + 2 = 1 + 3 * i + 2 by omega, wcell_hi]
theorem IsN.new (w : World) (t : Nd) : IsN (w.alloc (.cells #[.int .i64 (t.1 : Int), .int .u32 (t.2.1 : Int), .int .u32 (t.2.2 : Int)] 178)) w.heap.size t := Go.Deep.blk_alloc_new _ _
theorem IsN.lt (h : IsN w g t) : g < w.heap.size := (Array.getElem?_eq_some_iff.1 h).1
theorem IsN.below (h : IsN w g t) (k : Below w.heap.size w w') : IsN w' g t := (k.block _ h.lt).trans h
theorem IsN.drew (h : IsN w g t) : IsN w.drew g t := h
theorem IsN.cells (h : IsN w g t) : w.cell? ⟨g, 0, none⟩ = some (.int .i64 (t.1 : Int)) ∧ w.cell? ⟨g, 1, none⟩ = some (.int .u32 (t.2.1 : Int)) ∧ w.cell? ⟨g, 2, none⟩ = some (.int .u32 (t.2.2 : Int)) := by
  unfold IsN at h
  refine ⟨?_, ?_, ?_⟩ <;> simp [World.cell?, h]
/-- Three cells of a walk turned. -/
def laidI (w : World) (g i : Nat) (t : Nd) : World := ((w.setCell ⟨g, 1 + i * 3, none⟩ (.int .i64 (t.1 : Int))).setCell ⟨g, 1 + i * 3 + 1, none⟩ (.int .u32 (t.2.1 : Int))).setCell ⟨g, 1 + i * 3 + 2, none⟩ (.int .u32 (t.2.2 : Int))
def putI (I : Nat → Nd) (i : Nat) (t : Nd) : Nat → Nd := fun j => if j = i then t else I j
theorem laidI_turned (w : World) (g i : Nat) (t : Nd) : Rf.Turned g w (laidI w g i t) := by
  unfold laidI
  refine ⟨rfl, rfl, rfl, by simp [World.setCell], fun k _ hk => ?_⟩
  rw [Below.heap_setCell _ _ _ _ hk, Below.heap_setCell _ _ _ _ hk, Below.heap_setCell _ _ _ _ hk]
theorem IsW.laid (h : IsW w g S I) (i : Nat) (t : Nd) : IsW (laidI w g i t) g S (putI I i t) := by
  have r0 : w.rowIs g 181 25 (wcell S I) := ⟨_, h, wA_size, fun k hk => wA_at hk⟩
  have r1 := ((r0.set (1 + i * 3) (.int .i64 (t.1 : Int))).set (1 + i * 3 + 1) (.int .u32 (t.2.1 : Int))).set (1 + i * 3 + 2) (.int .u32 (t.2.2 : Int))
  obtain ⟨c, hb, hs, hc⟩ := r1
  have e : c = wA S (putI I i t) := by
    apply Array.ext_getElem?
    intro k
    by_cases hk : k < 25
    · rw [hc k hk, wA_at hk]
      congr 1
      show (if k = 1 + i * 3 + 2 then _ else if k = 1 + i * 3 + 1 then _ else if k = 1 + i * 3 then _ else wcell S I k) = _
      by_cases c2 : k = 1 + i * 3 + 2
      · rw [if_pos c2, c2, show 1 + i * 3 + 2 = 1 + 3 * i + 2 by omega, wcell_hi]
        unfold putI
        rw [if_pos rfl]
      · rw [if_neg c2]
        by_cases c1 : k = 1 + i * 3 + 1
        · rw [if_pos c1, c1, show 1 + i * 3 + 1 = 1 + 3 * i + 1 by omega, wcell_lo]
          unfold putI
          rw [if_pos rfl]
        · rw [if_neg c1]
          by_cases c0 : k = 1 + i * 3
          · rw [if_pos c0, c0, show 1 + i * 3 = 1 + 3 * i by omega, wcell_lev]
            unfold putI
            rw [if_pos rfl]
          · rw [if_neg c0]
            unfold wcell putI
            by_cases z : k = 0
            · rw [if_pos z, if_pos z]
            · rw [if_neg z, if_neg z, if_neg (show ¬ (k - 1) / 3 = i by omega)]
    · rw [Array.getElem?_eq_none (by omega), Array.getElem?_eq_none (by rw [wA_size]; omega)]
  unfold IsW
  rw [← e]
  exact hb
end
/-! ## node, low, high -/
/-- All but one block are as they were, and that one has room for an input. -/
structure SitN (w : World) (r : Nat) (u : World) : Prop where
  turned : Rf.Turned r w u
  room : ∃ x y z : Value, u.heap[r]? = some (.cells #[x, y, z] 178 (0, 0))
def laidN (w : World) (r : Nat) (t : Nd) : World := ((w.setCell ⟨r, 0, none⟩ (.int .i64 (t.1 : Int))).setCell ⟨r, 1, none⟩ (.int .u32 (t.2.1 : Int))).setCell ⟨r, 2, none⟩ (.int .u32 (t.2.2 : Int))
theorem laidN_turned (w : World) (r : Nat) (t : Nd) : Rf.Turned r w (laidN w r t) := by
  unfold laidN
  refine ⟨rfl, rfl, rfl, by simp [World.setCell], fun k _ hk => ?_⟩
  rw [Below.heap_setCell _ _ _ _ hk, Below.heap_setCell _ _ _ _ hk, Below.heap_setCell _ _ _ _ hk]
theorem laidN_is {w : World} {r : Nat} (h : ∃ x y z : Value, w.heap[r]? = some (.cells #[x, y, z] 178 (0, 0))) (t : Nd) : IsN (laidN w r t) r t := by
  obtain ⟨x, y, z, h⟩ := h
  unfold laidN IsN
  simp [World.setCell, Array.getElem?_modify, h]
theorem SitN.laid {w u : World} {r : Nat} (s : SitN w r u) (t : Nd) : SitN w r (laidN u r t) := by
  have q := laidN_turned u r t
  exact ⟨⟨q.os.trans s.turned.os, q.tape.trans s.turned.tape, q.output.trans s.turned.output, Nat.le_trans s.turned.size q.size, fun i hi hne => (q.block i (Nat.lt_of_lt_of_le hi s.turned.size) hne).trans (s.turned.block i hi hne)⟩, _, _, _, laidN_is s.room t⟩
theorem SitN.drew {w u : World} {r : Nat} (s : SitN w r u) : SitN w r u.drew := ⟨⟨s.turned.os, s.turned.tape, s.turned.output, s.turned.size, s.turned.block⟩, s.room⟩
theorem results_in {fn : Func} {p : Tmp} (h : fn.results = #[.cell p 178]) {tmps : Array Value} {w : World} {g : Nat} {t : Nd} (hp : tmps.getD p undef = .pointer (some ⟨g, 0, none⟩)) (i : IsN w g t) :
    (results fn tmps).run Tryz.prog w = .ok (.agg (inA t)) w := by
  obtain ⟨c0, c1, c2⟩ := i.cells
  rw [Rf.results_cell1 h, hp]
  unfold inA
  go_simp
section
variable {w : World} {S h : Nat} {F0 : Nat → Prop} {M : Mdl} {I : Nat → Nd} {t : Nd}
set_option maxRecDepth 100000 in
set_option maxHeartbeats 1000000 in
theorem cnode_any (s : St w S F0 M) (hh : M.isNode h) : Calls Tryz.prog 145 #[.agg (wA S I), .int .u32 (h : Int)] w fun e w' => e = .returned (.agg (inA (nodeI M h))) ∧ Below w.heap.size w w' := by
  obtain ⟨R, hR⟩ : ∃ R, Value.agg (inA (nodeI M h)) = R := ⟨_, rfl⟩
  have hRA : Aside (R = Value.agg (inA (nodeI M h))) := hR.symm
  rw [hR]
  clear hR
  have hb := Mdl.isNode_lt s.ok hh
  have KL : Aside (∀ u, St u S F0 M → Calls Tryz.prog 53 #[.pointer (some ⟨S, 0, none⟩), .int .u32 (h : Int)] u fun e w' => e = .returned (.int .i64 ((nodeI M h).1 : Int)) ∧ w' = u) := fun u su => lv_any su hh
  have K0 : Aside (∀ u, St u S F0 M → Calls Tryz.prog 54 #[.pointer (some ⟨S, 0, none⟩), .int .u32 (h : Int)] u fun e w' => e = .returned (.int .u32 ((nodeI M h).2.1 : Int)) ∧ w' = u) := fun u su => s_low su h (by omega)
  have K1 : Aside (∀ u, St u S F0 M → Calls Tryz.prog 55 #[.pointer (some ⟨S, 0, none⟩), .int .u32 (h : Int)] u fun e w' => e = .returned (.int .u32 ((nodeI M h).2.2 : Int)) ∧ w' = u) := fun u su => s_high su h (by omega)
  generalize nodeI M h = t at hRA KL K0 K1
  clear hb hh
  go_enter Tryz.func145, Tryz.ntmps145
  go_upto_region 1 with fail
  have i4 := (IsW.new w S I).below (nb _ (.cells #[.int .i64 0, .int .u32 0, .int .u32 0] 178))
  have B4 : Aside (Below w.heap.size w ((w.alloc (.cells (wA S I) 181)).alloc (.cells #[.int .i64 0, .int .u32 0, .int .u32 0] 178))) := ((Below.refl _ w).alloc (Nat.le_refl _) _).alloc (by simp) _
  have r4 : ((w.alloc (.cells (wA S I) 181)).alloc (.cells #[.int .i64 0, .int .u32 0, .int .u32 0] 178)).heap[w.heap.size + 1]? = some (.cells #[.int .i64 0, .int .u32 0, .int .u32 0] 178 (0, 0)) := by
    have := Go.Deep.blk_alloc_new (w.alloc (.cells (wA S I) 181)) (.cells #[.int .i64 0, .int .u32 0, .int .u32 0] 178)
    simpa using this
  have s4 := s.below B4.out
  have fk : ∀ k, F0 k → k ≠ w.heap.size + 1 := fun k hk => by have := s.lt k hk; omega
  generalize (w.alloc (.cells (wA S I) 181)).alloc (.cells #[.int .i64 0, .int .u32 0, .int .u32 0] 178) = w4 at i4 B4 r4 s4 ⊢
  have st0 : SitN w4 (w.heap.size + 1) w4.drew := ⟨⟨rfl, rfl, rfl, Nat.le_refl _, fun _ _ _ => rfl⟩, _, _, _, r4⟩
  have stw : SitN w4 (w.heap.size + 1) w4 := ⟨Rf.Turned.refl _ _, _, _, _, r4⟩
  have lc0 : ∀ u, SitN w4 (w.heap.size + 1) u → u.cell? ⟨w.heap.size, 0, none⟩ = some (.pointer (some ⟨S, 0, none⟩)) := fun u su => IsW.store (I := I) ((su.turned.block _ i4.lt (by omega)).trans i4)
  have hS : ∀ u, SitN w4 (w.heap.size + 1) u → St u S F0 M := fun u su => s4.kept fun k hk => su.turned.block k (s4.lt k hk) (fk k hk)
  have Ka := fun u su => KL.out u (hS u su)
  have Kb := fun u su => K0.out u (hS u su)
  have Kc := fun u su => K1.out u (hS u su)
  obtain ⟨r, hr⟩ : ∃ r, w.heap.size + 1 = r := ⟨_, rfl⟩
  have hrA : Aside (w.heap.size + 1 = r) := hr
  rw [hr] at stw st0 lc0 Ka Kb Kc r4 ⊢
  have d0 : w4.cell? ⟨r, 0, none⟩ = some (.int .i64 0) := by simp [World.cell?, r4]
  have d1 : w4.cell? ⟨r, 1, none⟩ = some (.int .u32 0) := by simp [World.cell?, r4]
  have d2 : w4.cell? ⟨r, 2, none⟩ = some (.int .u32 0) := by simp [World.cell?, r4]
  have f0 : w4.frozen? ⟨r, 0, none⟩ = false := by simp [World.frozen?, r4]
  have f1 : w4.frozen? ⟨r, 1, none⟩ = false := by simp [World.frozen?, r4]
  have f2 : w4.frozen? ⟨r, 2, none⟩ = false := by simp [World.frozen?, r4]
  clear s i4 r4 s4 fk hS KL K0 K1 hr
  go_region_held3 (fun u => SitN w4 r u) (first | assumption | exact st0 | exact (stw.laid t).drew) (first
    | (go_at_call 53; refine (Ka _ (by assumption)).mono ?_; rintro e w5 ⟨rfl, e5⟩; subst w5)
    | (go_at_call 54; refine (Kb _ (by assumption)).mono ?_; rintro e w5 ⟨rfl, e5⟩; subst w5)
    | (go_at_call 55; refine (Kc _ (by assumption)).mono ?_; rintro e w5 ⟨rfl, e5⟩; subst w5))
  go_wp2_with fail
  refine bodyPost_ret (results_in rfl rfl (IsN.drew (laidN_is stw.room t))) rfl ⟨by rw [hRA.out], ?_⟩
  exact B4.out.trans ((stw.laid t).drew.turned.below B4.out.size (by have := hrA.out; omega))
theorem three_new (w : World) (A : Array Value) (t : Nd) : Below w.heap.size w (((w.alloc (.cells A 181)).alloc (.cells #[.int .i64 (t.1 : Int), .int .u32 (t.2.1 : Int), .int .u32 (t.2.2 : Int)] 178)).alloc (.cells #[.int .i64 0, .int .u32 0, .int .u32 0] 178)) ∧ (((w.alloc (.cells A 181)).alloc (.cells #[.int .i64 (t.1 : Int), .int .u32 (t.2.1 : Int), .int .u32 (t.2.2 : Int)] 178)).alloc (.cells #[.int .i64 0, .int .u32 0, .int .u32 0] 178)).heap[w.heap.size]? = some (.cells A 181 (0, 0)) ∧ IsN (((w.alloc (.cells A 181)).alloc (.cells #[.int .i64 (t.1 : Int), .int .u32 (t.2.1 : Int), .int .u32 (t.2.2 : Int)] 178)).alloc (.cells #[.int .i64 0, .int .u32 0, .int .u32 0] 178)) (w.heap.size + 1) t ∧ (((w.alloc (.cells A 181)).alloc (.cells #[.int .i64 (t.1 : Int), .int .u32 (t.2.1 : Int), .int .u32 (t.2.2 : Int)] 178)).alloc (.cells #[.int .i64 0, .int .u32 0, .int .u32 0] 178)).heap[w.heap.size + 1 + 1]? = some (.cells #[.int .i64 0, .int .u32 0, .int .u32 0] 178 (0, 0)) := by
  refine ⟨(((Below.refl _ w).alloc (Nat.le_refl _) _).alloc (by simp) _).alloc (by simp; omega) _, ?_, ?_, ?_⟩
  · exact (Below.block (((Below.refl _ (w.alloc (.cells A 181))).alloc (Nat.le_refl _) _).alloc (by simp) _) w.heap.size (by simp)).trans (Go.Deep.blk_alloc_new w (.cells A 181))
  · have h := (IsN.new (w.alloc (.cells A 181)) t).below (nb _ (.cells #[.int .i64 0, .int .u32 0, .int .u32 0] 178))
    simpa using h
  · have h := Go.Deep.blk_alloc_new ((w.alloc (.cells A 181)).alloc (.cells #[.int .i64 (t.1 : Int), .int .u32 (t.2.1 : Int), .int .u32 (t.2.2 : Int)] 178)) (.cells #[.int .i64 0, .int .u32 0, .int .u32 0] 178)
    simpa using h
theorem room_cells {w : World} {r : Nat} (h : w.heap[r]? = some (.cells #[.int .i64 0, .int .u32 0, .int .u32 0] 178 (0, 0))) : w.cell? ⟨r, 0, none⟩ = some (.int .i64 0) ∧ w.cell? ⟨r, 1, none⟩ = some (.int .u32 0) ∧ w.cell? ⟨r, 2, none⟩ = some (.int .u32 0) ∧ w.frozen? ⟨r, 0, none⟩ = false ∧ w.frozen? ⟨r, 1, none⟩ = false ∧ w.frozen? ⟨r, 2, none⟩ = false := by
  refine ⟨?_, ?_, ?_, ?_, ?_, ?_⟩ <;> simp [World.cell?, World.frozen?, h]
/-- low, high. -/
def stp (b : Bool) : Nat := if b then 132 else 131
set_option maxRecDepth 100000 in
set_option maxHeartbeats 1000000 in
theorem step_any (s : St w S F0 M) (wt : WI M t) (b : Bool) : Calls Tryz.prog (stp b) #[.agg (wA S I), .agg (inA t)] w fun e w' => e = .returned (.agg (inA (nodeI M (kidI b t)))) ∧ Below w.heap.size w w' := by
  have kn := kid_node wt b
  obtain ⟨A, hA⟩ : ∃ A, wA S I = A := ⟨_, rfl⟩
  have KN : Aside (∀ u, St u S F0 M → Calls Tryz.prog 145 #[.agg A, .int .u32 (kidI b t : Int)] u fun e w' => e = .returned (.agg (inA (nodeI M (kidI b t)))) ∧ Below u.heap.size u w') := fun u su => by rw [← hA]; exact cnode_any su kn
  obtain ⟨r, hr⟩ : ∃ r, nodeI M (kidI b t) = r := ⟨_, rfl⟩
  rw [hr] at KN ⊢
  have sz : Aside (A.size = 25) := by rw [← hA]; exact wA_size
  rw [hA]
  clear hA hr kn wt
  unfold inA
  unfold inA at KN
  cases b with
  | false =>
    unfold stp
    unfold kidI at KN
    simp only [Bool.false_eq_true, if_false] at KN ⊢
    go_enter Tryz.func131, Tryz.ntmps131
    go_upto_region 1 with fail
    obtain ⟨B3, h3, n3, r3⟩ := three_new w A t
    generalize (((w.alloc (.cells A 181)).alloc (.cells #[.int .i64 (t.1 : Int), .int .u32 (t.2.1 : Int), .int .u32 (t.2.2 : Int)] 178)).alloc (.cells #[.int .i64 0, .int .u32 0, .int .u32 0] 178)) = w3 at B3 h3 n3 r3 ⊢
    have s3 := s.below B3
    have B3A : Aside (Below w.heap.size w w3) := B3
    have h3A : Aside (w3.heap[w.heap.size]? = some (.cells A 181 (0, 0))) := h3
    have rB : Aside (w.heap.size ≤ w.heap.size + 1 + 1) := by show _ ≤ _; omega
    have K := KN.out _ s3
    obtain ⟨c0, c1, c2⟩ := n3.cells
    generalize w.heap.size + 1 + 1 = rr at r3 rB ⊢
    generalize w.heap.size + 1 = gn at c0 c1 c2 ⊢
    obtain ⟨g, hg⟩ : ∃ g, w.heap.size = g := ⟨_, rfl⟩
    rw [hg] at h3A ⊢
    have hgA : Aside (w.heap.size = g) := hg
    clear B3 h3 n3 KN s s3 hg
    go_wp2_with (first
      | refine wpList_load_row rfl 181 (.tmp 2) rfl g rfl 181 A (0, 0) _ h3A.out Tryz.underlying181 rfl (by rw [sz.out]; kernel_rfl) ?_
      | (go_at_call 145; refine K.mono ?_; clear K; rintro e w5 ⟨rfl, b5⟩; have r5 := (b5.block _ (Array.getElem?_eq_some_iff.1 r3).1).trans r3; clear c0 c1 c2; obtain ⟨d0, d1, d2, f0, f1, f2⟩ := room_cells r5))
    refine bodyPost_ret (results_in (t := r) rfl rfl (laidN_is ⟨_, _, _, r5⟩ r)) rfl ⟨rfl, ?_⟩
    have B5 := Rf.below_far B3A.out b5
    exact B5.trans ((laidN_turned w5 rr r).below B5.size rB.out)
  | true =>
    unfold stp
    unfold kidI at KN
    simp only [if_true] at KN ⊢
    go_enter Tryz.func132, Tryz.ntmps132
    go_upto_region 1 with fail
    obtain ⟨B3, h3, n3, r3⟩ := three_new w A t
    generalize (((w.alloc (.cells A 181)).alloc (.cells #[.int .i64 (t.1 : Int), .int .u32 (t.2.1 : Int), .int .u32 (t.2.2 : Int)] 178)).alloc (.cells #[.int .i64 0, .int .u32 0, .int .u32 0] 178)) = w3 at B3 h3 n3 r3 ⊢
    have s3 := s.below B3
    have B3A : Aside (Below w.heap.size w w3) := B3
    have h3A : Aside (w3.heap[w.heap.size]? = some (.cells A 181 (0, 0))) := h3
    have rB : Aside (w.heap.size ≤ w.heap.size + 1 + 1) := by show _ ≤ _; omega
    have K := KN.out _ s3
    obtain ⟨c0, c1, c2⟩ := n3.cells
    generalize w.heap.size + 1 + 1 = rr at r3 rB ⊢
    generalize w.heap.size + 1 = gn at c0 c1 c2 ⊢
    obtain ⟨g, hg⟩ : ∃ g, w.heap.size = g := ⟨_, rfl⟩
    rw [hg] at h3A ⊢
    have hgA : Aside (w.heap.size = g) := hg
    clear B3 h3 n3 KN s s3 hg
    go_wp2_with (first
      | refine wpList_load_row rfl 181 (.tmp 2) rfl g rfl 181 A (0, 0) _ h3A.out Tryz.underlying181 rfl (by rw [sz.out]; kernel_rfl) ?_
      | (go_at_call 145; refine K.mono ?_; clear K; rintro e w5 ⟨rfl, b5⟩; have r5 := (b5.block _ (Array.getElem?_eq_some_iff.1 r3).1).trans r3; clear c0 c1 c2; obtain ⟨d0, d1, d2, f0, f1, f2⟩ := room_cells r5))
    refine bodyPost_ret (results_in (t := r) rfl rfl (laidN_is ⟨_, _, _, r5⟩ r)) rfl ⟨rfl, ?_⟩
    have B5 := Rf.below_far B3A.out b5
    exact B5.trans ((laidN_turned w5 rr r).below B5.size rB.out)
end
end Go.Proofs.YtdjjelknjojnfaaGreat

namespace Go.Proofs.YtdjjelknjojnfaaGreat
open Go Go.RowKit
open Rf (fixAt fixF)

/-- The first so many inputs stepped. -/
def mixI (M : Mdl) (L : Nat) (b : Bool) (I : Nat → Nd) (k : Nat) : Nat → Nd := fun i => if i < k then halfI M L b I i else I i
theorem mix_put (M : Mdl) (L : Nat) (b : Bool) (I : Nat → Nd) (k : Nat) (e : (I k).1 = L) : putI (mixI M L b I k) k (nodeI M (kidI b (I k))) = mixI M L b I (k + 1) := funext fun i => by
  unfold putI mixI
  by_cases c : i = k
  · rw [if_pos c, if_pos (by omega), c]
    unfold halfI
    rw [if_pos e]
  · rw [if_neg c]
    by_cases d : i < k
    · rw [if_pos d, if_pos (by omega)]
    · rw [if_neg d, if_neg (by omega)]
theorem mix_skip (M : Mdl) (L : Nat) (b : Bool) (I : Nat → Nd) (k : Nat) (e : ¬ (I k).1 = L) : mixI M L b I k = mixI M L b I (k + 1) := funext fun i => by
  unfold mixI
  by_cases c : i = k
  · rw [if_neg (by omega), if_pos (by omega), c]
    unfold halfI
    rw [if_neg e]
  · by_cases d : i < k
    · rw [if_pos d, if_pos (by omega)]
    · rw [if_neg d, if_neg (by omega)]
theorem run_part (I : Nat → Nd) (k : Nat) (hk : k < 8) (w : World) : (Instr.index 179 (.agg (wI I)) (.int .i64 (k : Int))).run Tryz.prog w = .ok (.agg #[.int .i64 ((I k).1 : Int), .int .u32 ((I k).2.1 : Int), .int .u32 ((I k).2.2 : Int)]) w := by
  have hu := Tryz.underlying179
  have hp := wI_part (I := I) hk
  unfold inA at hp
  unfold Instr.index
  simp [go_sem, run_underlying hu, hp]
  omega
section
variable {w : World} {S L : Nat} {F0 : Nat → Prop} {M : Mdl} {I : Nat → Nd}
theorem call_low (vs : Array Value) (w : World) : (callFunc 131 vs).run Tryz.prog w = .ok (.enter 131 vs) w := by
  have h := Tryz.func131
  go_simp
theorem call_high (vs : Array Value) (w : World) : (callFunc 132 vs).run Tryz.prog w = .ok (.enter 132 vs) w := by
  have h := Tryz.func132
  go_simp
set_option maxRecDepth 100000 in
set_option maxHeartbeats 2000000 in
theorem chalf_any (s : St w S F0 M) (wi : ∀ i, WI M (I i)) (L : Nat) (b : Bool) (J : Nat → Nd) : Calls Tryz.prog 130 #[.agg (wA S I), .int .i64 (L : Int), .func (.func (stp b)) #[.agg (wA S J)] #[]] w fun e w' => e = .returned (.agg (wA S (halfI M L b I))) ∧ Below w.heap.size w w' := by
  have hf : ∀ (vs : Array Value) (w : World), (callFunc (stp b) vs).run Tryz.prog w = .ok (.enter (stp b) vs) w := by
    cases b
    · exact call_low
    · exact call_high
  have KS : Aside (∀ u (k : Nat), St u S F0 M → Calls Tryz.prog (stp b) #[.agg (wA S J), .agg #[.int .i64 ((I k).1 : Int), .int .u32 ((I k).2.1 : Int), .int .u32 ((I k).2.2 : Int)]] u fun e w' => e = .returned (.agg (inA (nodeI M (kidI b (I k))))) ∧ Below u.heap.size u w') := fun u k su => step_any su (wi k) b
  unfold inA at KS
  have hout : Aside (wA S (mixI M L b I 8) = wA S (halfI M L b I)) := wA_congr fun i hi => if_pos hi
  generalize wA S (halfI M L b I) = R at hout
  generalize wA S J = AJ at KS
  generalize stp b = f at hf KS
  clear wi
  go_enter Tryz.func130, Tryz.ntmps130
  go_upto_region 1 with fail
  have i4 := (IsW.new w S I).below (nb _ (.cells #[.pointer none, .int .i64 0, .int .u32 0, .int .u32 0, .int .i64 0, .int .u32 0, .int .u32 0, .int .i64 0, .int .u32 0, .int .u32 0, .int .i64 0, .int .u32 0, .int .u32 0, .int .i64 0, .int .u32 0, .int .u32 0, .int .i64 0, .int .u32 0, .int .u32 0, .int .i64 0, .int .u32 0, .int .u32 0, .int .i64 0, .int .u32 0, .int .u32 0] 181))
  have r4 : ((w.alloc (.cells (wA S I) 181)).alloc (.cells #[.pointer none, .int .i64 0, .int .u32 0, .int .u32 0, .int .i64 0, .int .u32 0, .int .u32 0, .int .i64 0, .int .u32 0, .int .u32 0, .int .i64 0, .int .u32 0, .int .u32 0, .int .i64 0, .int .u32 0, .int .u32 0, .int .i64 0, .int .u32 0, .int .u32 0, .int .i64 0, .int .u32 0, .int .u32 0, .int .i64 0, .int .u32 0, .int .u32 0] 181)).heap[w.heap.size + 1]? = some (.cells #[.pointer none, .int .i64 0, .int .u32 0, .int .u32 0, .int .i64 0, .int .u32 0, .int .u32 0, .int .i64 0, .int .u32 0, .int .u32 0, .int .i64 0, .int .u32 0, .int .u32 0, .int .i64 0, .int .u32 0, .int .u32 0, .int .i64 0, .int .u32 0, .int .u32 0, .int .i64 0, .int .u32 0, .int .u32 0, .int .i64 0, .int .u32 0, .int .u32 0] 181 (0, 0)) := by
    have := Go.Deep.blk_alloc_new (w.alloc (.cells (wA S I) 181)) (.cells #[.pointer none, .int .i64 0, .int .u32 0, .int .u32 0, .int .i64 0, .int .u32 0, .int .u32 0, .int .i64 0, .int .u32 0, .int .u32 0, .int .i64 0, .int .u32 0, .int .u32 0, .int .i64 0, .int .u32 0, .int .u32 0, .int .i64 0, .int .u32 0, .int .u32 0, .int .i64 0, .int .u32 0, .int .u32 0, .int .i64 0, .int .u32 0, .int .u32 0] 181)
    simpa using this
  have B4 : Below w.heap.size w ((w.alloc (.cells (wA S I) 181)).alloc (.cells #[.pointer none, .int .i64 0, .int .u32 0, .int .u32 0, .int .i64 0, .int .u32 0, .int .u32 0, .int .i64 0, .int .u32 0, .int .u32 0, .int .i64 0, .int .u32 0, .int .u32 0, .int .i64 0, .int .u32 0, .int .u32 0, .int .i64 0, .int .u32 0, .int .u32 0, .int .i64 0, .int .u32 0, .int .u32 0, .int .i64 0, .int .u32 0, .int .u32 0] 181)) := ((Below.refl _ w).alloc (Nat.le_refl _) _).alloc (by simp) _
  have hz : (#[.pointer none, .int .i64 0, .int .u32 0, .int .u32 0, .int .i64 0, .int .u32 0, .int .u32 0, .int .i64 0, .int .u32 0, .int .u32 0, .int .i64 0, .int .u32 0, .int .u32 0, .int .i64 0, .int .u32 0, .int .u32 0, .int .i64 0, .int .u32 0, .int .u32 0, .int .i64 0, .int .u32 0, .int .u32 0, .int .i64 0, .int .u32 0, .int .u32 0] : Array Value).size = 25 := rfl
  generalize (#[.pointer none, .int .i64 0, .int .u32 0, .int .u32 0, .int .i64 0, .int .u32 0, .int .u32 0, .int .i64 0, .int .u32 0, .int .u32 0, .int .i64 0, .int .u32 0, .int .u32 0, .int .i64 0, .int .u32 0, .int .u32 0, .int .i64 0, .int .u32 0, .int .u32 0, .int .i64 0, .int .u32 0, .int .u32 0, .int .i64 0, .int .u32 0, .int .u32 0] : Array Value) = Z at i4 r4 B4 hz ⊢
  generalize (w.alloc (.cells (wA S I) 181)).alloc (.cells Z 181) = w4 at i4 r4 B4 ⊢
  have s4 := s.below B4
  have gr : w.heap.size ≠ w.heap.size + 1 := by omega
  have rB : w.heap.size ≤ w.heap.size + 1 := by omega
  generalize w.heap.size + 1 = r at r4 gr rB ⊢
  obtain ⟨g, hg⟩ : ∃ g, w.heap.size = g := ⟨_, rfl⟩
  have gB : w.heap.size ≤ g := by omega
  have rA : Aside (g ≠ r ∧ w.heap.size ≤ r ∧ w.heap.size ≤ g ∧ Z.size = 25) := ⟨by rw [← hg]; exact gr, rB, gB, hz⟩
  have B4A : Aside (Below w.heap.size w w4) := B4
  rw [hg] at i4 ⊢
  clear gr rB hz hg B4 gB
  have hD : Aside (∀ j u, (wI I).toList[j]? = some u → w4.cell? ⟨g, 1 + j, none⟩ = some u) := fun j u hu => by
    have hj : j < 24 := by
      have := (List.getElem?_eq_some_iff.1 hu).1
      simp [wI_size] at this
      exact this
    have := i4.cell (k := 1 + j) (by omega)
    rw [this]
    have q := wI_at (I := I) hj
    rw [show 1 + j = j + 1 by omega, wcell_in S 0]
    rw [← q]
    simpa using hu
  go_upto_region 2 with (first
    | refine Od.wpList_load_cells rfl 179 (.tmp 9) rfl g 1 rfl (wI I) _ hD.out Tryz.underlying179 rfl (by rw [wI_size]; kernel_rfl) ?_)
  have i4A : Aside (IsW w4 g S (mixI M L b I 0)) := by
    have e : mixI M L b I 0 = I := funext fun i => if_neg (by omega)
    show IsW _ _ _ _
    rw [e]
    exact i4
  have s4A : Aside (St w4 S F0 M) := s4
  have r4A : Aside (w4.heap[r]? = some (.cells Z 181 (0, 0))) := r4
  clear i4 s4 r4 hD s
  go_loopg [11, 7, 8] 8 (fun gn si _s7 _s8 wr => ∃ k : Nat, k + gn = 8 ∧ si = .int .i64 (k : Int) ∧ Aside (IsW wr g S (mixI M L b I k)) ∧ Aside (St wr S F0 M) ∧ Aside (wr.heap[r]? = some (.cells Z 181 (0, 0))) ∧ Aside (Below w.heap.size w wr))
  case atStart => exact ⟨0, by omega, rfl, i4A, s4A, r4A, B4A⟩
  case round =>
    obtain ⟨k, hk, rfl, i5, s5, r5, B5⟩ := hrel
    have hK : Aside (k + gk = 8) := hk
    clear hk i4A s4A r4A B4A
    by_cases hk8 : k < 8
    · have hki : (k : Int) < 8 := by omega
      have hix := run_part I k hk8
      have hput : Aside ((I k).1 = L → putI (mixI M L b I k) k (nodeI M (kidI b (I k))) = mixI M L b I (k + 1)) := mix_put M L b I k
      have hskip : Aside (¬ (I k).1 = L → mixI M L b I k = mixI M L b I (k + 1)) := mix_skip M L b I k
      have K := fun u su => KS.out u k su
      obtain ⟨t', ht'⟩ : ∃ t', nodeI M (kidI b (I k)) = t' := ⟨_, rfl⟩
      rw [ht'] at hput K
      obtain ⟨⟨l, a, c⟩, ht⟩ : ∃ t, I k = t := ⟨_, rfl⟩
      rw [ht] at hix hput hskip K
      dsimp only at hix hput hskip K
      clear ht ht' hk8 KS
      have b6 := nb wr (.cells #[.int .i64 (l : Int), .int .u32 (a : Int), .int .u32 (c : Int)] 178)
      have s6 : Aside (St (wr.alloc (.cells #[.int .i64 (l : Int), .int .u32 (a : Int), .int .u32 (c : Int)] 178)) S F0 M) := s5.out.below b6
      have i6 : Aside (IsW (wr.alloc (.cells #[.int .i64 (l : Int), .int .u32 (a : Int), .int .u32 (c : Int)] 178)) g S (mixI M L b I k)) := i5.out.below b6
      have r6 : Aside ((wr.alloc (.cells #[.int .i64 (l : Int), .int .u32 (a : Int), .int .u32 (c : Int)] 178)).heap[r]? = some (.cells Z 181 (0, 0))) := (b6.block _ (Array.getElem?_eq_some_iff.1 r5.out).1).trans r5.out
      have B6 : Aside (Below w.heap.size w (wr.alloc (.cells #[.int .i64 (l : Int), .int .u32 (a : Int), .int .u32 (c : Int)] 178))) := Rf.below_far B5.out b6
      have kA : Aside (k < 8) := by have := hki; show k < 8; omega
      clear i5 s5 r5 B5 b6
      by_cases e : l = L
      · subst l
        have hp := hput.out rfl
        have K6 := K _ s6.out
        have hpA : Aside (putI (mixI M L b I k) k t' = mixI M L b I (k + 1)) := hp
        clear hp hput hskip K
        go_wp2_with (first
          | (guard_target =~ Calls Tryz.prog f _ _ _; refine K6.mono ?_; clear K6; rintro e w7 ⟨rfl, b7⟩; have i7 := i6.out.below b7; have c0 := i7.lev kA.out; have c1 := i7.lo kA.out; have c2 := i7.hi kA.out; have f0 := i7.free (1 + k * 3); have f1 := i7.free (1 + k * 3 + 1); have f2 := i7.free (1 + k * 3 + 2)))
        go_roundg (gk - 1)
        case measure => have := hK.out; have := kA.out; omega
        case rel =>
          have := hK.out
          have := kA.out
          have T := laidI_turned w7 g k t'
          have B7 := Rf.below_far B6.out b7
          have ra := rA.out
          refine ⟨k + 1, by omega, rfl, ?_, ?_, ?_, ?_⟩
          · show IsW _ _ _ _
            rw [← hpA.out]
            exact i7.laid k t'
          · exact (s6.out.below b7).kept fun x hx => T.block x ((s6.out.below b7).lt x hx) fun e => by
              subst e
              exact (s6.out.below b7).row i7 (by decide) hx
          · exact (T.block r (Array.getElem?_eq_some_iff.1 ((b7.block _ (Array.getElem?_eq_some_iff.1 r6.out).1).trans r6.out)).1 (fun e => ra.1 e.symm)).trans ((b7.block _ (Array.getElem?_eq_some_iff.1 r6.out).1).trans r6.out)
          · exact B7.trans (T.below B7.size ra.2.2.1)
      · have e' : ¬ (l : Int) = (L : Int) := by omega
        have hp : Aside (mixI M L b I k = mixI M L b I (k + 1)) := hskip.out e
        clear e hput hskip K
        go_wp2_with fail
        go_roundg (gk - 1)
        case measure => have := hK.out; have := kA.out; omega
        case rel =>
          have := hK.out
          have := kA.out
          refine ⟨k + 1, by omega, rfl, ?_, s6, r6, B6⟩
          show IsW _ _ _ _
          rw [← hp.out]
          exact i6.out
    · have ek : k = 8 := by have := hK.out; omega
      subst ek
      have hki : ¬ ((8 : Nat) : Int) < 8 := by omega
      clear hk8
      have szA : Aside ((wA S (mixI M L b I 8)).size = 25) := wA_size
      have onA : Aside ((wA S (mixI M L b I 8)).all (·.oneCell') = true) := wA_one
      have i5A : Aside (wr.heap[g]? = some (.cells (wA S (mixI M L b I 8)) 181 (0, 0))) := i5.out
      rw [hout.out] at szA onA i5A
      clear i5 KS hf
      go_wp2_with (first
        | refine wpList_load_row rfl 181 (.tmp 3) rfl g rfl 181 R (0, 0) _ i5A.out Tryz.underlying181 rfl (by rw [szA.out]; kernel_rfl) ?_
        | refine wpList_store_row rfl 181 (.tmp 6) (.tmp 26) rfl r R rfl rfl 181 _ r5.out (by rw [szA.out]; kernel_rfl) (by rw [szA.out]; exact rA.out.2.2.2) onA.out ?_)
      have r5' := r5.out
      refine bodyPost_ret (results_cell_row rfl _ _ r 181 R (0, 0) _ rfl (setRow_heap _ _ _ _ 181 _ r5') Tryz.underlying181 rfl (by rw [szA.out]; kernel_rfl)) rfl ⟨rfl, ?_⟩
      have ra := rA.out
      exact B5.out.trans ⟨rfl, rfl, rfl, by simp [World.setRow], fun k hk => setRow_other _ _ k _ (by omega)⟩
end
end Go.Proofs.YtdjjelknjojnfaaGreat

namespace Go.Proofs.YtdjjelknjojnfaaGreat
open Go Go.RowKit
open Rf (fixAt fixF)

section
variable {w : World} {S h : Nat} {F0 : Nat → Prop} {M : Mdl} {I : Nat → Nd}
/-- Where follow comes to. -/
structure Goes (M : Mdl) (I : Nat → Nd) (h x : Nat) : Prop where
  node : M.isNode x
  deep : M.lev h ≤ M.lev x
  same : subF M I x = subF M I h
theorem Goes.next {x : Nat} (o : M.Ok) (g : Goes M I h x) (hm : x ∈ M.hs) (wi : WI M (I (M.lev x))) (e : ¬ (I (M.lev x)).1 < M.n) : Goes M I h (nextI M I x) :=
  ⟨(next_ok o hm).1, by have := (next_ok (I := I) o hm).2; have := g.deep; omega, (sub_next o hm wi e).trans g.same⟩
set_option maxRecDepth 100000 in
set_option maxHeartbeats 2000000 in
theorem follow_any (s : St w S F0 M) (wi : ∀ i, WI M (I i)) (hh : M.isNode h) : Calls Tryz.prog 128 #[.agg (wA S I), .int .u32 (h : Int)] w fun e w' => ∃ x : Nat, e = .returned (.int .u32 (x : Int)) ∧ Goes M I h x ∧ (x < 2 ∨ x ∈ M.hs ∧ (I (M.lev x)).1 < M.n) ∧ Below w.heap.size w w' := by
  have ok := s.ok
  have n8 := ok.le8
  go_enter Tryz.func128, Tryz.ntmps128
  go_upto_region 1 with fail
  have i4 := IsW.new w S I
  have B4 := nb w (.cells (wA S I) 181)
  generalize w.alloc (.cells (wA S I) 181) = w4 at i4 B4 ⊢
  have s4 : Aside (St w4 S F0 M) := s.below B4
  have i4A : Aside (IsW w4 w.heap.size S I) := i4
  have B4A : Aside (Below w.heap.size w w4) := B4
  obtain ⟨g, hg⟩ : ∃ g, w.heap.size = g := ⟨_, rfl⟩
  rw [hg] at i4A ⊢
  have okA : Aside M.Ok := ok
  have n8A : Aside (M.n ≤ 8) := n8
  have wiA : Aside (∀ i, WI M (I i)) := wi
  have hh0 : Aside (Goes M I h h) := ⟨hh, Nat.le_refl _, rfl⟩
  clear ok n8 wi s i4 B4 hh hg
  go_loopg [1, 5, 6] (M.n + 1) (fun gn s1 _s5 _s6 wr => ∃ x : Nat, s1 = .int .u32 (x : Int) ∧ Aside (M.n - M.lev x + 1 ≤ gn) ∧ Aside (Goes M I h x) ∧ Aside (IsW wr g S I) ∧ Aside (St wr S F0 M) ∧ Aside (Below w.heap.size w wr))
  case atStart => exact ⟨h, rfl, (by show _ ≤ _; omega), hh0, i4A, s4, B4A⟩
  case round =>
    obtain ⟨x, rfl, hx, gx, i5, s5, B5⟩ := hrel
    clear hh0 i4A s4 B4A
    by_cases x2 : x < 2
    · have x2i : ¬ (1 : Int) < (x : Int) := by omega
      have xA : Aside (x < 2) := x2
      clear x2
      go_wp2_with fail
      go_ret
      exact ⟨x, rfl, gx.out, .inl xA.out, B5.out⟩
    · have x2i : (1 : Int) < (x : Int) := by omega
      have hm := gx.out.node.resolve_left x2
      have hl : M.lev x < M.n := by rw [Mdl.lev_in okA.out hm]; exact okA.out.lv x hm
      have K1 := lv_any s5.out (.inr hm : M.isNode x)
      have l8 : M.lev x < 8 := by have := n8A.out; omega
      have l8i : (M.lev x : Int) < 8 := by omega
      have c0 := i5.out.store
      have c1 := i5.out.lev l8
      have c2 := i5.out.lo l8
      have c3 := i5.out.hi l8
      have wt := wiA.out (M.lev x)
      have K0 : Aside (∀ u, St u S F0 M → Calls Tryz.prog 54 #[.pointer (some ⟨S, 0, none⟩), .int .u32 (x : Int)] u fun e w' => e = .returned (.int .u32 ((M.nd x).2.1 : Int)) ∧ w' = u) := fun u su => by
        have := s_low su x (by have := Mdl.isNode_lt su.ok (.inr hm : M.isNode x); omega)
        rwa [Mdl.lowN_in su.ok hm] at this
      have KH : Aside (∀ u, St u S F0 M → Calls Tryz.prog 55 #[.pointer (some ⟨S, 0, none⟩), .int .u32 (x : Int)] u fun e w' => e = .returned (.int .u32 ((M.nd x).2.2 : Int)) ∧ w' = u) := fun u su => by
        have := s_high su x (by have := Mdl.isNode_lt su.ok (.inr hm : M.isNode x); omega)
        rwa [Mdl.highN_in su.ok hm] at this
      have KV : Aside (∀ u, St u S F0 M → Calls Tryz.prog 42 #[.pointer (some ⟨S, 0, none⟩)] u fun e w' => e = .returned (.int .i64 (M.n : Int)) ∧ w' = u) := fun u su => s_vars su
      have nx : Aside (¬ (I (M.lev x)).1 < M.n → Goes M I h (nextI M I x)) := gx.out.next okA.out hm wt
      have nl : Aside (M.lev x < M.lev (nextI M I x)) := (next_ok okA.out hm).2
      have nd : Aside (nextI M I x = if (I (M.lev x)).2.1 = 1 then (M.nd x).2.2 else (M.nd x).2.1) := rfl
      generalize nextI M I x = y at nx nl nd
      have hlA : Aside (M.lev x < M.n) := hl
      obtain ⟨P, p1, p2⟩ : ∃ P : Prop, Aside (P → x < 2 ∨ x ∈ M.hs ∧ (I (M.lev x)).1 < M.n) ∧ Aside ((I (M.lev x)).1 < M.n → P) := ⟨_, id, fun q => .inr ⟨hm, q⟩⟩
      generalize hL : M.lev x = L at K1 l8 l8i c1 c2 c3 wt nx nl nd hlA p2
      have hLA : Aside (M.lev x = L) := hL
      obtain ⟨⟨l, a, c⟩, ht⟩ : ∃ t, I L = t := ⟨_, rfl⟩
      rw [ht] at c1 c2 c3 nx nd p2
      dsimp only at c1 c2 c3 nx nd p2
      clear ht wt hm hl l8 x2 hL
      go_upto_region 3 with (first
        | (go_at_call 53; refine K1.mono ?_; clear K1; rintro e w6 ⟨rfl, e6⟩; subst w6))
      have b6 := nb wr (.cells #[.int .i64 (l : Int), .int .u32 (a : Int), .int .u32 (c : Int)] 178)
      have n6 : IsN (wr.alloc (.cells #[.int .i64 (l : Int), .int .u32 (a : Int), .int .u32 (c : Int)] 178)) wr.heap.size (l, a, c) := IsN.new wr (l, a, c)
      have s6 := s5.out.below b6
      have i6 := i5.out.below b6
      have B6 := Rf.below_far B5.out b6
      generalize wr.alloc (.cells #[.int .i64 (l : Int), .int .u32 (a : Int), .int .u32 (c : Int)] 178) = w6 at b6 n6 s6 i6 B6 ⊢
      generalize wr.heap.size = q6 at n6 ⊢
      have KQ : ∀ q, Calls Tryz.prog 42 #[.pointer (some ⟨S, 0, none⟩)] (w6.drewN q) fun e w' => e = .returned (.int .i64 (M.n : Int)) ∧ w' = w6.drewN q := fun q => KV.out _ (s6.drewN q)
      have D0 : ∀ q, (w6.drewN q).cell? ⟨g, 0, none⟩ = some (.pointer (some ⟨S, 0, none⟩)) := fun q => i6.store
      have D1 : ∀ q, (w6.drewN q).cell? ⟨q6, 0, none⟩ = some (.int .i64 (l : Int)) := fun q => n6.cells.1
      have s6A : Aside (St w6 S F0 M) := s6
      have B6A : Aside (Below w.heap.size w w6) := B6
      have i6A : Aside (IsW w6 g S I) := i6
      have n6A : Aside (IsN w6 q6 (l, a, c)) := n6
      clear b6 n6 s6 i6 B6 c0 c1 c2 c3 i5 s5 B5 KV
      go_quiet ((go_at_call 42; exact Calls.quiet_of_same (KQ _)))
      have s7 : Aside (St (w6.drewN nq) S F0 M) := s6A.out.drewN nq
      have i7 : Aside (IsW (w6.drewN nq) g S I) := i6A.out
      have n7 : Aside (IsN (w6.drewN nq) q6 (l, a, c)) := n6A.out
      have B7 : Aside (Below w.heap.size w (w6.drewN nq)) := ⟨B6A.out.os, B6A.out.tape, B6A.out.output, B6A.out.size, B6A.out.block⟩
      clear s6A B6A i6A n6A KQ D0 D1
      generalize w6.drewN nq = w7 at s7 i7 n7 B7 ⊢
      have c0 := i7.out.store
      obtain ⟨m0, m1, m2⟩ := n7.out.cells
      have k0 := K0.out _ s7.out
      have k1 := KH.out _ s7.out
      clear K0 KH
      by_cases hln : l < M.n
      · have hli : (l : Int) < (M.n : Int) := by omega
        have fin : Aside (x < 2 ∨ x ∈ M.hs ∧ (I (M.lev x)).1 < M.n) := p1.out (p2.out hln)
        clear hln m1 m2 k0 k1 nx nl nd p1 p2
        go_wp2_with fail
        go_ret
        exact ⟨x, rfl, gx.out, fin.out, B7.out⟩
      · have hli : ¬ (l : Int) < (M.n : Int) := by omega
        have nxt := nx.out hln
        have nxA : Aside (Goes M I h y) := nxt
        clear hln nx p1 p2 nxt
        by_cases a1 : a = 1
        · subst a1
          have ey : Aside (y = (M.nd x).2.2) := by have := nd.out; rwa [if_pos rfl] at this
          clear nd k0
          generalize (M.nd x).2.2 = z at k1 ey
          go_wp2_with (first
            | (go_at_call 55; refine k1.mono ?_; clear k1; rintro e w8 ⟨rfl, e8⟩; subst w8))
          go_roundg (gk - 1)
          case measure => have := hx.out; omega
          case rel =>
            have h1 := hx.out
            have h2 := hLA.out
            have h3 := nl.out
            have h4 := hlA.out
            obtain rfl : y = z := ey.out
            exact ⟨y, rfl, (by show _ ≤ _; omega), nxA, i7, s7, B7⟩
        · have a1i : ¬ (a : Int) = 1 := by omega
          have ey : Aside (y = (M.nd x).2.1) := by have := nd.out; rwa [if_neg a1] at this
          clear nd k1 a1
          generalize (M.nd x).2.1 = z at k0 ey
          go_wp2_with (first
            | (go_at_call 54; refine k0.mono ?_; clear k0; rintro e w8 ⟨rfl, e8⟩; subst w8))
          go_roundg (gk - 1)
          case measure => have := hx.out; omega
          case rel =>
            have h1 := hx.out
            have h2 := hLA.out
            have h3 := nl.out
            have h4 := hlA.out
            obtain rfl : y = z := ey.out
            exact ⟨y, rfl, (by show _ ≤ _; omega), nxA, i7, s7, B7⟩
/-- What top tells. -/
structure IsTop (M : Mdl) (I : Nat → Nd) (j k T : Nat) : Prop where
  le : T ≤ M.n
  low : ∀ i, j ≤ i → i < k → T ≤ (I i).1
  most : ∀ K, K ≤ M.n → (∀ i, j ≤ i → i < k → K ≤ (I i).1) → K ≤ T
theorem IsTop.start (M : Mdl) (I : Nat → Nd) (j : Nat) : IsTop M I j j M.n := ⟨Nat.le_refl _, fun i a b => by omega, fun K h _ => h⟩
theorem IsTop.next {j k T : Nat} (t : IsTop M I j k T) (hj : j ≤ k) : IsTop M I j (k + 1) (min T (I k).1) := by
  refine ⟨Nat.le_trans (Nat.min_le_left _ _) t.le, fun i a b => ?_, fun K h q => Nat.le_min.2 ⟨t.most K h fun i a b => q i a (by omega), q k hj (by omega)⟩⟩
  by_cases e : i = k
  · rw [e]; exact Nat.min_le_right _ _
  · exact Nat.le_trans (Nat.min_le_left _ _) (t.low i a (by omega))
theorem run_minn (x y : Int) (w : World) : (Builtin.min_ #[3, 3] 3 #[.int .i64 x, .int .i64 y]).run Tryz.prog w = .ok (.int .i64 (min x y)) w := by
  have h1 := run_min2 x y
  unfold Builtin.min_
  go_simp
set_option maxRecDepth 100000 in
set_option maxHeartbeats 2000000 in
theorem ctop_any (s : St w S F0 M) (hm : h ∈ M.hs) : Calls Tryz.prog 129 #[.agg (wA S I), .int .u32 (h : Int)] w fun e w' => ∃ T : Nat, e = .returned (.int .i64 (T : Int)) ∧ IsTop M I (M.lev h) M.n T ∧ Below w.heap.size w w' := by
  have ok := s.ok
  have n8 := ok.le8
  have hl : M.lev h < M.n := by rw [Mdl.lev_in ok hm]; exact ok.lv h hm
  have KL : Aside (∀ u, St u S F0 M → Calls Tryz.prog 53 #[.pointer (some ⟨S, 0, none⟩), .int .u32 (h : Int)] u fun e w' => e = .returned (.int .i64 (M.lev h : Int)) ∧ w' = u) := fun u su => lv_any su (.inr hm)
  generalize M.lev h = L at hl KL
  clear hm ok
  go_enter Tryz.func129, Tryz.ntmps129
  go_upto_region 1 with fail
  have i4 := IsW.new w S I
  have B4 := nb w (.cells (wA S I) 181)
  generalize w.alloc (.cells (wA S I) 181) = w4 at i4 B4 ⊢
  have s4 := s.below B4
  have i4A : Aside (IsW w4 w.heap.size S I) := i4
  have B4A : Aside (Below w.heap.size w w4) := B4
  obtain ⟨g, hg⟩ : ∃ g, w.heap.size = g := ⟨_, rfl⟩
  rw [hg] at i4A ⊢
  have c0 := i4A.out.store
  have K1 := s_vars s4
  have KV : ∀ q, Calls Tryz.prog 42 #[.pointer (some ⟨S, 0, none⟩)] (w4.drewN q) fun e w' => e = .returned (.int .i64 (M.n : Int)) ∧ w' = w4.drewN q := fun q => s_vars (s4.drewN q)
  have KQ : ∀ q, Calls Tryz.prog 53 #[.pointer (some ⟨S, 0, none⟩), .int .u32 (h : Int)] (w4.drewN q) fun e w' => e = .returned (.int .i64 (L : Int)) ∧ w' = w4.drewN q := fun q => KL.out _ (s4.drewN q)
  have D0 : ∀ q, (w4.drewN q).cell? ⟨g, 0, none⟩ = some (.pointer (some ⟨S, 0, none⟩)) := fun q => i4A.out.store
  have s4A : Aside (St w4 S F0 M) := s4
  clear s i4 B4 hg KL s4
  have e1 : (L : Int) ≤ (M.n : Int) := by omega
  have e2 : (M.n : Int) ≤ 8 := by omega
  have e3 : ¬ 8 = L := by omega
  go_upto_region 2 with (first
    | (go_at_call 42; refine K1.mono ?_; clear K1; rintro e w6 ⟨rfl, e6⟩; subst w6))
  go_quiet (first
    | (go_at_call 42; exact Calls.quiet_of_same (KV _))
    | (go_at_call 53; exact Calls.quiet_of_same (KQ _)))
  have s5 : Aside (IsW (w4.drewN nq) g S I) := i4A.out
  have B5 : Aside (Below w.heap.size w (w4.drewN nq)) := ⟨B4A.out.os, B4A.out.tape, B4A.out.output, B4A.out.size, B4A.out.block⟩
  have T0 : Aside (IsTop M I L (L + 0) M.n) := IsTop.start M I L
  have hlA : Aside (L < M.n ∧ M.n ≤ 8) := ⟨hl, n8⟩
  clear KV KQ D0 c0 s4A i4A B4A e1 e2 e3 hl n8
  generalize w4.drewN nq = w5 at s5 B5 ⊢
  go_upto_region 3 with fail
  go_loopg [21, 5, 7] (M.n - L) (fun gn si sl _s7 wr => ∃ j T : Nat, j + gn = M.n - L ∧ si = .int .i64 (j : Int) ∧ sl = .int .i64 (T : Int) ∧ Aside (IsTop M I L (L + j) T) ∧ Aside (IsW wr g S I) ∧ Aside (Below w.heap.size w wr))
  case atStart => exact ⟨0, M.n, by omega, rfl, rfl, T0, s5, B5⟩
  case round =>
    obtain ⟨j, T, hj, rfl, rfl, tj, i6, B6⟩ := hrel
    have hJ : Aside (j + gk = M.n - L) := hj
    clear hj s5 B5 T0
    by_cases hjn : j < M.n - L
    · have hji : (j : Int) < ((M.n - L : Nat) : Int) := by omega
      have lj : L + j < 8 := by have := hlA.out; omega
      have c1 := i6.out.lev lj
      have c2 := i6.out.lo lj
      have c3 := i6.out.hi lj
      rw [show 1 + (L + j) * 3 = 1 + L * 3 + j * 3 by omega] at c1 c2 c3
      have tn : Aside (IsTop M I L (L + (j + 1)) (min T (I (L + j)).1)) := tj.out.next (by omega)
      obtain ⟨⟨l, a, c⟩, ht⟩ : ∃ t, I (L + j) = t := ⟨_, rfl⟩
      rw [ht] at c1 c2 c3 tn
      dsimp only at c1 c2 c3 tn
      obtain ⟨m, hmin⟩ : ∃ m, min T l = m := ⟨_, rfl⟩
      rw [hmin] at tn
      have hm : ∀ u, (Builtin.min_ #[3, 3] 3 #[.int .i64 (T : Int), .int .i64 (l : Int)]).run Tryz.prog u = .ok (.int .i64 (m : Int)) u := fun u => by
        rw [run_minn, ← hmin]
        congr 2
        omega
      have b7 := nb wr (.cells #[.int .i64 (l : Int), .int .u32 (a : Int), .int .u32 (c : Int)] 178)
      have i7 : Aside (IsW (wr.alloc (.cells #[.int .i64 (l : Int), .int .u32 (a : Int), .int .u32 (c : Int)] 178)) g S I) := i6.out.below b7
      have B7 : Aside (Below w.heap.size w (wr.alloc (.cells #[.int .i64 (l : Int), .int .u32 (a : Int), .int .u32 (c : Int)] 178))) := Rf.below_far B6.out b7
      have jA : Aside (j < M.n - L) := hjn
      have j8 : (j : Int) < 8 := by omega
      clear ht hmin lj hjn b7 i6 B6 tj
      go_wp2_with fail
      go_roundg (gk - 1)
      case measure => have := hJ.out; have := jA.out; omega
      case rel =>
        have := hJ.out
        have := jA.out
        exact ⟨j + 1, m, by omega, rfl, rfl, tn, i7, B7⟩
    · have ej : j = M.n - L := by have := hJ.out; omega
      have hji : ¬ (j : Int) < ((M.n - L : Nat) : Int) := by omega
      have tn : Aside (IsTop M I L M.n T) := by
        have := tj.out
        have q := hlA.out
        rwa [show L + j = M.n by omega] at this
      clear ej hjn tj i6
      go_wp2_with fail
      go_ret
      exact ⟨T, rfl, tn.out, B6.out⟩
end
end Go.Proofs.YtdjjelknjojnfaaGreat

namespace Go.Proofs.YtdjjelknjojnfaaGreat
open Go Go.RowKit
open Rf (fixAt fixF)

section
variable {w : World} {S h k : Nat} {F0 : Nat → Prop} {M : Mdl} {I : Nat → Nd}
set_option maxRecDepth 100000 in
set_option maxHeartbeats 2000000 in
theorem canswer_step (s : St w S F0 M) (wi : ∀ i, WI M (I i)) (hh : M.isNode h) (hk : k ≤ M.n) (hi : ∀ i, M.lev h ≤ i → i < M.n → k ≤ (I i).1)
    (ih : ∀ {w : World} {F0 : Nat → Prop} {M' : Mdl} {L h : Nat} {I' : Nat → Nd}, M'.n = M.n → k ≤ L → L < M.n → St w S F0 M' → (∀ i, WI M' (I' i)) → M'.isNode h → (∀ i, M'.lev h ≤ i → i < M'.n → L + 1 ≤ (I' i).1) → Calls Tryz.prog 110 #[.agg (wA S I'), .int .u32 (h : Int)] w (Left S F0 w M' (L + 1) (subF M' I' h))) :
    Calls Tryz.prog 110 #[.agg (wA S I), .int .u32 (h : Int)] w (Left S F0 w M k (subF M I h)) := by
  have o := s.ok
  obtain ⟨A, hA⟩ : ∃ A, wA S I = A := ⟨_, rfl⟩
  have sz : Aside (A.size = 25) := by rw [← hA]; exact wA_size
  have hA0 : Aside (∀ u : World, u.heap[w.heap.size]? = some (.cells A 181 (0, 0)) → u.cell? ⟨w.heap.size, 0, none⟩ = some (.pointer (some ⟨S, 0, none⟩))) := fun u hu => IsW.store (w := u) (g := w.heap.size) (S := S) (I := I) (by unfold IsW; rw [hA]; exact hu)
  have KF : Aside (∀ u, St u S F0 M → Calls Tryz.prog 128 #[.agg A, .int .u32 (h : Int)] u fun e w' => ∃ x : Nat, e = .returned (.int .u32 (x : Int)) ∧ Goes M I h x ∧ (x < 2 ∨ x ∈ M.hs ∧ (I (M.lev x)).1 < M.n) ∧ Below u.heap.size u w') := fun u su => by rw [← hA]; exact follow_any su wi hh
  have KT : Aside (∀ u x, x ∈ M.hs → St u S F0 M → Calls Tryz.prog 129 #[.agg A, .int .u32 (x : Int)] u fun e w' => ∃ T : Nat, e = .returned (.int .i64 (T : Int)) ∧ IsTop M I (M.lev x) M.n T ∧ Below u.heap.size u w') := fun u x hx su => by rw [← hA]; exact ctop_any su hx
  have KH0 : Aside (∀ u (L : Nat), St u S F0 M → Calls Tryz.prog 130 #[.agg A, .int .i64 (L : Int), .func (.func 131) #[.agg A] #[]] u fun e w' => e = .returned (.agg (wA S (halfI M L false I))) ∧ Below u.heap.size u w') := fun u L su => by rw [← hA]; exact chalf_any su wi L false I
  have KH1 : Aside (∀ u (L : Nat) {F' : Nat → Prop} {M' : Mdl}, Mdl.Grew M M' → St u S F' M' → Calls Tryz.prog 130 #[.agg A, .int .i64 (L : Int), .func (.func 132) #[.agg A] #[]] u fun e w' => e = .returned (.agg (wA S (halfI M L true I))) ∧ Below u.heap.size u w') := fun u L F' M' g su => by
    have := chalf_any su (fun i => (wi i).grew g) L true I
    rw [half_grew g o su.ok wi] at this
    rw [← hA]
    exact this
  have i0 : ∀ u : World, (u.alloc (.cells A 181)).heap[u.heap.size]? = some (.cells A 181 (0, 0)) := fun u => Go.Deep.blk_alloc_new _ _
  rw [hA]
  clear hA
  obtain ⟨X, hX'⟩ : ∃ X, subF M I h = X := ⟨_, rfl⟩
  have hX : Aside (subF M I h = X) := hX'
  rw [hX']
  clear hX'
  have wiA : Aside (∀ i, WI M (I i)) := wi
  have hiA : Aside (∀ i, M.lev h ≤ i → i < M.n → k ≤ (I i).1) := hi
  have hkA : Aside (k ≤ M.n) := hk
  have oA : Aside M.Ok := o
  clear wi hi hk o
  go_enter Tryz.func110, Tryz.ntmps110
  go_upto_region 1 with fail
  have i4 := i0 w
  have B4 := nb w (.cells A 181)
  have s4 := s.below B4
  generalize w.alloc (.cells A 181) = w4 at i4 B4 s4 ⊢
  obtain ⟨g, hg⟩ : ∃ g, w.heap.size = g := ⟨_, rfl⟩
  have B4A : Aside (Below w.heap.size w w4) := B4
  have i4A : Aside (w4.heap[w.heap.size]? = some (.cells A 181 (0, 0))) := i4
  rw [hg] at i4A hA0 ⊢
  have K1 := KF.out _ s4
  clear hg B4 s i0 i4 KF
  go_upto_region 2 with (first
    | refine wpList_load_row rfl 181 (.tmp 2) rfl g rfl 181 A (0, 0) _ i4A.out Tryz.underlying181 rfl (by rw [sz.out]; kernel_rfl) ?_
    | (go_at_call 128; refine K1.mono ?_; clear K1; rintro e w5 ⟨x, rfl, gx, cx, b5⟩))
  have s5 := s4.below b5
  have i5 : Aside (w5.heap[g]? = some (.cells A 181 (0, 0))) := (b5.block _ (Array.getElem?_eq_some_iff.1 i4A.out).1).trans i4A.out
  have B5 : Aside (Below w.heap.size w w5) := Rf.below_far B4A.out b5
  clear b5 i4A B4A s4
  by_cases x2 : x < 2
  · have x2i : (x : Int) ≤ 1 := by omega
    have t : Aside (Got M k X x M) := Got.here oA.out (.inl x2) (by rw [Mdl.lev_const x2]; exact hkA.out) (fun y _ => by rw [← hX.out, ← gx.same, sub_const x2])
    clear x2 cx gx KT KH0 KH1
    go_wp2_with fail
    go_ret2
    exact ⟨x, 0, M, F0, rfl, .inl ⟨rfl, t.out⟩, s5, Wf.of_below B5.out F0⟩
  · have x2i : ¬ (x : Int) ≤ 1 := by omega
    obtain ⟨hm, hlt⟩ := cx.resolve_left x2
    have o := oA.out
    have wi := wiA.out
    have hxn : M.isNode x := .inr hm
    have K2 := KT.out _ x hm s5
    have hll : M.lev x < M.n := by rw [Mdl.lev_in o hm]; exact o.lv x hm
    have gxA : Aside (Goes M I h x) := gx
    have hltA : Aside ((I (M.lev x)).1 < M.n ∧ M.lev x < M.n) := ⟨hlt, hll⟩
    clear x2 cx gx KT hlt hll
    go_upto_region 5 with (first
      | refine wpList_load_row rfl 181 (.tmp 2) rfl g rfl 181 A (0, 0) _ i5.out Tryz.underlying181 rfl (by rw [sz.out]; kernel_rfl) ?_
      | (go_at_call 129; refine K2.mono ?_; clear K2; rintro e w6 ⟨L, rfl, tL, b6⟩))
    have s6 := s5.below b6
    have i6 : Aside (w6.heap[g]? = some (.cells A 181 (0, 0))) := (b6.block _ (Array.getElem?_eq_some_iff.1 i5.out).1).trans i5.out
    have B6 : Aside (Below w.heap.size w w6) := Rf.below_far B5.out b6
    have hLn : L < M.n := Nat.lt_of_le_of_lt (tL.low _ (Nat.le_refl _) hltA.out.2) hltA.out.1
    have hkL : k ≤ L := tL.most k hkA.out fun i a b => hiA.out i (Nat.le_trans gxA.out.deep a) b
    have low := tL.low
    have dep : Aside (Dep M L X) := by
      show Dep _ _ _
      rw [← hX.out, ← gxA.out.same]
      exact sub_dep o hxn wi low
    have G0 : Aside (Eqt (subF M (halfI M L false I) x) (fixF X (M.v L) false)) := by
      show Eqt _ _
      rw [← hX.out, ← gxA.out.same]
      exact sub_half o hxn wi hLn low false
    have G1 : Aside (Eqt (subF M (halfI M L true I) x) (fixF X (M.v L) true)) := by
      show Eqt _ _
      rw [← hX.out, ← gxA.out.same]
      exact sub_half o hxn wi hLn low true
    have W0 := half_wi o wi L false
    have W1 := half_wi o wi L true
    have D0 : ∀ i, M.lev x ≤ i → i < M.n → L + 1 ≤ (halfI M L false I i).1 := fun i a b => half_deep (wi i) hLn (low i a b)
    have D1 : ∀ i, M.lev x ≤ i → i < M.n → L + 1 ≤ (halfI M L true I i).1 := fun i a b => half_deep (wi i) hLn (low i a b)
    have Kh0 := KH0.out w6 L s6
    have Kh1 : Aside (∀ u {F' : Nat → Prop} {M' : Mdl}, Mdl.Grew M M' → St u S F' M' → Calls Tryz.prog 130 #[.agg A, .int .i64 (L : Int), .func (.func 132) #[.agg A] #[]] u fun e w' => e = .returned (.agg (wA S (halfI M L true I))) ∧ Below u.heap.size u w') := fun u F' M' gr su => KH1.out u L gr su
    have ih0 : Aside (∀ u, St u S F0 M → Calls Tryz.prog 110 #[.agg (wA S (halfI M L false I)), .int .u32 (x : Int)] u (Left S F0 u M (L + 1) (subF M (halfI M L false I) x))) := fun u su => ih rfl hkL hLn su W0 hxn D0
    have ih1 : Aside (∀ u {F' : Nat → Prop} {M' : Mdl}, Mdl.Grew M M' → St u S F' M' → Calls Tryz.prog 110 #[.agg (wA S (halfI M L true I)), .int .u32 (x : Int)] u (Left S F' u M' (L + 1) (subF M (halfI M L true I) x))) := fun u F' M' gr su => by
      have := ih gr.n hkL hLn su (fun i => (W1 i).grew gr) (gr.isNode hxn) (fun i a b => D1 i (by rw [gr.lev hxn] at a; exact a) (by rw [gr.n] at b; exact b))
      rwa [sub_grew gr o hxn W1] at this
    have d0 : Aside (Dep M 0 (subF M (halfI M L false I) x)) := sub_dep o hxn W0 fun _ _ _ => Nat.zero_le _
    have d1 : Aside (Dep M 0 (subF M (halfI M L true I) x)) := sub_dep o hxn W1 fun _ _ _ => Nat.zero_le _
    generalize wA S (halfI M L false I) = A0 at Kh0 ih0
    generalize wA S (halfI M L true I) = A1 at Kh1 ih1
    generalize subF M (halfI M L false I) x = X0 at ih0 G0 d0
    generalize subF M (halfI M L true I) x = X1 at ih1 G1 d1
    have hLA : Aside (L < M.n ∧ k ≤ L) := ⟨hLn, hkL⟩
    clear s5 i5 B5 b6 tL low W0 W1 D0 D1 wi wiA hiA hkA gxA hltA hm hxn KH0 KH1 hLn hkL o ih
    go_upto_region 6 with (first
      | refine wpList_load_row rfl 181 (.tmp 2) rfl g rfl 181 A (0, 0) _ i6.out Tryz.underlying181 rfl (by rw [sz.out]; kernel_rfl) ?_
      | (go_at_call 130; refine Kh0.mono ?_; clear Kh0; rintro e w7 ⟨rfl, b7⟩; have s7 := s6.below b7; have Kw := ih0.out _ s7)
      | (go_at_call 110; refine Kw.mono ?_; clear Kw; rintro e w8 ⟨p, er, M8, F8, rfl, t8, s8, b8⟩))
    have o := oA.out
    have i8 : Aside (w8.heap[g]? = some (.cells A 181 (0, 0))) := by
      have i7 : w7.heap[g]? = some (.cells A 181 (0, 0)) := (b7.block _ (Array.getElem?_eq_some_iff.1 i6.out).1).trans i6.out
      exact (b8.block _ (Array.getElem?_eq_some_iff.1 i7).1 (s7.row i7 (by decide))).trans i7
    have B8 : Aside (Wf F0 F8 w w8) := (Wf.of_below (Rf.below_far B6.out b7) F0).trans b8
    clear s6 i6 B6 b7 s7 b8 ih0
    rcases t8 with ⟨rfl, g8⟩ | ⟨rfl, rfl, g8⟩
    rotate_left
    · have t : Aside (Stuck M k X M8) := (Stuck.low o hLA.out.1 dep.out (g8.like o d0.out G0.out)).raise hLA.out.2
      clear g8
      go_wp2_with fail
      go_ret2
      exact ⟨0, 60, M8, F8, rfl, .inr ⟨rfl, rfl, t.out⟩, s8, B8.out⟩
    · have g8' : Aside (Got M (L + 1) (fixF X (M.v L) false) p M8) := g8.like o d0.out G0.out
      have o8 := s8.ok
      have Ky := Kh1.out w8 g8.grew s8
      have Kz : Aside (∀ u, St u S F8 M8 → Calls Tryz.prog 110 #[.agg A1, .int .u32 (x : Int)] u (Left S F8 u M8 (L + 1) X1)) := fun u su => ih1.out u g8.grew su
      have d8 : Aside (Dep M8 0 X1) := d1.out.grew g8.grew
      clear g8 Kh1 ih1
      go_upto_region 9 with (first
        | refine wpList_load_row rfl 181 (.tmp 2) rfl g rfl 181 A (0, 0) _ i8.out Tryz.underlying181 rfl (by rw [sz.out]; kernel_rfl) ?_
        | (go_at_call 130; refine Ky.mono ?_; clear Ky; rintro e w9 ⟨rfl, b9⟩; have s9 := s8.below b9; have Kw := Kz.out _ s9)
        | (go_at_call 110; refine Kw.mono ?_; clear Kw; rintro e w10 ⟨q, er, M10, F10, rfl, t10, s10, b10⟩))
      have c10 : Aside (w10.cell? ⟨g, 0, none⟩ = some (.pointer (some ⟨S, 0, none⟩))) := by
        have i9 : w9.heap[g]? = some (.cells A 181 (0, 0)) := (b9.block _ (Array.getElem?_eq_some_iff.1 i8.out).1).trans i8.out
        exact hA0.out _ ((b10.block _ (Array.getElem?_eq_some_iff.1 i9).1 (s9.row i9 (by decide))).trans i9)
      have B10 : Aside (Wf F0 F10 w w10) := (B8.out.trans (Wf.of_below b9 F8)).trans b10
      clear s8 i8 B8 s9 b9 b10 Kz hA0
      rcases t10 with ⟨rfl, g10⟩ | ⟨rfl, rfl, g10⟩
      rotate_left
      · have t : Aside (Stuck M k X M10) := (Stuck.high o hLA.out.1 dep.out g8'.out (g10.like o8 d8.out G1.out)).raise hLA.out.2
        clear g10
        go_wp2_with fail
        go_ret2
        exact ⟨0, 60, M10, F10, rfl, .inr ⟨rfl, rfl, t.out⟩, s10, B10.out⟩
      · have g10' : Aside (Got M8 (L + 1) (fixF X (M.v L) true) q M10) := g10.like o8 d8.out G1.out
        have o10 := s10.ok
        have hLn := hLA.out.1
        have hkL := hLA.out.2
        have lb : Aside (L < M10.lev p) := by
          show L < M10.lev p
          rw [g10.grew.lev g8'.out.node]
          exact g8'.out.lev
        clear g10
        have c0 := c10.out
        by_cases hpq : p = q
        · subst hpq
          have t : Aside (Got M k X p M10) := (Got.same o o8 hLn dep.out g8'.out g10'.out).raise hkL
          have Km := s_mk_same s10 L p lb.out g10'.out.node
          clear hLn hkL
          go_wp2_with (first
            | (go_at_call 78; refine Km.mono ?_; clear Km; rintro e w11 ⟨rfl, e11⟩; subst w11))
          go_ret2
          exact ⟨p, 0, M10, F10, rfl, .inl ⟨rfl, t.out⟩, s10, B10.out⟩
        · have fit := Got.fits hLn g8'.out g10'.out hpq
          by_cases hth : ∃ y ∈ M10.hs, M10.nd y = (L, p, q)
          · obtain ⟨y, ym, ye⟩ := hth
            have t : Aside (Got M k X y M10) := (Got.join o o8 o10 hLn dep.out g8'.out g10'.out hpq o10 (.inl ⟨ym, ye, rfl⟩)).raise hkL
            have Km := s_mk_there s10 L p q fit y ym ye
            clear ye hpq fit hLn hkL
            go_wp2_with (first
              | (go_at_call 78; refine Km.mono ?_; clear Km; rintro e w11 ⟨rfl, F11, s11, b11⟩))
            go_ret2
            exact ⟨y, 0, M10, F11, rfl, .inl ⟨rfl, t.out⟩, s11, B10.out.trans b11⟩
          · have no : ∀ y ∈ M10.hs, M10.nd y ≠ (L, p, q) := fun y ym ye => hth ⟨y, ym, ye⟩
            clear hth
            by_cases full : M10.hs.length = M10.room
            · have t : Aside (Stuck M k X M10) := (Stuck.join o o8 o10 hLn dep.out g8'.out g10'.out hpq no full).raise hkL
              have Km := s_mk_full s10 L p q fit no full
              clear hpq fit no full hLn hkL
              go_wp2_with (first
                | (go_at_call 78; refine Km.mono ?_; clear Km; rintro e w11 ⟨rfl, F11, s11, b11⟩))
              go_ret2
              exact ⟨0, 60, M10, F11, rfl, .inr ⟨rfl, rfl, t.out⟩, s11, B10.out.trans b11⟩
            · have lt : M10.hs.length < M10.room := by have := o10.len; omega
              have t : Aside (∀ {y : Nat} {M11 : Mdl}, M11.Ok → M10.Adds y (L, p, q) M11 → Got M k X y M11) := fun {y M11} o11 ad => (Got.join o o8 o10 hLn dep.out g8'.out g10'.out hpq o11 (.inr ad)).raise hkL
              have Km := s_mk_new s10 L p q fit no lt
              clear hpq fit no full lt hLn hkL
              go_wp2_with (first
                | (go_at_call 78; refine Km.mono ?_; clear Km; rintro e w11 ⟨y, rfl, F11, M11, ad11, s11, b11, y11⟩; have adA : Aside (M10.Adds y (L, p, q) M11) := ad11; clear ad11 y11))
              go_ret2
              exact ⟨y, 0, M11, F11, rfl, .inl ⟨rfl, t.out s11.ok adA.out⟩, s11, B10.out.trans b11⟩
theorem canswer_any (d : Nat) : ∀ {w : World} {F0 : Nat → Prop} {M : Mdl} {k h : Nat} {I : Nat → Nd}, M.n - k ≤ d → St w S F0 M → (∀ i, WI M (I i)) → M.isNode h → k ≤ M.n → (∀ i, M.lev h ≤ i → i < M.n → k ≤ (I i).1) →
    Calls Tryz.prog 110 #[.agg (wA S I), .int .u32 (h : Int)] w (Left S F0 w M k (subF M I h)) := by
  induction d with
  | zero =>
    intro w F0 M k h I hd s wi hh hk hi
    exact canswer_step s wi hh hk hi fun {w' F' M' L h' I'} hn h1 h2 => by omega
  | succ d ih =>
    intro w F0 M k h I hd s wi hh hk hi
    exact canswer_step s wi hh hk hi fun {w' F' M' L h' I'} hn h1 h2 s' wi' hh' hi' => ih (by omega) s' wi' hh' (by omega) hi'
end
end Go.Proofs.YtdjjelknjojnfaaGreat

namespace Go.Proofs.YtdjjelknjojnfaaGreat
open Go Go.RowKit
open Rf (fixAt fixF)

theorem zero_walk (S : Nat) : wA S (fun _ => (0, 0, 0)) = #[.pointer (some ⟨S, 0, none⟩), .int .i64 0, .int .u32 0, .int .u32 0, .int .i64 0, .int .u32 0, .int .u32 0, .int .i64 0, .int .u32 0, .int .u32 0, .int .i64 0, .int .u32 0, .int .u32 0, .int .i64 0, .int .u32 0, .int .u32 0, .int .i64 0, .int .u32 0, .int .u32 0, .int .i64 0, .int .u32 0, .int .u32 0, .int .i64 0, .int .u32 0, .int .u32 0] := by
  unfold wA
  simp [List.range_succ, wcell]
theorem zero_one (S : Nat) : (#[.pointer (some ⟨S, 0, none⟩), .int .i64 0, .int .u32 0, .int .u32 0, .int .i64 0, .int .u32 0, .int .u32 0, .int .i64 0, .int .u32 0, .int .u32 0, .int .i64 0, .int .u32 0, .int .u32 0, .int .i64 0, .int .u32 0, .int .u32 0, .int .i64 0, .int .u32 0, .int .u32 0, .int .i64 0, .int .u32 0, .int .u32 0, .int .i64 0, .int .u32 0, .int .u32 0] : Array Value).all (·.oneCell') = true := by
  rw [← zero_walk S]
  exact wA_one
theorem info_walk : (Tryz.prog.info? 181).map (·.size) = some 25 := by kernel_rfl
theorem zero_new (w : World) (S : Nat) : IsW ((w.alloc (.cells #[.pointer none, .int .i64 0, .int .u32 0, .int .u32 0, .int .i64 0, .int .u32 0, .int .u32 0, .int .i64 0, .int .u32 0, .int .u32 0, .int .i64 0, .int .u32 0, .int .u32 0, .int .i64 0, .int .u32 0, .int .u32 0, .int .i64 0, .int .u32 0, .int .u32 0, .int .i64 0, .int .u32 0, .int .u32 0, .int .i64 0, .int .u32 0, .int .u32 0] 181)).setRow w.heap.size #[.pointer (some ⟨S, 0, none⟩), .int .i64 0, .int .u32 0, .int .u32 0, .int .i64 0, .int .u32 0, .int .u32 0, .int .i64 0, .int .u32 0, .int .u32 0, .int .i64 0, .int .u32 0, .int .u32 0, .int .i64 0, .int .u32 0, .int .u32 0, .int .i64 0, .int .u32 0, .int .u32 0, .int .i64 0, .int .u32 0, .int .u32 0, .int .i64 0, .int .u32 0, .int .u32 0]) w.heap.size S (fun _ => (0, 0, 0)) ∧ Below w.heap.size w ((w.alloc (.cells #[.pointer none, .int .i64 0, .int .u32 0, .int .u32 0, .int .i64 0, .int .u32 0, .int .u32 0, .int .i64 0, .int .u32 0, .int .u32 0, .int .i64 0, .int .u32 0, .int .u32 0, .int .i64 0, .int .u32 0, .int .u32 0, .int .i64 0, .int .u32 0, .int .u32 0, .int .i64 0, .int .u32 0, .int .u32 0, .int .i64 0, .int .u32 0, .int .u32 0] 181)).setRow w.heap.size #[.pointer (some ⟨S, 0, none⟩), .int .i64 0, .int .u32 0, .int .u32 0, .int .i64 0, .int .u32 0, .int .u32 0, .int .i64 0, .int .u32 0, .int .u32 0, .int .i64 0, .int .u32 0, .int .u32 0, .int .i64 0, .int .u32 0, .int .u32 0, .int .i64 0, .int .u32 0, .int .u32 0, .int .i64 0, .int .u32 0, .int .u32 0, .int .i64 0, .int .u32 0, .int .u32 0]) := by
  rw [← zero_walk S]
  refine ⟨setRow_heap _ _ _ _ 181 _ (heap_alloc_new w _), ?_⟩
  exact ((Below.refl _ w).alloc (Nat.le_refl _) _).trans ⟨rfl, rfl, rfl, by simp [World.setRow], fun k hk => setRow_other _ _ k _ (by omega)⟩
section
variable {w : World} {S f g k : Nat} {F0 : Nat → Prop} {M : Mdl} {I : Nat → Nd}
/-- The first so many variables, each itself. -/
def fstI (j : Nat) : Nat → Nd := fun i => if i < j then varI i else (0, 0, 0)
theorem first_put (j : Nat) : putI (fstI j) j (varI j) = fstI (j + 1) := funext fun i => by
  unfold putI fstI
  by_cases c : i = j
  · rw [if_pos c, if_pos (by omega), c]
  · rw [if_neg c]
    by_cases d : i < j
    · rw [if_pos d, if_pos (by omega)]
    · rw [if_neg d, if_neg (by omega)]
theorem variable_any (l : Nat) (w : World) : Calls Tryz.prog 109 #[.int .i64 (l : Int)] w fun e w' => e = .returned (.agg #[.int .i64 (l : Int), .int .u32 0, .int .u32 1]) ∧ Below w.heap.size w w' := by
  go_enter Tryz.func109, Tryz.ntmps109
  go_wp2_with fail
  refine bodyPost_ret (results_in (t := varI l) rfl rfl (IsN.new w (varI l))) rfl ⟨rfl, nb w _⟩
end
end Go.Proofs.YtdjjelknjojnfaaGreat

namespace Go.Proofs.YtdjjelknjojnfaaGreat
open Go Go.RowKit
open Rf (fixAt fixF IntsAt)

section
variable {w : World} {S f g k : Nat} {F0 : Nat → Prop} {M : Mdl} {I : Nat → Nd}
/-- The inputs of the first so many variables. -/
def flI (M : Mdl) (T : Nat → Nd) (k : Nat) : Nat → Nd := fun i => if i < M.n ∧ M.v i < k then T (M.v i) else (0, 0, 0)
theorem fl_put (o : M.Ok) (T : Nat → Nd) {l : Nat → Nat} (inv : ∀ i, i < M.n → l (M.v i) = i) (hk : k < M.n) : putI (flI M T k) (l k) (T k) = flI M T (k + 1) := funext fun i => by
  obtain ⟨h1, h2⟩ := lev_inv o inv hk
  unfold putI flI
  by_cases c : i = l k
  · rw [if_pos c, c, h2, if_pos ⟨h1, by omega⟩]
  · rw [if_neg c]
    by_cases d : i < M.n ∧ M.v i < k
    · rw [if_pos d, if_pos ⟨d.1, by omega⟩]
    · rw [if_neg d, if_neg]
      rintro ⟨d1, d2⟩
      have : M.v i = k := by
        have : ¬ M.v i < k := fun q => d ⟨d1, q⟩
        omega
      exact c (by rw [← this, inv i d1])
theorem fl_wi (o : M.Ok) {T : Nat → Nd} (h : ∀ u, u < M.n → WI M (T u)) (i : Nat) : WI M (flI M T M.n i) := by
  unfold flI
  split
  · next c => exact h _ c.2
  · exact zero_wi o
theorem fl_sub (o : M.Ok) (hf : M.isNode f) {T : Nat → Nd} {G : Nat → Nat → Bool} (e : ∀ u, u < M.n → Eqt (inF M (T u)) (G u)) : Eqt (subF M (flI M T M.n) f) (sbF M.n G (M.tbl f)) :=
  sub_all o hf fun i hi => by
    unfold flI
    rw [if_pos ⟨hi, o.vlt i hi⟩]
    exact e _ (o.vlt i hi)
/-- The answer with all inputs laid. -/
theorem fl_answer (hf : M.isNode f) {T : Nat → Nd} {G : Nat → Nat → Bool} (h : ∀ u, u < M.n → WI M (T u)) (e : ∀ u, u < M.n → Eqt (inF M (T u)) (G u)) (s : St w S F0 M) :
    Calls Tryz.prog 110 #[.agg (wA S (flI M T M.n)), .int .u32 (f : Int)] w (Left S F0 w M 0 (sbF M.n G (M.tbl f))) := by
  have o := s.ok
  refine (canswer_any (S := S) M.n (Nat.le_refl _) s (fl_wi o h) hf (Nat.zero_le _) (fun _ _ _ => Nat.zero_le _)).mono fun e' w' q => ?_
  obtain ⟨x, er, M', F', h1, h2, h3, h4⟩ := q
  exact ⟨x, er, M', F', h1, h2.like o (sub_dep o hf (fl_wi o h) fun _ _ _ => Nat.zero_le _) (fl_sub o hf e), h3, h4⟩
theorem Od_kept {w' : World} {P n : Nat} {v l : Nat → Nat} (h : Od.IsOrd w P n v l) (k : Below w.heap.size w w') : Od.IsOrd w' P n v l := h.of_block (k.block P h.lt)
/-- What Rename comes to: a number that is no variable, or the answer. -/
def RenL (S : Nat) (F0 : Nat → Prop) (w : World) (M : Mdl) (f : Nat) (Z : Nat → Int) (e : Ending) (w' : World) : Prop :=
  ((∃ u, u < M.n ∧ (Z u < 0 ∨ (M.n : Int) ≤ Z u)) ∧ e = .returned (.tuple #[.int .u32 0, .int .i64 40]) ∧ Below w.heap.size w w') ∨ ((∀ u, u < M.n → 0 ≤ Z u ∧ Z u < M.n) ∧ Left S F0 w M 0 (sbF M.n (fun u => Rf.M (Z u).toNat) (M.tbl f)) e w')
set_option maxRecDepth 100000 in
set_option maxHeartbeats 2000000 in
theorem rename_any (s : St w S F0 M) (hf : M.isNode f) {ad : Option Addr} {cap : Nat} {Z : Nat → Int} (hZ : IntsAt w ad M.n Z) :
    Calls Tryz.prog 97 #[.pointer (some ⟨S, 0, none⟩), .int .u32 (f : Int), .slice ad M.n cap] w (RenL S F0 w M f Z) := by
  have o := s.ok
  have n8 := o.le8
  have np := o.pos
  obtain ⟨b, off, rfl, hb⟩ := hZ.some (by omega)
  have Kf := s_is s f (by have := Mdl.isNode_lt o hf; omega)
  rw [Mdl.nodeB_true hf] at Kf
  have K1 := s_order' s
  have KV := s_vars s
  have KA : Aside (∀ u {T : Nat → Nd} {G : Nat → Nat → Bool}, (∀ u, u < M.n → WI M (T u)) → (∀ u, u < M.n → Eqt (inF M (T u)) (G u)) → St u S F0 M → Calls Tryz.prog 110 #[.agg (wA S (flI M T M.n)), .int .u32 (f : Int)] u (Left S F0 u M 0 (sbF M.n G (M.tbl f)))) := fun u T G h e su => fl_answer hf h e su
  have oA : Aside M.Ok := o
  have nA : Aside (M.n ≤ 8) := n8
  clear hf
  go_enter Tryz.func97, Tryz.ntmps97
  go_upto_region 6 with (first
    | (go_at_call 31; refine Kf.mono ?_; clear Kf; rintro e w1 ⟨rfl, e1⟩; subst w1)
    | (go_at_call 42; refine KV.mono ?_; clear KV; rintro e w1 ⟨rfl, e1⟩; subst w1)
    | (go_at_call 59; refine K1.mono ?_; clear K1; rintro e w1 ⟨P, l, rfl, o1, inv, b1, p1⟩)
    | refine wpList_store_row rfl 181 (.tmp 9) (.tmp 27) rfl w1.heap.size #[.pointer (some ⟨S, 0, none⟩), .int .i64 0, .int .u32 0, .int .u32 0, .int .i64 0, .int .u32 0, .int .u32 0, .int .i64 0, .int .u32 0, .int .u32 0, .int .i64 0, .int .u32 0, .int .u32 0, .int .i64 0, .int .u32 0, .int .u32 0, .int .i64 0, .int .u32 0, .int .u32 0, .int .i64 0, .int .u32 0, .int .u32 0, .int .i64 0, .int .u32 0, .int .u32 0] rfl rfl 181 _ (heap_alloc_new w1 _) info_walk rfl (zero_one S) ?_)
  obtain ⟨i3, b3⟩ := zero_new w1 S
  have lA : Aside (∀ u, u < M.n → l u < M.n ∧ M.v (l u) = u) := fun u hu => lev_inv o inv hu
  have e0 : flI M (fun u => varI (l (Z u).toNat)) 0 = fun _ => (0, 0, 0) := funext fun i => if_neg (by omega)
  have i3A : Aside (IsW ((w1.alloc (.cells #[.pointer none, .int .i64 0, .int .u32 0, .int .u32 0, .int .i64 0, .int .u32 0, .int .u32 0, .int .i64 0, .int .u32 0, .int .u32 0, .int .i64 0, .int .u32 0, .int .u32 0, .int .i64 0, .int .u32 0, .int .u32 0, .int .i64 0, .int .u32 0, .int .u32 0, .int .i64 0, .int .u32 0, .int .u32 0, .int .i64 0, .int .u32 0, .int .u32 0] 181)).setRow w1.heap.size #[.pointer (some ⟨S, 0, none⟩), .int .i64 0, .int .u32 0, .int .u32 0, .int .i64 0, .int .u32 0, .int .u32 0, .int .i64 0, .int .u32 0, .int .u32 0, .int .i64 0, .int .u32 0, .int .u32 0, .int .i64 0, .int .u32 0, .int .u32 0, .int .i64 0, .int .u32 0, .int .u32 0, .int .i64 0, .int .u32 0, .int .u32 0, .int .i64 0, .int .u32 0, .int .u32 0]) w1.heap.size S (flI M (fun u => varI (l (Z u).toNat)) 0)) := by rw [e0]; exact i3
  have b3A : Aside (Below w1.heap.size w1 ((w1.alloc (.cells #[.pointer none, .int .i64 0, .int .u32 0, .int .u32 0, .int .i64 0, .int .u32 0, .int .u32 0, .int .i64 0, .int .u32 0, .int .u32 0, .int .i64 0, .int .u32 0, .int .u32 0, .int .i64 0, .int .u32 0, .int .u32 0, .int .i64 0, .int .u32 0, .int .u32 0, .int .i64 0, .int .u32 0, .int .u32 0, .int .i64 0, .int .u32 0, .int .u32 0] 181)).setRow w1.heap.size #[.pointer (some ⟨S, 0, none⟩), .int .i64 0, .int .u32 0, .int .u32 0, .int .i64 0, .int .u32 0, .int .u32 0, .int .i64 0, .int .u32 0, .int .u32 0, .int .i64 0, .int .u32 0, .int .u32 0, .int .i64 0, .int .u32 0, .int .u32 0, .int .i64 0, .int .u32 0, .int .u32 0, .int .i64 0, .int .u32 0, .int .u32 0, .int .i64 0, .int .u32 0, .int .u32 0])) := b3
  have put : Aside (∀ j, j < M.n → putI (flI M (fun u => varI (l (Z u).toNat)) j) (l j) (varI (l (Z j).toNat)) = flI M (fun u => varI (l (Z u).toNat)) (j + 1)) := fun j hj => fl_put o _ inv hj
  have s1 : Aside (St w1 S F0 M) := s.below b1
  have z1 : Aside (IntsAt w1 (some ⟨b, off, none⟩) M.n Z) := hZ.kept b1
  have o1A : Aside (Od.IsOrd w1 P M.n M.v l) := o1
  have b1A : Aside (Below w.heap.size w w1) := b1
  generalize (w1.alloc (.cells #[.pointer none, .int .i64 0, .int .u32 0, .int .u32 0, .int .i64 0, .int .u32 0, .int .u32 0, .int .i64 0, .int .u32 0, .int .u32 0, .int .i64 0, .int .u32 0, .int .u32 0, .int .i64 0, .int .u32 0, .int .u32 0, .int .i64 0, .int .u32 0, .int .u32 0, .int .i64 0, .int .u32 0, .int .u32 0, .int .i64 0, .int .u32 0, .int .u32 0] 181)).setRow w1.heap.size #[.pointer (some ⟨S, 0, none⟩), .int .i64 0, .int .u32 0, .int .u32 0, .int .i64 0, .int .u32 0, .int .u32 0, .int .i64 0, .int .u32 0, .int .u32 0, .int .i64 0, .int .u32 0, .int .u32 0, .int .i64 0, .int .u32 0, .int .u32 0, .int .i64 0, .int .u32 0, .int .u32 0, .int .i64 0, .int .u32 0, .int .u32 0, .int .i64 0, .int .u32 0, .int .u32 0] = w3 at i3A b3A ⊢
  obtain ⟨q, hq⟩ : ∃ q, w1.heap.size = q := ⟨_, rfl⟩
  have qA : Aside (w1.heap.size = q) := hq
  rw [hq] at i3A ⊢
  clear hq i3 b3 b1 o1 p1 s hZ o np hb inv e0 n8
  go_upto_region 7 with fail
  go_loopg [30, 10, 11, 12] M.n (fun gn si _s1 _s2 _s3 wr => ∃ j : Nat, j + gn = M.n ∧ si = .int .i64 (j : Int) ∧ Aside (∀ u, u < j → 0 ≤ Z u ∧ Z u < M.n) ∧ Aside (IsW wr q S (flI M (fun u => varI (l (Z u).toNat)) j)) ∧ Aside (Below w1.heap.size w1 wr))
  case atStart => exact ⟨0, by omega, rfl, (fun u hu => absurd hu (by omega)), i3A, b3A⟩
  case round =>
    obtain ⟨j, hj, rfl, rng, i4, b4⟩ := hrel
    have hJ : Aside (j + gk = M.n) := hj
    clear hj i3A b3A
    by_cases hjn : j < M.n
    · have hji : (j : Int) < (M.n : Int) := by omega
      have n8 := nA.out
      have j8 : (j : Int) < 8 := by omega
      have n8i : (M.n : Int) ≤ 8 := by omega
      have c0 := (z1.out.kept b4.out).get hjn
      have o4 := Od_kept o1A.out b4.out
      have jA : Aside (j < M.n) := hjn
      have K3 := Od.level_in o4 n8 j hjn
      by_cases hz : 0 ≤ Z j ∧ Z j < M.n
      · obtain ⟨z, hzz⟩ : ∃ z : Nat, Z j = (z : Int) := ⟨(Z j).toNat, by omega⟩
        have K2 := Od.level_in o4 n8 z (by omega)
        have l1 := lA.out j hjn
        have l2 := lA.out z (by omega)
        have pj := put.out j hjn
        rw [hzz] at c0
        rw [show (Z j).toNat = z by omega] at pj
        have pA : Aside (putI (flI M (fun u => varI (l (Z u).toNat)) j) (l j) (varI (l z)) = flI M (fun u => varI (l (Z u).toNat)) (j + 1)) := pj
        have rngA : Aside (∀ u, u < j + 1 → 0 ≤ Z u ∧ Z u < M.n) := fun u hu => by
          by_cases e : u = j
          · rw [e]; exact hz
          · exact rng.out u (by omega)
        have lj8 : (l j : Int) < 8 := by omega
        have lz0 : ¬ (l z : Int) < 0 := by omega
        have ljA : Aside (l j < 8) := by show l j < 8; omega
        have K4 := variable_any (l z) wr
        clear hjn hz hzz l1 l2 pj rng n8 o4
        generalize l z = lz at K2 K4 lz0 pA
        generalize l j = lj at K3 lj8 ljA pA
        go_wp2_with (first
          | (go_at_call 85; refine K2.mono ?_; clear K2; rintro e w5 ⟨rfl, e5⟩; subst w5)
          | (go_at_call 85; refine K3.mono ?_; clear K3; rintro e w5 ⟨rfl, e5⟩; subst w5)
          | (go_at_call 109; refine K4.mono ?_; clear K4; rintro e w5 ⟨rfl, b5⟩; have i5 := i4.out.below b5; have c1 := i5.lev ljA.out; have c2 := i5.lo ljA.out; have c3 := i5.hi ljA.out; have f0 := i5.free (1 + lj * 3); have f1 := i5.free (1 + lj * 3 + 1); have f2 := i5.free (1 + lj * 3 + 2)))
        go_roundg (gk - 1)
        case measure => have := hJ.out; have := jA.out; omega
        case rel =>
          have h1 := hJ.out
          have h2 := jA.out
          have T := laidI_turned w5 q lj (varI lz)
          have B5 := Rf.below_far b4.out b5
          refine ⟨j + 1, by omega, rfl, rngA, ?_, ?_⟩
          · show IsW _ _ _ _
            rw [← pA.out]
            exact i5.laid lj (varI lz)
          · exact B5.trans (T.below B5.size (Nat.le_of_eq qA.out))
      · have hz' : Z j < 0 ∨ (M.n : Int) ≤ Z j := by omega
        have K2 := Od.level_out o4 (Z j) hz'
        have bad : Aside (∃ u, u < M.n ∧ (Z u < 0 ∨ (M.n : Int) ≤ Z u)) := ⟨j, hjn, hz'⟩
        generalize Z j = zj at K2 c0
        clear hjn hz hz' K3 o4 n8
        go_wp2_with (first
          | (go_at_call 85; refine K2.mono ?_; clear K2; rintro e w5 ⟨rfl, e5⟩; subst w5))
        go_ret2
        exact .inl ⟨bad.out, rfl, Rf.below_far b1A.out b4.out⟩
    · have ej : j = M.n := by have := hJ.out; omega
      subst ej
      have hji : ¬ (M.n : Int) < (M.n : Int) := by omega
      have i5 : Aside (wr.heap[q]? = some (.cells (wA S (flI M (fun u => varI (l (Z u).toNat)) M.n)) 181 (0, 0))) := i4.out
      have szA : Aside ((wA S (flI M (fun u => varI (l (Z u).toNat)) M.n)).size = 25) := wA_size
      have K5 := KA.out wr (T := fun u => varI (l (Z u).toNat)) (G := fun u => Rf.M (Z u).toNat) (fun u hu => var_wi (lA.out _ (by have := rng.out u hu; omega)).1) (fun u hu x _ => by
        rw [var_f, (lA.out _ (by have := rng.out u hu; omega)).2, Rf.M_bit]) (s1.out.below b4.out)
      generalize wA S (flI M (fun u => varI (l (Z u).toNat)) M.n) = A5 at i5 szA K5
      clear hjn KA
      go_wp2_with (first
        | refine wpList_load_row rfl 181 (.tmp 9) rfl q rfl 181 A5 (0, 0) _ i5.out Tryz.underlying181 rfl (by rw [szA.out]; exact info_walk) ?_
        | (go_at_call 110; refine K5.mono ?_; clear K5; rintro e w8 ⟨p, er, M8, F8, rfl, t8, s8, b8⟩; have tA : Aside (Told M 0 (sbF M.n (fun u => Rf.M (Z u).toNat) (M.tbl f)) p er M8) := t8; clear t8))
      go_ret2
      exact .inr ⟨rng.out, p, er, M8, F8, rfl, tA.out, s8, (Wf.of_below (Rf.below_far b1A.out b4.out) F0).trans b8⟩
set_option maxHeartbeats 1000000 in
theorem rename_node (s : St w S F0 M) (hf : f < 4294967296) (no : ¬ M.isNode f) (v : Value) :
    Calls Tryz.prog 97 #[.pointer (some ⟨S, 0, none⟩), .int .u32 (f : Int), v] w fun e w' => e = .returned (.tuple #[.int .u32 0, .int .i64 101]) ∧ w' = w := by
  have Kf := s_is s f hf
  rw [Mdl.nodeB_false no] at Kf
  clear no
  go_enter Tryz.func97, Tryz.ntmps97
  go_wp2_with (first
    | (go_at_call 31; refine Kf.mono ?_; clear Kf; rintro e w1 ⟨rfl, e1⟩; subst w1))
  go_ret2
  exact ⟨rfl, rfl⟩
set_option maxHeartbeats 1000000 in
theorem rename_len (s : St w S F0 M) (hf : M.isNode f) (ad : Option Addr) (n cap : Nat) (hn : n ≠ M.n) :
    Calls Tryz.prog 97 #[.pointer (some ⟨S, 0, none⟩), .int .u32 (f : Int), .slice ad n cap] w fun e w' => e = .returned (.tuple #[.int .u32 0, .int .i64 40]) ∧ w' = w := by
  have Kf := s_is s f (by have := Mdl.isNode_lt s.ok hf; omega)
  rw [Mdl.nodeB_true hf] at Kf
  have KV := s_vars s
  have hni : ¬ (n : Int) = (M.n : Int) := by omega
  clear hf hn
  go_enter Tryz.func97, Tryz.ntmps97
  go_wp2_with (first
    | (go_at_call 31; refine Kf.mono ?_; clear Kf; rintro e w1 ⟨rfl, e1⟩; subst w1)
    | (go_at_call 42; refine KV.mono ?_; clear KV; rintro e w1 ⟨rfl, e1⟩; subst w1))
  go_ret2
  exact ⟨rfl, rfl⟩
end
end Go.Proofs.YtdjjelknjojnfaaGreat
