/-
  Package rel over a store with known handles: a relation's steps.
-/
import Derived.Test.YtdjjelknjojnfaaGreatRlS
import Derived.Deep.RegionHeld3
import Derived.Deep.LoopGhost
namespace Go.Proofs.YtdjjelknjojnfaaGreat
open Go Go.RowKit
open Rf (fixAt fixF IntsAt nextF prevF)

def rlV (S y : Nat) : Value := .agg #[.pointer (some ⟨S, 0, none⟩), .int .u32 (y : Int)]
/-- A block that holds a relation. -/
def IsRl (w : World) (g S y : Nat) : Prop := w.heap[g]? = some (.cells #[.pointer (some ⟨S, 0, none⟩), .int .u32 (y : Int)] 101 (0, 0))
theorem IsRl.new (w : World) (S y : Nat) : IsRl (w.alloc (.cells #[.pointer (some ⟨S, 0, none⟩), .int .u32 (y : Int)] 101)) w.heap.size S y := Go.Deep.blk_alloc_new _ _
theorem Out.refl (w : World) : Out w w := fun _ _ _ _ h _ => h
theorem Sx.set {W w : World} {S n r b : Nat} {l : Kl} (h : Sx W w S n r l b) {k : Nat} {cs : Array Value} {t : TypeId} {fr : Nat × Nat} (hk : w.heap[k]? = some (.cells cs t fr)) (ht : t ≠ 87 ∧ t ≠ 126 ∧ t ≠ 166 ∧ t ≠ 40) (hW : W.heap.size ≤ k) (o : Nat) (v : Value) : Sx W (w.setCell ⟨k, o, none⟩ v) S n r l b := by
  obtain ⟨F, M, s, e1, e2, e3, q, B, f⟩ := h
  have nk := s.row hk ht
  exact ⟨F, M, s.kept fun x hx => Below.heap_setCell _ _ _ _ (fun e => nk (show F k from (show x = k from e) ▸ hx)), e1, e2, e3, q, B.setCell hW v, f⟩
section
variable {W w w' : World} {S n r b g x y : Nat} {l : Kl} {X Y : Nat → Bool}
theorem IsRl.cells (h : IsRl w g S y) : w.cell? ⟨g, 0, none⟩ = some (.pointer (some ⟨S, 0, none⟩)) ∧ w.cell? ⟨g, 1, none⟩ = some (.int .u32 (y : Int)) := by
  unfold IsRl at h
  rw [cell_of_row _ _ _ _ _ _ h, cell_of_row _ _ _ _ _ _ h]
  exact ⟨rfl, rfl⟩
theorem IsRl.out (h : IsRl w g S y) (o : Out w w') : IsRl w' g S y := o _ _ _ _ h (by decide)
theorem IsRl.lt (h : IsRl w g S y) : g < w.heap.size := (Array.getElem?_eq_some_iff.1 h).1
theorem vars_x (h : Sx W w S n r l b) : Calls Tryz.prog 42 #[.pointer (some ⟨S, 0, none⟩)] w fun e w' => e = .returned (.int .i64 (n : Int)) ∧ w' = w := by
  obtain ⟨F, M, s, rfl, _⟩ := h
  exact s_vars s
theorem is_x1 (h : Sx W w S n r l b) (hx : (x, X) ∈ l) :
    Calls Tryz.prog 31 #[.pointer (some ⟨S, 0, none⟩), .int .u32 (x : Int)] w fun e w' => e = .returned (.bool true) ∧ w' = w := by
  obtain ⟨F, M, s, e1, e2, e3, q, B, f⟩ := h
  have nx := (q _ hx).1
  have := s_is s x (by have := Mdl.isNode_lt s.ok nx; omega)
  rwa [Mdl.nodeB_true nx] at this
/-- What the walk leaves of a step: the last handle alone is kept. -/
theorem LeftX.drop {w'' : World} {c : Nat} {e : Ending} {z : Nat} {Z V : Nat → Bool} (o : Out w w') (E : Eqt Z V) (h : LeftX W S n r ((z, X) :: l) c Z w' e w'') : LeftX W S n r l c V w e w'' := by
  obtain ⟨u, rfl, x, q⟩ := h
  exact ⟨u, rfl, (x.like E).mono (fun p hp => by
    rcases List.mem_cons.1 hp with rfl | hp
    · exact .head _
    · exact .tail _ (.tail _ hp)), o.trans q⟩
theorem mask_and (g d : Nat) (hg : g < 256) : bits .and .u8 (g : Int) ((255 : Int) / 2 ^ d) = ((g &&& (255 / 2 ^ d) : Nat) : Int) := by
  have e : (255 : Int) / 2 ^ d = ((255 / 2 ^ d : Nat) : Int) := by
    rw [Int.natCast_ediv, Int.natCast_pow]
    rfl
  rw [e, u8_and_nat _ _ (by omega) (by have := Nat.div_le_self 255 (2 ^ d); omega)]
set_option maxRecDepth 100000 in
set_option maxHeartbeats 1000000 in
theorem met_c (h : Sx W w S n r l b) (hx : (x, X) ∈ l) (hy : (y, Y) ∈ l) (gm : Nat) (hg : gm < 256) (ca ce : Nat) (hca : Small n (fA Y X) ca) (hce : uq (n - 2) ≤ ce ∨ Cst (fA Y X)) (hb : b + ca + ce + 19 ≤ r) :
    Calls Tryz.prog 82 #[rlV S y, .int .u32 (x : Int), .int .u8 (gm : Int)] w (LeftX W S n r l (b + ca + ce) (exQ (mkN gm n) (fA Y X)) w) := by
  have n8 := h.n8
  have np := h.pos
  have hlt : mkN gm n < 2 ^ n := mkN_lt n8
  obtain ⟨d, hd, hdm⟩ : ∃ d, 8 - n = d ∧ mkN gm n = gm &&& (255 / 2 ^ d) := ⟨_, rfl, rfl⟩
  have hmk := mask_and gm d hg
  rw [← hdm] at hmk
  have hdw : IntKind.i64.wrap (d : Int) = (d : Int) := by rw [IntKind.wrap_i64]; omega
  have hdi2 : 8 - (n : Int) = (d : Int) := by omega
  have hd8 : min d 8 = d := by omega
  have hd9 : (d : Int) ≤ 8 := by omega
  clear hdm hd
  unfold rlV
  go_enter Tryz.func82, Tryz.ntmps82
  go_upto_region 1 with fail
  have i1 := IsRl.new w S y
  have B1 := nb w (.cells #[.pointer (some ⟨S, 0, none⟩), .int .u32 (y : Int)] 101)
  have x1 := h.below B1
  have u1 : Aside (Out w (w.alloc (.cells #[.pointer (some ⟨S, 0, none⟩), .int .u32 (y : Int)] 101))) := Out.below B1
  clear B1 h
  generalize w.alloc (.cells #[.pointer (some ⟨S, 0, none⟩), .int .u32 (y : Int)] 101) = w1 at i1 x1 u1 ⊢
  obtain ⟨g, hg⟩ : ∃ g, w.heap.size = g := ⟨_, rfl⟩
  rw [hg] at i1
  conv in (occs := *) (Value.pointer (some ⟨w.heap.size, 0, none⟩)) => all_goals rw [hg]
  clear hg
  obtain ⟨C0, C1⟩ := i1.cells
  have K1 := and_c x1 hy hx ca hca (by omega)
  clear hx hy hca
  go_upto_region 4 with (first
    | (go_at_call 33; refine K1.mono ?_; clear K1; rintro e w2 ⟨z, rfl, x2, u2⟩))
  have i2 : IsRl w2.drew g S y := i1.out u2
  have x2' : Sx W w2.drew S n r ((z, fA Y X) :: l) (b + ca) := x2.below ((Below.refl _ w2).drew)
  have u2A : Aside (Out w w2.drew) := (u1.out.trans u2).trans (Out.below ((Below.refl _ w2).drew))
  have K2 := vars_x x2'
  have K3 := ex_c x2' (x := z) (.head _) hlt ce hce hb
  clear i1 x1 u1 C0 C1 u2 hlt hce hb x2 x2'
  obtain ⟨C0, C1⟩ := i2.cells
  obtain ⟨mk, hk⟩ : ∃ mk, mkN gm n = mk := ⟨_, rfl⟩
  have hkA : Aside (mkN gm n = mk) := hk
  rw [hk] at hmk K3
  clear hk
  go_region_held3 (fun u => u.cell? ⟨g, 0, none⟩ = some (.pointer (some ⟨S, 0, none⟩))) (first | assumption) (first
    | (go_at_call 42; refine K2.mono ?_; rintro e w3 ⟨rfl, e3⟩; subst w3)
    | (go_at_call 96; refine K3.mono ?_; rintro e w4 ⟨z4, rfl, x4, u4⟩; have c4 := (i2.out u4).cells.1))
  go_wp2_with fail
  go_ret2
  have e4 : Eqt (exQ mk (fA Y X)) (exQ (mkN gm n) (fA Y X)) := by
    rw [hkA.out]
    exact Eqt.refl _
  exact LeftX.drop u2A.out e4 ⟨z4, rfl, x4, u4⟩
/-! ## Names changed -/
def tZ (j i : Nat) : Int := if i < j then ((i ^^^ 1 : Nat) : Int) else 0
theorem xor_one (j : Nat) (hj : j < 8) : bits .xor .i64 (j : Int) 1 = ((j ^^^ 1 : Nat) : Int) := by
  have : j = 0 ∨ j = 1 ∨ j = 2 ∨ j = 3 ∨ j = 4 ∨ j = 5 ∨ j = 6 ∨ j = 7 := by omega
  rcases this with rfl | rfl | rfl | rfl | rfl | rfl | rfl | rfl <;> rfl
theorem Out.set {q : Nat} (o : Out w w') (hq : w.heap.size ≤ q) (j : Nat) (v : Value) : Out w (w'.setCell ⟨q, j, none⟩ v) := fun k cs t fr hk ht => by
  have lt := (Array.getElem?_eq_some_iff.1 hk).1
  have h := o k cs t fr hk ht
  rw [Below.heap_setCell _ _ _ _ (show k ≠ q by omega)]
  exact h
theorem IsRl.set {q : Nat} (h : IsRl w g S y) (ne : g ≠ q) (j : Nat) (v : Value) : IsRl (w.setCell ⟨q, j, none⟩ v) g S y := by
  unfold IsRl at h ⊢
  rw [Below.heap_setCell _ _ _ _ ne]
  exact h
set_option maxRecDepth 100000 in
set_option maxHeartbeats 1000000 in
theorem turned_c (h : Sx W w S n r l b) (h2 : n % 2 = 0) (hx : (x, X) ∈ l) (y : Nat) (c : Nat) (hc : Small n (sbF n swG X) c) (hb : b + c + 19 ≤ r) :
    Calls Tryz.prog 83 #[rlV S y, .int .u32 (x : Int)] w (LeftX W S n r l (b + c) (sbF n swG X) w) := by
  have n8 := h.n8
  have hmk := Od.make_ints n (by omega)
  unfold rlV
  go_enter Tryz.func83, Tryz.ntmps83
  go_upto_region 1 with fail
  have i1 := IsRl.new w S y
  have B1 := nb w (.cells #[.pointer (some ⟨S, 0, none⟩), .int .u32 (y : Int)] 101)
  have x1 := h.below B1
  have u1 : Aside (Out w (w.alloc (.cells #[.pointer (some ⟨S, 0, none⟩), .int .u32 (y : Int)] 101))) := Out.below B1
  have z1 : Aside (w.heap.size < (w.alloc (.cells #[.pointer (some ⟨S, 0, none⟩), .int .u32 (y : Int)] 101)).heap.size) := i1.lt
  clear B1 h
  generalize w.alloc (.cells #[.pointer (some ⟨S, 0, none⟩), .int .u32 (y : Int)] 101) = w1 at i1 x1 u1 z1 ⊢
  obtain ⟨g, hg⟩ : ∃ g, w.heap.size = g := ⟨_, rfl⟩
  have hgA : Aside (w.heap.size = g) := hg
  rw [hg] at i1 z1
  conv in (occs := *) (Value.pointer (some ⟨w.heap.size, 0, none⟩)) => all_goals rw [hg]
  clear hg
  obtain ⟨C0, C1⟩ := i1.cells
  have K1 := vars_x x1
  go_upto_region 3 with (first
    | (go_at_call 42; refine K1.mono ?_; clear K1; rintro e w2 ⟨rfl, e2⟩; subst w2))
  have B2 := nb w1 (.cells (madeCells #[.int .i64 0] n) 3)
  have x2 : Aside (Sx W (w1.alloc (.cells (madeCells #[.int .i64 0] n) 3)) S n r l b) := x1.below B2
  have i2 : Aside (IsRl (w1.alloc (.cells (madeCells #[.int .i64 0] n) 3)) g S y) := i1.out (Out.below B2)
  have u2 : Aside (Out w (w1.alloc (.cells (madeCells #[.int .i64 0] n) 3))) := u1.out.trans (Out.below B2)
  have r2 : Aside ((w1.alloc (.cells (madeCells #[.int .i64 0] n) 3)).rowIs w1.heap.size 3 n (fun i => .int .i64 (tZ 0 i))) := (World.rowIs_made w1 (.int .i64 0) n 3).congr fun i _ => by
    unfold tZ
    rw [if_neg (by omega)]
  have qW : Aside (W.heap.size ≤ w1.heap.size) := x1.base.size
  clear B2 x1 i1 u1 C0 C1 hmk
  generalize w1.alloc (.cells (madeCells #[.int .i64 0] n) 3) = w2 at x2 i2 u2 r2 ⊢
  generalize w1.heap.size = q at r2 qW z1 ⊢
  go_loopg [14, 7] n (fun gn s14 _s7 wr => ∃ j : Nat, j + gn = n ∧ s14 = .int .i64 (j : Int) ∧ Aside (Sx W wr S n r l b) ∧ Aside (IsRl wr g S y) ∧ Aside (Out w wr) ∧ Aside (wr.rowIs q 3 n (fun i => .int .i64 (tZ j i))))
  case atStart => exact ⟨0, by omega, rfl, x2, i2, u2, r2⟩
  case round =>
    clear x2 i2 u2 r2
    obtain ⟨j, hj, rfl, hX, hI, hU, hR⟩ := hrel
    have hJ : Aside (j + gk = n) := hj
    clear hj
    by_cases hjn : j < n
    · have hji : (j : Int) < (n : Int) := by omega
      have hxo := xor_one j (by omega)
      have c0 := hR.out.cell hjn
      have f0 := hR.out.frozen j
      have jA : Aside (j < n) := hjn
      obtain ⟨jx, hjx⟩ : ∃ jx, j ^^^ 1 = jx := ⟨_, rfl⟩
      have jxA : Aside (j ^^^ 1 = jx) := hjx
      rw [hjx] at hxo
      clear hjx
      clear hjn
      go_wp2_with fail
      go_roundg (gk - 1)
      case measure => have := hJ.out; have := jA.out; omega
      case rel =>
        have h1 := hJ.out
        have h2 := jA.out
        have h3 := hgA.out
        have h4 := z1.out
        obtain ⟨cs, hcs, _⟩ := id hR.out
        refine ⟨j + 1, by omega, by go_num, hX.out.set hcs (by decide) qW.out j _, hI.out.set (by omega) j _, hU.out.set (by omega) j _, (hR.out.set j (.int .i64 (jx : Int))).congr fun i _ => ?_⟩
        unfold tZ
        by_cases c : i = j
        · rw [if_pos c, if_pos (by omega), c, jxA.out]
        · rw [if_neg c]
          by_cases d : i < j
          · rw [if_pos d, if_pos (by omega)]
          · rw [if_neg d, if_neg (by omega)]
    · obtain rfl : j = n := by have := hJ.out; omega
      have hZ : IntsAt wr (some ⟨q, 0, none⟩) j (fun u => ((u ^^^ 1 : Nat) : Int)) := .inr ⟨q, 0, rfl, hR.out.lt, fun i hi => by
        have := hR.out.cell hi
        unfold tZ at this
        rw [if_pos hi] at this
        rw [Nat.zero_add]
        exact this⟩
      have K := ren_c (cap := j) hX.out h2 hx hZ c hc hb
      have U : Aside (Out w wr) := hU
      obtain ⟨C0, C1⟩ := hI.out.cells
      clear hjn hJ hR hX hI hU hZ hc hb hx
      go_wp2_with (first
        | (go_at_call 97; refine K.mono ?_; clear K; rintro e w3 ⟨z, rfl, x3, u3⟩))
      go_ret2
      exact ⟨z, rfl, x3, U.out.trans u3⟩
end
end Go.Proofs.YtdjjelknjojnfaaGreat
