/-
  LogicTwice, its statement that makes five answers: whatever the order.
-/
import Derived.Test.YtffhmelgpnmbbaaGreatLgc
import Derived.Test.YtffhmelgpnmbbaaGreatBaseG
import Derived.Test.YtffhmelgpnmbbaaGreatBaseD
namespace Go.Proofs.YtffhmelgpnmbbaaGreat
open Go Go.RowKit
open Rf (tab word IsTab)

/-- A handle is a node of that function. -/
def Hn (M : Mdl) (z : Nat) (X : Nat → Bool) : Prop := M.isNode z ∧ Eqt (M.tbl z) X
theorem Hn.grew {M M' : Mdl} {z : Nat} {X : Nat → Bool} (h : Hn M z X) (o : M.Ok) (g : Mdl.Grew M M') : Hn M' z X := ⟨g.isNode h.1, fun y hy => by rw [g.tbl o h.1]; exact h.2 y hy⟩
theorem Hn.one {M : Mdl} {z y : Nat} {X : Nat → Bool} (o : M.Ok) (h : Hn M z X) (k : Hn M y X) : z = y := (Mdl.one_iff o h.1 k.1).1 (h.2.trans k.2.symm)
theorem op_left {w w' : World} {S b : Nat} {F : Nat → Prop} {M : Mdl} {Y X : Nat → Bool} {e : Ending} (s : St w S F M) (e1 : M.n = 8) (e2 : M.room = 3000) (e3 : M.up ≤ b) (hb : b + 82 ≤ 3000) (d : Dep M 0 Y) (eX : Eqt Y X) (h : Left S F w M 0 Y e w') :
    ∃ (z : Nat) (M' : Mdl) (F' : Nat → Prop), e = .returned (.tuple #[.int .u32 (z : Int), .int .i64 0]) ∧ St w' S F' M' ∧ Mdl.Grew M M' ∧ M'.up ≤ b + 63 ∧ Hn M' z X ∧ Wf F F' w w' ∧ ∀ G, Has M' G ↔ Has M G ∨ Prt M X G := by
  obtain ⟨z, er, M', F', rfl, t, s', g⟩ := h
  rcases t with ⟨rfl, t⟩ | ⟨rfl, rfl, t⟩
  · have u := t.up
    rw [e1] at u
    exact ⟨z, M', F', rfl, s', t.grew, by omega, ⟨t.node, t.tbl.trans eX⟩, g, fun G => by rw [t.has G, Prt.like s.ok d eX]⟩
  · exact (t.never s'.ok (by rw [e1, e2]; omega)).elim
/-! ## How many calls have been made -/
def cn (l : Array Bool) (i : Nat) : Nat := if l.getD i false = true then 1 else 0
def calls (l : Array Bool) : Nat := cn l 3 + cn l 12 + cn l 21 + cn l 30 + cn l 41
theorem cn_le (l : Array Bool) (i : Nat) : cn l i ≤ 1 := by unfold cn; split <;> omega
theorem calls_le (l : Array Bool) : calls l ≤ 5 := by
  have := cn_le l 3
  have := cn_le l 12
  have := cn_le l 21
  have := cn_le l 30
  have := cn_le l 41
  unfold calls
  omega
theorem cn_ne (l : Array Bool) {i j : Nat} (h : i ≠ j) : cn (l.setIfInBounds i true) j = cn l j := by unfold cn; rw [getD_set_ne false h]
theorem cn_eq (l : Array Bool) {i : Nat} (h : i < l.size) : cn (l.setIfInBounds i true) i = 1 := by unfold cn; simp [h]
theorem calls_ne {l : Array Bool} {i : Nat} (h : i ≠ 3 ∧ i ≠ 12 ∧ i ≠ 21 ∧ i ≠ 30 ∧ i ≠ 41) : calls (l.setIfInBounds i true) = calls l := by
  unfold calls
  rw [cn_ne l h.1, cn_ne l h.2.1, cn_ne l h.2.2.1, cn_ne l h.2.2.2.1, cn_ne l h.2.2.2.2]
theorem calls_at {l : Array Bool} {i : Nat} (h : i = 3 ∨ i = 12 ∨ i = 21 ∨ i = 30 ∨ i = 41) (hs : l.size = 48) (hi : l.getD i false = false) : calls (l.setIfInBounds i true) = calls l + 1 := by
  have h0 : cn l i = 0 := by unfold cn; rw [hi]; rfl
  unfold calls
  rcases h with rfl | rfl | rfl | rfl | rfl
  · rw [cn_eq l (by omega), cn_ne l (by omega), cn_ne l (by omega), cn_ne l (by omega), cn_ne l (by omega)]; omega
  · rw [cn_eq l (by omega), cn_ne l (by omega), cn_ne l (by omega), cn_ne l (by omega), cn_ne l (by omega)]; omega
  · rw [cn_eq l (by omega), cn_ne l (by omega), cn_ne l (by omega), cn_ne l (by omega), cn_ne l (by omega)]; omega
  · rw [cn_eq l (by omega), cn_ne l (by omega), cn_ne l (by omega), cn_ne l (by omega), cn_ne l (by omega)]; omega
  · rw [cn_eq l (by omega), cn_ne l (by omega), cn_ne l (by omega), cn_ne l (by omega), cn_ne l (by omega)]; omega

/-! ## What each operation leaves -/
def slT (i : Nat) : Tmp := if i = 46 then 15 else 32 + i
def pvT (W : World) (S br bl : Nat) (F G H : Nat → Bool) (a b c : Nat) (M : Mdl) (w : World) (i : Nat) (v : Value) : Prop :=
  match i with
  | 0 => v = .pointer (some ⟨S, 0, none⟩)
  | 1 => v = .pointer (some ⟨br, 0, none⟩)
  | 2 => v = .int .u32 (a : Int)
  | 3 => ∃ z : Nat, v = .tuple #[.int .u32 (z : Int), .int .i64 0] ∧ Hn M z (fN F)
  | 4 => ∃ z : Nat, v = .int .u32 (z : Int) ∧ Hn M z (fN F)
  | 5 => v = .int .i64 0
  | 6 => ∃ z : Nat, v = .int .u32 (z : Int) ∧ Hn M z (fN F)
  | 7 => v = .pointer (some ⟨S, 0, none⟩)
  | 8 => v = .pointer (some ⟨br, 0, none⟩)
  | 9 => v = .int .u32 (a : Int)
  | 10 => v = .pointer (some ⟨br, 1, none⟩)
  | 11 => v = .int .u32 (b : Int)
  | 12 => ∃ z : Nat, v = .tuple #[.int .u32 (z : Int), .int .i64 0] ∧ Hn M z (fA F G)
  | 13 => ∃ z : Nat, v = .int .u32 (z : Int) ∧ Hn M z (fA F G)
  | 14 => v = .int .i64 0
  | 15 => ∃ z : Nat, v = .int .u32 (z : Int) ∧ Hn M z (fA F G)
  | 16 => v = .pointer (some ⟨S, 0, none⟩)
  | 17 => v = .pointer (some ⟨br, 1, none⟩)
  | 18 => v = .int .u32 (b : Int)
  | 19 => v = .pointer (some ⟨br, 2, none⟩)
  | 20 => v = .int .u32 (c : Int)
  | 21 => ∃ z : Nat, v = .tuple #[.int .u32 (z : Int), .int .i64 0] ∧ Hn M z (fO G H)
  | 22 => ∃ z : Nat, v = .int .u32 (z : Int) ∧ Hn M z (fO G H)
  | 23 => v = .int .i64 0
  | 24 => ∃ z : Nat, v = .int .u32 (z : Int) ∧ Hn M z (fO G H)
  | 25 => v = .pointer (some ⟨S, 0, none⟩)
  | 26 => v = .pointer (some ⟨br, 0, none⟩)
  | 27 => v = .int .u32 (a : Int)
  | 28 => v = .pointer (some ⟨br, 2, none⟩)
  | 29 => v = .int .u32 (c : Int)
  | 30 => ∃ z : Nat, v = .tuple #[.int .u32 (z : Int), .int .i64 0] ∧ Hn M z (fX F H)
  | 31 => ∃ z : Nat, v = .int .u32 (z : Int) ∧ Hn M z (fX F H)
  | 32 => v = .int .i64 0
  | 33 => ∃ z : Nat, v = .int .u32 (z : Int) ∧ Hn M z (fX F H)
  | 34 => v = .pointer (some ⟨S, 0, none⟩)
  | 35 => v = .pointer (some ⟨br, 0, none⟩)
  | 36 => v = .int .u32 (a : Int)
  | 37 => v = .pointer (some ⟨br, 1, none⟩)
  | 38 => v = .int .u32 (b : Int)
  | 39 => v = .pointer (some ⟨br, 2, none⟩)
  | 40 => v = .int .u32 (c : Int)
  | 41 => ∃ z : Nat, v = .tuple #[.int .u32 (z : Int), .int .i64 0] ∧ Hn M z (fI F G H)
  | 42 => ∃ z : Nat, v = .int .u32 (z : Int) ∧ Hn M z (fI F G H)
  | 43 => v = .int .i64 0
  | 44 => ∃ z : Nat, v = .int .u32 (z : Int) ∧ Hn M z (fI F G H)
  | 45 => ∃ z1 z2 z3 z4 z5 : Nat, v = .agg #[.int .u32 (z1 : Int), .int .u32 (z2 : Int), .int .u32 (z3 : Int), .int .u32 (z4 : Int), .int .u32 (z5 : Int)] ∧ Hn M z1 (fN F) ∧ Hn M z2 (fA F G) ∧ Hn M z3 (fO G H) ∧ Hn M z4 (fX F H) ∧ Hn M z5 (fI F G H)
  | 46 => ∃ g : Nat, v = .pointer (some ⟨g, 0, none⟩) ∧ g ≠ bl ∧ W.heap.size ≤ g ∧ ∃ x1 x2 x3 x4 x5 : Value, w.heap[g]? = some (.cells #[x1, x2, x3, x4, x5] 47 (0, 0))
  | _ => True
def Five (F G H : Nat → Bool) : List (Nat → Bool) := [fN F, fA F G, fO G H, fX F H, fI F G H]
section
variable {W : World} {S br bl : Nat} {F G H : Nat → Bool} {a b c : Nat}
set_option maxHeartbeats 1000000 in
theorem pvT_mono {M M' : Mdl} {w w' : World} (o : M.Ok) (g : Mdl.Grew M M') (u : Out w w') : ∀ (i : Nat) (v : Value), pvT W S br bl F G H a b c M w i v → pvT W S br bl F G H a b c M' w' i v
  | 0, v, h => h
  | 1, v, h => h
  | 2, v, h => h
  | 3, v, h => let ⟨z, e, q⟩ := h; ⟨z, e, q.grew o g⟩
  | 4, v, h => let ⟨z, e, q⟩ := h; ⟨z, e, q.grew o g⟩
  | 5, v, h => h
  | 6, v, h => let ⟨z, e, q⟩ := h; ⟨z, e, q.grew o g⟩
  | 7, v, h => h
  | 8, v, h => h
  | 9, v, h => h
  | 10, v, h => h
  | 11, v, h => h
  | 12, v, h => let ⟨z, e, q⟩ := h; ⟨z, e, q.grew o g⟩
  | 13, v, h => let ⟨z, e, q⟩ := h; ⟨z, e, q.grew o g⟩
  | 14, v, h => h
  | 15, v, h => let ⟨z, e, q⟩ := h; ⟨z, e, q.grew o g⟩
  | 16, v, h => h
  | 17, v, h => h
  | 18, v, h => h
  | 19, v, h => h
  | 20, v, h => h
  | 21, v, h => let ⟨z, e, q⟩ := h; ⟨z, e, q.grew o g⟩
  | 22, v, h => let ⟨z, e, q⟩ := h; ⟨z, e, q.grew o g⟩
  | 23, v, h => h
  | 24, v, h => let ⟨z, e, q⟩ := h; ⟨z, e, q.grew o g⟩
  | 25, v, h => h
  | 26, v, h => h
  | 27, v, h => h
  | 28, v, h => h
  | 29, v, h => h
  | 30, v, h => let ⟨z, e, q⟩ := h; ⟨z, e, q.grew o g⟩
  | 31, v, h => let ⟨z, e, q⟩ := h; ⟨z, e, q.grew o g⟩
  | 32, v, h => h
  | 33, v, h => let ⟨z, e, q⟩ := h; ⟨z, e, q.grew o g⟩
  | 34, v, h => h
  | 35, v, h => h
  | 36, v, h => h
  | 37, v, h => h
  | 38, v, h => h
  | 39, v, h => h
  | 40, v, h => h
  | 41, v, h => let ⟨z, e, q⟩ := h; ⟨z, e, q.grew o g⟩
  | 42, v, h => let ⟨z, e, q⟩ := h; ⟨z, e, q.grew o g⟩
  | 43, v, h => h
  | 44, v, h => let ⟨z, e, q⟩ := h; ⟨z, e, q.grew o g⟩
  | 45, v, h => let ⟨z1, z2, z3, z4, z5, e, q1, q2, q3, q4, q5⟩ := h; ⟨z1, z2, z3, z4, z5, e, q1.grew o g, q2.grew o g, q3.grew o g, q4.grew o g, q5.grew o g⟩
  | 46, v, h => let ⟨y, e, q1, q2, x1, x2, x3, x4, x5, q3⟩ := h; ⟨y, e, q1, q2, x1, x2, x3, x4, x5, u y _ _ _ q3 (by decide)⟩
  | _ + 47, _, _ => trivial
/-- The array of the five last ones. -/
def Is5 (w : World) (g : Nat) (x1 x2 x3 x4 x5 : Value) : Prop := w.heap[g]? = some (.cells #[x1, x2, x3, x4, x5] 47 (0, 0))
theorem Is5.lt {w : World} {g : Nat} {x1 x2 x3 x4 x5 : Value} (h : Is5 w g x1 x2 x3 x4 x5) : g < w.heap.size := (Array.getElem?_eq_some_iff.1 h).1
theorem Out.is5 {w w' : World} (u : Out w w') {g : Nat} {x1 x2 x3 x4 x5 : Value} (h : Is5 w g x1 x2 x3 x4 x5) : Is5 w' g x1 x2 x3 x4 x5 := u g _ _ _ h (by decide)
def laid5 (w : World) (g : Nat) (x1 x2 x3 x4 x5 : Value) : World := ((((w.setCell ⟨g, 0, none⟩ x1).setCell ⟨g, 1, none⟩ x2).setCell ⟨g, 2, none⟩ x3).setCell ⟨g, 3, none⟩ x4).setCell ⟨g, 4, none⟩ x5
theorem laid5_is {w : World} {g : Nat} {y1 y2 y3 y4 y5 : Value} (h : Is5 w g y1 y2 y3 y4 y5) (x1 x2 x3 x4 x5 : Value) : Is5 (laid5 w g x1 x2 x3 x4 x5) g x1 x2 x3 x4 x5 := by
  unfold laid5 Is5 at *
  simp [World.setCell, Array.getElem?_modify, h]
theorem set_turned (w : World) (g k : Nat) (x : Value) : Rf.Turned g w (w.setCell ⟨g, k, none⟩ x) := ⟨rfl, rfl, rfl, by simp [World.setCell], fun _ _ hk => Below.heap_setCell _ _ _ _ hk⟩
theorem turned_trans {g : Nat} {u v x : World} (h : Rf.Turned g u v) (k : Rf.Turned g v x) : Rf.Turned g u x := ⟨k.os.trans h.os, k.tape.trans h.tape, k.output.trans h.output, Nat.le_trans h.size k.size, fun i hi hp => (k.block i (Nat.lt_of_lt_of_le hi h.size) hp).trans (h.block i hi hp)⟩
theorem laid5_turned (w : World) (g : Nat) (x1 x2 x3 x4 x5 : Value) : Rf.Turned g w (laid5 w g x1 x2 x3 x4 x5) :=
  turned_trans (turned_trans (turned_trans (turned_trans (set_turned w g 0 x1) (set_turned _ g 1 x2)) (set_turned _ g 2 x3)) (set_turned _ g 3 x4)) (set_turned _ g 4 x5)
theorem Is5.cells {w : World} {g : Nat} {x1 x2 x3 x4 x5 : Value} (h : Is5 w g x1 x2 x3 x4 x5) : w.cell? ⟨g, 0, none⟩ = some x1 ∧ w.cell? ⟨g, 1, none⟩ = some x2 ∧ w.cell? ⟨g, 2, none⟩ = some x3 ∧ w.cell? ⟨g, 3, none⟩ = some x4 ∧ w.cell? ⟨g, 4, none⟩ = some x5 := by
  unfold Is5 at h
  refine ⟨?_, ?_, ?_, ?_, ?_⟩ <;> simp [World.cell?, h]
theorem Is5.free {w : World} {g : Nat} {x1 x2 x3 x4 x5 : Value} (h : Is5 w g x1 x2 x3 x4 x5) (k : Nat) : w.frozen? ⟨g, k, none⟩ = false := by
  unfold Is5 at h
  simp [World.frozen?, h]
/-- The store while the statement is under way. -/
structure Wo (W : World) (S br bl : Nat) (F G H : Nat → Bool) (a b c b0 : Nat) (Ms : Mdl) (listed : Array Bool) (ac : Act) (w : World) (F1 : Nat → Prop) (M : Mdl) : Prop where
  st : St w S F1 M
  grew : Mdl.Grew Ms M
  up : M.up ≤ b0 + 63 * calls listed
  base : Below W.heap.size W w
  far : ∀ k, F1 k → W.heap.size ≤ k
  all : (∀ X ∈ Five F G H, ∃ y, Hn Ms y X) → ∀ X, Has M X ↔ Has Ms X
  vals : ∀ i, i < 47 → listed.getD i false = true → pvT W S br bl F G H a b c M w i (slot ac (slT i))
structure TG (W : World) (S br bl : Nat) (F G H : Nat → Bool) (a b c b0 : Nat) (Ms : Mdl) (l1 l2 l3 l4 l5 : Value) (a0 : Act) (listed : Array Bool) (ac : Act) (w : World) : Prop where
  size : ac.tmps.size = a0.tmps.size
  defers : ac.defers = a0.defers
  other : ∀ s : Nat, s ≠ 15 → (s < 32 ∨ 78 ≤ s) → slot ac s = slot a0 s
  xb : Is3 w br (.int .u32 (a : Int)) (.int .u32 (b : Int)) (.int .u32 (c : Int))
  lb : Is5 w bl l1 l2 l3 l4 l5
  world : ∃ F1 M, Wo W S br bl F G H a b c b0 Ms listed ac w F1 M
  fin : listed.getD 47 false = true → ∃ F1 M, Wo W S br bl F G H a b c b0 Ms listed ac w F1 M ∧ ∃ g z1 z2 z3 z4 z5 : Nat, slot ac 15 = .pointer (some ⟨g, 0, none⟩) ∧ g ≠ bl ∧ W.heap.size ≤ g ∧ Is5 w g (.int .u32 (z1 : Int)) (.int .u32 (z2 : Int)) (.int .u32 (z3 : Int)) (.int .u32 (z4 : Int)) (.int .u32 (z5 : Int)) ∧ Hn M z1 (fN F) ∧ Hn M z2 (fA F G) ∧ Hn M z3 (fO G H) ∧ Hn M z4 (fX F H) ∧ Hn M z5 (fI F G H)
variable {b0 : Nat} {Ms : Mdl} {l1 l2 l3 l4 l5 : Value} {a0 : Act} {listed : Array Bool} {ac : Act} {w w' : World}
theorem slT_inj {i j : Nat} (hi : i < 47) (hj : j < 47) (h : i ≠ j) : slT i ≠ slT j := by
  unfold slT
  intro e
  have e : (if i = 46 then 15 else 32 + i) = (if j = 46 then (15 : Nat) else 32 + j) := e
  split at e <;> split at e <;> omega
theorem TG.go (g : TG W S br bl F G H a b c b0 Ms l1 l2 l3 l4 l5 a0 listed ac w) {i : Nat} (hi : i < 47) (n47 : listed.getD 47 false = false) (hsz : a0.tmps.size = 97) {F1 F2 : Nat → Prop} {M M2 : Mdl} (wo : Wo W S br bl F G H a b c b0 Ms listed ac w F1 M) (s2 : St w' S F2 M2) (gr2 : Mdl.Grew M M2) (o : M.Ok) (up2 : M2.up ≤ b0 + 63 * calls (listed.setIfInBounds i true)) (B2 : Below W.heap.size W w') (f2 : ∀ k, F2 k → W.heap.size ≤ k)
    (al : (∀ X ∈ Five F G H, ∃ y, Hn Ms y X) → ∀ X, Has M2 X ↔ Has M X) (u : Out w w') (v : Value) (hv : pvT W S br bl F G H a b c M2 w' i v) : TG W S br bl F G H a b c b0 Ms l1 l2 l3 l4 l5 a0 (listed.setIfInBounds i true) (ac.put (some (slT i)) v) w' := by
  have hlt : slT i < ac.tmps.size := by
    rw [g.size, hsz]
    show @LT.lt Nat _ (slT i) 97
    unfold slT
    have : (if i = 46 then (15 : Nat) else 32 + i) < 97 := by split <;> omega
    exact this
  refine ⟨by simp [Act.put, g.size], by simp [Act.put, g.defers], fun s h1 h2 => ?_, u.is3 g.xb, u.is5 g.lb, ⟨F2, M2, s2, wo.grew.trans gr2, up2, B2, f2, fun h X => (al h X).trans (wo.all h X), fun j hj hl => ?_⟩, fun h => ?_⟩
  · rw [slot_put_ne]
    · exact g.other s h1 h2
    · intro e
      have e : @Eq Nat (if i = 46 then 15 else 32 + i) s := e
      split at e
      · exact h1 e.symm
      · omega
  · by_cases e : i = j
    · subst e
      rw [slot_put_eq _ hlt]
      exact hv
    · rw [getD_set_ne false e] at hl
      rw [slot_put_ne _ (slT_inj hi hj e)]
      exact pvT_mono o gr2 u j _ (wo.vals j hj hl)
  · rw [getD_set_ne false (by omega), n47] at h
    cases h
end
theorem lt48 {i : Nat} (h : i < 48) : i = 0 ∨ i = 1 ∨ i = 2 ∨ i = 3 ∨ i = 4 ∨ i = 5 ∨ i = 6 ∨ i = 7 ∨ i = 8 ∨ i = 9 ∨ i = 10 ∨ i = 11 ∨ i = 12 ∨ i = 13 ∨ i = 14 ∨ i = 15 ∨ i = 16 ∨ i = 17 ∨ i = 18 ∨ i = 19 ∨ i = 20 ∨ i = 21 ∨ i = 22 ∨ i = 23 ∨ i = 24 ∨ i = 25 ∨ i = 26 ∨ i = 27 ∨ i = 28 ∨ i = 29 ∨ i = 30 ∨ i = 31 ∨ i = 32 ∨ i = 33 ∨ i = 34 ∨ i = 35 ∨ i = 36 ∨ i = 37 ∨ i = 38 ∨ i = 39 ∨ i = 40 ∨ i = 41 ∨ i = 42 ∨ i = 43 ∨ i = 44 ∨ i = 45 ∨ i = 46 ∨ i = 47 := by omega
theorem lt47 {i : Nat} (h : i < 47) : i = 0 ∨ i = 1 ∨ i = 2 ∨ i = 3 ∨ i = 4 ∨ i = 5 ∨ i = 6 ∨ i = 7 ∨ i = 8 ∨ i = 9 ∨ i = 10 ∨ i = 11 ∨ i = 12 ∨ i = 13 ∨ i = 14 ∨ i = 15 ∨ i = 16 ∨ i = 17 ∨ i = 18 ∨ i = 19 ∨ i = 20 ∨ i = 21 ∨ i = 22 ∨ i = 23 ∨ i = 24 ∨ i = 25 ∨ i = 26 ∨ i = 27 ∨ i = 28 ∨ i = 29 ∨ i = 30 ∨ i = 31 ∨ i = 32 ∨ i = 33 ∨ i = 34 ∨ i = 35 ∨ i = 36 ∨ i = 37 ∨ i = 38 ∨ i = 39 ∨ i = 40 ∨ i = 41 ∨ i = 42 ∨ i = 43 ∨ i = 44 ∨ i = 45 ∨ i = 46 := by omega
set_option maxRecDepth 100000 in
set_option maxHeartbeats 4000000 in
theorem five_region {W : World} {S br bl : Nat} {F G H : Nat → Bool} {a b c b0 : Nat} {Ms : Mdl} {l1 l2 l3 l4 l5 : Value} {a0 : Act} {w : World} {pos : String} {Q : Exit → Act → World → Prop} (hsz0 : a0.tmps.size = 97)
    (p9 : slot a0 9 = .pointer (some ⟨S, 0, none⟩)) (p10 : slot a0 10 = .pointer (some ⟨br, 0, none⟩)) (hms : Ms.Ok) (hn8 : Ms.n = 8) (hr3 : Ms.room = 3000) (hb0 : b0 + 63 * 5 + 82 ≤ 3000) (HA : Hn Ms a F) (HB : Hn Ms b G) (HC : Hn Ms c H)
    (start : TG W S br bl F G H a b c b0 Ms l1 l2 l3 l4 l5 a0 (Array.replicate 48 false) a0 w.drew)
    (done : ∀ listed ac w', TG W S br bl F G H a b c b0 Ms l1 l2 l3 l4 l5 a0 listed ac w' → listed.getD 47 false = true → Q .normal ac w') :
    (Code.region 11 (#[{ dst := some 32, op := Op.move (Operand.tmp 9), type := 26, pos := pos, after := #[], guard := none }, { dst := some 33, op := Op.indexAddr 44 (Operand.tmp 10) (Operand.const (Value.int IntKind.i64 0)), type := 0, pos := pos, after := #[], guard := none }, { dst := some 34, op := Op.load 33 (Operand.tmp 33), type := 33, pos := pos, after := #[{ on := 1, ground := Ground.data }], guard := none }, { dst := some 35, op := Op.call { callee := Callee.value (Operand.func 19), args := #[Operand.tmp 32, Operand.tmp 34], argTypes := #[26, 33] }, type := 39, pos := pos, after := #[{ on := 0, ground := Ground.data }, { on := 2, ground := Ground.data }], guard := none }, { dst := some 36, op := Op.extract (Operand.tmp 35) 0, type := 33, pos := pos, after := #[{ on := 3, ground := Ground.data }], guard := none }, { dst := some 37, op := Op.extract (Operand.tmp 35) 1, type := 27, pos := pos, after := #[{ on := 3, ground := Ground.data }], guard := none }, { dst := some 38, op := Op.call { callee := Callee.value (Operand.func 18), args := #[Operand.tmp 36, Operand.tmp 37], argTypes := #[33, 27] }, type := 33, pos := pos, after := #[{ on := 4, ground := Ground.data }, { on := 5, ground := Ground.data }, { on := 3, ground := Ground.chain }], guard := none }, { dst := some 39, op := Op.move (Operand.tmp 9), type := 26, pos := pos, after := #[], guard := none }, { dst := some 40, op := Op.indexAddr 44 (Operand.tmp 10) (Operand.const (Value.int IntKind.i64 0)), type := 0, pos := pos, after := #[], guard := none }, { dst := some 41, op := Op.load 33 (Operand.tmp 40), type := 33, pos := pos, after := #[{ on := 8, ground := Ground.data }], guard := none }, { dst := some 42, op := Op.indexAddr 44 (Operand.tmp 10) (Operand.const (Value.int IntKind.i64 1)), type := 0, pos := pos, after := #[], guard := none }, { dst := some 43, op := Op.load 33 (Operand.tmp 42), type := 33, pos := pos, after := #[{ on := 10, ground := Ground.data }], guard := none }, { dst := some 44, op := Op.call { callee := Callee.value (Operand.func 20), args := #[Operand.tmp 39, Operand.tmp 41, Operand.tmp 43], argTypes := #[26, 33, 33] }, type := 39, pos := pos, after := #[{ on := 7, ground := Ground.data }, { on := 9, ground := Ground.data }, { on := 11, ground := Ground.data }, { on := 6, ground := Ground.chain }], guard := none }, { dst := some 45, op := Op.extract (Operand.tmp 44) 0, type := 33, pos := pos, after := #[{ on := 12, ground := Ground.data }], guard := none }, { dst := some 46, op := Op.extract (Operand.tmp 44) 1, type := 27, pos := pos, after := #[{ on := 12, ground := Ground.data }], guard := none }, { dst := some 47, op := Op.call { callee := Callee.value (Operand.func 18), args := #[Operand.tmp 45, Operand.tmp 46], argTypes := #[33, 27] }, type := 33, pos := pos, after := #[{ on := 13, ground := Ground.data }, { on := 14, ground := Ground.data }, { on := 12, ground := Ground.chain }], guard := none }, { dst := some 48, op := Op.move (Operand.tmp 9), type := 26, pos := pos, after := #[], guard := none }, { dst := some 49, op := Op.indexAddr 44 (Operand.tmp 10) (Operand.const (Value.int IntKind.i64 1)), type := 0, pos := pos, after := #[], guard := none }, { dst := some 50, op := Op.load 33 (Operand.tmp 49), type := 33, pos := pos, after := #[{ on := 17, ground := Ground.data }], guard := none }, { dst := some 51, op := Op.indexAddr 44 (Operand.tmp 10) (Operand.const (Value.int IntKind.i64 2)), type := 0, pos := pos, after := #[], guard := none }, { dst := some 52, op := Op.load 33 (Operand.tmp 51), type := 33, pos := pos, after := #[{ on := 19, ground := Ground.data }], guard := none }, { dst := some 53, op := Op.call { callee := Callee.value (Operand.func 21), args := #[Operand.tmp 48, Operand.tmp 50, Operand.tmp 52], argTypes := #[26, 33, 33] }, type := 39, pos := pos, after := #[{ on := 16, ground := Ground.data }, { on := 18, ground := Ground.data }, { on := 20, ground := Ground.data }, { on := 15, ground := Ground.chain }], guard := none }, { dst := some 54, op := Op.extract (Operand.tmp 53) 0, type := 33, pos := pos, after := #[{ on := 21, ground := Ground.data }], guard := none }, { dst := some 55, op := Op.extract (Operand.tmp 53) 1, type := 27, pos := pos, after := #[{ on := 21, ground := Ground.data }], guard := none }, { dst := some 56, op := Op.call { callee := Callee.value (Operand.func 18), args := #[Operand.tmp 54, Operand.tmp 55], argTypes := #[33, 27] }, type := 33, pos := pos, after := #[{ on := 22, ground := Ground.data }, { on := 23, ground := Ground.data }, { on := 21, ground := Ground.chain }], guard := none }, { dst := some 57, op := Op.move (Operand.tmp 9), type := 26, pos := pos, after := #[], guard := none }, { dst := some 58, op := Op.indexAddr 44 (Operand.tmp 10) (Operand.const (Value.int IntKind.i64 0)), type := 0, pos := pos, after := #[], guard := none }, { dst := some 59, op := Op.load 33 (Operand.tmp 58), type := 33, pos := pos, after := #[{ on := 26, ground := Ground.data }], guard := none }, { dst := some 60, op := Op.indexAddr 44 (Operand.tmp 10) (Operand.const (Value.int IntKind.i64 2)), type := 0, pos := pos, after := #[], guard := none }, { dst := some 61, op := Op.load 33 (Operand.tmp 60), type := 33, pos := pos, after := #[{ on := 28, ground := Ground.data }], guard := none }, { dst := some 62, op := Op.call { callee := Callee.value (Operand.func 22), args := #[Operand.tmp 57, Operand.tmp 59, Operand.tmp 61], argTypes := #[26, 33, 33] }, type := 39, pos := pos, after := #[{ on := 25, ground := Ground.data }, { on := 27, ground := Ground.data }, { on := 29, ground := Ground.data }, { on := 24, ground := Ground.chain }], guard := none }, { dst := some 63, op := Op.extract (Operand.tmp 62) 0, type := 33, pos := pos, after := #[{ on := 30, ground := Ground.data }], guard := none }, { dst := some 64, op := Op.extract (Operand.tmp 62) 1, type := 27, pos := pos, after := #[{ on := 30, ground := Ground.data }], guard := none }, { dst := some 65, op := Op.call { callee := Callee.value (Operand.func 18), args := #[Operand.tmp 63, Operand.tmp 64], argTypes := #[33, 27] }, type := 33, pos := pos, after := #[{ on := 31, ground := Ground.data }, { on := 32, ground := Ground.data }, { on := 30, ground := Ground.chain }], guard := none }, { dst := some 66, op := Op.move (Operand.tmp 9), type := 26, pos := pos, after := #[], guard := none }, { dst := some 67, op := Op.indexAddr 44 (Operand.tmp 10) (Operand.const (Value.int IntKind.i64 0)), type := 0, pos := pos, after := #[], guard := none }, { dst := some 68, op := Op.load 33 (Operand.tmp 67), type := 33, pos := pos, after := #[{ on := 35, ground := Ground.data }], guard := none }, { dst := some 69, op := Op.indexAddr 44 (Operand.tmp 10) (Operand.const (Value.int IntKind.i64 1)), type := 0, pos := pos, after := #[], guard := none }, { dst := some 70, op := Op.load 33 (Operand.tmp 69), type := 33, pos := pos, after := #[{ on := 37, ground := Ground.data }], guard := none }, { dst := some 71, op := Op.indexAddr 44 (Operand.tmp 10) (Operand.const (Value.int IntKind.i64 2)), type := 0, pos := pos, after := #[], guard := none }, { dst := some 72, op := Op.load 33 (Operand.tmp 71), type := 33, pos := pos, after := #[{ on := 39, ground := Ground.data }], guard := none }, { dst := some 73, op := Op.call { callee := Callee.value (Operand.func 23), args := #[Operand.tmp 66, Operand.tmp 68, Operand.tmp 70, Operand.tmp 72], argTypes := #[26, 33, 33, 33] }, type := 39, pos := pos, after := #[{ on := 34, ground := Ground.data }, { on := 36, ground := Ground.data }, { on := 38, ground := Ground.data }, { on := 40, ground := Ground.data }, { on := 33, ground := Ground.chain }], guard := none }, { dst := some 74, op := Op.extract (Operand.tmp 73) 0, type := 33, pos := pos, after := #[{ on := 41, ground := Ground.data }], guard := none }, { dst := some 75, op := Op.extract (Operand.tmp 73) 1, type := 27, pos := pos, after := #[{ on := 41, ground := Ground.data }], guard := none }, { dst := some 76, op := Op.call { callee := Callee.value (Operand.func 18), args := #[Operand.tmp 74, Operand.tmp 75], argTypes := #[33, 27] }, type := 33, pos := pos, after := #[{ on := 42, ground := Ground.data }, { on := 43, ground := Ground.data }, { on := 41, ground := Ground.chain }], guard := none }, { dst := some 77, op := Op.build 47 #[(0, Operand.tmp 38), (1, Operand.tmp 47), (2, Operand.tmp 56), (3, Operand.tmp 65), (4, Operand.tmp 76)], type := 47, pos := pos, after := #[{ on := 6, ground := Ground.data }, { on := 15, ground := Ground.data }, { on := 24, ground := Ground.data }, { on := 33, ground := Ground.data }, { on := 44, ground := Ground.data }], guard := none }, { dst := some 15, op := Op.alloc 47, type := 0, pos := pos, after := #[], guard := none }, { dst := none, op := Op.store 47 (Operand.tmp 15) (Operand.tmp 77), type := 0, pos := pos, after := #[{ on := 46, ground := Ground.data }, { on := 45, ground := Ground.data }, { on := 44, ground := Ground.chain }, { on := 0, ground := Ground.phase }, { on := 1, ground := Ground.phase }, { on := 2, ground := Ground.phase }, { on := 3, ground := Ground.phase }, { on := 4, ground := Ground.phase }, { on := 5, ground := Ground.phase }, { on := 6, ground := Ground.phase }, { on := 7, ground := Ground.phase }, { on := 8, ground := Ground.phase }, { on := 9, ground := Ground.phase }, { on := 10, ground := Ground.phase }, { on := 11, ground := Ground.phase }, { on := 12, ground := Ground.phase }, { on := 13, ground := Ground.phase }, { on := 14, ground := Ground.phase }, { on := 15, ground := Ground.phase }, { on := 16, ground := Ground.phase }, { on := 17, ground := Ground.phase }, { on := 18, ground := Ground.phase }, { on := 19, ground := Ground.phase }, { on := 20, ground := Ground.phase }, { on := 21, ground := Ground.phase }, { on := 22, ground := Ground.phase }, { on := 23, ground := Ground.phase }, { on := 24, ground := Ground.phase }, { on := 25, ground := Ground.phase }, { on := 26, ground := Ground.phase }, { on := 27, ground := Ground.phase }, { on := 28, ground := Ground.phase }, { on := 29, ground := Ground.phase }, { on := 30, ground := Ground.phase }, { on := 31, ground := Ground.phase }, { on := 32, ground := Ground.phase }, { on := 33, ground := Ground.phase }, { on := 34, ground := Ground.phase }, { on := 35, ground := Ground.phase }, { on := 36, ground := Ground.phase }, { on := 37, ground := Ground.phase }, { on := 38, ground := Ground.phase }, { on := 39, ground := Ground.phase }, { on := 40, ground := Ground.phase }, { on := 41, ground := Ground.phase }, { on := 42, ground := Ground.phase }, { on := 43, ground := Ground.phase }, { on := 44, ground := Ground.phase }, { on := 45, ground := Ground.phase }, { on := 46, ground := Ground.phase }], guard := none }]) true).wp Tryz.prog Q a0 w := by
  refine wp_region_listed (by kernel_rfl) (TG W S br bl F G H a b c b0 Ms l1 l2 l3 l4 l5 a0) (by kernel_rfl) ?_ ?_ start
  · intro listed i o ac w' ho hn hi hdep hcl g
    have hi48 : i < 48 := (Array.getElem?_eq_some_iff.1 ho).1
    have hsz : a0.tmps.size = 97 := hsz0
    have hls : listed.size = 48 := hn
    have c47 : listed.getD 47 false = true → ∀ j, j < 47 → listed.getD j false = true := fun q j hj => by
      rcases lt47 hj with rfl | rfl | rfl | rfl | rfl | rfl | rfl | rfl | rfl | rfl | rfl | rfl | rfl | rfl | rfl | rfl | rfl | rfl | rfl | rfl | rfl | rfl | rfl | rfl | rfl | rfl | rfl | rfl | rfl | rfl | rfl | rfl | rfl | rfl | rfl | rfl | rfl | rfl | rfl | rfl | rfl | rfl | rfl | rfl | rfl | rfl | rfl
      · exact hcl 47 _ q rfl { on := 0, ground := .phase } (by simp) (by decide)
      · exact hcl 47 _ q rfl { on := 1, ground := .phase } (by simp) (by decide)
      · exact hcl 47 _ q rfl { on := 2, ground := .phase } (by simp) (by decide)
      · exact hcl 47 _ q rfl { on := 3, ground := .phase } (by simp) (by decide)
      · exact hcl 47 _ q rfl { on := 4, ground := .phase } (by simp) (by decide)
      · exact hcl 47 _ q rfl { on := 5, ground := .phase } (by simp) (by decide)
      · exact hcl 47 _ q rfl { on := 6, ground := .phase } (by simp) (by decide)
      · exact hcl 47 _ q rfl { on := 7, ground := .phase } (by simp) (by decide)
      · exact hcl 47 _ q rfl { on := 8, ground := .phase } (by simp) (by decide)
      · exact hcl 47 _ q rfl { on := 9, ground := .phase } (by simp) (by decide)
      · exact hcl 47 _ q rfl { on := 10, ground := .phase } (by simp) (by decide)
      · exact hcl 47 _ q rfl { on := 11, ground := .phase } (by simp) (by decide)
      · exact hcl 47 _ q rfl { on := 12, ground := .phase } (by simp) (by decide)
      · exact hcl 47 _ q rfl { on := 13, ground := .phase } (by simp) (by decide)
      · exact hcl 47 _ q rfl { on := 14, ground := .phase } (by simp) (by decide)
      · exact hcl 47 _ q rfl { on := 15, ground := .phase } (by simp) (by decide)
      · exact hcl 47 _ q rfl { on := 16, ground := .phase } (by simp) (by decide)
      · exact hcl 47 _ q rfl { on := 17, ground := .phase } (by simp) (by decide)
      · exact hcl 47 _ q rfl { on := 18, ground := .phase } (by simp) (by decide)
      · exact hcl 47 _ q rfl { on := 19, ground := .phase } (by simp) (by decide)
      · exact hcl 47 _ q rfl { on := 20, ground := .phase } (by simp) (by decide)
      · exact hcl 47 _ q rfl { on := 21, ground := .phase } (by simp) (by decide)
      · exact hcl 47 _ q rfl { on := 22, ground := .phase } (by simp) (by decide)
      · exact hcl 47 _ q rfl { on := 23, ground := .phase } (by simp) (by decide)
      · exact hcl 47 _ q rfl { on := 24, ground := .phase } (by simp) (by decide)
      · exact hcl 47 _ q rfl { on := 25, ground := .phase } (by simp) (by decide)
      · exact hcl 47 _ q rfl { on := 26, ground := .phase } (by simp) (by decide)
      · exact hcl 47 _ q rfl { on := 27, ground := .phase } (by simp) (by decide)
      · exact hcl 47 _ q rfl { on := 28, ground := .phase } (by simp) (by decide)
      · exact hcl 47 _ q rfl { on := 29, ground := .phase } (by simp) (by decide)
      · exact hcl 47 _ q rfl { on := 30, ground := .phase } (by simp) (by decide)
      · exact hcl 47 _ q rfl { on := 31, ground := .phase } (by simp) (by decide)
      · exact hcl 47 _ q rfl { on := 32, ground := .phase } (by simp) (by decide)
      · exact hcl 47 _ q rfl { on := 33, ground := .phase } (by simp) (by decide)
      · exact hcl 47 _ q rfl { on := 34, ground := .phase } (by simp) (by decide)
      · exact hcl 47 _ q rfl { on := 35, ground := .phase } (by simp) (by decide)
      · exact hcl 47 _ q rfl { on := 36, ground := .phase } (by simp) (by decide)
      · exact hcl 47 _ q rfl { on := 37, ground := .phase } (by simp) (by decide)
      · exact hcl 47 _ q rfl { on := 38, ground := .phase } (by simp) (by decide)
      · exact hcl 47 _ q rfl { on := 39, ground := .phase } (by simp) (by decide)
      · exact hcl 47 _ q rfl { on := 40, ground := .phase } (by simp) (by decide)
      · exact hcl 47 _ q rfl { on := 41, ground := .phase } (by simp) (by decide)
      · exact hcl 47 _ q rfl { on := 42, ground := .phase } (by simp) (by decide)
      · exact hcl 47 _ q rfl { on := 43, ground := .phase } (by simp) (by decide)
      · exact hcl 47 _ q rfl { on := 44, ground := .phase } (by simp) (by decide)
      · exact hcl 47 _ q rfl { on := 45, ground := .phase } (by simp) (by decide)
      · exact hcl 47 _ q rfl { on := 46, ground := .phase } (by simp) (by decide)
    have n47' : i < 47 → listed.getD 47 false = false := fun h => by
      cases e : listed.getD 47 false with
      | false => rfl
      | true => rw [c47 e i h] at hi; cases hi
    clear c47 hcl
    have r9 : ac.tmps.getD 9 undef = .pointer (some ⟨S, 0, none⟩) := (g.other 9 (by decide) (.inl (by decide))).trans p9
    have r10 : ac.tmps.getD 10 undef = .pointer (some ⟨br, 0, none⟩) := (g.other 10 (by decide) (.inl (by decide))).trans p10
    obtain ⟨x0, x1, x2⟩ := g.xb.cells
    obtain ⟨F1, M, wo⟩ := g.world
    have s0 := wo.st
    have o0 := s0.ok
    have ha := HA.grew hms wo.grew
    have hb := HB.grew hms wo.grew
    have hc := HC.grew hms wo.grew
    rcases lt48 hi48 with rfl | rfl | rfl | rfl | rfl | rfl | rfl | rfl | rfl | rfl | rfl | rfl | rfl | rfl | rfl | rfl | rfl | rfl | rfl | rfl | rfl | rfl | rfl | rfl | rfl | rfl | rfl | rfl | rfl | rfl | rfl | rfl | rfl | rfl | rfl | rfl | rfl | rfl | rfl | rfl | rfl | rfl | rfl | rfl | rfl | rfl | rfl | rfl
    · simp at ho
      subst ho
      have n47 := n47' (by omega)
      refine wpOp_plain rfl rfl ?_
      go_simp
      exact g.go (i := 0) (by omega) n47 hsz wo s0 (Mdl.Grew.refl M) o0 (by rw [calls_ne (by decide)]; exact wo.up) wo.base wo.far (fun _ _ => Iff.rfl) (Out.below (Below.refl _ _)) _ rfl
    · simp at ho
      subst ho
      have n47 := n47' (by omega)
      refine wpOp_plain rfl rfl ?_
      go_simp
      exact g.go (i := 1) (by omega) n47 hsz wo s0 (Mdl.Grew.refl M) o0 (by rw [calls_ne (by decide)]; exact wo.up) wo.base wo.far (fun _ _ => Iff.rfl) (Out.below (Below.refl _ _)) _ rfl
    · simp at ho
      subst ho
      have n47 := n47' (by omega)
      have q0 : ac.tmps.getD 33 undef = .pointer (some ⟨br, 0, none⟩) := wo.vals 1 (by omega) (hdep { on := 1, ground := .data } (by simp) (by decide))
      refine wpOp_plain rfl rfl ?_
      go_simp
      exact g.go (i := 2) (by omega) n47 hsz wo s0 (Mdl.Grew.refl M) o0 (by rw [calls_ne (by decide)]; exact wo.up) wo.base wo.far (fun _ _ => Iff.rfl) (Out.below (Below.refl _ _)) _ rfl
    · simp at ho
      subst ho
      have n47 := n47' (by omega)
      have q0 : ac.tmps.getD 32 undef = .pointer (some ⟨S, 0, none⟩) := wo.vals 0 (by omega) (hdep { on := 0, ground := .data } (by simp) (by decide))
      have q1 : ac.tmps.getD 34 undef = .int .u32 (a : Int) := wo.vals 2 (by omega) (hdep { on := 2, ground := .data } (by simp) (by decide))
      have K := not_op s0 ha.1
      have cl : calls (listed.setIfInBounds 3 true) = calls listed + 1 := calls_at (by decide) hls hi
      have hcl' : calls listed ≤ 4 := by have := calls_le (listed.setIfInBounds 3 true); omega
      have wu := wo.up
      have eX : Eqt (ans M oNot a 0 0) (fN F) := fun y hy => by
        unfold ans
        rw [ha.2 y hy]
        rfl
      have dX : Dep M 0 (ans M oNot a 0 0) := ans_dep o0 ⟨ha.1, Nat.zero_le _⟩ ⟨.inl (by omega), Nat.zero_le _⟩ ⟨.inl (by omega), Nat.zero_le _⟩
      refine wpOp_plain rfl rfl ?_
      go_simp
      refine K.mono ?_
      intro e w2 hK
      obtain ⟨z, M2, F2, rfl, s2, gr2, up2, hz, wf2, has2⟩ := op_left s0 (wo.grew.n.trans hn8) (wo.grew.room.trans hr3) wu (by omega) dX eX hK
      exact g.go (i := 3) (by omega) n47 hsz wo s2 gr2 o0 (by omega) (Wf.far wo.base wf2 wo.base.size wo.far) (wf2.after wo.base.size wo.far) (fun hal X => by
        rw [has2 X]
        exact ⟨fun q => q.elim id fun q => by
          obtain ⟨y, hy⟩ := hal (fN F) (by simp [Five])
          have hy' := hy.grew hms wo.grew
          exact Prt.there o0 _ hy'.1 (Nat.le_refl _) ((Prt.like o0 (tbl_dep o0 hy'.1 (Nat.zero_le _)) hy'.2).2 q), .inl⟩) (Out.of s0 wf2) _ ⟨z, rfl, hz⟩
    · simp at ho
      subst ho
      have n47 := n47' (by omega)
      obtain ⟨z, q0, hz⟩ := wo.vals 3 (by omega) (hdep { on := 3, ground := .data } (by simp) (by decide))
      change ac.tmps.getD 35 undef = _ at q0
      refine wpOp_plain rfl rfl ?_
      go_simp
      exact g.go (i := 4) (by omega) n47 hsz wo s0 (Mdl.Grew.refl M) o0 (by rw [calls_ne (by decide)]; exact wo.up) wo.base wo.far (fun _ _ => Iff.rfl) (Out.below (Below.refl _ _)) _ ⟨z, rfl, hz⟩
    · simp at ho
      subst ho
      have n47 := n47' (by omega)
      obtain ⟨z, q0, hz⟩ := wo.vals 3 (by omega) (hdep { on := 3, ground := .data } (by simp) (by decide))
      change ac.tmps.getD 35 undef = _ at q0
      refine wpOp_plain rfl rfl ?_
      go_simp
      exact g.go (i := 5) (by omega) n47 hsz wo s0 (Mdl.Grew.refl M) o0 (by rw [calls_ne (by decide)]; exact wo.up) wo.base wo.far (fun _ _ => Iff.rfl) (Out.below (Below.refl _ _)) _ rfl
    · simp at ho
      subst ho
      have n47 := n47' (by omega)
      obtain ⟨z, q0, hz⟩ := wo.vals 4 (by omega) (hdep { on := 4, ground := .data } (by simp) (by decide))
      have q1 : ac.tmps.getD 37 undef = .int .i64 0 := wo.vals 5 (by omega) (hdep { on := 5, ground := .data } (by simp) (by decide))
      change ac.tmps.getD 36 undef = _ at q0
      refine wpOp_plain rfl rfl ?_
      go_simp
      refine (must_x z w').mono ?_
      rintro e w2 ⟨rfl, rfl⟩
      exact g.go (i := 6) (by omega) n47 hsz wo s0 (Mdl.Grew.refl M) o0 (by rw [calls_ne (by decide)]; exact wo.up) wo.base wo.far (fun _ _ => Iff.rfl) (Out.below (Below.refl _ _)) _ ⟨z, rfl, hz⟩
    · simp at ho
      subst ho
      have n47 := n47' (by omega)
      refine wpOp_plain rfl rfl ?_
      go_simp
      exact g.go (i := 7) (by omega) n47 hsz wo s0 (Mdl.Grew.refl M) o0 (by rw [calls_ne (by decide)]; exact wo.up) wo.base wo.far (fun _ _ => Iff.rfl) (Out.below (Below.refl _ _)) _ rfl
    · simp at ho
      subst ho
      have n47 := n47' (by omega)
      refine wpOp_plain rfl rfl ?_
      go_simp
      exact g.go (i := 8) (by omega) n47 hsz wo s0 (Mdl.Grew.refl M) o0 (by rw [calls_ne (by decide)]; exact wo.up) wo.base wo.far (fun _ _ => Iff.rfl) (Out.below (Below.refl _ _)) _ rfl
    · simp at ho
      subst ho
      have n47 := n47' (by omega)
      have q0 : ac.tmps.getD 40 undef = .pointer (some ⟨br, 0, none⟩) := wo.vals 8 (by omega) (hdep { on := 8, ground := .data } (by simp) (by decide))
      refine wpOp_plain rfl rfl ?_
      go_simp
      exact g.go (i := 9) (by omega) n47 hsz wo s0 (Mdl.Grew.refl M) o0 (by rw [calls_ne (by decide)]; exact wo.up) wo.base wo.far (fun _ _ => Iff.rfl) (Out.below (Below.refl _ _)) _ rfl
    · simp at ho
      subst ho
      have n47 := n47' (by omega)
      refine wpOp_plain rfl rfl ?_
      go_simp
      exact g.go (i := 10) (by omega) n47 hsz wo s0 (Mdl.Grew.refl M) o0 (by rw [calls_ne (by decide)]; exact wo.up) wo.base wo.far (fun _ _ => Iff.rfl) (Out.below (Below.refl _ _)) _ rfl
    · simp at ho
      subst ho
      have n47 := n47' (by omega)
      have q0 : ac.tmps.getD 42 undef = .pointer (some ⟨br, 1, none⟩) := wo.vals 10 (by omega) (hdep { on := 10, ground := .data } (by simp) (by decide))
      refine wpOp_plain rfl rfl ?_
      go_simp
      exact g.go (i := 11) (by omega) n47 hsz wo s0 (Mdl.Grew.refl M) o0 (by rw [calls_ne (by decide)]; exact wo.up) wo.base wo.far (fun _ _ => Iff.rfl) (Out.below (Below.refl _ _)) _ rfl
    · simp at ho
      subst ho
      have n47 := n47' (by omega)
      have q0 : ac.tmps.getD 39 undef = .pointer (some ⟨S, 0, none⟩) := wo.vals 7 (by omega) (hdep { on := 7, ground := .data } (by simp) (by decide))
      have q1 : ac.tmps.getD 41 undef = .int .u32 (a : Int) := wo.vals 9 (by omega) (hdep { on := 9, ground := .data } (by simp) (by decide))
      have q2 : ac.tmps.getD 43 undef = .int .u32 (b : Int) := wo.vals 11 (by omega) (hdep { on := 11, ground := .data } (by simp) (by decide))
      have K := and_op s0 ha.1 hb.1
      have cl : calls (listed.setIfInBounds 12 true) = calls listed + 1 := calls_at (by decide) hls hi
      have hcl' : calls listed ≤ 4 := by have := calls_le (listed.setIfInBounds 12 true); omega
      have wu := wo.up
      have eX : Eqt (ans M oAnd a b 0) (fA F G) := fun y hy => by
        unfold ans
        rw [ha.2 y hy, hb.2 y hy]
        rfl
      have dX : Dep M 0 (ans M oAnd a b 0) := ans_dep o0 ⟨ha.1, Nat.zero_le _⟩ ⟨hb.1, Nat.zero_le _⟩ ⟨.inl (by omega), Nat.zero_le _⟩
      refine wpOp_plain rfl rfl ?_
      go_simp
      refine K.mono ?_
      intro e w2 hK
      obtain ⟨z, M2, F2, rfl, s2, gr2, up2, hz, wf2, has2⟩ := op_left s0 (wo.grew.n.trans hn8) (wo.grew.room.trans hr3) wu (by omega) dX eX hK
      exact g.go (i := 12) (by omega) n47 hsz wo s2 gr2 o0 (by omega) (Wf.far wo.base wf2 wo.base.size wo.far) (wf2.after wo.base.size wo.far) (fun hal X => by
        rw [has2 X]
        exact ⟨fun q => q.elim id fun q => by
          obtain ⟨y, hy⟩ := hal (fA F G) (by simp [Five])
          have hy' := hy.grew hms wo.grew
          exact Prt.there o0 _ hy'.1 (Nat.le_refl _) ((Prt.like o0 (tbl_dep o0 hy'.1 (Nat.zero_le _)) hy'.2).2 q), .inl⟩) (Out.of s0 wf2) _ ⟨z, rfl, hz⟩
    · simp at ho
      subst ho
      have n47 := n47' (by omega)
      obtain ⟨z, q0, hz⟩ := wo.vals 12 (by omega) (hdep { on := 12, ground := .data } (by simp) (by decide))
      change ac.tmps.getD 44 undef = _ at q0
      refine wpOp_plain rfl rfl ?_
      go_simp
      exact g.go (i := 13) (by omega) n47 hsz wo s0 (Mdl.Grew.refl M) o0 (by rw [calls_ne (by decide)]; exact wo.up) wo.base wo.far (fun _ _ => Iff.rfl) (Out.below (Below.refl _ _)) _ ⟨z, rfl, hz⟩
    · simp at ho
      subst ho
      have n47 := n47' (by omega)
      obtain ⟨z, q0, hz⟩ := wo.vals 12 (by omega) (hdep { on := 12, ground := .data } (by simp) (by decide))
      change ac.tmps.getD 44 undef = _ at q0
      refine wpOp_plain rfl rfl ?_
      go_simp
      exact g.go (i := 14) (by omega) n47 hsz wo s0 (Mdl.Grew.refl M) o0 (by rw [calls_ne (by decide)]; exact wo.up) wo.base wo.far (fun _ _ => Iff.rfl) (Out.below (Below.refl _ _)) _ rfl
    · simp at ho
      subst ho
      have n47 := n47' (by omega)
      obtain ⟨z, q0, hz⟩ := wo.vals 13 (by omega) (hdep { on := 13, ground := .data } (by simp) (by decide))
      have q1 : ac.tmps.getD 46 undef = .int .i64 0 := wo.vals 14 (by omega) (hdep { on := 14, ground := .data } (by simp) (by decide))
      change ac.tmps.getD 45 undef = _ at q0
      refine wpOp_plain rfl rfl ?_
      go_simp
      refine (must_x z w').mono ?_
      rintro e w2 ⟨rfl, rfl⟩
      exact g.go (i := 15) (by omega) n47 hsz wo s0 (Mdl.Grew.refl M) o0 (by rw [calls_ne (by decide)]; exact wo.up) wo.base wo.far (fun _ _ => Iff.rfl) (Out.below (Below.refl _ _)) _ ⟨z, rfl, hz⟩
    · simp at ho
      subst ho
      have n47 := n47' (by omega)
      refine wpOp_plain rfl rfl ?_
      go_simp
      exact g.go (i := 16) (by omega) n47 hsz wo s0 (Mdl.Grew.refl M) o0 (by rw [calls_ne (by decide)]; exact wo.up) wo.base wo.far (fun _ _ => Iff.rfl) (Out.below (Below.refl _ _)) _ rfl
    · simp at ho
      subst ho
      have n47 := n47' (by omega)
      refine wpOp_plain rfl rfl ?_
      go_simp
      exact g.go (i := 17) (by omega) n47 hsz wo s0 (Mdl.Grew.refl M) o0 (by rw [calls_ne (by decide)]; exact wo.up) wo.base wo.far (fun _ _ => Iff.rfl) (Out.below (Below.refl _ _)) _ rfl
    · simp at ho
      subst ho
      have n47 := n47' (by omega)
      have q0 : ac.tmps.getD 49 undef = .pointer (some ⟨br, 1, none⟩) := wo.vals 17 (by omega) (hdep { on := 17, ground := .data } (by simp) (by decide))
      refine wpOp_plain rfl rfl ?_
      go_simp
      exact g.go (i := 18) (by omega) n47 hsz wo s0 (Mdl.Grew.refl M) o0 (by rw [calls_ne (by decide)]; exact wo.up) wo.base wo.far (fun _ _ => Iff.rfl) (Out.below (Below.refl _ _)) _ rfl
    · simp at ho
      subst ho
      have n47 := n47' (by omega)
      refine wpOp_plain rfl rfl ?_
      go_simp
      exact g.go (i := 19) (by omega) n47 hsz wo s0 (Mdl.Grew.refl M) o0 (by rw [calls_ne (by decide)]; exact wo.up) wo.base wo.far (fun _ _ => Iff.rfl) (Out.below (Below.refl _ _)) _ rfl
    · simp at ho
      subst ho
      have n47 := n47' (by omega)
      have q0 : ac.tmps.getD 51 undef = .pointer (some ⟨br, 2, none⟩) := wo.vals 19 (by omega) (hdep { on := 19, ground := .data } (by simp) (by decide))
      refine wpOp_plain rfl rfl ?_
      go_simp
      exact g.go (i := 20) (by omega) n47 hsz wo s0 (Mdl.Grew.refl M) o0 (by rw [calls_ne (by decide)]; exact wo.up) wo.base wo.far (fun _ _ => Iff.rfl) (Out.below (Below.refl _ _)) _ rfl
    · simp at ho
      subst ho
      have n47 := n47' (by omega)
      have q0 : ac.tmps.getD 48 undef = .pointer (some ⟨S, 0, none⟩) := wo.vals 16 (by omega) (hdep { on := 16, ground := .data } (by simp) (by decide))
      have q1 : ac.tmps.getD 50 undef = .int .u32 (b : Int) := wo.vals 18 (by omega) (hdep { on := 18, ground := .data } (by simp) (by decide))
      have q2 : ac.tmps.getD 52 undef = .int .u32 (c : Int) := wo.vals 20 (by omega) (hdep { on := 20, ground := .data } (by simp) (by decide))
      have K := or_op s0 hb.1 hc.1
      have cl : calls (listed.setIfInBounds 21 true) = calls listed + 1 := calls_at (by decide) hls hi
      have hcl' : calls listed ≤ 4 := by have := calls_le (listed.setIfInBounds 21 true); omega
      have wu := wo.up
      have eX : Eqt (ans M oOr b c 0) (fO G H) := fun y hy => by
        unfold ans
        rw [hb.2 y hy, hc.2 y hy]
        rfl
      have dX : Dep M 0 (ans M oOr b c 0) := ans_dep o0 ⟨hb.1, Nat.zero_le _⟩ ⟨hc.1, Nat.zero_le _⟩ ⟨.inl (by omega), Nat.zero_le _⟩
      refine wpOp_plain rfl rfl ?_
      go_simp
      refine K.mono ?_
      intro e w2 hK
      obtain ⟨z, M2, F2, rfl, s2, gr2, up2, hz, wf2, has2⟩ := op_left s0 (wo.grew.n.trans hn8) (wo.grew.room.trans hr3) wu (by omega) dX eX hK
      exact g.go (i := 21) (by omega) n47 hsz wo s2 gr2 o0 (by omega) (Wf.far wo.base wf2 wo.base.size wo.far) (wf2.after wo.base.size wo.far) (fun hal X => by
        rw [has2 X]
        exact ⟨fun q => q.elim id fun q => by
          obtain ⟨y, hy⟩ := hal (fO G H) (by simp [Five])
          have hy' := hy.grew hms wo.grew
          exact Prt.there o0 _ hy'.1 (Nat.le_refl _) ((Prt.like o0 (tbl_dep o0 hy'.1 (Nat.zero_le _)) hy'.2).2 q), .inl⟩) (Out.of s0 wf2) _ ⟨z, rfl, hz⟩
    · simp at ho
      subst ho
      have n47 := n47' (by omega)
      obtain ⟨z, q0, hz⟩ := wo.vals 21 (by omega) (hdep { on := 21, ground := .data } (by simp) (by decide))
      change ac.tmps.getD 53 undef = _ at q0
      refine wpOp_plain rfl rfl ?_
      go_simp
      exact g.go (i := 22) (by omega) n47 hsz wo s0 (Mdl.Grew.refl M) o0 (by rw [calls_ne (by decide)]; exact wo.up) wo.base wo.far (fun _ _ => Iff.rfl) (Out.below (Below.refl _ _)) _ ⟨z, rfl, hz⟩
    · simp at ho
      subst ho
      have n47 := n47' (by omega)
      obtain ⟨z, q0, hz⟩ := wo.vals 21 (by omega) (hdep { on := 21, ground := .data } (by simp) (by decide))
      change ac.tmps.getD 53 undef = _ at q0
      refine wpOp_plain rfl rfl ?_
      go_simp
      exact g.go (i := 23) (by omega) n47 hsz wo s0 (Mdl.Grew.refl M) o0 (by rw [calls_ne (by decide)]; exact wo.up) wo.base wo.far (fun _ _ => Iff.rfl) (Out.below (Below.refl _ _)) _ rfl
    · simp at ho
      subst ho
      have n47 := n47' (by omega)
      obtain ⟨z, q0, hz⟩ := wo.vals 22 (by omega) (hdep { on := 22, ground := .data } (by simp) (by decide))
      have q1 : ac.tmps.getD 55 undef = .int .i64 0 := wo.vals 23 (by omega) (hdep { on := 23, ground := .data } (by simp) (by decide))
      change ac.tmps.getD 54 undef = _ at q0
      refine wpOp_plain rfl rfl ?_
      go_simp
      refine (must_x z w').mono ?_
      rintro e w2 ⟨rfl, rfl⟩
      exact g.go (i := 24) (by omega) n47 hsz wo s0 (Mdl.Grew.refl M) o0 (by rw [calls_ne (by decide)]; exact wo.up) wo.base wo.far (fun _ _ => Iff.rfl) (Out.below (Below.refl _ _)) _ ⟨z, rfl, hz⟩
    · simp at ho
      subst ho
      have n47 := n47' (by omega)
      refine wpOp_plain rfl rfl ?_
      go_simp
      exact g.go (i := 25) (by omega) n47 hsz wo s0 (Mdl.Grew.refl M) o0 (by rw [calls_ne (by decide)]; exact wo.up) wo.base wo.far (fun _ _ => Iff.rfl) (Out.below (Below.refl _ _)) _ rfl
    · simp at ho
      subst ho
      have n47 := n47' (by omega)
      refine wpOp_plain rfl rfl ?_
      go_simp
      exact g.go (i := 26) (by omega) n47 hsz wo s0 (Mdl.Grew.refl M) o0 (by rw [calls_ne (by decide)]; exact wo.up) wo.base wo.far (fun _ _ => Iff.rfl) (Out.below (Below.refl _ _)) _ rfl
    · simp at ho
      subst ho
      have n47 := n47' (by omega)
      have q0 : ac.tmps.getD 58 undef = .pointer (some ⟨br, 0, none⟩) := wo.vals 26 (by omega) (hdep { on := 26, ground := .data } (by simp) (by decide))
      refine wpOp_plain rfl rfl ?_
      go_simp
      exact g.go (i := 27) (by omega) n47 hsz wo s0 (Mdl.Grew.refl M) o0 (by rw [calls_ne (by decide)]; exact wo.up) wo.base wo.far (fun _ _ => Iff.rfl) (Out.below (Below.refl _ _)) _ rfl
    · simp at ho
      subst ho
      have n47 := n47' (by omega)
      refine wpOp_plain rfl rfl ?_
      go_simp
      exact g.go (i := 28) (by omega) n47 hsz wo s0 (Mdl.Grew.refl M) o0 (by rw [calls_ne (by decide)]; exact wo.up) wo.base wo.far (fun _ _ => Iff.rfl) (Out.below (Below.refl _ _)) _ rfl
    · simp at ho
      subst ho
      have n47 := n47' (by omega)
      have q0 : ac.tmps.getD 60 undef = .pointer (some ⟨br, 2, none⟩) := wo.vals 28 (by omega) (hdep { on := 28, ground := .data } (by simp) (by decide))
      refine wpOp_plain rfl rfl ?_
      go_simp
      exact g.go (i := 29) (by omega) n47 hsz wo s0 (Mdl.Grew.refl M) o0 (by rw [calls_ne (by decide)]; exact wo.up) wo.base wo.far (fun _ _ => Iff.rfl) (Out.below (Below.refl _ _)) _ rfl
    · simp at ho
      subst ho
      have n47 := n47' (by omega)
      have q0 : ac.tmps.getD 57 undef = .pointer (some ⟨S, 0, none⟩) := wo.vals 25 (by omega) (hdep { on := 25, ground := .data } (by simp) (by decide))
      have q1 : ac.tmps.getD 59 undef = .int .u32 (a : Int) := wo.vals 27 (by omega) (hdep { on := 27, ground := .data } (by simp) (by decide))
      have q2 : ac.tmps.getD 61 undef = .int .u32 (c : Int) := wo.vals 29 (by omega) (hdep { on := 29, ground := .data } (by simp) (by decide))
      have K := xor_op s0 ha.1 hc.1
      have cl : calls (listed.setIfInBounds 30 true) = calls listed + 1 := calls_at (by decide) hls hi
      have hcl' : calls listed ≤ 4 := by have := calls_le (listed.setIfInBounds 30 true); omega
      have wu := wo.up
      have eX : Eqt (ans M oXor a c 0) (fX F H) := fun y hy => by
        unfold ans
        rw [ha.2 y hy, hc.2 y hy]
        rfl
      have dX : Dep M 0 (ans M oXor a c 0) := ans_dep o0 ⟨ha.1, Nat.zero_le _⟩ ⟨hc.1, Nat.zero_le _⟩ ⟨.inl (by omega), Nat.zero_le _⟩
      refine wpOp_plain rfl rfl ?_
      go_simp
      refine K.mono ?_
      intro e w2 hK
      obtain ⟨z, M2, F2, rfl, s2, gr2, up2, hz, wf2, has2⟩ := op_left s0 (wo.grew.n.trans hn8) (wo.grew.room.trans hr3) wu (by omega) dX eX hK
      exact g.go (i := 30) (by omega) n47 hsz wo s2 gr2 o0 (by omega) (Wf.far wo.base wf2 wo.base.size wo.far) (wf2.after wo.base.size wo.far) (fun hal X => by
        rw [has2 X]
        exact ⟨fun q => q.elim id fun q => by
          obtain ⟨y, hy⟩ := hal (fX F H) (by simp [Five])
          have hy' := hy.grew hms wo.grew
          exact Prt.there o0 _ hy'.1 (Nat.le_refl _) ((Prt.like o0 (tbl_dep o0 hy'.1 (Nat.zero_le _)) hy'.2).2 q), .inl⟩) (Out.of s0 wf2) _ ⟨z, rfl, hz⟩
    · simp at ho
      subst ho
      have n47 := n47' (by omega)
      obtain ⟨z, q0, hz⟩ := wo.vals 30 (by omega) (hdep { on := 30, ground := .data } (by simp) (by decide))
      change ac.tmps.getD 62 undef = _ at q0
      refine wpOp_plain rfl rfl ?_
      go_simp
      exact g.go (i := 31) (by omega) n47 hsz wo s0 (Mdl.Grew.refl M) o0 (by rw [calls_ne (by decide)]; exact wo.up) wo.base wo.far (fun _ _ => Iff.rfl) (Out.below (Below.refl _ _)) _ ⟨z, rfl, hz⟩
    · simp at ho
      subst ho
      have n47 := n47' (by omega)
      obtain ⟨z, q0, hz⟩ := wo.vals 30 (by omega) (hdep { on := 30, ground := .data } (by simp) (by decide))
      change ac.tmps.getD 62 undef = _ at q0
      refine wpOp_plain rfl rfl ?_
      go_simp
      exact g.go (i := 32) (by omega) n47 hsz wo s0 (Mdl.Grew.refl M) o0 (by rw [calls_ne (by decide)]; exact wo.up) wo.base wo.far (fun _ _ => Iff.rfl) (Out.below (Below.refl _ _)) _ rfl
    · simp at ho
      subst ho
      have n47 := n47' (by omega)
      obtain ⟨z, q0, hz⟩ := wo.vals 31 (by omega) (hdep { on := 31, ground := .data } (by simp) (by decide))
      have q1 : ac.tmps.getD 64 undef = .int .i64 0 := wo.vals 32 (by omega) (hdep { on := 32, ground := .data } (by simp) (by decide))
      change ac.tmps.getD 63 undef = _ at q0
      refine wpOp_plain rfl rfl ?_
      go_simp
      refine (must_x z w').mono ?_
      rintro e w2 ⟨rfl, rfl⟩
      exact g.go (i := 33) (by omega) n47 hsz wo s0 (Mdl.Grew.refl M) o0 (by rw [calls_ne (by decide)]; exact wo.up) wo.base wo.far (fun _ _ => Iff.rfl) (Out.below (Below.refl _ _)) _ ⟨z, rfl, hz⟩
    · simp at ho
      subst ho
      have n47 := n47' (by omega)
      refine wpOp_plain rfl rfl ?_
      go_simp
      exact g.go (i := 34) (by omega) n47 hsz wo s0 (Mdl.Grew.refl M) o0 (by rw [calls_ne (by decide)]; exact wo.up) wo.base wo.far (fun _ _ => Iff.rfl) (Out.below (Below.refl _ _)) _ rfl
    · simp at ho
      subst ho
      have n47 := n47' (by omega)
      refine wpOp_plain rfl rfl ?_
      go_simp
      exact g.go (i := 35) (by omega) n47 hsz wo s0 (Mdl.Grew.refl M) o0 (by rw [calls_ne (by decide)]; exact wo.up) wo.base wo.far (fun _ _ => Iff.rfl) (Out.below (Below.refl _ _)) _ rfl
    · simp at ho
      subst ho
      have n47 := n47' (by omega)
      have q0 : ac.tmps.getD 67 undef = .pointer (some ⟨br, 0, none⟩) := wo.vals 35 (by omega) (hdep { on := 35, ground := .data } (by simp) (by decide))
      refine wpOp_plain rfl rfl ?_
      go_simp
      exact g.go (i := 36) (by omega) n47 hsz wo s0 (Mdl.Grew.refl M) o0 (by rw [calls_ne (by decide)]; exact wo.up) wo.base wo.far (fun _ _ => Iff.rfl) (Out.below (Below.refl _ _)) _ rfl
    · simp at ho
      subst ho
      have n47 := n47' (by omega)
      refine wpOp_plain rfl rfl ?_
      go_simp
      exact g.go (i := 37) (by omega) n47 hsz wo s0 (Mdl.Grew.refl M) o0 (by rw [calls_ne (by decide)]; exact wo.up) wo.base wo.far (fun _ _ => Iff.rfl) (Out.below (Below.refl _ _)) _ rfl
    · simp at ho
      subst ho
      have n47 := n47' (by omega)
      have q0 : ac.tmps.getD 69 undef = .pointer (some ⟨br, 1, none⟩) := wo.vals 37 (by omega) (hdep { on := 37, ground := .data } (by simp) (by decide))
      refine wpOp_plain rfl rfl ?_
      go_simp
      exact g.go (i := 38) (by omega) n47 hsz wo s0 (Mdl.Grew.refl M) o0 (by rw [calls_ne (by decide)]; exact wo.up) wo.base wo.far (fun _ _ => Iff.rfl) (Out.below (Below.refl _ _)) _ rfl
    · simp at ho
      subst ho
      have n47 := n47' (by omega)
      refine wpOp_plain rfl rfl ?_
      go_simp
      exact g.go (i := 39) (by omega) n47 hsz wo s0 (Mdl.Grew.refl M) o0 (by rw [calls_ne (by decide)]; exact wo.up) wo.base wo.far (fun _ _ => Iff.rfl) (Out.below (Below.refl _ _)) _ rfl
    · simp at ho
      subst ho
      have n47 := n47' (by omega)
      have q0 : ac.tmps.getD 71 undef = .pointer (some ⟨br, 2, none⟩) := wo.vals 39 (by omega) (hdep { on := 39, ground := .data } (by simp) (by decide))
      refine wpOp_plain rfl rfl ?_
      go_simp
      exact g.go (i := 40) (by omega) n47 hsz wo s0 (Mdl.Grew.refl M) o0 (by rw [calls_ne (by decide)]; exact wo.up) wo.base wo.far (fun _ _ => Iff.rfl) (Out.below (Below.refl _ _)) _ rfl
    · simp at ho
      subst ho
      have n47 := n47' (by omega)
      have q0 : ac.tmps.getD 66 undef = .pointer (some ⟨S, 0, none⟩) := wo.vals 34 (by omega) (hdep { on := 34, ground := .data } (by simp) (by decide))
      have q1 : ac.tmps.getD 68 undef = .int .u32 (a : Int) := wo.vals 36 (by omega) (hdep { on := 36, ground := .data } (by simp) (by decide))
      have q2 : ac.tmps.getD 70 undef = .int .u32 (b : Int) := wo.vals 38 (by omega) (hdep { on := 38, ground := .data } (by simp) (by decide))
      have q3 : ac.tmps.getD 72 undef = .int .u32 (c : Int) := wo.vals 40 (by omega) (hdep { on := 40, ground := .data } (by simp) (by decide))
      have K := ite_op s0 ha.1 hb.1 hc.1
      have cl : calls (listed.setIfInBounds 41 true) = calls listed + 1 := calls_at (by decide) hls hi
      have hcl' : calls listed ≤ 4 := by have := calls_le (listed.setIfInBounds 41 true); omega
      have wu := wo.up
      have eX : Eqt (ans M oIte a b c) (fI F G H) := fun y hy => by
        unfold ans
        rw [ha.2 y hy, hb.2 y hy, hc.2 y hy]
        rfl
      have dX : Dep M 0 (ans M oIte a b c) := ans_dep o0 ⟨ha.1, Nat.zero_le _⟩ ⟨hb.1, Nat.zero_le _⟩ ⟨hc.1, Nat.zero_le _⟩
      refine wpOp_plain rfl rfl ?_
      go_simp
      refine K.mono ?_
      intro e w2 hK
      obtain ⟨z, M2, F2, rfl, s2, gr2, up2, hz, wf2, has2⟩ := op_left s0 (wo.grew.n.trans hn8) (wo.grew.room.trans hr3) wu (by omega) dX eX hK
      exact g.go (i := 41) (by omega) n47 hsz wo s2 gr2 o0 (by omega) (Wf.far wo.base wf2 wo.base.size wo.far) (wf2.after wo.base.size wo.far) (fun hal X => by
        rw [has2 X]
        exact ⟨fun q => q.elim id fun q => by
          obtain ⟨y, hy⟩ := hal (fI F G H) (by simp [Five])
          have hy' := hy.grew hms wo.grew
          exact Prt.there o0 _ hy'.1 (Nat.le_refl _) ((Prt.like o0 (tbl_dep o0 hy'.1 (Nat.zero_le _)) hy'.2).2 q), .inl⟩) (Out.of s0 wf2) _ ⟨z, rfl, hz⟩
    · simp at ho
      subst ho
      have n47 := n47' (by omega)
      obtain ⟨z, q0, hz⟩ := wo.vals 41 (by omega) (hdep { on := 41, ground := .data } (by simp) (by decide))
      change ac.tmps.getD 73 undef = _ at q0
      refine wpOp_plain rfl rfl ?_
      go_simp
      exact g.go (i := 42) (by omega) n47 hsz wo s0 (Mdl.Grew.refl M) o0 (by rw [calls_ne (by decide)]; exact wo.up) wo.base wo.far (fun _ _ => Iff.rfl) (Out.below (Below.refl _ _)) _ ⟨z, rfl, hz⟩
    · simp at ho
      subst ho
      have n47 := n47' (by omega)
      obtain ⟨z, q0, hz⟩ := wo.vals 41 (by omega) (hdep { on := 41, ground := .data } (by simp) (by decide))
      change ac.tmps.getD 73 undef = _ at q0
      refine wpOp_plain rfl rfl ?_
      go_simp
      exact g.go (i := 43) (by omega) n47 hsz wo s0 (Mdl.Grew.refl M) o0 (by rw [calls_ne (by decide)]; exact wo.up) wo.base wo.far (fun _ _ => Iff.rfl) (Out.below (Below.refl _ _)) _ rfl
    · simp at ho
      subst ho
      have n47 := n47' (by omega)
      obtain ⟨z, q0, hz⟩ := wo.vals 42 (by omega) (hdep { on := 42, ground := .data } (by simp) (by decide))
      have q1 : ac.tmps.getD 75 undef = .int .i64 0 := wo.vals 43 (by omega) (hdep { on := 43, ground := .data } (by simp) (by decide))
      change ac.tmps.getD 74 undef = _ at q0
      refine wpOp_plain rfl rfl ?_
      go_simp
      refine (must_x z w').mono ?_
      rintro e w2 ⟨rfl, rfl⟩
      exact g.go (i := 44) (by omega) n47 hsz wo s0 (Mdl.Grew.refl M) o0 (by rw [calls_ne (by decide)]; exact wo.up) wo.base wo.far (fun _ _ => Iff.rfl) (Out.below (Below.refl _ _)) _ ⟨z, rfl, hz⟩
    · simp at ho
      subst ho
      have n47 := n47' (by omega)
      obtain ⟨z1, q0, h0⟩ := wo.vals 6 (by omega) (hdep { on := 6, ground := .data } (by simp) (by decide))
      change ac.tmps.getD 38 undef = _ at q0
      obtain ⟨z2, q1, h1⟩ := wo.vals 15 (by omega) (hdep { on := 15, ground := .data } (by simp) (by decide))
      change ac.tmps.getD 47 undef = _ at q1
      obtain ⟨z3, q2, h2⟩ := wo.vals 24 (by omega) (hdep { on := 24, ground := .data } (by simp) (by decide))
      change ac.tmps.getD 56 undef = _ at q2
      obtain ⟨z4, q3, h3⟩ := wo.vals 33 (by omega) (hdep { on := 33, ground := .data } (by simp) (by decide))
      change ac.tmps.getD 65 undef = _ at q3
      obtain ⟨z5, q4, h4⟩ := wo.vals 44 (by omega) (hdep { on := 44, ground := .data } (by simp) (by decide))
      change ac.tmps.getD 76 undef = _ at q4
      simp only [Array.getD_eq_getD_getElem?] at q0 q1 q2 q3 q4
      refine wpOp_plain rfl rfl ?_
      go_simp
      exact g.go (i := 45) (by omega) n47 hsz wo s0 (Mdl.Grew.refl M) o0 (by rw [calls_ne (by decide)]; exact wo.up) wo.base wo.far (fun _ _ => Iff.rfl) (Out.below (Below.refl _ _)) _ ⟨z1, z2, z3, z4, z5, rfl, h0, h1, h2, h3, h4⟩
    · simp at ho
      subst ho
      have n47 := n47' (by omega)
      refine wpOp_plain rfl rfl ?_
      go_simp
      have bl' := nb w' (.cells #[.int .u32 0, .int .u32 0, .int .u32 0, .int .u32 0, .int .u32 0] 47)
      exact g.go (i := 46) (by omega) n47 hsz wo (s0.below bl') (Mdl.Grew.refl M) o0 (by rw [calls_ne (by decide)]; exact wo.up) (Rf.below_far wo.base bl') wo.far (fun _ _ => Iff.rfl) (Out.below bl') _ ⟨w'.heap.size, rfl, fun e => by have := g.lb.lt; omega, wo.base.size, _, _, _, _, _, Go.Deep.blk_alloc_new _ _⟩
    · simp at ho
      subst ho
      obtain ⟨g5, q0, g1, g2, x1', x2', x3', x4', x5', q3⟩ := wo.vals 46 (by omega) (hdep { on := 46, ground := .data } (by simp) (by decide))
      obtain ⟨z1, z2, z3, z4, z5, q1, h1, h2, h3, h4, h5⟩ := wo.vals 45 (by omega) (hdep { on := 45, ground := .data } (by simp) (by decide))
      change ac.tmps.getD 15 undef = _ at q0
      change ac.tmps.getD 77 undef = _ at q1
      have I5 : Is5 w' g5 x1' x2' x3' x4' x5' := q3
      obtain ⟨y0, y1, y2, y3, y4⟩ := I5.cells
      have f0 := I5.free 0
      have f1 := I5.free 1
      have f2 := I5.free 2
      have f3 := I5.free 3
      have f4 := I5.free 4
      refine wpOp_plain rfl rfl ?_
      go_simp
      have t := laid5_turned w' g5 (.int .u32 (z1 : Int)) (.int .u32 (z2 : Int)) (.int .u32 (z3 : Int)) (.int .u32 (z4 : Int)) (.int .u32 (z5 : Int))
      have s2 : St (laid5 w' g5 (.int .u32 (z1 : Int)) (.int .u32 (z2 : Int)) (.int .u32 (z3 : Int)) (.int .u32 (z4 : Int)) (.int .u32 (z5 : Int))) S F1 M := s0.kept fun k hk => t.block k (s0.lt k hk) fun e => s0.row q3 (by decide) (e ▸ hk)
      have nx : br ≠ g5 := fun e => by
        have h := g.xb
        unfold Is3 at h
        rw [e, q3] at h
        simp at h
      have wo2 : Wo W S br bl F G H a b c b0 Ms (listed.setIfInBounds 47 true) ac (laid5 w' g5 (.int .u32 (z1 : Int)) (.int .u32 (z2 : Int)) (.int .u32 (z3 : Int)) (.int .u32 (z4 : Int)) (.int .u32 (z5 : Int))) F1 M := by
        refine ⟨s2, wo.grew, by rw [calls_ne (by decide)]; exact wo.up, wo.base.trans (t.below wo.base.size g2), wo.far, wo.all, fun j hj hl => ?_⟩
        rw [getD_set_ne false (by omega)] at hl
        have v := wo.vals j hj hl
        by_cases e : j = 46
        · subst e
          obtain ⟨g6, q0', g1', g2', _, _, _, _, _, _⟩ := v
          obtain rfl : g5 = g6 := by
            have e1 : slot ac 15 = .pointer (some ⟨g5, 0, none⟩) := q0
            have e2 : slot ac 15 = .pointer (some ⟨g6, 0, none⟩) := q0'
            rw [e1] at e2
            simpa using e2
          exact ⟨g5, q0', g1', g2', _, _, _, _, _, laid5_is I5 _ _ _ _ _⟩
        · revert v
          unfold pvT
          rcases lt47 hj with rfl | rfl | rfl | rfl | rfl | rfl | rfl | rfl | rfl | rfl | rfl | rfl | rfl | rfl | rfl | rfl | rfl | rfl | rfl | rfl | rfl | rfl | rfl | rfl | rfl | rfl | rfl | rfl | rfl | rfl | rfl | rfl | rfl | rfl | rfl | rfl | rfl | rfl | rfl | rfl | rfl | rfl | rfl | rfl | rfl | rfl | rfl <;> first | exact id | exact absurd rfl e
      exact ⟨g.size, g.defers, g.other, (t.block br g.xb.lt nx).trans g.xb, (t.block bl g.lb.lt g1.symm).trans g.lb, ⟨F1, M, wo2⟩, fun _ => ⟨F1, M, wo2, g5, z1, z2, z3, z4, z5, q0, g1, g2, laid5_is I5 _ _ _ _ _, h1, h2, h3, h4, h5⟩⟩
  · intro listed ac w' hall g
    exact done listed ac w' g (hall 47 (by show 47 < 48; omega))
end Go.Proofs.YtffhmelgpnmbbaaGreat
