/-
  For MarkCollects: what was made and kept, root by root.
-/
import Derived.Test.YtlmbofbdncgaiaaGreatMkS
namespace Go.Proofs.YtlmbofbdncgaiaaGreat.Mk
open Go Go.RowKit
open Rf (tab word IsTab TabsAt)

/-- A box of four handles. -/
def H4 (w : World) (b : Nat) (h : Nat → Int) : Prop := w.heap[b]? = some (.cells #[.int .u32 (h 0), .int .u32 (h 1), .int .u32 (h 2), .int .u32 (h 3)] 33 (0, 0))
theorem H4.cell {w : World} {b : Nat} {h : Nat → Int} (k : H4 w b h) {i : Nat} (hi : i < 4) : w.cell? ⟨b, i, none⟩ = some (.int .u32 (h i)) := by
  have : i = 0 ∨ i = 1 ∨ i = 2 ∨ i = 3 := by omega
  unfold H4 at k
  rcases this with rfl | rfl | rfl | rfl <;> simp [World.cell?, k]
theorem H4.free {w : World} {b : Nat} {h : Nat → Int} (k : H4 w b h) (i : Nat) : w.frozen? ⟨b, i, none⟩ = false := by
  unfold H4 at k
  simp [World.frozen?, k]
theorem H4.set {w : World} {b : Nat} {h : Nat → Int} (k : H4 w b h) {j : Nat} (hj : j < 4) (v : Int) : H4 (w.setCell ⟨b, j, none⟩ (.int .u32 v)) b (fun i => if i = j then v else h i) := by
  have : j = 0 ∨ j = 1 ∨ j = 2 ∨ j = 3 := by omega
  unfold H4 at *
  rcases this with rfl | rfl | rfl | rfl <;> simp [World.setCell, Array.getElem?_modify, k]
/-- A root? -/
def rbit (z : Int) (i : Nat) : Bool := bits BinOp.and IntKind.u8 (z / 2 ^ i) 1 == 1
def kl (z : Int) (j : Nat) : List Nat := (List.range j).filter (rbit z)
theorem kl_yes {z : Int} {j : Nat} (h : rbit z j = true) : kl z (j + 1) = kl z j ++ [j] := by simp [kl, List.range_succ, List.filter_append, h]
theorem kl_no {z : Int} {j : Nat} (h : rbit z j = false) : kl z (j + 1) = kl z j := by simp [kl, List.range_succ, List.filter_append, h]
theorem kl_lt {z : Int} {j i : Nat} (h : i ∈ kl z j) : i < j := List.mem_range.1 (List.mem_filter.1 h).1
theorem kl_len (z : Int) (j : Nat) : (kl z j).length ≤ j := by
  have := List.length_filter_le (rbit z) (List.range j)
  rwa [List.length_range] at this
theorem kl_get {z : Int} {j t : Nat} (h : t < (kl z j).length) : (kl z j).getD t 0 ∈ kl z j := by
  rw [List.getD_eq_getElem?_getD, List.getElem?_eq_getElem h]
  exact List.getElem_mem h
/-- One more is known. -/
def put1 (hv : Nat → Nat) (j x i : Nat) : Nat := if i = j then x else hv i
theorem put1_new (hv : Nat → Nat) (j x : Nat) : put1 hv j x j = x := if_pos rfl
theorem put1_old {hv : Nat → Nat} {j x i : Nat} (h : i < j) : put1 hv j x i = hv i := if_neg (by omega)
/-- What holds of what was made and kept so far. -/
structure Cp (M : Mdl) (T : Nat → Nat → Bool) (z : Int) (hv : Nat → Nat) (P : Int → Option Int) (m j : Nat) : Prop where
  n : M.n = 8
  room : M.room = 330
  up : M.up ≤ 63 * j
  node : ∀ i, i < j → M.isNode (hv i) ∧ Eqt (M.tbl (hv i)) (T i)
  few : m ≤ j
  cnt : ∀ k, 0 ≤ (P k).getD 0 ∧ (P k).getD 0 ≤ (m : Int)
  held : ∀ x, (P x).isSome = true ↔ ∃ i, i ∈ kl z j ∧ x = (hv i : Int)
section
variable {M M' : Mdl} {T : Nat → Nat → Bool} {z : Int} {hv : Nat → Nat} {P : Int → Option Int} {m j x : Nat}
theorem Cp.node' (c : Cp M T z hv P m j) (o : M.Ok) (k : MadeIs M 0 (T j) x M') : ∀ i, i < j + 1 → M'.isNode (put1 hv j x i) ∧ Eqt (M'.tbl (put1 hv j x i)) (T i) := fun i hi => by
  by_cases e : i = j
  · rw [e, put1_new]
    exact ⟨k.node, k.tbl⟩
  · rw [put1_old (by omega)]
    obtain ⟨a, b⟩ := c.node i (by omega)
    exact ⟨k.grew.isNode a, fun y hy => (k.grew.tbl o a y).trans (b y hy)⟩
theorem Cp.no (c : Cp M T z hv P m j) (o : M.Ok) (k : MadeIs M 0 (T j) x M') (up : M'.up ≤ M.up + 63) (h : rbit z j = false) : Cp M' T z (put1 hv j x) P m (j + 1) := by
  refine ⟨k.grew.n.trans c.n, k.grew.room.trans c.room, by have := c.up; omega, c.node' o k, by have := c.few; omega, c.cnt, fun y => ?_⟩
  rw [c.held y, kl_no h]
  constructor
  · rintro ⟨i, hi, e⟩
    exact ⟨i, hi, by rw [put1_old (kl_lt hi)]; exact e⟩
  · rintro ⟨i, hi, e⟩
    rw [put1_old (kl_lt hi)] at e
    exact ⟨i, hi, e⟩
theorem Cp.yes (c : Cp M T z hv P m j) (o : M.Ok) (k : MadeIs M 0 (T j) x M') (up : M'.up ≤ M.up + 63) (h : rbit z j = true) : Cp M' T z (put1 hv j x) (Rs.at1 P (x : Int) (some ((P (x : Int)).getD 0 + 1))) (m + 1) (j + 1) := by
  refine ⟨k.grew.n.trans c.n, k.grew.room.trans c.room, by have := c.up; omega, c.node' o k, by have := c.few; omega, fun y => ?_, fun y => ?_⟩
  · have h1 := c.cnt y
    have h2 := c.cnt (x : Int)
    unfold Rs.at1
    by_cases e : y = (x : Int)
    · rw [if_pos e, Option.getD_some]; omega
    · rw [if_neg e]; omega
  · unfold Rs.at1
    rw [kl_yes h]
    by_cases e : y = (x : Int)
    · rw [if_pos e]
      exact ⟨fun _ => ⟨j, by simp, by rw [put1_new]; exact e⟩, fun _ => rfl⟩
    · rw [if_neg e, c.held y]
      constructor
      · rintro ⟨i, hi, q⟩
        exact ⟨i, List.mem_append.2 (.inl hi), by rw [put1_old (kl_lt hi)]; exact q⟩
      · rintro ⟨i, hi, q⟩
        rcases List.mem_append.1 hi with hi | hi
        · exact ⟨i, hi, by rw [put1_old (kl_lt hi)] at q; exact q⟩
        · rw [List.mem_singleton.1 hi, put1_new] at q
          exact absurd q e
/-- The row of handles that are kept. -/
theorem keep_yes {w : World} {B c : Nat} {ad : Option Addr} (o : OwnR 32 w B ad ((kl z j).length + 1) c (fun i => if i = (kl z j).length then .int .u32 (x : Int) else .int .u32 (hv ((kl z j).getD i 0) : Nat))) (h : rbit z j = true) : OwnR 32 w B ad (kl z (j + 1)).length c (fun t => .int .u32 (put1 hv j x ((kl z (j + 1)).getD t 0) : Nat)) := by
  rw [kl_yes h, List.length_append, List.length_singleton]
  refine o.congr fun t ht => ?_
  by_cases e : t = (kl z j).length
  · rw [if_pos e, e]
    simp [List.getD_eq_getElem?_getD, put1_new]
  · have ht' : t < (kl z j).length := by omega
    rw [if_neg e, List.getD_eq_getElem?_getD (l := kl z j ++ [j]), List.getElem?_append_left ht', ← List.getD_eq_getElem?_getD, put1_old (kl_lt (kl_get ht'))]
theorem keep_no {w : World} {B c : Nat} {ad : Option Addr} (o : OwnR 32 w B ad (kl z j).length c (fun i => .int .u32 (hv ((kl z j).getD i 0) : Nat))) (h : rbit z j = false) : OwnR 32 w B ad (kl z (j + 1)).length c (fun t => .int .u32 (put1 hv j x ((kl z (j + 1)).getD t 0) : Nat)) := by
  rw [kl_no h]
  exact o.congr fun t ht => by rw [put1_old (kl_lt (kl_get ht))]
theorem kept_yes {w : World} {B c : Nat} {ad : Option Addr} (o : Rf.Own w B ad ((kl z j).map T ++ [T j]) c) (h : rbit z j = true) : Rf.Own w B ad ((kl z (j + 1)).map T) c := by
  rw [kl_yes h, List.map_append]
  exact o
theorem kept_no {w : World} {B c : Nat} {ad : Option Addr} (o : Rf.Own w B ad ((kl z j).map T) c) (h : rbit z j = false) : Rf.Own w B ad ((kl z (j + 1)).map T) c := by
  rw [kl_no h]
  exact o
theorem box_next {w : World} {b : Nat} (h : H4 w b (fun i => if i = j then (x : Int) else if i < j then (hv i : Int) else 0)) : H4 w b (fun i => if i < j + 1 then (put1 hv j x i : Int) else 0) := by
  have e : (fun i => if i < j + 1 then (put1 hv j x i : Int) else 0) = (fun i => if i = j then (x : Int) else if i < j then (hv i : Int) else 0) := funext fun i => by
    by_cases c : i = j
    · rw [if_pos c, if_pos (by omega), c, put1_new]
    · rw [if_neg c]
      by_cases d : i < j
      · rw [if_pos d, if_pos (by omega), put1_old d]
      · rw [if_neg d, if_neg (by omega)]
  rw [e]
  exact h
theorem toA {p : Prop} (h : p) : Aside p := h
theorem tabs_apart {w : World} {B c b : Nat} {ad : Option Addr} {ts : List (Nat → Bool)} {cur : Array Value} {e : TypeId} (k : Rf.Own w B ad ts c) (hk : w.heap[b]? = some (.cells cur e (0, 0))) (he : e ≠ 24) : ¬ At ad b := fun hb' => by
  obtain ⟨_, k2⟩ := k
  rcases k2 with ⟨q, _⟩ | ⟨g, cap', cur', hv, _, hg, _⟩
  · have : ad = none := by injection q
    rw [this] at hb'
    obtain ⟨a, q, _⟩ := hb'
    cases q
  · have q : ad = some ⟨g, 0, none⟩ := by injection hv
    rw [q] at hb'
    obtain ⟨a, q, rfl⟩ := hb'
    cases q
    change w.heap[g]? = _ at hk
    rw [hg] at hk
    injection hk with hk
    injection hk with _ hk
    exact he hk.symm
/-- A row of handles and a row of tables lie apart. -/
theorem rows_apart {w : World} {B B' n c c' : Nat} {ad ad' : Option Addr} {V : Nat → Value} {ts : List (Nat → Bool)} (h : OwnR 32 w B ad n c V) (k : Rf.Own w B' ad' ts c') : ∀ b, At ad b → ¬ At ad' b := fun b hb => by
  obtain ⟨cur, hc⟩ := h.kind b hb
  exact tabs_apart k hc (by decide)
/-- What the four roots come to. -/
structure Rts (M : Mdl) (T : Nat → Nat → Bool) (z : Int) (hv : Nat → Nat) (P : Int → Option Int) (ts : List (Nat → Bool)) (H : Nat → Nat) : Prop where
  roots : Roots M H ts
  few : ts.length ≤ 4
  held : ∀ x : Int, Held P 1 (fun _ => []) x ↔ ∃ t, t < ts.length ∧ x = (H t : Int)
  bit : ∀ i, i < 4 → rbit z i = true → ∃ t, t < ts.length ∧ H t = hv i ∧ tl ts t = T i
theorem tl_kl (T : Nat → Nat → Bool) {t : Nat} (h : t < (kl z j).length) : tl ((kl z j).map T) t = T ((kl z j).getD t 0) := by
  unfold tl
  rw [List.getD_eq_getElem?_getD, List.getD_eq_getElem?_getD, List.getElem?_map, List.getElem?_eq_getElem h]
  rfl
theorem Cp.rts (c : Cp M T z hv P m 4) : Rts M T z hv P ((kl z 4).map T) (fun t => hv ((kl z 4).getD t 0)) := by
  have hl : ((kl z 4).map T).length = (kl z 4).length := List.length_map _
  refine ⟨⟨c.n, fun i hi => ?_⟩, by rw [hl]; exact kl_len z 4, fun x => ?_, fun i hi h => ?_⟩
  · rw [hl] at hi
    rw [tl_kl T hi]
    exact c.node _ (kl_lt (kl_get hi))
  · rw [hl]
    unfold Held
    rw [c.held x]
    constructor
    · rintro (⟨i, hi, e⟩ | ⟨k, _, hk⟩)
      · obtain ⟨t, ht, q⟩ := List.getElem_of_mem hi
        exact ⟨t, ht, by rw [e]; show (hv i : Int) = (hv ((kl z 4).getD t 0) : Int); rw [List.getD_eq_getElem?_getD, List.getElem?_eq_getElem ht, Option.getD_some, q]⟩
      · cases hk
    · rintro ⟨t, ht, e⟩
      exact .inl ⟨_, kl_get ht, e⟩
  · have hm : i ∈ kl z 4 := List.mem_filter.2 ⟨List.mem_range.2 hi, h⟩
    obtain ⟨t, ht, q⟩ := List.getElem_of_mem hm
    have e : (kl z 4).getD t 0 = i := by rw [List.getD_eq_getElem?_getD, List.getElem?_eq_getElem ht, Option.getD_some, q]
    exact ⟨t, by rw [hl]; exact ht, by show hv ((kl z 4).getD t 0) = hv i; rw [e], by rw [tl_kl T ht, e]⟩
end
section
variable {B w w' : World} {S R m n : Nat} {M : Mdl} {P : Int → Option Int} {T : Nat → List Int} {X : Nat → Prop} {xs : List Nat} {ts : List (Nat → Bool)}
theorem size_here (o : M.Ok) {ad : Option Addr} {b c : Nat} (hl : TabsAt w ad ts.length (tl ts)) (hv : w.rowIs b 3 M.n (fun i => .int .i64 (M.v i : Int))) (few : ts.length ≤ 1000) :
    Calls Tryz.prog 15 #[.slice ad ts.length c, .slice (some ⟨b, 0, none⟩) M.n M.n] w fun e w' => e = .returned (.int .i64 (sizeN M (tl ts) ts.length : Int)) ∧ Below w.heap.size w w' :=
  size_any ad ts.length c (tl ts) _ M.n M.n _ w few o.le8 hl (ints_of hv)
theorem Rfx.all_only (h : Rfx B w S R m n (only M xs) P T X) : Calls Tryz.prog 21 #[.pointer (some ⟨S, 0, none⟩)] w fun e w' => ∃ ad cap, e = .returned (.slice ad xs.length cap) ∧ HsAt w' ad xs.length (fun i => xs.getD i 0) ∧ Below w.heap.size w w' := by
  obtain ⟨F, s⟩ := h.st
  refine (s_all s).mono ?_
  rintro e w' ⟨ad, cap, rfl, o, b⟩
  exact ⟨ad, cap, rfl, HsAt.own o, b⟩
theorem Rfx.once (h : Rfx B w S R m n M P T X) : Calls Tryz.prog 22 #[.pointer (some ⟨S, 0, none⟩)] w fun e w' => e = .returned (.bool true) ∧ Below w.heap.size w w' := by
  obtain ⟨F, s⟩ := h.st
  exact once_any s
end
section
variable {M : Mdl} {T : Nat → Nat → Bool} {z : Int} {hv : Nat → Nat} {P : Int → Option Int} {ts : List (Nat → Bool)} {H H' : Nat → Nat} {xs ys : List Nat} {k : Nat}
/-- A Sweep keeps what was reached. -/
theorem Rts.swept (q : Rts M T z hv P ts H) (o : M.Ok) (r : Rch M H ts.length xs) (up : xs.Pairwise (· < ·)) (r' : Rch M H' k ys) (up' : ys.Pairwise (· < ·)) (q1 : ∀ y : Nat, 2 ≤ y → ((∃ i, i < k ∧ H' i = y) ↔ Held P 1 (fun _ => []) (y : Int))) (q2 : ∀ i, i < k → 2 ≤ H' i) : ys = xs := by
  refine Rch.same o r' r up' up (fun i hi => .inr ?_) (fun i hi => ?_)
  · obtain ⟨t, ht, e⟩ := (q.held _).1 ((q1 (H' i) (q2 i hi)).1 ⟨i, hi, rfl⟩)
    exact ⟨t, ht, by omega⟩
  · by_cases c : H i < 2
    · exact .inl c
    · exact .inr ((q1 (H i) (by omega)).2 ((q.held _).2 ⟨i, hi, rfl⟩))
theorem Rch.same' (o : M.Ok) (r : Rch M H k xs) (up : xs.Pairwise (· < ·)) (r' : Rch M H k ys) (up' : ys.Pairwise (· < ·)) : ys = xs :=
  Rch.same o r' r up' up (fun i hi => .inr ⟨i, hi, rfl⟩) (fun i hi => .inr ⟨i, hi, rfl⟩)
theorem Rts.node (q : Rts M T z hv P ts H) : ∀ x, Held P 1 (fun _ => []) x → ∃ y : Nat, x = (y : Int) ∧ M.isNode y := fun x hx => by
  obtain ⟨t, ht, e⟩ := (q.held x).1 hx
  exact ⟨H t, e, (q.roots.here t ht).1⟩
end
end Go.Proofs.YtlmbofbdncgaiaaGreat.Mk
