/-
  What is reached, without a program; a slice of handles that is made.
-/
import Derived.Test.YteickckgljlacaaGreatMkH
namespace Go.Proofs.YteickckgljlacaaGreat.Mk
open Go Go.RowKit

section
variable {M : Mdl} {H H' : Nat → Nat} {j n n' : Nat} {ks ls : List Nat}
/-- Nothing is reached but what is closed under it and has the roots. -/
theorem Rch.le (o : M.Ok) (r : Rch M H j ks) (top : ∀ i, i < j → H i < 2 ∨ H i ∈ ls) (cl : ∀ k ∈ ls, ((M.nd k).2.1 < 2 ∨ (M.nd k).2.1 ∈ ls) ∧ ((M.nd k).2.2 < 2 ∨ (M.nd k).2.2 ∈ ls)) : ∀ k ∈ ks, k ∈ ls := fun k hk =>
  (r.only (fun x => x < 2 ∨ x ∈ ls) top (fun x hx q => cl x (q.resolve_left fun h => by have := (o.range x hx).1; omega)) k hk).resolve_left fun h => by have := (o.range k (r.inn k hk)).1; omega
theorem Rch.sub (o : M.Ok) (r : Rch M H n ks) (r' : Rch M H' n' ls) (h : ∀ i, i < n → H i < 2 ∨ ∃ i', i' < n' ∧ H' i' = H i) : ∀ k ∈ ks, k ∈ ls :=
  r.le o (fun i hi => (h i hi).elim .inl fun ⟨i', hi', e⟩ => e ▸ r'.top i' hi') r'.closed
theorem rising_same : ∀ {a b : List Nat}, a.Pairwise (· < ·) → b.Pairwise (· < ·) → (∀ x, x ∈ a ↔ x ∈ b) → a = b
  | [], [], _, _, _ => rfl
  | [], y :: b, _, _, h => by have := (h y).2 (by simp); cases this
  | x :: a, [], _, _, h => by have := (h x).1 (by simp); cases this
  | x :: a, y :: b, ha, hb, h => by
    rw [List.pairwise_cons] at ha hb
    have hxy : x = y := by
      rcases List.mem_cons.1 ((h x).1 (by simp)) with e | e
      · exact e
      · rcases List.mem_cons.1 ((h y).2 (by simp)) with e2 | e2
        · exact e2.symm
        · have := hb.1 x e
          have := ha.1 y e2
          omega
    subst hxy
    rw [rising_same ha.2 hb.2 fun z => ?_]
    constructor
    · intro hz
      rcases List.mem_cons.1 ((h z).1 (List.mem_cons_of_mem _ hz)) with e | e
      · have := ha.1 z hz; omega
      · exact e
    · intro hz
      rcases List.mem_cons.1 ((h z).2 (List.mem_cons_of_mem _ hz)) with e | e
      · have := hb.1 z hz; omega
      · exact e
theorem Rch.same (o : M.Ok) (r : Rch M H n ks) (r' : Rch M H' n' ls) (u : ks.Pairwise (· < ·)) (u' : ls.Pairwise (· < ·)) (h : ∀ i, i < n → H i < 2 ∨ ∃ i', i' < n' ∧ H' i' = H i) (h' : ∀ i, i < n' → H' i < 2 ∨ ∃ i', i' < n ∧ H i' = H' i) : ks = ls :=
  rising_same u u' fun x => ⟨r.sub o r' h x, r'.sub o r h' x⟩
/-- What was kept is reached again, and no more. -/
theorem Rch.again (o : M.Ok) (r : Rch M H n ks) (u : ks.Pairwise (· < ·)) (r' : Rch (Mk.only M ks) H' n' ls) (u' : ls.Pairwise (· < ·)) (h : ∀ i, i < n → H i < 2 ∨ ∃ i', i' < n' ∧ H' i' = H i) : ls = ks :=
  rising_same u' u fun x => ⟨fun hx => r'.inn x hx, fun hx => r.le o (fun i hi => (h i hi).elim .inl fun ⟨i', hi', e⟩ => e ▸ r'.top i' hi') r'.closed x hx⟩
theorem Rch.none (r : Rch M H 0 ks) : ks = [] := by
  cases ks with
  | nil => rfl
  | cons x l => exact (r.only (fun _ => False) (fun i hi => by omega) (fun _ _ h => h.elim) x (by simp)).elim
end
theorem HsAt.zero (w : World) (ad : Option Addr) (H : Nat → Nat) : HsAt w ad 0 H := .inl rfl
theorem hs_cells {u : World} {b : Nat} {cs : Array Value} (h : u.heap[b]? = some (.cells cs 38 (0, 0))) {n : Nat} {H : Nat → Nat} (e : ∀ i, i < n → cs[i]? = some (.int .u32 (H i : Int))) : HsAt u (some ⟨b, 0, Option.none⟩) n H :=
  .inr ⟨b, 0, rfl, (Array.getElem?_eq_some_iff.1 h).1, fun i hi => by rw [Nat.zero_add]; simp [World.cell?, h, e i hi]⟩
theorem hs_one (w : World) (a : Nat) : HsAt (w.alloc (.cells #[.int .u32 (a : Int)] 38)) (some ⟨w.heap.size, 0, none⟩) 1 (fun _ => a) := hs_cells (heap_alloc_new w _) fun i hi => by
  obtain rfl : i = 0 := by omega
  rfl
/-- Roots as a list tells them. -/
def at2 (a c : Nat) (i : Nat) : Nat := if i = 0 then a else c
def at3 (a c d : Nat) (i : Nat) : Nat := if i = 0 then a else if i = 1 then c else d
theorem hs_two (w : World) (a c : Nat) : HsAt (w.alloc (.cells #[.int .u32 (a : Int), .int .u32 (c : Int)] 38)) (some ⟨w.heap.size, 0, none⟩) 2 (at2 a c) := hs_cells (heap_alloc_new w _) fun i hi => by
  have : i = 0 ∨ i = 1 := by omega
  rcases this with rfl | rfl <;> rfl
theorem hs_three (w : World) (a c d : Nat) : HsAt (w.alloc (.cells #[.int .u32 (a : Int), .int .u32 (c : Int), .int .u32 (d : Int)] 38)) (some ⟨w.heap.size, 0, none⟩) 3 (at3 a c d) := hs_cells (heap_alloc_new w _) fun i hi => by
  have : i = 0 ∨ i = 1 ∨ i = 2 := by omega
  rcases this with rfl | rfl | rfl <;> rfl
section
variable {w : World} {S : Nat} {F : Nat → Prop} {M : Mdl} {ad : Option Addr} {n cap : Nat} {H : Nat → Nat}
theorem lt32 (o : M.Ok) {x : Nat} (h : M.isNode x) : x < 4294967296 := by have := Mdl.isNode_lt o h; omega
theorem reach_yes (s : St w S F M) (hl : HsAt w ad n H) (all : ∀ i, i < n → M.isNode (H i)) (hn : n ≤ 1000000) :
    Calls Tryz.prog 56 #[.pointer (Option.some ⟨S, 0, none⟩), .slice ad n cap] w fun e w' => ∃ ad' cap' xs, e = .returned (.tuple #[.slice ad' xs.length cap', .int .i64 0]) ∧ Rch M H n xs ∧ xs.Pairwise (· < ·) ∧ OwnR 38 w' w.heap.size ad' xs.length cap' (fun i => .int .u32 (xs.getD i 0 : Nat)) ∧ Below w.heap.size w w' :=
  (reach_any (cap := cap) s hl (fun i hi => lt32 s.ok (all i hi)) hn).mono fun e w' q => by
    rcases q with ⟨_, r⟩ | ⟨⟨i, hi, hq⟩, _⟩
    · exact r
    · exact absurd (all i hi) hq
theorem collect_yes (s : St w S F M) (hl : HsAt w ad n H) (all : ∀ i, i < n → M.isNode (H i)) (hn : n ≤ 1000000) :
    Calls Tryz.prog 30 #[.pointer (some ⟨S, 0, none⟩), .slice ad n cap] w fun e w' => ∃ xs F', e = .returned (.tuple #[.int .i64 ((M.hs.length : Int) - (xs.length : Int)), .int .i64 0]) ∧ Rch M H n xs ∧ xs.Pairwise (· < ·) ∧ St w' S F' (only M xs) ∧ Wf F F' w w' :=
  (collect_any (cap := cap) s hl (fun i hi => lt32 s.ok (all i hi)) hn).mono fun e w' q => by
    rcases q with ⟨_, r⟩ | ⟨⟨i, hi, hq⟩, _⟩
    · exact r
    · exact absurd (all i hi) hq
theorem collect_no (s : St w S F M) (hl : HsAt w ad n H) (hb : ∀ i, i < n → H i < 4294967296) (no : ∃ i, i < n ∧ ¬ M.isNode (H i)) (hn : n ≤ 1000000) :
    Calls Tryz.prog 30 #[.pointer (some ⟨S, 0, none⟩), .slice ad n cap] w fun e w' => e = .returned (.tuple #[.int .i64 0, .int .i64 101]) ∧ St w' S F M ∧ Below w.heap.size w w' :=
  (collect_any (cap := cap) s hl hb hn).mono fun e w' q => by
    rcases q with ⟨all, _⟩ | ⟨_, r⟩
    · obtain ⟨i, hi, hq⟩ := no
      exact absurd (all i hi) hq
    · exact r
theorem reach_no (s : St w S F M) (hl : HsAt w ad n H) (hb : ∀ i, i < n → H i < 4294967296) (no : ∃ i, i < n ∧ ¬ M.isNode (H i)) (hn : n ≤ 1000000) :
    Calls Tryz.prog 56 #[.pointer (Option.some ⟨S, 0, none⟩), .slice ad n cap] w fun e w' => e = .returned (.tuple #[.slice Option.none 0 0, .int .i64 101]) ∧ Below w.heap.size w w' :=
  (reach_any (cap := cap) s hl hb hn).mono fun e w' q => by
    rcases q with ⟨all, _⟩ | ⟨_, r⟩
    · obtain ⟨i, hi, hq⟩ := no
      exact absurd (all i hi) hq
    · exact r
end
end Go.Proofs.YteickckgljlacaaGreat.Mk
