/-
  What is reached, without a program; a slice of handles that is made.
-/
import Derived.Test.YteickckgljlacaaGreatMkH
namespace Go.Proofs.YteickckgljlacaaGreat.Mk
open Go Go.RowKit

section
variable {M : Mdl} {H H' : Nat → Nat} {j n n' : Nat} {ks ls : List Nat}
/-- Nothing is reached but what is closed under it and has the roots. -/
theorem Rch.le (o : M.Ok) (r : Rch M H j ks) (top : ∀ i, i < j → H i < 2 ∨ H i ∈ ls) (cl : ∀ k ∈ ls, ((M.nd k).2.1 < 2 ∨ (M.nd k).2.1 ∈ ls) ∧ ((M.nd k).2.2 < 2 ∨ (M.nd k).2.2 ∈ ls)) : ∀ k ∈ ks, k ∈ ls := fun k hk =>
  (r.only (fun x => x < 2 ∨ x ∈ ls) top (fun x hx q => cl x (q.resolve_left fun h => by have := (o.range x hx).1; omega)) k hk).resolve_left fun h => by have := (o.range k (r.inn k hk)).1; omega
theorem Rch.sub (o : M.Ok) (r : Rch M H n ks) (r' : Rch M H' n' ls) (h : ∀ i, i < n → H i < 2 ∨ ∃ i', i' < n' ∧ H' i' = H i) : ∀ k ∈ ks, k ∈ ls :=
  r.le o (fun i hi => (h i hi).elim .inl fun ⟨i', hi', e⟩ => e ▸ r'.top i' hi') r'.closed
theorem rising_same : ∀ {a b : List Nat}, a.Pairwise (· < ·) → b.Pairwise (· < ·) → (∀ x, x ∈ a ↔ x ∈ b) → a = b
  | [], [], _, _, _ => rfl
  | [], y :: b, _, _, h => by have := (h y).2 (by simp); cases this
  | x :: a, [], _, _, h => by have := (h x).1 (by simp); cases this
  | x :: a, y :: b, ha, hb, h => by
    rw [List.pairwise_cons] at ha hb
    have hxy : x = y := by
      rcases List.mem_cons.1 ((h x).1 (by simp)) with e | e
      · exact e
      · rcases List.mem_cons.1 ((h y).2 (by simp)) with e2 | e2
        · exact e2.symm
        · have := hb.1 x e
          have := ha.1 y e2
          omega
    subst hxy
    rw [rising_same ha.2 hb.2 fun z => ?_]
    constructor
    · intro hz
      rcases List.mem_cons.1 ((h z).1 (List.mem_cons_of_mem _ hz)) with e | e
      · have := ha.1 z hz; omega
      · exact e
    · intro hz
      rcases List.mem_cons.1 ((h z).2 (List.mem_cons_of_mem _ hz)) with e | e
      · have := hb.1 z hz; omega
      · exact e
theorem Rch.same (o : M.Ok) (r : Rch M H n ks) (r' : Rch M H' n' ls) (u : ks.Pairwise (· < ·)) (u' : ls.Pairwise (· < ·)) (h : ∀ i, i < n → H i < 2 ∨ ∃ i', i' < n' ∧ H' i' = H i) (h' : ∀ i, i < n' → H' i < 2 ∨ ∃ i', i' < n ∧ H i' = H' i) : ks = ls :=
  rising_same u u' fun x => ⟨r.sub o r' h x, r'.sub o r h' x⟩
/-- What was kept is reached again, and no more. -/
theorem Rch.again (o : M.Ok) (r : Rch M H n ks) (u : ks.Pairwise (· < ·)) (r' : Rch (Mk.only M ks) H' n' ls) (u' : ls.Pairwise (· < ·)) (h : ∀ i, i < n → H i < 2 ∨ ∃ i', i' < n' ∧ H' i' = H i) : ls = ks :=
  rising_same u' u fun x => ⟨fun hx => r'.inn x hx, fun hx => r.le o (fun i hi => (h i hi).elim .inl fun ⟨i', hi', e⟩ => e ▸ r'.top i' hi') r'.closed x hx⟩
theorem Rch.none (r : Rch M H 0 ks) : ks = [] := by
  cases ks with
  | nil => rfl
  | cons x l => exact (r.only (fun _ => False) (fun i hi => by omega) (fun _ _ h => h.elim) x (by simp)).elim
end
theorem HsAt.zero (w : World) (ad : Option Addr) (H : Nat → Nat) : HsAt w ad 0 H := .inl rfl
/-- Roots as a list tells them. -/
def at2 (a c : Nat) (i : Nat) : Nat := if i = 0 then a else c
def at3 (a c d : Nat) (i : Nat) : Nat := if i = 0 then a else if i = 1 then c else d
section
variable {w : World} {S : Nat} {F : Nat → Prop} {M : Mdl} {ad : Option Addr} {n cap : Nat} {H : Nat → Nat}
theorem lt32 (o : M.Ok) {x : Nat} (h : M.isNode x) : x < 4294967296 := by have := Mdl.isNode_lt o h; omega
theorem collect_yes (s : St w S F M) (hl : HsAt w ad n H) (all : ∀ i, i < n → M.isNode (H i)) (hn : n ≤ 1000000) :
    Calls Tryz.prog 30 #[.pointer (some ⟨S, 0, none⟩), .slice ad n cap] w fun e w' => ∃ xs F', e = .returned (.tuple #[.int .i64 ((M.hs.length : Int) - (xs.length : Int)), .int .i64 0]) ∧ Rch M H n xs ∧ xs.Pairwise (· < ·) ∧ St w' S F' (only M xs) ∧ Wf F F' w w' :=
  (collect_any (cap := cap) s hl (fun i hi => lt32 s.ok (all i hi)) hn).mono fun e w' q => by
    rcases q with ⟨_, r⟩ | ⟨⟨i, hi, hq⟩, _⟩
    · exact r
    · exact absurd (all i hi) hq
end
end Go.Proofs.YteickckgljlacaaGreat.Mk
