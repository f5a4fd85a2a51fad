/-
  The queue in memory: its head, its row of pairs, its map of places.
-/
import Derived.Test.YthcjmbfhcdkffaaRow
namespace Go.Proofs.Ythcjmbfhcdkffaa
open Go Go.RowKit

/-- A number's place among the first n. -/
def Places (n : Nat) (I : Nat → Int × Int) (P : Int → Option Int) : Prop := ∀ k j, P k = some j ↔ ∃ i : Nat, i < n ∧ (I i).1 = k ∧ j = (i : Int)

/-- The queue at Q: its row in ad, its map in mp. -/
structure IsQ (w : World) (Q : Nat) (ad : Option Addr) (n cap : Nat) (mp : Option Nat) (I : Nat → Int × Int) : Prop where
  head : w.heap[Q]? = some (.cells #[.slice ad n cap, .map mp] 51 (0, 0))
  row : OwnP w ad n cap I
  apart : Blk ad fun b => Q < b
  ids : Ids n I
  none_ : mp = none → n = 0
  some_ : ∀ m, mp = some m → ∃ P, IsMap w m P ∧ Places n I P ∧ Q < m

/-- The queue's own blocks. -/
def Foot (Q : Nat) (ad : Option Addr) (mp : Option Nat) (k : Nat) : Prop := k = Q ∨ (∃ a, ad = some a ∧ a.block = k) ∨ mp = some k

namespace IsQ
variable {w w' : World} {Q n cap : Nat} {ad : Option Addr} {mp : Option Nat} {I : Nat → Int × Int}
theorem lt (h : IsQ w Q ad n cap mp I) : Q < w.heap.size := (Array.getElem?_eq_some_iff.1 h.head).1
theorem foot_lt (h : IsQ w Q ad n cap mp I) {k : Nat} (hk : Foot Q ad mp k) : k < w.heap.size := by
  rcases hk with rfl | ⟨a, ha, rfl⟩ | hm
  · exact h.lt
  · exact h.row.lt a ha
  · obtain ⟨P, hP, _⟩ := h.some_ k hm
    exact hP.lt
theorem cell0 (h : IsQ w Q ad n cap mp I) : w.cell? ⟨Q, 0, none⟩ = some (.slice ad n cap) := by simp [World.cell?, h.head]
theorem cell1 (h : IsQ w Q ad n cap mp I) : w.cell? ⟨Q, 1, none⟩ = some (.map mp) := by simp [World.cell?, h.head]
theorem frozen (h : IsQ w Q ad n cap mp I) (i : Nat) : w.frozen? ⟨Q, i, none⟩ = false := by simp [World.frozen?, h.head]
theorem kept (h : IsQ w Q ad n cap mp I) (k : ∀ b, Foot Q ad mp b → w'.heap[b]? = w.heap[b]?) : IsQ w' Q ad n cap mp I :=
  ⟨(k _ (.inl rfl)).trans h.head, h.row.kept fun a ha => k _ (.inr (.inl ⟨a, ha, rfl⟩)), h.apart, h.ids, h.none_, fun m hm => by
    obtain ⟨P, h1, h2⟩ := h.some_ m hm
    exact ⟨P, h1.same (k _ (.inr (.inr hm))), h2⟩⟩
theorem below (h : IsQ w Q ad n cap mp I) (k : Below w.heap.size w w') : IsQ w' Q ad n cap mp I := h.kept fun _ hb => k.block _ (h.foot_lt hb)
theorem drew (h : IsQ w Q ad n cap mp I) : IsQ w.drew Q ad n cap mp I := h.kept fun _ _ => rfl
theorem new (h : IsQ w Q ad n cap mp I) (o : Obj) : IsQ (w.alloc o) Q ad n cap mp I := h.kept fun _ hb => Below.heap_alloc _ _ _ (h.foot_lt hb)
end IsQ

section
variable {w : World} {Q n cap : Nat} {ad : Option Addr} {mp : Option Nat} {I : Nat → Int × Int}

theorem rlen_any (h : IsQ w Q ad n cap mp I) :
    Calls Try.prog 23 #[.pointer (some ⟨Q, 0, none⟩)] w fun e w' => e = .returned (.int .i64 (n : Int)) ∧ w' = w := by
  have c0 := h.cell0
  go_enter Try.func23, Try.ntmps23
  go_wp2
  go_ret
  exact ⟨rfl, rfl⟩

theorem look_any (h : IsQ w Q ad n cap mp I) (i : Nat) (hi : i < n) :
    Calls Try.prog 22 #[.pointer (some ⟨Q, 0, none⟩), .int .i64 (i : Int)] w fun e w' => e = .returned (.agg #[.int .i64 (I i).1, .int .i64 (I i).2]) ∧ Below w.heap.size w w' := by
  have c0 := h.cell0
  obtain ⟨g, rfl, hp⟩ := h.row.form (by omega)
  have p0 := hp.cell0 hi
  have p1 := hp.cell1 hi
  have hg := hp.lt
  have hQ := h.lt
  have hi' : (i : Int) < (n : Int) := by omega
  go_enter Try.func22, Try.ntmps22
  go_wp2
  exact bodyPost_ret (v := .agg #[.int .i64 (I i).1, .int .i64 (I i).2]) (by simp [results, Try.results22, go_sem]) rfl ⟨rfl, (Below.refl _ _).alloc (Nat.le_refl _) _⟩

theorem less_any (h : IsQ w Q ad n cap mp I) (i j : Nat) (hi : i < n) (hj : j < n) :
    Calls Try.prog 44 #[.pointer (some ⟨Q, 0, none⟩), .int .i64 (i : Int), .int .i64 (j : Int)] w fun e w' => e = .returned (.bool (bet (I i) (I j))) ∧ Below w.heap.size w w' := by
  have c0 := h.cell0
  obtain ⟨g, rfl, hp⟩ := h.row.form (by omega)
  have p0 := hp.cell0 hi
  have p1 := hp.cell1 hi
  have q0 := hp.cell0 hj
  have q1 := hp.cell1 hj
  have hg := hp.lt
  have hQ := h.lt
  have hi' : (i : Int) < (n : Int) := by omega
  have hj' : (j : Int) < (n : Int) := by omega
  obtain ⟨x, hx⟩ : ∃ x, I i = x := ⟨_, rfl⟩
  obtain ⟨y, hy⟩ : ∃ y, I j = y := ⟨_, rfl⟩
  rw [hx] at p0 p1 ⊢
  rw [hy] at q0 q1 ⊢
  clear hx hy
  obtain ⟨x0, x1⟩ := x
  obtain ⟨y0, y1⟩ := y
  simp only at p0 p1 q0 q1
  have hB : ∀ a b : Array Value, Below w.heap.size w (((w.alloc (.cells a 30)).alloc (.cells b 30)).drew) := fun a b => (((Below.refl _ w).alloc (Nat.le_refl _) _).alloc (by simp) _).drew
  by_cases e : x1 = y1
  · subst e
    have hb : bet (x0, x1) (y0, x1) = decide (x0 < y0) := by simp [bet]
    rw [hb]
    go_enter Try.func44, Try.ntmps44
    go_wp2
    go_region
    all_goals
      go_wp2
      go_ret
      exact ⟨rfl, hB _ _⟩
  · have hb : bet (x0, x1) (y0, y1) = decide (y1 < x1) := by simp [bet, e]
    rw [hb]
    go_enter Try.func44, Try.ntmps44
    go_wp2
    go_region
    all_goals
      go_wp2
      go_ret
      exact ⟨rfl, hB _ _⟩
end
end Go.Proofs.Ythcjmbfhcdkffaa
