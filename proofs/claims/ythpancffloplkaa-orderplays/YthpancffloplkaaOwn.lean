/-
  Slices of numbers that a call makes and appends to.
-/
import Derived.Test.YthpancffloplkaaKnown
import Derived.Deep.AppendLies
import Derived.Deep.AppendSrc
import Derived.Deep.Upon
namespace Go.Proofs.Ythpancffloplkaa
open Go Go.RowKit

def intsL (n : Nat) (Z : Nat → Int) : List Value := (List.range n).map fun i => Value.int .i64 (Z i)
theorem intsL_length (n : Nat) (Z : Nat → Int) : (intsL n Z).length = n := by simp [intsL]
theorem intsL_succ (n : Nat) (Z : Nat → Int) : intsL (n + 1) Z = intsL n Z ++ [.int .i64 (Z n)] := by simp [intsL, List.range_succ]
theorem intsL_get (n : Nat) (Z : Nat → Int) {i : Nat} (hi : i < n) : (intsL n Z)[i]? = some (.int .i64 (Z i)) := by simp [intsL, hi]
theorem intsL_one (n : Nat) (Z : Nat → Int) : ∀ u ∈ intsL n Z, u.oneCell' = true := by
  intro u hu
  obtain ⟨i, _, rfl⟩ := List.mem_map.1 hu
  rfl

/-- The slice owns its numbers: empty and nil, or the head of a block of the call's own. -/
def OwnI (w : World) (B : Nat) (ad : Option Addr) (n cap : Nat) (Z : Nat → Int) : Prop := w.ownsRow B 3 1 (.slice ad n cap) n (intsL n Z)

def blockOf (ad : Option Addr) : Option Nat := ad.map (·.block)

section
variable {w w' : World} {B n cap : Nat} {ad : Option Addr} {Z : Nat → Int}
theorem OwnI.form (h : OwnI w B ad n cap Z) (hn : 0 < n) : ∃ g, ad = some ⟨g, 0, none⟩ ∧ B ≤ g ∧ g < w.heap.size := by
  obtain ⟨g, cap', hv, hb, hlt⟩ := World.ownsRow.form h hn
  exact ⟨g, by injection hv, hb, hlt⟩
theorem OwnI.ints (h : OwnI w B ad n cap Z) : IntsAt w ad n Z := by
  by_cases h0 : n = 0
  · exact .inl h0
  · obtain ⟨g, rfl, _, hlt⟩ := h.form (by omega)
    refine .inr ⟨g, 0, rfl, hlt, fun i hi => ?_⟩
    rw [Nat.zero_add, World.ownsRow.cellAt h i (by omega)]
    exact intsL_get n Z hi
theorem OwnI.cell {g : Nat} (h : OwnI w B (some ⟨g, 0, none⟩) n cap Z) {i : Nat} (hi : i < n) : w.cell? ⟨g, i, none⟩ = some (.int .i64 (Z i)) := by
  rw [World.ownsRow.cellAt h i (by omega)]
  exact intsL_get n Z hi
theorem IntsAt.apart {P : Nat} (h : IntsAt w ad n Z) (hn : 0 < n) (hP : w.heap.size ≤ P) : ∀ a, ad = some a → a.block ≠ P := by
  intro a ha
  rcases h with h | ⟨b, off, e, hb, _⟩
  · omega
  · rw [e] at ha
    cases ha
    show b ≠ P
    omega
theorem OwnI.frozen {g : Nat} (h : OwnI w B (some ⟨g, 0, none⟩) n cap Z) (j : Nat) : w.frozen? ⟨g, j, none⟩ = false := World.ownsRow.frozenAt h j
theorem OwnI.nil (w : World) (B : Nat) (Z : Nat → Int) : OwnI w B none 0 0 Z := World.ownsRow_nil w B 3 1
theorem OwnI.block (h : OwnI w B ad n cap Z) : ∀ a, ad = some a → B ≤ a.block ∧ a.block < w.heap.size := by
  intro a ha
  subst ha
  exact World.ownsRow.lt h a.block rfl
theorem OwnI.kept (h : OwnI w B ad n cap Z) (k : ∀ a, ad = some a → w'.heap[a.block]? = w.heap[a.block]?) : OwnI w' B ad n cap Z := by
  obtain ⟨h1, h2⟩ := h
  refine ⟨h1, ?_⟩
  rcases h2 with h2 | ⟨g, cap', cur, hv, hb, hh, r⟩
  · exact .inl h2
  · have had : ad = some ⟨g, 0, none⟩ := by injection hv
    exact .inr ⟨g, cap', cur, hv, hb, (k _ had).trans hh, r⟩
theorem OwnI.below (h : OwnI w B ad n cap Z) (k : Below w.heap.size w w') : OwnI w' B ad n cap Z := h.kept fun a ha => k.block _ (h.block a ha).2
theorem OwnI.moved {P : Nat} (h : OwnI w B ad n cap Z) (k : Moved P w w') (hP : P < B) : OwnI w' B ad n cap Z :=
  h.kept fun a ha => k.block _ (h.block a ha).2 (by have := (h.block a ha).1; omega)
theorem OwnI.new (h : OwnI w B ad n cap Z) (o : Obj) : OwnI (w.alloc o) B ad n cap Z := h.kept fun a ha => Below.heap_alloc _ _ _ (h.block a ha).2
theorem OwnI.drew (h : OwnI w B ad n cap Z) : OwnI w.drew B ad n cap Z := h
end

/-- One number more, as the walk meets it. -/
theorem append_int {w : World} {B n cap : Nat} {ad : Option Addr} {Z : Nat → Int} (hown : OwnI w B ad n cap Z) (blk : Nat) (hblk : w.heap[blk]? = some (.cells #[.int .i64 (Z n)] 3 (0, 0))) (hn : n ≤ 1000000) (hB : B ≤ w.heap.size)
    {ops : Array Oper} {rest : List Oper} {o : Oper} {a : Act} {Q : Exit → Act → World → Prop} (hgd : o.guard = none) (s x : Operand)
    (ho : o.op = .call { callee := .builtin .append, args := #[s, x], argTypes := #[26, 26] }) (hs : a.eval s = .slice ad n cap) (hx : a.eval x = .slice (some ⟨blk, 0, none⟩) 1 1)
    (h : ∀ g cap' w', OwnI w' B (some ⟨g, 0, none⟩) (n + 1) cap' Z → Below B w w' → wpList Try.prog ops Q rest (a.put o.dst (.slice (some ⟨g, 0, none⟩) (n + 1) cap')) w') :
    wpList Try.prog ops Q (o :: rest) a w := by
  obtain ⟨i, hi, hz, hsz, hby⟩ := info_parts info3
  have hob : (Value.slice ad n cap).ownBlock = blockOf ad := by cases ad <;> rfl
  refine wpList_append_lies (P := Try.prog) w hgd s x 26 ho B 3 i _ 1 8 Try.underlying26 hi hz hsz hby (by kernel_rfl) (by decide) (.slice ad n cap) n (intsL n Z) hs hown ⟨blk, 0, none⟩ 1 1 [.int .i64 (Z n)] hx rfl (World.news_of_block hblk) ?_ (by decide) ?_ ?_ hB w.heap.size rfl ?_
  · intro u hu
    simp only [List.mem_cons, List.not_mem_nil, or_false] at hu
    subst hu
    rfl
  · simp only [maxLen]; omega
  · omega
  · intro g cap' w' o1 o2 o3 o4
    rw [hob] at o2
    refine h g cap' w' ?_ ⟨o2.os, o2.tape, o2.output, o2.size, fun k hk => o2.block k (by omega) fun e => ?_⟩
    · unfold OwnI
      rw [intsL_succ]
      exact o1
    · cases ad with
      | none => simp [blockOf] at e
      | some a =>
        have e' : k = a.block := by simpa [blockOf] using e
        have := (hown.block a rfl).1
        omega

/-- A copy of a slice of numbers ('append([]int(nil), l...)'). -/
theorem run_append_copy {w : World} {n c : Nat} {ad : Option Addr} {Z : Nat → Int} (h : IntsAt w ad n Z) (hn : n ≤ 1000000) (ty : TypeId) :
    ∃ ad' cap' w', (Builtin.append_ #[26, 26] ty #[.slice none 0 0, .slice ad n c]).run Try.prog w = .ok (.slice ad' n cap') w' ∧ OwnI w' w.heap.size ad' n cap' Z ∧ Below w.heap.size w w' := by
  obtain ⟨i, hi, hz, hsz, hby⟩ := info_parts info3
  have some_case : ∀ a : Addr, ad = some a → (∀ j u, (intsL n Z)[j]? = some u → w.cell? (a.add j) = some u) →
      ∃ ad' cap' w', (Builtin.append_ #[26, 26] ty #[.slice none 0 0, .slice ad n c]).run Try.prog w = .ok (.slice ad' n cap') w' ∧ OwnI w' w.heap.size ad' n cap' Z ∧ Below w.heap.size w w' := by
    intro a ha hc
    subst ha
    obtain ⟨v', w', hrun, r1, r2, _⟩ := run_append_own (P := Try.prog) w w.heap.size 26 ty 3 i _ 1 8 Try.underlying26 hi hz hsz hby (by kernel_rfl) (by decide) (.slice none 0 0) 0 [] (World.ownsRow_nil _ _ _ _) a n c (intsL n Z) (by rw [intsL_length, Nat.mul_one]) hc (intsL_one n Z) (by simp only [maxLen]; omega) (by omega) (Nat.le_refl _)
    rw [List.nil_append, Nat.zero_add] at r1
    have hv : ∃ ad' cap', v' = .slice ad' n cap' := by
      rcases r1.2 with ⟨e, h0⟩ | ⟨g, cap', cur, e, _⟩
      · exact ⟨none, 0, by rw [e, h0]⟩
      · exact ⟨_, cap', e⟩
    obtain ⟨ad', cap', rfl⟩ := hv
    exact ⟨ad', cap', w', hrun, r1, ⟨r2.os, r2.tape, r2.output, r2.size, fun k hk => r2.block k hk (by simp [Value.ownBlock])⟩⟩
  rcases h with h0 | ⟨b, off, rfl, hb, hc⟩
  · subst h0
    cases ad with
    | none =>
      have hrun := run_append_nothing (P := Try.prog) w 26 26 ty 3 i Try.underlying26 hi none 0 0 (Nat.le_refl _) (.slice none 0 c) (Src.ofNil w Try.underlying26 c)
      exact ⟨none, 0, w, hrun, OwnI.nil w _ Z, Below.refl _ _⟩
    | some a => exact some_case a rfl fun j u hu => by simp [intsL] at hu
  · refine some_case _ rfl fun j u hu => ?_
    have hj : j < n := by
      have := (List.getElem?_eq_some_iff.1 hu).1
      rwa [intsL_length] at this
    rw [intsL_get n Z hj] at hu
    have hu' : Value.int .i64 (Z j) = u := by simpa using hu
    have : (⟨b, off, none⟩ : Addr).add j = ⟨b, off + j, none⟩ := by unfold Addr.add; split <;> simp_all
    rw [← hu', this]
    exact hc j hj

/-- The same, as the walk meets it. -/
theorem append_copy {w : World} {n c : Nat} {ad : Option Addr} {Z : Nat → Int} (h : IntsAt w ad n Z) (hn : n ≤ 1000000)
    {ops : Array Oper} {rest : List Oper} {o : Oper} {a : Act} {Q : Exit → Act → World → Prop} (hgd : o.guard = none) (s x : Operand)
    (ho : o.op = .call { callee := .builtin .append, args := #[s, x], argTypes := #[26, 26] }) (hs : a.eval s = .slice none 0 0) (hx : a.eval x = .slice ad n c)
    (hK : ∀ ad' cap' w', OwnI w' w.heap.size ad' n cap' Z → Below w.heap.size w w' → wpList Try.prog ops Q rest (a.put o.dst (.slice ad' n cap')) w') :
    wpList Try.prog ops Q (o :: rest) a w := by
  refine wpList_plain hgd fun K hK' => ?_
  obtain ⟨ad', cap', w', hrun, h1, h2⟩ := run_append_copy (c := c) h hn o.type
  unfold Oper.wp
  simp [execOp, ho, resolve, invoke, builtin, hs, hx, hrun, Result.andThen]
  exact hK' _ _ (hK ad' cap' w' h1 h2)
end Go.Proofs.Ythpancffloplkaa
