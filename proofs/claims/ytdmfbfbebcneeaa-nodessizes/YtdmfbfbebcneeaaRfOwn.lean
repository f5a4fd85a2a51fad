/-
  Slices of tables that a call makes and appends to.
-/
import Derived.Test.YtdmfbfbebcneeaaRfIn
import Derived.Deep.AppendLies
namespace Go.Proofs.Ytdmfbfbebcneeaa.Rf
open Go Go.RowKit

/-- The four cells of a table. -/
def cells4 (F : Nat → Bool) : List Value := [.int .u64 (word F 0 : Int), .int .u64 (word F 1 : Int), .int .u64 (word F 2 : Int), .int .u64 (word F 3 : Int)]
def cellsL (ts : List (Nat → Bool)) : List Value := ts.flatMap cells4
theorem cellsL_length (ts : List (Nat → Bool)) : (cellsL ts).length = ts.length * 4 := by
  induction ts with
  | nil => rfl
  | cons t ts ih =>
    rw [cellsL, List.flatMap_cons, List.length_append]
    rw [cellsL] at ih
    rw [ih]
    simp only [cells4, List.length_cons, List.length_nil]
    omega
theorem cellsL_append (ts : List (Nat → Bool)) (F : Nat → Bool) : cellsL (ts ++ [F]) = cellsL ts ++ cells4 F := by simp [cellsL, List.flatMap_append]
theorem cellsL_get (ts : List (Nat → Bool)) (i : Nat) (hi : i < ts.length) (k : Nat) (hk : k < 4) : (cellsL ts)[i * 4 + k]? = some (.int .u64 (word (ts.getD i fun _ => false) k : Int)) := by
  induction ts generalizing i with
  | nil => simp at hi
  | cons t ts ih =>
    rw [cellsL, List.flatMap_cons]
    cases i with
    | zero =>
      have h4 : k = 0 ∨ k = 1 ∨ k = 2 ∨ k = 3 := by omega
      rcases h4 with rfl | rfl | rfl | rfl <;> simp [cells4]
    | succ i =>
      rw [List.getElem?_append_right (by simp [cells4]; omega)]
      have e : (i + 1) * 4 + k - (cells4 t).length = i * 4 + k := by simp [cells4]; omega
      rw [e]
      have := ih i (by simpa using hi)
      rw [cellsL] at this
      rw [this]
      simp

/-- The slice owns its tables: empty and nil, or the head of a block of the call's own. -/
def Own (w : World) (B : Nat) (ad : Option Addr) (ts : List (Nat → Bool)) (cap : Nat) : Prop := w.ownsRow B 46 4 (.slice ad ts.length cap) ts.length (cellsL ts)

theorem Own.tabs {w : World} {B : Nat} {ad : Option Addr} {ts : List (Nat → Bool)} {cap : Nat} (h : Own w B ad ts cap) : TabsAt w ad ts.length (fun i => ts.getD i fun _ => false) := by
  by_cases h0 : ts.length = 0
  · exact .inl h0
  · obtain ⟨g, cap', hv, _, hlt⟩ := World.ownsRow.form h (by omega)
    have had : ad = some ⟨g, 0, none⟩ := by injection hv
    have hcap : cap = cap' := by injection hv
    subst had
    refine .inr ⟨g, 0, rfl, hlt, fun i hi k hk => ?_⟩
    rw [Nat.zero_add, World.ownsRow.cellAt h (i * 4 + k) (by omega)]
    exact cellsL_get ts i hi k hk
theorem Own.nil (w : World) (B : Nat) : Own w B none [] 0 := World.ownsRow_nil w B 46 4
theorem Own.block {w : World} {B : Nat} {ad : Option Addr} {ts : List (Nat → Bool)} {cap : Nat} (h : Own w B ad ts cap) : ∀ a, ad = some a → B ≤ a.block ∧ a.block < w.heap.size := by
  intro a ha
  subst ha
  exact World.ownsRow.lt h a.block rfl
theorem Own.kept {w w' : World} {B : Nat} {ad : Option Addr} {ts : List (Nat → Bool)} {cap : Nat} (h : Own w B ad ts cap) (k : ∀ a, ad = some a → w'.heap[a.block]? = w.heap[a.block]?) : Own w' B ad ts cap := by
  obtain ⟨h1, h2⟩ := h
  refine ⟨h1, ?_⟩
  rcases h2 with h2 | ⟨g, cap', cur, hv, hb, hh, r⟩
  · exact .inl h2
  · have had : ad = some ⟨g, 0, none⟩ := by injection hv
    exact .inr ⟨g, cap', cur, hv, hb, (k _ had).trans hh, r⟩
theorem Own.below {w w' : World} {B : Nat} {ad : Option Addr} {ts : List (Nat → Bool)} {cap : Nat} (h : Own w B ad ts cap) (k : Below w.heap.size w w') : Own w' B ad ts cap :=
  h.kept fun a ha => k.block _ (h.block a ha).2

theorem Own.new {w : World} {B : Nat} {ad : Option Addr} {ts : List (Nat → Bool)} {cap : Nat} (h : Own w B ad ts cap) (o : Obj) : Own (w.alloc o) B ad ts cap :=
  h.kept fun a ha => Below.heap_alloc _ _ _ (h.block a ha).2
theorem Own.drew {w : World} {B : Nat} {ad : Option Addr} {ts : List (Nat → Bool)} {cap : Nat} (h : Own w B ad ts cap) : Own w.drew B ad ts cap := h
/-- What is appended to another slice leaves this one alone. -/
theorem Own.grown {w w' : World} {B : Nat} {ad : Option Addr} {ts : List (Nat → Bool)} {cap : Nat} (h : Own w B ad ts cap) {row : Option Nat} (g : w.grownBy w' row) (hne : ∀ a, ad = some a → some a.block ≠ row) : Own w' B ad ts cap :=
  h.kept fun a ha => g.block _ (h.block a ha).2 (hne a ha)

/-- A table is put behind the others unless it is there. -/
def addN (ts : List (Nat → Bool)) (F : Nat → Bool) : List (Nat → Bool) := if hasUpto (fun i => ts.getD i fun _ => false) F ts.length then ts else ts ++ [F]
theorem addN_le (ts : List (Nat → Bool)) (F : Nat → Bool) : (addN ts F).length ≤ ts.length + 1 := by
  unfold addN
  split <;> simp

theorem info24 : (Try.prog.info? 46).map (fun i => (i.zero, i.size, i.bytes)) = some (some (.agg #[.int .u64 0, .int .u64 0, .int .u64 0, .int .u64 0]), 4, 32) := by kernel_rfl

def blockOf (ad : Option Addr) : Option Nat := ad.map (·.block)
theorem Own.blockGe {w : World} {B : Nat} {ad : Option Addr} {ts : List (Nat → Bool)} {cap : Nat} (h : Own w B ad ts cap) : ∀ k, blockOf ad = some k → B ≤ k ∧ k < w.heap.size := by
  intro k hk
  cases ad with
  | none => simp [blockOf] at hk
  | some a =>
    have : a.block = k := by simpa [blockOf] using hk
    rw [← this]
    exact h.block a rfl

/-- Two slices lie in blocks of their own. -/
def Apart (a b : Option Addr) : Prop := ∀ k, blockOf a = some k → blockOf b ≠ some k
theorem Apart.nil (a : Option Addr) : Apart a none := fun _ _ h => by simp [blockOf] at h
theorem Apart.symm {a b : Option Addr} (h : Apart a b) : Apart b a := fun k hb ha => h k ha hb
theorem Own.aside {w w' : World} {B : Nat} {ada adx : Option Addr} {xs : List (Nat → Bool)} {capx : Nat} (h : Own w B adx xs capx) (ha : Apart ada adx) (g : w.grownBy w' (blockOf ada)) : Own w' B adx xs capx :=
  h.grown g fun a e he => by subst e; exact ha a.block he.symm rfl
theorem Apart.after {w : World} {B g : Nat} {ada adx : Option Addr} {xs : List (Nat → Bool)} {capx : Nat} (hax : Apart ada adx) (ox : Own w B adx xs capx) (h : blockOf ada = some g ∨ g = w.heap.size) : Apart (some ⟨g, 0, none⟩) adx := by
  intro k hk hx
  have e : g = k := by simpa [blockOf] using hk
  subst e
  rcases h with h | h
  · exact hax g h hx
  · have := (ox.blockGe g hx).2
    omega
theorem IsTab.aside {w w' : World} {b : Nat} {F : Nat → Bool} {ad : Option Addr} (h : IsTab w b F) (hb : blockOf ad ≠ some b) (g : w.grownBy w' (blockOf ad)) : IsTab w' b F :=
  (g.block b h.lt fun e => hb e.symm).trans h
theorem block_after {w : World} {g b : Nat} {ad : Option Addr} (hb : blockOf ad ≠ some b) (hlt : b < w.heap.size) (h : blockOf ad = some g ∨ g = w.heap.size) : blockOf (some ⟨g, 0, none⟩) ≠ some b := by
  intro e
  have e' : g = b := by simpa [blockOf] using e
  subst e'
  rcases h with h | h
  · exact hb h
  · omega

/-- One table more, as the walk meets it. -/
theorem append_tab {w : World} {B : Nat} {ad : Option Addr} {ts : List (Nat → Bool)} {cap : Nat} (hown : Own w B ad ts cap) (F : Nat → Bool) (blk : Nat) (hblk : IsTab w blk F) (hn : ts.length ≤ 1000000) (hB : B ≤ w.heap.size)
    {ops : Array Oper} {rest : List Oper} {o : Oper} {a : Act} {Q : Exit → Act → World → Prop} (hgd : o.guard = none) (s x : Operand)
    (ho : o.op = .call { callee := .builtin .append, args := #[s, x], argTypes := #[55, 55] }) (hs : a.eval s = .slice ad ts.length cap) (hx : a.eval x = .slice (some ⟨blk, 0, none⟩) 1 1)
    (h : ∀ g cap' w', Own w' B (some ⟨g, 0, none⟩) (ts ++ [F]) cap' → w.grownBy w' (blockOf ad) → (blockOf ad = some g ∨ g = w.heap.size) → g < w'.heap.size → wpList Try.prog ops Q rest (a.put o.dst (.slice (some ⟨g, 0, none⟩) (ts.length + 1) cap')) w') :
    wpList Try.prog ops Q (o :: rest) a w := by
  obtain ⟨i, hi, hzz⟩ := Option.map_eq_some_iff.1 info24
  simp only [Prod.mk.injEq] at hzz
  obtain ⟨hz, hsz, hby⟩ := hzz
  have hblk' : w.heap[blk]? = some (.cells #[.int .u64 (word F 0 : Int), .int .u64 (word F 1 : Int), .int .u64 (word F 2 : Int), .int .u64 (word F 3 : Int)] 46 (0, 0)) := hblk
  have hob : (Value.slice ad ts.length cap).ownBlock = blockOf ad := by cases ad <;> rfl
  refine wpList_append_lies (P := Try.prog) w hgd s x 55 ho B 46 i _ 4 32 Try.underlying55 hi hz hsz hby (by kernel_rfl) (by decide) (.slice ad ts.length cap) ts.length (cellsL ts) hs hown ⟨blk, 0, none⟩ 1 1 (cells4 F) hx rfl (World.news_of_block hblk') ?_ (by decide) ?_ ?_ hB w.heap.size rfl ?_
  · intro u hu
    simp only [cells4, List.mem_cons, List.not_mem_nil, or_false] at hu
    rcases hu with rfl | rfl | rfl | rfl <;> rfl
  · simp only [maxLen]; omega
  · omega
  · intro g cap' w' o1 o2 o3 o4
    rw [hob] at o2 o3
    refine h g cap' w' ?_ o2 o3 o4
    unfold Own
    rw [cellsL_append, List.length_append]
    exact o1
end Go.Proofs.Ytdmfbfbebcneeaa.Rf
