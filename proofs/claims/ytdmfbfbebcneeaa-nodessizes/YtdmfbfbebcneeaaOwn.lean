/-
  Slices that a call makes and appends to, of whatever one-cell values; they lie apart from tables, finders and cells.
-/
import Derived.Test.YtdmfbfbebcneeaaMem
import Derived.Deep.AppendLies
import Derived.Deep.AppendSrc
import Derived.Deep.Upon
namespace Go.Proofs.Ytdmfbfbebcneeaa
open Go Go.RowKit

def rowL (n : Nat) (V : Nat → Value) : List Value := (List.range n).map V
theorem rowL_length (n : Nat) (V : Nat → Value) : (rowL n V).length = n := by simp [rowL]
theorem rowL_succ (n : Nat) (V : Nat → Value) : rowL (n + 1) V = rowL n V ++ [V n] := by simp [rowL, List.range_succ]
theorem rowL_get (n : Nat) (V : Nat → Value) {i : Nat} (hi : i < n) : (rowL n V)[i]? = some (V i) := by simp [rowL, hi]
theorem rowL_congr {n : Nat} {V U : Nat → Value} (h : ∀ i, i < n → V i = U i) : rowL n V = rowL n U := by
  unfold rowL
  apply List.map_congr_left
  intro i hi
  exact h i (List.mem_range.1 hi)

/-- The slice owns its values: empty and nil, or the head of a block of the call's own. -/
def OwnR (e : TypeId) (w : World) (B : Nat) (ad : Option Addr) (n cap : Nat) (V : Nat → Value) : Prop := w.ownsRow B e 1 (.slice ad n cap) n (rowL n V)
/-- The block of a slice. -/
def At (ad : Option Addr) : Nat → Prop := fun k => ∃ a, ad = some a ∧ a.block = k

section
variable {e : TypeId} {w w' : World} {B n cap : Nat} {ad : Option Addr} {V U : Nat → Value}
theorem OwnR.form (h : OwnR e w B ad n cap V) (hn : 0 < n) : ∃ g, ad = some ⟨g, 0, none⟩ := by
  obtain ⟨g, cap', hv, hb, hlt⟩ := World.ownsRow.form h hn
  exact ⟨g, by injection hv⟩
theorem OwnR.cell {g : Nat} (h : OwnR e w B (some ⟨g, 0, none⟩) n cap V) {i : Nat} (hi : i < n) : w.cell? ⟨g, i, none⟩ = some (V i) := by
  rw [World.ownsRow.cellAt h i (by omega)]
  exact rowL_get n V hi
theorem OwnR.frozen {g : Nat} (h : OwnR e w B (some ⟨g, 0, none⟩) n cap V) (j : Nat) : w.frozen? ⟨g, j, none⟩ = false := World.ownsRow.frozenAt h j
theorem OwnR.nil (e : TypeId) (w : World) (B : Nat) (V : Nat → Value) : OwnR e w B none 0 0 V := World.ownsRow_nil w B e 1
theorem OwnR.block (h : OwnR e w B ad n cap V) : ∀ k, At ad k → B ≤ k ∧ k < w.heap.size := by
  rintro k ⟨a, rfl, rfl⟩
  exact World.ownsRow.lt h a.block rfl
theorem OwnR.kind (h : OwnR e w B ad n cap V) : ∀ k, At ad k → ∃ cur, w.heap[k]? = some (.cells cur e (0, 0)) := by
  rintro k ⟨a, rfl, rfl⟩
  rcases h.2 with ⟨h2, _⟩ | ⟨g, cap', cur, hv, hb, hh, _⟩
  · cases h2
  · injection hv with hv
    injection hv with hv
    subst hv
    exact ⟨cur, hh⟩
theorem OwnR.kept (h : OwnR e w B ad n cap V) (k : ∀ b, At ad b → w'.heap[b]? = w.heap[b]?) : OwnR e w' B ad n cap V := by
  obtain ⟨h1, h2⟩ := h
  refine ⟨h1, ?_⟩
  rcases h2 with h2 | ⟨g, cap', cur, hv, hb, hh, r⟩
  · exact .inl h2
  · have had : ad = some ⟨g, 0, none⟩ := by injection hv
    exact .inr ⟨g, cap', cur, hv, hb, (k g ⟨_, had, rfl⟩).trans hh, r⟩
theorem OwnR.congr (h : OwnR e w B ad n cap V) (k : ∀ i, i < n → V i = U i) : OwnR e w B ad n cap U := by
  unfold OwnR at *
  rw [← rowL_congr k]
  exact h
theorem OwnR.below (h : OwnR e w B ad n cap V) (k : Below w.heap.size w w') : OwnR e w' B ad n cap V := h.kept fun b hb => k.block _ (h.block b hb).2
theorem OwnR.new (h : OwnR e w B ad n cap V) (o : Obj) : OwnR e (w.alloc o) B ad n cap V := h.kept fun b hb => Below.heap_alloc _ _ _ (h.block b hb).2
theorem OwnR.drew (h : OwnR e w B ad n cap V) : OwnR e w.drew B ad n cap V := h
/-- A block of another kind is another block. -/
theorem OwnR.apart (h : OwnR e w B ad n cap V) {k : Nat} {cur : Array Value} {e' : TypeId} (hk : w.heap[k]? = some (.cells cur e' (0, 0))) (he : e' ≠ e) : ¬ At ad k := by
  intro hA
  obtain ⟨cur', h'⟩ := h.kind k hA
  rw [hk] at h'
  simp at h'
  exact he h'.2
/-- One value turned. -/
theorem OwnR.set {g : Nat} (h : OwnR e w B (some ⟨g, 0, none⟩) n cap V) {k : Nat} (v : Value) : OwnR e (w.setCell ⟨g, k, none⟩ v) B (some ⟨g, 0, none⟩) n cap (fun i => if i = k then v else V i) := by
  obtain ⟨h1, h2⟩ := h
  refine ⟨by rw [rowL_length]; omega, ?_⟩
  rcases h2 with ⟨h2, _⟩ | ⟨g', cap', cur, hv, hb, hh, q1, q2, q3, q4⟩
  · cases h2
  · injection hv with hv1 hv2 hv3
    injection hv1 with hv1
    injection hv1 with hv1
    subst hv1
    subst hv3
    refine .inr ⟨g, cap, cur.setIfInBounds k v, rfl, hb, by simp [World.setCell, Array.getElem?_modify, hh], q1, q2, by simp [q3], ?_⟩
    apply List.ext_getElem?
    intro j
    by_cases hj : j < n
    · rw [rowL_get n _ hj, List.getElem?_take, if_pos (by omega), Array.getElem?_toList]
      by_cases hjk : j = k
      · subst hjk
        rw [if_pos rfl, Array.getElem?_setIfInBounds_self_of_lt (by omega)]
      · rw [if_neg hjk, Array.getElem?_setIfInBounds_ne (by omega)]
        have : (cur.toList.take (n * 1))[j]? = (rowL n V)[j]? := by rw [q4]
        rw [rowL_get n _ hj, List.getElem?_take, if_pos (by omega), Array.getElem?_toList] at this
        exact this
    · rw [List.getElem?_eq_none (by rw [List.length_take]; omega), List.getElem?_eq_none (by rw [rowL_length]; omega)]
end

/-- One value more, as the walk meets it. -/
theorem append_row (t e : TypeId) (i : TypeInfo) (z : Value) (ht : Try.prog.underlying t = some (.slice e)) (hi : Try.prog.info? e = some i) (hz : i.zero = some z) (hsz : i.size = 1) (by' : Nat) (hby : i.bytes = by') (hb16 : by' ≤ 64) (hzc : z.cells.size = 1)
    {w : World} {B n cap : Nat} {ad : Option Addr} {V : Nat → Value} (hown : OwnR e w B ad n cap V) (blk : Nat) (x : Value) (hx1 : x.oneCell' = true) (hblk : w.heap[blk]? = some (.cells #[x] e (0, 0))) (hn : n ≤ 1000000) (hB : B ≤ w.heap.size)
    {ops : Array Oper} {rest : List Oper} {o : Oper} {a : Act} {Q : Exit → Act → World → Prop} (hgd : o.guard = none) (s y : Operand)
    (ho : o.op = .call { callee := .builtin .append, args := #[s, y], argTypes := #[t, t] }) (hs : a.eval s = .slice ad n cap) (hx : a.eval y = .slice (some ⟨blk, 0, none⟩) 1 1)
    (h : ∀ g cap' w', OwnR e w' B (some ⟨g, 0, none⟩) (n + 1) cap' (fun i => if i = n then x else V i) → Went (At ad) w w' → (At ad g ∨ g = w.heap.size) → wpList Try.prog ops Q rest (a.put o.dst (.slice (some ⟨g, 0, none⟩) (n + 1) cap')) w') :
    wpList Try.prog ops Q (o :: rest) a w := by
  have hob : ∀ k, some k = (Value.slice ad n cap).ownBlock → At ad k := by
    intro k hk
    cases ad with
    | none => simp [Value.ownBlock] at hk
    | some a => exact ⟨a, rfl, by simpa [Value.ownBlock] using hk.symm⟩
  refine wpList_append_lies (P := Try.prog) w hgd s y t ho B e i z 1 by' ht hi hz hsz hby hzc (by decide) (.slice ad n cap) n (rowL n V) hs hown ⟨blk, 0, none⟩ 1 1 [x] hx rfl (World.news_of_block hblk) ?_ (by decide) ?_ ?_ hB w.heap.size rfl ?_
  · intro u hu
    simp only [List.mem_cons, List.not_mem_nil, or_false] at hu
    subst hu
    exact hx1
  · simp only [maxLen]; omega
  · have h64 : (n + 1) * by' ≤ (n + 1) * 64 := Nat.mul_le_mul_left _ hb16
    omega
  · intro g cap' w' o1 o2 o3 o4
    refine h g cap' w' ?_ ⟨o2.os, o2.tape, o2.output, o2.size, fun k hk hA => o2.block k hk fun e => hA (hob k e)⟩ (o3.elim (fun e => .inl (hob g e.symm)) .inr)
    unfold OwnR
    rw [rowL_succ]
    have e1 : rowL n (fun i => if i = n then x else V i) = rowL n V := rowL_congr fun i hi => if_neg (by omega)
    rw [e1]
    simp only [if_true]
    exact o1

theorem info44' : (Try.prog.info? 44).map (fun i => (i.zero, i.size, i.bytes)) = some (some (.int .u64 0), 1, 8) := by kernel_rfl
theorem append_u64 {w : World} {B n cap : Nat} {ad : Option Addr} {V : Nat → Value} {ops : Array Oper} {rest : List Oper} {o : Oper} {a : Act} {Q : Exit → Act → World → Prop} (hown : OwnR 44 w B ad n cap V) (blk : Nat) (p : Int) (hblk : w.heap[blk]? = some (.cells #[.int .u64 p] 44 (0, 0))) (hn : n ≤ 1000000) (hB : B ≤ w.heap.size)
    (hgd : o.guard = none) (s y : Operand)
    (ho : o.op = .call { callee := .builtin .append, args := #[s, y], argTypes := #[86, 86] }) (hs : a.eval s = .slice ad n cap) (hx : a.eval y = .slice (some ⟨blk, 0, none⟩) 1 1)
    (h : ∀ g cap' w', OwnR 44 w' B (some ⟨g, 0, none⟩) (n + 1) cap' (fun i => if i = n then .int .u64 p else V i) → Went (At ad) w w' → (At ad g ∨ g = w.heap.size) → wpList Try.prog ops Q rest (a.put o.dst (.slice (some ⟨g, 0, none⟩) (n + 1) cap')) w') :
    wpList Try.prog ops Q (o :: rest) a w := by
  obtain ⟨i, hi, hzz⟩ := Option.map_eq_some_iff.1 info44'
  simp only [Prod.mk.injEq] at hzz
  obtain ⟨hz, hs2, hb⟩ := hzz
  exact append_row 86 44 i _ Try.underlying86 hi hz hs2 8 hb (by decide) (by kernel_rfl) hown blk (.int .u64 p) rfl hblk hn hB hgd s y ho hs hx h
theorem info30' : (Try.prog.info? 30).map (fun i => (i.zero, i.size, i.bytes)) = some (some (.int .u32 0), 1, 4) := by kernel_rfl
theorem append_h {w : World} {B n cap : Nat} {ad : Option Addr} {V : Nat → Value} {ops : Array Oper} {rest : List Oper} {o : Oper} {a : Act} {Q : Exit → Act → World → Prop} (hown : OwnR 30 w B ad n cap V) (blk : Nat) (p : Int) (hblk : w.heap[blk]? = some (.cells #[.int .u32 p] 30 (0, 0))) (hn : n ≤ 1000000) (hB : B ≤ w.heap.size)
    (hgd : o.guard = none) (s y : Operand)
    (ho : o.op = .call { callee := .builtin .append, args := #[s, y], argTypes := #[31, 31] }) (hs : a.eval s = .slice ad n cap) (hx : a.eval y = .slice (some ⟨blk, 0, none⟩) 1 1)
    (h : ∀ g cap' w', OwnR 30 w' B (some ⟨g, 0, none⟩) (n + 1) cap' (fun i => if i = n then .int .u32 p else V i) → Went (At ad) w w' → (At ad g ∨ g = w.heap.size) → wpList Try.prog ops Q rest (a.put o.dst (.slice (some ⟨g, 0, none⟩) (n + 1) cap')) w') :
    wpList Try.prog ops Q (o :: rest) a w := by
  obtain ⟨i, hi, hzz⟩ := Option.map_eq_some_iff.1 info30'
  simp only [Prod.mk.injEq] at hzz
  obtain ⟨hz, hs2, hb⟩ := hzz
  exact append_row 31 30 i _ Try.underlying31 hi hz hs2 4 hb (by decide) (by kernel_rfl) hown blk (.int .u32 p) rfl hblk hn hB hgd s y ho hs hx h
end Go.Proofs.Ytdmfbfbebcneeaa
