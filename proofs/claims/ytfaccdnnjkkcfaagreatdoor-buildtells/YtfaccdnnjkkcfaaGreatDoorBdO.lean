/-
  Package build: slices of pairs of bytes that a call makes and appends to.
-/
import Derived.Test.YtfaccdnnjkkcfaaGreatDoorBdC
import Derived.Test.YtfaccdnnjkkcfaaGreatDoorBaseE
import Derived.Deep.AppendLies
namespace Go.Proofs.YtfaccdnnjkkcfaaGreatDoor
open Go Go.RowKit
open Rf (fixAt fixF tab word same IsTab Cols blockOf)

/-- The two cells of a pair. -/
def cells2 (p : Nat × Nat) : List Value := [.int .u8 (p.1 : Int), .int .u8 (p.2 : Int)]
def cellsP (ps : List (Nat × Nat)) : List Value := ps.flatMap cells2
theorem cellsP_length (ps : List (Nat × Nat)) : (cellsP ps).length = ps.length * 2 := by
  induction ps with
  | nil => rfl
  | cons t ts ih =>
    rw [cellsP, List.flatMap_cons, List.length_append]
    rw [cellsP] at ih
    rw [ih]
    simp only [cells2, List.length_cons, List.length_nil]
    omega
theorem cellsP_append (ps qs : List (Nat × Nat)) : cellsP (ps ++ qs) = cellsP ps ++ cellsP qs := by simp [cellsP, List.flatMap_append]
theorem cellsP_get (ps : List (Nat × Nat)) (i : Nat) (hi : i < ps.length) : (cellsP ps)[i * 2]? = some (.int .u8 ((ps.getD i (0, 0)).1 : Int)) ∧ (cellsP ps)[i * 2 + 1]? = some (.int .u8 ((ps.getD i (0, 0)).2 : Int)) := by
  induction ps generalizing i with
  | nil => simp at hi
  | cons t ts ih =>
    rw [cellsP, List.flatMap_cons]
    cases i with
    | zero => simp [cells2]
    | succ i =>
      rw [List.getElem?_append_right (by simp [cells2]; omega), List.getElem?_append_right (by simp [cells2]; omega)]
      have e : (i + 1) * 2 - (cells2 t).length = i * 2 := by simp [cells2]; omega
      have e1 : (i + 1) * 2 + 1 - (cells2 t).length = i * 2 + 1 := by simp [cells2]; omega
      rw [e, e1]
      have := ih i (by simpa using hi)
      rw [cellsP] at this
      simpa using this

/-- The slice owns its pairs: empty and nil, or the head of a block of the call's own. -/
def OwnP (w : World) (B : Nat) (ad : Option Addr) (ps : List (Nat × Nat)) (cap : Nat) : Prop := w.ownsRow B 49 2 (.slice ad ps.length cap) ps.length (cellsP ps)
section
variable {w w' : World} {B : Nat} {ad : Option Addr} {ps : List (Nat × Nat)} {cap : Nat}
theorem OwnP.nil (w : World) (B : Nat) : OwnP w B none [] 0 := World.ownsRow_nil w B 49 2
theorem OwnP.block (h : OwnP w B ad ps cap) : ∀ a, ad = some a → B ≤ a.block ∧ a.block < w.heap.size := by
  intro a ha
  subst ha
  exact World.ownsRow.lt h a.block rfl
theorem OwnP.kept (h : OwnP w B ad ps cap) (k : ∀ a, ad = some a → w'.heap[a.block]? = w.heap[a.block]?) : OwnP w' B ad ps cap := by
  obtain ⟨h1, h2⟩ := h
  refine ⟨h1, ?_⟩
  rcases h2 with h2 | ⟨g, cap', cur, hv, hb, hh, r⟩
  · exact .inl h2
  · have had : ad = some ⟨g, 0, none⟩ := by injection hv
    exact .inr ⟨g, cap', cur, hv, hb, (k _ had).trans hh, r⟩
theorem OwnP.below (h : OwnP w B ad ps cap) (k : Below w.heap.size w w') : OwnP w' B ad ps cap := h.kept fun a ha => k.block _ (h.block a ha).2
theorem OwnP.new (h : OwnP w B ad ps cap) (o : Obj) : OwnP (w.alloc o) B ad ps cap := h.kept fun a ha => Below.heap_alloc _ _ _ (h.block a ha).2
theorem OwnP.drew (h : OwnP w B ad ps cap) : OwnP w.drew B ad ps cap := h
theorem OwnP.set (h : OwnP w B ad ps cap) {b : Nat} (hb : blockOf ad ≠ some b) (k : Nat) (v : Value) : OwnP (w.setCell ⟨b, k, none⟩ v) B ad ps cap :=
  h.kept fun a ha => Below.heap_setCell _ _ _ _ fun e => hb (by subst ha; exact congrArg some e)
theorem OwnP.blockGe (h : OwnP w B ad ps cap) : ∀ k, blockOf ad = some k → B ≤ k ∧ k < w.heap.size := by
  intro k hk
  cases ad with
  | none => simp [blockOf] at hk
  | some a =>
    have : a.block = k := by simpa [blockOf] using hk
    rw [← this]
    exact h.block a rfl
/-- A pair, read. -/
theorem OwnP.read (h : OwnP w B ad ps cap) {i : Nat} (hi : i < ps.length) : ∃ g, ad = some ⟨g, 0, none⟩ ∧ w.cell? ⟨g, i * 2, none⟩ = some (.int .u8 ((ps.getD i (0, 0)).1 : Int)) ∧ w.cell? ⟨g, i * 2 + 1, none⟩ = some (.int .u8 ((ps.getD i (0, 0)).2 : Int)) := by
  obtain ⟨g, cap', hv, _, hlt⟩ := World.ownsRow.form h (by omega)
  have had : ad = some ⟨g, 0, none⟩ := by injection hv
  subst had
  have q := cellsP_get ps i hi
  refine ⟨g, rfl, ?_, ?_⟩
  · rw [World.ownsRow.cellAt h (i * 2) (by omega)]; exact q.1
  · rw [World.ownsRow.cellAt h (i * 2 + 1) (by omega)]; exact q.2
end
/-- What a call leaves that may append to a slice: all else is as it was. -/
structure Apd (w w' : World) (ad ad' : Option Addr) : Prop where
  os : w'.os = w.os
  tape : w'.tape = w.tape
  output : w'.output = w.output
  size : w.heap.size ≤ w'.heap.size
  block : ∀ k, k < w.heap.size → blockOf ad ≠ some k → w'.heap[k]? = w.heap[k]?
  place : ∀ k, blockOf ad' = some k → blockOf ad = some k ∨ w.heap.size ≤ k
section
variable {w w' w2 : World} {ad ad' ad2 : Option Addr}
theorem Apd.refl (w : World) (ad : Option Addr) : Apd w w ad ad := ⟨rfl, rfl, rfl, Nat.le_refl _, fun _ _ _ => rfl, fun _ h => .inl h⟩
theorem Apd.trans (h : Apd w w' ad ad') (k : Apd w' w2 ad' ad2) : Apd w w2 ad ad2 :=
  ⟨k.os.trans h.os, k.tape.trans h.tape, k.output.trans h.output, Nat.le_trans h.size k.size, fun i hi hn => (k.block i (Nat.lt_of_lt_of_le hi h.size) fun e => by
      rcases h.place i e with e' | e'
      · exact hn e'
      · omega).trans (h.block i hi hn), fun i e => by
    rcases k.place i e with e' | e'
    · exact h.place i e'
    · exact .inr (Nat.le_trans h.size e')⟩
theorem Apd.of_below (h : Below w.heap.size w w') (ad : Option Addr) : Apd w w' ad ad := ⟨h.os, h.tape, h.output, h.size, fun k hk _ => h.block k hk, fun _ e => .inl e⟩
theorem Apd.grown {g : Nat} (h : w.grownBy w' (blockOf ad)) (hg : blockOf ad = some g ∨ g = w.heap.size) : Apd w w' ad (some ⟨g, 0, none⟩) :=
  ⟨h.os, h.tape, h.output, h.size, fun k hk hn => h.block k hk fun e => hn e.symm, fun k e => by
    have e' : g = k := by simpa [blockOf] using e
    subst e'
    rcases hg with hg | hg
    · exact .inl hg
    · exact .inr (by omega)⟩
theorem Apd.below {B : Nat} (h : Apd w w' ad ad') (hB : B ≤ w.heap.size) (hd : ∀ k, blockOf ad = some k → B ≤ k) : Below B w w' :=
  ⟨h.os, h.tape, h.output, h.size, fun k hk => h.block k (by omega) fun e => by have := hd k e; omega⟩
end

theorem infoP : (Tryz.prog.info? 49).map (fun i => (i.zero, i.size, i.bytes)) = some (some (.agg #[.int .u8 0, .int .u8 0]), 2, 2) := by kernel_rfl
/-- One pair more, as the walk meets it. -/
theorem append_pair {w : World} {B : Nat} {ad : Option Addr} {ps : List (Nat × Nat)} {cap : Nat} (hown : OwnP w B ad ps cap) (p : Nat × Nat) (blk : Nat) (hblk : Is2 49 w blk (.int .u8 (p.1 : Int)) (.int .u8 (p.2 : Int))) (hn : ps.length ≤ 1000000) (hB : B ≤ w.heap.size)
    {ops : Array Oper} {rest : List Oper} {o : Oper} {a : Act} {Q : Exit → Act → World → Prop} (hgd : o.guard = none) (s x : Operand)
    (ho : o.op = .call { callee := .builtin .append, args := #[s, x], argTypes := #[41, 41] }) (hs : a.eval s = .slice ad ps.length cap) (hx : a.eval x = .slice (some ⟨blk, 0, none⟩) 1 1)
    (h : ∀ g cap' w', OwnP w' B (some ⟨g, 0, none⟩) (ps ++ [p]) cap' → w.grownBy w' (blockOf ad) → (blockOf ad = some g ∨ g = w.heap.size) → g < w'.heap.size → wpList Tryz.prog ops Q rest (a.put o.dst (.slice (some ⟨g, 0, none⟩) (ps.length + 1) cap')) w') :
    wpList Tryz.prog ops Q (o :: rest) a w := by
  obtain ⟨i, hi, hzz⟩ := Option.map_eq_some_iff.1 infoP
  simp only [Prod.mk.injEq] at hzz
  obtain ⟨hz, hsz, hby⟩ := hzz
  have hblk' : w.heap[blk]? = some (.cells #[.int .u8 (p.1 : Int), .int .u8 (p.2 : Int)] 49 (0, 0)) := hblk
  have hob : (Value.slice ad ps.length cap).ownBlock = blockOf ad := by cases ad <;> rfl
  refine wpList_append_lies (P := Tryz.prog) w hgd s x 41 ho B 49 i _ 2 2 Tryz.underlying41 hi hz hsz hby (by kernel_rfl) (by decide) (.slice ad ps.length cap) ps.length (cellsP ps) hs hown ⟨blk, 0, none⟩ 1 1 (cells2 p) hx rfl (World.news_of_block hblk') ?_ (by decide) ?_ ?_ hB w.heap.size rfl ?_
  · intro u hu
    simp only [cells2, List.mem_cons, List.not_mem_nil, or_false] at hu
    rcases hu with rfl | rfl <;> rfl
  · simp only [maxLen]; omega
  · omega
  · intro g cap' w' o1 o2 o3 o4
    rw [hob] at o2 o3
    refine h g cap' w' ?_ o2 o3 o4
    unfold OwnP
    rw [cellsP_append, List.length_append]
    exact o1
end Go.Proofs.YtfaccdnnjkkcfaaGreatDoor
