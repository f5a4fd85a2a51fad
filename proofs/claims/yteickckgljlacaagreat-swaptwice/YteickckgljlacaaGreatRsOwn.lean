/-
  Slices of handles that are appended to; stacks of them, a slice each.
-/
import Derived.Test.YteickckgljlacaaGreatRsDel
import Derived.Deep.AppendLies
import Derived.Deep.Upon
import Derived.Deep.RegionLaw
namespace Go.Proofs.YteickckgljlacaaGreat.Rs
open Go Go.RowKit

abbrev hV (x : Int) : Value := .int .u32 x
/-- The block of a slice. -/
def At (ad : Option Addr) : Nat → Prop := fun k => ∃ a, ad = some a ∧ a.block = k
/-- The slice has these handles: nil, or the head of a block. -/
def OwnH (w : World) (ad : Option Addr) (cap : Nat) (xs : List Int) : Prop := w.ownsRow 0 38 1 (.slice ad xs.length cap) xs.length (xs.map hV)

section
variable {w w' w0 : World} {cap : Nat} {ad : Option Addr} {xs : List Int}
theorem OwnH.block (h : OwnH w ad cap xs) : ∀ k, At ad k → k < w.heap.size := by
  rintro k ⟨a, rfl, rfl⟩
  exact (World.ownsRow.lt h a.block rfl).2
theorem OwnH.kind (h : OwnH w ad cap xs) : ∀ k, At ad k → ∃ cur, w.heap[k]? = some (.cells cur 38 (0, 0)) := by
  rintro k ⟨a, rfl, rfl⟩
  rcases h.2 with ⟨h2, _⟩ | ⟨g, cap', cur, hv, hb, hh, _⟩
  · cases h2
  · injection hv with hv
    injection hv with hv
    subst hv
    exact ⟨cur, hh⟩
theorem OwnH.kept (h : OwnH w ad cap xs) (k : ∀ b, At ad b → w'.heap[b]? = w.heap[b]?) : OwnH w' ad cap xs := by
  obtain ⟨h1, h2⟩ := h
  refine ⟨h1, ?_⟩
  rcases h2 with h2 | ⟨g, cap', cur, hv, hb, hh, r⟩
  · exact .inl h2
  · have had : ad = some ⟨g, 0, none⟩ := by injection hv
    exact .inr ⟨g, cap', cur, hv, hb, (k g ⟨_, had, rfl⟩).trans hh, r⟩
theorem OwnH.nil (w : World) : OwnH w none 0 [] := World.ownsRow_nil w 0 38 1
theorem OwnH.form (h : OwnH w ad cap xs) (hn : 0 < xs.length) : ∃ g, ad = some ⟨g, 0, none⟩ := by
  obtain ⟨g, cap', hv, hb, hlt⟩ := World.ownsRow.form h hn
  exact ⟨g, by injection hv⟩
theorem OwnH.max (h : OwnH w ad cap xs) : cap ≤ maxLen ∧ xs.length ≤ cap := by
  rcases h.2 with ⟨h2, h3⟩ | ⟨g, cap', cur, hv, hb, hh, r1, r2, r3⟩
  · injection h2 with e1 e2 e3
    subst e3
    exact ⟨Nat.zero_le _, by omega⟩
  · injection hv with e1 e2 e3
    subst e3
    exact ⟨r2, r1⟩
/-- Nil, or a row at the head of a block. -/
theorem OwnH.parts (h : OwnH w ad cap xs) : (ad = none ∧ cap = 0 ∧ xs = []) ∨ ∃ g U, ad = some ⟨g, 0, none⟩ ∧ Rw w g cap U xs.toArray w := by
  rcases h.2 with ⟨h2, h3⟩ | ⟨g, cap', cur, hv, hb, hh, r1, r2, r3, r4⟩
  · injection h2 with e1 e2 e3
    exact .inl ⟨e1, e3, List.length_eq_zero_iff.1 h3⟩
  · injection hv with e1 e2 e3
    subst e3
    refine .inr ⟨g, fun i => (cur[i]?).getD default, e1, ⟨⟨cur, hh, by omega, fun i hi => ?_⟩, by simpa using r1, Went.refl _ _, (Array.getElem?_eq_some_iff.1 hh).1⟩⟩
    unfold rowf
    split
    · rename_i hix
      have hix : i < xs.length := by simpa using hix
      have := congrArg (·[i]?) r4
      simp only [List.getElem?_map, List.getElem?_take, Nat.mul_one, if_pos hix, List.getElem?_eq_getElem hix, Option.map_some, Array.getElem?_toList] at this
      rw [this, getElem!_pos _ i (by simpa using hix)]
      simp
    · have hic : i < cur.size := by omega
      simp [Array.getElem?_eq_getElem hic]
theorem OwnH.of_rw {g : Nat} {U : Nat → Value} {d : Array Int} (h : Rw w0 g cap U d w) (hc : cap ≤ maxLen) : OwnH w (some ⟨g, 0, none⟩) cap d.toList := by
  obtain ⟨c, hb, hn, hf⟩ := h.row
  have hle := h.le
  refine ⟨by simp, .inr ⟨g, cap, c, by simp, Nat.zero_le _, hb, by simpa using hle, hc, by omega, ?_⟩⟩
  apply List.ext_getElem?
  intro i
  simp only [Array.length_toList, Nat.mul_one, List.getElem?_take, List.getElem?_map, Array.getElem?_toList]
  by_cases hi : i < d.size
  · rw [if_pos hi, hf i (by omega), rowf, if_pos hi, Array.getElem?_eq_getElem hi, getElem!_pos d i hi]
    rfl
  · rw [if_neg hi, Array.getElem?_eq_none (by omega)]
    rfl
theorem OwnH.cell {g : Nat} (h : OwnH w (some ⟨g, 0, none⟩) cap xs) {i : Nat} (hi : i < xs.length) : w.cell? ⟨g, i, none⟩ = some (.int .u32 xs[i]!) := by
  rw [World.ownsRow.cellAt h i (by omega)]
  simp [hi]
theorem OwnH.cut (h : OwnH w ad cap xs) (k : Nat) (hk : k ≤ xs.length) : w.ownsRow 0 38 1 (.slice ad k cap) k ((xs.take k).map hV) := by
  rcases h.parts with ⟨rfl, rfl, rfl⟩ | ⟨g, U, rfl, hR⟩
  · have : k = 0 := by simpa using hk
    subst this
    exact World.ownsRow_nil w 0 38 1
  · obtain ⟨U', hR'⟩ := hR.cut k (by simpa using hk)
    have := OwnH.of_rw hR' h.max.1
    have e : (xs.toArray.extract 0 k).toList = xs.take k := by simp
    unfold OwnH at this
    rw [e] at this
    rwa [show (xs.take k).length = k by simp; omega] at this
end

/-! ## One handle more -/
theorem info29' : ∃ i : TypeInfo, Tryz.prog.info? 38 = some i ∧ i.zero = some (.int .u32 0) ∧ i.size = 1 ∧ i.bytes = 4 := by
  have h : (Tryz.prog.info? 38).map (fun i => (i.zero, i.size, i.bytes)) = some (some (.int .u32 0), 1, 4) := by kernel_rfl
  obtain ⟨i, hi, hzz⟩ := Option.map_eq_some_iff.1 h
  simp only [Prod.mk.injEq] at hzz
  exact ⟨i, hi, hzz.1, hzz.2.1, hzz.2.2⟩
theorem at_of_own {ad : Option Addr} {n cap : Nat} {k : Nat} (h : some k = (Value.slice ad n cap).ownBlock) : At ad k := by
  cases ad with
  | none => simp [Value.ownBlock] at h
  | some a => exact ⟨a, rfl, by simpa [Value.ownBlock] using h.symm⟩
theorem went_of_grown {ad : Option Addr} {n cap : Nat} {w w' : World} (h : w.grownBy w' (Value.slice ad n cap).ownBlock) : Went (At ad) w w' :=
  ⟨h.os, h.tape, h.output, h.size, fun k hk hA => h.block k hk fun e => hA (at_of_own e)⟩
/-- Handles more, of another slice. -/
theorem append_hs {w : World} {cap : Nat} {ad : Option Addr} {xs : List Int} (hown : OwnH w ad cap xs) (src c : Nat) (ys : List Int) (hsrc : ∀ j, j < ys.length → w.cell? ⟨src, j, none⟩ = some (hV ys[j]!)) (hm : 0 < ys.length) (hn : xs.length + ys.length ≤ 1000000)
    {ops : Array Oper} {rest : List Oper} {o : Oper} {a : Act} {Q : Exit → Act → World → Prop} (hgd : o.guard = none) (s y : Operand)
    (ho : o.op = .call { callee := .builtin .append, args := #[s, y], argTypes := #[44, 44] }) (hs : a.eval s = .slice ad xs.length cap) (hx : a.eval y = .slice (some ⟨src, 0, none⟩) ys.length c)
    (h : ∀ g cap' w', OwnH w' (some ⟨g, 0, none⟩) cap' (xs ++ ys) → Went (At ad) w w' → (At ad g ∨ g = w.heap.size) → wpList Tryz.prog ops Q rest (a.put o.dst (.slice (some ⟨g, 0, none⟩) (xs.length + ys.length) cap')) w') :
    wpList Tryz.prog ops Q (o :: rest) a w := by
  obtain ⟨i, hi, hz, hsz, hby⟩ := info29'
  refine wpList_append_lies (P := Tryz.prog) w hgd s y 44 ho 0 38 i _ 1 4 Tryz.underlying44 hi hz hsz hby (by kernel_rfl) (by decide) (.slice ad xs.length cap) xs.length (xs.map hV) hs hown ⟨src, 0, none⟩ ys.length c (ys.map hV) hx (by simp) ?_ ?_ hm ?_ ?_ (Nat.zero_le _) w.heap.size rfl ?_
  · intro j u hj
    rw [List.getElem?_map] at hj
    obtain ⟨v, hv, rfl⟩ := Option.map_eq_some_iff.1 hj
    obtain ⟨hlt, rfl⟩ := List.getElem?_eq_some_iff.1 hv
    have := hsrc j hlt
    rw [getElem!_pos ys j hlt] at this
    rw [Addr.add_lit, Nat.zero_add]
    exact this
  · intro u hu
    obtain ⟨v, hv, rfl⟩ := List.mem_map.1 hu
    rfl
  · simp only [maxLen]; omega
  · omega
  · intro g cap' w' o1 o2 o3 o4
    refine h g cap' w' ?_ (went_of_grown o2) ?_
    · unfold OwnH
      simpa using o1
    · rcases o3 with o3 | o3
      · exact .inl (at_of_own o3.symm)
      · exact .inr o3
/-- One more: what the builtin does. -/
theorem run_app {w : World} {cap : Nat} {ad : Option Addr} {xs : List Int} (hown : OwnH w ad cap xs) (src : Nat) (x : Int) (hsrc : w.heap[src]? = some (.cells #[hV x] 38 (0, 0))) (hn : xs.length + 1 ≤ 1000000) :
    ∃ g cap' w', (Builtin.append_ #[44, 44] 44 #[.slice ad xs.length cap, .slice (some ⟨src, 0, none⟩) 1 1]).run Tryz.prog w = .ok (.slice (some ⟨g, 0, none⟩) (xs.length + 1) cap') w' ∧ OwnH w' (some ⟨g, 0, none⟩) cap' (xs ++ [x]) ∧ Went (At ad) w w' ∧ (At ad g ∨ g = w.heap.size) := by
  obtain ⟨i, hi, hz, hsz, hby⟩ := info29'
  obtain ⟨g, cap', w', hr, o1, o2, o3, o4⟩ := run_append_lies (P := Tryz.prog) w 44 44 0 38 i _ 1 4 Tryz.underlying44 hi hz hsz hby (by kernel_rfl) (by decide) (.slice ad xs.length cap) xs.length (xs.map hV) hown ⟨src, 0, none⟩ 1 1 [hV x] rfl (World.news_of_block hsrc) (fun u hu => by
    simp only [List.mem_cons, List.not_mem_nil, or_false] at hu
    subst hu
    rfl) (by decide) (by simp only [maxLen]; omega) (by omega) (Nat.zero_le _) w.heap.size rfl
  refine ⟨g, cap', w', hr, ?_, went_of_grown o2, ?_⟩
  · unfold OwnH
    simpa using o1
  · rcases o3 with o3 | o3
    · exact .inl (at_of_own o3.symm)
    · exact .inr o3
/-- As the walk meets it, in a statement that draws its order. -/
theorem step_app {ops : Array Oper} {o : Oper} {a : Act} {w w' : World} {K : Act → World → Prop} {Q : Exit → Act → World → Prop} {E : Prop}
    (hg : o.guard = none) (s x : Operand) (hop : o.op = Op.call { callee := Callee.builtin Builtin.append, args := #[s, x], argTypes := #[44, 44] })
    (v u r : Value) (hs : a.eval s = v) (hx : a.eval x = u) (hrun : (Builtin.append_ #[44, 44] o.type #[v, u]).run Tryz.prog w = .ok r w')
    (hK : K (a.put o.dst r) w') :
    if Region.wanted o (yielded ops a.tmps) = true then Oper.wp Tryz.prog o a w K Q else E := by
  have hw : Region.wanted o (yielded ops a.tmps) = true := by simp [Region.wanted, hg]
  rw [if_pos hw]
  unfold Oper.wp
  simp [execOp, hop, resolve, invoke, builtin, hs, hx, hrun, Result.andThen]
  exact hK
/-- None more. -/
theorem run_append0 (w : World) (ad : Option Addr) (n cap : Nat) (hn : n ≤ cap) (ad2 : Option Addr) (c : Nat) (ty : TypeId) : (Builtin.append_ #[44, 44] ty #[.slice ad n cap, .slice ad2 0 c]).run Tryz.prog w = .ok (.slice ad n cap) w := by
  obtain ⟨i, hi, hz, hsz, hby⟩ := info29'
  have hl : ∀ (a : Addr) (w : World), (loadCells a 0).run Tryz.prog w = .ok #[] w := fun a w => rfl
  have hst : ∀ (a : Addr) (w : World), (storeCells a []).run Tryz.prog w = .ok () w := fun a w => rfl
  cases ad <;> cases ad2 <;> simp [Builtin.append_, run_underlying Tryz.underlying44, sizeOf, typeInfo, hi, Builtin.lenOf, hn, Builtin.firstCells, hl, hst]

/-! ## Stacks -/
/-- A function with one value turned. -/
def up {α : Type} (f : Nat → α) (i : Nat) (v : α) : Nat → α := fun k => if k = i then v else f k
theorem up_same {α : Type} (f : Nat → α) (i : Nat) (v : α) : up f i v i = v := if_pos rfl
theorem up_other {α : Type} (f : Nat → α) {i k : Nat} (v : α) (h : k ≠ i) : up f i v k = f k := if_neg h
/-- The block S has n slices, no two of them in one block. -/
structure Stk (w : World) (S n : Nat) (A : Nat → Option Addr) (C : Nat → Nat) (T : Nat → List Int) : Prop where
  row : w.rowIs S 44 n (fun k => .slice (A k) (T k).length (C k))
  own : ∀ k, k < n → OwnH w (A k) (C k) (T k)
  apart : ∀ i j, i < n → j < n → i ≠ j → ∀ b, At (A i) b → ¬ At (A j) b
/-- Its blocks. -/
def Fs (S n : Nat) (A : Nat → Option Addr) : Nat → Prop := fun b => b = S ∨ ∃ k, k < n ∧ At (A k) b
section
variable {w w' : World} {S n : Nat} {A : Nat → Option Addr} {C : Nat → Nat} {T : Nat → List Int}
theorem Stk.lt (h : Stk w S n A C T) : ∀ b, Fs S n A b → b < w.heap.size := by
  rintro b (rfl | ⟨k, hk, hb⟩)
  · exact h.row.lt
  · exact (h.own k hk).block b hb
theorem Stk.kept (h : Stk w S n A C T) (k : ∀ b, Fs S n A b → w'.heap[b]? = w.heap[b]?) : Stk w' S n A C T :=
  ⟨h.row.of_block (k S (.inl rfl)), fun i hi => (h.own i hi).kept fun b hb => k b (.inr ⟨i, hi, hb⟩), h.apart⟩
theorem Stk.ne (h : Stk w S n A C T) {k : Nat} (hk : k < n) : ¬ At (A k) S := by
  intro hA
  obtain ⟨cur, hc⟩ := (h.own k hk).kind S hA
  obtain ⟨c, hb, _⟩ := h.row
  rw [hb] at hc
  cases hc
theorem Stk.slice (h : Stk w S n A C T) {k : Nat} (hk : k < n) : w.cell? ⟨S, k, none⟩ = some (.slice (A k) (T k).length (C k)) := h.row.cell hk
theorem Stk.free (h : Stk w S n A C T) (k : Nat) : w.frozen? ⟨S, k, none⟩ = false := h.row.frozen k
/-- One of them is another slice from now on. -/
theorem Stk.turn {w1 : World} (h : Stk w S n A C T) {i : Nat} (hi : i < n) {ad : Option Addr} {cap : Nat} {xs : List Int} (bw : Went (At (A i)) w w1) (o : OwnH w1 ad cap xs) (hw : ∀ g, At ad g → At (A i) g ∨ w.heap.size ≤ g) :
    Stk (w1.setCell ⟨S, i, none⟩ (.slice ad xs.length cap)) S n (up A i ad) (up C i cap) (up T i xs) := by
  have hS1 : w1.heap[S]? = w.heap[S]? := bw.block S h.row.lt (h.ne hi)
  have hne : ∀ k, k < n → ∀ g, At (A k) g → g ≠ S := fun k hk g hg e => h.ne hk (e ▸ hg)
  have hadS : ∀ g, At ad g → g ≠ S := fun g hg e => by
    rcases hw g hg with h1 | h1
    · exact hne i hi g h1 e
    · have := h.row.lt; omega
  refine ⟨((h.row.of_block hS1).set i _).congr fun k hk => ?_, fun k hk => ?_, fun i1 i2 h1 h2 hne12 b hb1 hb2 => ?_⟩
  · by_cases e : k = i
    · subst e; simp [up]
    · simp [up, e]
  · by_cases e : k = i
    · subst e
      rw [up_same, up_same, up_same]
      exact o.kept fun g hg => Below.heap_setCell _ _ _ _ (hadS g hg)
    · rw [up_other _ _ e, up_other _ _ e, up_other _ _ e]
      refine (h.own k hk).kept fun g hg => ?_
      rw [Below.heap_setCell _ _ _ _ (hne k hk g hg)]
      exact bw.block g ((h.own k hk).block g hg) fun hg2 => h.apart k i hk hi e g hg hg2
  · by_cases e1 : i1 = i
    · subst e1
      rw [up_same] at hb1
      rw [up_other _ _ (fun e => hne12 e.symm)] at hb2
      rcases hw b hb1 with h3 | h3
      · exact h.apart i1 i2 h1 h2 hne12 b h3 hb2
      · have := (h.own i2 h2).block b hb2; omega
    · rw [up_other _ _ e1] at hb1
      by_cases e2 : i2 = i
      · subst e2
        rw [up_same] at hb2
        rcases hw b hb2 with h3 | h3
        · exact h.apart i1 i2 h1 h2 hne12 b hb1 h3
        · have := (h.own i1 h1).block b hb1; omega
      · rw [up_other _ _ e2] at hb2
        exact h.apart i1 i2 h1 h2 hne12 b hb1 hb2
/-- A slice cut off. -/
theorem Stk.cut (h : Stk w S n A C T) {i : Nat} (hi : i < n) (k : Nat) (hk : k ≤ (T i).length) : Stk (w.setCell ⟨S, i, none⟩ (.slice (A i) k (C i))) S n A C (up T i ((T i).take k)) := by
  have hl : ((T i).take k).length = k := by simp; omega
  have o : OwnH w (A i) (C i) ((T i).take k) := by
    have := (h.own i hi).cut k hk
    unfold OwnH
    rw [hl]
    exact this
  have := h.turn hi (Went.refl _ w) o (fun g hg => .inl hg)
  have e1 : up A i (A i) = A := funext fun j => by unfold up; split <;> simp_all
  have e2 : up C i (C i) = C := funext fun j => by unfold up; split <;> simp_all
  rw [e1, e2, hl] at this
  exact this
end
end Go.Proofs.YteickckgljlacaaGreat.Rs
