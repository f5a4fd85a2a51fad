/-
  The statement's own world in memory: the owner, the thieves, their steps, what was taken and put.
-/
import Derived.Test.YtfpgdmnbehingaaOwn
import Derived.Test.YtfpgdmnbehingaaTurnsM
namespace Go.Proofs.Ytfpgdmnbehingaa
open Go Go.RowKit

/-- A pointer to an act, or nil. -/
def pt (o : Option Nat) : Value := .pointer (o.map fun a => ⟨a, 0, none⟩)
/-- The cells of the statement's world: act 0 is the owner's, act i + 1 is thief i's. -/
def wcell (R T : Nat) (ptr : Nat → Option Nat) (push : Int) (stp : Nat → Nat) (tk pu : Value) (j : Nat) : Value :=
  if j = 0 then .pointer (some ⟨R + 1, 0, none⟩) else if j = 1 then .pointer (some ⟨T, 0, none⟩) else if j = 2 then pt (ptr 0) else if j = 3 then .int .u64 push
  else if j < 7 then pt (ptr (j - 3)) else if j < 11 then .int .i64 (stp (j - 7) : Int) else if j = 11 then tk else if j = 12 then pu else .bool true
def IsW (w : World) (G R T : Nat) (ptr : Nat → Option Nat) (push : Int) (stp : Nat → Nat) (tk pu : Value) : Prop := w.rowIs G 44 14 (wcell R T ptr push stp tk pu)
def setP (f : Nat → Option Nat) (k : Nat) (x : Option Nat) : Nat → Option Nat := fun i => if i = k then x else f i
theorem setP_same (f : Nat → Option Nat) (k : Nat) (x : Option Nat) : setP f k x k = x := by simp [setP]
theorem setP_other (f : Nat → Option Nat) {k i : Nat} (x : Option Nat) (h : i ≠ k) : setP f k x i = f i := by simp [setP, h]

namespace IsW
variable {w w' : World} {G R T : Nat} {ptr : Nat → Option Nat} {push : Int} {stp : Nat → Nat} {tk pu : Value}
theorem lt (h : IsW w G R T ptr push stp tk pu) : G < w.heap.size := World.rowIs.lt h
theorem c0 (h : IsW w G R T ptr push stp tk pu) : w.cell? ⟨G, 0, none⟩ = some (.pointer (some ⟨R + 1, 0, none⟩)) := World.rowIs.cell h (i := 0) (by omega)
theorem c1 (h : IsW w G R T ptr push stp tk pu) : w.cell? ⟨G, 1, none⟩ = some (.pointer (some ⟨T, 0, none⟩)) := World.rowIs.cell h (i := 1) (by omega)
theorem c2 (h : IsW w G R T ptr push stp tk pu) : w.cell? ⟨G, 2, none⟩ = some (pt (ptr 0)) := World.rowIs.cell h (i := 2) (by omega)
theorem c3 (h : IsW w G R T ptr push stp tk pu) : w.cell? ⟨G, 3, none⟩ = some (.int .u64 push) := World.rowIs.cell h (i := 3) (by omega)
theorem cT (h : IsW w G R T ptr push stp tk pu) {i : Nat} (hi : i < 3) : w.cell? ⟨G, 4 + i, none⟩ = some (pt (ptr (i + 1))) := by
  rw [World.rowIs.cell h (i := 4 + i) (by omega), wcell, if_neg (by omega), if_neg (by omega), if_neg (by omega), if_neg (by omega), if_pos (by omega), show 4 + i - 3 = i + 1 by omega]
theorem cS (h : IsW w G R T ptr push stp tk pu) {i : Nat} (hi : i < 4) : w.cell? ⟨G, 7 + i, none⟩ = some (.int .i64 (stp i : Int)) := by
  rw [World.rowIs.cell h (i := 7 + i) (by omega), wcell, if_neg (by omega), if_neg (by omega), if_neg (by omega), if_neg (by omega), if_neg (by omega), if_pos (by omega), show 7 + i - 7 = i by omega]
theorem c11 (h : IsW w G R T ptr push stp tk pu) : w.cell? ⟨G, 11, none⟩ = some tk := World.rowIs.cell h (i := 11) (by omega)
theorem c12 (h : IsW w G R T ptr push stp tk pu) : w.cell? ⟨G, 12, none⟩ = some pu := World.rowIs.cell h (i := 12) (by omega)
theorem c13 (h : IsW w G R T ptr push stp tk pu) : w.cell? ⟨G, 13, none⟩ = some (.bool true) := World.rowIs.cell h (i := 13) (by omega)
theorem free (h : IsW w G R T ptr push stp tk pu) (i : Nat) : w.frozen? ⟨G, i, none⟩ = false := World.rowIs.frozen h i
theorem of_block (h : IsW w G R T ptr push stp tk pu) (e : w'.heap[G]? = w.heap[G]?) : IsW w' G R T ptr push stp tk pu := World.rowIs.of_block h e
theorem drew (h : IsW w G R T ptr push stp tk pu) : IsW w.drew G R T ptr push stp tk pu := h.of_block rfl
theorem kind (h : IsW w G R T ptr push stp tk pu) : ∃ cur, w.heap[G]? = some (.cells cur 44 (0, 0)) := by obtain ⟨c, hc, _⟩ := h; exact ⟨c, hc⟩
theorem fourteen {j : Nat} (h : j < 14) : j = 0 ∨ j = 1 ∨ j = 2 ∨ j = 3 ∨ j = 4 ∨ j = 5 ∨ j = 6 ∨ j = 7 ∨ j = 8 ∨ j = 9 ∨ j = 10 ∨ j = 11 ∨ j = 12 ∨ j = 13 := by omega
theorem set2 (h : IsW w G R T ptr push stp tk pu) (o : Option Nat) : IsW (w.setCell ⟨G, 2, none⟩ (pt o)) G R T (setP ptr 0 o) push stp tk pu :=
  (World.rowIs.set h 2 _).congr fun j hj => by rcases fourteen hj with e | e | e | e | e | e | e | e | e | e | e | e | e | e <;> subst e <;> simp [wcell, setP]
theorem set3 (h : IsW w G R T ptr push stp tk pu) (x : Int) : IsW (w.setCell ⟨G, 3, none⟩ (.int .u64 x)) G R T ptr x stp tk pu :=
  (World.rowIs.set h 3 _).congr fun j hj => by rcases fourteen hj with e | e | e | e | e | e | e | e | e | e | e | e | e | e <;> subst e <;> simp [wcell]
theorem setT (h : IsW w G R T ptr push stp tk pu) {i : Nat} (hi : i < 3) (o : Option Nat) : IsW (w.setCell ⟨G, 4 + i, none⟩ (pt o)) G R T (setP ptr (i + 1) o) push stp tk pu :=
  (World.rowIs.set h (4 + i) _).congr fun j hj => by
    obtain rfl | rfl | rfl : i = 0 ∨ i = 1 ∨ i = 2 := by omega
    all_goals (rcases fourteen hj with e | e | e | e | e | e | e | e | e | e | e | e | e | e <;> subst e <;> simp [wcell, setP])
theorem setS (h : IsW w G R T ptr push stp tk pu) {i : Nat} (hi : i < 4) (x : Nat) : IsW (w.setCell ⟨G, 7 + i, none⟩ (.int .i64 (x : Int))) G R T ptr push (setN stp i x) tk pu :=
  (World.rowIs.set h (7 + i) _).congr fun j hj => by
    obtain rfl | rfl | rfl | rfl : i = 0 ∨ i = 1 ∨ i = 2 ∨ i = 3 := by omega
    all_goals (rcases fourteen hj with e | e | e | e | e | e | e | e | e | e | e | e | e | e <;> subst e <;> simp [wcell, setN])
theorem set11 (h : IsW w G R T ptr push stp tk pu) (x : Value) : IsW (w.setCell ⟨G, 11, none⟩ x) G R T ptr push stp x pu :=
  (World.rowIs.set h 11 _).congr fun j hj => by rcases fourteen hj with e | e | e | e | e | e | e | e | e | e | e | e | e | e <;> subst e <;> simp [wcell]
theorem set12 (h : IsW w G R T ptr push stp tk pu) (x : Value) : IsW (w.setCell ⟨G, 12, none⟩ x) G R T ptr push stp tk x :=
  (World.rowIs.set h 12 _).congr fun j hj => by rcases fourteen hj with e | e | e | e | e | e | e | e | e | e | e | e | e | e <;> subst e <;> simp [wcell]
theorem set13 (h : IsW w G R T ptr push stp tk pu) : IsW (w.setCell ⟨G, 13, none⟩ (.bool true)) G R T ptr push stp tk pu :=
  (World.rowIs.set h 13 _).congr fun j hj => by rcases fourteen hj with e | e | e | e | e | e | e | e | e | e | e | e | e | e <;> subst e <;> simp [wcell]
end IsW
theorem setN_twice (f : Nat → Nat) (k x y : Nat) : setN (setN f k x) k y = setN f k y := by
  funext i
  by_cases d : i = k
  · rw [d, setN_same, setN_same]
  · rw [setN_other _ _ d, setN_other _ _ d, setN_other _ _ d]
theorem setP_twice (f : Nat → Option Nat) (k : Nat) (x y : Option Nat) : setP (setP f k x) k y = setP f k y := by
  funext i
  by_cases d : i = k
  · rw [d, setP_same, setP_same]
  · rw [setP_other _ _ d, setP_other _ _ d, setP_other _ _ d]
theorem setS_twice (f : Nat → Ac) (k : Nat) (x y : Ac) : setS (setS f k x) k y = setS f k y := by
  funext i
  by_cases d : i = k
  · rw [d, setS_same, setS_same]
  · rw [setS_other _ _ d, setS_other _ _ d, setS_other _ _ d]

/-- One number more, and where the slice lies then. -/
theorem append_at {w : World} {B n cap : Nat} {ad : Option Addr} {V : Nat → Value} {ops : Array Oper} {rest : List Oper} {o : Oper} {a : Act} {Q : Exit → Act → World → Prop} (hown : OwnR 32 w B ad n cap V) (blk : Nat) (p : Int) (hblk : w.heap[blk]? = some (.cells #[.int .u64 p] 32 (0, 0))) (hn : n ≤ 1000000) (hB : B ≤ w.heap.size)
    (hgd : o.guard = none) (s y : Operand)
    (ho : o.op = .call { callee := .builtin .append, args := #[s, y], argTypes := #[31, 31] }) (hs : a.eval s = .slice ad n cap) (hx : a.eval y = .slice (some ⟨blk, 0, none⟩) 1 1)
    (h : ∀ g cap' w', OwnR 32 w' B (some ⟨g, 0, none⟩) (n + 1) cap' (fun i => if i = n then .int .u64 p else V i) → Went (At ad) w w' → (At ad g ∨ w.heap.size ≤ g) → wpList Try.prog ops Q rest (a.put o.dst (.slice (some ⟨g, 0, none⟩) (n + 1) cap')) w') :
    wpList Try.prog ops Q (o :: rest) a w := by
  obtain ⟨i, hi, hzz⟩ := Option.map_eq_some_iff.1 info32
  simp only [Prod.mk.injEq] at hzz
  obtain ⟨hz, hsz, hby⟩ := hzz
  have hob : ∀ k, some k = (Value.slice ad n cap).ownBlock → At ad k := by
    intro k hk
    cases ad with
    | none => simp [Value.ownBlock] at hk
    | some a => exact ⟨a, rfl, by simpa [Value.ownBlock] using hk.symm⟩
  refine wpList_append_lies (P := Try.prog) w hgd s y 31 ho B 32 i _ 1 8 Try.underlying31 hi hz hsz hby (by kernel_rfl) (by decide) (.slice ad n cap) n (rowL n V) hs hown ⟨blk, 0, none⟩ 1 1 [.int .u64 p] hx rfl (World.news_of_block hblk) ?_ (by decide) ?_ ?_ hB w.heap.size rfl ?_
  · intro u hu
    simp only [List.mem_cons, List.not_mem_nil, or_false] at hu
    subst hu
    rfl
  · simp only [maxLen]; omega
  · omega
  · intro g cap' w' o1 o2 o3 o4
    refine h g cap' w' ?_ ⟨o2.os, o2.tape, o2.output, o2.size, fun k hk hA => o2.block k hk fun e => hA (hob k e)⟩ (o3.elim (fun e => .inl (hob g e.symm)) (fun e => .inr (by omega)))
    unfold OwnR
    rw [rowL_succ]
    have e1 : rowL n (fun i => if i = n then .int .u64 p else V i) = rowL n V := rowL_congr fun i hi => if_neg (by omega)
    rw [e1]
    simp only [if_true]
    exact o1

/-- The statement's world at G: all that it names is in memory. -/
structure WorldI (W w : World) (G R T n : Nat) (c : Nat → Int) (o : Int) (ptr : Nat → Option Nat) (Ss : Nat → Ac) (push : Int) (stp : Nat → Nat) (adK : Option Addr) (capK L : Nat) (K : Nat → Int) (adP : Option Addr) (capP P : Nat) : Prop where
  sys : ∃ f, Sys w (R + 1) R (n + 2) T 0 n c o f
  hd : IsW w G R T ptr push stp (.slice adK L capK) (.slice adP P capP)
  took : OwnR 32 w W.heap.size adK L capK (fun i => .int .u64 (K i))
  put : ∃ Y, OwnR 32 w W.heap.size adP P capP Y
  apart : ∀ k, At adK k → ¬ At adP k
  acts : ∀ q, q < 4 → ∀ A, ptr q = some A → IsAct w A T (Ss q) ∧ W.heap.size ≤ A
  inj : ∀ q r A, q < 4 → r < 4 → ptr q = some A → ptr r = some A → q = r
  old : Below W.heap.size W w
  hR : W.heap.size ≤ R
  hG : W.heap.size ≤ G

section
variable {W w w' : World} {G R T n capK L capP P A q : Nat} {c c' : Nat → Int} {o : Int} {ptr : Nat → Option Nat} {Ss : Nat → Ac} {S S' : Ac} {push : Int} {stp : Nat → Nat} {adK adP : Option Addr} {K : Nat → Int}
theorem WorldI.size (h : WorldI W w G R T n c o ptr Ss push stp adK capK L K adP capP P) : W.heap.size ≤ w.heap.size := h.old.size
theorem WorldI.stand (h : WorldI W w G R T n c o ptr Ss push stp adK capK L K adP capP P) : Stand W w R (n + 2) T 0 n c := by
  obtain ⟨f, H⟩ := h.sys
  exact ⟨⟨o, f, H⟩, h.old, h.hR⟩
theorem IsW.neA {tk pu : Value} (h : IsW w G R T ptr push stp tk pu) (k : IsAct w A q S) : A ≠ G := fun e => by
  obtain ⟨cur, hc⟩ := h.kind
  unfold IsAct at k
  rw [e, hc] at k
  simp at k
theorem Sys.neG {N b : Nat} {f : Int} {tk pu : Value} (h : Sys w (R + 1) R N T b n c o f) (k : IsW w G R T ptr push stp tk pu) : R + 1 ≠ G ∧ R ≠ G ∧ T ≠ G := by
  obtain ⟨cur, hc⟩ := k.kind
  refine ⟨fun e => ?_, fun e => ?_, fun e => ?_⟩
  · have := h.mem.head; rw [e, hc] at this; simp at this
  · obtain ⟨cs, hb, _⟩ := h.mem.row
    rw [e, hc] at hb
    simp at hb
  · have := h.tab; rw [e, hc] at this; simp at this
/-- Something new beside it. -/
theorem WorldI.new (h : WorldI W w G R T n c o ptr Ss push stp adK capK L K adP capP P) (k : Below w.heap.size w w') : WorldI W w' G R T n c o ptr Ss push stp adK capK L K adP capP P := by
  obtain ⟨f, H⟩ := h.sys
  obtain ⟨Y, hY⟩ := h.put
  exact ⟨⟨f, H.below k⟩, h.hd.of_block (k.block _ h.hd.lt), h.took.below k, ⟨Y, hY.below k⟩, h.apart, fun q hq A e => ⟨(h.acts q hq A e).1.below k, (h.acts q hq A e).2⟩, h.inj, far h.old k h.size, h.hR, h.hG⟩
theorem WorldI.drew (h : WorldI W w G R T n c o ptr Ss push stp adK capK L K adP capP P) : WorldI W w.drew G R T n c o ptr Ss push stp adK capK L K adP capP P :=
  h.new ⟨rfl, rfl, rfl, Nat.le_refl _, fun _ _ => rfl⟩
/-- Its own cells turned. -/
theorem WorldI.head {ptr' : Nat → Option Nat} {push' : Int} {stp' : Nat → Nat} (h : WorldI W w G R T n c o ptr Ss push stp adK capK L K adP capP P) (k : Only G w w') (hd : IsW w' G R T ptr' push' stp' (.slice adK L capK) (.slice adP P capP))
    (ha : ∀ q, q < 4 → ∀ A, ptr' q = some A → IsAct w A T (Ss q) ∧ W.heap.size ≤ A) (hi : ∀ q r A, q < 4 → r < 4 → ptr' q = some A → ptr' r = some A → q = r) : WorldI W w' G R T n c o ptr' Ss push' stp' adK capK L K adP capP P := by
  obtain ⟨f, H⟩ := h.sys
  obtain ⟨Y, hY⟩ := h.put
  have hn := H.neG h.hd
  obtain ⟨cur, hc⟩ := h.hd.kind
  refine ⟨⟨f, H.kept fun b hb => k.block b ?_ ?_⟩, hd, h.took.kept fun b hb => k.block b (h.took.block b hb).2 fun e => ?_, ⟨Y, hY.kept fun b hb => k.block b (hY.block b hb).2 fun e => ?_⟩, h.apart, fun q hq A e => ?_, hi, h.old.trans (k.below h.size fun i e => by have := h.hG; omega), h.hR, h.hG⟩
  · rcases hb with rfl | rfl | rfl
    · exact H.mem.ltP
    · exact H.mem.ltR
    · exact H.ltT
  · rcases hb with rfl | rfl | rfl
    · exact hn.1
    · exact hn.2.1
    · exact hn.2.2
  · subst e; exact h.took.apart hc (by decide) hb
  · subst e; exact hY.apart hc (by decide) hb
  · obtain ⟨ka, hW⟩ := ha q hq A e
    exact ⟨ka.kept (k.block _ ka.lt (h.hd.neA ka)), hW⟩
/-- The count of steps turned. -/
theorem WorldI.count (h : WorldI W w G R T n c o ptr Ss push stp adK capK L K adP capP P) (hq : q < 4) (x : Nat) : WorldI W (w.setCell ⟨G, 7 + q, none⟩ (.int .i64 (x : Int))) G R T n c o ptr Ss push (setN stp q x) adK capK L K adP capP P :=
  h.head (Only.set G _ w _) (h.hd.setS hq x) h.acts h.inj
/-- Act q made a step. -/
theorem WorldI.stepped {o' : Int} (h : WorldI W w G R T n c o ptr Ss push stp adK capK L K adP capP P) (hq : q < 4) (hp : ptr q = some A) (s : ∃ f, Sys w' (R + 1) R (n + 2) T 0 n c' o' f) (k : IsAct w' A T S') (m : Went (Foot (R + 1) R A) w w') : WorldI W w' G R T n c' o' ptr (setS Ss q S') push stp adK capK L K adP capP P := by
  obtain ⟨f, H⟩ := h.sys
  obtain ⟨Y, hY⟩ := h.put
  obtain ⟨ka, hW⟩ := h.acts q hq A hp
  have hn := H.neG h.hd
  refine ⟨s, h.hd.of_block (m.block _ h.hd.lt fun e => ?_), h.took.went plain32 H ka m, ⟨Y, hY.went plain32 H ka m⟩, h.apart, fun r hr B e => ?_, h.inj, h.old.trans (m.below h.size fun i hi => by have := h.hR; rcases hi with e | e | e <;> omega), h.hR, h.hG⟩
  · rcases e with e | e | e
    · exact hn.1 e.symm
    · exact hn.2.1 e.symm
    · exact h.hd.neA ka e.symm
  · by_cases d : r = q
    · subst d
      rw [setS_same]
      rw [hp] at e
      injection e with e
      subst e
      exact ⟨k, hW⟩
    · rw [setS_other _ _ d]
      obtain ⟨kr, hWr⟩ := h.acts r hr B e
      refine ⟨kr.kept (m.block _ kr.lt fun z => ?_), hWr⟩
      rcases z with z | z | z
      · exact kr.neP H.mem z
      · exact kr.neR H.mem z
      · subst z; exact d (h.inj r q B hr hq e hp)
/-- Act q is begun: it is in memory, and its pointer is laid. -/
theorem WorldI.begun {push' : Int} {w2 : World} (h : WorldI W w G R T n c o ptr Ss push stp adK capK L K adP capP P) (hq : q < 4) (k : IsAct w A T S) (hA : W.heap.size ≤ A) (hnew : ∀ r, r < 4 → ptr r ≠ some A) (m : Only G w w2) (hd : IsW w2 G R T (setP ptr q (some A)) push' stp (.slice adK L capK) (.slice adP P capP)) : WorldI W w2 G R T n c o (setP ptr q (some A)) (setS Ss q S) push' stp adK capK L K adP capP P := by
  have h1 : WorldI W w G R T n c o ptr Ss push stp adK capK L K adP capP P := h
  obtain ⟨f, H⟩ := h.sys
  obtain ⟨Y, hY⟩ := h.put
  have hn := H.neG h.hd
  obtain ⟨cur, hc⟩ := h.hd.kind
  refine ⟨⟨f, H.kept fun b hb => m.block b ?_ ?_⟩, hd, h.took.kept fun b hb => m.block b (h.took.block b hb).2 fun e => ?_, ⟨Y, hY.kept fun b hb => m.block b (hY.block b hb).2 fun e => ?_⟩, h.apart, fun r hr B e => ?_, fun r s B hr hs e1 e2 => ?_, h.old.trans (m.below h.size fun i e => by have := h.hG; omega), h.hR, h.hG⟩
  · rcases hb with rfl | rfl | rfl
    · exact H.mem.ltP
    · exact H.mem.ltR
    · exact H.ltT
  · rcases hb with rfl | rfl | rfl
    · exact hn.1
    · exact hn.2.1
    · exact hn.2.2
  · subst e; exact h.took.apart hc (by decide) hb
  · subst e; exact hY.apart hc (by decide) hb
  · by_cases d : r = q
    · subst d
      rw [setS_same]
      rw [setP_same] at e
      injection e with e
      subst e
      exact ⟨k.kept (m.block _ k.lt (h.hd.neA k)), hA⟩
    · rw [setS_other _ _ d]
      rw [setP_other _ _ d] at e
      obtain ⟨kr, hWr⟩ := h.acts r hr B e
      exact ⟨kr.kept (m.block _ kr.lt (h.hd.neA kr)), hWr⟩
  · by_cases d1 : r = q
    · by_cases d2 : s = q
      · omega
      · rw [d1, setP_same] at e1
        rw [setP_other _ _ d2] at e2
        injection e1 with e1
        subst e1
        exact absurd e2 (hnew s hs)
    · by_cases d2 : s = q
      · rw [d2, setP_same] at e2
        rw [setP_other _ _ d1] at e1
        injection e2 with e2
        subst e2
        exact absurd e1 (hnew r hr)
      · rw [setP_other _ _ d1] at e1
        rw [setP_other _ _ d2] at e2
        exact h.inj r s B hr hs e1 e2
/-- Act q is let go. -/
theorem WorldI.gone {w2 : World} (h : WorldI W w G R T n c o ptr Ss push stp adK capK L K adP capP P) (m : Only G w w2) (hd : IsW w2 G R T (setP ptr q none) push stp (.slice adK L capK) (.slice adP P capP)) : WorldI W w2 G R T n c o (setP ptr q none) Ss push stp adK capK L K adP capP P := by
  refine h.head m hd (fun r hr B e => ?_) (fun r s B hr hs e1 e2 => ?_)
  · by_cases d : r = q
    · rw [d, setP_same] at e; cases e
    · rw [setP_other _ _ d] at e; exact h.acts r hr B e
  · by_cases d1 : r = q
    · rw [d1, setP_same] at e1; cases e1
    · by_cases d2 : s = q
      · rw [d2, setP_same] at e2; cases e2
      · rw [setP_other _ _ d1] at e1
        rw [setP_other _ _ d2] at e2
        exact h.inj r s B hr hs e1 e2
/-- What a row of numbers of the call's own does to all but itself. -/
theorem WorldI.rowed {ad : Option Addr} {m cap : Nat} {V : Nat → Value} (h : WorldI W w G R T n c o ptr Ss push stp adK capK L K adP capP P) (r : OwnR 32 w W.heap.size ad m cap V) (k : Went (At ad) w w') :
    (∃ f, Sys w' (R + 1) R (n + 2) T 0 n c o f) ∧ IsW w' G R T ptr push stp (.slice adK L capK) (.slice adP P capP) ∧ (∀ q, q < 4 → ∀ A, ptr q = some A → IsAct w' A T (Ss q) ∧ W.heap.size ≤ A) ∧ Below W.heap.size W w' := by
  obtain ⟨f, H⟩ := h.sys
  obtain ⟨cur, hc⟩ := h.hd.kind
  exact ⟨⟨f, H.row r plain32 k⟩, h.hd.of_block (k.block _ h.hd.lt (r.apart hc (by decide))), fun q hq A e => ⟨(h.acts q hq A e).1.row r plain32 k, (h.acts q hq A e).2⟩, h.old.trans (k.below h.size fun b hb => (r.block b hb).1)⟩
/-- One number more was taken. -/
theorem WorldI.take {g cap' : Nat} {v : Int} {w2 : World} (h : WorldI W w G R T n c o ptr Ss push stp adK capK L K adP capP P)
    (o2 : OwnR 32 w' W.heap.size (some ⟨g, 0, none⟩) (L + 1) cap' (fun i => if i = L then .int .u64 v else .int .u64 (K i))) (k : Went (At adK) w w') (hg : At adK g ∨ w.heap.size ≤ g)
    (m : w2 = w'.setCell ⟨G, 11, none⟩ (.slice (some ⟨g, 0, none⟩) (L + 1) cap')) : WorldI W w2 G R T n c o ptr Ss push stp (some ⟨g, 0, none⟩) cap' (L + 1) (ext K L v) adP capP P := by
  subst m
  obtain ⟨Y, hY⟩ := h.put
  obtain ⟨h1, h2, h3, h4⟩ := h.rowed h.took k
  have hap : ∀ b, At (some ⟨g, 0, none⟩) b → ¬ At adP b := by
    rintro b ⟨a, e, rfl⟩ hb
    injection e with e
    subst e
    rcases hg with d | d
    · exact h.apart g d hb
    · have := (hY.block g hb).2; omega
  have hY' : OwnR 32 w' W.heap.size adP P capP Y := hY.kept fun b hb => k.block b (hY.block b hb).2 fun d => h.apart b d hb
  have base : WorldI W w' G R T n c o ptr Ss push stp (some ⟨g, 0, none⟩) cap' (L + 1) (ext K L v) adP capP P → WorldI W (w'.setCell ⟨G, 11, none⟩ (.slice (some ⟨g, 0, none⟩) (L + 1) cap')) G R T n c o ptr Ss push stp (some ⟨g, 0, none⟩) cap' (L + 1) (ext K L v) adP capP P := fun q => q.head (Only.set G _ _ _) (q.hd.set11 _) q.acts q.inj
  obtain ⟨f, H⟩ := h1
  have hn := H.neG h2
  obtain ⟨cur, hc⟩ := h2.kind
  have own : OwnR 32 w' W.heap.size (some ⟨g, 0, none⟩) (L + 1) cap' (fun i => .int .u64 (ext K L v i)) := o2.congr fun i _ => by
    by_cases d : i = L
    · simp only [d, if_true, ext_new]
    · simp only [d, if_false, ext]
  have lift : ∀ {b : Nat}, b < w'.heap.size → b ≠ G → (w'.setCell ⟨G, 11, none⟩ (.slice (some ⟨g, 0, none⟩) (L + 1) cap')).heap[b]? = w'.heap[b]? := fun hb hne => (Only.set G 11 w' _).block _ hb hne
  refine ⟨⟨f, H.kept fun b hb => lift ?_ ?_⟩, h2.set11 _, own.kept fun b hb => lift (own.block b hb).2 fun e => ?_, ⟨Y, hY'.kept fun b hb => lift (hY'.block b hb).2 fun e => ?_⟩, hap, fun q hq A e => ?_, h.inj, h4.trans ((Only.set G 11 w' _).below h4.size fun i e => by have := h.hG; omega), h.hR, h.hG⟩
  · rcases hb with rfl | rfl | rfl
    · exact H.mem.ltP
    · exact H.mem.ltR
    · exact H.ltT
  · rcases hb with rfl | rfl | rfl
    · exact hn.1
    · exact hn.2.1
    · exact hn.2.2
  · subst e; exact own.apart hc (by decide) hb
  · subst e; exact hY'.apart hc (by decide) hb
  · obtain ⟨ka, hW⟩ := h3 q hq A e
    exact ⟨ka.kept (lift ka.lt (h2.neA ka)), hW⟩
/-- One number more was put. -/
theorem WorldI.puts {g cap' : Nat} {Y' : Nat → Value} {w2 : World} (h : WorldI W w G R T n c o ptr Ss push stp adK capK L K adP capP P)
    (o2 : OwnR 32 w' W.heap.size (some ⟨g, 0, none⟩) (P + 1) cap' Y') (k : Went (At adP) w w') (hg : At adP g ∨ w.heap.size ≤ g)
    (m : w2 = w'.setCell ⟨G, 12, none⟩ (.slice (some ⟨g, 0, none⟩) (P + 1) cap')) : WorldI W w2 G R T n c o ptr Ss push stp adK capK L K (some ⟨g, 0, none⟩) cap' (P + 1) := by
  subst m
  obtain ⟨Y, hY⟩ := h.put
  obtain ⟨h1, h2, h3, h4⟩ := h.rowed hY k
  have hap : ∀ b, At adK b → ¬ At (some ⟨g, 0, none⟩) b := by
    rintro b hb ⟨a, e, rfl⟩
    injection e with e
    subst e
    rcases hg with d | d
    · exact h.apart g hb d
    · have := (h.took.block g hb).2; omega
  have hK : OwnR 32 w' W.heap.size adK L capK (fun i => .int .u64 (K i)) := h.took.kept fun b hb => k.block b (h.took.block b hb).2 fun d => h.apart b hb d
  obtain ⟨f, H⟩ := h1
  have hn := H.neG h2
  obtain ⟨cur, hc⟩ := h2.kind
  have lift : ∀ {b : Nat}, b < w'.heap.size → b ≠ G → (w'.setCell ⟨G, 12, none⟩ (.slice (some ⟨g, 0, none⟩) (P + 1) cap')).heap[b]? = w'.heap[b]? := fun hb hne => (Only.set G 12 w' _).block _ hb hne
  refine ⟨⟨f, H.kept fun b hb => lift ?_ ?_⟩, h2.set12 _, hK.kept fun b hb => lift (hK.block b hb).2 fun e => ?_, ⟨Y', o2.kept fun b hb => lift (o2.block b hb).2 fun e => ?_⟩, hap, fun q hq A e => ?_, h.inj, h4.trans ((Only.set G 12 w' _).below h4.size fun i e => by have := h.hG; omega), h.hR, h.hG⟩
  · rcases hb with rfl | rfl | rfl
    · exact H.mem.ltP
    · exact H.mem.ltR
    · exact H.ltT
  · rcases hb with rfl | rfl | rfl
    · exact hn.1
    · exact hn.2.1
    · exact hn.2.2
  · subst e; exact hK.apart hc (by decide) hb
  · subst e; exact o2.apart hc (by decide) hb
  · obtain ⟨ka, hW⟩ := h3 q hq A e
    exact ⟨ka.kept (lift ka.lt (h2.neA ka)), hW⟩
end
end Go.Proofs.Ytfpgdmnbehingaa
