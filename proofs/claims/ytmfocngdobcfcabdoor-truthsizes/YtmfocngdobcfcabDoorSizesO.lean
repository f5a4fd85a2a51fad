/-
  A slice of small numbers of the call's own: one more, an insertion.
-/
import Derived.Test.YtmfocngdobcfcabDoorSizesQ
import Derived.Test.YtmfocngdobcfcabDoorParts
import Derived.Test.YtmfocngdobcfcabDoorSmall
import Derived.Test.YtmfocngdobcfcabDoorExs
import Derived.Laws.CopyOwn
import Derived.Laws.OwnMore
namespace Go.Proofs.YtmfocngdobcfcabDoor
open Go Go.RowKit

def iv (x : Nat) : Value := .int .i64 (x : Int)
def OwnI (w : World) (B : Nat) (ad : Option Addr) (O : List Nat) (cap : Nat) : Prop := w.ownsRow B 3 1 (.slice ad O.length cap) O.length (O.map iv)
theorem OwnI.nil (w : World) (B : Nat) : OwnI w B none [] 0 := World.ownsRow_nil w B 3 1
theorem OwnI.blockGe {w : World} {B : Nat} {ad : Option Addr} {O : List Nat} {cap : Nat} (h : OwnI w B ad O cap) : ∀ k, blockOf ad = some k → B ≤ k ∧ k < w.heap.size := by
  intro k hk
  cases ad with
  | none => simp [blockOf] at hk
  | some a =>
    have : a.block = k := by simpa [blockOf] using hk
    rw [← this]
    exact World.ownsRow.lt h a.block rfl
theorem OwnI.kept {w w' : World} {B : Nat} {ad : Option Addr} {O : List Nat} {cap : Nat} (h : OwnI w B ad O cap) (k : ∀ a, ad = some a → w'.heap[a.block]? = w.heap[a.block]?) : OwnI w' B ad O cap := by
  obtain ⟨h1, h2⟩ := h
  refine ⟨h1, ?_⟩
  rcases h2 with h2 | ⟨g, cap', cur, hv, hb, hh, r⟩
  · exact .inl h2
  · have had : ad = some ⟨g, 0, none⟩ := by injection hv
    exact .inr ⟨g, cap', cur, hv, hb, (k _ had).trans hh, r⟩
theorem OwnI.below {w w' : World} {B : Nat} {ad : Option Addr} {O : List Nat} {cap : Nat} (h : OwnI w B ad O cap) (k : Below w.heap.size w w') : OwnI w' B ad O cap :=
  h.kept fun a ha => k.block _ (h.blockGe a.block (by rw [ha]; rfl)).2
theorem OwnI.new {w : World} {B : Nat} {ad : Option Addr} {O : List Nat} {cap : Nat} (h : OwnI w B ad O cap) (o : Obj) : OwnI (w.alloc o) B ad O cap :=
  h.kept fun a ha => Below.heap_alloc _ _ _ (h.blockGe a.block (by rw [ha]; rfl)).2
theorem info3 : (Tryd.prog.info? 3).map (fun i => (i.zero, i.size, i.bytes)) = some (some (.int .i64 0), 1, 8) := by kernel_rfl
theorem append_zero {w : World} {B : Nat} {ad : Option Addr} {O : List Nat} {cap : Nat} (hown : OwnI w B ad O cap) (blk : Nat) (hblk : w.heap[blk]? = some (.cells #[.int .i64 0] 3 (0, 0))) (hn : O.length ≤ 1000) (hB : B ≤ w.heap.size)
    {ops : Array Oper} {rest : List Oper} {o : Oper} {a : Act} {Q : Exit → Act → World → Prop} (hgd : o.guard = none) (s x : Operand)
    (ho : o.op = .call { callee := .builtin .append, args := #[s, x], argTypes := #[34, 34] }) (hs : a.eval s = .slice ad O.length cap) (hx : a.eval x = .slice (some ⟨blk, 0, none⟩) 1 1)
    (h : ∀ g cap' w', OwnI w' B (some ⟨g, 0, none⟩) (O ++ [0]) cap' → w.grownBy w' (blockOf ad) → (blockOf ad = some g ∨ g = w.heap.size) → g < w'.heap.size → wpList Tryd.prog ops Q rest (a.put o.dst (.slice (some ⟨g, 0, none⟩) (O.length + 1) cap')) w') :
    wpList Tryd.prog ops Q (o :: rest) a w := by
  obtain ⟨i, hi, hzz⟩ := Option.map_eq_some_iff.1 info3
  simp only [Prod.mk.injEq] at hzz
  obtain ⟨hz, hsz, hby⟩ := hzz
  have hob : (Value.slice ad O.length cap).ownBlock = blockOf ad := by cases ad <;> rfl
  refine wpList_append_lies (P := Tryd.prog) w hgd s x 34 ho B 3 i _ 1 8 Tryd.underlying34 hi hz hsz hby (by kernel_rfl) (by decide) (.slice ad O.length cap) O.length (O.map iv) hs hown ⟨blk, 0, none⟩ 1 1 [.int .i64 0] hx rfl (World.news_of_block hblk) ?_ (by decide) ?_ ?_ hB w.heap.size rfl ?_
  · intro u hu
    simp only [List.mem_cons, List.not_mem_nil, or_false] at hu
    rw [hu]; rfl
  · simp only [maxLen]; omega
  · omega
  · intro g cap' w' o1 o2 o3 o4
    rw [hob] at o2 o3
    refine h g cap' w' ?_ o2 o3 o4
    unfold OwnI
    rw [List.map_append, List.length_append]
    exact o1
theorem OwnI.row {w : World} {B g : Nat} {O : List Nat} {cap : Nat} (h : OwnI w B (some ⟨g, 0, none⟩) O cap) : ∃ cur : List Value, w.heap[g]? = some (.cells cur.toArray 3 (0, 0)) ∧ B ≤ g ∧ O.length ≤ cap ∧ cap ≤ maxLen ∧ cur.length = cap ∧ cur.take O.length = O.map iv := by
  obtain ⟨_, h2⟩ := h
  rcases h2 with ⟨h2, _⟩ | ⟨g', cap', cur, hv, hb, hh, h3, h4, h5, h6⟩
  · cases h2
  · injection hv with e1 _ e3
    injection e1 with e1
    injection e1 with e1
    subst e1 e3
    exact ⟨cur.toList, by simpa using hh, hb, h3, h4, by simpa using h5, by simpa using h6⟩
theorem OwnI.of_row {w : World} {B g : Nat} {O : List Nat} {cap : Nat} {cur : List Value} (hh : w.heap[g]? = some (.cells cur.toArray 3 (0, 0))) (hb : B ≤ g) (h1 : O.length ≤ cap) (h2 : cap ≤ maxLen) (h3 : cur.length = cap) (h4 : cur.take O.length = O.map iv) : OwnI w B (some ⟨g, 0, none⟩) O cap :=
  ⟨by simp, .inr ⟨g, cap, cur.toArray, rfl, hb, hh, h1, h2, by simpa using h3, by simpa using h4⟩⟩
/-- Put in at a place. -/
def insAt (O : List Nat) (k v : Nat) : List Nat := O.take k ++ v :: O.drop k
theorem insAt_length (O : List Nat) (k v : Nat) : (insAt O k v).length = O.length + 1 := by
  simp only [insAt, List.length_append, List.length_take, List.length_cons, List.length_drop]
  omega
theorem insAt_perm (O : List Nat) (k v : Nat) : (insAt O k v).Perm (v :: O) := by
  have h := List.perm_middle (a := v) (l₁ := O.take k) (l₂ := O.drop k)
  rwa [List.take_append_drop] at h
/-- The row behind the copy, as a list. -/
def shifted (O : List Nat) (k : Nat) : List Nat := (O ++ [0]).take (k + 1) ++ O.drop k
theorem shifted_length (O : List Nat) (k : Nat) (hk : k ≤ O.length) : (shifted O k).length = O.length + 1 := by
  simp only [shifted, List.length_append, List.length_take, List.length_cons, List.length_drop, List.length_nil]
  omega
theorem shifted_set (O : List Nat) (k v : Nat) (hk : k ≤ O.length) : (shifted O k).set k v = insAt O k v := by
  have e : (O ++ [0]).take (k + 1) = O.take k ++ [(O ++ [0]).getD k 0] := by
    rw [List.take_succ_eq_append_getElem (by simp; omega)]
    congr 1
    · rw [List.take_append_of_le_length hk]
    · have hk2 : k < (O ++ [0]).length := by simp; omega
      simp [List.getD, List.getElem?_eq_getElem hk2]
  have hl : (O.take k).length = k := by simp; omega
  unfold shifted insAt
  rw [e, List.append_assoc, List.set_append_right _ _ (by omega), hl, Nat.sub_self]
  rfl
theorem splice_take {cur : List Value} {O : List Nat} {k : Nat} (hk : k ≤ O.length) (ht : cur.take (O.length + 1) = (O ++ [0]).map iv) :
    (splice cur (k + 1) ((O.drop k).map iv)).take (shifted O k).length = (shifted O k).map iv := by
  have h1 : cur.take (k + 1) = ((O ++ [0]).take (k + 1)).map iv := by
    have := congrArg (List.take (k + 1)) ht
    rw [List.take_take, Nat.min_eq_left (by omega), ← List.map_take] at this
    exact this
  unfold splice
  rw [h1, ← List.append_assoc, ← List.map_append]
  have hl : (shifted O k).length = (((O ++ [0]).take (k + 1) ++ O.drop k).map iv).length := by rw [List.length_map]; rfl
  rw [hl, List.take_left]
  rfl
theorem drop_cells {w : World} {B g : Nat} {O : List Nat} {cap k : Nat} (h : OwnI w B (some ⟨g, 0, none⟩) (O ++ [0]) cap) : ∀ j v, ((O.drop k).map iv)[j]? = some v → w.cell? ((⟨g, k, none⟩ : Addr).add j) = some v := by
  intro j v hj
  have hjl : k + j < O.length := by
    have := (List.getElem?_eq_some_iff.1 hj).1
    simp at this
    omega
  have hadd : (⟨g, k, none⟩ : Addr).add j = ⟨g, k + j, none⟩ := by
    by_cases hi : j = 0
    · subst hi; rfl
    · simp [Addr.add, hi]
  have hcell := World.ownsRow.cellAt h (k + j) (by simp; omega)
  rw [hadd, hcell, ← hj, List.getElem?_map, List.getElem?_map, List.getElem?_drop, List.getElem?_append_left hjl]

theorem kall14 (vs : Array Value) (w : World) : (callFunc 14 vs).run Tryd.prog w = .ok (.enter 14 vs) w := by
  have h := Tryd.func14
  go_simp
/-- A slice of one table, new. -/
def tabs1 (F : Nat → Bool) : Value → World → Prop := fun v w => ∃ b, v = .slice (some ⟨b, 0, none⟩) 1 1 ∧ TabsAt w (some ⟨b, 0, none⟩) 1 (One1 F)
theorem tabs1_stay {F : Nat → Bool} {v : Value} {w w' : World} (k : Below w.heap.size w w') (h : tabs1 F v w) : tabs1 F v w' := by
  obtain ⟨b, e, h⟩ := h
  exact ⟨b, e, h.kept k⟩
theorem run_build1 (F : Nat → Bool) (w : World) : (Instr.buildSlice 36 1 #[(0, tab F)]).run Tryd.prog w = .ok (.slice (some ⟨w.heap.size, 0, none⟩) 1 1) (w.alloc (.cells #[.int .u64 (word F 0 : Int), .int .u64 (word F 1 : Int), .int .u64 (word F 2 : Int), .int .u64 (word F 3 : Int)] 24)) := by
  unfold tab
  go_simp
theorem tabs1_new (w : World) (F : Nat → Bool) : tabs1 F (.slice (some ⟨w.heap.size, 0, none⟩) 1 1) (w.alloc (.cells #[.int .u64 (word F 0 : Int), .int .u64 (word F 1 : Int), .int .u64 (word F 2 : Int), .int .u64 (word F 3 : Int)] 24)) := by
  have T := IsTab.new w F
  refine ⟨w.heap.size, rfl, Or.inr ⟨w.heap.size, 0, rfl, T.lt, fun i hi k hk => ?_⟩⟩
  obtain rfl : i = 0 := by omega
  simpa using T.cell hk
theorem tabs1_at (w : World) (F : Nat → Bool) : TabsAt (w.alloc (.cells #[.int .u64 (word F 0 : Int), .int .u64 (word F 1 : Int), .int .u64 (word F 2 : Int), .int .u64 (word F 3 : Int)] 24)) (some ⟨w.heap.size, 0, none⟩) 1 (One1 F) := by
  obtain ⟨b, e, h⟩ := tabs1_new w F
  injection e with e
  injection e with e
  injection e with e
  subst e
  exact h
def Three (F G : Nat → Bool) : Nat → Nat → Bool := fun i => if i = 1 then G else F
theorem tabs_three (w : World) (F G : Nat → Bool) : TabsAt (w.alloc (.cells #[.int .u64 (word F 0 : Int), .int .u64 (word F 1 : Int), .int .u64 (word F 2 : Int), .int .u64 (word F 3 : Int), .int .u64 (word G 0 : Int), .int .u64 (word G 1 : Int), .int .u64 (word G 2 : Int), .int .u64 (word G 3 : Int), .int .u64 (word F 0 : Int), .int .u64 (word F 1 : Int), .int .u64 (word F 2 : Int), .int .u64 (word F 3 : Int)] 24)) (some ⟨w.heap.size, 0, none⟩) 3 (Three F G) := by
  refine Or.inr ⟨w.heap.size, 0, rfl, by simp, fun i hi k hk => ?_⟩
  have hb := Go.Deep.blk_alloc_new w (.cells #[.int .u64 (word F 0 : Int), .int .u64 (word F 1 : Int), .int .u64 (word F 2 : Int), .int .u64 (word F 3 : Int), .int .u64 (word G 0 : Int), .int .u64 (word G 1 : Int), .int .u64 (word G 2 : Int), .int .u64 (word G 3 : Int), .int .u64 (word F 0 : Int), .int .u64 (word F 1 : Int), .int .u64 (word F 2 : Int), .int .u64 (word F 3 : Int)] 24)
  generalize w.alloc _ = u at hb ⊢
  have h3 : i = 0 ∨ i = 1 ∨ i = 2 := by omega
  have h4 : k = 0 ∨ k = 1 ∨ k = 2 ∨ k = 3 := by omega
  rcases h3 with rfl | rfl | rfl <;> rcases h4 with rfl | rfl | rfl | rfl <;> simp [World.cell?, hb, Three]
/-- The order that a slice holds. -/
def ordV (O : List Nat) : Nat → Int := fun i => ((O.getD i 0 : Nat) : Int)
theorem ordV_order {O : List Nat} (hP : O.Perm (List.range 8)) : IsOrder (ordV O) := by
  have hl : O.length = 8 := by simpa using hP.length_eq
  have hnd : O.Nodup := hP.nodup_iff.2 List.nodup_range
  have hget : ∀ i, (h : i < 8) → O.getD i 0 = O[i]'(by omega) := fun i h => by simp [List.getD, List.getElem?_eq_getElem (show i < O.length by omega)]
  refine ⟨fun i hi => ?_, fun i j hi hj e => ?_, fun v hv => ?_⟩
  · have hm : O[i]'(by omega) ∈ List.range 8 := hP.mem_iff.1 (List.getElem_mem _)
    have := List.mem_range.1 hm
    unfold ordV
    rw [hget i hi]
    omega
  · unfold ordV at e
    rw [hget i hi, hget j hj] at e
    have hne := List.pairwise_iff_getElem.1 hnd
    rcases Nat.lt_trichotomy i j with q | q | q
    · exact absurd (by omega) (hne i j (by omega) (by omega) q)
    · exact q
    · exact absurd (by omega) (hne j i (by omega) (by omega) q)
  · have hm : v ∈ O := hP.mem_iff.2 (List.mem_range.2 hv)
    obtain ⟨i, hi, e⟩ := List.getElem_of_mem hm
    exact ⟨i, by omega, by unfold ordV; rw [hget i (by omega), e]⟩
theorem ordV_ints {w : World} {B : Nat} {ad : Option Addr} {O : List Nat} {cap : Nat} (h : OwnI w B ad O cap) (hl : O.length = 8) : IntsAt w ad 8 (ordV O) ∧ 8 ≤ cap := by
  obtain ⟨g, cap', hv, _, hlt⟩ := World.ownsRow.form h (by omega)
  have had : ad = some ⟨g, 0, none⟩ := by injection hv
  subst had
  obtain ⟨cur, _, _, h3, _⟩ := h.row
  refine ⟨.inr ⟨g, 0, rfl, hlt, fun i hi => ?_⟩, by omega⟩
  have hi' : i < O.length := by omega
  rw [Nat.zero_add, World.ownsRow.cellAt h i (by omega), List.getElem?_map, List.getElem?_eq_getElem hi']
  simp [iv, ordV, List.getD, List.getElem?_eq_getElem hi']
theorem hang_bit (F : Nat → Bool) (v : Nat) (hv : v < 8) : M v (supUpto F 8) = hangs (v : Int) (code F) := by
  have key : ∀ n, (supUpto F n).testBit v = (decide (v < n) && !same (fixF F v false) (fixF F v true)) := by
    intro n
    induction n with
    | zero => simp [supUpto]
    | succ n ih =>
      rw [supUpto]
      by_cases e : n = v
      · subst e
        cases hs : same (fixF F n false) (fixF F n true) with
        | true => simp [ih, hs]
        | false => simp [Nat.testBit_or]
      · have hlt : decide (v < n + 1) = decide (v < n) := by congr 1; simp; omega
        split
        · rw [ih, hlt]
        · rw [Nat.testBit_or, Nat.testBit_two_pow, ih, hlt]; simp [e]
  have hr : 0 ≤ (v : Int) ∧ (v : Int) < 8 := by omega
  have hfix : ∀ b, code (fixF F v b) = fixC (code F) (v : Int) b := fun b => by
    rw [fixC]
    refine code_eq.2 fun x hx => ?_
    rw [fixI_at hr, code_bit _ _ (fixAt_lt _ _ _ (by omega) hx)]
    rfl
  rw [← M_bit, key 8, same_code, hfix, hfix]
  unfold hangs
  simp [hv]
theorem hangN_succ (F : Nat → Bool) (v : Nat) (hv : v < 8) : hangN F (v + 1) = hangN F v + if M v (supUpto F 8) = true then 1 else 0 := by
  unfold hangN
  rw [List.range_succ, List.countP_append, List.countP_singleton, hang_bit F v hv]
theorem and1_M (m v : Nat) (hm : m < 256) : bits .and .u8 ((m : Int) / 2 ^ v) 1 = if M v m = true then 1 else 0 := by
  have e : (m : Int) / 2 ^ v = ((m / 2 ^ v : Nat) : Int) := by simp
  have hl : m / 2 ^ v < 256 := Nat.lt_of_le_of_lt (Nat.div_le_self _ _) hm
  have h := u8_and_nat (m / 2 ^ v) 1 hl (by decide)
  rw [e]
  refine (show _ = _ from h).trans ?_
  rw [Nat.and_one_is_mod]
  unfold M
  rcases Nat.mod_two_eq_zero_or_one (m / 2 ^ v) with q | q <;> simp [q]
theorem hangN_le (F : Nat → Bool) (v : Nat) : hangN F v ≤ v := by
  unfold hangN
  have := List.countP_le_length (p := fun v : Nat => hangs (v : Int) (code F)) (l := List.range v)
  simpa using this
end Go.Proofs.YtmfocngdobcfcabDoor
