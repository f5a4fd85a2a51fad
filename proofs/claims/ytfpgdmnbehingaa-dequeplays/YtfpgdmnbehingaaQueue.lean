/-
  A slice of numbers of the call's own that begins anywhere in its block: what it holds when it is cut at either end and appended to.
-/
import Derived.Test.YtfpgdmnbehingaaOwn
namespace Go.Proofs.Ytfpgdmnbehingaa
open Go Go.RowKit

/-- The slice's L numbers U, in a block of the call's own; nil, if it never had one. -/
def OwnQ (w : World) (B : Nat) (ad : Option Addr) (L cap : Nat) (U : Nat → Int) : Prop :=
  (ad = none ∧ L = 0 ∧ cap = 0) ∨ ∃ g off cur, ad = some ⟨g, off, none⟩ ∧ B ≤ g ∧ w.heap[g]? = some (.cells cur 32 (0, 0)) ∧ L ≤ cap ∧ off + cap ≤ cur.size ∧ ∀ i, i < L → cur[off + i]? = some (.int .u64 (U i))

section
variable {w w' : World} {B L cap : Nat} {ad : Option Addr} {U U' : Nat → Int}
theorem OwnQ.nil (w : World) (B : Nat) (U : Nat → Int) : OwnQ w B none 0 0 U := .inl ⟨rfl, rfl, rfl⟩
theorem OwnQ.form (h : OwnQ w B ad L cap U) (hL : 0 < L) : ∃ g off, ad = some ⟨g, off, none⟩ := by
  rcases h with ⟨_, h, _⟩ | ⟨g, off, cur, rfl, _⟩
  · omega
  · exact ⟨g, off, rfl⟩
theorem OwnQ.room (h : OwnQ w B ad L cap U) : L ≤ cap := by
  rcases h with ⟨_, h, _⟩ | ⟨g, off, cur, _, _, _, h, _⟩ <;> omega
theorem OwnQ.cell {g off : Nat} (h : OwnQ w B (some ⟨g, off, none⟩) L cap U) {i : Nat} (hi : i < L) : w.cell? ⟨g, off + i, none⟩ = some (.int .u64 (U i)) := by
  rcases h with ⟨h, _⟩ | ⟨g', off', cur, he, _, hh, _, _, hc⟩
  · cases h
  · injection he with he
    injection he with e1 e2
    subst e1 e2
    simp [World.cell?, hh, hc i hi]
theorem OwnQ.block (h : OwnQ w B ad L cap U) : ∀ k, At ad k → B ≤ k ∧ k < w.heap.size ∧ ∃ cur, w.heap[k]? = some (.cells cur 32 (0, 0)) := by
  rintro k ⟨a, rfl, rfl⟩
  rcases h with ⟨h, _⟩ | ⟨g, off, cur, he, hB, hh, _⟩
  · cases h
  · injection he with he
    subst he
    exact ⟨hB, (Array.getElem?_eq_some_iff.1 hh).1, cur, hh⟩
theorem OwnQ.kept (h : OwnQ w B ad L cap U) (k : ∀ b, At ad b → w'.heap[b]? = w.heap[b]?) : OwnQ w' B ad L cap U := by
  rcases h with h | ⟨g, off, cur, rfl, hB, hh, r⟩
  · exact .inl h
  · exact .inr ⟨g, off, cur, rfl, hB, (k g ⟨_, rfl, rfl⟩).trans hh, r⟩
theorem OwnQ.below (h : OwnQ w B ad L cap U) (k : Below w.heap.size w w') : OwnQ w' B ad L cap U := h.kept fun b hb => k.block _ (h.block b hb).2.1
theorem OwnQ.congr (h : OwnQ w B ad L cap U) (k : ∀ i, i < L → U i = U' i) : OwnQ w B ad L cap U' := by
  rcases h with h | ⟨g, off, cur, h1, h2, h3, h4, h5, h6⟩
  · exact .inl h
  · exact .inr ⟨g, off, cur, h1, h2, h3, h4, h5, fun i hi => by rw [← k i hi]; exact h6 i hi⟩
theorem OwnQ.apart (h : OwnQ w B ad L cap U) {k : Nat} {cur : Array Value} {e' : TypeId} (hk : w.heap[k]? = some (.cells cur e' (0, 0))) (he : e' ≠ 32) : ¬ At ad k := by
  intro hA
  obtain ⟨_, _, cur', h'⟩ := h.block k hA
  rw [hk] at h'
  simp at h'
  exact he h'.2
/-- Fewer at its end. -/
theorem OwnQ.init (h : OwnQ w B ad L cap U) {L' : Nat} (hl : L' ≤ L) : OwnQ w B ad L' cap U := by
  rcases h with ⟨h1, h2, h3⟩ | ⟨g, off, cur, h1, h2, h3, h4, h5, h6⟩
  · exact .inl ⟨h1, by omega, h3⟩
  · exact .inr ⟨g, off, cur, h1, h2, h3, by omega, h5, fun i hi => h6 i (by omega)⟩
/-- One fewer at its beginning. -/
theorem OwnQ.tail {g off off' : Nat} (h : OwnQ w B (some ⟨g, off, none⟩) (L + 1) cap U) (ho : off' = off + 1 ∨ cap = 1 ∧ off' = off) : OwnQ w B (some ⟨g, off', none⟩) L (cap - 1) (fun i => U (i + 1)) := by
  rcases h with ⟨h, _⟩ | ⟨g', off0, cur, he, hB, hh, h4, h5, h6⟩
  · cases h
  · injection he with he
    injection he with e1 e2
    subst e1 e2
    refine .inr ⟨g, off', cur, rfl, hB, hh, by omega, by omega, fun i hi => ?_⟩
    rcases ho with rfl | ⟨rfl, rfl⟩
    · rw [show off + 1 + i = off + (i + 1) by omega]; exact h6 (i + 1) (by omega)
    · omega
section
variable {P R N T b n A T' : Nat} {c : Nat → Int} {ops fails : Int} {S : Ac}
theorem OwnQ.moved (o : OwnQ w B ad L cap U) (h : IsMem w P R N c ops fails) (k : Moved P R w w') : OwnQ w' B ad L cap U := by
  refine o.kept fun b hb => k.block b (o.block b hb).2.1 (fun d => ?_) (fun d => ?_)
  · subst d
    exact o.apart h.head (by decide) hb
  · subst d
    obtain ⟨cs, hb', _⟩ := h.row
    exact o.apart hb' (by decide) hb
theorem OwnQ.went (o : OwnQ w B ad L cap U) (h : Sys w P R N T b n c ops fails) (f : IsAct w A T' S) (k : Went (Foot P R A) w w') : OwnQ w' B ad L cap U := by
  refine o.kept fun b hb => k.block b (o.block b hb).2.1 fun d => ?_
  rcases d with rfl | rfl | rfl
  · exact o.apart h.mem.head (by decide) hb
  · obtain ⟨cs, hb', _⟩ := h.mem.row
    exact o.apart hb' (by decide) hb
  · exact o.apart f (by decide) hb
theorem Sys.queue (h : Sys w P R N T b n c ops fails) (o : OwnQ w B ad L cap U) (k : Went (At ad) w w') : Sys w' P R N T b n c ops fails := by
  refine h.kept fun b hb => k.block b ?_ ?_
  · rcases hb with rfl | rfl | rfl
    · exact h.mem.ltP
    · exact h.mem.ltR
    · exact h.ltT
  · rcases hb with rfl | rfl | rfl
    · exact o.apart h.mem.head (by decide)
    · obtain ⟨cs, hb, _⟩ := h.mem.row
      exact o.apart hb (by decide)
    · exact o.apart h.tab (by decide)
end
end

/-- One number more. -/
theorem run_append_q {w : World} {B L cap : Nat} {ad : Option Addr} {U : Nat → Int} (h : OwnQ w B ad L cap U) (blk : Nat) (x : Int) (hblk : w.heap[blk]? = some (.cells #[.int .u64 x] 32 (0, 0))) (hL : L ≤ 1000000) (hB : B ≤ w.heap.size) (ty : TypeId) :
    ∃ g off cap' w', (Builtin.append_ #[31, 31] ty #[.slice ad L cap, .slice (some ⟨blk, 0, none⟩) 1 1]).run Try.prog w = .ok (.slice (some ⟨g, off, none⟩) (L + 1) cap') w' ∧
      OwnQ w' B (some ⟨g, off, none⟩) (L + 1) cap' (fun i => if i = L then x else U i) ∧ Went (At ad) w w' := by
  obtain ⟨i, hi, hzz⟩ := Option.map_eq_some_iff.1 info32
  simp only [Prod.mk.injEq] at hzz
  obtain ⟨hz, hs, hb⟩ := hzz
  have src : Src Try.prog i.size 31 (.slice (some ⟨blk, 0, none⟩) 1 1) 1 [.int .u64 x] w := by
    refine Src.ofSlice w Try.underlying31 ⟨blk, 0, none⟩ 1 1 [.int .u64 x] (by rw [hs]; rfl) (World.news_of_block hblk) (fun u hu => ?_)
    simp only [List.mem_cons, List.not_mem_nil, or_false] at hu
    subst hu
    rfl
  by_cases hroom : L + 1 ≤ cap
  · rcases h with ⟨_, _, h⟩ | ⟨g, off, cur, rfl, hBg, hh, h4, h5, h6⟩
    · omega
    · have hlt : off + L < cur.size := by omega
      have hr := run_append_room_src (P := Try.prog) w 31 31 ty 32 i Try.underlying31 hi g off L cap _ 1 [.int .u64 x] src hroom
        (fun j hj => by simp at hj; subst hj; rw [hs]; simp [World.cell?, hh, hlt]) (fun j hj => by simp [World.frozen?, hh])
      rw [hs, Nat.mul_one] at hr
      refine ⟨g, off, cap, _, hr, .inr ⟨g, off, cur.setIfInBounds (off + L) (.int .u64 x), rfl, hBg, ?_, hroom, by simpa using h5, fun j hj => ?_⟩, ?_⟩
      · simp [World.setCells, World.setCell, Array.getElem?_modify, hh]
      · show _ = some (Value.int .u64 (if j = L then x else U j))
        by_cases d : j = L
        · subst d
          rw [if_pos rfl, Array.getElem?_setIfInBounds_self_of_lt hlt]
        · rw [if_neg d, Array.getElem?_setIfInBounds_ne (by omega)]
          exact h6 j (by omega)
      · exact Went.set (S := At (some ⟨g, off, none⟩)) ⟨_, rfl, rfl⟩ w _
  · have hold : (Builtin.firstCells i.size L (.slice ad L cap)).run Try.prog w.drew = .ok (rowL L (fun k => .int .u64 (U k))).toArray w.drew := by
      rcases h with ⟨rfl, rfl, rfl⟩ | ⟨g, off, cur, rfl, hBg, hh, h4, h5, h6⟩
      · exact run_firstCells_none w.drew i.size 0 0 0
      · refine run_firstCells_some (P := Try.prog) w.drew i.size L ⟨g, off, none⟩ L cap _ (by rw [rowL_length, hs, Nat.mul_one]) (fun j v hv => ?_)
        have hj : j < L := by
          have := (List.getElem?_eq_some_iff.1 hv).1
          rw [rowL_length] at this
          exact this
        rw [rowL_get L _ hj] at hv
        injection hv with hv
        subst hv
        rw [Addr.add_mid]
        have hc : w.cell? ⟨g, off + j, none⟩ = some (.int .u64 (U j)) := by simp [World.cell?, hh, h6 j hj]
        exact hc
    have hr := run_append_grow_src (P := Try.prog) w 31 31 ty 32 i _ Try.underlying31 hi hz ad L cap _ hold _ 1 [.int .u64 x] src (by omega) (by omega) (growslice_fits (by omega) (by rw [hb]; omega))
    have hge := grownCap_ge w (L + 1) cap 32
    refine ⟨_, 0, _, _, hr, .inr ⟨w.heap.size, 0, _, rfl, hB, Go.Deep.blk_alloc_new _ _, hge, ?_, fun j hj => ?_⟩, ⟨rfl, rfl, rfl, by simp, fun k hk _ => Below.heap_alloc w.drew _ k hk⟩⟩
    · simp only [Array.size_append, List.size_toArray, List.length_append, rowL_length, size_zeroCells, List.length_cons, List.length_nil]
      rw [show (Value.int IntKind.u64 0).cells.size = 1 by kernel_rfl]
      omega
    · rw [Nat.zero_add, Array.getElem?_append_left (by simp [rowL_length]; omega), List.getElem?_toArray]
      show _ = some (Value.int .u64 (if j = L then x else U j))
      by_cases d : j = L
      · subst d
        rw [if_pos rfl, List.getElem?_append_right (by rw [rowL_length]; exact Nat.le_refl _), rowL_length, Nat.sub_self]
        rfl
      · rw [if_neg d, List.getElem?_append_left (by rw [rowL_length]; omega), rowL_get L _ (by omega)]
/-- The same, as the walk meets it. -/
theorem append_q {w : World} {B L cap : Nat} {ad : Option Addr} {U : Nat → Int} {ops : Array Oper} {rest : List Oper} {o : Oper} {a : Act} {Q : Exit → Act → World → Prop} (hown : OwnQ w B ad L cap U) (blk : Nat) (x : Int) (hblk : w.heap[blk]? = some (.cells #[.int .u64 x] 32 (0, 0))) (hL : L ≤ 1000000) (hB : B ≤ w.heap.size)
    (hgd : o.guard = none) (s y : Operand)
    (ho : o.op = .call { callee := .builtin .append, args := #[s, y], argTypes := #[31, 31] }) (hs : a.eval s = .slice ad L cap) (hx : a.eval y = .slice (some ⟨blk, 0, none⟩) 1 1)
    (h : ∀ g off cap' w', OwnQ w' B (some ⟨g, off, none⟩) (L + 1) cap' (fun i => if i = L then x else U i) → Went (At ad) w w' → wpList Try.prog ops Q rest (a.put o.dst (.slice (some ⟨g, off, none⟩) (L + 1) cap')) w') :
    wpList Try.prog ops Q (o :: rest) a w := by
  refine wpList_plain hgd fun K hK => ?_
  obtain ⟨g, off, cap', w', hr, h2, h3⟩ := run_append_q hown blk x hblk hL hB o.type
  unfold Oper.wp execOp
  simp only [ho, resolve, invoke, builtin, Sem.run_bind, Sem.run_pure, Result.andThen_ok, List.map_toArray, List.map_cons, List.map_nil, hs, hx, hr]
  exact hK _ _ (h g off cap' w' h2 h3)
end Go.Proofs.Ytfpgdmnbehingaa
