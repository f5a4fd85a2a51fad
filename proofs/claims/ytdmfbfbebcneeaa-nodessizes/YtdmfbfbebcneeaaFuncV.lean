/-
  A node's function: the statements' help Func, Is; rows of numbers held against one another (Ints).
-/
import Derived.Test.YtdmfbfbebcneeaaFuncW
import Derived.Test.YtdmfbfbebcneeaaRfPartsW
namespace Go.Proofs.Ytdmfbfbebcneeaa
open Go Go.RowKit
open Rf (tab word same IsTab TabsAt Own blockOf append_tab block_after)
open Rf (gval gval_pos gval_neg does_val does_call does_if vok_plain vok_sure vok_maybe x_move x_load x_bin x_call x_pick x_assign run_load24)

/-- The variables' tables by levels, the first k. -/
def vtabs (M : Mdl) (k : Nat) : List (Nat → Bool) := (List.range k).map fun i => Rf.M (M.v i)
theorem vtabs_len (M : Mdl) (k : Nat) : (vtabs M k).length = k := by simp [vtabs]
theorem vtabs_next (M : Mdl) (k : Nat) : vtabs M (k + 1) = vtabs M k ++ [Rf.M (M.v k)] := by simp [vtabs, List.range_succ]
theorem vtabs_get (M : Mdl) {k i : Nat} (h : i < k) : (vtabs M k).getD i (fun _ => false) = Rf.M (M.v i) := by
  simp [vtabs, List.getD_eq_getElem?_getD, h]
theorem tabs_to {w : World} {ad : Option Addr} {n : Nat} {T T' : Nat → Nat → Bool} (h : TabsAt w ad n T) (e : ∀ i, i < n → T i = T' i) : TabsAt w ad n T' := by
  rcases h with h | ⟨b, off, e1, hb, hc⟩
  · exact .inl h
  · exact .inr ⟨b, off, e1, hb, fun i hi k hk => by rw [← e i hi]; exact hc i hi k hk⟩

structure FuncI (w wr : World) (S : Nat) (F0 : Nat → Prop) (M : Mdl) (rb k : Nat) (ad : Option Addr) (cap : Nat) : Prop where
  own : Own wr w.heap.size ad (vtabs M k) cap
  row : wr.rowIs rb 3 M.n (fun i => .int .i64 (M.v i : Int))
  tab : IsTab wr w.heap.size (fun _ => false)
  st : St wr S F0 M
  below : Below w.heap.size w wr
  n1 : blockOf ad ≠ some w.heap.size
  n2 : blockOf ad ≠ some rb
  some : 0 < k → ∃ g, ad = some ⟨g, 0, none⟩
theorem FuncI.add {w wr w6 w7 : World} {S : Nat} {F0 : Nat → Prop} {M : Mdl} {rb k : Nat} {ad : Option Addr} {cap g cap' : Nat} (I : FuncI w wr S F0 M rb k ad cap) (flt : ∀ b, F0 b → b < w.heap.size) (b6 : Below wr.heap.size wr w6)
    (o7 : Own w7 w.heap.size (.some ⟨g, 0, none⟩) (vtabs M k ++ [Rf.M (M.v k)]) cap') (g7 : w6.grownBy w7 (blockOf ad)) (at7 : blockOf ad = Option.some g ∨ g = w6.heap.size) : FuncI w w7 S F0 M rb (k + 1) (.some ⟨g, 0, none⟩) cap' := by
  have bk : ∀ b, b < wr.heap.size → blockOf ad ≠ Option.some b → w7.heap[b]? = wr.heap[b]? := fun b hb hn => (g7.block b (Nat.lt_of_lt_of_le hb b6.size) fun e => hn e.symm).trans (b6.block b hb)
  have nF : ∀ b, F0 b → blockOf ad ≠ Option.some b := fun b hb e => by
    have := (I.own.blockGe b e).1
    have := flt b hb
    omega
  refine ⟨by rw [vtabs_next]; exact o7, I.row.of_block (bk rb I.row.lt I.n2), ?_, I.st.kept fun b hb => bk b (I.st.lt b hb) (nF b hb), ⟨g7.os.trans (b6.os.trans I.below.os), g7.tape.trans (b6.tape.trans I.below.tape), g7.output.trans (b6.output.trans I.below.output), Nat.le_trans I.below.size (Nat.le_trans b6.size g7.size), fun b hb => (bk b (Nat.lt_of_lt_of_le hb I.below.size) fun e => ?_).trans (I.below.block b hb)⟩, ?_, ?_, fun _ => ⟨g, rfl⟩⟩
  · exact (bk _ I.tab.lt I.n1).trans I.tab
  · have := (I.own.blockGe b e).1
    omega
  · exact block_after I.n1 (Nat.lt_of_lt_of_le I.tab.lt b6.size) at7
  · exact block_after I.n2 (Nat.lt_of_lt_of_le I.row.lt b6.size) at7

set_option maxRecDepth 100000 in
set_option maxHeartbeats 2000000 in
/-- Func tells a node's function. -/
theorem func_any {w : World} {S : Nat} {F0 : Nat → Prop} {M : Mdl} {x : Nat} (h : St w S F0 M) (xn : M.isNode x) :
    Calls Try.prog 47 #[.pointer (some ⟨S, 0, none⟩), .int .u32 (x : Int)] w fun e w' => e = .returned (.tuple #[tab (M.tbl x), .bool true]) ∧ Below w.heap.size w w' := by
  have o := h.ok
  have n8 := o.le8
  have n1 := o.pos
  have hv : ∀ k, k < M.n → M.v k < 8 := fun k hk => by have := o.vlt k hk; omega
  have flt : Aside (∀ b, F0 b → b < w.heap.size) := h.lt
  obtain ⟨R, hR⟩ : ∃ R, tab (M.tbl x) = R := ⟨_, rfl⟩
  have eT : Aside (R = tab (M.tbl x)) := hR.symm
  rw [hR]
  clear hR
  have T0 := IsTab.zero (w := w.alloc (.cells #[.int .u64 0, .int .u64 0, .int .u64 0, .int .u64 0] 46)) (b := w.heap.size) (Go.Deep.blk_alloc_new _ _)
  go_enter Try.func47, Try.ntmps47
  go_upto_region 1 with fail
  have B0 := (Below.refl _ w).alloc (Nat.le_refl _) (.cells #[.int .u64 0, .int .u64 0, .int .u64 0, .int .u64 0] 46)
  generalize w.alloc (.cells #[.int .u64 0, .int .u64 0, .int .u64 0, .int .u64 0] 46) = w4 at T0 B0 ⊢
  have h4 := h.below B0
  have K1 := s_order h4
  clear h
  go_wp2_with (first
    | (go_at_call 21; refine K1.mono ?_; clear K1; rintro e w1 ⟨P, l, rfl, o1, b1, p1⟩; have K2 := Od.all_any o1 n8)
    | (go_at_call 22; refine K2.mono ?_; clear K2; rintro e w2 ⟨rfl, r2, b2⟩))
  have I0 : Aside (FuncI w w2 S F0 M w1.heap.size 0 none 0) := ⟨Own.nil _ _, r2, kept T0 (Rf.below_far b1 b2), h4.below (Rf.below_far b1 b2), Rf.below_far B0 (Rf.below_far b1 b2), by simp [blockOf], by simp [blockOf], fun e => absurd e (by omega)⟩
  generalize w1.heap.size = rb at I0 ⊢
  clear r2 T0 h4 o1 b1 b2 B0 p1
  go_loopg [7, 8] M.n (fun gk s7 s8 wr => ∃ k ad cap, k + gk = M.n ∧ s7 = .slice ad k cap ∧ s8 = .int .i64 (k : Int) ∧ FuncI w wr S F0 M rb k ad cap)
  case atStart => exact ⟨0, none, 0, by omega, rfl, rfl, I0.out⟩
  case round =>
    clear I0
    obtain ⟨k, ad, cap, hk, rfl, rfl, I⟩ := hrel
    have hK : Aside (k + gk = M.n) := hk
    clear hk
    by_cases hlt : k < M.n
    · have hlt' : (k : Int) < (M.n : Int) := by omega
      have k8 : k < 8 := by omega
      have c0 := I.row.cell hlt
      have hvk := hv k hlt
      have KV := Rf.var_any (M.v k) hvk
      have lenA : Aside ((vtabs M k).length = k) := vtabs_len M k
      go_wp2_with (first
        | (go_at_call 55; refine (KV _).mono ?_; clear KV; unfold tab; rintro e w5 ⟨rfl, b5⟩; have O5 := I.own.below b5; have B5 := Rf.below_far b5 ((Below.refl _ w5).alloc (Nat.le_refl _) (.cells #[.int .u64 (word (Rf.M (M.v k)) 0 : Int), .int .u64 (word (Rf.M (M.v k)) 1 : Int), .int .u64 (word (Rf.M (M.v k)) 2 : Int), .int .u64 (word (Rf.M (M.v k)) 3 : Int)] 46)); have s5 : w.heap.size ≤ w5.heap.size := Nat.le_trans I.below.size b5.size)
        | (at_builtin; refine append_tab (O5.new _) (Rf.M (M.v k)) w5.heap.size (IsTab.new w5 _) (by rw [lenA.out]; omega) (by simp; omega) rfl _ _ rfl (by rw [lenA.out]; rfl) rfl ?_; rw [lenA.out]; intro g cap' w7 o7 g7 at7 lt7; have I7 := I.add flt.out B5 o7 g7 at7))
      go_roundg (gk - 1)
      case measure => have := hK.out; omega
      case rel =>
        have := hK.out
        exact ⟨k + 1, some ⟨g, 0, none⟩, cap', by omega, rfl, by go_num, I7⟩
    · obtain rfl : k = M.n := by have := hK.out; omega
      have hlt' : ¬ (M.n : Int) < (M.n : Int) := by omega
      obtain ⟨bv, rfl⟩ := I.some (by omega)
      have tv := I.own.tabs
      rw [vtabs_len] at tv
      have KW : Calls Try.prog 56 #[.pointer (some ⟨S, 0, none⟩), .int .u32 (x : Int), .slice (some ⟨bv, 0, none⟩) M.n cap, .int .i64 0] wr _ := walk_any (M.n - M.lev x) (deep := 0) I.st xn (Nat.zero_le _) (tabs_to tv fun i hi => vtabs_get M hi) (Nat.le_refl _)
      clear tv hK
      go_wp2_with (first
        | (go_at_call 56; refine KW.mono ?_; clear KW; unfold tab; rintro e w5 ⟨rfl, b5⟩; have T5 := kept I.tab b5; have y0 := T5.cell (k := 0) (by decide); have y1 := T5.cell (k := 1) (by decide); have y2 := T5.cell (k := 2) (by decide); have y3 := T5.cell (k := 3) (by decide); have z0 := T5.free 0; have z1 := T5.free 1; have z2 := T5.free 2; have z3 := T5.free 3))
      have B5 := Rf.below_far I.below b5
      exact bodyPost_ret (results_tab2 rfl rfl rfl (Rf.laid_tab T5 _)) rfl ⟨by rw [eT.out]; rfl, B5.trans ((Rf.laid_turned _ _ _).below B5.size (Nat.le_refl _))⟩
end Go.Proofs.Ytdmfbfbebcneeaa
