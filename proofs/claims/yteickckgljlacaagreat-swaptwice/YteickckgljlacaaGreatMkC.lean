/-
  The library's walk backwards over a slice of words: its numbers and its words, from the last one on.
-/
import Derived.Test.YteickckgljlacaaGreatBaseS
import Derived.RangeFuncBox
import Derived.RangeFuncNested
import Derived.RangeFuncLeaves
import Derived.Shelf.Abstract
import Derived.OwnWalkIn
import Derived.TacticsInMore
import Derived.LoopNIn
import Derived.LoopIn
import Derived.Sort.LoopGhostIn
import Derived.Maps.AppendAt
namespace Go.Proofs.YteickckgljlacaaGreat.Mk
open Go Go.RowKit Go.Shelf
attribute [local go_sem] Oper.semAt_some

/-- From the last one down. -/
def downL (n k : Nat) : List Nat := (List.range k).map fun i => n - 1 - i
theorem downL_len (n k : Nat) : (downL n k).length = k := by simp [downL]
theorem downL_succ (n k : Nat) : downL n (k + 1) = downL n k ++ [n - 1 - k] := by simp [downL, List.range_succ]
/-- A number below n. -/
abbrev Nm (n : Nat) := { x : Nat // x < n }
/-- The box and the words stay as they are. -/
def KeepB (Bx : Nat) (ad : Option Addr) (W W' : World) : Prop := ∀ k, (k = Bx ∨ At ad k) → W'.heap[k]? = W.heap[k]?
theorem keepB_t {Bx : Nat} {ad : Option Addr} {A B C : World} (h : KeepB Bx ad A B) (k : KeepB Bx ad B C) : KeepB Bx ad A C := fun i hi => (k i hi).trans (h i hi)
theorem keepB_b {Bx : Nat} {ad : Option Addr} {w : World} (hb : ∀ k, (k = Bx ∨ At ad k) → k < w.heap.size) (W : World) (l : Nat) (o o' : Obj) (hl : w.heap.size ≤ l) (_ : W.heap[l]? = some o) (_ : o.isCells = false) (_ : o.isWalk = false) : KeepB Bx ad W (W.putObj l o') := fun k hk => World.putObj_heap_other (by have := hb k hk; omega)
set_option maxRecDepth 100000 in
set_option maxHeartbeats 2000000 in
theorem back1_in (n : Nat) (hn : 1 ≤ n) (l Bx N cap : Nat) (ad : Option Addr) (wd : Nat → Int) (hN : N ≤ 1000000) (J Jx : List (Nm N) → World → Prop)
    (hY : ∀ pre x W, J pre W → pre.length < N → YieldAt Fence.wide (n - 1) Tryz.prog l #[.int .i64 ((x.1 : Nat) : Int), .int .u64 (wd x.1)] W fun e W' =>
      (e = .returned (.bool true) ∧ J (pre ++ [x]) W' ∧ KeepB Bx ad W W') ∨ (e = .returned (.bool false) ∧ Jx (pre ++ [x]) W'))
    (W : World) (hB : W.cell? ⟨Bx, 0, none⟩ = some (.slice ad N cap)) (own : OwnR 22 W 0 ad N cap (fun i => .int .u64 (wd i))) (h0 : J [] W) :
    CallsIn Fence.wide n Tryz.prog 98 #[.func (.yield l) #[] #[], .pointer (some ⟨Bx, 0, none⟩)] W fun e W' => (∃ v, e = .returned v) ∧
      ((∃ ys : List (Nm N), ys.map (·.1) = downL N N ∧ J ys W') ∨ (∃ pre, True ∧ Jx pre W')) := by
  refine callsIn_of_wp Tryz.func98 rfl trivial ?_ rfl
  simp only [Tryz.ntmps98, List.size_toArray, List.length_cons, List.length_nil, Nat.reduceAdd, Nat.reduceSub, Array.replicate_succ, Array.replicate_zero, List.push_toArray, List.append_toArray, List.nil_append, List.cons_append]
  have hw1 : IntKind.i64.wrap ((N : Int) - 1) = (N : Int) - 1 := by rw [IntKind.wrap_i64]; omega
  gi_wp2
  gi_loopg [3] (N + 1) (fun g si wr => ∃ (k r : Nat) (z : Int) (pre : List (Nm N)), k + g = N + 1 ∧ r + k = N ∧ si = .int .i64 z ∧ z = (r : Int) - 1 ∧ Aside (pre.map (·.1) = downL N k) ∧ Aside (KeepB Bx ad W wr) ∧ Aside (J pre wr))
  case atStart => exact ⟨0, N, _, [], by omega, by omega, rfl, rfl, rfl, fun _ _ => rfl, h0⟩
  case round =>
    clear h0
    obtain ⟨k, r, z, pre, hk, hr, rfl, hz, hp, hKb, hJs⟩ := hrel
    have hkA : Aside (k + gk = N + 1 ∧ r + k = N) := ⟨hk, hr⟩
    have hb : wr.cell? ⟨Bx, 0, none⟩ = some (.slice ad N cap) := (World.cell?_of_block (hKb.out Bx (.inl rfl))).trans hB
    have ownr := own.kept fun b hb => hKb.out b (.inr hb)
    by_cases hr0 : r = 0
    · obtain rfl : z = -1 := by omega
      have e : N = k := by omega
      have hfin : Aside (pre.map (·.1) = downL N N) := by show List.map _ _ = _; rw [hp.out, ← e]
      clear hz hr hk hkA hp hr0 e
      gi_wp2
      go_end0
      exact ⟨⟨_, rfl⟩, .inl ⟨pre, hfin.out, hJs.out⟩⟩
    · obtain ⟨i, rfl⟩ : ∃ i, r = i + 1 := ⟨r - 1, by omega⟩
      obtain rfl : z = (i : Int) := by omega
      have hiN : i < N := by omega
      have hi0 : (0 : Int) ≤ (i : Int) := by omega
      have hiN' : (i : Int) < (N : Int) := by omega
      have hwi : IntKind.i64.wrap ((i : Int) - 1) = (i : Int) - 1 := by rw [IntKind.wrap_i64]; omega
      obtain ⟨g, rfl⟩ := ownr.form (by omega)
      have cw := ownr.cell hiN
      have hpl : pre.length = k := by
        have := congrArg List.length hp.out
        rwa [List.length_map, downL_len] at this
      obtain ⟨fn, tmps, assign, body, hy, hR⟩ := hY pre ⟨i, hiN⟩ wr hJs.out (by omega)
      dsimp only at hy
      have hp2 : Aside ((pre ++ [(⟨i, hiN⟩ : Nm N)]).map (·.1) = downL N (k + 1)) := by
        show List.map _ _ = _
        rw [List.map_append, hp.out, downL_succ, show N - 1 - k = i by omega]
        rfl
      clear hz hr hk hp ownr hpl hr0
      gi_wp2
      refine hR.mono ?_
      rintro e W3 (⟨rfl, hJ3, hk3⟩ | ⟨rfl, hJx3⟩)
      · gi_wp2
        gi_roundg (gk - 1)
        case measure => have := hkA.out; omega
        case rel =>
          have := hkA.out
          exact ⟨k + 1, i, _, _, by omega, by omega, rfl, rfl, hp2, keepB_t hKb.out hk3, hJ3⟩
      · gi_wp2
        refine bodyPost_ret (results_none rfl _ _ _) rfl ?_
        exact ⟨⟨_, rfl⟩, .inr ⟨_, trivial, hJx3⟩⟩
theorem back_stops (n : Nat) (hn : 1 ≤ n) (Bx N cap : Nat) (ad : Option Addr) (wd : Nat → Int) (w : World) (hN : N ≤ 1000000) (hB : w.cell? ⟨Bx, 0, none⟩ = some (.slice ad N cap)) (hBx : Bx < w.heap.size) (own : OwnR 22 w 0 ad N cap (fun i => .int .u64 (wd i))) :
    SeqStopsK Fence.wide n Tryz.prog 98 #[.pointer (some ⟨Bx, 0, none⟩)] (fun x : Nm N => #[Value.int .i64 ((x.1 : Nat) : Int), Value.int .u64 (wd x.1)]) (KeepB Bx ad) (fun ys => ys.map (·.1) = downL N N) (fun _ => True) N w := fun l J Jx W hW _ _ hY h0 =>
  back1_in n hn l Bx N cap ad wd hN J Jx hY W ((hW.cell (p := ⟨Bx, 0, none⟩) hBx).trans hB) (own.kept fun b hb => hW.block b (own.block b hb).2) h0
theorem back_any (ad : Option Addr) (N cap : Nat) (w : World) :
    Calls Tryz.prog 84 #[.slice ad N cap] w fun e w' => e = .returned (.func (.func 98) #[] #[.pointer (some ⟨w.heap.size, 0, none⟩)]) ∧ w' = w.alloc (.cells #[.slice ad N cap] 92) := by
  have hmf : ∀ (w : World), (Instr.makeFunc (.func 98) #[] #[.pointer (some ⟨w.heap.size, 0, none⟩)]).run Tryz.prog w = .ok (.func (.func 98) #[] #[.pointer (some ⟨w.heap.size, 0, none⟩)]) w := fun w => rfl
  go_enter Tryz.func84, Tryz.ntmps84
  go_wp2
  go_ret
  exact ⟨rfl, rfl⟩
end Go.Proofs.YteickckgljlacaaGreat.Mk
