/-
  The walk of RanksSort: for every row of keys it tells true, and old memory is as it was.
-/
import Derived.Test.YthcjmbfhcdkffaaKnown
import Derived.Deep.Cut
namespace Go.Proofs.Ythcjmbfhcdkffaa
open Go Go.RowKit

/-- A slice of numbers of some kind: empty, or told cell by cell. -/
def IntsK (w : World) (k : IntKind) (ad : Option Addr) (n : Nat) (Z : Nat → Int) : Prop :=
  n = 0 ∨ ∃ b off, ad = some ⟨b, off, none⟩ ∧ b < w.heap.size ∧ ∀ i, i < n → w.cell? ⟨b, off + i, none⟩ = some (.int k (Z i))
theorem IntsK.below {W w : World} {k : IntKind} {ad : Option Addr} {n : Nat} {Z : Nat → Int} (h : IntsK W k ad n Z) (hb : Below W.heap.size W w) : IntsK w k ad n Z := by
  rcases h with h | ⟨b, off, e, hlt, hc⟩
  · exact .inl h
  · exact .inr ⟨b, off, e, Nat.lt_of_lt_of_le hlt hb.size, fun i hi => by rw [hb.cell (p := ⟨b, off + i, none⟩) hlt]; exact hc i hi⟩
theorem IntsK.get {w : World} {k : IntKind} {ad : Option Addr} {n : Nat} {Z : Nat → Int} (h : IntsK w k ad n Z) {i : Nat} (hi : i < n) : ∃ b off, ad = some ⟨b, off, none⟩ ∧ w.cell? ⟨b, off + i, none⟩ = some (.int k (Z i)) := by
  rcases h with h | ⟨b, off, e, _, hc⟩
  · omega
  · exact ⟨b, off, e, hc i hi⟩

/-- What stands behind j pushes. -/
def SortK (Z : Nat → Int) (j : Nat) (K : Int → Option Int) : Prop := ∀ id v, K id = some v → ∃ i : Nat, i < j ∧ id = ((i : Int) * 37) % 101 ∧ v = Z i
theorem SortK.free {Z : Nat → Int} {j : Nat} {K : Int → Option Int} (h : SortK Z j K) (hj : j < 101) : K (((j : Int) * 37) % 101) = none := by
  cases e : K (((j : Int) * 37) % 101) with
  | none => rfl
  | some v =>
    obtain ⟨i, hi, he, _⟩ := h _ _ e
    omega
theorem SortK.push {Z : Nat → Int} {j : Nat} {K : Int → Option Int} (h : SortK Z j K) : SortK Z (j + 1) (at1 K (((j : Int) * 37) % 101) (some (Z j))) := by
  intro id v e
  unfold at1 at e
  by_cases c : id = ((j : Int) * 37) % 101
  · rw [if_pos c] at e
    exact ⟨j, by omega, c, (Option.some.inj e).symm⟩
  · rw [if_neg c] at e
    obtain ⟨i, hi, he⟩ := h _ _ e
    exact ⟨i, by omega, he⟩
/-- The last one that was popped is better than all that is left. -/
def Under (x : Int × Int) (K : Int → Option Int) : Prop := ∀ id v, K id = some v → bet x (id, v) = true
theorem Under.pop {K : Int → Option Int} {x : Int × Int} (h : ∀ id key, K id = some key → bet (id, key) x = false) : Under x (at1 K x.1 none) := by
  intro id v e
  unfold at1 at e
  by_cases c : id = x.1
  · rw [if_pos c] at e; cases e
  · rw [if_neg c] at e
    have := bet_not.1 (h id v e)
    rw [bet_iff]
    simp only at this ⊢
    omega

set_option maxHeartbeats 1600000 in
set_option maxRecDepth 100000 in
theorem sort_walk (ad : Option Addr) (len cap : Nat) (Z : Nat → Int) (W : World) (hz : IntsK W .i8 ad len Z) (hZ : ∀ i, i < len → -128 ≤ Z i ∧ Z i ≤ 127) (hlen : len ≤ 100) :
    Calls Try.prog 4 #[.slice ad len cap] W fun e w' => e = .returned (.bool true) ∧ Below W.heap.size W w' := by
  have hd : decide (100 < (len : Int)) = false := by simp; omega
  have H0 := known_any W
  go_enter Try.func4, Try.ntmps4
  go_wp2_with (first
    | (go_at_call 7; refine H0.mono ?_; clear H0; rintro e w1 ⟨rfl, b1⟩; have H1 := new_any w1)
    | (go_at_call 8; refine H1.mono ?_; clear H1; rintro e w2 ⟨rfl, S2, q2, l2, b2⟩))
  have B2 := below_far b1 b2
  have l2' : ∀ k, S2 k → W.heap.size ≤ k := fun k hk => Nat.le_trans b1.size (l2 k hk)
  clear b1 b2 l2
  generalize w1.heap.size = Q at q2
  go_loopg [4] len (fun g sv wr => ∃ (j : Nat) (S : Nat → Prop) (K : Int → Option Int), j + g = len ∧ sv = .int .i64 (j : Int) ∧ Has wr Q S K j ∧ SortK Z j K ∧ (∀ k, S k → W.heap.size ≤ k) ∧ Below W.heap.size W wr)
  case atStart => exact ⟨0, S2, _, by omega, rfl, q2, (fun _ _ e => by cases e), l2', B2⟩
  case round =>
    obtain ⟨j, S, K, hj, rfl, hq, hk, hl, hB⟩ := hrel
    have hJ : Aside (j + gk = len) := hj
    by_cases hjn : j < len
    · have hjn' : (j : Int) < (len : Int) := by omega
      obtain ⟨b, off, rfl, hc⟩ := (hz.below hB).get hjn
      have hzj := hZ j hjn
      have H2 := push_yes hq (by omega) (hk.free (by omega)) (Z j)
      clear hj
      go_wp2_with (first
        | (go_at_call 9; refine H2.mono ?_; clear H2; rintro e w3 ⟨rfl, S3, q3, g3⟩))
      go_roundg (gk - 1)
      case measure => have := hJ.out; omega
      case rel =>
        have hj := hJ.out
        exact ⟨j + 1, S3, _, by omega, by go_num, q3, hk.push, g3.low hB.size hl, Went.below' hB g3 hl⟩
    · obtain rfl : j = len := by omega
      obtain rfl : gk = 0 := by omega
      clear hj hJ
      have hU : Under (-1, 1000) K := fun id v e => by
        obtain ⟨i, hi, _, rfl⟩ := hk _ _ e
        have := hZ i hi
        rw [bet_iff]
        simp only
        omega
      have q4 := hq.new (.cells #[.int .i64 (-1), .int .i64 1000] 30)
      have hL4 : (wr.alloc (.cells #[.int .i64 (-1), .int .i64 1000] 30)).heap[wr.heap.size]? = some (.cells #[.int .i64 (-1), .int .i64 1000] 30 (0, 0)) := (MapKept.heap_alloc wr _).1
      have hfar := hq.far
      have B4 : Below W.heap.size W (wr.alloc (.cells #[.int .i64 (-1), .int .i64 1000] 30)) := hB.alloc hB.size _
      have hLW : W.heap.size ≤ wr.heap.size := hB.size
      go_wp2
      generalize wr.heap.size = L at hL4 hfar hLW ⊢
      generalize wr.alloc (.cells #[.int .i64 (-1), .int .i64 1000] 30) = w4 at q4 hL4 B4 ⊢
      clear hB hq hk q2 l2' B2 wr
      go_loopg [6] j (fun g sv wr => ∃ (i : Nat) (K : Int → Option Int) (x : Int × Int), i + g = j ∧ sv = .int .i64 (i : Int) ∧ Has wr Q S K g ∧ wr.heap[L]? = some (.cells #[.int .i64 x.1, .int .i64 x.2] 30 (0, 0)) ∧ Under x K ∧ Below W.heap.size W wr)
      case atStart => exact ⟨0, K, (-1, 1000), by omega, rfl, q4, hL4, hU, B4⟩
      case round =>
        clear hU q4 hL4 B4 K
        obtain ⟨i, K, l, hij, rfl, hq, hL, hU, hB⟩ := hrel
        have hIJ : Aside (i + gk = j) := hij
        cases gk with
        | zero =>
          obtain rfl : i = j := by omega
          clear hij
          have H5 := pop_none hq
          have H6 := fun w' b => len_any ((hq.below (w' := w') b).new (.cells #[.int .i64 0, .int .i64 0] 30))
          go_wp2_with (first
            | (go_at_call 11; refine H5.mono ?_; clear H5; rintro e w5 ⟨rfl, b5⟩; have H7 := H6 w5 b5; clear H6)
            | (go_at_call 15; refine H7.mono ?_; clear H7; rintro e w6 ⟨rfl, rfl⟩))
          go_ret
          exact ⟨rfl, (below_far hB b5).alloc (Nat.le_trans hB.size b5.size) _⟩
        | succ m =>
          have hij' : (i : Int) < (j : Int) := by omega
          clear hij
          have H5 := pop_some hq (by have := hIJ.out; omega)
          go_upto_region 16 with (first
            | (go_at_call 11; refine H5.mono ?_; clear H5; rintro e w5 ⟨x, rfl, hx, q5, m5⟩))
          have hLlt : L < wr.heap.size := (Array.getElem?_eq_some_iff.1 hL).1
          have hL5 := (m5.block L hLlt hfar).trans hL
          have d0 : w5.cell? ⟨L, 0, none⟩ = some (.int .i64 l.1) := by simp [World.cell?, hL5]
          have d1 : w5.cell? ⟨L, 1, none⟩ = some (.int .i64 l.2) := by simp [World.cell?, hL5]
          have f0 : w5.frozen? ⟨L, 0, none⟩ = false := by simp [World.frozen?, hL5]
          have f1 : w5.frozen? ⟨L, 1, none⟩ = false := by simp [World.frozen?, hL5]
          have hLlt5 : L < w5.heap.size := (Array.getElem?_eq_some_iff.1 hL5).1
          have hb := bet_iff.1 (hU x.1 x.2 hx.1)
          simp only at hb
          have hlt : decide (l.2 < x.2) = false := by simp; omega
          have B5 := Moved.below' hB m5 hl
          have hrel' : Has (((w5.setCell ⟨L, 0, none⟩ (.int .i64 x.1)).setCell ⟨L, 1, none⟩ (.int .i64 x.2)).alloc (.cells #[.int .i64 x.1, .int .i64 x.2] 30)) Q S (at1 K x.1 none) m ∧ (((w5.setCell ⟨L, 0, none⟩ (.int .i64 x.1)).setCell ⟨L, 1, none⟩ (.int .i64 x.2)).alloc (.cells #[.int .i64 x.1, .int .i64 x.2] 30)).heap[L]? = some (.cells #[.int .i64 x.1, .int .i64 x.2] 30 (0, 0)) ∧ Under x (at1 K x.1 none) ∧ Below W.heap.size W (((w5.setCell ⟨L, 0, none⟩ (.int .i64 x.1)).setCell ⟨L, 1, none⟩ (.int .i64 x.2)).alloc (.cells #[.int .i64 x.1, .int .i64 x.2] 30)) :=
            ⟨(q5.box hfar _ _).new _, by rw [Below.heap_alloc _ _ _ (by simpa using hLlt5)]; simp [World.setCell, Array.getElem?_modify, hL5], Under.pop hx.2, ((B5.setCell hLW _).setCell hLW _).alloc (by simpa using B5.size) _⟩
          by_cases c : x.2 = l.2
          · have hle : decide (x.1 ≤ l.1) = false := by simp; omega
            have hb' : Aside (x.2 < l.2 ∨ l.2 = x.2 ∧ l.1 < x.1) := hb
            clear hb
            have ht : (x.2 == l.2) = true := by simpa using c
            have ht' : decide (x.2 = l.2) = true := by simpa using c
            clear c
            go_wp2
            go_roundg m
            case measure => omega
            case rel =>
              have hij := hIJ.out
              exact ⟨i + 1, _, x, by omega, by go_num, hrel'.1, hrel'.2.1, hrel'.2.2.1, hrel'.2.2.2⟩
          · clear hb
            go_wp2
            go_roundg m
            case measure => omega
            case rel =>
              have hij := hIJ.out
              exact ⟨i + 1, _, x, by omega, by go_num, hrel'.1, hrel'.2.1, hrel'.2.2.1, hrel'.2.2.2⟩
end Go.Proofs.Ythcjmbfhcdkffaa
