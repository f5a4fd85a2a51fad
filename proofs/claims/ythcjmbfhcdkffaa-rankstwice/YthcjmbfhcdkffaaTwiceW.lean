/-
  The walk of RanksTwice: for every row of numbers it tells true, and old memory is as it was.
-/
import Derived.Test.YthcjmbfhcdkffaaSortW
import Derived.Deep.CutRange
namespace Go.Proofs.Ythcjmbfhcdkffaa
open Go Go.RowKit

theorem zero45 : ∃ zs : Array Value, (∀ w, (zeroValue 45).run Try.prog w = .ok (.agg zs) w) ∧ zs.size = 256 ∧ ∀ i, i < 256 → zs[i]? = some (.bool false) :=
  ⟨Array.replicate 256 (.bool false), fun w => by kernel_rfl, by simp, fun i hi => by simp [hi]⟩

theorem wrap_small {a : Int} (h : 0 ≤ a ∧ a ≤ 255) : IntKind.i64.wrap a = a := by rw [IntKind.wrap_i64]; omega
/-- The marks are those of the numbers that are in the queue. -/
def InK (b : Nat → Bool) (K : Int → Option Int) : Prop := (∀ i : Nat, i < 256 → b i = (K (i : Int)).isSome) ∧ ∀ id v, K id = some v → 0 ≤ id ∧ id ≤ 255
def setB (b : Nat → Bool) (k : Nat) (x : Bool) : Nat → Bool := fun i => if i = k then x else b i
theorem InK.push {b : Nat → Bool} {K : Int → Option Int} (h : InK b K) {a : Nat} (ha : a < 256) (v : Int) : InK (setB b a true) (at1 K (a : Int) (some v)) := by
  refine ⟨fun i hi => ?_, fun id w e => ?_⟩
  · unfold setB at1
    by_cases c : i = a
    · simp [c]
    · have c' : ¬ (i : Int) = (a : Int) := by omega
      rw [if_neg c, if_neg c']
      exact h.1 i hi
  · unfold at1 at e
    by_cases c : id = (a : Int)
    · omega
    · rw [if_neg c] at e
      exact h.2 id w e
theorem InK.pop {b : Nat → Bool} {K : Int → Option Int} (h : InK b K) (a : Nat) : InK (setB b a false) (at1 K (a : Int) none) := by
  refine ⟨fun i hi => ?_, fun id w e => ?_⟩
  · unfold setB at1
    by_cases c : i = a
    · simp [c]
    · have c' : ¬ (i : Int) = (a : Int) := by omega
      rw [if_neg c, if_neg c']
      exact h.1 i hi
  · unfold at1 at e
    by_cases c : id = (a : Int)
    · rw [if_pos c] at e; cases e
    · rw [if_neg c] at e
      exact h.2 id w e
/-- The row of marks. -/
abbrev Marks (w : World) (A : Nat) (b : Nat → Bool) : Prop := w.rowIs A 45 256 (fun i => .bool (b i))
theorem Marks.set {w : World} {A : Nat} {b : Nat → Bool} (h : Marks w A b) (k : Nat) (x : Bool) : Marks (w.setCell ⟨A, k, none⟩ (.bool x)) A (setB b k x) :=
  (World.rowIs.set h k _).congr fun j _ => by by_cases e : j = k <;> simp [setB, e]

set_option maxHeartbeats 1600000 in
set_option maxRecDepth 100000 in
theorem twice_walk (ad : Option Addr) (len cap : Nat) (Z : Nat → Int) (W : World) (hz : IntsK W .u8 ad len Z) (hZ : ∀ i, i < len → 0 ≤ Z i ∧ Z i ≤ 255) (hlen : len ≤ 80) :
    Calls Try.prog 6 #[.slice ad len cap] W fun e w' => e = .returned (.bool true) ∧ Below W.heap.size W w' := by
  have hd : decide (80 < (len : Int)) = false := by simp; omega
  have H0 := known_any W
  obtain ⟨zs, hz45, hzsz, hzall⟩ := zero45
  go_enter Try.func6, Try.ntmps6
  go_upto_region 7 with (first
    | (go_at_call 7; refine H0.mono ?_; clear H0; rintro e w1 ⟨rfl, b1⟩; have H1 := new_any w1)
    | (go_at_call 8; refine H1.mono ?_; clear H1; rintro e w2 ⟨rfl, S2, q2, l2, b2⟩))
  have B2 := below_far b1 b2
  have l2' : ∀ k, S2 k → W.heap.size ≤ k := fun k hk => Nat.le_trans b1.size (l2 k hk)
  have q3 := q2.new (.cells zs 45)
  have r3 : Marks (w2.alloc (.cells zs 45)) w2.heap.size (fun _ => false) := by
    have := World.rowIs_alloc w2 zs 45 (fun _ => .bool false) (fun i hi => hzall i (by omega))
    rw [hzsz] at this
    exact this
  have hfar := q2.far
  have B3 : Below W.heap.size W (w2.alloc (.cells zs 45)) := B2.alloc B2.size _
  have hAW : W.heap.size ≤ w2.heap.size := B2.size
  clear b1 b2 l2 hz45 hzsz hzall
  generalize w1.heap.size = Q at q2 q3 ⊢
  generalize w2.alloc (.cells zs 45) = w3 at q3 r3 B3 ⊢
  generalize w2.heap.size = A at r3 hfar hAW ⊢
  clear q2 B2
  go_wp2
  go_loopg [5, 6] len (fun g sn si wr => ∃ (j n : Nat) (S : Nat → Prop) (K : Int → Option Int) (b : Nat → Bool), j + g = len ∧ n ≤ j ∧ si = .int .i64 (j : Int) ∧ sn = .int .i64 (n : Int) ∧ Has wr Q S K n ∧ Marks wr A b ∧ ¬ S A ∧ InK b K ∧ (∀ k, S k → W.heap.size ≤ k) ∧ Below W.heap.size W wr)
  case atStart => exact ⟨0, 0, S2, _, _, by omega, Nat.le_refl _, rfl, rfl, q3, r3, hfar, ⟨fun _ _ => rfl, fun _ _ e => by cases e⟩, l2', B3⟩
  case round =>
    clear r3 hfar B3 l2' q3
    obtain ⟨j, n, S, K, b, hj, hnj, rfl, rfl, hq, hr, hfar, hk, hl, hB⟩ := hrel
    have hJ : Aside (j + gk = len) := hj
    by_cases hjn : j < len
    · have hjn' : (j : Int) < (len : Int) := by omega
      obtain ⟨bb, off, rfl, hc⟩ := (hz.below hB).get hjn
      obtain ⟨a, ha⟩ : ∃ a : Nat, Z j = (a : Int) := ⟨(Z j).toNat, by have := hZ j hjn; omega⟩
      have ha8 : a ≤ 255 := by have := hZ j hjn; omega
      rw [ha] at hc
      have hka := hk.1 a (by omega)
      have ra := hr.cell (i := a) (by omega)
      have hai : (a : Int) < 256 := by omega
      have hwa : Aside (IntKind.i64.wrap (a : Int) = (a : Int)) := wrap_small (by omega)
      clear hj
      cases hba : b a with
      | true =>
        rw [hba] at ra hka
        obtain ⟨v, hv⟩ := Option.isSome_iff_exists.1 hka.symm
        have hV : Aside (K (a : Int) = some v) := hv
        have H2 := fun key => push_no hq.drew hv key
        clear hka hv
        go_upto_region 12 with fail
        go_cut [36] from 16 to 80 (fun s w => s = .bool false ∧ Has w Q S K n ∧ Marks w A b ∧ Below W.heap.size W w)
        case first =>
          go_region_with (go_at_call 9; rw [hwa.out]; refine (H2 _).mono ?_; clear H2; rintro e w3 ⟨rfl, rfl⟩)
          all_goals
            go_wp2_with fail
            go_meet
            case rel => exact ⟨rfl, hq.drew, hr.drew, hB.drew⟩
        case rest =>
          obtain ⟨rfl, hq1, hr1, hB1⟩ := hcut
          have ra1 := hr1.cell (i := a) (by omega)
          rw [hba] at ra1
          have hA1 := hr1.lt
          clear ra H2 hq hr hB hba
          by_cases hm : (j : Int) % 3 = 2
          · obtain ⟨m, rfl⟩ : ∃ m : Nat, n = m + 1 := ⟨n - 1, by have := (hq1).pos (hV.out); omega⟩
            have H3 := pop_some (hq1) (by have := hJ.out; omega)
            go_upto_region 19 with (first
              | (go_at_call 11; refine H3.mono ?_; clear H3; rintro e w5 ⟨x, rfl, hx, q5, m5⟩))
            obtain ⟨x0, x1⟩ := x
            have hx0 := (hk).2 x0 x1 hx.1
            obtain ⟨c, rfl⟩ : ∃ c : Nat, x0 = (c : Int) := ⟨x0.toNat, by omega⟩
            have hc256 : c < 256 := by omega
            have hci : (c : Int) < 256 := by omega
            have hci2 : decide (255 < (c : Int)) = false := by simp; omega
            have hbc := (hk).1 c hc256
            have hx1 : (K) c = some x1 := hx.1
            rw [hx1] at hbc
            have r5 : Marks w5 A b := (hr1).of_block (m5.block A (hr1).lt hfar)
            have k5 := r5.cell (i := c) hc256
            have f5 := r5.frozen c
            have hA5 := r5.lt
            rw [hbc] at k5
            simp only [Option.isSome_some] at k5
            clear hbc hx1
            have B5 := Moved.below' (hB1) m5 hl
            have hkey := (hk).pop c
            have hfin : Has ((w5.setCell ⟨A, c, none⟩ (.bool false)).alloc (.cells #[.int .i64 (c : Int), .int .i64 x1] 30)) Q S (at1 (K) (c : Int) none) m := (q5.kept fun b hb => Below.heap_setCell _ _ _ _ (show b ≠ A from fun e => hfar (e ▸ hb))).new _
            have H4 := len_any hfin
            have hrr : Marks ((w5.setCell ⟨A, c, none⟩ (.bool false)).alloc (.cells #[.int .i64 (c : Int), .int .i64 x1] 30)) A (setB b c false) := World.rowIs.alloc (r5.set c false) _
            have hBB : Below W.heap.size W ((w5.setCell ⟨A, c, none⟩ (.bool false)).alloc (.cells #[.int .i64 (c : Int), .int .i64 x1] 30)) := (B5.setCell hAW _).alloc (by simpa using B5.size) _
            go_wp2_with (first
              | (go_at_call 15; refine H4.mono ?_; clear H4; rintro e w6 ⟨rfl, rfl⟩))
            go_roundg (gk - 1)
            case measure => have := hJ.out; omega
            case rel =>
              have hj := hJ.out
              exact ⟨j + 1, m, S, _, _, by omega, by omega, by go_num, by first | rfl | (congr 1; omega), hfin, hrr, hfar, hkey, hl, hBB⟩
          · have H4 := len_any (hq1)
            go_wp2_with (first
              | (go_at_call 15; refine H4.mono ?_; clear H4; rintro e w6 ⟨rfl, rfl⟩))
            go_roundg (gk - 1)
            case measure => have := hJ.out; omega
            case rel =>
              have hj := hJ.out
              exact ⟨j + 1, _, S, _, _, by omega, by omega, by go_num, by go_num, hq1, hr1, hfar, hk, hl, hB1⟩
      | false =>
        rw [hba] at ra hka
        have hv : K (a : Int) = none := by
          cases e : K (a : Int) with
          | none => rfl
          | some v => rw [e] at hka; cases hka
        have H2 := fun key => push_yes hq.drew (by have := hJ.out; omega) hv key
        clear hka hv
        go_upto_region 12 with fail
        go_cut [36] from 16 to 80 (fun s w => s = .bool false ∧ ∃ S' v, Has w Q S' (at1 K (a : Int) (some v)) (n + 1) ∧ Marks w A b ∧ ¬ S' A ∧ (∀ k, S' k → W.heap.size ≤ k) ∧ Below W.heap.size W w)
        case first =>
          go_region_with (go_at_call 9; rw [hwa.out]; refine (H2 _).mono ?_; clear H2; rintro e w3 ⟨rfl, S3, q3, g3⟩; obtain ⟨k3, far3⟩ := g3.keeps (b := A) hr.lt hfar; have r3 : Marks w3 A b := hr.drew.of_block k3; have ra3 := r3.cell (i := a) (by omega); rw [hba] at ra3)
          all_goals
            go_wp2_with fail
            go_meet
            case rel => exact ⟨rfl, S3, _, q3, r3, far3, g3.low hB.size hl, Went.below' hB.drew g3 hl⟩
        case rest =>
          obtain ⟨rfl, S', v, hq1, hr1, hfar1, hl1, hB1⟩ := hcut
          have ra1 := hr1.cell (i := a) (by omega)
          rw [hba] at ra1
          have fa1 := hr1.frozen a
          have hA1 := hr1.lt
          clear ra H2 hq hr hB hba hfar hl
          have hk2 := hk.push (a := a) (by omega) v
          have hr2 := hr1.set a true
          have hq2 : Has (wc.setCell ⟨A, a, none⟩ (.bool true)) Q S' (at1 K (a : Int) (some v)) (n + 1) := hq1.kept fun b hb => Below.heap_setCell _ _ _ _ (show b ≠ A from fun e => hfar1 (e ▸ hb))
          have hB2 : Below W.heap.size W (wc.setCell ⟨A, a, none⟩ (.bool true)) := hB1.setCell hAW _
          by_cases hm : (j : Int) % 3 = 2
          · have H3 := pop_some (hq2) (by have := hJ.out; omega)
            go_upto_region 19 with (first
              | (go_at_call 11; refine H3.mono ?_; clear H3; rintro e w5 ⟨x, rfl, hx, q5, m5⟩))
            obtain ⟨x0, x1⟩ := x
            have hx0 := (hk2).2 x0 x1 hx.1
            obtain ⟨c, rfl⟩ : ∃ c : Nat, x0 = (c : Int) := ⟨x0.toNat, by omega⟩
            have hc256 : c < 256 := by omega
            have hci : (c : Int) < 256 := by omega
            have hci2 : decide (255 < (c : Int)) = false := by simp; omega
            have hbc := (hk2).1 c hc256
            have hx1 : (at1 K (a : Int) (some v)) c = some x1 := hx.1
            rw [hx1] at hbc
            have r5 : Marks w5 A (setB b a true) := (hr2).of_block (m5.block A (hr2).lt hfar1)
            have k5 := r5.cell (i := c) hc256
            have f5 := r5.frozen c
            have hA5 := r5.lt
            rw [hbc] at k5
            simp only [Option.isSome_some] at k5
            clear hbc hx1
            have B5 := Moved.below' (hB2) m5 hl1
            have hkey := (hk2).pop c
            have hfin : Has ((w5.setCell ⟨A, c, none⟩ (.bool false)).alloc (.cells #[.int .i64 (c : Int), .int .i64 x1] 30)) Q S' (at1 (at1 K (a : Int) (some v)) (c : Int) none) n := (q5.kept fun b hb => Below.heap_setCell _ _ _ _ (show b ≠ A from fun e => hfar1 (e ▸ hb))).new _
            have H4 := len_any hfin
            have hrr : Marks ((w5.setCell ⟨A, c, none⟩ (.bool false)).alloc (.cells #[.int .i64 (c : Int), .int .i64 x1] 30)) A (setB (setB b a true) c false) := World.rowIs.alloc (r5.set c false) _
            have hBB : Below W.heap.size W ((w5.setCell ⟨A, c, none⟩ (.bool false)).alloc (.cells #[.int .i64 (c : Int), .int .i64 x1] 30)) := (B5.setCell hAW _).alloc (by simpa using B5.size) _
            go_wp2_with (first
              | (go_at_call 15; refine H4.mono ?_; clear H4; rintro e w6 ⟨rfl, rfl⟩))
            go_roundg (gk - 1)
            case measure => have := hJ.out; omega
            case rel =>
              have hj := hJ.out
              exact ⟨j + 1, n, S', _, _, by omega, by omega, by go_num, by first | rfl | (congr 1; omega), hfin, hrr, hfar1, hkey, hl1, hBB⟩
          · have H4 := len_any (hq2)
            go_wp2_with (first
              | (go_at_call 15; refine H4.mono ?_; clear H4; rintro e w6 ⟨rfl, rfl⟩))
            go_roundg (gk - 1)
            case measure => have := hJ.out; omega
            case rel =>
              have hj := hJ.out
              exact ⟨j + 1, _, S', _, _, by omega, by omega, by go_num, by go_num, hq2, hr2, hfar1, hk2, hl1, hB2⟩
    · obtain rfl : j = len := by omega
      clear hj
      go_wp2
      go_ret
      exact ⟨rfl, hB⟩
end Go.Proofs.Ythcjmbfhcdkffaa
