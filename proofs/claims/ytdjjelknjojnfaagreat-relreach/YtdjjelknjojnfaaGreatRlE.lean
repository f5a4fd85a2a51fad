/-
  The statements' own state and pair: tables made variable by variable.
-/
import Derived.Test.YtdjjelknjojnfaaGreatRlD
import Derived.Deep.LoopGhost
namespace Go.Proofs.YtdjjelknjojnfaaGreat
open Go Go.RowKit
open Rf (fixAt fixF tab word IsTab halfN)

theorem tabE {F G : Nat → Bool} (h : ∀ x, F x = G x) : F = G := funext h
theorem bit8 (m v : Nat) (hm : m < 256) (_hv : v < 8) : bits .and .u8 ((m : Int) / 2 ^ v) 1 = (if m.testBit v then 1 else 0 : Int) := by
  have e : (m : Int) / 2 ^ v = ((m / 2 ^ v : Nat) : Int) := by push_cast; rfl
  have l : m / 2 ^ v < 256 := Nat.lt_of_le_of_lt (Nat.div_le_self _ _) hm
  rw [e, show (1 : Int) = ((1 : Nat) : Int) from rfl, u8_and_nat _ _ (by omega) (by decide), Nat.and_one_is_mod, Nat.testBit_eq_decide_div_mod_eq]
  have : m / 2 ^ v % 2 = 0 ∨ m / 2 ^ v % 2 = 1 := by omega
  rcases this with h | h
  · rw [h]; rfl
  · rw [h]; rfl
/-- The first so many bits of a state; of a pair. -/
def stUp (a n : Nat) : Nat → Bool := fun x => (List.range n).all fun i => x.testBit (2 * i) == a.testBit i
def prUp (a b n : Nat) : Nat → Bool := fun x => (List.range n).all fun i => (x.testBit (2 * i) == a.testBit i) && (x.testBit (2 * i + 1) == b.testBit i)
theorem stUp_succ (a n x : Nat) : stUp a (n + 1) x = (stUp a n x && (x.testBit (2 * n) == a.testBit n)) := by
  unfold stUp
  rw [List.range_succ, List.all_append]
  simp
theorem prUp_succ (a b n x : Nat) : prUp a b (n + 1) x = (prUp a b n x && ((x.testBit (2 * n) == a.testBit n) && (x.testBit (2 * n + 1) == b.testBit n))) := by
  unfold prUp
  rw [List.range_succ, List.all_append]
  simp
theorem half_iff {a x : Nat} (ha : a < 16) (hx : x < 256) : halfN x = a ↔ ∀ i, i < 4 → x.testBit (2 * i) = a.testBit i := by
  constructor
  · rintro rfl i hi
    exact (half_bit x hx i hi).symm
  · intro h
    exact four_same (half_lt _) ha fun i hi => by rw [half_bit x hx i hi, h i hi]
theorem stUp_all {a : Nat} (ha : a < 16) : Eqt (stUp a 4) (stF a) := fun x hx => by
  rw [Bool.eq_iff_iff, st_iff, half_iff ha hx]
  unfold stUp
  rw [List.all_eq_true]
  exact ⟨fun h i hi => by simpa using h i (List.mem_range.2 hi), fun h i hi => by simpa using h i (List.mem_range.1 hi)⟩
theorem prUp_all {a b : Nat} (ha : a < 16) (hb : b < 16) : Eqt (prUp a b 4) (prF a b) := fun x hx => by
  rw [Bool.eq_iff_iff, pr_iff', half_iff ha hx, half_iff hb (show x / 2 < 256 by omega)]
  unfold prUp
  rw [List.all_eq_true]
  constructor
  · intro h
    refine ⟨fun i hi => ?_, fun i hi => ?_⟩
    · have := h i (List.mem_range.2 hi)
      rw [Bool.and_eq_true, beq_iff_eq, beq_iff_eq] at this
      exact this.1
    · have := h i (List.mem_range.2 hi)
      rw [Bool.and_eq_true, beq_iff_eq, beq_iff_eq] at this
      rw [div_bit]
      exact this.2
  · rintro ⟨h1, h2⟩ i hi
    have hi := List.mem_range.1 hi
    have q := h2 i hi
    rw [div_bit] at q
    rw [h1 i hi, q]
    simp
theorem pr8 {p q : Nat} (hp : p < 16) (hq : q < 16) : Eqt (upC 8 (jnN p q) 0) (prF p q) := fun x hx => by
  rw [Bool.eq_iff_iff, upC_iff (Nat.le_refl 8) (by omega), pr_iff', half_iff hp hx, half_iff hq (show x / 2 < 256 by omega)]
  obtain ⟨j1, j2⟩ := jn_half p q hp hq
  constructor
  · intro h
    refine ⟨fun i hi => ?_, fun i hi => ?_⟩
    · rw [h _ (by omega) (by omega), jn_bit hp hq (by omega), if_pos (by omega), show 2 * i / 2 = i by omega]
    · rw [div_bit, h _ (by omega) (by omega), jn_bit hp hq (by omega), if_neg (by omega), show (2 * i + 1) / 2 = i by omega]
  · rintro ⟨h1, h2⟩ v _ hv
    rw [jn_bit hp hq hv]
    rcases even_of hv with ⟨i, hi, rfl⟩ | ⟨i, hi, rfl⟩
    · rw [if_pos (by omega), show 2 * i / 2 = i by omega, h1 i hi]
    · rw [if_neg (by omega), show (2 * i + 1) / 2 = i by omega, ← h2 i hi, div_bit]
theorem pair8 {W w : World} {S r b : Nat} {l : Kl} (h : Sx W w S 8 r l b) {p q : Nat} (hp : p < 16) (hq : q < 16) (hb : b + 128 + 19 ≤ r) :
    Calls Tryz.prog 12 #[.pointer (some ⟨S, 0, none⟩), .int .u8 (p : Int), .int .u8 (q : Int)] w (LeftX W S 8 r l (b + 128) (prF p q) w) := by
  refine (pair_c h (by decide) (p := p) (q := q) hp hq 8 (.inl (by omega)) hb).mono ?_
  rintro e w' ⟨z, rfl, x, o⟩
  exact ⟨z, rfl, x.like (pr8 hp hq), o⟩
theorem bud8 {X Y : Nat → Bool} : Bud 8 63 384 X Y := .inl ⟨by decide, by decide⟩
set_option maxRecDepth 100000 in
set_option maxHeartbeats 4000000 in
theorem state_any {W w : World} {S r b : Nat} {l : Kl} (h : Sx W w S 8 r l b) (hb : b + 82 ≤ r) (a : Nat) (ha : a < 16) :
    Calls Tryz.prog 14 #[.pointer (some ⟨S, 0, none⟩), .int .u8 (a : Int)] w fun e w' => ∃ z : Nat, e = .returned (.int .u32 (z : Int)) ∧ Sx W w' S 8 r ((z, stF a) :: l) (b + 63) ∧ Out w w' := by
  have hA : Aside (Sx W w S 8 r l b) := h
  have a256 : a < 256 := by omega
  have haA : Aside (a < 16) := ha
  clear h ha
  go_enter Tryz.func14, Tryz.ntmps14
  have KC := Rf.const_any true w
  unfold tab at KC
  go_upto_region 3 with (first
    | (go_at_call 46; refine KC.mono ?_; clear KC; rintro e w5 ⟨rfl, b5⟩))
  have N6 := nb w5 (.cells #[.int .u64 (word (fun _ => true) 0 : Int), .int .u64 (word (fun _ => true) 1 : Int), .int .u64 (word (fun _ => true) 2 : Int), .int .u64 (word (fun _ => true) 3 : Int)] 42)
  have T6 := IsTab.new w5 (fun _ => true)
  have B6 := Rf.below_far b5 N6
  generalize w5.alloc (.cells #[.int .u64 (word (fun _ => true) 0 : Int), .int .u64 (word (fun _ => true) 1 : Int), .int .u64 (word (fun _ => true) 2 : Int), .int .u64 (word (fun _ => true) 3 : Int)] 42) = w6 at N6 T6 B6 ⊢
  obtain ⟨bf, hbf⟩ : ∃ bf, w5.heap.size = bf := ⟨_, rfl⟩
  have hgeA : Aside (w.heap.size ≤ bf) := by rw [← hbf]; exact b5.size
  rw [hbf] at T6 ⊢
  clear hbf
  have I0 : Aside (IsTab w6 bf (stUp a 0) ∧ Below w.heap.size w w6) := ⟨T6, B6⟩
  clear N6 T6 B6 b5
  go_loopg [6, 7] 4 (fun gg s6 _ wr => ∃ v : Nat, v + gg = 4 ∧ s6 = .int .i64 (v : Int) ∧ Aside (IsTab wr bf (stUp a v) ∧ Below w.heap.size w wr))
  case atStart => exact ⟨0, rfl, rfl, I0⟩
  case round =>
    clear I0
    obtain ⟨v, hv, rfl, I⟩ := hrel
    have hV : Aside (v + gk = 4) := hv
    by_cases hlt : v < 4
    · have hlt' : (v : Int) < 4 := by omega
      have bq := bit8 a v a256 (by omega)
      have mv : min v 8 = v := by omega
      have hltA : Aside (v < 4) := hlt
      have K2 : Calls Tryz.prog 35 #[.int .i64 (2 * (v : Int))] wr _ := Rf.var_any (2 * v) (by omega) wr
      unfold tab at K2
      obtain ⟨T, B⟩ := I.out
      clear I
      go_upto_region 6 with (first
        | (go_at_call 35; refine K2.mono ?_; clear K2; rintro e w7 ⟨rfl, b7⟩))
      have N8 := nb w7 (.cells #[.int .u64 (word (Rf.M (2 * v)) 0 : Int), .int .u64 (word (Rf.M (2 * v)) 1 : Int), .int .u64 (word (Rf.M (2 * v)) 2 : Int), .int .u64 (word (Rf.M (2 * v)) 3 : Int)] 42)
      have TX := IsTab.new w7 (Rf.M (2 * v))
      have T8 := kept T (Rf.below_far b7 N8)
      have B8 := Rf.below_far B (Rf.below_far b7 N8)
      have ltx : bf < w7.heap.size ∧ w.heap.size ≤ w7.heap.size := ⟨Nat.lt_of_lt_of_le T.lt b7.size, Nat.le_trans B.size b7.size⟩
      generalize w7.alloc (.cells #[.int .u64 (word (Rf.M (2 * v)) 0 : Int), .int .u64 (word (Rf.M (2 * v)) 1 : Int), .int .u64 (word (Rf.M (2 * v)) 2 : Int), .int .u64 (word (Rf.M (2 * v)) 3 : Int)] 42) = w8 at TX T8 B8 N8 ⊢
      generalize w7.heap.size = bx at TX ltx ⊢
      have ltA : Aside (bf < bx ∧ w.heap.size ≤ bx) := ltx
      clear T B b7 N8 ltx
      cases hbq : a.testBit v with
      | true =>
        rw [hbq] at bq
        simp only [if_true] at bq
        have eA : Aside ((fun x => stUp a v x && Rf.M (2 * v) x) = stUp a (v + 1)) := tabE fun x => by rw [stUp_succ, hbq, ← Rf.M_bit]; simp
        obtain ⟨x0, x1, x2, x3⟩ := TX.copy
        obtain ⟨t0, t1, t2, t3⟩ := T8.copy
        have KA := Rf.and_any (stUp a v) (Rf.M (2 * v)) w8
        unfold tab at KA
        clear hbq
        go_wp2_with (first
          | (go_at_call 47; refine KA.mono ?_; clear KA; rintro e w9 ⟨rfl, b9⟩; have T9 := kept T8 b9; have y0 := T9.cell (k := 0) (by decide); have y1 := T9.cell (k := 1) (by decide); have y2 := T9.cell (k := 2) (by decide); have y3 := T9.cell (k := 3) (by decide); have z0 := T9.free 0; have z1 := T9.free 1; have z2 := T9.free 2; have z3 := T9.free 3))
        go_roundg (gk - 1)
        case measure => have := hV.out; have := hltA.out; omega
        case rel =>
          have := hV.out
          have := hltA.out
          have B9 := Rf.below_far B8 b9
          refine ⟨v + 1, by omega, by go_num, ?_⟩
          rw [← eA.out]
          exact ⟨Rf.laid_tab T9 _, B9.trans ((Rf.laid_turned _ _ _).below B9.size hgeA.out)⟩
      | false =>
        rw [hbq] at bq
        simp only [Bool.false_eq_true, if_false] at bq
        have eA : Aside ((fun x => stUp a v x && !Rf.M (2 * v) x) = stUp a (v + 1)) := tabE fun x => by rw [stUp_succ, hbq, ← Rf.M_bit]; simp
        obtain ⟨x0, x1, x2, x3⟩ := TX.copy
        have KN := Rf.not_any (Rf.M (2 * v)) w8
        unfold tab at KN
        clear hbq
        go_upto_region 8 with (first
          | (go_at_call 34; refine KN.mono ?_; clear KN; rintro e w9 ⟨rfl, b9⟩; have T9 := kept TX b9; have y0 := T9.cell (k := 0) (by decide); have y1 := T9.cell (k := 1) (by decide); have y2 := T9.cell (k := 2) (by decide); have y3 := T9.cell (k := 3) (by decide); have z0 := T9.free 0; have z1 := T9.free 1; have z2 := T9.free 2; have z3 := T9.free 3))
        have TN := Rf.laid_tab T9 (fun x => !Rf.M (2 * v) x)
        have tu := Rf.laid_turned w9 bx (fun x => !Rf.M (2 * v) x)
        have TF9 := tu.tab (kept T8 b9) (by have := ltA.out; omega)
        have B9 : Aside (Below w.heap.size w (Rf.laid w9 bx (fun x => !Rf.M (2 * v) x))) := (Rf.below_far B8 b9).trans (tu.below (Rf.below_far B8 b9).size ltA.out.2)
        clear y0 y1 y2 y3 z0 z1 z2 z3 x0 x1 x2 x3 T9 tu
        unfold Rf.laid at TN TF9 B9
        generalize (((w9.setCell ⟨bx, 0, none⟩ (.int .u64 (word (fun x => !Rf.M (2 * v) x) 0 : Int))).setCell ⟨bx, 1, none⟩ (.int .u64 (word (fun x => !Rf.M (2 * v) x) 1 : Int))).setCell ⟨bx, 2, none⟩ (.int .u64 (word (fun x => !Rf.M (2 * v) x) 2 : Int))).setCell ⟨bx, 3, none⟩ (.int .u64 (word (fun x => !Rf.M (2 * v) x) 3 : Int)) = wa at TN TF9 B9 ⊢
        obtain ⟨x0, x1, x2, x3⟩ := TN.copy
        obtain ⟨t0, t1, t2, t3⟩ := TF9.copy
        have KA := Rf.and_any (stUp a v) (fun x => !Rf.M (2 * v) x) wa
        unfold tab at KA
        go_wp2_with (first
          | (go_at_call 47; refine KA.mono ?_; clear KA; rintro e wb ⟨rfl, bb⟩; have T9 := kept TF9 bb; have y0 := T9.cell (k := 0) (by decide); have y1 := T9.cell (k := 1) (by decide); have y2 := T9.cell (k := 2) (by decide); have y3 := T9.cell (k := 3) (by decide); have z0 := T9.free 0; have z1 := T9.free 1; have z2 := T9.free 2; have z3 := T9.free 3))
        go_roundg (gk - 1)
        case measure => have := hV.out; have := hltA.out; omega
        case rel =>
          have := hV.out
          have := hltA.out
          have Bb := Rf.below_far B9.out bb
          refine ⟨v + 1, by omega, by go_num, ?_⟩
          rw [← eA.out]
          exact ⟨Rf.laid_tab T9 _, Bb.trans ((Rf.laid_turned _ _ _).below Bb.size hgeA.out)⟩
    · obtain rfl : v = 4 := by have := hV.out; omega
      obtain ⟨T, B⟩ := I.out
      have o1 : Aside (Out w wr) := Out.below B
      have K := make_x (hA.out.below B) hb (stUp a 4)
      unfold tab at K
      obtain ⟨t0, t1, t2, t3⟩ := T.copy
      clear hv hlt I B hA
      go_wp2_with (first
        | (go_at_call 20; refine K.mono ?_; clear K; rintro e w9 ⟨z, rfl, x9, u9⟩))
      go_ret
      exact ⟨z, rfl, x9.like (stUp_all haA.out), o1.out.trans u9⟩
end Go.Proofs.YtdjjelknjojnfaaGreat
