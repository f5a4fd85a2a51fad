/-
  The walk of RanksChange: for every row of keys and every three numbers it tells true, and old memory is as it was.
-/
import Derived.Test.YthcjmbfhcdkffaaTwiceW
namespace Go.Proofs.Ythcjmbfhcdkffaa
open Go Go.RowKit

/-- What stands behind j pushes. -/
def RowK (Z : Nat → Int) (j : Nat) (K : Int → Option Int) : Prop := ∀ id v, K id = some v ↔ ∃ i : Nat, i < j ∧ id = (i : Int) ∧ v = Z i
theorem IntsK.get' {w : World} {k : IntKind} {ad : Option Addr} {n : Nat} {Z : Nat → Int} (h : IntsK w k ad n Z) {i : Nat} (hi : i < n) : ∃ b off, ad = some ⟨b, off, none⟩ ∧ b < w.heap.size ∧ w.cell? ⟨b, off + i, none⟩ = some (.int k (Z i)) := by
  rcases h with h | ⟨b, off, e, hb, hc⟩
  · omega
  · exact ⟨b, off, e, hb, hc i hi⟩
theorem RowK.free {Z : Nat → Int} {j : Nat} {K : Int → Option Int} (h : RowK Z j K) : K (j : Int) = none := by
  cases e : K (j : Int) with
  | none => rfl
  | some v =>
    obtain ⟨i, hi, he, _⟩ := (h _ _).1 e
    omega
theorem RowK.get {Z : Nat → Int} {j : Nat} {K : Int → Option Int} (h : RowK Z j K) {i : Nat} (hi : i < j) : K (i : Int) = some (Z i) := (h _ _).2 ⟨i, hi, rfl, rfl⟩
theorem RowK.push {Z : Nat → Int} {j : Nat} {K : Int → Option Int} (h : RowK Z j K) : RowK Z (j + 1) (at1 K (j : Int) (some (Z j))) := by
  intro id v
  unfold at1
  by_cases c : id = (j : Int)
  · rw [if_pos c, Option.some.injEq]
    constructor
    · rintro rfl
      exact ⟨j, by omega, c, rfl⟩
    · rintro ⟨i, hi, he, rfl⟩
      have : i = j := by omega
      rw [this]
  · rw [if_neg c, h id v]
    constructor
    · rintro ⟨i, hi, he⟩
      exact ⟨i, by omega, he⟩
    · rintro ⟨i, hi, he, hv⟩
      exact ⟨i, by omega, he, hv⟩
/-- What is left behind the change and the drop, no key above l. -/
def LeftK (Z : Nat → Int) (len a b : Nat) (t l : Int) (K : Int → Option Int) : Prop := ∀ id v, K id = some v → v ≤ l ∧ ∃ k : Nat, k < len ∧ id = (k : Int) ∧ k ≠ b ∧ v = if k = a then t else Z k
theorem LeftK.start {Z : Nat → Int} {len a b : Nat} {t : Int} {K : Int → Option Int} (h : RowK Z len K) (ha : a < len) (ht : t ≤ 127) (hZ : ∀ i, i < len → -128 ≤ Z i ∧ Z i ≤ 127) : LeftK Z len a b t 1000 (at1 (at1 K (a : Int) (some t)) (b : Int) none) := by
  intro id v e
  unfold at1 at e
  by_cases c : id = (b : Int)
  · rw [if_pos c] at e; cases e
  · rw [if_neg c] at e
    by_cases c2 : id = (a : Int)
    · rw [if_pos c2] at e
      have := Option.some.inj e
      exact ⟨by omega, a, ha, c2, by omega, by rw [if_pos rfl, this]⟩
    · rw [if_neg c2] at e
      obtain ⟨i, hi, he, hv⟩ := (h _ _).1 e
      have := hZ i hi
      exact ⟨by omega, i, hi, he, by omega, by rw [if_neg (by omega), hv]⟩
theorem LeftK.pop {Z : Nat → Int} {len a b : Nat} {t l : Int} {K : Int → Option Int} (h : LeftK Z len a b t l K) {x : Int × Int} (hx : ∀ id key, K id = some key → bet (id, key) x = false) : LeftK Z len a b t x.2 (at1 K x.1 none) := by
  intro id v e
  unfold at1 at e
  by_cases c : id = x.1
  · rw [if_pos c] at e; cases e
  · rw [if_neg c] at e
    have := bet_not.1 (hx id v e)
    simp only at this
    exact ⟨by omega, (h id v e).2⟩

set_option maxHeartbeats 3200000 in
set_option maxRecDepth 100000 in
theorem change_walk (ad : Option Addr) (len cap : Nat) (Z : Nat → Int) (who t drop : Int) (W : World) (hz : IntsK W .i8 ad len Z) (hZ : ∀ i, i < len → -128 ≤ Z i ∧ Z i ≤ 127) (hwho : 0 ≤ who ∧ who ≤ 255) (ht : -128 ≤ t ∧ t ≤ 127) (hdrop : 0 ≤ drop ∧ drop ≤ 255) (hlen : 2 ≤ len ∧ len ≤ 60) :
    Calls Try.prog 5 #[.slice ad len cap, .int .u8 who, .int .i8 t, .int .u8 drop] W fun e w' => e = .returned (.bool true) ∧ Below W.heap.size W w' := by
  have hd0 : decide ((len : Int) < 2) = false := by simp; omega
  have hd1 : decide (60 < (len : Int)) = false := by simp; omega
  have hlz : ¬ (len : Int) = 0 := by omega
  obtain ⟨a, ha⟩ : ∃ a : Nat, who % (len : Int) = (a : Int) := ⟨(who % (len : Int)).toNat, by have := Int.emod_nonneg who hlz; omega⟩
  obtain ⟨b, hb⟩ : ∃ b : Nat, drop % (len : Int) = (b : Int) := ⟨(drop % (len : Int)).toNat, by have := Int.emod_nonneg drop hlz; omega⟩
  have haA : Aside (a < len) := (by have := Int.emod_lt_of_pos who (show (0 : Int) < len by omega); omega : a < len)
  have hbA : Aside (b < len) := (by have := Int.emod_lt_of_pos drop (show (0 : Int) < len by omega); omega : b < len)
  have H0 := known_any W
  go_enter Try.func5, Try.ntmps5
  go_wp2_with (first
    | (go_at_call 7; refine H0.mono ?_; clear H0; rintro e w1 ⟨rfl, b1⟩; have H1 := new_any w1)
    | (go_at_call 8; refine H1.mono ?_; clear H1; rintro e w2 ⟨rfl, S2, q2, l2, b2⟩))
  have B2 := below_far b1 b2
  have l2' : ∀ k, S2 k → W.heap.size ≤ k := fun k hk => Nat.le_trans b1.size (l2 k hk)
  clear b1 b2 l2
  generalize w1.heap.size = Q at q2
  go_loopg [10] len (fun g sv wr => ∃ (j : Nat) (S : Nat → Prop) (K : Int → Option Int), j + g = len ∧ sv = .int .i64 (j : Int) ∧ Has wr Q S K j ∧ RowK Z j K ∧ (∀ k, S k → W.heap.size ≤ k) ∧ Below W.heap.size W wr)
  case atStart => exact ⟨0, S2, _, by omega, rfl, q2, (fun _ _ => by simp), l2', B2⟩
  case round =>
    obtain ⟨j, S, K, hj, rfl, hq, hk, hl, hB⟩ := hrel
    have hJ : Aside (j + gk = len) := hj
    by_cases hjn : j < len
    · have hjn' : (j : Int) < (len : Int) := by omega
      obtain ⟨bb, off, rfl, hc⟩ := (hz.below hB).get hjn
      have hzj := hZ j hjn
      have H2 := push_yes hq (by omega) hk.free (Z j)
      clear hj ha hb
      go_wp2_with (first
        | (go_at_call 9; refine H2.mono ?_; clear H2; rintro e w3 ⟨rfl, S3, q3, g3⟩))
      go_roundg (gk - 1)
      case measure => have := hJ.out; omega
      case rel =>
        have hj := hJ.out
        exact ⟨j + 1, S3, _, by omega, by go_num, q3, hk.push, g3.low hB.size hl, Went.below' hB g3 hl⟩
    · obtain rfl : j = len := by omega
      obtain rfl : gk = 0 := by omega
      clear hj hJ q2 l2' B2
      go_wp2
      go_region
      obtain ⟨m, hm⟩ : ∃ m : Nat, j = m + 1 := ⟨j - 1, by omega⟩
      have hM : Aside (j = m + 1) := hm
      have hjm : (j : Int) - 1 = (m : Int) := by omega
      clear hm
      have hka := hk.get haA.out
      obtain ⟨v, hv⟩ : ∃ v, at1 K (a : Int) (some t) (b : Int) = some v := by
        unfold at1
        by_cases c : (b : Int) = (a : Int)
        · exact ⟨t, by rw [if_pos c]⟩
        · exact ⟨Z b, by rw [if_neg c]; exact hk.get hbA.out⟩
      have hL := LeftK.start (b := b) hk haA.out ht.2 hZ
      have H3 := change_yes hq.drew (by omega) hka t
      have H4 : ∀ w3, Has w3 Q S (at1 K (a : Int) (some t)) j → Calls Try.prog 13 #[.pointer (some ⟨Q, 0, none⟩), .int .i64 (b : Int)] w3 fun e w' => e = .returned (.bool true) ∧ Has w' Q S (at1 (at1 K (a : Int) (some t)) (b : Int) none) m ∧ Moved S w3 w' := fun w3 q3 => by
        rw [hM.out] at q3
        exact drop_yes q3 (by have := hM.out; omega) hv
      clear hka hv
      go_wp2_with (first
        | (go_at_call 12; refine H3.mono ?_; clear H3; rintro e w3 ⟨rfl, q3, m3⟩; have B3 := Moved.below' hB.drew m3 hl; have H4' := H4 w3 q3; clear H4 m3)
        | (go_at_call 13; refine H4'.mono ?_; clear H4'; rintro e w4 ⟨rfl, q4, m4⟩; have B4 := Moved.below' B3 m4 hl; clear m4 B3 q3; have H5 := drop_no q4 (id := (b : Int)) (by simp [at1]))
        | (go_at_call 13; refine H5.mono ?_; clear H5; rintro e w5 ⟨rfl, b5⟩; have B5 := below_far B4 b5; have q5 := q4.below b5; have H6 := change_no q5 (id := (b : Int)) (by simp [at1]) 5; clear b5 B4 q4)
        | (go_at_call 12; refine H6.mono ?_; clear H6; rintro e w6 ⟨rfl, b6⟩; have B6 := below_far B5 b6; have q6 := q5.below b6; clear b6 B5 q5))
      generalize at1 (at1 K (a : Int) (some t)) (b : Int) none = K6 at q6 hL
      clear hB hq hk K wr ha hb
      go_loopg [13, 14] m (fun g so sl wr => ∃ (i : Nat) (l : Int) (K : Int → Option Int), i + g = m ∧ so = .int .i64 (i : Int) ∧ sl = .int .i64 l ∧ Has wr Q S K g ∧ LeftK Z j a b t l K ∧ Below W.heap.size W wr)
      case atStart => exact ⟨0, 1000, K6, by omega, rfl, rfl, q6, hL, B6⟩
      case round =>
        clear hL q6 B6 K6
        obtain ⟨i, l, K, hig, rfl, rfl, hq, hL, hB⟩ := hrel
        have hIG : Aside (i + gk = m) := hig
        have H7 := len_any hq
        cases gk with
        | zero =>
          obtain rfl : i = m := by omega
          clear hig
          go_wp2_with (first
            | (go_at_call 15; refine H7.mono ?_; clear H7; rintro e w7 ⟨rfl, rfl⟩))
          go_ret
          exact ⟨rfl, hB⟩
        | succ n =>
          have hi60 : i ≤ 60 := by have := hIG.out; have := hM.out; omega
          have hpos : (0 : Int) < ((n + 1 : Nat) : Int) := by omega
          have H8 := pop_some hq (by have := hIG.out; have := hM.out; omega)
          clear hig
          go_upto_region 17 with (first
            | (go_at_call 15; refine H7.mono ?_; clear H7; rintro e w7 ⟨rfl, rfl⟩)
            | (go_at_call 11; refine H8.mono ?_; clear H8; rintro e w8 ⟨x, rfl, hx, q8, m8⟩))
          have hL' := hL.pop hx.2
          obtain ⟨x0, x1⟩ := x
          obtain ⟨hxl, k, hkj, hk0, hkb, hkv⟩ := hL x0 x1 hx.1
          subst hk0
          have hkj' : (k : Int) < (j : Int) := by omega
          have hkb' : ¬ (k : Int) = (b : Int) := by omega
          have hxl' : decide (l < x1) = false := by simp; omega
          have B8 := (Moved.below' hB m8 hl).alloc (Moved.below' hB m8 hl).size (.cells #[.int .i64 (k : Int), .int .i64 x1] 30)
          have q9 := q8.new (.cells #[.int .i64 (k : Int), .int .i64 x1] 30)
          obtain ⟨bb, off, rfl, hbb, hc⟩ := ((hz.below (Moved.below' hB m8 hl))).get' hkj
          have hzk := hZ k hkj
          clear hx m8 hL hxl hB hq q8
          by_cases hkA : k = a
          · subst hkA
            rw [if_pos rfl] at hkv
            subst hkv
            go_wp2
            go_roundg n
            case measure => omega
            case rel =>
              have hig := hIG.out
              exact ⟨i + 1, x1, _, by omega, by go_num, rfl, q9, hL', B8⟩
          · have hkA' : ¬ (k : Int) = (a : Int) := by omega
            rw [if_neg hkA] at hkv
            subst hkv
            go_wp2
            go_roundg n
            case measure => omega
            case rel =>
              have hig := hIG.out
              exact ⟨i + 1, _, _, by omega, by go_num, rfl, q9, hL', B8⟩
end Go.Proofs.Ythcjmbfhcdkffaa
