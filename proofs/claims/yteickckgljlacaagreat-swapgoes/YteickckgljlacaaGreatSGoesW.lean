/-
  SwapGoes, walked.
-/
import Derived.Test.YteickckgljlacaaGreatSwV
namespace Go.Proofs.YteickckgljlacaaGreat.Sw
open Go Go.RowKit
open Rf (tab word IsTab)

set_option maxRecDepth 100000 in
set_option maxHeartbeats 4000000 in
theorem goes_walk (F G : Nat → Bool) (ad : Option Addr) (n cap : Nat) (V : Nat → Nat) (W : World) (hV : BtAt W ad n V) (hb : ∀ i, i < n → V i < 256) :
    Calls Tryz.prog 6 #[tab F, tab G, .slice ad n cap] W fun e w' => e = .returned (.bool true) ∧ Below W.heap.size W w' := by
  conv in #[tab F, tab G, Value.slice ad n cap] => unfold tab
  go_enter Tryz.func6, Tryz.ntmps6
  go_upto_region 1 with fail
  obtain ⟨TF, TG, B1⟩ := boxes2 W F G
  unfold fo at TF TG B1
  generalize (W.alloc (.cells #[.int .u64 (word F 0 : Int), .int .u64 (word F 1 : Int), .int .u64 (word F 2 : Int), .int .u64 (word F 3 : Int)] 24)).alloc (.cells #[.int .u64 (word G 0 : Int), .int .u64 (word G 1 : Int), .int .u64 (word G 2 : Int), .int .u64 (word G 3 : Int)] 24) = w1 at TF TG B1 ⊢
  have B1A : Aside (Below W.heap.size W w1) := B1
  generalize hbg : W.heap.size + 1 = bg at TG ⊢
  generalize hbf : W.heap.size = bf at TF ⊢
  have VA : Aside (BtAt W ad n V ∧ ∀ i, i < n → V i < 256) := ⟨hV, hb⟩
  clear B1 hbg hbf hV hb
  have Kk := known_any w1
  go_upto_region 3 with (first
    | (go_at_call 8; refine Kk.mono ?_; clear Kk; rintro e w2 ⟨rfl, b2⟩))
  have B2 : Below W.heap.size W w2 := Rf.below_far B1A.out b2
  have TF2 := TF.kept b2
  have TG2 := TG.kept b2
  clear TF TG b2 B1A
  by_cases n12 : n ≤ 12
  · have ni : ¬ (12 : Int) < (n : Int) := by omega
    have nA : Aside (n ≤ 12) := n12
    have K1 : Calls Tryz.prog 9 #[.int .i64 8, .int .i64 8000] w2 _ := new_x W w2 8 8000 (by omega) (by omega) (by omega) (by omega) B2
    clear n12 B2
    go_upto_region 8 with (first
      | (go_at_call 9; refine K1.mono ?_; clear K1; rintro e w3 ⟨S, rfl, _, x3, b3⟩))
    have TF3 := TF2.kept b3
    have TG3 := TG2.kept b3
    clear TF2 TG2 b3 ni
    have K2 := make_x x3 (by omega) F
    unfold tab at K2
    obtain ⟨c0, c1, c2, c3⟩ := TF3.copy
    go_upto_region 9 with (first
      | (go_at_call 13; refine K2.mono ?_; clear K2; rintro e w4 ⟨a, rfl, x4, o4⟩))
    have TG4 := Out.tab o4 TG3
    clear c0 c1 c2 c3 TF3 TG3 o4 x3
    have K3 := make_x x4 (by omega) G
    unfold tab at K3
    obtain ⟨c0, c1, c2, c3⟩ := TG4.copy
    go_upto_region 10 with (first
      | (go_at_call 13; refine K3.mono ?_; clear K3; rintro e w5 ⟨b, rfl, x5, o5⟩))
    clear c0 c1 c2 c3 TG4 o5 x4
    have K4 := and_x x5 (x := a) (X := F) (y := b) (Y := G) (by simp) (by simp) 63 (by decide) (by omega)
    go_upto_region 11 with (first
      | (go_at_call 32; refine K4.mono ?_; clear K4; rintro e w6 ⟨x, rfl, x6, _⟩))
    clear x5
    have K5 := xor_x x6 (x := a) (X := F) (y := b) (Y := G) (by simp) (by simp) 63 (by decide) (by omega)
    go_upto_region 15 with (first
      | (go_at_call 33; refine K5.mono ?_; clear K5; rintro e w7 ⟨y, rfl, x7, _⟩))
    have x7A : Aside (∃ q, Sx W w7 S 8 8000 [(y, fX F G), (x, fA F G), (b, G), (a, F)] q) := ⟨_, x7.mono (by intro p hp; simp at hp ⊢; rcases hp with h | h | h | h <;> simp [h])⟩
    clear x6 x7
    go_loopg [17] n (fun gg s17 wr => ∃ j : Nat, j + gg = n ∧ s17 = .int .i64 (j : Int) ∧ Aside (∃ q, Sx W wr S 8 8000 [(y, fX F G), (x, fA F G), (b, G), (a, F)] q))
    case atStart => exact ⟨0, by omega, rfl, x7A⟩
    case round =>
      obtain ⟨j, hj, rfl, hx⟩ := hrel
      have hJ : Aside (j + gk = n) := hj
      have hjn : j ≤ 12 := by have := nA.out; omega
      obtain ⟨q, xr⟩ := hx.out
      by_cases hlt : j < n
      · have hlt' : (j : Int) < (n : Int) := by omega
        have hltA : Aside (j < n) := hlt
        obtain ⟨b0, off, rfl, hb0, hc0⟩ := (VA.out.1.kept xr.base).resolve_left (by omega)
        have k1 := hc0 j hlt
        have hv := VA.out.2 j hlt
        generalize V j = v at k1 hv
        obtain ⟨t, ht⟩ : ∃ t, v % 7 = t := ⟨_, rfl⟩
        have t7 : t < 7 := by omega
        have m7 : Int.tmod (v : Int) 7 = (t : Int) := by rw [Int.tmod_eq_emod_of_nonneg (by omega)]; omega
        have wt : IntKind.u8.wrap (t : Int) = (t : Int) := by rw [IntKind.wrap_u8]; omega
        have wt2 : IntKind.i64.wrap (t : Int) = (t : Int) := by rw [IntKind.wrap_i64]; omega
        have KS := swap_x xr (k := t) (by omega)
        have BA : Aside (Below W.heap.size W wr) := xr.base
        clear hj hlt hc0 ht t7 hv x7A hx xr hb0
        rcases KS with KS | KS
        · go_wp2_with (first
            | (go_at_call 18; refine KS.mono ?_; clear KS; rintro e w8 ⟨rfl, b8⟩))
          go_ret
          exact ⟨rfl, Rf.below_far BA.out b8⟩
        · go_upto_region 20 with (first
            | (go_at_call 18; refine KS.mono ?_; clear KS; rintro e w8 ⟨rfl, ⟨q8, x8⟩, o8⟩))
          clear k1 m7 wt wt2 o8
          have K6 := and_there x8 (x := b) (X := G) (y := a) (Y := F) (z := x) (Z := fA F G) (by simp) (by simp) (by simp) (fun t _ => Bool.and_comm _ _)
          go_upto_region 21 with (first
            | (go_at_call 32; refine K6.mono ?_; clear K6; rintro e w9 ⟨rfl, ⟨q9, x9⟩, o9⟩))
          clear o9 x8
          have K7 := xor_there x9 (x := a) (X := F) (y := b) (Y := G) (z := y) (Z := fX F G) (by simp) (by simp) (by simp) (fun _ _ => rfl)
          go_upto_region 22 with (first
            | (go_at_call 33; refine K7.mono ?_; clear K7; rintro e w10 ⟨rfl, ⟨q10, x10⟩, o10⟩))
          have xA : Aside (∃ q, Sx W w10 S 8 8000 [(y, fX F G), (x, fA F G), (b, G), (a, F)] q) := ⟨_, x10⟩
          clear o10 x9 x10
          go_wp2_with fail
          go_roundg (gk - 1)
          case measure => have := hJ.out; have := hltA.out; omega
          case rel =>
            have := hJ.out
            have := hltA.out
            exact ⟨j + 1, by omega, by go_num, xA⟩
      · obtain rfl : j = n := by omega
        have BA : Aside (Below W.heap.size W wr) := xr.base
        clear hx xr x7A hj
        go_wp2_with fail
        go_ret
        exact ⟨rfl, BA.out⟩
  · have ni : (12 : Int) < (n : Int) := by omega
    go_wp2_with fail
    go_ret
    exact ⟨rfl, B2⟩
end Go.Proofs.YteickckgljlacaaGreat.Sw
