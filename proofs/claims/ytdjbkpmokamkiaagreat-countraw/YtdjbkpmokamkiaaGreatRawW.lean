/-
  CountRaw, walked.
-/
import Derived.Test.YtdjbkpmokamkiaaGreatCtK
namespace Go.Proofs.YtdjbkpmokamkiaaGreat
open Go Go.RowKit
open Rf (tab word IsTab countUpto)

section
variable {w : World} {S a x : Nat} {F0 : Nat → Prop} {M : Mdl}
theorem size_two_ok (s : St w S F0 M) (ha : M.isNode a) (hx : M.isNode x) : Calls Tryz.prog 18 #[.pointer (some ⟨S, 0, none⟩), .slice (some ⟨w.heap.size, 0, none⟩) 2 2] (w.alloc (.cells #[.int .u32 (a : Int), .int .u32 (x : Int)] 32)) fun e w' => (∃ k : Nat, e = .returned (.tuple #[.int .i64 (k : Int), .int .i64 0])) ∧ Below w.heap.size w w' := by
  have hN : ∀ i, i < 2 → M.isNode ((fun i => if i = 0 then a else x) i) := fun i _ => by
    show M.isNode (if i = 0 then a else x)
    split
    · exact ha
    · exact hx
  have B := nb w (.cells #[.int .u32 (a : Int), .int .u32 (x : Int)] 32)
  refine (size_op (cap := 2) (s.below B) (hs2 w a x) (fun i hi => Nat.lt_trans (Mdl.isNode_lt s.ok (hN i hi)) (by decide)) (by omega)).mono ?_
  rintro e w' ⟨⟨_, ks, _, _, rfl⟩ | ⟨⟨i, hi, bad⟩, _⟩, B'⟩
  · exact ⟨⟨_, rfl⟩, Rf.below_far B B'⟩
  · exact absurd (hN i hi) bad
theorem size_two_bad (s : St w S F0 M) (ha : M.isNode a) (hb : x < 4294967296) (hx : ¬ M.isNode x) : Calls Tryz.prog 18 #[.pointer (some ⟨S, 0, none⟩), .slice (some ⟨w.heap.size, 0, none⟩) 2 2] (w.alloc (.cells #[.int .u32 (a : Int), .int .u32 (x : Int)] 32)) fun e w' => e = .returned (.tuple #[.int .i64 0, .int .i64 101]) ∧ Below w.heap.size w w' := by
  have B := nb w (.cells #[.int .u32 (a : Int), .int .u32 (x : Int)] 32)
  refine (size_op (cap := 2) (s.below B) (hs2 w a x) (fun i _ => ?_) (by omega)).mono ?_
  · show (if i = 0 then a else x) < 4294967296
    split
    · exact Nat.lt_trans (Mdl.isNode_lt s.ok ha) (by decide)
    · exact hb
  · rintro e w' ⟨⟨hN, _⟩ | ⟨_, rfl⟩, B'⟩
    · exact absurd (hN 1 (by omega)) hx
    · exact ⟨rfl, Rf.below_far B B'⟩
theorem levels_one_ok (s : St w S F0 M) (hx : M.isNode x) : Calls Tryz.prog 19 #[.pointer (some ⟨S, 0, none⟩), .slice (some ⟨w.heap.size, 0, none⟩) 1 1] (w.alloc (.cells #[.int .u32 (x : Int)] 32)) fun e w' => (∃ v : Value, e = .returned (.tuple #[v, .int .i64 0])) ∧ Below w.heap.size w w' := by
  have B := nb w (.cells #[.int .u32 (x : Int)] 32)
  refine (levels_op (cap := 1) (s.below B) (hs1 w x) (fun i _ => Nat.lt_trans (Mdl.isNode_lt s.ok hx) (by decide)) (by omega)).mono ?_
  rintro e w' ⟨⟨_, g, ks, _, _, rfl, _⟩ | ⟨⟨i, hi, bad⟩, _⟩, B'⟩
  · exact ⟨⟨_, rfl⟩, Rf.below_far B B'⟩
  · exact absurd hx bad
theorem levels_one_bad (s : St w S F0 M) (hb : x < 4294967296) (hx : ¬ M.isNode x) : Calls Tryz.prog 19 #[.pointer (some ⟨S, 0, none⟩), .slice (some ⟨w.heap.size, 0, none⟩) 1 1] (w.alloc (.cells #[.int .u32 (x : Int)] 32)) fun e w' => e = .returned (.tuple #[.slice none 0 0, .int .i64 101]) ∧ Below w.heap.size w w' := by
  have B := nb w (.cells #[.int .u32 (x : Int)] 32)
  refine (levels_op (cap := 1) (s.below B) (hs1 w x) (fun i _ => hb) (by omega)).mono ?_
  rintro e w' ⟨⟨hN, _⟩ | ⟨_, rfl⟩, B'⟩
  · exact absurd (hN 0 (by omega)) hx
  · exact ⟨rfl, Rf.below_far B B'⟩
end
set_option maxRecDepth 100000 in
set_option maxHeartbeats 4000000 in
theorem raw_walk (x : Nat) (F : Nat → Bool) (W : World) (hx : x < 4294967296) :
    Calls Tryz.prog 4 #[.int .u32 (x : Int), tab F] W fun e w' => e = .returned (.bool true) ∧ Below W.heap.size W w' := by
  conv in #[Value.int .u32 (x : Int), tab F] => unfold tab
  go_enter Tryz.func4, Tryz.ntmps4
  go_upto_region 1 with fail
  have TF := IsTab.new W F
  have B3 := nb W (.cells #[.int .u64 (word F 0 : Int), .int .u64 (word F 1 : Int), .int .u64 (word F 2 : Int), .int .u64 (word F 3 : Int)] 24)
  generalize W.alloc (.cells #[.int .u64 (word F 0 : Int), .int .u64 (word F 1 : Int), .int .u64 (word F 2 : Int), .int .u64 (word F 3 : Int)] 24) = v3 at TF B3 ⊢
  have B3A : Aside (Below W.heap.size W v3) := B3
  clear B3
  generalize W.heap.size = bf at TF ⊢
  have Kk := nknown_any v3
  go_upto_region 3 with (first
    | (go_at_call 9; refine Kk.mono ?_; clear Kk; rintro e v4 ⟨rfl, b4⟩))
  have TF4 := kept TF b4
  have Kn : Calls Tryz.prog 10 #[.int .i64 8, .int .i64 100] v4 _ := new_x W v4 8 100 (by omega) (by omega) (by omega) (by omega) (Rf.below_far B3A.out b4)
  clear TF B3A b4
  go_upto_region 6 with (first
    | (go_at_call 10; refine Kn.mono ?_; clear Kn; rintro e w5 ⟨S, rfl, f5, x5, b5⟩))
  have TF5 := kept TF4 b5
  have K1 := make_x x5 (by omega) F
  clear TF4 b5 f5
  unfold tab at K1
  obtain ⟨y0, y1, y2, y3⟩ := TF5.copy
  go_upto_region 7 with (first
    | (go_at_call 12; refine K1.mono ?_; clear K1; rintro e w6 ⟨a, rfl, x6, u6⟩))
  clear y0 y1 y2 y3 TF5 x5 u6
  obtain ⟨F0, M, s, e1, e2, e3, q, B, f⟩ := x6
  obtain ⟨na, ta⟩ := q _ (.head _)
  have BA : Aside (Below W.heap.size W w6) := B
  have sA : Aside (∀ u, Below w6.heap.size w6 u → St u S F0 M) := fun u k => s.below k
  have naA : Aside (M.isNode a) := na
  have K1 := s_is s x hx
  clear e1 e2 e3 q f ta na B
  by_cases hn : M.isNode x
  · rw [Mdl.nodeB_true hn] at K1
    have C1 : Aside (∀ u, St u S F0 M → Calls Tryz.prog 13 #[.pointer (some ⟨S, 0, none⟩), .int .u32 (x : Int)] u fun e w' => (∃ v : Value, e = .returned (.tuple #[v, .int .i64 0])) ∧ Below u.heap.size u w') := fun u su => (count_op su hn).mono fun e w' h => ⟨⟨_, h.1⟩, h.2⟩
    have C2 : Aside (∀ u, St u S F0 M → Calls Tryz.prog 14 #[.pointer (some ⟨S, 0, none⟩), .int .u32 (x : Int)] u fun e w' => (∃ v : Value, e = .returned (.tuple #[v, .int .i64 0])) ∧ Below u.heap.size u w') := fun u su => (support_op su hn).mono fun e w' h => ⟨⟨_, h.1⟩, h.2⟩
    have C3 : Aside (∀ u, St u S F0 M → Calls Tryz.prog 15 #[.pointer (some ⟨S, 0, none⟩), .int .u32 (x : Int), .int .u8 3] u fun e w' => (∃ v : Value, e = .returned (.tuple #[v, .int .i64 0])) ∧ Below u.heap.size u w') := fun u su => by
      have q : Calls Tryz.prog 15 #[.pointer (some ⟨S, 0, none⟩), .int .u32 (x : Int), .int .u8 3] u _ := eval_op su hn 3 (by omega)
      exact q.mono fun e w' h => ⟨⟨_, h.1⟩, h.2⟩
    have C4 : Aside (∀ u, St u S F0 M → Calls Tryz.prog 16 #[.pointer (some ⟨S, 0, none⟩), .int .u32 (x : Int)] u fun e w' => (∃ v v' : Value, e = .returned (.tuple #[v, v', .int .i64 0])) ∧ Below u.heap.size u w') := fun u su => (one_op su hn).mono fun e w' h => ⟨⟨_, _, h.1⟩, h.2⟩
    have C5 : Aside (∀ u, St u S F0 M → _) := fun u su => size_two_ok su naA.out hn
    have C6 : Aside (∀ u, St u S F0 M → _) := fun u su => levels_one_ok su hn
    have K2 := C1.out w6 s
    clear hn s
    go_upto_region 13 with (first
      | (go_at_call 28; refine K1.mono ?_; clear K1; rintro e w6 ⟨rfl, rfl⟩)
      | (go_at_call 13; refine K2.mono ?_; clear K2; rintro e w7 ⟨⟨r1, rfl⟩, b7⟩; have K3 := C2.out w7 (sA.out w7 b7))
      | (go_at_call 14; refine K3.mono ?_; clear K3; rintro e w8 ⟨⟨r2, rfl⟩, b8⟩; have b8' := Rf.below_far b7 b8; have K4 := C3.out w8 (sA.out w8 b8'))
      | (go_at_call 15; refine K4.mono ?_; clear K4; rintro e w9 ⟨⟨r3, rfl⟩, b9⟩; have b9' := Rf.below_far b8' b9; have K5 := C4.out w9 (sA.out w9 b9'))
      | (go_at_call 16; refine K5.mono ?_; clear K5; rintro e w10 ⟨⟨r4, r5, rfl⟩, b10⟩; have b10' := Rf.below_far b9' b10))
    have K6 := C5.out w10 (sA.out w10 b10')
    clear b7 b8 b9 b8' b9' b10
    go_upto_region 14 with (first
      | (go_at_call 18; refine K6.mono ?_; clear K6; rintro e w11 ⟨⟨r6, rfl⟩, b11⟩))
    have b11' := Rf.below_far b10' b11
    have K7 := C6.out w11 (sA.out w11 b11')
    clear b10' b11
    go_wp2_with (first
      | (go_at_call 19; refine K7.mono ?_; clear K7; rintro e w12 ⟨⟨r7, rfl⟩, b12⟩))
    go_ret
    exact ⟨rfl, Rf.below_far BA.out (Rf.below_far b11' b12)⟩
  · rw [Mdl.nodeB_false hn] at K1
    have C1 : Aside (∀ u, St u S F0 M → _) := fun u su => count_bad su hx hn
    have K2 := C1.out w6 s
    have K3 := support_bad s hx hn
    have K4 : Calls Tryz.prog 15 #[.pointer (some ⟨S, 0, none⟩), .int .u32 (x : Int), .int .u8 3] w6 _ := eval_bad s 3 hx hn
    have K5 := one_bad s hx hn
    have K6 := size_two_bad s naA.out hx hn
    have C6 : Aside (∀ u, St u S F0 M → _) := fun u su => levels_one_bad su hx hn
    clear hn s C1
    go_upto_region 14 with (first
      | (go_at_call 28; refine K1.mono ?_; clear K1; rintro e w6 ⟨rfl, rfl⟩)
      | (go_at_call 13; refine K2.mono ?_; clear K2; rintro e w6 ⟨rfl, rfl⟩)
      | (go_at_call 14; refine K3.mono ?_; clear K3; rintro e w6 ⟨rfl, rfl⟩)
      | (go_at_call 15; refine K4.mono ?_; clear K4; rintro e w6 ⟨rfl, rfl⟩)
      | (go_at_call 16; refine K5.mono ?_; clear K5; rintro e w6 ⟨rfl, rfl⟩)
      | (go_at_call 18; refine K6.mono ?_; clear K6; rintro e w11 ⟨rfl, b11⟩))
    have K7 := C6.out w11 (sA.out w11 b11)
    go_wp2_with (first
      | (go_at_call 19; refine K7.mono ?_; clear K7; rintro e w12 ⟨rfl, b12⟩))
    go_ret
    exact ⟨rfl, Rf.below_far BA.out (Rf.below_far b11 b12)⟩
end Go.Proofs.YtdjbkpmokamkiaaGreat
