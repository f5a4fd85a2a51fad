/-
  MarkTwice, walked.
-/
import Derived.Test.YtlmbofbdncgaiaaGreatMkL
namespace Go.Proofs.YtlmbofbdncgaiaaGreat.Mk
open Go Go.RowKit
open Rf (tab word IsTab)

set_option maxRecDepth 100000 in
set_option maxHeartbeats 4000000 in
theorem twice_walk (F G H : Nat → Bool) (W : World) :
    Calls Tryz.prog 5 #[tab F, tab G, tab H] W fun e w' => e = .returned (.bool true) ∧ Below W.heap.size W w' := by
  conv in #[tab F, tab G, tab H] => unfold tab
  go_enter Tryz.func5, Tryz.ntmps5
  go_upto_region 1 with fail
  obtain ⟨TF, TG, TH, B3⟩ := boxes3 W F G H
  unfold fo at TF TG TH B3
  generalize ((W.alloc (.cells #[.int .u64 (word F 0 : Int), .int .u64 (word F 1 : Int), .int .u64 (word F 2 : Int), .int .u64 (word F 3 : Int)] 24)).alloc (.cells #[.int .u64 (word G 0 : Int), .int .u64 (word G 1 : Int), .int .u64 (word G 2 : Int), .int .u64 (word G 3 : Int)] 24)).alloc (.cells #[.int .u64 (word H 0 : Int), .int .u64 (word H 1 : Int), .int .u64 (word H 2 : Int), .int .u64 (word H 3 : Int)] 24) = w3 at TF TG TH B3 ⊢
  have B3A : Aside (Below W.heap.size W w3) := B3
  clear B3
  generalize W.heap.size + 1 + 1 = bh at TH ⊢
  generalize W.heap.size + 1 = bg at TG ⊢
  generalize hbf : W.heap.size = bf at TF ⊢
  clear hbf
  have Kk := known_any w3
  go_upto_region 3 with (first
    | (go_at_call 8; refine Kk.mono ?_; clear Kk; rintro e w4 ⟨rfl, b4⟩))
  have TF4 := kept TF b4
  have TG4 := kept TG b4
  have TH4 := kept TH b4
  have B4A : Aside (Below W.heap.size W w4) := Rf.below_far B3A.out b4
  clear TF TG TH B3A b4
  have Kn : Calls Tryz.prog 9 #[.int .i64 8, .int .i64 400] w4 _ := new_x W w4 8 400 (by omega) (by omega) (by omega) (by omega) B4A.out
  go_upto_region 6 with (first
    | (go_at_call 9; refine Kn.mono ?_; clear Kn; rintro e w5 ⟨S, rfl, f5, x5, b5⟩))
  have TF5 := kept TF4 b5
  have TG5 := kept TG4 b5
  have TH5 := kept TH4 b5
  have K1 := make_x x5 (by omega) F
  clear TF4 TG4 TH4 b5 B4A f5
  unfold tab at K1
  obtain ⟨y0, y1, y2, y3⟩ := TF5.copy
  go_upto_region 7 with (first
    | (go_at_call 11; refine K1.mono ?_; clear K1; rintro e w6 ⟨a, rfl, x6, u6⟩))
  have TG6 := Out.tab u6 TG5
  have TH6 := Out.tab u6 TH5
  have K2 := make_x x6 (by omega) G
  clear y0 y1 y2 y3 TF5 TG5 TH5 x5 u6
  unfold tab at K2
  obtain ⟨y0, y1, y2, y3⟩ := TG6.copy
  go_upto_region 8 with (first
    | (go_at_call 11; refine K2.mono ?_; clear K2; rintro e w7 ⟨b, rfl, x7, u7⟩))
  have TH7 := Out.tab u7 TH6
  have K3 := make_x x7 (by omega) H
  clear y0 y1 y2 y3 TG6 TH6 x6 u7
  unfold tab at K3
  obtain ⟨y0, y1, y2, y3⟩ := TH7.copy
  go_upto_region 9 with (first
    | (go_at_call 11; refine K3.mono ?_; clear K3; rintro e w8 ⟨c, rfl, x8, u8⟩))
  obtain ⟨Fs, M, s8, n8, r8, up8, ⟨na, _⟩, ⟨nb', _⟩, ⟨nc, _⟩, B8, f8⟩ := St3.of x8
  clear y0 y1 y2 y3 TH7 x7 u8 x8 nb' up8
  have ha := lt32 s8.ok na
  have hlen : M.hs.length ≤ 400 := by have := s8.ok.len; omega
  clear n8 r8
  have oA : Aside M.Ok := s8.ok
  have naA : Aside (M.isNode a) := na
  have ncA : Aside (M.isNode c) := nc
  clear na nc
  have s9 := s8.new (.cells #[.int .u32 (c : Int), .int .u32 (a : Int)] 32)
  have K4 := reach_yes (cap := 2) s9 (hs_two w8 c a) (at2_yes (P := fun x => M.isNode x) ncA.out naA.out) (by omega)
  have N8 : Below w8.heap.size w8 (w8.alloc (.cells #[.int .u32 (c : Int), .int .u32 (a : Int)] 32)) := nb w8 _
  have B9A : Aside (Below W.heap.size W (w8.alloc (.cells #[.int .u32 (c : Int), .int .u32 (a : Int)] 32))) := Rf.below_far B8 N8
  have fA : Aside (∀ k, Fs k → W.heap.size ≤ k) := f8
  clear B8 f8 N8 s8
  go_upto_region 10 with (first
    | (go_at_call 14; refine K4.mono ?_; clear K4; rintro e w10 ⟨ad5, cap5, xs, rfl, r5, u5, o5, b5⟩; have r5A : Aside (Rch M (at2 c a) 2 xs ∧ xs.Pairwise (· < ·)) := ⟨r5, u5⟩; have s10 := s9.below b5; clear r5 u5 o5))
  have B10A : Aside (Below W.heap.size W w10) := Rf.below_far B9A.out b5
  clear B9A b5 s9
  have KL := s_len s10
  obtain ⟨m, hm⟩ : ∃ m, M.hs.length = m := ⟨_, rfl⟩
  rw [hm] at KL hlen
  have hmA : Aside (M.hs.length = m) := hm
  have hxs : Aside (xs.length ≤ m) := by
    have := nodup_lenN xs M.hs r5A.out.1.once r5A.out.1.inn
    show _ ≤ _
    omega
  clear hm
  go_upto_region 11 with (first
    | (go_at_call 13; refine KL.mono ?_; clear KL; rintro e w11 ⟨rfl, q, rfl⟩))
  have s11 := s10.drewN q
  have B11 : Below W.heap.size W (w10.drewN q) := ⟨B10A.out.os, B10A.out.tape, B10A.out.output, B10A.out.size, B10A.out.block⟩
  clear s10 B10A
  generalize w10.drewN q = w11 at s11 B11 ⊢
  have s12 := s11.new (.cells #[.int .u32 (a : Int), .int .u32 (c : Int), .int .u32 ((0 : Nat) : Int)] 32)
  have K5 := collect_yes (cap := 3) s12 (hs_three w11 a c 0) (at3_yes (P := fun x => M.isNode x) naA.out ncA.out (.inl (by omega))) (by omega)
  have N11 : Below w11.heap.size w11 (w11.alloc (.cells #[.int .u32 (a : Int), .int .u32 (c : Int), .int .u32 ((0 : Nat) : Int)] 32)) := nb w11 _
  rw [show ((0 : Nat) : Int) = 0 from rfl] at s12 K5 N11
  have B12A : Aside (Below W.heap.size W (w11.alloc (.cells #[.int .u32 (a : Int), .int .u32 (c : Int), .int .u32 0] 32))) := Rf.below_far B11 N11
  clear B11 N11 s11
  rw [hmA.out] at K5
  go_upto_region 12 with (first
    | (go_at_call 19; refine K5.mono ?_; clear K5; rintro e w13 ⟨ys, F13, rfl, r6, u6, s13, g13⟩; obtain rfl : ys = xs := tw1 oA.out r5A.out.1 r5A.out.2 r6 u6; clear r6 u6))
  have B13 : Aside (Below W.heap.size W w13) := Wf.far B12A.out g13 B12A.out.size fA.out
  have f13 : Aside (∀ k, F13 k → W.heap.size ≤ k) := g13.after B12A.out.size fA.out
  clear B12A fA g13 s12
  have s14 := s13.new (.cells #[.int .u32 (c : Int), .int .u32 (a : Int)] 32)
  have K6 := collect_yes (cap := 2) s14 (hs_two w13 c a) (at2_yes (P := fun x => (only M ys).isNode x) (r5A.out.1.top 0 (by omega)) (r5A.out.1.top 1 (by omega))) (by omega)
  have N13 : Below w13.heap.size w13 (w13.alloc (.cells #[.int .u32 (c : Int), .int .u32 (a : Int)] 32)) := nb w13 _
  have B14A : Aside (Below W.heap.size W (w13.alloc (.cells #[.int .u32 (c : Int), .int .u32 (a : Int)] 32))) := Rf.below_far B13.out N13
  clear N13 s13 B13
  go_upto_region 13 with (first
    | (go_at_call 19; refine K6.mono ?_; clear K6; rintro e w15 ⟨zs, F15, rfl, r7, u7, s15, g15⟩; obtain rfl : zs = ys := tw2 oA.out r5A.out.1 r5A.out.2 r7 u7; rw [show ((only M zs).hs.length : Int) - (zs.length : Int) = 0 from Int.sub_self _]; clear r7 u7))
  have B15 : Below W.heap.size W w15 := Wf.far B14A.out g15 B14A.out.size f13.out
  have f15 : ∀ k, F15 k → W.heap.size ≤ k := g15.after B14A.out.size f13.out
  clear B14A f13 g15 s14
  have K7 := collect_yes (cap := 0) (H := fun _ => 0) s15 (HsAt.zero w15 none _) (fun i hi => absurd hi (Nat.not_lt_zero _)) (by omega)
  have B15A : Aside (Below W.heap.size W w15 ∧ ∀ k, F15 k → W.heap.size ≤ k) := ⟨B15, f15⟩
  clear B15 f15 s15
  go_upto_region 14 with (first
    | (go_at_call 19; refine K7.mono ?_; clear K7; rintro e w16 ⟨ts, F16, rfl, r8, u8, s16, g16⟩; obtain rfl : ts = [] := r8.none; rw [show ((only (only M zs) zs).hs.length : Int) - (([] : List Nat).length : Int) = (zs.length : Int) from Int.sub_zero _]; clear r8 u8))
  have B16A : Aside (Below W.heap.size W w16) := Wf.far B15A.out.1 g16 B15A.out.1.size B15A.out.2
  clear B15A g16
  have hxl : zs.length ≤ m := hxs.out
  clear r5A oA naA ncA hmA hxs
  obtain ⟨M4, hM4⟩ : ∃ M4, only (only (only M zs) zs) [] = M4 := ⟨_, rfl⟩
  have h4 : Aside (∀ x, M4.isNode x ↔ x < 2) := fun x => by rw [← hM4]; exact ⟨fun h => h.resolve_right (by rintro h; cases h), .inl⟩
  have l4 : M4.hs.length = 0 := by rw [← hM4]; rfl
  rw [hM4] at s16
  clear hM4
  generalize zs.length = x at hxl ⊢
  have hw : IntKind.i64.wrap ((m : Int) - (x : Int)) = (m : Int) - (x : Int) := by rw [IntKind.wrap_i64]; omega
  have KL := s_len s16
  rw [l4] at KL
  rw [show ((0 : Nat) : Int) = 0 from rfl] at KL
  have KI : Aside (∀ q, Calls Tryz.prog 24 #[.pointer (some ⟨S, 0, none⟩), .int .u32 (a : Int)] (w16.drewN q) fun e w' => e = .returned (.bool (M4.nodeB a)) ∧ w' = w16.drewN q) := fun q => s_is (s16.drewN q) a ha
  clear s16 l4
  by_cases a2 : a < 2
  · rw [Mdl.nodeB_true ((h4.out a).2 a2)] at KI
    have ha1 : ¬ (1 : Int) < (a : Int) := by omega
    clear h4 a2
    go_wp2_with (first
      | (go_at_call 13; refine KL.mono ?_; clear KL; rintro e w ⟨rfl, q2, rfl⟩)
      | (go_at_call 24; refine (KI.out _).mono ?_; clear KI; rintro e w ⟨rfl, e⟩; subst w))
    go_ret
    refine ⟨?_, B16A.out.os, B16A.out.tape, B16A.out.output, B16A.out.size, B16A.out.block⟩
    show Ending.returned (.bool (!decide ((1 : Int) < (a : Int)))) = _
    rw [decide_eq_false (by omega)]
    rfl
  · rw [Mdl.nodeB_false (fun q => a2 ((h4.out a).1 q))] at KI
    have ha1 : (1 : Int) < (a : Int) := by omega
    clear h4 a2
    go_wp2_with (first
      | (go_at_call 13; refine KL.mono ?_; clear KL; rintro e w ⟨rfl, q2, rfl⟩)
      | (go_at_call 24; refine (KI.out _).mono ?_; clear KI; rintro e w ⟨rfl, e⟩; subst w))
    go_ret
    refine ⟨?_, B16A.out.os, B16A.out.tape, B16A.out.output, B16A.out.size, B16A.out.block⟩
    rfl
end Go.Proofs.YtlmbofbdncgaiaaGreat.Mk
