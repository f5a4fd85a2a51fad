/-
  NodesOrder, walked.
-/
import Derived.Test.YtdmfbfbebcneeaaBaseG
import Derived.Test.YtdmfbfbebcneeaaLevelsW
namespace Go.Proofs.Ytdmfbfbebcneeaa
open Go Go.RowKit
open Rf (tab word same IsTab)

set_option maxHeartbeats 1000000 in
/-- Two rows of the same numbers are the same. -/
theorem ints_true {w : World} {p q n c d : Nat} {Z : Nat → Int} (hp : w.rowIs p 3 n (fun i => .int .i64 (Z i))) (hq : w.rowIs q 3 n (fun i => .int .i64 (Z i))) (hn : n ≤ 1000) :
    Calls Try.prog 31 #[.slice (some ⟨p, 0, none⟩) n c, .slice (some ⟨q, 0, none⟩) n d] w fun e w' => e = .returned (.bool true) ∧ Below w.heap.size w w' := by
  go_enter Try.func31, Try.ntmps31
  go_wp2_with fail
  go_loopg [4, 5] n (fun g s4 si wr => ∃ j : Nat, j + g = n ∧ s4 = .bool false ∧ si = .int .i64 (j : Int) ∧ Below w.heap.size w wr)
  case atStart => exact ⟨0, by omega, rfl, rfl, Below.refl _ _⟩
  case round =>
    obtain ⟨j, hj, rfl, rfl, hb⟩ := hrel
    have hJ : Aside (j + gk = n) := hj
    by_cases hlt : j < n
    · have hlt' : (j : Int) < (n : Int) := by omega
      have k1 : wr.cell? ⟨p, j, none⟩ = some (.int .i64 (Z j)) := by rw [hb.cell hp.lt]; exact hp.cell hlt
      have k2 : wr.cell? ⟨q, j, none⟩ = some (.int .i64 (Z j)) := by rw [hb.cell hq.lt]; exact hq.cell hlt
      generalize Z j = y at k1 k2
      clear hj
      go_wp2_with fail
      go_region
      go_wp2_with fail
      go_roundg (gk - 1)
      case measure => have := hJ.out; omega
      case rel =>
        have hj := hJ.out
        exact ⟨j + 1, by omega, rfl, by go_num, hb.drew⟩
    · obtain rfl : j = n := by omega
      clear hj
      go_wp2_with fail
      go_ret
      exact ⟨rfl, hb⟩

theorem lt8 {i : Nat} (h : i < 8) : i = 0 ∨ i = 1 ∨ i = 2 ∨ i = 3 ∨ i = 4 ∨ i = 5 ∨ i = 6 ∨ i = 7 := by omega
set_option maxRecDepth 100000 in
set_option maxHeartbeats 2000000 in
theorem order_walk (F : Nat → Bool) (z : Int) (W : World) (z0 : 0 ≤ z) :
    Calls Try.prog 7 #[tab F, .int .u8 z] W fun e w' => e = .returned (.bool true) ∧ Below W.heap.size W w' := by
  obtain ⟨k, hk⟩ : ∃ k : Nat, z % 7 = (k : Int) := ⟨(z % 7).toNat, by omega⟩
  have k6 : k + 1 < 8 := by omega
  have hz : Int.tmod z 7 = z % 7 := Int.tmod_eq_emod_of_nonneg z0
  have hz7 : Int.tmod z 7 = (k : Int) := hz.trans hk
  clear hz hk
  have hw8 : IntKind.u8.wrap (k : Int) = (k : Int) := by rw [IntKind.wrap_u8]; omega
  have hw64 : IntKind.i64.wrap (k : Int) = (k : Int) := by rw [IntKind.wrap_i64]; omega
  have oe := Mdl.empty_ok (n := 8) (room := 100) (by omega) (by omega)
  have dep : Aside (Dep (Mdl.empty 8 100) 0 F) := Dep.all oe rfl F
  have room0 : (Mdl.empty 8 100).up + (2 ^ ((Mdl.empty 8 100).n - 2) - 1) + 19 ≤ (Mdl.empty 8 100).room := by decide
  have room : Aside ((Mdl.empty 8 100).up + (2 ^ ((Mdl.empty 8 100).n - 2) - 1) + 19 ≤ (Mdl.empty 8 100).room) := room0
  clear room0
  conv in #[tab F, Value.int .u8 z] => unfold tab
  go_enter Try.func7, Try.ntmps7
  go_upto_region 1 with fail
  have TF := IsTab.new W F
  have B0 := (Below.refl _ W).alloc (Nat.le_refl _) (.cells #[.int .u64 (word F 0 : Int), .int .u64 (word F 1 : Int), .int .u64 (word F 2 : Int), .int .u64 (word F 3 : Int)] 46)
  generalize W.alloc (.cells #[.int .u64 (word F 0 : Int), .int .u64 (word F 1 : Int), .int .u64 (word F 2 : Int), .int .u64 (word F 3 : Int)] 46) = w4 at TF B0 ⊢
  have B0A : Aside (Below W.heap.size W w4) := B0
  generalize hB : W.heap.size = b at TF ⊢
  clear hB B0
  have K0 := known_any w4
  go_upto_region 6 with (first
    | (go_at_call 8; refine K0.mono ?_; clear K0; rintro e w1 ⟨rfl, b1⟩; have Kn : Calls Try.prog 9 #[.int .i64 8, .int .i64 100] w1 _ := s_new 8 100 w1 (by omega) (by omega) (by omega) (by omega))
    | (go_at_call 9; refine Kn.mono ?_; clear Kn; rintro e w2 ⟨S, F0, rfl, h2, b2, f2⟩))
  have T2 := kept (kept TF b1) b2
  have bl : b < w2.heap.size := T2.lt
  have Km := make_any h2 dep.out room.out
  unfold tab at Km
  obtain ⟨c0, c1, c2, c3⟩ := T2.copy
  clear dep room
  go_upto_region 7 with (first
    | (go_at_call 24; refine Km.mono ?_; clear Km; rintro e w3 ⟨x, M3, rfl, ⟨F3, s3, b3⟩, m3⟩))
  have Bw2 := Rf.below_far (Rf.below_far B0A.out b1) b2
  have hW1 : W.heap.size ≤ w1.heap.size := Nat.le_trans B0A.out.size b1.size
  have Bw3 : Below W.heap.size W w3 := Wf.far Bw2 b3 Bw2.size fun i hi => Nat.le_trans hW1 (f2 i hi)
  have T3 : IsTab w3 b F := (b3.block b T2.lt (h2.row T2 (by decide))).trans T2
  have n3 : Aside (M3.n = 8) := m3.grew.n
  have v3 : Aside (M3.v = Od.idn 8) := m3.grew.v
  have xn : M3.isNode x := m3.node
  have sm : Aside (same (M3.tbl x) F = true) := same_true m3.tbl
  have vl : Aside (∀ i, i < 8 → M3.v i < 8) := fun i hi => by have := s3.ok.vlt i (by rw [n3.out]; exact hi); rwa [n3.out] at this
  have Ko := s_order s3
  rw [n3.out] at Ko
  clear m3 b3 h2 T2 c0 c1 c2 c3 f2 b1 b2 Bw2 B0A hW1 TF bl
  go_upto_region 10 with (first
    | (go_at_call 21; refine Ko.mono ?_; clear Ko; rintro e w5 ⟨P, l, rfl, o5, b5, p5⟩; have Ks := Od.swap_in o5 (by omega) k k6 vl.out)
    | (go_at_call 30; refine Ks.mono ?_; clear Ks; rintro e w6 ⟨rfl, o6, v6⟩))
  have s5 := s3.below b5
  have T5 := kept T3 b5
  have s6 : St w6 S F3 M3 := s5.kept fun i hi => v6.block i (s5.lt i hi) (by have := s3.lt i hi; omega)
  have T6 : IsTab w6 b F := (v6.block b T5.lt (by have := T3.lt; omega)).trans T5
  have Bw5 := Rf.below_far Bw3 b5
  have Bw6 : Below W.heap.size W w6 := Bw5.trans ⟨v6.os, v6.tape, v6.output, v6.size, fun i hi => v6.block i (Nat.lt_of_lt_of_le hi Bw5.size) (by have := Bw3.size; omega)⟩
  have Ko := s_order s6
  rw [n3.out] at Ko
  clear o6 v6 o5 s5 T5 b5 p5 T3 s3 Bw3 Bw5
  go_wp2_with (first
    | (go_at_call 21; refine Ko.mono ?_; clear Ko; rintro e w7 ⟨P7, l7, rfl, o7, b7, p7⟩; have Ka := Od.all_any o7 (by omega))
    | (go_at_call 22; refine Ka.mono ?_; clear Ka; rw [v3.out]; rintro e w8 ⟨rfl, r8, b8⟩; have q8 := World.rowIs_alloc w8 #[.int .i64 0, .int .i64 1, .int .i64 2, .int .i64 3, .int .i64 4, .int .i64 5, .int .i64 6, .int .i64 7] 3 (fun i => .int .i64 (Od.idn 8 i : Int)) (fun i hi => by have hi8 : i < 8 := hi; have := lt8 hi8; rcases this with rfl | rfl | rfl | rfl | rfl | rfl | rfl | rfl <;> rfl); have B9 := Rf.below_far (Rf.below_far b7 b8) ((Below.refl _ w8).alloc (Nat.le_refl _) (.cells #[.int .i64 0, .int .i64 1, .int .i64 2, .int .i64 3, .int .i64 4, .int .i64 5, .int .i64 6, .int .i64 7] 3)); have Kt : Calls Try.prog 31 #[.slice (some ⟨w7.heap.size, 0, none⟩) 8 8, .slice (some ⟨w8.heap.size, 0, none⟩) 8 8] (w8.alloc (.cells #[.int .i64 0, .int .i64 1, .int .i64 2, .int .i64 3, .int .i64 4, .int .i64 5, .int .i64 6, .int .i64 7] 3)) _ := ints_true (n := 8) (r8.alloc _) q8 (by omega))
    | (go_at_call 31; refine Kt.mono ?_; clear Kt; rintro e w9 ⟨rfl, b9⟩; have B10 := Rf.below_far B9 b9; have Ki := isf_any (G := F) (s6.below B10) xn; rw [sm.out] at Ki; unfold tab at Ki; obtain ⟨d0, d1, d2, d3⟩ := (kept T6 B10).copy)
    | (go_at_call 32; refine Ki.mono ?_; clear Ki; rintro e w11 ⟨rfl, b11⟩))
  go_ret
  exact ⟨rfl, Rf.below_far (Rf.below_far Bw6 B10) b11⟩
end Go.Proofs.Ytdmfbfbebcneeaa
