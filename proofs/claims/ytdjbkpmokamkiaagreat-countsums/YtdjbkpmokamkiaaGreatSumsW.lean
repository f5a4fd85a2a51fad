/-
  CountSums, walked.
-/
import Derived.Test.YtdjbkpmokamkiaaGreatCtK
namespace Go.Proofs.YtdjbkpmokamkiaaGreat
open Go Go.RowKit
open Rf (tab word IsTab countUpto)

theorem Sx.put {W w : World} {S n r b : Nat} {l : Kl} (h : Sx W w S n r l b) {k : Nat} {cs : Array Value} {t : TypeId} {fr : Nat × Nat} (hk : w.heap[k]? = some (.cells cs t fr)) (ht : t ≠ 96 ∧ t ≠ 122 ∧ t ≠ 176 ∧ t ≠ 22) (hW : W.heap.size ≤ k) (o : Nat) (v : Value) : Sx W (w.setCell ⟨k, o, none⟩ v) S n r l b := by
  obtain ⟨F, M, s, e1, e2, e3, q, B, f⟩ := h
  have nk := s.row hk ht
  exact ⟨F, M, s.kept fun x hx => Below.heap_setCell _ _ _ _ (fun e => nk (show F k from (show x = k from e) ▸ hx)), e1, e2, e3, q, B.setCell hW v, f⟩
def pick5 {α : Type} (a b c d e : α) (j : Nat) : α := if j = 0 then a else if j = 1 then b else if j = 2 then c else if j = 3 then d else e
theorem cnt_fN (F : Nat → Bool) (k : Nat) : countUpto F k + countUpto (fN F) k = k := cnt_not F k
theorem cnt_fAO (F G : Nat → Bool) (k : Nat) : countUpto (fA F G) k + countUpto (fO F G) k = countUpto F k + countUpto G k := cnt_both F G k
theorem cnt_pick (F G H I J : Nat → Bool) (k : Nat) : ∃ C : Nat → Nat, (∀ j, countUpto (pick5 F G H I J j) k = C j) ∧ C 0 = countUpto F k ∧ C 1 = countUpto G k ∧ C 2 = countUpto H k ∧ C 3 = countUpto I k ∧ C 4 = countUpto J k := ⟨fun j => countUpto (pick5 F G H I J j) k, fun _ => rfl, rfl, rfl, rfl, rfl, rfl⟩
theorem count_n {W w : World} {S n r b x N m : Nat} {l : Kl} {X : Nat → Bool} (hN : 2 ^ n = N) (h : Sx W w S n r l b) (hx : (x, X) ∈ l) (hm : countUpto X N = m) :
    Calls Tryz.prog 13 #[.pointer (some ⟨S, 0, none⟩), .int .u32 (x : Int)] w fun e w' => e = .returned (.tuple #[.int .u64 (m : Int), .int .i64 0]) ∧ Below w.heap.size w w' := by
  subst hm hN
  exact count_x h hx
theorem index5' : ∀ (a b c d e : Int) (w : World), (Instr.index 69 (.agg #[.int .u32 a, .int .u32 b, .int .u32 c, .int .u32 d, .int .u32 e]) (.int .i64 0)).run Tryz.prog w = .ok (.int .u32 a) w ∧ (Instr.index 69 (.agg #[.int .u32 a, .int .u32 b, .int .u32 c, .int .u32 d, .int .u32 e]) (.int .i64 1)).run Tryz.prog w = .ok (.int .u32 b) w ∧ (Instr.index 69 (.agg #[.int .u32 a, .int .u32 b, .int .u32 c, .int .u32 d, .int .u32 e]) (.int .i64 2)).run Tryz.prog w = .ok (.int .u32 c) w ∧ (Instr.index 69 (.agg #[.int .u32 a, .int .u32 b, .int .u32 c, .int .u32 d, .int .u32 e]) (.int .i64 3)).run Tryz.prog w = .ok (.int .u32 d) w ∧ (Instr.index 69 (.agg #[.int .u32 a, .int .u32 b, .int .u32 c, .int .u32 d, .int .u32 e]) (.int .i64 4)).run Tryz.prog w = .ok (.int .u32 e) w := fun _ _ _ _ _ _ => ⟨by kernel_rfl, by kernel_rfl, by kernel_rfl, by kernel_rfl, by kernel_rfl⟩
theorem index5 (a b c d e : Nat) (j : Nat) (hj : j < 5) (w : World) : (Instr.index 69 (.agg #[.int .u32 (a : Int), .int .u32 (b : Int), .int .u32 (c : Int), .int .u32 (d : Int), .int .u32 (e : Int)]) (.int .i64 (j : Int))).run Tryz.prog w = .ok (.int .u32 ((pick5 a b c d e j : Nat) : Int)) w := by
  obtain ⟨h0, h1, h2, h3, h4⟩ := index5' a b c d e w
  have : j = 0 ∨ j = 1 ∨ j = 2 ∨ j = 3 ∨ j = 4 := by omega
  rcases this with rfl | rfl | rfl | rfl | rfl
  · exact h0
  · exact h1
  · exact h2
  · exact h3
  · exact h4
set_option maxRecDepth 100000 in
set_option maxHeartbeats 4000000 in
theorem sums_walk (F G : Nat → Bool) (W : World) :
    Calls Tryz.prog 5 #[tab F, tab G] W fun e w' => e = .returned (.bool true) ∧ Below W.heap.size W w' := by
  have lW : Aside (∀ u : World, Below W.heap.size W u → W.heap.size ≤ u.heap.size) := fun u k => k.size
  conv in #[tab F, tab G] => unfold tab
  go_enter Tryz.func5, Tryz.ntmps5
  go_upto_region 1 with fail
  obtain ⟨TF, TG, B3⟩ := boxes2 W F G
  generalize (W.alloc (.cells #[.int .u64 (word F 0 : Int), .int .u64 (word F 1 : Int), .int .u64 (word F 2 : Int), .int .u64 (word F 3 : Int)] 24)).alloc (.cells #[.int .u64 (word G 0 : Int), .int .u64 (word G 1 : Int), .int .u64 (word G 2 : Int), .int .u64 (word G 3 : Int)] 24) = v3 at TF TG B3 ⊢
  have B3A : Aside (Below W.heap.size W v3) := B3
  clear B3
  generalize W.heap.size + 1 = bg at TG ⊢
  generalize W.heap.size = bf at TF ⊢
  have Kk := nknown_any v3
  go_upto_region 3 with (first
    | (go_at_call 9; refine Kk.mono ?_; clear Kk; rintro e v4 ⟨rfl, b4⟩))
  have TF4 := kept TF b4
  have TG4 := kept TG b4
  have Kn : Calls Tryz.prog 10 #[.int .i64 8, .int .i64 1000] v4 _ := new_x W v4 8 1000 (by omega) (by omega) (by omega) (by omega) (Rf.below_far B3A.out b4)
  clear TF TG B3A b4
  go_upto_region 6 with (first
    | (go_at_call 10; refine Kn.mono ?_; clear Kn; rintro e w5 ⟨S, rfl, f5, x5, b5⟩))
  have TF5 := kept TF4 b5
  have TG5 := kept TG4 b5
  have K1 := make_x x5 (by omega) F
  clear TF4 TG4 b5 f5
  unfold tab at K1
  obtain ⟨y0, y1, y2, y3⟩ := TF5.copy
  go_upto_region 7 with (first
    | (go_at_call 12; refine K1.mono ?_; clear K1; rintro e w6 ⟨a, rfl, x6, u6⟩))
  have TG6 := u6.tab TG5
  have K2 := make_x x6 (by omega) G
  clear y0 y1 y2 y3 TF5 TG5 x5 u6
  unfold tab at K2
  obtain ⟨y0, y1, y2, y3⟩ := TG6.copy
  go_upto_region 8 with (first
    | (go_at_call 12; refine K2.mono ?_; clear K2; rintro e w7 ⟨b, rfl, x7, u7⟩))
  clear y0 y1 y2 y3 TG6 x6 u7
  have K3 := not_x x7 (x := a) (X := F) (.tail _ (.head _)) 63 (by decide) (by decide)
  go_upto_region 13 with (first
    | (go_at_call 29; refine K3.mono ?_; clear K3; rintro e w8 ⟨n, rfl, x8, u8⟩; have K4 := and_x x8 (x := a) (X := F) (y := b) (Y := G) (.tail _ (.tail _ (.head _))) (.tail _ (.head _)) 63 (by decide) (by decide))
    | (go_at_call 30; refine K4.mono ?_; clear K4; rintro e w9 ⟨c, rfl, x9, u9⟩; have K5 := or_x x9 (x := a) (X := F) (y := b) (Y := G) (.tail _ (.tail _ (.tail _ (.head _)))) (.tail _ (.tail _ (.head _))) 63 (by decide) (by decide))
    | (go_at_call 31; refine K5.mono ?_; clear K5; rintro e w10 ⟨d, rfl, x10, u10⟩))
  clear x7 x8 x9 u8 u9 u10
  have mem : Aside (∀ j, j < 5 → (pick5 a n b c d j, pick5 F (fN F) G (fA F G) (fO F G) j) ∈ ((d, fO F G) :: (c, fA F G) :: (n, fN F) :: (b, G) :: (a, F) :: [(0, c0), (1, c1)])) := fun j hj => by
    have : j = 0 ∨ j = 1 ∨ j = 2 ∨ j = 3 ∨ j = 4 := by omega
    rcases this with rfl | rfl | rfl | rfl | rfl <;> simp [pick5]
  have E1 := cnt_fN F 256
  have E2 := cnt_fAO F G 256
  have L0 := cnt_le F 256
  have L1 := cnt_le (fN F) 256
  have L2 := cnt_le G 256
  have L3 := cnt_le (fA F G) 256
  have L4 := cnt_le (fO F G) 256
  obtain ⟨C, hC, e0, e1, e2, e3, e4⟩ := cnt_pick F (fN F) G (fA F G) (fO F G) 256
  have KC : Aside (∀ (u : World) (j : Nat), Sx W u S 8 1000 ((d, fO F G) :: (c, fA F G) :: (n, fN F) :: (b, G) :: (a, F) :: [(0, c0), (1, c1)]) (0 + 63 + 63 + 63 + 63 + 63) → j < 5 → Calls Tryz.prog 13 #[.pointer (some ⟨S, 0, none⟩), .int .u32 ((pick5 a n b c d j : Nat) : Int)] u fun e w' => e = .returned (.tuple #[.int .u64 (C j : Int), .int .i64 0]) ∧ Below u.heap.size u w') := fun u j h hj => count_n (n := 8) (N := 256) (by decide) h (mem.out j hj) (hC j)
  rw [← e0] at E1 E2 L0
  rw [← e1] at E1 L1
  rw [← e2] at E2 L2
  rw [← e3] at E2 L3
  rw [← e4] at E2 L4
  have sums : Aside (C 0 + C 1 = 256 ∧ C 3 + C 4 = C 0 + C 2 ∧ C 0 ≤ 256 ∧ C 2 ≤ 256) := ⟨E1, E2, L0, L2⟩
  clear hC e0 e1 e2 e3 e4 E1 E2 L0 L1 L2 L3 L4 mem
  have hix := index5 a n b c d
  have xA : Aside (Sx W w10 S 8 1000 ((d, fO F G) :: (c, fA F G) :: (n, fN F) :: (b, G) :: (a, F) :: [(0, c0), (1, c1)]) (0 + 63 + 63 + 63 + 63 + 63)) := x10
  clear x10
  go_upto_region 15 with fail
  have B11 := nb w10 (.cells #[.int .u64 0, .int .u64 0, .int .u64 0, .int .u64 0, .int .u64 0] 68)
  have x11 : Aside (Sx W (w10.alloc (.cells #[.int .u64 0, .int .u64 0, .int .u64 0, .int .u64 0, .int .u64 0] 68)) S 8 1000 ((d, fO F G) :: (c, fA F G) :: (n, fN F) :: (b, G) :: (a, F) :: [(0, c0), (1, c1)]) (0 + 63 + 63 + 63 + 63 + 63)) := xA.out.below B11
  have r11 : Aside ((w10.alloc (.cells #[.int .u64 0, .int .u64 0, .int .u64 0, .int .u64 0, .int .u64 0] 68)).rowIs w10.heap.size 68 5 (fun i => .int .u64 ((if i < 0 then C i else 0 : Nat) : Int))) := World.rowIs_alloc w10 _ _ _ fun i hi => by
    have : i = 0 ∨ i = 1 ∨ i = 2 ∨ i = 3 ∨ i = 4 := by simp at hi; omega
    rcases this with rfl | rfl | rfl | rfl | rfl <;> simp
  have gW : Aside (W.heap.size ≤ w10.heap.size) := lW.out _ xA.out.base
  clear B11 xA lW
  generalize w10.alloc (.cells #[.int .u64 0, .int .u64 0, .int .u64 0, .int .u64 0, .int .u64 0] 68) = w11 at x11 r11 ⊢
  generalize w10.heap.size = g at r11 gW ⊢
  go_loopg [86, 18, 19, 20, 21] 5 (fun gg s86 _ _ _ _ wr => ∃ j : Nat, j + gg = 5 ∧ s86 = .int .i64 (j : Int) ∧ Aside (Sx W wr S 8 1000 ((d, fO F G) :: (c, fA F G) :: (n, fN F) :: (b, G) :: (a, F) :: [(0, c0), (1, c1)]) (0 + 63 + 63 + 63 + 63 + 63)) ∧ Aside (wr.rowIs g 68 5 (fun i => .int .u64 ((if i < j then C i else 0 : Nat) : Int))))
  case atStart => exact ⟨0, rfl, rfl, x11, r11⟩
  case round =>
    clear x11 r11
    obtain ⟨j, hj, rfl, hX, hR⟩ := hrel
    have hJ : Aside (j + gk = 5) := hj
    by_cases hlt : j < 5
    · have hlt' : (j : Int) < 5 := by omega
      have ix := hix j hlt
      have K := KC.out wr j hX.out hlt
      generalize pick5 a n b c d j = h at ix K
      have fin : Aside (∀ u, Below wr.heap.size wr u → u.cell? ⟨g, j, none⟩ = some (.int .u64 ((if j < j then C j else 0 : Nat) : Int)) ∧ u.frozen? ⟨g, j, none⟩ = false ∧ Sx W (u.setCell ⟨g, j, none⟩ (.int .u64 (C j : Int))) S 8 1000 ((d, fO F G) :: (c, fA F G) :: (n, fN F) :: (b, G) :: (a, F) :: [(0, c0), (1, c1)]) (0 + 63 + 63 + 63 + 63 + 63) ∧ (u.setCell ⟨g, j, none⟩ (.int .u64 (C j : Int))).rowIs g 68 5 (fun i => .int .u64 ((if i < j + 1 then C i else 0 : Nat) : Int))) := fun u k => by
        have ru := hR.out.of_block (k.block g hR.out.lt)
        obtain ⟨cs, hcs, _⟩ := id ru
        refine ⟨ru.cell hlt, ru.frozen j, (hX.out.below k).put hcs (by decide) gW.out j _, (ru.set j (.int .u64 (C j : Int))).congr fun i _ => ?_⟩
        by_cases e : i = j
        · rw [if_pos e, if_pos (by omega), e]
        · rw [if_neg e]
          by_cases q : i < j
          · rw [if_pos q, if_pos (by omega)]
          · rw [if_neg q, if_neg (by omega)]
      have hltA : Aside (j < 5) := hlt
      clear hj hlt hix KC
      generalize C j = m at K fin
      go_wp2_with (first
        | (go_at_call 13; refine K.mono ?_; clear K; rintro e w12 ⟨rfl, b12⟩; obtain ⟨cl, fz, hx', hr'⟩ := fin.out w12 b12; have hxA : Aside (Sx W (w12.setCell ⟨g, j, none⟩ (.int .u64 (m : Int))) S 8 1000 ((d, fO F G) :: (c, fA F G) :: (n, fN F) :: (b, G) :: (a, F) :: [(0, c0), (1, c1)]) (0 + 63 + 63 + 63 + 63 + 63)) := hx'; have hrA : Aside ((w12.setCell ⟨g, j, none⟩ (.int .u64 (m : Int))).rowIs g 68 5 (fun i => .int .u64 ((if i < j + 1 then C i else 0 : Nat) : Int))) := hr'; clear hx' hr'))
      go_roundg (gk - 1)
      case measure => have := hJ.out; have := hltA.out; omega
      case rel =>
        have := hJ.out
        have := hltA.out
        exact ⟨j + 1, by omega, by go_num, hxA, hrA⟩
    · obtain rfl : j = 5 := by omega
      have hR5 : wr.rowIs g 68 5 (fun i => .int .u64 (C i : Int)) := hR.out.congr fun i hi => by rw [if_pos hi]
      have k0 := hR5.cell (i := 0) (by omega)
      have k1 := hR5.cell (i := 1) (by omega)
      have k2 := hR5.cell (i := 2) (by omega)
      have k3 := hR5.cell (i := 3) (by omega)
      have k4 := hR5.cell (i := 4) (by omega)
      obtain ⟨E1, E2, L0, L2⟩ := sums.out
      generalize C 0 = m0 at k0 E1 E2 L0
      generalize C 1 = m1 at k1 E1
      generalize C 2 = m2 at k2 E2 L2
      generalize C 3 = m3 at k3 E2
      generalize C 4 = m4 at k4 E2
      have F1 : IntKind.u64.wrap ((m0 : Int) + (m1 : Int)) = 256 := by rw [IntKind.wrap_u64]; omega
      have F2 : IntKind.u64.wrap ((m3 : Int) + (m4 : Int)) = ((m0 + m2 : Nat) : Int) := by rw [IntKind.wrap_u64]; omega
      have F3 : IntKind.u64.wrap ((m0 : Int) + (m2 : Int)) = ((m0 + m2 : Nat) : Int) := by rw [IntKind.wrap_u64]; omega
      generalize m0 + m2 = sm at F2 F3
      have G1 : (m0 : Int) + (m1 : Int) = 256 := by omega
      clear hj hlt hR hR5 sums hix KC E1 E2 L0 L2
      go_wp2_with fail
      go_ret
      exact ⟨by simp, hX.out.base⟩
end Go.Proofs.YtdjbkpmokamkiaaGreat
