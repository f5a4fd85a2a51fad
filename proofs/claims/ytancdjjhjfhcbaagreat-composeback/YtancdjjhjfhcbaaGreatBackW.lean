/-
  ComposeBack, walked.
-/
import Derived.Test.YtancdjjhjfhcbaaGreatCpB
namespace Go.Proofs.YtancdjjhjfhcbaaGreat
open Go Go.RowKit
open Rf (tab word IsTab fixAt IntsAt)

/-- The way back, so far. -/
def bkF (p : Nat → Nat) : Nat → Nat → Nat
  | 0, _ => 0
  | i + 1, u => if u = p i then i else bkF p i u
theorem bk_at {p : Nat → Nat} (h : PermN 8 p) : ∀ (i j : Nat), i ≤ 8 → j < i → bkF p i (p j) = j
  | 0, _, _, hj => by omega
  | i + 1, j, hi, hj => by
    show (if p j = p i then i else bkF p i (p j)) = j
    by_cases e : p j = p i
    · rw [if_pos e]
      exact (h.2 j i (by omega) (by omega) e).symm
    · rw [if_neg e]
      have : j ≠ i := fun q => e (by rw [q])
      exact bk_at h i j (by omega) (by omega)
theorem bk_lt (p : Nat → Nat) (u : Nat) : ∀ i, i ≤ 8 → bkF p i u < 8
  | 0, _ => by show 0 < 8; omega
  | i + 1, hi => by
    show (if u = p i then i else bkF p i u) < 8
    split
    · omega
    · exact bk_lt p u i (by omega)
theorem back_law {p q : Nat → Nat} (hp : ∀ i, i < 8 → p i < 8) (h : ∀ j, j < 8 → q (p j) = j) (F : Nat → Bool) : Eqt (sbF 8 (fun u => Rf.M (q u)) (sbF 8 (fun u => Rf.M (p u)) F)) F := fun x hx => by
  unfold sbF
  have h1 := sb_bit (fun u => Rf.M (q u)) hx 8 (by omega)
  have h2 := sb_bit (fun u => Rf.M (p u)) h1.1 8 (by omega)
  refine congrArg F (num_same h2.1 hx fun j hj => ?_)
  rw [h2.2, if_pos hj, ← Rf.M_bit, h1.2, if_pos (hp j hj), ← Rf.M_bit, h j hj]
theorem none_law (F : Nat → Bool) : Eqt (sbF 8 (fun u => Rf.M u) F) F := fun x hx => by
  unfold sbF
  have h1 := sb_bit (fun u => Rf.M u) hx 8 (by omega)
  refine congrArg F (num_same h1.1 hx fun j hj => ?_)
  rw [h1.2, if_pos hj, ← Rf.M_bit]
theorem ints_row {w : World} {g n : Nat} {Z : Nat → Int} (h : w.rowIs g 3 n (fun i => .int .i64 (Z i))) : IntsAt w (some ⟨g, 0, none⟩) n Z :=
  .inr ⟨g, 0, rfl, h.lt, fun i hi => by rw [Nat.zero_add]; exact h.cell hi⟩
theorem Out.row {w w' : World} (o : Out w w') {g n : Nat} {V : Nat → Value} (h : w.rowIs g 3 n V) : w'.rowIs g 3 n V := by
  obtain ⟨c, hb, hs, hc⟩ := h
  exact ⟨c, o g c _ _ hb (by decide), hs, hc⟩
theorem ints8_new (w : World) : (w.alloc (.cells #[.int .i64 0, .int .i64 1, .int .i64 2, .int .i64 3, .int .i64 4, .int .i64 5, .int .i64 6, .int .i64 7] 3)).rowIs w.heap.size 3 8 (fun i => .int .i64 ((i : Nat) : Int)) := by
  refine ⟨_, Go.Deep.blk_alloc_new _ _, rfl, fun i hi => ?_⟩
  have : i = 0 ∨ i = 1 ∨ i = 2 ∨ i = 3 ∨ i = 4 ∨ i = 5 ∨ i = 6 ∨ i = 7 := by omega
  rcases this with rfl | rfl | rfl | rfl | rfl | rfl | rfl | rfl <;> rfl
set_option maxRecDepth 100000 in
set_option maxHeartbeats 4000000 in
theorem back_walk (F : Nat → Bool) (ad : Option Addr) (n cap : Nat) (V : Nat → Nat) (W : World) (hV : BtAt W ad n V) (hb : ∀ i, i < n → V i < 256) :
    Calls Tryz.prog 6 #[tab F, .slice ad n cap] W fun e w' => e = .returned (.bool true) ∧ Below W.heap.size W w' := by
  conv in #[tab F, Value.slice ad n cap] => unfold tab
  go_enter Tryz.func6, Tryz.ntmps6
  go_upto_region 1 with fail
  have TF := IsTab.new W F
  have B3 := nb W (.cells #[.int .u64 (word F 0 : Int), .int .u64 (word F 1 : Int), .int .u64 (word F 2 : Int), .int .u64 (word F 3 : Int)] 24)
  generalize W.alloc (.cells #[.int .u64 (word F 0 : Int), .int .u64 (word F 1 : Int), .int .u64 (word F 2 : Int), .int .u64 (word F 3 : Int)] 24) = v3 at TF B3 ⊢
  have B3A : Aside (Below W.heap.size W v3) := B3
  have V0 : Aside (BtAt W ad n V) := hV
  have hbA : Aside (∀ i, i < n → V i < 256) := hb
  clear B3 hV hb
  generalize W.heap.size = bf at TF ⊢
  have Kk := cknown_any v3
  go_upto_region 3 with (first
    | (go_at_call 8; refine Kk.mono ?_; clear Kk; rintro e v4 ⟨rfl, b4⟩))
  have TF4 := kept TF b4
  have B4A : Aside (Below W.heap.size W v4) := Rf.below_far B3A.out b4
  have Kn : Calls Tryz.prog 9 #[.int .i64 8, .int .i64 32768] v4 _ := new_x W v4 8 32768 (by omega) (by omega) (by omega) (by omega) B4A.out
  clear TF B3A b4
  by_cases n8 : n ≤ 8
  rotate_left
  · have n8i : (8 : Int) < (n : Int) := by omega
    clear n8 Kn
    go_wp2_with fail
    go_ret
    exact ⟨rfl, B4A.out⟩
  have n8i : ¬ (8 : Int) < (n : Int) := by omega
  clear n8
  go_upto_region 8 with (first
    | (go_at_call 9; refine Kn.mono ?_; clear Kn; rintro e w5 ⟨S, rfl, f5, x5, b5⟩))
  have TF5 := kept TF4 b5
  have K1 := make_x x5 (by omega) F
  clear TF4 b5 f5
  unfold tab at K1
  obtain ⟨y0, y1, y2, y3⟩ := TF5.copy
  go_upto_region 9 with (first
    | (go_at_call 12; refine K1.mono ?_; clear K1; rintro e w6 ⟨a, rfl, x6, u6⟩))
  have K2 := perm_any w6 ad n cap V (V0.out.kept x6.base) hbA.out
  clear y0 y1 y2 y3 TF5 x5 u6 B4A
  go_upto_region 10 with (first
    | (go_at_call 24; refine K2.mono ?_; clear K2; rintro e w7 ⟨g, c, rfl, p, pm, o7, b7⟩))
  have x7 := x6.below b7
  have hg7 := (o7.block g ⟨_, rfl, rfl⟩)
  have gW : Aside (W.heap.size ≤ g ∧ g < w7.heap.size) := ⟨Nat.le_trans x6.base.size hg7.1, hg7.2⟩
  have kW : Aside (W.heap.size ≤ w7.heap.size) := x7.base.size
  have hmk : (Instr.makeSlice 25 (.int .i64 8) (.int .i64 8)).run Tryz.prog w7 = .ok (.slice (some ⟨w7.heap.size, 0, none⟩) 8 8) (w7.alloc (.cells (madeCells #[.int .i64 0] 8) 3)) := Od.make_ints 8 (by omega) w7
  have r8 : (w7.alloc (.cells (madeCells #[.int .i64 0] 8) 3)).rowIs w7.heap.size 3 8 (fun u => .int .i64 (bkF p 0 u : Int)) := World.rowIs_made w7 (.int .i64 0) 8 3
  have x8 := x7.below (nb w7 (.cells (madeCells #[.int .i64 0] 8) 3))
  have o8 := o7.new (.cells (madeCells #[.int .i64 0] 8) 3)
  have x8A : Aside (Sx W (w7.alloc (.cells (madeCells #[.int .i64 0] 8) 3)) S 8 32768 [(a, F), (0, c0), (1, c1)] (0 + 63)) := x8
  have o8A : Aside (OwnR 3 (w7.alloc (.cells (madeCells #[.int .i64 0] 8) 3)) w6.heap.size (some ⟨g, 0, none⟩) 8 c (fun i => .int .i64 (p i : Int))) := o8
  have r8A : Aside ((w7.alloc (.cells (madeCells #[.int .i64 0] 8) 3)).rowIs w7.heap.size 3 8 (fun u => .int .i64 (bkF p 0 u : Int))) := r8
  have pmA : Aside (PermN 8 p) := pm
  clear x6 b7 x7 o7 hg7 x8 o8 r8 pm
  go_upto_region 11 with fail
  clear hmk
  generalize w7.alloc (.cells (madeCells #[.int .i64 0] 8) 3) = w8 at x8A o8A r8A ⊢
  have gq : Aside (g ≠ w7.heap.size) := by have := gW.out.2; show g ≠ _; omega
  generalize w7.heap.size = q at r8A kW gW gq ⊢
  go_upto_region 12 with fail
  go_loopg [11] 8 (fun gn si wr => ∃ i : Nat, i + gn = 8 ∧ si = .int .i64 (i : Int) ∧ Aside (Sx W wr S 8 32768 [(a, F), (0, c0), (1, c1)] (0 + 63)) ∧ Aside (OwnR 3 wr w6.heap.size (some ⟨g, 0, none⟩) 8 c (fun i => .int .i64 (p i : Int))) ∧ Aside (wr.rowIs q 3 8 (fun u => .int .i64 (bkF p i u : Int))))
  case atStart => exact ⟨0, by omega, rfl, x8A, o8A, r8A⟩
  case round =>
    obtain ⟨i, hi, rfl, x9, o9, r9⟩ := hrel
    have hI : Aside (i + gk = 8) := hi
    clear hi x8A o8A r8A
    by_cases hi8 : i < 8
    · have hii : (i : Int) < 8 := by omega
      have iA : Aside (i < 8) := hi8
      have d0 := o9.out.cell hi8
      have p8 := pmA.out.1 i hi8
      have p8i : (p i : Int) < 8 := by omega
      have d1 := r9.out.cell p8
      have f1 := r9.out.frozen (p i)
      have r10 : Aside ((wr.setCell ⟨q, p i, none⟩ (.int .i64 (i : Int))).rowIs q 3 8 (fun u => .int .i64 (bkF p (i + 1) u : Int))) := (r9.out.set (p i) (.int .i64 (i : Int))).congr fun u _ => by
        show (if u = p i then Value.int .i64 (i : Int) else .int .i64 (bkF p i u : Int)) = .int .i64 ((if u = p i then i else bkF p i u : Nat) : Int)
        split <;> rfl
      have x10 : Aside (Sx W (wr.setCell ⟨q, p i, none⟩ (.int .i64 (i : Int))) S 8 32768 [(a, F), (0, c0), (1, c1)] (0 + 63)) := by
        obtain ⟨cs, hcs, _⟩ := r9.out
        exact x9.out.set hcs (by decide) kW.out _ _
      have o10 : Aside (OwnR 3 (wr.setCell ⟨q, p i, none⟩ (.int .i64 (i : Int))) w6.heap.size (some ⟨g, 0, none⟩) 8 c (fun i => .int .i64 (p i : Int))) := o9.out.kept fun b hb => by
        obtain ⟨ad', h1, h2⟩ := hb
        injection h1 with h1
        subst h1
        exact Below.heap_setCell _ _ _ _ (fun e => gq.out (show g = q from (show g = b from h2).trans (show b = q from e)))
      generalize p i = pi at d0 p8 p8i d1 f1 r10 x10 o10
      clear hi8 p8 r9 x9 o9
      go_wp2_with fail
      go_roundg (gk - 1)
      case measure => have := hI.out; have := iA.out; omega
      case rel =>
        have := hI.out
        have := iA.out
        exact ⟨i + 1, by omega, rfl, x10, o10, r10⟩
    · have ei : i = 8 := by have := hI.out; omega
      subst ei
      have hii : ¬ ((8 : Nat) : Int) < 8 := by omega
      clear hi8
      have x9' := x9.out
      have to9 : IntsAt wr (some ⟨g, 0, none⟩) 8 (fun i => (p i : Int)) := .inr ⟨g, 0, rfl, (o9.out.block g ⟨_, rfl, rfl⟩).2, fun i hi => by rw [Nat.zero_add]; exact o9.out.cell hi⟩
      have K3 := ren_x (cap := c) x9' (x := a) (X := F) (.head _) to9 (fun u hu => by have := pmA.out.1 u hu; omega) 63 (by decide) (by decide)
      have L1 : Aside (Eqt (sbF 8 (fun u => Rf.M ((bkF p 8 u : Nat) : Int).toNat) (sbF 8 (fun u => Rf.M ((p u : Nat) : Int).toNat) F)) F) := back_law (p := p) (q := bkF p 8) pmA.out.1 (fun j hj => bk_at pmA.out 8 j (by omega) hj) F
      have L2 : Aside (Eqt (sbF 8 (fun u => Rf.M ((u : Nat) : Int).toNat) F) F) := none_law F
      have bl : Aside (∀ u, bkF p 8 u < 8) := fun u => bk_lt p u 8 (by omega)
      generalize bkF p 8 = bk at r9 L1 bl
      clear to9
      go_upto_region 16 with (first
        | (go_at_call 17; refine K3.mono ?_; clear K3; rintro e w10 ⟨x, rfl, x10, u10⟩))
      have r10 := u10.row r9.out
      have K4 := ren_x (cap := 8) x10 (x := x) (X := sbF 8 (fun u => Rf.M ((p u : Nat) : Int).toNat) F) (.head _) (ints_row r10) (fun u _ => by have := bl.out u; omega) 63 (by decide) (by decide)
      clear x9 x9' o9 r9 u10
      go_upto_region 17 with (first
        | (go_at_call 17; refine K4.mono ?_; clear K4; rintro e w11 ⟨y, rfl, x11, u11⟩; have hy : y = a := x11.same (X := sbF 8 (fun u => Rf.M ((bk u : Nat) : Int).toNat) (sbF 8 (fun u => Rf.M ((p u : Nat) : Int).toNat) F)) (Y := F) (.head _) (.tail _ (.tail _ (.head _))) L1.out; subst y))
      have x12 := x11.below (nb w11 (.cells #[.int .i64 0, .int .i64 1, .int .i64 2, .int .i64 3, .int .i64 4, .int .i64 5, .int .i64 6, .int .i64 7] 3))
      have K5 := ren_x (cap := 8) x12 (x := a) (X := F) (.tail _ (.tail _ (.head _))) (ints_row (ints8_new w11)) (fun u hu => by omega) 63 (by decide) (by decide)
      clear x10 r10 u11 x11
      go_wp2_with (first
        | (go_at_call 17; refine K5.mono ?_; clear K5; rintro e w13 ⟨z, rfl, x13, u13⟩; have hz : z = a := x13.same (X := sbF 8 (fun u => Rf.M ((u : Nat) : Int).toNat) F) (Y := F) (.head _) (.tail _ (.tail _ (.tail _ (.head _)))) L2.out; subst z))
      go_ret
      exact ⟨rfl, x13.base⟩
end Go.Proofs.YtancdjjhjfhcbaaGreat
