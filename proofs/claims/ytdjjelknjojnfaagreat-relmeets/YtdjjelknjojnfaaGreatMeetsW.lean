/-
  RelMeets, walked.
-/
import Derived.Test.YtdjjelknjojnfaaGreatRlW
namespace Go.Proofs.YtdjjelknjojnfaaGreat
open Go Go.RowKit
open Rf (tab word IsTab halfN nextF prevF)

theorem bud6 {X Y : Nat → Bool} : Bud 6 15 64 X Y := .inl ⟨by decide, by decide⟩
theorem nx_c {X Y : Nat → Bool} : Cur (nextF X Y) := nx_cur X Y
theorem boxesL (W : World) (P Q R : Nat → Bool) : IsTab (((W.alloc (.cells #[.int .u64 (word P 0 : Int), .int .u64 (word P 1 : Int), .int .u64 (word P 2 : Int), .int .u64 (word P 3 : Int)] 42)).alloc (.cells #[.int .u64 (word Q 0 : Int), .int .u64 (word Q 1 : Int), .int .u64 (word Q 2 : Int), .int .u64 (word Q 3 : Int)] 42)).alloc (.cells #[.int .u64 (word R 0 : Int), .int .u64 (word R 1 : Int), .int .u64 (word R 2 : Int), .int .u64 (word R 3 : Int)] 42)) (W.heap.size) P ∧ IsTab (((W.alloc (.cells #[.int .u64 (word P 0 : Int), .int .u64 (word P 1 : Int), .int .u64 (word P 2 : Int), .int .u64 (word P 3 : Int)] 42)).alloc (.cells #[.int .u64 (word Q 0 : Int), .int .u64 (word Q 1 : Int), .int .u64 (word Q 2 : Int), .int .u64 (word Q 3 : Int)] 42)).alloc (.cells #[.int .u64 (word R 0 : Int), .int .u64 (word R 1 : Int), .int .u64 (word R 2 : Int), .int .u64 (word R 3 : Int)] 42)) (W.heap.size + 1) Q ∧ IsTab (((W.alloc (.cells #[.int .u64 (word P 0 : Int), .int .u64 (word P 1 : Int), .int .u64 (word P 2 : Int), .int .u64 (word P 3 : Int)] 42)).alloc (.cells #[.int .u64 (word Q 0 : Int), .int .u64 (word Q 1 : Int), .int .u64 (word Q 2 : Int), .int .u64 (word Q 3 : Int)] 42)).alloc (.cells #[.int .u64 (word R 0 : Int), .int .u64 (word R 1 : Int), .int .u64 (word R 2 : Int), .int .u64 (word R 3 : Int)] 42)) (W.heap.size + 1 + 1) R ∧ Below W.heap.size W (((W.alloc (.cells #[.int .u64 (word P 0 : Int), .int .u64 (word P 1 : Int), .int .u64 (word P 2 : Int), .int .u64 (word P 3 : Int)] 42)).alloc (.cells #[.int .u64 (word Q 0 : Int), .int .u64 (word Q 1 : Int), .int .u64 (word Q 2 : Int), .int .u64 (word Q 3 : Int)] 42)).alloc (.cells #[.int .u64 (word R 0 : Int), .int .u64 (word R 1 : Int), .int .u64 (word R 2 : Int), .int .u64 (word R 3 : Int)] 42)) := by
  refine ⟨?_, ?_, ?_, ?_⟩
  · exact ((IsTab.new W P).alloc _).alloc _
  · exact (IsTab.newAt (by simp) Q).alloc _
  · exact IsTab.newAt (by simp) R
  · exact (((Below.refl _ W).alloc (Nat.le_refl _) _).alloc (by simp <;> omega) _).alloc (by simp <;> omega) _
set_option maxRecDepth 100000 in
set_option maxHeartbeats 8000000 in
theorem meets_walk (P Q R : Nat → Bool) (W : World) :
    Calls Tryz.prog 8 #[tab P, tab Q, tab R] W fun e w' => e = .returned (.bool true) ∧ Below W.heap.size W w' := by
  conv in #[tab P, tab Q, tab R] => unfold tab
  go_enter Tryz.func8, Tryz.ntmps8
  go_upto_region 1 with fail
  obtain ⟨TP, TQ, TR, B3⟩ := boxesL W P Q R
  generalize ((W.alloc (.cells #[.int .u64 (word P 0 : Int), .int .u64 (word P 1 : Int), .int .u64 (word P 2 : Int), .int .u64 (word P 3 : Int)] 42)).alloc (.cells #[.int .u64 (word Q 0 : Int), .int .u64 (word Q 1 : Int), .int .u64 (word Q 2 : Int), .int .u64 (word Q 3 : Int)] 42)).alloc (.cells #[.int .u64 (word R 0 : Int), .int .u64 (word R 1 : Int), .int .u64 (word R 2 : Int), .int .u64 (word R 3 : Int)] 42) = v3 at TP TQ TR B3 ⊢
  have B3A : Aside (Below W.heap.size W v3) := B3
  clear B3
  generalize W.heap.size + 1 + 1 = q2 at TR ⊢
  generalize W.heap.size + 1 = q1 at TQ ⊢
  generalize W.heap.size = q0 at TP ⊢
  have Kk := rknown_any v3
  go_upto_region 3 with (first
    | (go_at_call 9; refine Kk.mono ?_; clear Kk; rintro e v4 ⟨rfl, b4⟩))
  have B4A : Aside (Below W.heap.size W v4) := Rf.below_far B3A.out b4
  have UP := kept TP b4
  have UQ := kept TQ b4
  have UR := kept TR b4
  obtain ⟨a00, a01, a02, a03⟩ := UP.copy
  obtain ⟨a10, a11, a12, a13⟩ := UQ.copy
  obtain ⟨a20, a21, a22, a23⟩ := UR.copy
  have KW := world_any P Q R R v4
  unfold tab at KW
  clear TP TQ TR B3A b4 UP UQ UR
  go_upto_region 6 with (first
    | (go_at_call 32; refine KW.mono ?_; clear KW; rintro e v5 ⟨S, p, q, r, t, rfl, wd, b5⟩))
  obtain ⟨FP, FQ, FR, FT, cP, cQ, x5⟩ := wd
  have cPA : Aside (Cur FP) := cP
  have cQA : Aside (Cur FQ) := cQ
  clear cP cQ b5 a00 a01 a02 a03 a10 a11 a12 a13 a20 a21 a22 a23
  have B6 := nb v5 (.cells #[.int .u32 (p : Int), .int .u32 (q : Int), .int .u32 (r : Int), .int .u32 (t : Int)] 59)
  have x6 := x5.below B6
  have i6 : IsH4 (v5.alloc (.cells #[.int .u32 (p : Int), .int .u32 (q : Int), .int .u32 (r : Int), .int .u32 (t : Int)] 59)) v5.heap.size p q r t := Go.Deep.blk_alloc_new _ _
  clear B6 x5
  generalize v5.alloc (.cells #[.int .u32 (p : Int), .int .u32 (q : Int), .int .u32 (r : Int), .int .u32 (t : Int)] 59) = v6 at x6 i6 ⊢
  generalize v5.heap.size = hb at i6 ⊢
  have KM := must_any
  have x6d := x6.below ((Below.refl _ v6).drew)
  have i6d : IsH4 v6.drew hb p q r t := i6
  clear x6 i6
  have x6 := x6d
  have i6 := i6d
  clear x6d i6d
  have c6 := i6.cells
  have C6 : Calls Tryz.prog 23 #[.pointer (some ⟨S, 0, none⟩), .int .u32 (p : Int), .int .u32 (r : Int)] _ _ := next_x x6 (x := p) (X := FP) (y := r) (Y := FR) (by decide) cPA.out (.tail _ (.tail _ (.tail _ (.head _)))) (.tail _ (.head _)) bud6 (by decide)
  go_region_held3 (fun u => u.cell? ⟨hb, 0, none⟩ = some (.int .u32 (p : Int)) ∧ u.cell? ⟨hb, 1, none⟩ = some (.int .u32 (q : Int)) ∧ u.cell? ⟨hb, 2, none⟩ = some (.int .u32 (r : Int)) ∧ u.cell? ⟨hb, 3, none⟩ = some (.int .u32 (t : Int))) (first | assumption) (first
    | (go_at_call 11; refine (KM _ _).mono ?_; rintro e wm ⟨rfl, em⟩; subst wm)
    | (go_at_call 23; refine C6.mono ?_; clear C6; rintro e v7 ⟨n, rfl, x7, u7⟩; have i7 := i6.out u7; have c7 := i7.cells; clear i6 c6 u7 x6; have C7 : Calls Tryz.prog 24 #[.pointer (some ⟨S, 0, none⟩), .int .u32 (q : Int), .int .u32 (r : Int)] _ _ := prev_x x7 (x := q) (X := FQ) (y := r) (Y := FR) (by decide) cQA.out (.tail _ (.tail _ (.tail _ (.head _)))) (.tail _ (.tail _ (.head _))) bud6 (by decide))
    | (go_at_call 24; refine C7.mono ?_; clear C7; rintro e v8 ⟨m, rfl, x8, u8⟩; have i8 := i7.out u8; have c8 := i8.cells; clear i7 c7 u8 x7))
  go_upto_region 7 with fail
  have x8d := x8.below ((Below.refl _ v8).drew)
  have i8d : IsH4 v8.drew hb p q r t := i8
  clear x8 i8
  have x8 := x8d
  have i8 := i8d
  clear x8d i8d
  have c8 := i8.cells
  have C8 : Calls Tryz.prog 33 #[.pointer (some ⟨S, 0, none⟩), .int .u32 (n : Int), .int .u32 (q : Int)] _ _ := and_x x8 (x := n) (X := (nextF FP FR)) (y := q) (Y := FQ) (.tail _ (.head _)) (.tail _ (.tail _ (.tail _ (.tail _ (.head _))))) 15 (by decide) (by decide)
  go_region_held3 (fun u => u.cell? ⟨hb, 0, none⟩ = some (.int .u32 (p : Int)) ∧ u.cell? ⟨hb, 1, none⟩ = some (.int .u32 (q : Int)) ∧ u.cell? ⟨hb, 2, none⟩ = some (.int .u32 (r : Int)) ∧ u.cell? ⟨hb, 3, none⟩ = some (.int .u32 (t : Int))) (first | assumption) (first
    | (go_at_call 11; refine (KM _ _).mono ?_; rintro e wm ⟨rfl, em⟩; subst wm)
    | (go_at_call 33; refine C8.mono ?_; clear C8; rintro e v9 ⟨e1, rfl, x9, u9⟩; have i9 := i8.out u9; have c9 := i9.cells; clear i8 c8 u9 x8; have C9 : Calls Tryz.prog 33 #[.pointer (some ⟨S, 0, none⟩), .int .u32 (m : Int), .int .u32 (p : Int)] _ _ := and_x x9 (x := m) (X := (prevF FQ FR)) (y := p) (Y := FP) (.tail _ (.head _)) (.tail _ (.tail _ (.tail _ (.tail _ (.tail _ (.tail _ (.head _))))))) 15 (by decide) (by decide))
    | (go_at_call 33; refine C9.mono ?_; clear C9; rintro e v10 ⟨e2, rfl, x10, u10⟩; have i10 := i9.out u10; have c10 := i10.cells; clear i9 c9 u10 x9))
  have hz1 := x10.one (x := e1) (y := 0) (X := (fA (nextF FP FR) FQ)) (Y := c0) (.tail _ (.head _)) (.tail _ (.tail _ (.tail _ (.tail _ (.tail _ (.tail _ (.tail _ (.tail _ (.head _)))))))))
  have hz2 := x10.one (x := e2) (y := 0) (X := (fA (prevF FQ FR) FP)) (Y := c0) (.head _) (.tail _ (.tail _ (.tail _ (.tail _ (.tail _ (.tail _ (.tail _ (.tail _ (.head _)))))))))
  have hm : e1 = 0 ↔ e2 = 0 := by rw [hz1, hz2]; exact meets cPA.out cQA.out
  have bA : Aside (Below W.heap.size W v10) := Rf.below_far B4A.out x10.base
  have hmA : Aside (e1 = 0 ↔ e2 = 0) := hm
  clear hz1 hz2 hm x10 i10 c10
  go_wp2_with fail
  go_ret
  have hm := hmA.out
  refine ⟨?_, bA.out⟩
  by_cases c : e1 = 0
  · have d := hm.1 c
    subst c d
    rfl
  · have d : ¬ e2 = 0 := fun q => c (hm.2 q)
    have c' : ¬ (e1 : Int) = 0 := by omega
    have d' : ¬ (e2 : Int) = 0 := by omega
    have a1 : ((e1 : Int) != 0) = true := bne_iff_ne.2 c'
    have a2 : ((e2 : Int) != 0) = true := bne_iff_ne.2 d'
    simp
    rw [a1, a2]
end Go.Proofs.YtdjjelknjojnfaaGreat
