/-
  RelReached, walked.
-/
import Derived.Test.YtcepjjpmlfpbhaaGreatRlW
namespace Go.Proofs.YtcepjjpmlfpbhaaGreat
open Go Go.RowKit
open Rf (tab word IsTab halfN nextF prevF)

theorem bud6 {X Y : Nat → Bool} : Bud 6 15 64 X Y := .inl ⟨by decide, by decide⟩
theorem nx_c {X Y : Nat → Bool} : Cur (nextF X Y) := nx_cur X Y
theorem boxesL (W : World) (P Q R : Nat → Bool) : IsTab (((W.alloc (.cells #[.int .u64 (word P 0 : Int), .int .u64 (word P 1 : Int), .int .u64 (word P 2 : Int), .int .u64 (word P 3 : Int)] 43)).alloc (.cells #[.int .u64 (word Q 0 : Int), .int .u64 (word Q 1 : Int), .int .u64 (word Q 2 : Int), .int .u64 (word Q 3 : Int)] 43)).alloc (.cells #[.int .u64 (word R 0 : Int), .int .u64 (word R 1 : Int), .int .u64 (word R 2 : Int), .int .u64 (word R 3 : Int)] 43)) (W.heap.size) P ∧ IsTab (((W.alloc (.cells #[.int .u64 (word P 0 : Int), .int .u64 (word P 1 : Int), .int .u64 (word P 2 : Int), .int .u64 (word P 3 : Int)] 43)).alloc (.cells #[.int .u64 (word Q 0 : Int), .int .u64 (word Q 1 : Int), .int .u64 (word Q 2 : Int), .int .u64 (word Q 3 : Int)] 43)).alloc (.cells #[.int .u64 (word R 0 : Int), .int .u64 (word R 1 : Int), .int .u64 (word R 2 : Int), .int .u64 (word R 3 : Int)] 43)) (W.heap.size + 1) Q ∧ IsTab (((W.alloc (.cells #[.int .u64 (word P 0 : Int), .int .u64 (word P 1 : Int), .int .u64 (word P 2 : Int), .int .u64 (word P 3 : Int)] 43)).alloc (.cells #[.int .u64 (word Q 0 : Int), .int .u64 (word Q 1 : Int), .int .u64 (word Q 2 : Int), .int .u64 (word Q 3 : Int)] 43)).alloc (.cells #[.int .u64 (word R 0 : Int), .int .u64 (word R 1 : Int), .int .u64 (word R 2 : Int), .int .u64 (word R 3 : Int)] 43)) (W.heap.size + 1 + 1) R ∧ Below W.heap.size W (((W.alloc (.cells #[.int .u64 (word P 0 : Int), .int .u64 (word P 1 : Int), .int .u64 (word P 2 : Int), .int .u64 (word P 3 : Int)] 43)).alloc (.cells #[.int .u64 (word Q 0 : Int), .int .u64 (word Q 1 : Int), .int .u64 (word Q 2 : Int), .int .u64 (word Q 3 : Int)] 43)).alloc (.cells #[.int .u64 (word R 0 : Int), .int .u64 (word R 1 : Int), .int .u64 (word R 2 : Int), .int .u64 (word R 3 : Int)] 43)) := by
  refine ⟨?_, ?_, ?_, ?_⟩
  · exact ((IsTab.new W P).alloc _).alloc _
  · exact (IsTab.newAt (by simp) Q).alloc _
  · exact IsTab.newAt (by simp) R
  · exact (((Below.refl _ W).alloc (Nat.le_refl _) _).alloc (by simp <;> omega) _).alloc (by simp <;> omega) _
set_option maxRecDepth 100000 in
set_option maxHeartbeats 8000000 in
theorem reached_walk (P Q R : Nat → Bool) (W : World) :
    Calls Tryz.prog 5 #[tab P, tab Q, tab R] W fun e w' => e = .returned (.bool true) ∧ Below W.heap.size W w' := by
  conv in #[tab P, tab Q, tab R] => unfold tab
  go_enter Tryz.func5, Tryz.ntmps5
  go_upto_region 1 with fail
  obtain ⟨TP, TQ, TR, B3⟩ := boxesL W P Q R
  generalize ((W.alloc (.cells #[.int .u64 (word P 0 : Int), .int .u64 (word P 1 : Int), .int .u64 (word P 2 : Int), .int .u64 (word P 3 : Int)] 43)).alloc (.cells #[.int .u64 (word Q 0 : Int), .int .u64 (word Q 1 : Int), .int .u64 (word Q 2 : Int), .int .u64 (word Q 3 : Int)] 43)).alloc (.cells #[.int .u64 (word R 0 : Int), .int .u64 (word R 1 : Int), .int .u64 (word R 2 : Int), .int .u64 (word R 3 : Int)] 43) = v3 at TP TQ TR B3 ⊢
  have B3A : Aside (Below W.heap.size W v3) := B3
  clear B3
  generalize W.heap.size + 1 + 1 = q2 at TR ⊢
  generalize W.heap.size + 1 = q1 at TQ ⊢
  generalize W.heap.size = q0 at TP ⊢
  have Kk := rknown_any v3
  go_upto_region 3 with (first
    | (go_at_call 6; refine Kk.mono ?_; clear Kk; rintro e v4 ⟨rfl, b4⟩))
  have B4A : Aside (Below W.heap.size W v4) := Rf.below_far B3A.out b4
  have UP := kept TP b4
  have UQ := kept TQ b4
  have UR := kept TR b4
  obtain ⟨a00, a01, a02, a03⟩ := UP.copy
  obtain ⟨a10, a11, a12, a13⟩ := UQ.copy
  obtain ⟨a20, a21, a22, a23⟩ := UR.copy
  have KW := world_any P Q R R v4
  unfold tab at KW
  clear TP TQ TR B3A b4 UP UQ UR
  go_upto_region 6 with (first
    | (go_at_call 16; refine KW.mono ?_; clear KW; rintro e v5 ⟨S, p, q, r, t, rfl, wd, b5⟩))
  obtain ⟨FP, FQ, FR, FT, cP, cQ, x5⟩ := wd
  have cPA : Aside (Cur FP) := cP
  have cQA : Aside (Cur FQ) := cQ
  clear cP cQ b5 a00 a01 a02 a03 a10 a11 a12 a13 a20 a21 a22 a23
  have B6 := nb v5 (.cells #[.int .u32 (p : Int), .int .u32 (q : Int), .int .u32 (r : Int), .int .u32 (t : Int)] 44)
  have x6 := x5.below B6
  have i6 : IsH4 (v5.alloc (.cells #[.int .u32 (p : Int), .int .u32 (q : Int), .int .u32 (r : Int), .int .u32 (t : Int)] 44)) v5.heap.size p q r t := Go.Deep.blk_alloc_new _ _
  clear B6 x5
  generalize v5.alloc (.cells #[.int .u32 (p : Int), .int .u32 (q : Int), .int .u32 (r : Int), .int .u32 (t : Int)] 44) = v6 at x6 i6 ⊢
  generalize v5.heap.size = hb at i6 ⊢
  have KM := must_any
  obtain ⟨c60, c61, c62, c63⟩ := i6.cells
  have C6 : Calls Tryz.prog 12 #[.pointer (some ⟨S, 0, none⟩), .int .u32 (p : Int), .int .u32 (r : Int)] _ _ := reach_x x6 (x := p) (X := FP) (y := r) (Y := FR) (by decide) cPA.out (.tail _ (.tail _ (.tail _ (.head _)))) (.tail _ (.head _)) bud6 109 (by decide) (by decide)
  go_upto_region 10 with (first
    | (go_at_call 8; refine (KM _ _).mono ?_; rintro e wm ⟨rfl, em⟩; subst wm)
    | (go_at_call 12; refine C6.mono ?_; clear C6; rintro e v7 ⟨x, k6, rfl, rn6, kl6, x7, u7⟩; have i7 := i6.out u7; clear i6 c60 c61 c62 c63 u7 x6; obtain ⟨c70, c71, c72, c73⟩ := i7.cells; have rn6A : Aside (Rnd FP FR k6) := rn6; have k60 : (0 : Int) ≤ (k6 : Int) := Int.natCast_nonneg _; clear rn6 kl6; have C7 : Calls Tryz.prog 12 #[.pointer (some ⟨S, 0, none⟩), .int .u32 (x : Int), .int .u32 (r : Int)] _ _ := reach_x x7 (x := x) (X := (rchF FP FR k6)) (y := r) (Y := FR) (by decide) (rch_cur cPA.out _) (.head _) (.tail _ (.tail _ (.head _))) bud6 109 (by decide) (by decide))
    | (go_at_call 12; refine C7.mono ?_; clear C7; rintro e v8 ⟨y, k7, rfl, rn7, kl7, x8, u8⟩; have i8 := i7.out u8; clear i7 c70 c71 c72 c73 u8 x7; obtain ⟨c80, c81, c82, c83⟩ := i8.cells; have hk0 : k7 = 0 := rn7.one rn6A.out.again; subst hk0; clear rn7 kl7; have hsm : y = x := x8.same (X := rchF (rchF FP FR k6) FR 0) (Y := rchF FP FR k6) (.head _) (.tail _ (.head _)) (Eqt.refl _); subst y; have C8 : Calls Tryz.prog 10 #[.pointer (some ⟨S, 0, none⟩), .int .u32 (p : Int), .int .u32 (q : Int)] _ _ := or_x x8 (x := p) (X := FP) (y := q) (Y := FQ) (.tail _ (.tail _ (.tail _ (.tail _ (.tail _ (.head _)))))) (.tail _ (.tail _ (.tail _ (.tail _ (.head _))))) 15 (by decide) (by decide))
    | (go_at_call 10; refine C8.mono ?_; clear C8; rintro e v9 ⟨both, rfl, x9, u9⟩; have i9 := i8.out u9; clear i8 c80 c81 c82 c83 u9 x8; obtain ⟨c90, c91, c92, c93⟩ := i9.cells; have C9 : Calls Tryz.prog 12 #[.pointer (some ⟨S, 0, none⟩), .int .u32 (both : Int), .int .u32 (r : Int)] _ _ := reach_x x9 (x := both) (X := (fO FP FQ)) (y := r) (Y := FR) (by decide) (or_cur cPA.out cQA.out) (.head _) (.tail _ (.tail _ (.tail _ (.tail _ (.head _))))) bud6 109 (by decide) (by decide))
    | (go_at_call 12; refine C9.mono ?_; clear C9; rintro e v10 ⟨z, k9, rfl, rn9, kl9, x10, u10⟩; have i10 := i9.out u10; clear i9 c90 c91 c92 c93 u10 x9; obtain ⟨c100, c101, c102, c103⟩ := i10.cells; have rn9A : Aside (Rnd (fO FP FQ) FR k9) := rn9; clear rn9 kl9))
  clear c100 c101 c102 c103
  have upA : Aside (Eqt (fA FP (rchF FP FR k6)) FP) := and_le fun _ _ h => rch_up _ h
  have clA : Aside (Eqt (fA (nextF (rchF FP FR k6) FR) (rchF FP FR k6)) (nextF (rchF FP FR k6) FR)) := and_le fun _ hx h => rn6A.out.closed hx h
  have moA : Aside (Eqt (fA (rchF FP FR k6) (rchF (fO FP FQ) FR k9)) (rchF FP FR k6)) := and_le fun _ hx h => rn6A.out.more rn9A.out (fun _ _ h => or_t.2 (.inl h)) hx h
  simp only [List.append]
  have x10d := x10.below ((Below.refl _ v10).drew)
  have i10d : IsH4 v10.drew hb p q r t := i10
  clear x10 i10
  have x10 := x10d
  have i10 := i10d
  clear x10d i10d
  have c10 := i10.cells
  have C10 : Calls Tryz.prog 17 #[.pointer (some ⟨S, 0, none⟩), .int .u32 (p : Int), .int .u32 (x : Int)] _ _ := and_x x10 (x := p) (X := FP) (y := x) (Y := (rchF FP FR k6)) (.tail _ (.tail _ (.tail _ (.tail _ (.tail _ (.tail _ (.tail _ (.head _)))))))) (.tail _ (.tail _ (.tail _ (.head _)))) 15 (by decide) (by decide)
  go_region_held3 (fun u => u.cell? ⟨hb, 0, none⟩ = some (.int .u32 (p : Int)) ∧ u.cell? ⟨hb, 1, none⟩ = some (.int .u32 (q : Int)) ∧ u.cell? ⟨hb, 2, none⟩ = some (.int .u32 (r : Int)) ∧ u.cell? ⟨hb, 3, none⟩ = some (.int .u32 (t : Int))) (first | assumption) (first
    | (go_at_call 8; refine (KM _ _).mono ?_; rintro e wm ⟨rfl, em⟩; subst wm)
    | (go_at_call 17; refine C10.mono ?_; clear C10; rintro e v11 ⟨e1, rfl, x11, u11⟩; have i11 := i10.out u11; have c11 := i11.cells; clear i10 c10 u11 x10; have hsm : e1 = p := x11.same (X := (fA FP (rchF FP FR k6))) (Y := FP) (.head _) (.tail _ (.tail _ (.tail _ (.tail _ (.tail _ (.tail _ (.tail _ (.tail _ (.head _))))))))) (upA.out); subst e1; have C11 : Calls Tryz.prog 14 #[.pointer (some ⟨S, 0, none⟩), .int .u32 (x : Int), .int .u32 (r : Int)] _ _ := next_x x11 (x := x) (X := (rchF FP FR k6)) (y := r) (Y := FR) (by decide) (rch_cur cPA.out _) (.tail _ (.tail _ (.tail _ (.tail _ (.head _))))) (.tail _ (.tail _ (.tail _ (.tail _ (.tail _ (.tail _ (.head _))))))) bud6 (by decide))
    | (go_at_call 14; refine C11.mono ?_; clear C11; rintro e v12 ⟨nx, rfl, x12, u12⟩; have i12 := i11.out u12; have c12 := i12.cells; clear i11 c11 u12 x11; have C12 : Calls Tryz.prog 17 #[.pointer (some ⟨S, 0, none⟩), .int .u32 (nx : Int), .int .u32 (x : Int)] _ _ := and_x x12 (x := nx) (X := (nextF (rchF FP FR k6) FR)) (y := x) (Y := (rchF FP FR k6)) (.head _) (.tail _ (.tail _ (.tail _ (.tail _ (.tail _ (.head _)))))) 15 (by decide) (by decide))
    | (go_at_call 17; refine C12.mono ?_; clear C12; rintro e v13 ⟨e2, rfl, x13, u13⟩; have i13 := i12.out u13; have c13 := i13.cells; clear i12 c12 u13 x12; have hsm : e2 = nx := x13.same (X := (fA (nextF (rchF FP FR k6) FR) (rchF FP FR k6))) (Y := (nextF (rchF FP FR k6) FR)) (.head _) (.tail _ (.head _)) (clA.out); subst e2; have C13 : Calls Tryz.prog 14 #[.pointer (some ⟨S, 0, none⟩), .int .u32 (x : Int), .int .u32 (r : Int)] _ _ := next_x x13 (x := x) (X := (rchF FP FR k6)) (y := r) (Y := FR) (by decide) (rch_cur cPA.out _) (.tail _ (.tail _ (.tail _ (.tail _ (.tail _ (.tail _ (.head _))))))) (.tail _ (.tail _ (.tail _ (.tail _ (.tail _ (.tail _ (.tail _ (.tail _ (.head _))))))))) bud6 (by decide))
    | (go_at_call 14; refine C13.mono ?_; clear C13; rintro e v14 ⟨e3, rfl, x14, u14⟩; have i14 := i13.out u14; have c14 := i14.cells; clear i13 c13 u14 x13; have hsm : e3 = nx := x14.same (X := (nextF (rchF FP FR k6) FR)) (Y := (nextF (rchF FP FR k6) FR)) (.head _) (.tail _ (.tail _ (.head _))) (Eqt.refl _); subst e3; have C14 : Calls Tryz.prog 17 #[.pointer (some ⟨S, 0, none⟩), .int .u32 (x : Int), .int .u32 (z : Int)] _ _ := and_x x14 (x := x) (X := (rchF FP FR k6)) (y := z) (Y := (rchF (fO FP FQ) FR k9)) (.tail _ (.tail _ (.tail _ (.tail _ (.tail _ (.tail _ (.tail _ (.head _)))))))) (.tail _ (.tail _ (.tail _ (.tail _ (.head _))))) 15 (by decide) (by decide))
    | (go_at_call 17; refine C14.mono ?_; clear C14; rintro e v15 ⟨e4, rfl, x15, u15⟩; have i15 := i14.out u15; have c15 := i15.cells; clear i14 c14 u15 x14; have hsm : e4 = x := x15.same (X := (fA (rchF FP FR k6) (rchF (fO FP FQ) FR k9))) (Y := (rchF FP FR k6)) (.head _) (.tail _ (.tail _ (.tail _ (.tail _ (.tail _ (.tail _ (.tail _ (.tail _ (.head _))))))))) (moA.out); subst e4))
  have bA : Aside (Below W.heap.size W v15) := Rf.below_far B4A.out x15.base
  clear x15 i15 c15
  go_wp2_with fail
  go_ret
  exact ⟨by simp, bA.out⟩
end Go.Proofs.YtcepjjpmlfpbhaaGreat
