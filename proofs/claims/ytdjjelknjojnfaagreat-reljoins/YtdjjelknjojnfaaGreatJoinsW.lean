/-
  RelJoins, walked.
-/
import Derived.Test.YtdjjelknjojnfaaGreatRlW
namespace Go.Proofs.YtdjjelknjojnfaaGreat
open Go Go.RowKit
open Rf (tab word IsTab halfN nextF prevF)

theorem bud6 {X Y : Nat → Bool} : Bud 6 15 64 X Y := .inl ⟨by decide, by decide⟩
theorem nx_c {X Y : Nat → Bool} : Cur (nextF X Y) := nx_cur X Y
theorem boxesL (W : World) (P Q R T : Nat → Bool) : IsTab ((((W.alloc (.cells #[.int .u64 (word P 0 : Int), .int .u64 (word P 1 : Int), .int .u64 (word P 2 : Int), .int .u64 (word P 3 : Int)] 42)).alloc (.cells #[.int .u64 (word Q 0 : Int), .int .u64 (word Q 1 : Int), .int .u64 (word Q 2 : Int), .int .u64 (word Q 3 : Int)] 42)).alloc (.cells #[.int .u64 (word R 0 : Int), .int .u64 (word R 1 : Int), .int .u64 (word R 2 : Int), .int .u64 (word R 3 : Int)] 42)).alloc (.cells #[.int .u64 (word T 0 : Int), .int .u64 (word T 1 : Int), .int .u64 (word T 2 : Int), .int .u64 (word T 3 : Int)] 42)) (W.heap.size) P ∧ IsTab ((((W.alloc (.cells #[.int .u64 (word P 0 : Int), .int .u64 (word P 1 : Int), .int .u64 (word P 2 : Int), .int .u64 (word P 3 : Int)] 42)).alloc (.cells #[.int .u64 (word Q 0 : Int), .int .u64 (word Q 1 : Int), .int .u64 (word Q 2 : Int), .int .u64 (word Q 3 : Int)] 42)).alloc (.cells #[.int .u64 (word R 0 : Int), .int .u64 (word R 1 : Int), .int .u64 (word R 2 : Int), .int .u64 (word R 3 : Int)] 42)).alloc (.cells #[.int .u64 (word T 0 : Int), .int .u64 (word T 1 : Int), .int .u64 (word T 2 : Int), .int .u64 (word T 3 : Int)] 42)) (W.heap.size + 1) Q ∧ IsTab ((((W.alloc (.cells #[.int .u64 (word P 0 : Int), .int .u64 (word P 1 : Int), .int .u64 (word P 2 : Int), .int .u64 (word P 3 : Int)] 42)).alloc (.cells #[.int .u64 (word Q 0 : Int), .int .u64 (word Q 1 : Int), .int .u64 (word Q 2 : Int), .int .u64 (word Q 3 : Int)] 42)).alloc (.cells #[.int .u64 (word R 0 : Int), .int .u64 (word R 1 : Int), .int .u64 (word R 2 : Int), .int .u64 (word R 3 : Int)] 42)).alloc (.cells #[.int .u64 (word T 0 : Int), .int .u64 (word T 1 : Int), .int .u64 (word T 2 : Int), .int .u64 (word T 3 : Int)] 42)) (W.heap.size + 1 + 1) R ∧ IsTab ((((W.alloc (.cells #[.int .u64 (word P 0 : Int), .int .u64 (word P 1 : Int), .int .u64 (word P 2 : Int), .int .u64 (word P 3 : Int)] 42)).alloc (.cells #[.int .u64 (word Q 0 : Int), .int .u64 (word Q 1 : Int), .int .u64 (word Q 2 : Int), .int .u64 (word Q 3 : Int)] 42)).alloc (.cells #[.int .u64 (word R 0 : Int), .int .u64 (word R 1 : Int), .int .u64 (word R 2 : Int), .int .u64 (word R 3 : Int)] 42)).alloc (.cells #[.int .u64 (word T 0 : Int), .int .u64 (word T 1 : Int), .int .u64 (word T 2 : Int), .int .u64 (word T 3 : Int)] 42)) (W.heap.size + 1 + 1 + 1) T ∧ Below W.heap.size W ((((W.alloc (.cells #[.int .u64 (word P 0 : Int), .int .u64 (word P 1 : Int), .int .u64 (word P 2 : Int), .int .u64 (word P 3 : Int)] 42)).alloc (.cells #[.int .u64 (word Q 0 : Int), .int .u64 (word Q 1 : Int), .int .u64 (word Q 2 : Int), .int .u64 (word Q 3 : Int)] 42)).alloc (.cells #[.int .u64 (word R 0 : Int), .int .u64 (word R 1 : Int), .int .u64 (word R 2 : Int), .int .u64 (word R 3 : Int)] 42)).alloc (.cells #[.int .u64 (word T 0 : Int), .int .u64 (word T 1 : Int), .int .u64 (word T 2 : Int), .int .u64 (word T 3 : Int)] 42)) := by
  refine ⟨?_, ?_, ?_, ?_, ?_⟩
  · exact (((IsTab.new W P).alloc _).alloc _).alloc _
  · exact ((IsTab.newAt (by simp) Q).alloc _).alloc _
  · exact (IsTab.newAt (by simp) R).alloc _
  · exact IsTab.newAt (by simp) T
  · exact ((((Below.refl _ W).alloc (Nat.le_refl _) _).alloc (by simp <;> omega) _).alloc (by simp <;> omega) _).alloc (by simp <;> omega) _
set_option maxRecDepth 100000 in
set_option maxHeartbeats 8000000 in
theorem joins_walk (P Q R T : Nat → Bool) (W : World) :
    Calls Tryz.prog 7 #[tab P, tab Q, tab R, tab T] W fun e w' => e = .returned (.bool true) ∧ Below W.heap.size W w' := by
  conv in #[tab P, tab Q, tab R, tab T] => unfold tab
  go_enter Tryz.func7, Tryz.ntmps7
  go_upto_region 1 with fail
  obtain ⟨TP, TQ, TR, TT, B3⟩ := boxesL W P Q R T
  generalize (((W.alloc (.cells #[.int .u64 (word P 0 : Int), .int .u64 (word P 1 : Int), .int .u64 (word P 2 : Int), .int .u64 (word P 3 : Int)] 42)).alloc (.cells #[.int .u64 (word Q 0 : Int), .int .u64 (word Q 1 : Int), .int .u64 (word Q 2 : Int), .int .u64 (word Q 3 : Int)] 42)).alloc (.cells #[.int .u64 (word R 0 : Int), .int .u64 (word R 1 : Int), .int .u64 (word R 2 : Int), .int .u64 (word R 3 : Int)] 42)).alloc (.cells #[.int .u64 (word T 0 : Int), .int .u64 (word T 1 : Int), .int .u64 (word T 2 : Int), .int .u64 (word T 3 : Int)] 42) = v3 at TP TQ TR TT B3 ⊢
  have B3A : Aside (Below W.heap.size W v3) := B3
  clear B3
  generalize W.heap.size + 1 + 1 + 1 = q3 at TT ⊢
  generalize W.heap.size + 1 + 1 = q2 at TR ⊢
  generalize W.heap.size + 1 = q1 at TQ ⊢
  generalize W.heap.size = q0 at TP ⊢
  have Kk := rknown_any v3
  go_upto_region 3 with (first
    | (go_at_call 9; refine Kk.mono ?_; clear Kk; rintro e v4 ⟨rfl, b4⟩))
  have B4A : Aside (Below W.heap.size W v4) := Rf.below_far B3A.out b4
  have UP := kept TP b4
  have UQ := kept TQ b4
  have UR := kept TR b4
  have UT := kept TT b4
  obtain ⟨a00, a01, a02, a03⟩ := UP.copy
  obtain ⟨a10, a11, a12, a13⟩ := UQ.copy
  obtain ⟨a20, a21, a22, a23⟩ := UR.copy
  obtain ⟨a30, a31, a32, a33⟩ := UT.copy
  have KW := world_any P Q R T v4
  unfold tab at KW
  clear TP TQ TR TT B3A b4 UP UQ UR UT
  go_upto_region 6 with (first
    | (go_at_call 32; refine KW.mono ?_; clear KW; rintro e v5 ⟨S, p, q, r, t, rfl, wd, b5⟩))
  obtain ⟨FP, FQ, FR, FT, cP, cQ, x5⟩ := wd
  have cPA : Aside (Cur FP) := cP
  have cQA : Aside (Cur FQ) := cQ
  clear cP cQ b5 a00 a01 a02 a03 a10 a11 a12 a13 a20 a21 a22 a23 a30 a31 a32 a33
  have B6 := nb v5 (.cells #[.int .u32 (p : Int), .int .u32 (q : Int), .int .u32 (r : Int), .int .u32 (t : Int)] 59)
  have x6 := x5.below B6
  have i6 : IsH4 (v5.alloc (.cells #[.int .u32 (p : Int), .int .u32 (q : Int), .int .u32 (r : Int), .int .u32 (t : Int)] 59)) v5.heap.size p q r t := Go.Deep.blk_alloc_new _ _
  clear B6 x5
  generalize v5.alloc (.cells #[.int .u32 (p : Int), .int .u32 (q : Int), .int .u32 (r : Int), .int .u32 (t : Int)] 59) = v6 at x6 i6 ⊢
  generalize v5.heap.size = hb at i6 ⊢
  have KM := must_any
  have x6d := x6.below ((Below.refl _ v6).drew)
  have i6d : IsH4 v6.drew hb p q r t := i6
  clear x6 i6
  have x6 := x6d
  have i6 := i6d
  clear x6d i6d
  have c6 := i6.cells
  have C6 : Calls Tryz.prog 13 #[.pointer (some ⟨S, 0, none⟩), .int .u32 (p : Int), .int .u32 (q : Int)] _ _ := or_x x6 (x := p) (X := FP) (y := q) (Y := FQ) (.tail _ (.tail _ (.tail _ (.head _)))) (.tail _ (.tail _ (.head _))) 15 (by decide) (by decide)
  go_region_held3 (fun u => u.cell? ⟨hb, 0, none⟩ = some (.int .u32 (p : Int)) ∧ u.cell? ⟨hb, 1, none⟩ = some (.int .u32 (q : Int)) ∧ u.cell? ⟨hb, 2, none⟩ = some (.int .u32 (r : Int)) ∧ u.cell? ⟨hb, 3, none⟩ = some (.int .u32 (t : Int))) (first | assumption) (first
    | (go_at_call 11; refine (KM _ _).mono ?_; rintro e wm ⟨rfl, em⟩; subst wm)
    | (go_at_call 13; refine C6.mono ?_; clear C6; rintro e v7 ⟨both, rfl, x7, u7⟩; have i7 := i6.out u7; have c7 := i7.cells; clear i6 c6 u7 x6; have C7 : Calls Tryz.prog 13 #[.pointer (some ⟨S, 0, none⟩), .int .u32 (r : Int), .int .u32 (t : Int)] _ _ := or_x x7 (x := r) (X := FR) (y := t) (Y := FT) (.tail _ (.tail _ (.head _))) (.tail _ (.head _)) 15 (by decide) (by decide))
    | (go_at_call 13; refine C7.mono ?_; clear C7; rintro e v8 ⟨rels, rfl, x8, u8⟩; have i8 := i7.out u8; have c8 := i8.cells; clear i7 c7 u8 x7))
  go_upto_region 7 with fail
  have x8d := x8.below ((Below.refl _ v8).drew)
  have i8d : IsH4 v8.drew hb p q r t := i8
  clear x8 i8
  have x8 := x8d
  have i8 := i8d
  clear x8d i8d
  have c8 := i8.cells
  have C8 : Calls Tryz.prog 23 #[.pointer (some ⟨S, 0, none⟩), .int .u32 (p : Int), .int .u32 (r : Int)] _ _ := next_x x8 (x := p) (X := FP) (y := r) (Y := FR) (by decide) cPA.out (.tail _ (.tail _ (.tail _ (.tail _ (.tail _ (.head _)))))) (.tail _ (.tail _ (.tail _ (.head _)))) bud6 (by decide)
  go_region_held3 (fun u => u.cell? ⟨hb, 0, none⟩ = some (.int .u32 (p : Int)) ∧ u.cell? ⟨hb, 1, none⟩ = some (.int .u32 (q : Int)) ∧ u.cell? ⟨hb, 2, none⟩ = some (.int .u32 (r : Int)) ∧ u.cell? ⟨hb, 3, none⟩ = some (.int .u32 (t : Int))) (first | assumption) (first
    | (go_at_call 11; refine (KM _ _).mono ?_; rintro e wm ⟨rfl, em⟩; subst wm)
    | (go_at_call 23; refine C8.mono ?_; clear C8; rintro e v9 ⟨a, rfl, x9, u9⟩; have i9 := i8.out u9; have c9 := i9.cells; clear i8 c8 u9 x8; have C9 : Calls Tryz.prog 23 #[.pointer (some ⟨S, 0, none⟩), .int .u32 (q : Int), .int .u32 (r : Int)] _ _ := next_x x9 (x := q) (X := FQ) (y := r) (Y := FR) (by decide) cQA.out (.tail _ (.tail _ (.tail _ (.tail _ (.tail _ (.head _)))))) (.tail _ (.tail _ (.tail _ (.tail _ (.head _))))) bud6 (by decide))
    | (go_at_call 23; refine C9.mono ?_; clear C9; rintro e v10 ⟨b, rfl, x10, u10⟩; have i10 := i9.out u10; have c10 := i10.cells; clear i9 c9 u10 x9))
  go_upto_region 8 with fail
  have x10d := x10.below ((Below.refl _ v10).drew)
  have i10d : IsH4 v10.drew hb p q r t := i10
  clear x10 i10
  have x10 := x10d
  have i10 := i10d
  clear x10d i10d
  have c10 := i10.cells
  have C10 : Calls Tryz.prog 24 #[.pointer (some ⟨S, 0, none⟩), .int .u32 (p : Int), .int .u32 (r : Int)] _ _ := prev_x x10 (x := p) (X := FP) (y := r) (Y := FR) (by decide) cPA.out (.tail _ (.tail _ (.tail _ (.tail _ (.tail _ (.tail _ (.tail _ (.head _)))))))) (.tail _ (.tail _ (.tail _ (.tail _ (.tail _ (.head _)))))) bud6 (by decide)
  go_region_held3 (fun u => u.cell? ⟨hb, 0, none⟩ = some (.int .u32 (p : Int)) ∧ u.cell? ⟨hb, 1, none⟩ = some (.int .u32 (q : Int)) ∧ u.cell? ⟨hb, 2, none⟩ = some (.int .u32 (r : Int)) ∧ u.cell? ⟨hb, 3, none⟩ = some (.int .u32 (t : Int))) (first | assumption) (first
    | (go_at_call 11; refine (KM _ _).mono ?_; rintro e wm ⟨rfl, em⟩; subst wm)
    | (go_at_call 24; refine C10.mono ?_; clear C10; rintro e v11 ⟨c, rfl, x11, u11⟩; have i11 := i10.out u11; have c11 := i11.cells; clear i10 c10 u11 x10; have C11 : Calls Tryz.prog 24 #[.pointer (some ⟨S, 0, none⟩), .int .u32 (p : Int), .int .u32 (t : Int)] _ _ := prev_x x11 (x := p) (X := FP) (y := t) (Y := FT) (by decide) cPA.out (.tail _ (.tail _ (.tail _ (.tail _ (.tail _ (.tail _ (.tail _ (.tail _ (.head _))))))))) (.tail _ (.tail _ (.tail _ (.tail _ (.tail _ (.head _)))))) bud6 (by decide))
    | (go_at_call 24; refine C11.mono ?_; clear C11; rintro e v12 ⟨d, rfl, x12, u12⟩; have i12 := i11.out u12; have c12 := i12.cells; clear i11 c11 u12 x11))
  go_upto_region 9 with fail
  obtain ⟨c120, c121, c122, c123⟩ := i12.cells
  have C12 : Calls Tryz.prog 23 #[.pointer (some ⟨S, 0, none⟩), .int .u32 (both : Int), .int .u32 (r : Int)] _ _ := next_x x12 (x := both) (X := (fO FP FQ)) (y := r) (Y := FR) (by decide) (or_cur cPA.out cQA.out) (.tail _ (.tail _ (.tail _ (.tail _ (.tail _ (.head _)))))) (.tail _ (.tail _ (.tail _ (.tail _ (.tail _ (.tail _ (.tail _ (.head _)))))))) bud6 (by decide)
  go_wp2_with (first
    | (go_at_call 11; refine (KM _ _).mono ?_; rintro e wm ⟨rfl, em⟩; subst wm)
    | (go_at_call 23; refine C12.mono ?_; clear C12; rintro e v13 ⟨e1, rfl, x13, u13⟩; have i13 := i12.out u13; clear i12 c120 c121 c122 c123 u13 x12; obtain ⟨c130, c131, c132, c133⟩ := i13.cells; have C13 : Calls Tryz.prog 13 #[.pointer (some ⟨S, 0, none⟩), .int .u32 (a : Int), .int .u32 (b : Int)] _ _ := or_x x13 (x := a) (X := (nextF FP FR)) (y := b) (Y := (nextF FQ FR)) (.tail _ (.tail _ (.tail _ (.tail _ (.head _))))) (.tail _ (.tail _ (.tail _ (.head _)))) 15 (by decide) (by decide))
    | (go_at_call 13; refine C13.mono ?_; clear C13; rintro e v14 ⟨e2, rfl, x14, u14⟩; have i14 := i13.out u14; clear i13 c130 c131 c132 c133 u14 x13; obtain ⟨c140, c141, c142, c143⟩ := i14.cells; have hsm : e2 = e1 := x14.same (X := (fO (nextF FP FR) (nextF FQ FR))) (Y := (nextF (fO FP FQ) FR)) (.head _) (.tail _ (.head _)) ((nx_or _ _ _).symm); subst e2; have C14 : Calls Tryz.prog 24 #[.pointer (some ⟨S, 0, none⟩), .int .u32 (p : Int), .int .u32 (rels : Int)] _ _ := prev_x x14 (x := p) (X := FP) (y := rels) (Y := (fO FR FT)) (by decide) cPA.out (.tail _ (.tail _ (.tail _ (.tail _ (.tail _ (.tail _ (.tail _ (.tail _ (.tail _ (.tail _ (.tail _ (.head _)))))))))))) (.tail _ (.tail _ (.tail _ (.tail _ (.tail _ (.tail _ (.head _))))))) bud6 (by decide))
    | (go_at_call 24; refine C14.mono ?_; clear C14; rintro e v15 ⟨e3, rfl, x15, u15⟩; have i15 := i14.out u15; clear i14 c140 c141 c142 c143 u15 x14; obtain ⟨c150, c151, c152, c153⟩ := i15.cells; have C15 : Calls Tryz.prog 13 #[.pointer (some ⟨S, 0, none⟩), .int .u32 (c : Int), .int .u32 (d : Int)] _ _ := or_x x15 (x := c) (X := (prevF FP FR)) (y := d) (Y := (prevF FP FT)) (.tail _ (.tail _ (.tail _ (.tail _ (.head _))))) (.tail _ (.tail _ (.tail _ (.head _)))) 15 (by decide) (by decide))
    | (go_at_call 13; refine C15.mono ?_; clear C15; rintro e v16 ⟨e4, rfl, x16, u16⟩; have i16 := i15.out u16; clear i15 c150 c151 c152 c153 u16 x15; obtain ⟨c160, c161, c162, c163⟩ := i16.cells; have hsm : e4 = e3 := x16.same (X := (fO (prevF FP FR) (prevF FP FT))) (Y := (prevF FP (fO FR FT))) (.head _) (.tail _ (.head _)) ((pv_or _ _ _).symm); subst e4; have C16 : Calls Tryz.prog 23 #[.pointer (some ⟨S, 0, none⟩), .int .u32 0, .int .u32 (r : Int)] _ _ := next_x x16 (x := 0) (X := c0) (y := r) (Y := FR) (by decide) cur_cst0 (.tail _ (.tail _ (.tail _ (.tail _ (.tail _ (.tail _ (.tail _ (.tail _ (.tail _ (.tail _ (.tail _ (.tail _ (.tail _ (.tail _ (.head _))))))))))))))) (.tail _ (.tail _ (.tail _ (.tail _ (.tail _ (.tail _ (.tail _ (.tail _ (.tail _ (.tail _ (.tail _ (.head _)))))))))))) bud6 (by decide))
    | (go_at_call 23; refine C16.mono ?_; clear C16; rintro e v17 ⟨e5, rfl, x17, u17⟩; have i17 := i16.out u17; clear i16 c160 c161 c162 c163 u17 x16; obtain ⟨c170, c171, c172, c173⟩ := i17.cells; have hsm : e5 = 0 := x17.same (X := (nextF c0 FR)) (Y := c0) (.head _) (.tail _ (.tail _ (.tail _ (.tail _ (.tail _ (.tail _ (.tail _ (.tail _ (.tail _ (.tail _ (.tail _ (.tail _ (.tail _ (.tail _ (.tail _ (.head _)))))))))))))))) (nx_none _); subst e5; have C17 : Calls Tryz.prog 24 #[.pointer (some ⟨S, 0, none⟩), .int .u32 (p : Int), .int .u32 0] _ _ := prev_x x17 (x := p) (X := FP) (y := 0) (Y := c0) (by decide) cPA.out (.tail _ (.tail _ (.tail _ (.tail _ (.tail _ (.tail _ (.tail _ (.tail _ (.tail _ (.tail _ (.tail _ (.tail _ (.tail _ (.tail _ (.head _))))))))))))))) (.tail _ (.tail _ (.tail _ (.tail _ (.tail _ (.tail _ (.tail _ (.tail _ (.tail _ (.tail _ (.tail _ (.tail _ (.tail _ (.tail _ (.tail _ (.head _)))))))))))))))) bud6 (by decide))
    | (go_at_call 24; refine C17.mono ?_; clear C17; rintro e v18 ⟨e6, rfl, x18, u18⟩; have i18 := i17.out u18; clear i17 c170 c171 c172 c173 u18 x17; obtain ⟨c180, c181, c182, c183⟩ := i18.cells; have hsm : e6 = 0 := x18.same (X := (prevF FP c0)) (Y := c0) (.head _) (.tail _ (.tail _ (.tail _ (.tail _ (.tail _ (.tail _ (.tail _ (.tail _ (.tail _ (.tail _ (.tail _ (.tail _ (.tail _ (.tail _ (.tail _ (.tail _ (.head _))))))))))))))))) (pv_none _); subst e6; have C18 : Calls Tryz.prog 21 #[.pointer (some ⟨S, 0, none⟩), .int .u32 (a : Int)] _ _ := fits_x x18 (x := a) (X := (nextF FP FR)) (.tail _ (.tail _ (.tail _ (.tail _ (.tail _ (.tail _ (.tail _ (.tail _ (.tail _ (.head _)))))))))))
    | (go_at_call 21; rw [cur_iff.2 (nx_cur _ _)] at C18; refine C18.mono ?_; clear C18; rintro e v19 ⟨rfl, b19⟩; have x19 := x18.below b19; have u19 := Out.below b19; have i19 := i18.out u19; clear i18 c180 c181 c182 c183 u19 x18; obtain ⟨c190, c191, c192, c193⟩ := i19.cells; have C19 : Calls Tryz.prog 21 #[.pointer (some ⟨S, 0, none⟩), .int .u32 (c : Int)] _ _ := fits_x x19 (x := c) (X := (prevF FP FR)) (.tail _ (.tail _ (.tail _ (.tail _ (.tail _ (.tail _ (.tail _ (.head _)))))))))
    | (go_at_call 21; rw [cur_iff.2 (pv_cur _ _)] at C19; refine C19.mono ?_; clear C19; rintro e v20 ⟨rfl, b20⟩; have x20 := x19.below b20; have u20 := Out.below b20; have i20 := i19.out u20; clear i19 c190 c191 c192 c193 u20 x19; obtain ⟨c200, c201, c202, c203⟩ := i20.cells))
  go_ret
  exact ⟨by simp, Rf.below_far B4A.out x20.base⟩
end Go.Proofs.YtdjjelknjojnfaaGreat
