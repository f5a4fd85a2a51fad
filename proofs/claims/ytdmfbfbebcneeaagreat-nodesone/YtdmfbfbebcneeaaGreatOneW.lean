/-
  NodesOne, walked.
-/
import Derived.Test.YtdmfbfbebcneeaaGreatBaseG
import Derived.Test.YtdmfbfbebcneeaaGreatBaseD
import Derived.Test.YtdmfbfbebcneeaaGreatKnown
import Derived.Test.YtdmfbfbebcneeaaGreatBaseF
namespace Go.Proofs.YtdmfbfbebcneeaaGreat
open Go Go.RowKit
open Rf (tab word same IsTab does_val does_call vok_plain vok_sure x_move x_load x_bin x_call x_pick x_assign run_load24)

theorem grd_eqH (x y : Operand) (a b : Int) (w : World) : (eqGuard .eql 32 x y (.int .u32 a) (.int .u32 b)).run Tryz.prog w = .ok () w := by
  go_simp
theorem run_eqH {a b : Int} (h : a = b) (w : World) : (binOp .eql 32 (.int .u32 a) (.int .u32 b)).run Tryz.prog w = .ok (.bool true) w := by
  subst h
  go_simp
theorem run_neH {a b : Int} (h : a ≠ b) (w : World) : (binOp .eql 32 (.int .u32 a) (.int .u32 b)).run Tryz.prog w = .ok (.bool false) w := by
  go_simp
theorem callIs (vs : Array Value) (w : World) : (callFunc 8 vs).run Tryz.prog w = .ok (.enter 8 vs) w := by
  have h := Tryz.func8
  go_simp
theorem callOnce (vs : Array Value) (w : World) : (callFunc 9 vs).run Tryz.prog w = .ok (.enter 9 vs) w := by
  have h := Tryz.func9
  go_simp

set_option maxRecDepth 100000 in
set_option maxHeartbeats 4000000 in
theorem one_walk (F G : Nat → Bool) (on : Bool) (W : World) :
    Calls Tryz.prog 3 #[tab F, tab G, .bool on] W fun e w' => e = .returned (.bool true) ∧ Below W.heap.size W w' := by
  have up0 : (Mdl.empty 8 400).up = 0 := rfl
  conv in #[tab F, tab G, Value.bool on] => unfold tab
  go_enter Tryz.func3, Tryz.ntmps3
  go_upto_region 1 with fail
  have TF := (IsTab.new W F).alloc (.cells #[.int .u64 (word G 0 : Int), .int .u64 (word G 1 : Int), .int .u64 (word G 2 : Int), .int .u64 (word G 3 : Int)] 24)
  have TG := IsTab.new (W.alloc (.cells #[.int .u64 (word F 0 : Int), .int .u64 (word F 1 : Int), .int .u64 (word F 2 : Int), .int .u64 (word F 3 : Int)] 24)) G
  have hs : (W.alloc (.cells #[.int .u64 (word F 0 : Int), .int .u64 (word F 1 : Int), .int .u64 (word F 2 : Int), .int .u64 (word F 3 : Int)] 24)).heap.size = W.heap.size + 1 := by simp
  rw [hs] at TG
  have B0 := ((Below.refl _ W).alloc (Nat.le_refl _) (.cells #[.int .u64 (word F 0 : Int), .int .u64 (word F 1 : Int), .int .u64 (word F 2 : Int), .int .u64 (word F 3 : Int)] 24)).alloc (by simp) (.cells #[.int .u64 (word G 0 : Int), .int .u64 (word G 1 : Int), .int .u64 (word G 2 : Int), .int .u64 (word G 3 : Int)] 24)
  generalize (W.alloc (.cells #[.int .u64 (word F 0 : Int), .int .u64 (word F 1 : Int), .int .u64 (word F 2 : Int), .int .u64 (word F 3 : Int)] 24)).alloc (.cells #[.int .u64 (word G 0 : Int), .int .u64 (word G 1 : Int), .int .u64 (word G 2 : Int), .int .u64 (word G 3 : Int)] 24) = w4 at TF TG B0 ⊢
  have B0A : Aside (Below W.heap.size W w4) := B0
  clear hs
  generalize W.heap.size + 1 = bg at TG ⊢
  generalize hB : W.heap.size = bf at TF ⊢
  clear hB B0
  have K0 := known_any w4
  go_upto_region 6 with (first
    | (go_at_call 4; refine K0.mono ?_; clear K0; rintro e w1 ⟨rfl, b1⟩; have Kn : Calls Tryz.prog 5 #[.int .i64 8, .int .i64 400] w1 _ := s_new 8 400 w1 (by omega) (by omega) (by omega) (by omega))
    | (go_at_call 5; refine Kn.mono ?_; clear Kn; rintro e w2 ⟨S, F0, rfl, h2, b2, f2⟩))
  have TF2 := kept (kept TF b1) b2
  have TG2 := kept (kept TG b1) b2
  have Bw2 := Rf.below_far (Rf.below_far B0A.out b1) b2
  have hW1 : W.heap.size ≤ w1.heap.size := Nat.le_trans B0A.out.size b1.size
  have f2' : ∀ i, F0 i → W.heap.size ≤ i := fun i hi => Nat.le_trans hW1 (f2 i hi)
  have Kc := s_cached h2 on
  clear TF TG b1 b2 f2 hW1 B0A
  go_upto_region 7 with (first
    | (go_at_call 6; refine Kc.mono ?_; clear Kc; rintro e w3 ⟨rfl, F1, s3, g3⟩))
  have TF3 : IsTab w3 bf F := (g3.block bf TF2.lt (h2.row TF2 (by decide))).trans TF2
  have TG3 : IsTab w3 bg G := (g3.block bg TG2.lt (h2.row TG2 (by decide))).trans TG2
  have Bw3 : Below W.heap.size W w3 := Wf.far Bw2 g3 Bw2.size f2'
  have f3' := g3.after Bw2.size f2'
  generalize hM : Mdl.empty 8 400 = M0 at s3 up0
  have n0 : M0.n = 8 := by rw [← hM]; rfl
  have r0 : M0.room = 400 := by rw [← hM]; rfl
  have Km := make_any s3 (Dep.all s3.ok n0 F) (by rw [up0, n0, r0]; decide)
  unfold tab at Km
  obtain ⟨c0, c1, c2, c3⟩ := TF3.copy
  clear TF2 TG2 Bw2 f2' h2 g3 hM
  go_upto_region 8 with (first
    | (go_at_call 7; refine Km.mono ?_; clear Km; rintro e w5 ⟨xa, M1, rfl, ⟨F2, s5, g5⟩, m1⟩))
  have TF5 : IsTab w5 bf F := (g5.block bf TF3.lt (s3.row TF3 (by decide))).trans TF3
  have TG5 : IsTab w5 bg G := (g5.block bg TG3.lt (s3.row TG3 (by decide))).trans TG3
  have Bw5 : Below W.heap.size W w5 := Wf.far Bw3 g5 Bw3.size f3'
  have f5' := g5.after Bw3.size f3'
  have n1 : M1.n = 8 := m1.grew.n.trans n0
  have r1 : M1.room = 400 := m1.grew.room.trans r0
  have u1 : M1.up ≤ 63 := by have := m1.up; rw [up0, n0] at this; omega
  have Km := make_any s5 (Dep.all s5.ok n1 G) (by rw [n1, r1]; omega)
  unfold tab at Km
  clear c0 c1 c2 c3
  obtain ⟨c0, c1, c2, c3⟩ := TG5.copy
  clear TF3 TG3 Bw3 f3' g5 s3
  go_upto_region 9 with (first
    | (go_at_call 7; refine Km.mono ?_; clear Km; rintro e w6 ⟨xb, M2, rfl, ⟨F3, s6, g6⟩, m2⟩))
  have TF6 : IsTab w6 bf F := (g6.block bf TF5.lt (s5.row TF5 (by decide))).trans TF5
  have TG6 : IsTab w6 bg G := (g6.block bg TG5.lt (s5.row TG5 (by decide))).trans TG5
  have Bw6 : Below W.heap.size W w6 := Wf.far Bw5 g6 Bw5.size f5'
  have f6' := g6.after Bw5.size f5'
  have n2 : M2.n = 8 := m2.grew.n.trans n1
  have r2 : M2.room = 400 := m2.grew.room.trans r1
  have u2 : M2.up ≤ 126 := by have := m2.up; rw [n1] at this; omega
  have Km := make_any s6 (Dep.all s6.ok n2 F) (by rw [n2, r2]; omega)
  unfold tab at Km
  clear c0 c1 c2 c3
  obtain ⟨c0, c1, c2, c3⟩ := TF6.copy
  have o1 := s5.ok
  have o2 := s6.ok
  clear TF5 TG5 Bw5 f5' g6 s5
  go_upto_region 10 with (first
    | (go_at_call 7; refine Km.mono ?_; clear Km; rintro e w7 ⟨xc, M3, rfl, ⟨F4, s7, g7⟩, m3⟩))
  have TF : IsTab w7 bf F := (g7.block bf TF6.lt (s6.row TF6 (by decide))).trans TF6
  have TG : IsTab w7 bg G := (g7.block bg TG6.lt (s6.row TG6 (by decide))).trans TG6
  have Bw7 : Below W.heap.size W w7 := Wf.far Bw6 g7 Bw6.size f6'
  have na3 : M3.isNode xa := m3.grew.isNode (m2.grew.isNode m1.node)
  have nb3 : M3.isNode xb := m3.grew.isNode m2.node
  have ta : Eqt (M3.tbl xa) F := fun y hy => by rw [m3.grew.tbl o2 (m2.grew.isNode m1.node), m2.grew.tbl o1 m1.node]; exact m1.tbl y hy
  have tb : Eqt (M3.tbl xb) G := fun y hy => by rw [m3.grew.tbl o2 m2.node]; exact m2.tbl y hy
  have hac : xa = xc := (Mdl.one_iff s7.ok na3 m3.node).1 fun y hy => (ta y hy).trans (m3.tbl y hy).symm
  subst hac
  obtain ⟨z, hz⟩ : ∃ z, same F G = z := ⟨_, rfl⟩
  have rz : Aside (∀ w, (binOp .eql 24 (tab F) (tab G)).run Tryz.prog w = .ok (.bool z) w) := fun w => by rw [← hz]; exact run_eqT _ _ w
  have zH : Aside (∀ w, (binOp .eql 32 (.int .u32 (xa : Int)) (.int .u32 (xb : Int))).run Tryz.prog w = .ok (.bool z) w) := fun w => by
    by_cases e : xa = xb
    · subst e
      have : z = true := by rw [← hz]; exact same_true fun y hy => (ta y hy).symm.trans (tb y hy)
      rw [this]
      exact run_eqH rfl w
    · have : z = false := by
        rw [← hz]
        exact same_false fun q => e ((Mdl.one_iff s7.ok na3 nb3).1 fun y hy => (ta y hy).trans ((q y hy).trans (tb y hy).symm))
      rw [this]
      exact run_neH (by omega) w
  have KA : Aside (∀ u, Below w7.heap.size w7 u → Calls Tryz.prog 8 #[.pointer (some ⟨S, 0, none⟩), .int .u32 (xa : Int), tab F] u fun e w' => e = .returned (.bool true) ∧ Below u.heap.size u w') := fun u hu => by
    have := isf_any (G := F) (s7.below hu) na3
    rwa [same_true ta] at this
  have KB : Aside (∀ u, Below w7.heap.size w7 u → Calls Tryz.prog 8 #[.pointer (some ⟨S, 0, none⟩), .int .u32 (xb : Int), tab G] u fun e w' => e = .returned (.bool true) ∧ Below u.heap.size u w') := fun u hu => by
    have := isf_any (G := G) (s7.below hu) nb3
    rwa [same_true tb] at this
  have KO : Aside (∀ u, Below w7.heap.size w7 u → Calls Tryz.prog 9 #[.pointer (some ⟨S, 0, none⟩)] u fun e w' => e = .returned (.bool true) ∧ Below u.heap.size u w') := fun u hu => once_any (s7.below hu)
  clear TF6 TG6 Bw6 f6' g7 s6 c0 c1 c2 c3 m1 m2 m3 ta tb na3 nb3 o1 o2 hz u1 u2 n0 n1 n2 r0 r1 r2 up0
  refine Rf.wp_region_valsq (fun u => Below w7.heap.size w7 u) [(44, .bool true), (45, .bool true), (46, .bool true), (47, .bool true), (48, .bool true), (49, .bool true), (50, .bool true), (51, .bool true), (52, .int .u32 (xa : Int)), (53, .int .u32 (xa : Int)), (54, .bool true), (55, .bool true), (56, .bool true), (57, .int .u32 (xa : Int)), (58, .int .u32 (xb : Int)), (59, .bool z), (60, tab F), (61, tab G), (62, .bool z), (63, .bool true), (64, .bool true), (65, .bool true), (66, .pointer (some ⟨S, 0, none⟩)), (67, .int .u32 (xa : Int)), (68, tab F), (69, .bool true), (70, .bool true), (71, .bool true), (72, .pointer (some ⟨S, 0, none⟩)), (73, .int .u32 (xb : Int)), (74, tab G), (75, .bool true), (76, .bool true), (77, .bool true), (78, .pointer (some ⟨S, 0, none⟩)), (79, .bool true), (80, .bool true), (6, .bool true)] [44, 45, 46, 47, 48, 49, 50, 51, 52, 53, 54, 55, 56, 57, 58, 59, 60, 61, 62, 63, 64, 65, 66, 67, 68, 69, 70, 71, 72, 73, 74, 75, 76, 77, 78, 79, 80, 6] 81 (by kernel_rfl) rfl rfl (by decide) rfl (by decide) (Below.refl _ _) ?_ ?_
  · intro i kk hkk
    match i, hkk with
    | 0, hk => obtain rfl := Option.some.inj hk; exact vok_plain _ rfl rfl rfl (does_val rfl fun ac u hG hL => x_move rfl ((hG.other 10 (by decide)).trans rfl))
    | 1, hk => obtain rfl := Option.some.inj hk; exact vok_plain _ rfl rfl rfl (does_val rfl fun ac u hG hL => x_move rfl (hL ⟨0, .data⟩ (by simp) rfl _ rfl))
    | 2, hk => obtain rfl := Option.some.inj hk; exact vok_sure _ rfl rfl 1 true 45 rfl ⟨⟨1, .guard⟩, by simp, rfl, rfl⟩ rfl (does_val rfl fun ac u hG hL => x_move rfl ((hG.other 12 (by decide)).trans rfl))
    | 3, hk => obtain rfl := Option.some.inj hk; exact vok_plain _ rfl rfl rfl (does_val rfl fun ac u hG hL => x_pick (b := true) rfl (hL ⟨1, .data⟩ (by simp) rfl _ rfl) (hL ⟨2, .data⟩ (by simp) rfl _ rfl))
    | 4, hk => obtain rfl := Option.some.inj hk; exact vok_plain _ rfl rfl rfl (does_val rfl fun ac u hG hL => x_move rfl (hL ⟨3, .data⟩ (by simp) rfl _ rfl))
    | 5, hk => obtain rfl := Option.some.inj hk; exact vok_sure _ rfl rfl 4 true 48 rfl ⟨⟨4, .guard⟩, by simp, rfl, rfl⟩ rfl (does_val rfl fun ac u hG hL => x_move rfl ((hG.other 14 (by decide)).trans rfl))
    | 6, hk => obtain rfl := Option.some.inj hk; exact vok_plain _ rfl rfl rfl (does_val rfl fun ac u hG hL => x_pick (b := true) rfl (hL ⟨4, .data⟩ (by simp) rfl _ rfl) (hL ⟨5, .data⟩ (by simp) rfl _ rfl))
    | 7, hk => obtain rfl := Option.some.inj hk; exact vok_plain _ rfl rfl rfl (does_val rfl fun ac u hG hL => x_move rfl (hL ⟨6, .data⟩ (by simp) rfl _ rfl))
    | 8, hk => obtain rfl := Option.some.inj hk; exact vok_sure _ rfl rfl 7 true 51 rfl ⟨⟨7, .guard⟩, by simp, rfl, rfl⟩ rfl (does_val rfl fun ac u hG hL => x_move rfl ((hG.other 9 (by decide)).trans rfl))
    | 9, hk => obtain rfl := Option.some.inj hk; exact vok_sure _ rfl rfl 7 true 51 rfl ⟨⟨7, .guard⟩, by simp, rfl, rfl⟩ rfl (does_val rfl fun ac u hG hL => x_move rfl ((hG.other 13 (by decide)).trans rfl))
    | 10, hk => obtain rfl := Option.some.inj hk; exact vok_sure _ rfl rfl 7 true 51 rfl ⟨⟨7, .guard⟩, by simp, rfl, rfl⟩ rfl (does_val rfl fun ac u hG hL => x_bin rfl (hL ⟨8, .data⟩ (by simp) rfl _ rfl) (hL ⟨9, .data⟩ (by simp) rfl _ rfl) (grd_eqH _ _ _ _ _) (run_eqH rfl u))
    | 11, hk => obtain rfl := Option.some.inj hk; exact vok_plain _ rfl rfl rfl (does_val rfl fun ac u hG hL => x_pick (b := true) rfl (hL ⟨7, .data⟩ (by simp) rfl _ rfl) (hL ⟨10, .data⟩ (by simp) rfl _ rfl))
    | 12, hk => obtain rfl := Option.some.inj hk; exact vok_plain _ rfl rfl rfl (does_val rfl fun ac u hG hL => x_move rfl (hL ⟨11, .data⟩ (by simp) rfl _ rfl))
    | 13, hk => obtain rfl := Option.some.inj hk; exact vok_sure _ rfl rfl 12 true 56 rfl ⟨⟨12, .guard⟩, by simp, rfl, rfl⟩ rfl (does_val rfl fun ac u hG hL => x_move rfl ((hG.other 9 (by decide)).trans rfl))
    | 14, hk => obtain rfl := Option.some.inj hk; exact vok_sure _ rfl rfl 12 true 56 rfl ⟨⟨12, .guard⟩, by simp, rfl, rfl⟩ rfl (does_val rfl fun ac u hG hL => x_move rfl ((hG.other 11 (by decide)).trans rfl))
    | 15, hk => obtain rfl := Option.some.inj hk; exact vok_sure _ rfl rfl 12 true 56 rfl ⟨⟨12, .guard⟩, by simp, rfl, rfl⟩ rfl (does_val rfl fun ac u hG hL => x_bin rfl (hL ⟨13, .data⟩ (by simp) rfl _ rfl) (hL ⟨14, .data⟩ (by simp) rfl _ rfl) (grd_eqH _ _ _ _ _) (zH.out u))
    | 16, hk => obtain rfl := Option.some.inj hk; exact vok_sure _ rfl rfl 12 true 56 rfl ⟨⟨12, .guard⟩, by simp, rfl, rfl⟩ rfl (does_val rfl fun ac u hG hL => x_load rfl ((hG.other 3 (by decide)).trans rfl) (run_load24 (kept TF hG.here)))
    | 17, hk => obtain rfl := Option.some.inj hk; exact vok_sure _ rfl rfl 12 true 56 rfl ⟨⟨12, .guard⟩, by simp, rfl, rfl⟩ rfl (does_val rfl fun ac u hG hL => x_load rfl ((hG.other 4 (by decide)).trans rfl) (run_load24 (kept TG hG.here)))
    | 18, hk => obtain rfl := Option.some.inj hk; exact vok_sure _ rfl rfl 12 true 56 rfl ⟨⟨12, .guard⟩, by simp, rfl, rfl⟩ rfl (does_val rfl fun ac u hG hL => x_bin rfl (hL ⟨16, .data⟩ (by simp) rfl _ rfl) (hL ⟨17, .data⟩ (by simp) rfl _ rfl) (guard_eqT _ _ _ _ _) (rz.out u))
    | 19, hk => obtain rfl := Option.some.inj hk; exact vok_sure _ rfl rfl 12 true 56 rfl ⟨⟨12, .guard⟩, by simp, rfl, rfl⟩ rfl (does_val rfl fun ac u hG hL => x_bin rfl (hL ⟨15, .data⟩ (by simp) rfl _ rfl) (hL ⟨18, .data⟩ (by simp) rfl _ rfl) (Rf.grd_eqB _ _ _ _ _) (Rf.run_eqT rfl u))
    | 20, hk => obtain rfl := Option.some.inj hk; exact vok_plain _ rfl rfl rfl (does_val rfl fun ac u hG hL => x_pick (b := true) rfl (hL ⟨12, .data⟩ (by simp) rfl _ rfl) (hL ⟨19, .data⟩ (by simp) rfl _ rfl))
    | 21, hk => obtain rfl := Option.some.inj hk; exact vok_plain _ rfl rfl rfl (does_val rfl fun ac u hG hL => x_move rfl (hL ⟨20, .data⟩ (by simp) rfl _ rfl))
    | 22, hk => obtain rfl := Option.some.inj hk; exact vok_sure _ rfl rfl 21 true 65 rfl ⟨⟨21, .guard⟩, by simp, rfl, rfl⟩ rfl (does_val rfl fun ac u hG hL => x_move rfl ((hG.other 7 (by decide)).trans rfl))
    | 23, hk => obtain rfl := Option.some.inj hk; exact vok_sure _ rfl rfl 21 true 65 rfl ⟨⟨21, .guard⟩, by simp, rfl, rfl⟩ rfl (does_val rfl fun ac u hG hL => x_move rfl ((hG.other 9 (by decide)).trans rfl))
    | 24, hk => obtain rfl := Option.some.inj hk; exact vok_sure _ rfl rfl 21 true 65 rfl ⟨⟨21, .guard⟩, by simp, rfl, rfl⟩ rfl (does_val rfl fun ac u hG hL => x_load rfl ((hG.other 3 (by decide)).trans rfl) (run_load24 (kept TF hG.here)))
    | 25, hk => obtain rfl := Option.some.inj hk; exact vok_sure _ rfl rfl 21 true 65 rfl ⟨⟨21, .guard⟩, by simp, rfl, rfl⟩ rfl (does_call #[(.pointer (some ⟨S, 0, none⟩)), (.int .u32 (xa : Int)), (tab F)] rfl (fun ac u hG hL => x_call rfl (by have e0 : ac.eval (.tmp 66) = (.pointer (some ⟨S, 0, none⟩)) := (hL ⟨22, .data⟩ (by simp) rfl _ rfl); have e1 : ac.eval (.tmp 67) = (.int .u32 (xa : Int)) := (hL ⟨23, .data⟩ (by simp) rfl _ rfl); have e2 : ac.eval (.tmp 68) = (tab F) := (hL ⟨24, .data⟩ (by simp) rfl _ rfl); simp only [List.map_toArray, List.map_cons, List.map_nil, e0, e1, e2]) (fun u => callIs _ u)) (fun u hu => (KA.out u hu).mono fun e w' q => ⟨q.1, Rf.below_far hu q.2⟩))
    | 26, hk => obtain rfl := Option.some.inj hk; exact vok_plain _ rfl rfl rfl (does_val rfl fun ac u hG hL => x_pick (b := true) rfl (hL ⟨21, .data⟩ (by simp) rfl _ rfl) (hL ⟨25, .data⟩ (by simp) rfl _ rfl))
    | 27, hk => obtain rfl := Option.some.inj hk; exact vok_plain _ rfl rfl rfl (does_val rfl fun ac u hG hL => x_move rfl (hL ⟨26, .data⟩ (by simp) rfl _ rfl))
    | 28, hk => obtain rfl := Option.some.inj hk; exact vok_sure _ rfl rfl 27 true 71 rfl ⟨⟨27, .guard⟩, by simp, rfl, rfl⟩ rfl (does_val rfl fun ac u hG hL => x_move rfl ((hG.other 7 (by decide)).trans rfl))
    | 29, hk => obtain rfl := Option.some.inj hk; exact vok_sure _ rfl rfl 27 true 71 rfl ⟨⟨27, .guard⟩, by simp, rfl, rfl⟩ rfl (does_val rfl fun ac u hG hL => x_move rfl ((hG.other 11 (by decide)).trans rfl))
    | 30, hk => obtain rfl := Option.some.inj hk; exact vok_sure _ rfl rfl 27 true 71 rfl ⟨⟨27, .guard⟩, by simp, rfl, rfl⟩ rfl (does_val rfl fun ac u hG hL => x_load rfl ((hG.other 4 (by decide)).trans rfl) (run_load24 (kept TG hG.here)))
    | 31, hk => obtain rfl := Option.some.inj hk; exact vok_sure _ rfl rfl 27 true 71 rfl ⟨⟨27, .guard⟩, by simp, rfl, rfl⟩ rfl (does_call #[(.pointer (some ⟨S, 0, none⟩)), (.int .u32 (xb : Int)), (tab G)] rfl (fun ac u hG hL => x_call rfl (by have e0 : ac.eval (.tmp 72) = (.pointer (some ⟨S, 0, none⟩)) := (hL ⟨28, .data⟩ (by simp) rfl _ rfl); have e1 : ac.eval (.tmp 73) = (.int .u32 (xb : Int)) := (hL ⟨29, .data⟩ (by simp) rfl _ rfl); have e2 : ac.eval (.tmp 74) = (tab G) := (hL ⟨30, .data⟩ (by simp) rfl _ rfl); simp only [List.map_toArray, List.map_cons, List.map_nil, e0, e1, e2]) (fun u => callIs _ u)) (fun u hu => (KB.out u hu).mono fun e w' q => ⟨q.1, Rf.below_far hu q.2⟩))
    | 32, hk => obtain rfl := Option.some.inj hk; exact vok_plain _ rfl rfl rfl (does_val rfl fun ac u hG hL => x_pick (b := true) rfl (hL ⟨27, .data⟩ (by simp) rfl _ rfl) (hL ⟨31, .data⟩ (by simp) rfl _ rfl))
    | 33, hk => obtain rfl := Option.some.inj hk; exact vok_plain _ rfl rfl rfl (does_val rfl fun ac u hG hL => x_move rfl (hL ⟨32, .data⟩ (by simp) rfl _ rfl))
    | 34, hk => obtain rfl := Option.some.inj hk; exact vok_sure _ rfl rfl 33 true 77 rfl ⟨⟨33, .guard⟩, by simp, rfl, rfl⟩ rfl (does_val rfl fun ac u hG hL => x_move rfl ((hG.other 7 (by decide)).trans rfl))
    | 35, hk => obtain rfl := Option.some.inj hk; exact vok_sure _ rfl rfl 33 true 77 rfl ⟨⟨33, .guard⟩, by simp, rfl, rfl⟩ rfl (does_call #[(.pointer (some ⟨S, 0, none⟩))] rfl (fun ac u hG hL => x_call rfl (by have e0 : ac.eval (.tmp 78) = (.pointer (some ⟨S, 0, none⟩)) := (hL ⟨34, .data⟩ (by simp) rfl _ rfl); simp only [List.map_toArray, List.map_cons, List.map_nil, e0]) (fun u => callOnce _ u)) (fun u hu => (KO.out u hu).mono fun e w' q => ⟨q.1, Rf.below_far hu q.2⟩))
    | 36, hk => obtain rfl := Option.some.inj hk; exact vok_plain _ rfl rfl rfl (does_val rfl fun ac u hG hL => x_pick (b := true) rfl (hL ⟨33, .data⟩ (by simp) rfl _ rfl) (hL ⟨35, .data⟩ (by simp) rfl _ rfl))
    | 37, hk => obtain rfl := Option.some.inj hk; exact vok_plain _ rfl rfl rfl (does_val rfl fun ac u hG hL => x_assign rfl (hL ⟨36, .data⟩ (by simp) rfl _ rfl))
    | i + 38, hk => simp at hk
  · intro w8 b8
    simp only [Rf.vfin, Act.put, List.setIfInBounds_toArray, List.set_cons_succ, List.set_cons_zero]
    go_wp2_with fail
    go_ret
    exact ⟨rfl, Rf.below_far Bw7 b8⟩
end Go.Proofs.YtdmfbfbebcneeaaGreat
