/-
  QuantTells, walked.
-/
import Derived.Test.YtlhanbjjlifjjaaGreatQtT
import Derived.Test.YtlhanbjjlifjjaaGreatBaseG
import Derived.Test.YtlhanbjjlifjjaaGreatBaseD
import Derived.Test.YtlhanbjjlifjjaaGreatBaseE
namespace Go.Proofs.YtlhanbjjlifjjaaGreat
open Go Go.RowKit
open Rf (tab word IsTab laid laid_turned laid_tab)

section
variable {W w : World} {S n r b x m : Nat} {l : Kl} {X : Nat → Bool}
theorem all_varx (h : Sx W w S n r l b) (hx : (x, X) ∈ l) (hm : 2 ^ n ≤ m) :
    Calls Tryz.prog 15 #[.pointer (some ⟨S, 0, none⟩), .int .u32 (x : Int), .int .u8 (m : Int)] w fun e w' => e = .returned (.tuple #[.int .u32 0, .int .i64 40]) ∧ w' = w := by
  obtain ⟨F, M, s, e1, e2, e3, q, B, f⟩ := h
  exact allq_var s (q _ hx).1 (by rw [e1]; exact hm)
theorem res_varx (h : Sx W w S n r l b) (y : Int) (hx : (x, X) ∈ l) (hm : 2 ^ n ≤ m) :
    Calls Tryz.prog 16 #[.pointer (some ⟨S, 0, none⟩), .int .u32 (x : Int), .int .u8 (m : Int), .int .u8 y] w fun e w' => e = .returned (.tuple #[.int .u32 0, .int .i64 40]) ∧ w' = w := by
  obtain ⟨F, M, s, e1, e2, e3, q, B, f⟩ := h
  exact resq_var y s (q _ hx).1 (by rw [e1]; exact hm)
theorem once_x (h : Sx W w S n r l b) :
    Calls Tryz.prog 21 #[.pointer (some ⟨S, 0, none⟩)] w fun e w' => e = .returned (.bool true) ∧ Below w.heap.size w w' := by
  obtain ⟨F, M, s, _⟩ := h
  exact once_any s
end
set_option maxRecDepth 100000 in
set_option maxHeartbeats 4000000 in
theorem tells_walk (z : Int) (F : Nat → Bool) (m nv : Nat) (on : Bool) (W : World) (z0 : 0 ≤ z) (hm : m < 256) (hv : nv < 256) :
    Calls Tryz.prog 3 #[.int .u8 z, tab F, .int .u8 (m : Int), .int .u8 (nv : Int), .bool on] W fun e w' => e = .returned (.bool true) ∧ Below W.heap.size W w' := by
  obtain ⟨n, hn⟩ : ∃ n : Nat, z % 8 + 1 = (n : Int) := ⟨(z % 8 + 1).toNat, by omega⟩
  have n1 : 1 ≤ n := by omega
  have n8 : n ≤ 8 := by omega
  have hz : Int.tmod z 8 = z % 8 := Int.tmod_eq_emod_of_nonneg z0
  have up0 : Aside ((Mdl.empty n 32768).up = 0) := rfl
  have nn0 : Aside ((Mdl.empty n 32768).n = n) := rfl
  have rr0 : Aside ((Mdl.empty n 32768).room = 32768) := rfl
  have vv0 : Aside (∀ i, i < n → (Mdl.empty n 32768).v i = i) := fun i hi => if_pos hi
  conv in #[Value.int .u8 z, tab F, Value.int .u8 (m : Int), Value.int .u8 (nv : Int), Value.bool on] => unfold tab
  go_enter Tryz.func3, Tryz.ntmps3
  go_upto_region 1 with fail
  have TF := IsTab.new W F
  have B3 := nb W (.cells #[.int .u64 (word F 0 : Int), .int .u64 (word F 1 : Int), .int .u64 (word F 2 : Int), .int .u64 (word F 3 : Int)] 24)
  generalize W.alloc (.cells #[.int .u64 (word F 0 : Int), .int .u64 (word F 1 : Int), .int .u64 (word F 2 : Int), .int .u64 (word F 3 : Int)] 24) = v3 at TF B3 ⊢
  have B3A : Aside (Below W.heap.size W v3) := B3
  clear B3
  obtain ⟨bf, hbf⟩ : ∃ bf, W.heap.size = bf := ⟨_, rfl⟩
  have lf : Aside (W.heap.size ≤ bf) := by show _ ≤ _; omega
  rw [hbf] at TF ⊢
  clear hbf
  have Kk := known_any v3
  go_upto_region 8 with (first
    | (go_at_call 9; refine Kk.mono ?_; clear Kk; rintro e w1 ⟨rfl, b1⟩; have Kn : Calls Tryz.prog 10 #[.int .i64 (n : Int), .int .i64 32768] w1 _ := s_new n 32768 w1 n1 n8 (by omega) (by omega))
    | (go_at_call 10; refine Kn.mono ?_; clear Kn; rintro e w2 ⟨S, F0, rfl, s2, b2, f2⟩; have Kc := s_cached s2 on)
    | (go_at_call 11; refine Kc.mono ?_; clear Kc; rintro e w5 ⟨rfl, F1, s5, g5⟩))
  have TF2 := kept (kept TF b1) b2
  have Bw2 := Rf.below_far (Rf.below_far B3A.out b1) b2
  have hW1 : W.heap.size ≤ w1.heap.size := Nat.le_trans B3A.out.size b1.size
  have f2' : ∀ i, F0 i → W.heap.size ≤ i := fun i hi => Nat.le_trans hW1 (f2 i hi)
  have TF5 : IsTab w5 bf F := (g5.block bf TF2.lt (s2.row TF2 (by decide))).trans TF2
  have Bw5 : Below W.heap.size W w5 := Wf.far Bw2 g5 Bw2.size f2'
  have f5' : Aside (∀ i, F1 i → W.heap.size ≤ i) := g5.after Bw2.size f2'
  generalize hM : Mdl.empty n 32768 = M0 at s5 up0 nn0 rr0 vv0
  clear hM TF TF2 b1 b2 f2 hW1 B3A s2 g5 Bw2 f2'
  obtain ⟨F', hF'⟩ : ∃ F', trimF F n (8 - n) = F' := ⟨_, rfl⟩
  have KF := trim_any F n n8
  rw [hF'] at KF
  have dT : Aside (Dep M0 0 F') := by
    have hF := Dep.trim s5.ok F (fun i hi => vv0.out i (by rw [← nn0.out]; exact hi))
    rw [nn0.out] at hF
    rw [hF'] at hF
    exact hF
  clear hF' vv0
  unfold tab at KF
  have Bw5A : Aside (Below W.heap.size W w5) := Bw5
  obtain ⟨c0', c1', c2', c3'⟩ := TF5.copy
  clear Bw5
  go_upto_region 9 with (first
    | (go_at_call 12; refine (KF _).mono ?_; clear KF; rintro e wy ⟨rfl, by'⟩; have TY := kept TF5 by'; obtain ⟨p0, p1, p2, p3⟩ := TY.copy; have g0 := TY.free 0; have g1 := TY.free 1; have g2 := TY.free 2; have g3 := TY.free 3))
  change Code.wp Tryz.prog _ _ _ (laid wy bf F')
  have t1 := laid_turned wy bf F'
  have sy := s5.below by'
  have s6 : St (laid wy bf F') S F1 M0 := sy.kept fun k hk => t1.block k (sy.lt k hk) (fun e => s5.row TF5 (by decide) (e ▸ hk))
  have TF6 : IsTab (laid wy bf F') bf F' := laid_tab TY F'
  have Bw6 : Below W.heap.size W (laid wy bf F') := by
    have b1 := Rf.below_far Bw5A.out by'
    exact b1.trans (t1.below b1.size lf.out)
  clear p0 p1 p2 p3 g0 g1 g2 g3 c0' c1' c2' c3'
  generalize laid wy bf F' = w6 at s6 TF6 Bw6 ⊢
  clear t1 by' sy TF5 TY Bw5A s5 lf
  have p6 := pow63 n8
  have Km := make_any s6 dT.out (by rw [up0.out, nn0.out, rr0.out]; omega)
  unfold tab at Km
  obtain ⟨c0', c1', c2', c3'⟩ := TF6.copy
  go_upto_region 10 with (first
    | (go_at_call 13; refine Km.mono ?_; clear Km; rintro e w7 ⟨a, M1, rfl, ⟨F7, s7, g7⟩, m1⟩))
  have TF7 : IsTab w7 bf F' := (g7.block bf TF6.lt (s6.row TF6 (by decide))).trans TF6
  have u1 : M1.up ≤ 63 := by have := m1.up; rw [up0.out, nn0.out, Nat.sub_zero] at this; omega
  have X0 : Sx W w7 S n 32768 [(0, c0), (1, c1), (a, F')] 63 := Sx.consts ⟨F7, M1, s7, m1.grew.n.trans nn0.out, m1.grew.room.trans rr0.out, u1, (fun p hp => by rw [List.mem_singleton] at hp; subst hp; exact ⟨m1.node, m1.tbl⟩), Wf.far Bw6 g7 Bw6.size f5'.out, g7.after Bw6.size f5'.out⟩
  have ma : (a, F') ∈ [(0, c0), (1, c1), (a, F')] := by simp
  have hc : uq (n - 2) ≤ 384 := uq_mono (j := 6) (by omega)
  clear c0' c1' c2' c3' TF6 Bw6 g7 s6 s7 m1 u1 dT f5' up0 nn0 rr0 p6
  obtain ⟨P, hP⟩ : ∃ P : Nat, 2 ^ n = P := ⟨_, rfl⟩
  have hPA : Aside (2 ^ n = P) := hP
  have hP2 : (2 : Int) ^ n = (P : Int) := by rw [← hP]; push_cast; rfl
  have hP8 : P ≤ 256 := by rw [← hP]; exact Nat.pow_le_pow_right (n := 2) (j := 8) (by omega) n8
  by_cases hmn : m < P
  · have hmP : ¬ ((P : Int) ≤ (m : Int)) := by omega
    have C0 := ex_x (m := m) X0 ma (by rw [hP]; exact hmn) 384 hc (by decide)
    go_upto_region 13 with (first
      | (go_at_call 14; refine C0.mono ?_; clear C0; rintro e w8 ⟨x, rfl, x8, u8⟩; have T8 := u8.tab TF7; have C1 := all_x (m := m) x8 (.tail _ ma) (by rw [hP]; exact hmn) 384 hc (by decide); clear X0 u8)
      | (go_at_call 15; refine C1.mono ?_; clear C1; rintro e w9 ⟨y, rfl, x9, u9⟩; have T9 := u9.tab T8; have C2 := res_x (m := m) (nv := nv) x9 (.tail _ (.tail _ ma)) (by rw [hP]; exact hmn) hv 384 hc (by decide); clear x8 u9)
      | (go_at_call 16; refine C2.mono ?_; clear C2; rintro e w10 ⟨zz, rfl, x10, u10⟩; have T10 := u10.tab T9; clear x9 u10))
    have KE := Rf.exists_any F' m hm
    have KA := Rf.forall_any F' m hm
    have KR := Rf.restrict_any F' m nv hm hv
    have eA : Eqt (allQ m F') (fun x => !Rf.exUpto (fun x => !F' x) m 8 x) := fun y hy => by
      show (!_) = (!_)
      rw [exUpto_ex (fun x => !F' x) m y hy]
    have I1 : Aside (∀ {u : World}, Sx W u S n 32768 [(zz, resQ m nv F'), (y, allQ m F'), (x, exQ m F'), (0, c0), (1, c1), (a, F')] (63 + 384 + 384 + 384) → Calls Tryz.prog 17 #[.pointer (some ⟨S, 0, none⟩), .int .u32 (x : Int), tab (Rf.exUpto F' m 8)] u fun e w' => e = .returned (.bool true) ∧ Below u.heap.size u w') := fun {u} h => is_x h (X := exQ m F') (by simp) (exUpto_ex F' m).symm
    have I2 : Aside (∀ {u : World}, Sx W u S n 32768 [(zz, resQ m nv F'), (y, allQ m F'), (x, exQ m F'), (0, c0), (1, c1), (a, F')] (63 + 384 + 384 + 384) → Calls Tryz.prog 17 #[.pointer (some ⟨S, 0, none⟩), .int .u32 (y : Int), tab (fun x => !Rf.exUpto (fun x => !F' x) m 8 x)] u fun e w' => e = .returned (.bool true) ∧ Below u.heap.size u w') := fun {u} h => is_x h (X := allQ m F') (by simp) eA
    have I3 : Aside (∀ {u : World}, Sx W u S n 32768 [(zz, resQ m nv F'), (y, allQ m F'), (x, exQ m F'), (0, c0), (1, c1), (a, F')] (63 + 384 + 384 + 384) → Calls Tryz.prog 17 #[.pointer (some ⟨S, 0, none⟩), .int .u32 (zz : Int), tab (Rf.resUpto F' m nv 8)] u fun e w' => e = .returned (.bool true) ∧ Below u.heap.size u w') := fun {u} h => is_x h (X := resQ m nv F') (by simp) (resUpto_res F' m nv hm hv).symm
    have I4 : Aside (∀ {u : World}, Sx W u S n 32768 [(zz, resQ m nv F'), (y, allQ m F'), (x, exQ m F'), (0, c0), (1, c1), (a, F')] (63 + 384 + 384 + 384) → Calls Tryz.prog 17 #[.pointer (some ⟨S, 0, none⟩), .int .u32 (a : Int), tab F'] u fun e w' => e = .returned (.bool true) ∧ Below u.heap.size u w') := fun {u} h => is_x h (X := F') (by simp) (Eqt.refl _)
    generalize Rf.exUpto F' m 8 = E1 at KE I1
    generalize (fun x => !Rf.exUpto (fun x => !F' x) m 8 x) = E2 at KA I2
    generalize Rf.resUpto F' m nv 8 = E3 at KR I3
    clear eA hc ma hP T8 T9 TF7
    have wn : IntKind.u64.wrap (n : Int) = (n : Int) := by rw [IntKind.wrap_u64]; omega
    have wP : IntKind.i64.wrap (P : Int) = (P : Int) := by rw [IntKind.wrap_i64]; omega
    have nmin : min n 64 = n := by omega
    have hPi : (P : Int) ≤ 256 := by omega
    unfold tab at KE KA KR
    obtain ⟨p0, p1, p2, p3⟩ := T10.copy
    go_wp2_with (first
      | (go_at_call 18; refine (KE _).mono ?_; clear KE; rintro e w11 ⟨rfl, b11⟩; have x11 := x10.below b11; have T11 := kept T10 b11; have J1 := I1.out x11; unfold tab at J1; clear x10 T10)
      | (go_at_call 17; refine J1.mono ?_; clear J1; rintro e w12 ⟨rfl, b12⟩; have x12 := x11.below b12; have T12 := kept T11 b12; obtain ⟨q0, q1, q2, q3⟩ := T12.copy; clear x11 T11)
      | (go_at_call 19; refine (KA _).mono ?_; clear KA; rintro e w13 ⟨rfl, b13⟩; have x13 := x12.below b13; have T13 := kept T12 b13; have J2 := I2.out x13; unfold tab at J2; clear x12 T12)
      | (go_at_call 17; refine J2.mono ?_; clear J2; rintro e w14 ⟨rfl, b14⟩; have x14 := x13.below b14; have T14 := kept T13 b14; obtain ⟨r0, r1, r2, r3⟩ := T14.copy; clear x13 T13)
      | (go_at_call 20; refine (KR _).mono ?_; clear KR; rintro e w15 ⟨rfl, b15⟩; have x15 := x14.below b15; have T15 := kept T14 b15; have J3 := I3.out x15; unfold tab at J3; clear x14 T14)
      | (go_at_call 17; refine J3.mono ?_; clear J3; rintro e w16 ⟨rfl, b16⟩; have x16 := x15.below b16; have T16 := kept T15 b16; obtain ⟨s0, s1, s2, s3⟩ := T16.copy; have J4 := I4.out x16; unfold tab at J4; clear x15 T15)
      | (go_at_call 17; refine J4.mono ?_; clear J4; rintro e w17 ⟨rfl, b17⟩; have x17 := x16.below b17; have J5 := once_x x17; clear x16)
      | (go_at_call 21; refine J5.mono ?_; clear J5; rintro e w18 ⟨rfl, b18⟩; have x18 := x17.below b18))
    go_ret
    exact ⟨rfl, x18.base⟩
  · have hmP : (P : Int) ≤ (m : Int) := by omega
    have C0 := ex_varx (m := m) X0 ma (by rw [hP]; omega)
    have C1 := all_varx (m := m) X0 ma (by rw [hP]; omega)
    have C2 := res_varx (m := m) X0 (nv : Int) ma (by rw [hP]; omega)
    have wn : IntKind.u64.wrap (n : Int) = (n : Int) := by rw [IntKind.wrap_u64]; omega
    have wP : IntKind.i64.wrap (P : Int) = (P : Int) := by rw [IntKind.wrap_i64]; omega
    have nmin : min n 64 = n := by omega
    have hPi : (P : Int) ≤ 256 := by omega
    clear hc ma hP TF7 hmn
    go_wp2_with (first
      | (go_at_call 14; refine C0.mono ?_; clear C0; rintro e w8 ⟨rfl, e8⟩; subst w8)
      | (go_at_call 15; refine C1.mono ?_; clear C1; rintro e w8 ⟨rfl, e8⟩; subst w8)
      | (go_at_call 16; refine C2.mono ?_; clear C2; rintro e w8 ⟨rfl, e8⟩; subst w8))
    go_ret
    exact ⟨rfl, X0.base⟩
end Go.Proofs.YtlhanbjjlifjjaaGreat
