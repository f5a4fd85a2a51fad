/-
  RelTells, walked.
-/
import Derived.Test.YtdjjelknjojnfaaGreatRlK
namespace Go.Proofs.YtdjjelknjojnfaaGreat
open Go Go.RowKit
open Rf (fixAt fixF tab word IsTab halfN nextF prevF)

theorem uq_le {n : Nat} (h : n ≤ 8) : uq (n - 2) ≤ 384 := by
  have := below16 (n := n - 2) (fun k => decide (uq k ≤ 384)) 7 (by kernel_rfl) (by omega)
  exact of_decide_eq_true this
theorem budn {n : Nat} (h : n ≤ 8) {X Y : Nat → Bool} : Bud n 63 384 X Y := .inl ⟨by have := pow63 h; omega, uq_le h⟩
theorem boxes2' (w : World) (F G : Nat → Bool) : IsTab ((w.alloc (.cells #[.int .u64 (word F 0 : Int), .int .u64 (word F 1 : Int), .int .u64 (word F 2 : Int), .int .u64 (word F 3 : Int)] 42)).alloc (.cells #[.int .u64 (word G 0 : Int), .int .u64 (word G 1 : Int), .int .u64 (word G 2 : Int), .int .u64 (word G 3 : Int)] 42)) w.heap.size F ∧ IsTab ((w.alloc (.cells #[.int .u64 (word F 0 : Int), .int .u64 (word F 1 : Int), .int .u64 (word F 2 : Int), .int .u64 (word F 3 : Int)] 42)).alloc (.cells #[.int .u64 (word G 0 : Int), .int .u64 (word G 1 : Int), .int .u64 (word G 2 : Int), .int .u64 (word G 3 : Int)] 42)) (w.heap.size + 1) G ∧ Below w.heap.size w ((w.alloc (.cells #[.int .u64 (word F 0 : Int), .int .u64 (word F 1 : Int), .int .u64 (word F 2 : Int), .int .u64 (word F 3 : Int)] 42)).alloc (.cells #[.int .u64 (word G 0 : Int), .int .u64 (word G 1 : Int), .int .u64 (word G 2 : Int), .int .u64 (word G 3 : Int)] 42)) :=
  ⟨(IsTab.new w F).alloc _, IsTab.newAt (by simp) G, ((Below.refl _ w).alloc (Nat.le_refl _) _).alloc (by simp) _⟩
theorem cached_x {W w : World} {S n r b : Nat} {l : Kl} (h : Sx W w S n r l b) (on : Bool) : Calls Tryz.prog 17 #[.pointer (some ⟨S, 0, none⟩), .bool on] w fun e w' => e = .returned (.tuple #[]) ∧ Sx W w' S n r l b ∧ Out w w' := by
  obtain ⟨F, M, s, e1, e2, e3, q, B, f⟩ := h
  refine (s_cached s on).mono ?_
  rintro e w' ⟨rfl, F', s', g⟩
  exact ⟨rfl, ⟨F', M, s', e1, e2, e3, q, Wf.far B g B.size f, g.after B.size f⟩, Out.of s g⟩
theorem callTrim (vs : Array Value) (w : World) : (callFunc 18 vs).run Tryz.prog w = .ok (.enter 18 vs) w := by
  have h := Tryz.func18
  go_simp
theorem out_tab {w w' : World} (o : Out w w') {b : Nat} {F : Nat → Bool} (h : IsTab w b F) : IsTab w' b F := o b _ _ _ h (by decide)
/-- The reference's word on states that don't fit. -/
def badN (n : Nat) (A : Nat → Bool) : Nat := if n % 2 = 1 then 160 else if curB A = true then 0 else 160
set_option maxRecDepth 100000 in
set_option maxHeartbeats 2000000 in
theorem bad_any (A : Nat → Bool) (n : Nat) (w : World) :
    Calls Tryz.prog 25 #[.int .i64 9, tab A, .int .u8 0, .int .i64 (n : Int)] w fun e w' => e = .returned (.int .i64 (badN n A : Int)) ∧ Below w.heap.size w w' := by
  have KS := Rf.support_any A
  have lt : Rf.supUpto A 8 < 256 := Rf.sup_lt A 8 (Nat.le_refl _)
  have B1 := nb w (.cells #[.int .u64 (word A 0 : Int), .int .u64 (word A 1 : Int), .int .u64 (word A 2 : Int), .int .u64 (word A 3 : Int)] 42)
  have TA := IsTab.new w A
  have hm : Int.tmod (n : Int) 2 = ((n % 2 : Nat) : Int) := by rw [Int.tmod_eq_emod_of_nonneg (by omega)]; omega
  have hm2 : (n : Int) % 2 = ((n % 2 : Nat) : Int) := by omega
  unfold badN curB
  conv in #[Value.int .i64 9, tab A, Value.int .u8 0, Value.int .i64 (n : Int)] => unfold tab
  unfold tab at KS
  by_cases c : n % 2 = 1
  · rw [if_pos c]
    rw [c] at hm hm2
    have hm : Int.tmod (n : Int) 2 = 1 := hm
    have hm2 : (n : Int) % 2 = 1 := hm2
    have BA : Aside (Below w.heap.size w (w.alloc (.cells #[.int .u64 (word A 0 : Int), .int .u64 (word A 1 : Int), .int .u64 (word A 2 : Int), .int .u64 (word A 3 : Int)] 42))) := B1
    clear KS lt TA c B1
    go_enter Tryz.func25, Tryz.ntmps25
    go_wp2_with fail
    go_ret
    exact ⟨rfl, BA.out⟩
  · have c0 : n % 2 = 0 := by omega
    rw [if_neg c]
    rw [c0] at hm hm2
    have hm : Int.tmod (n : Int) 2 = 0 := hm
    have hm2 : (n : Int) % 2 = 0 := hm2
    generalize Rf.supUpto A 8 = k at KS lt ⊢
    have h1 := sup_170 k lt
    have BA : Aside (Below w.heap.size w (w.alloc (.cells #[.int .u64 (word A 0 : Int), .int .u64 (word A 1 : Int), .int .u64 (word A 2 : Int), .int .u64 (word A 3 : Int)] 42))) := B1
    by_cases d : k &&& 170 = 0
    · rw [decide_eq_true d, if_pos rfl]
      rw [d] at h1
      have h1 : bits .and .u8 (k : Int) 170 = 0 := h1
      clear c c0 d lt B1
      go_enter Tryz.func25, Tryz.ntmps25
      go_upto_region 11 with fail
      obtain ⟨y0, y1, y2, y3⟩ := TA.copy
      have K := KS (w.alloc (.cells #[.int .u64 (word A 0 : Int), .int .u64 (word A 1 : Int), .int .u64 (word A 2 : Int), .int .u64 (word A 3 : Int)] 42))
      generalize w.alloc (.cells #[.int .u64 (word A 0 : Int), .int .u64 (word A 1 : Int), .int .u64 (word A 2 : Int), .int .u64 (word A 3 : Int)] 42) = w1 at BA y0 y1 y2 y3 K ⊢
      clear KS TA
      go_wp2_with (first
        | (go_at_call 22; refine K.mono ?_; clear K; rintro e w2 ⟨rfl, b2⟩))
      go_ret
      exact ⟨rfl, Rf.below_far BA.out b2⟩
    · rw [decide_eq_false d, if_neg Bool.false_ne_true]
      generalize k &&& 170 = m at h1 d
      have dm : ¬ (m : Int) = 0 := by omega
      clear c c0 d lt B1
      go_enter Tryz.func25, Tryz.ntmps25
      go_upto_region 11 with fail
      obtain ⟨y0, y1, y2, y3⟩ := TA.copy
      have K := KS (w.alloc (.cells #[.int .u64 (word A 0 : Int), .int .u64 (word A 1 : Int), .int .u64 (word A 2 : Int), .int .u64 (word A 3 : Int)] 42))
      generalize w.alloc (.cells #[.int .u64 (word A 0 : Int), .int .u64 (word A 1 : Int), .int .u64 (word A 2 : Int), .int .u64 (word A 3 : Int)] 42) = w1 at BA y0 y1 y2 y3 K ⊢
      clear KS TA
      go_wp2_with (first
        | (go_at_call 22; refine K.mono ?_; clear K; rintro e w2 ⟨rfl, b2⟩))
      go_ret
      exact ⟨rfl, Rf.below_far BA.out b2⟩
theorem res_tri {n : Nat} {X : Nat → Bool} (h : Tri n X) : Tri n (resQ 170 0 X) := fun x y hx hy q => by
  show X (mixA 170 0 x) = X (mixA 170 0 y)
  refine h _ _ (mix_lt (by omega) hx) (mix_lt (by omega) hy) fun j hj => ?_
  rw [mix_bit, mix_bit, q j hj]
set_option maxRecDepth 100000 in
set_option maxHeartbeats 8000000 in
theorem tells_walk (z : Int) (F G : Nat → Bool) (fit cached : Bool) (W : World) (z0 : 0 ≤ z) :
    Calls Tryz.prog 4 #[.int .u8 z, tab F, tab G, .bool fit, .bool cached] W fun e w' => e = .returned (.bool true) ∧ Below W.heap.size W w' := by
  obtain ⟨n, hn⟩ : ∃ n : Nat, z % 8 + 1 = (n : Int) := ⟨(z % 8 + 1).toNat, by omega⟩
  have n1 : 1 ≤ n := by omega
  have n8 : n ≤ 8 := by omega
  have n8A : Aside (n ≤ 8) := n8
  have hz : Int.tmod z 8 = z % 8 := Int.tmod_eq_emod_of_nonneg z0
  conv in #[Value.int .u8 z, tab F, tab G, Value.bool fit, Value.bool cached] => unfold tab
  go_enter Tryz.func4, Tryz.ntmps4
  go_upto_region 1 with fail
  obtain ⟨TF, TG, B3⟩ := boxes2' W F G
  generalize (W.alloc (.cells #[.int .u64 (word F 0 : Int), .int .u64 (word F 1 : Int), .int .u64 (word F 2 : Int), .int .u64 (word F 3 : Int)] 42)).alloc (.cells #[.int .u64 (word G 0 : Int), .int .u64 (word G 1 : Int), .int .u64 (word G 2 : Int), .int .u64 (word G 3 : Int)] 42) = v3 at TF TG B3 ⊢
  have B3A : Aside (Below W.heap.size W v3) := B3
  clear B3
  generalize W.heap.size + 1 = bg at TG ⊢
  generalize W.heap.size = bf at TF ⊢
  have Kk := rknown_any v3
  go_upto_region 3 with (first
    | (go_at_call 9; refine Kk.mono ?_; clear Kk; rintro e v4 ⟨rfl, b4⟩))
  have TF4 := kept TF b4
  have TG4 := kept TG b4
  have Kn : Calls Tryz.prog 10 #[.int .i64 (n : Int), .int .i64 32768] v4 _ := new_x W v4 n 32768 n1 n8 (by omega) (by omega) (Rf.below_far B3A.out b4)
  clear TF TG B3A b4
  go_upto_region 7 with (first
    | (go_at_call 10; refine Kn.mono ?_; clear Kn; rintro e w4 ⟨S, rfl, f4, x4, b5⟩))
  have TF5 := kept TF4 b5
  have TG5 := kept TG4 b5
  have KC := cached_x x4 cached
  clear TF4 TG4 b5 f4 x4
  go_upto_region 8 with (first
    | (go_at_call 17; refine KC.mono ?_; clear KC; rintro e w5 ⟨rfl, x5, u5⟩))
  have TF6 := out_tab u5 TF5
  have TG6 := out_tab u5 TG5
  have x5A : Aside (Sx W w5 S n 32768 [(0, c0), (1, c1)] 0) := x5
  clear TF5 TG5 u5 x5 hz n1
  obtain ⟨F', hF'⟩ : ∃ X, trimF F n (8 - n) = X := ⟨_, rfl⟩
  obtain ⟨G', hG'⟩ : ∃ X, trimF G n (8 - n) = X := ⟨_, rfl⟩
  have tFA : Aside (Tri n F') := by rw [← hF']; exact trim_low F n8
  have tGA : Aside (Tri n G') := by rw [← hG']; exact trim_low G n8
  have KF : ∀ u, Calls Tryz.prog 18 #[tab F, .int .i64 (n : Int)] u fun e w' => e = .returned (tab F') ∧ Below u.heap.size u w' := fun u => by rw [← hF']; exact trim_any F n n8 u
  have KG : ∀ u, Calls Tryz.prog 18 #[tab G, .int .i64 (n : Int)] u fun e w' => e = .returned (tab G') ∧ Below u.heap.size u w' := fun u => by rw [← hG']; exact trim_any G n n8 u
  clear hF' hG' n8
  refine Rf.wp_region_tabs' [.val 40 (tab F), .val 41 (.int .i64 (n : Int)), .val 42 (tab F'), .val 43 (tab G), .val 44 (.int .i64 (n : Int)), .val 45 (tab G'), .new 14, .new 15, .put 14 F', .put 15 G'] [40, 41, 42, 43, 44, 45, 14, 15] [14, 15] [14, 15] 137 (by kernel_rfl) (by kernel_rfl) rfl rfl rfl rfl (by decide) (by decide) rfl (by decide) ?_ ?_ ?_
  · intro s hs c hc
    simp only [List.mem_cons, List.not_mem_nil, or_false] at hs
    rcases hs with rfl | rfl
    · exact absurd (show undef = Rf.ptr c from hc) (by simp [undef, Rf.ptr])
    · exact absurd (show undef = Rf.ptr c from hc) (by simp [undef, Rf.ptr])
  · intro i kk hk
    match i, hk with
    | 0, hk => obtain rfl := Option.some.inj hk; exact ⟨_, rfl, rfl, rfl, fun a u hG hpre K hK => Rf.wp_load (b := bf) rfl rfl ((hG.other 6 (by decide)).trans rfl) (kept TF6 hG.below) hK⟩
    | 1, hk => obtain rfl := Option.some.inj hk; exact ⟨_, rfl, rfl, rfl, fun a u hG hpre K hK => Rf.wp_move rfl rfl ((hG.other 11 (by decide)).trans rfl) hK⟩
    | 2, hk =>
      obtain rfl := Option.some.inj hk
      refine ⟨_, rfl, rfl, rfl, fun ac u hG hpre K hK => ?_⟩
      have e0 : ac.eval (.tmp 40) = tab F := hpre ⟨0, .data⟩ (by simp) rfl _ rfl
      have e1 : ac.eval (.tmp 41) = .int .i64 (n : Int) := hpre ⟨1, .data⟩ (by simp) rfl _ rfl
      exact Rf.wp_call rfl (Rf.run_call rfl #[tab F, .int .i64 (n : Int)] (fun vs => callTrim vs u) (by simp only [List.map_toArray, List.map_cons, List.map_nil, e0, e1])) (KF u) hK
    | 3, hk => obtain rfl := Option.some.inj hk; exact ⟨_, rfl, rfl, rfl, fun a u hG hpre K hK => Rf.wp_load (b := bg) rfl rfl ((hG.other 7 (by decide)).trans rfl) (kept TG6 hG.below) hK⟩
    | 4, hk => obtain rfl := Option.some.inj hk; exact ⟨_, rfl, rfl, rfl, fun a u hG hpre K hK => Rf.wp_move rfl rfl ((hG.other 11 (by decide)).trans rfl) hK⟩
    | 5, hk =>
      obtain rfl := Option.some.inj hk
      refine ⟨_, rfl, rfl, rfl, fun ac u hG hpre K hK => ?_⟩
      have e0 : ac.eval (.tmp 43) = tab G := hpre ⟨3, .data⟩ (by simp) rfl _ rfl
      have e1 : ac.eval (.tmp 44) = .int .i64 (n : Int) := hpre ⟨4, .data⟩ (by simp) rfl _ rfl
      exact Rf.wp_call rfl (Rf.run_call rfl #[tab G, .int .i64 (n : Int)] (fun vs => callTrim vs u) (by simp only [List.map_toArray, List.map_cons, List.map_nil, e0, e1])) (KG u) hK
    | 6, hk => obtain rfl := Option.some.inj hk; exact ⟨_, rfl, rfl, rfl, rfl⟩
    | 7, hk => obtain rfl := Option.some.inj hk; exact ⟨_, rfl, rfl, rfl, rfl⟩
    | 8, hk => obtain rfl := Option.some.inj hk; exact ⟨_, rfl, rfl, rfl, 42, rfl, ⟨⟨2, .data⟩, by simp, rfl, rfl⟩, ⟨⟨6, .data⟩, by simp, rfl, rfl⟩⟩
    | 9, hk => obtain rfl := Option.some.inj hk; exact ⟨_, rfl, rfl, rfl, 45, rfl, ⟨⟨5, .data⟩, by simp, rfl, rfl⟩, ⟨⟨7, .data⟩, by simp, rfl, rfl⟩⟩
    | i + 10, hk => simp at hk
  · intro bp w6 s6 hnew hne hput
    have TX := hput 14 F' (by simp)
    have TY := hput 15 G' (by simp)
    have ne := hne 14 (by simp) 15 (by simp) (by decide)
    have far := (hnew 14 (by simp)).1
    have x6 : Sx W w6 S n 32768 [(0, c0), (1, c1)] 0 := x5A.out.below s6
    have neA : Aside (bp 14 ≠ bp 15) := ne
    have farA : Aside (w5.heap.size ≤ bp 14) := far
    have sA : Aside (Below w5.heap.size w5 w6) := s6
    clear hput hnew hne KF KG ne far s6 TF6 TG6
    simp only [Rf.fin, Rf.Kind.dst?, Rf.kval, Act.put, Rf.ptr, List.setIfInBounds_toArray, List.set_cons_succ, List.set_cons_zero]
    generalize bp 14 = pa at TX neA farA ⊢
    generalize bp 15 = pb at TY neA ⊢
    cases fit with
    | false =>
      have TA6 := TX
      have TB6 := TY
      clear TX TY neA farA sA x5A
      have tA := tFA.out
      have tB := tGA.out
      clear tFA tGA
      have tAA : Aside (Tri n F') := tA
      have tBA : Aside (Tri n G') := tB
      have p6 := pow63 n8A.out
      have KA := make_t x6 F' tA 63 (by omega) (by decide)
      unfold tab at KA
      obtain ⟨y0, y1, y2, y3⟩ := TA6.copy
      clear tA tB
      go_upto_region 12 with (first
        | (go_at_call 20; refine KA.mono ?_; clear KA; rintro e w7 ⟨a, rfl, x7, u7⟩))
      have TA7 := out_tab u7 TA6
      have TB7 := out_tab u7 TB6
      have KB := make_t x7 G' tBA.out 63 (by omega) (by decide)
      unfold tab at KB
      clear y0 y1 y2 y3 TA6 TB6 x6 u7
      obtain ⟨y0, y1, y2, y3⟩ := TB7.copy
      go_upto_region 13 with (first
        | (go_at_call 20; refine KB.mono ?_; clear KB; rintro e w8 ⟨b, rfl, x8, u8⟩))
      have TA8 : Aside (IsTab w8 pa F') := out_tab u8 TA7
      have TB8 : Aside (IsTab w8 pb G') := out_tab u8 TB7
      have x8A : Aside (Sx W w8 S n 32768 [(b, G'), (a, F'), (0, c0), (1, c1)] (0 + 63 + 63)) := x8
      clear y0 y1 y2 y3 TA7 TB7 x7 x8 u8 tAA tBA p6
      have KS := fun u => Rf.support_any F' u
      have lt : Rf.supUpto F' 8 < 256 := Rf.sup_lt F' 8 (Nat.le_refl _)
      have hcd : curB F' = decide (Rf.supUpto F' 8 &&& 170 = 0) := rfl
      generalize Rf.supUpto F' 8 = k at KS lt hcd
      have h1 := sup_170 k lt
      generalize k &&& 170 = m at h1 hcd
      clear lt
      unfold tab at KS
      by_cases c : n % 2 = 1
      · by_cases cq : curB F' = true
        · have hcur : curB F' = true := cq
          have cA : Aside (Cur F') := cur_iff.1 cq
          have m0 : m = 0 := by rw [cq] at hcd; exact of_decide_eq_true hcd.symm
          subst m0
          have h1 : bits .and .u8 (k : Int) 170 = 0 := h1
          have hbad : badN n F' = 160 := by unfold badN; rw [if_pos c]
          have n2 : Aside (n % 2 = 1) := c
          clear c cq hcd
          have x9 : Sx W w8.drew S n 32768 [(b, G'), (a, F'), (0, c0), (1, c1)] (0 + 63 + 63) := x8A.out.below ((Below.refl _ w8).drew)
          have TA9 : IsTab w8.drew pa F' := TA8.out
          have C9 := TA9.copy
          have KF := fits_x x9 (x := a) (X := F') (.tail _ (.head _))
          rw [hcur] at KF
          go_region_held3 (fun u => u.cell? ⟨pa, 0, none⟩ = some (.int .u64 (word F' 0 : Int)) ∧ u.cell? ⟨pa, 1, none⟩ = some (.int .u64 (word F' 1 : Int)) ∧ u.cell? ⟨pa, 2, none⟩ = some (.int .u64 (word F' 2 : Int)) ∧ u.cell? ⟨pa, 3, none⟩ = some (.int .u64 (word F' 3 : Int))) (first | assumption) (first
            | (go_at_call 21; refine KF.mono ?_; clear KF; rintro e v1 ⟨rfl, b1⟩; have T1 := kept TA9 b1; have C1 := T1.copy; clear C9)
            | (go_at_call 22; refine (KS _).mono ?_; clear KS; rintro e v2 ⟨rfl, b2⟩; have T2 := kept T1 b2; have C2 := T2.copy; clear C1))
          have x10 : Sx W v2 S n 32768 [(b, G'), (a, F'), (0, c0), (1, c1)] (0 + 63 + 63) := (x9.below b1).below b2
          have TB10 : IsTab v2 pb G' := kept (kept (show IsTab w8.drew pb G' from TB8.out) b1) b2
          clear x9 TA9 T1 C2 b1 b2 x8A TA8 TB8
          have KE : Aside (∀ u, Sx W u S n 32768 [(b, G'), (a, F'), (0, c0), (1, c1)] (0 + 63 + 63) → ∀ v, Calls Tryz.prog 48 #[.pointer (some ⟨S, 0, none⟩), .int .u32 (a : Int), .int .u32 (b : Int), v] u fun e w' => e = .returned (.tuple #[.int .u32 0, .int .i64 160]) ∧ Below u.heap.size u w') := fun u k v => (ranswer_odd v k (x := a) (y := b) (X := F') (Y := G') (.tail _ (.head _)) (.head _) n2.out).mono fun _ w' q => ⟨q.1, by rw [q.2]; exact Below.refl _ _⟩
          have KN := next_er 160 (KE.out v2 x10)
          have KP : Aside (∀ u, Below v2.heap.size v2 u → Calls Tryz.prog 24 #[.pointer (some ⟨S, 0, none⟩), .int .u32 (a : Int), .int .u32 (b : Int)] u fun e w' => e = .returned (.tuple #[.int .u32 0, .int .i64 160]) ∧ Below u.heap.size u w') := fun u k => prev_er 160 (KE.out u (x10.below k))
          have KBA : Aside (∀ u, Calls Tryz.prog 25 #[.int .i64 9, tab F', .int .u8 0, .int .i64 (n : Int)] u fun e w' => e = .returned (.int .i64 160) ∧ Below u.heap.size u w') := fun u => by
            have := bad_any F' n u
            rwa [hbad] at this
          have TT : Aside (∀ u, Below v2.heap.size v2 u → IsTab u pa F') := fun u k => kept T2 k
          have XW : Aside (∀ u, Below v2.heap.size v2 u → Below W.heap.size W u) := fun u k => (x10.below k).base
          unfold tab at KBA
          clear KE x10 T2 TB10
          go_wp2_with (first
            | (go_at_call 23; refine KN.mono ?_; clear KN; rintro e v3 ⟨rfl, b3⟩; have K2 := KP.out v3 b3; clear KP)
            | (go_at_call 24; refine K2.mono ?_; clear K2; rintro e v4 ⟨rfl, b4⟩; have b4' := Rf.below_far b3 b4; obtain ⟨y0, y1, y2, y3⟩ := (TT.out v4 b4').copy; have KB := KBA.out v4; clear KBA)
            | (go_at_call 25; refine KB.mono ?_; clear KB y0 y1 y2 y3; rintro e v5 ⟨rfl, b5⟩))
          go_ret
          exact ⟨rfl, XW.out v5 (Rf.below_far b4' b5)⟩
        · have hcur : curB F' = false := by simpa using cq
          have hcA : Aside (curB F' = false) := hcur
          have m0 : ¬ m = 0 := by rw [hcur] at hcd; exact of_decide_eq_false hcd.symm
          have m1 : ¬ (m : Int) = 0 := by omega
          have m2 : ((m : Int) == 0) = false := beq_eq_false_iff_ne.2 m1
          clear m0
          have hbad : badN n F' = 160 := by unfold badN; rw [if_pos c]
          have n2 : Aside (n % 2 = 1) := c
          clear c cq hcd
          have x9 : Sx W w8.drew S n 32768 [(b, G'), (a, F'), (0, c0), (1, c1)] (0 + 63 + 63) := x8A.out.below ((Below.refl _ w8).drew)
          have TA9 : IsTab w8.drew pa F' := TA8.out
          have C9 := TA9.copy
          have KF := fits_x x9 (x := a) (X := F') (.tail _ (.head _))
          rw [hcur] at KF
          go_region_held3 (fun u => u.cell? ⟨pa, 0, none⟩ = some (.int .u64 (word F' 0 : Int)) ∧ u.cell? ⟨pa, 1, none⟩ = some (.int .u64 (word F' 1 : Int)) ∧ u.cell? ⟨pa, 2, none⟩ = some (.int .u64 (word F' 2 : Int)) ∧ u.cell? ⟨pa, 3, none⟩ = some (.int .u64 (word F' 3 : Int))) (first | assumption) (first
            | (go_at_call 21; refine KF.mono ?_; clear KF; rintro e v1 ⟨rfl, b1⟩; have T1 := kept TA9 b1; have C1 := T1.copy; clear C9)
            | (go_at_call 22; refine (KS _).mono ?_; clear KS; rintro e v2 ⟨rfl, b2⟩; have T2 := kept T1 b2; have C2 := T2.copy; clear C1))
          have x10 : Sx W v2 S n 32768 [(b, G'), (a, F'), (0, c0), (1, c1)] (0 + 63 + 63) := (x9.below b1).below b2
          have TB10 : IsTab v2 pb G' := kept (kept (show IsTab w8.drew pb G' from TB8.out) b1) b2
          clear x9 TA9 T1 C2 b1 b2 x8A TA8 TB8
          have KE : Aside (∀ u, Sx W u S n 32768 [(b, G'), (a, F'), (0, c0), (1, c1)] (0 + 63 + 63) → ∀ v, Calls Tryz.prog 48 #[.pointer (some ⟨S, 0, none⟩), .int .u32 (a : Int), .int .u32 (b : Int), v] u fun e w' => e = .returned (.tuple #[.int .u32 0, .int .i64 160]) ∧ Below u.heap.size u w') := fun u k v => (ranswer_odd v k (x := a) (y := b) (X := F') (Y := G') (.tail _ (.head _)) (.head _) n2.out).mono fun _ w' q => ⟨q.1, by rw [q.2]; exact Below.refl _ _⟩
          have KN := next_er 160 (KE.out v2 x10)
          have KP : Aside (∀ u, Below v2.heap.size v2 u → Calls Tryz.prog 24 #[.pointer (some ⟨S, 0, none⟩), .int .u32 (a : Int), .int .u32 (b : Int)] u fun e w' => e = .returned (.tuple #[.int .u32 0, .int .i64 160]) ∧ Below u.heap.size u w') := fun u k => prev_er 160 (KE.out u (x10.below k))
          have KBA : Aside (∀ u, Calls Tryz.prog 25 #[.int .i64 9, tab F', .int .u8 0, .int .i64 (n : Int)] u fun e w' => e = .returned (.int .i64 160) ∧ Below u.heap.size u w') := fun u => by
            have := bad_any F' n u
            rwa [hbad] at this
          have TT : Aside (∀ u, Below v2.heap.size v2 u → IsTab u pa F') := fun u k => kept T2 k
          have XW : Aside (∀ u, Below v2.heap.size v2 u → Below W.heap.size W u) := fun u k => (x10.below k).base
          unfold tab at KBA
          clear KE x10 T2 TB10
          go_wp2_with (first
            | (go_at_call 23; refine KN.mono ?_; clear KN; rintro e v3 ⟨rfl, b3⟩; have K2 := KP.out v3 b3; clear KP)
            | (go_at_call 24; refine K2.mono ?_; clear K2; rintro e v4 ⟨rfl, b4⟩; have b4' := Rf.below_far b3 b4; obtain ⟨y0, y1, y2, y3⟩ := (TT.out v4 b4').copy; have KB := KBA.out v4; clear KBA)
            | (go_at_call 25; refine KB.mono ?_; clear KB y0 y1 y2 y3; rintro e v5 ⟨rfl, b5⟩))
          go_ret
          exact ⟨rfl, XW.out v5 (Rf.below_far b4' b5)⟩
      · by_cases cq : curB F' = true
        · have hcur : curB F' = true := cq
          have cA : Aside (Cur F') := cur_iff.1 cq
          have m0 : m = 0 := by rw [cq] at hcd; exact of_decide_eq_true hcd.symm
          subst m0
          have h1 : bits .and .u8 (k : Int) 170 = 0 := h1
          have hbad : badN n F' = 0 := by unfold badN; rw [if_neg c, hcur, if_pos rfl]
          have n2 : Aside (n % 2 = 0) := by show n % 2 = 0; omega
          clear c cq hcd
          have x9 : Sx W w8.drew S n 32768 [(b, G'), (a, F'), (0, c0), (1, c1)] (0 + 63 + 63) := x8A.out.below ((Below.refl _ w8).drew)
          have TA9 : IsTab w8.drew pa F' := TA8.out
          have C9 := TA9.copy
          have KF := fits_x x9 (x := a) (X := F') (.tail _ (.head _))
          rw [hcur] at KF
          go_region_held3 (fun u => u.cell? ⟨pa, 0, none⟩ = some (.int .u64 (word F' 0 : Int)) ∧ u.cell? ⟨pa, 1, none⟩ = some (.int .u64 (word F' 1 : Int)) ∧ u.cell? ⟨pa, 2, none⟩ = some (.int .u64 (word F' 2 : Int)) ∧ u.cell? ⟨pa, 3, none⟩ = some (.int .u64 (word F' 3 : Int))) (first | assumption) (first
            | (go_at_call 21; refine KF.mono ?_; clear KF; rintro e v1 ⟨rfl, b1⟩; have T1 := kept TA9 b1; have C1 := T1.copy; clear C9)
            | (go_at_call 22; refine (KS _).mono ?_; clear KS; rintro e v2 ⟨rfl, b2⟩; have T2 := kept T1 b2; have C2 := T2.copy; clear C1))
          have x10 : Sx W v2 S n 32768 [(b, G'), (a, F'), (0, c0), (1, c1)] (0 + 63 + 63) := (x9.below b1).below b2
          have TB10 : IsTab v2 pb G' := kept (kept (show IsTab w8.drew pb G' from TB8.out) b1) b2
          clear x9 TA9 T1 C2 b1 b2 x8A TA8 TB8
          have KN := next_x x10 n2.out cA.out (x := a) (y := b) (X := F') (Y := G') (.tail _ (.head _)) (.head _) (budn n8A.out) (by decide)
          go_upto_region 17 with (first
            | (go_at_call 23; refine KN.mono ?_; clear KN; rintro e v3 ⟨nx, rfl, x11, u11⟩; have KP := prev_x x11 n2.out cA.out (x := a) (y := b) (X := F') (Y := G') (.tail _ (.tail _ (.head _))) (.tail _ (.head _)) (budn n8A.out) (by decide))
            | (go_at_call 24; refine KP.mono ?_; clear KP; rintro e v4 ⟨pv, rfl, x12, u12⟩))
          have T4 := out_tab u12 (out_tab u11 T2)
          have U4 := out_tab u12 (out_tab u11 TB10)
          have KB := bad_any F' n v4
          rw [hbad] at KB
          have x12A : Aside (Sx W v4 S n 32768 ((pv, prevF F' G') :: (nx, nextF F' G') :: [(b, G'), (a, F'), (0, c0), (1, c1)]) _) := x12
          unfold tab at KB
          obtain ⟨y0, y1, y2, y3⟩ := T4.copy
          clear u11 u12 x10 x11 x12 T2 TB10
          obtain ⟨NX, hNX⟩ : ∃ X, nextF F' G' = X := ⟨_, rfl⟩
          obtain ⟨PX, hPX⟩ : ∃ X, prevF F' G' = X := ⟨_, rfl⟩
          rw [hNX, hPX] at x12A
          have KNx : ∀ u, Calls Tryz.prog 27 #[tab F', tab G'] u fun e w' => e = .returned (tab NX) ∧ Below u.heap.size u w' := fun u => by rw [← hNX]; exact Rf.next_any F' G' u
          have KPx : ∀ u, Calls Tryz.prog 28 #[tab F', tab G'] u fun e w' => e = .returned (tab PX) ∧ Below u.heap.size u w' := fun u => by rw [← hPX]; exact Rf.prev_any F' G' u
          have KI1 : Aside (∀ u, Below v4.heap.size v4 u → Calls Tryz.prog 26 #[.pointer (some ⟨S, 0, none⟩), .int .u32 (nx : Int), tab NX] u fun e w' => e = .returned (.bool true) ∧ Below u.heap.size u w') := fun u k => is_x (x12A.out.below k) (x := nx) (X := NX) (Y := NX) (.tail _ (.head _)) (Eqt.refl _)
          have KI2 : Aside (∀ u, Below v4.heap.size v4 u → Calls Tryz.prog 26 #[.pointer (some ⟨S, 0, none⟩), .int .u32 (pv : Int), tab PX] u fun e w' => e = .returned (.bool true) ∧ Below u.heap.size u w') := fun u k => is_x (x12A.out.below k) (x := pv) (X := PX) (Y := PX) (.head _) (Eqt.refl _)
          have KI3 : Aside (∀ u, Below v4.heap.size v4 u → Calls Tryz.prog 26 #[.pointer (some ⟨S, 0, none⟩), .int .u32 (a : Int), tab F'] u fun e w' => e = .returned (.bool true) ∧ Below u.heap.size u w') := fun u k => is_x (x12A.out.below k) (x := a) (X := F') (Y := F') (.tail _ (.tail _ (.tail _ (.head _)))) (Eqt.refl _)
          have TT : Aside (∀ u, Below v4.heap.size v4 u → IsTab u pa F' ∧ IsTab u pb G') := fun u k => ⟨kept T4 k, kept U4 k⟩
          unfold tab at KNx KPx KI1 KI2 KI3
          clear hNX hPX T4 U4
          go_wp2_with (first
            | (go_at_call 25; refine KB.mono ?_; clear KB y0 y1 y2 y3; rintro e v5 ⟨rfl, b5⟩; obtain ⟨Ta, Tb⟩ := TT.out v5 b5; obtain ⟨y0, y1, y2, y3⟩ := Ta.copy; obtain ⟨z0, z1, z2, z3⟩ := Tb.copy; clear Ta Tb)
            | (go_at_call 27; refine (KNx _).mono ?_; clear KNx y0 y1 y2 y3 z0 z1 z2 z3; rintro e v6 ⟨rfl, b6⟩; have b6' := Rf.below_far b5 b6; have K1 := KI1.out v6 b6'; clear KI1)
            | (go_at_call 26; refine K1.mono ?_; clear K1; rintro e v7 ⟨rfl, b7⟩; have b7' := Rf.below_far b6' b7; obtain ⟨Ta, Tb⟩ := TT.out v7 b7'; obtain ⟨y0, y1, y2, y3⟩ := Ta.copy; obtain ⟨z0, z1, z2, z3⟩ := Tb.copy; clear Ta Tb)
            | (go_at_call 28; refine (KPx _).mono ?_; clear KPx y0 y1 y2 y3 z0 z1 z2 z3; rintro e v8 ⟨rfl, b8⟩; have b8' := Rf.below_far b7' b8; have K2 := KI2.out v8 b8'; clear KI2)
            | (go_at_call 26; refine K2.mono ?_; clear K2; rintro e v9 ⟨rfl, b9⟩; have b9' := Rf.below_far b8' b9; obtain ⟨Ta, Tb⟩ := TT.out v9 b9'; obtain ⟨y0, y1, y2, y3⟩ := Ta.copy; have K3 := KI3.out v9 b9'; clear Ta Tb KI3)
            | (go_at_call 26; refine K3.mono ?_; clear K3; rintro e v10 ⟨rfl, b10⟩))
          go_ret
          exact ⟨by simp, Rf.below_far (x12A.out.below b9').base b10⟩
        · have hcur : curB F' = false := by simpa using cq
          have hcA : Aside (curB F' = false) := hcur
          have m0 : ¬ m = 0 := by rw [hcur] at hcd; exact of_decide_eq_false hcd.symm
          have m1 : ¬ (m : Int) = 0 := by omega
          have m2 : ((m : Int) == 0) = false := beq_eq_false_iff_ne.2 m1
          clear m0
          have hbad : badN n F' = 160 := by unfold badN; rw [if_neg c, hcur, if_neg Bool.false_ne_true]
          have n2 : Aside (n % 2 = 0) := by show n % 2 = 0; omega
          clear c cq hcd
          have x9 : Sx W w8.drew S n 32768 [(b, G'), (a, F'), (0, c0), (1, c1)] (0 + 63 + 63) := x8A.out.below ((Below.refl _ w8).drew)
          have TA9 : IsTab w8.drew pa F' := TA8.out
          have C9 := TA9.copy
          have KF := fits_x x9 (x := a) (X := F') (.tail _ (.head _))
          rw [hcur] at KF
          go_region_held3 (fun u => u.cell? ⟨pa, 0, none⟩ = some (.int .u64 (word F' 0 : Int)) ∧ u.cell? ⟨pa, 1, none⟩ = some (.int .u64 (word F' 1 : Int)) ∧ u.cell? ⟨pa, 2, none⟩ = some (.int .u64 (word F' 2 : Int)) ∧ u.cell? ⟨pa, 3, none⟩ = some (.int .u64 (word F' 3 : Int))) (first | assumption) (first
            | (go_at_call 21; refine KF.mono ?_; clear KF; rintro e v1 ⟨rfl, b1⟩; have T1 := kept TA9 b1; have C1 := T1.copy; clear C9)
            | (go_at_call 22; refine (KS _).mono ?_; clear KS; rintro e v2 ⟨rfl, b2⟩; have T2 := kept T1 b2; have C2 := T2.copy; clear C1))
          have x10 : Sx W v2 S n 32768 [(b, G'), (a, F'), (0, c0), (1, c1)] (0 + 63 + 63) := (x9.below b1).below b2
          have TB10 : IsTab v2 pb G' := kept (kept (show IsTab w8.drew pb G' from TB8.out) b1) b2
          clear x9 TA9 T1 C2 b1 b2 x8A TA8 TB8
          have KE : Aside (∀ u, Sx W u S n 32768 [(b, G'), (a, F'), (0, c0), (1, c1)] (0 + 63 + 63) → ∀ v, Calls Tryz.prog 48 #[.pointer (some ⟨S, 0, none⟩), .int .u32 (a : Int), .int .u32 (b : Int), v] u fun e w' => e = .returned (.tuple #[.int .u32 0, .int .i64 160]) ∧ Below u.heap.size u w') := fun u k v => (ranswer_unfit v k (x := a) (y := b) (X := F') (Y := G') (.tail _ (.head _)) (.head _) n2.out hcA.out).mono fun _ _ q => q
          have KN := next_er 160 (KE.out v2 x10)
          have KP : Aside (∀ u, Below v2.heap.size v2 u → Calls Tryz.prog 24 #[.pointer (some ⟨S, 0, none⟩), .int .u32 (a : Int), .int .u32 (b : Int)] u fun e w' => e = .returned (.tuple #[.int .u32 0, .int .i64 160]) ∧ Below u.heap.size u w') := fun u k => prev_er 160 (KE.out u (x10.below k))
          have KBA : Aside (∀ u, Calls Tryz.prog 25 #[.int .i64 9, tab F', .int .u8 0, .int .i64 (n : Int)] u fun e w' => e = .returned (.int .i64 160) ∧ Below u.heap.size u w') := fun u => by
            have := bad_any F' n u
            rwa [hbad] at this
          have TT : Aside (∀ u, Below v2.heap.size v2 u → IsTab u pa F') := fun u k => kept T2 k
          have XW : Aside (∀ u, Below v2.heap.size v2 u → Below W.heap.size W u) := fun u k => (x10.below k).base
          unfold tab at KBA
          clear KE x10 T2 TB10
          go_wp2_with (first
            | (go_at_call 23; refine KN.mono ?_; clear KN; rintro e v3 ⟨rfl, b3⟩; have K2 := KP.out v3 b3; clear KP)
            | (go_at_call 24; refine K2.mono ?_; clear K2; rintro e v4 ⟨rfl, b4⟩; have b4' := Rf.below_far b3 b4; obtain ⟨y0, y1, y2, y3⟩ := (TT.out v4 b4').copy; have KB := KBA.out v4; clear KBA)
            | (go_at_call 25; refine KB.mono ?_; clear KB y0 y1 y2 y3; rintro e v5 ⟨rfl, b5⟩))
          go_ret
          exact ⟨rfl, XW.out v5 (Rf.below_far b4' b5)⟩
    | true =>
      obtain ⟨A, hA⟩ : ∃ X, Rf.resUpto F' 170 0 8 = X := ⟨_, rfl⟩
      have tAA' : Aside (Tri n A) := by
        rw [← hA]
        exact Tri.congr (res_tri tFA.out) (resUpto_res F' 170 0 (by omega) (by omega)).symm
      have KR : ∀ u, Calls Tryz.prog 19 #[tab F', .int .u8 170, .int .u8 0] u fun e w' => e = .returned (tab A) ∧ Below u.heap.size u w' := fun u => by rw [← hA]; exact Rf.restrict_any F' 170 0 (by omega) (by omega) u
      unfold tab at KR
      obtain ⟨x0, x1, x2, x3⟩ := TX.copy
      clear hA
      go_upto_region 11 with (first
        | (go_at_call 19; refine (KR _).mono ?_; clear KR; rintro e w7 ⟨rfl, b7⟩; have T9 := kept TX b7; have y0 := T9.cell (k := 0) (by decide); have y1 := T9.cell (k := 1) (by decide); have y2 := T9.cell (k := 2) (by decide); have y3 := T9.cell (k := 3) (by decide); have z0 := T9.free 0; have z1 := T9.free 1; have z2 := T9.free 2; have z3 := T9.free 3))
      have TA6' := Rf.laid_tab T9 A
      have tu := Rf.laid_turned w7 pa A
      have TB6' := tu.tab (kept TY b7) (fun e => neA.out e.symm)
      have x6' : Sx W (Rf.laid w7 pa A) S n 32768 [(0, c0), (1, c1)] 0 := x5A.out.below (((Rf.below_far sA.out b7)).trans (tu.below (Rf.below_far sA.out b7).size farA.out))
      clear y0 y1 y2 y3 z0 z1 z2 z3 x0 x1 x2 x3 T9 tu x6 TX TY
      have TA6 := TA6'
      have TB6 := TB6'
      have x6 := x6'
      clear TA6' TB6' x6'
      unfold Rf.laid at TA6 TB6 x6
      generalize (((w7.setCell ⟨pa, 0, none⟩ (.int .u64 (word A 0 : Int))).setCell ⟨pa, 1, none⟩ (.int .u64 (word A 1 : Int))).setCell ⟨pa, 2, none⟩ (.int .u64 (word A 2 : Int))).setCell ⟨pa, 3, none⟩ (.int .u64 (word A 3 : Int)) = w6' at TA6 TB6 x6 ⊢
      clear neA farA sA x5A
      have tA := tAA'.out
      have tB := tGA.out
      clear tFA tGA tAA'
      have tAA : Aside (Tri n A) := tA
      have tBA : Aside (Tri n G') := tB
      have p6 := pow63 n8A.out
      have KA := make_t x6 A tA 63 (by omega) (by decide)
      unfold tab at KA
      obtain ⟨y0, y1, y2, y3⟩ := TA6.copy
      clear tA tB
      go_upto_region 12 with (first
        | (go_at_call 20; refine KA.mono ?_; clear KA; rintro e w7 ⟨a, rfl, x7, u7⟩))
      have TA7 := out_tab u7 TA6
      have TB7 := out_tab u7 TB6
      have KB := make_t x7 G' tBA.out 63 (by omega) (by decide)
      unfold tab at KB
      clear y0 y1 y2 y3 TA6 TB6 x6 u7
      obtain ⟨y0, y1, y2, y3⟩ := TB7.copy
      go_upto_region 13 with (first
        | (go_at_call 20; refine KB.mono ?_; clear KB; rintro e w8 ⟨b, rfl, x8, u8⟩))
      have TA8 : Aside (IsTab w8 pa A) := out_tab u8 TA7
      have TB8 : Aside (IsTab w8 pb G') := out_tab u8 TB7
      have x8A : Aside (Sx W w8 S n 32768 [(b, G'), (a, A), (0, c0), (1, c1)] (0 + 63 + 63)) := x8
      clear y0 y1 y2 y3 TA7 TB7 x7 x8 u8 tAA tBA p6
      have KS := fun u => Rf.support_any A u
      have lt : Rf.supUpto A 8 < 256 := Rf.sup_lt A 8 (Nat.le_refl _)
      have hcd : curB A = decide (Rf.supUpto A 8 &&& 170 = 0) := rfl
      generalize Rf.supUpto A 8 = k at KS lt hcd
      have h1 := sup_170 k lt
      generalize k &&& 170 = m at h1 hcd
      clear lt
      unfold tab at KS
      by_cases c : n % 2 = 1
      · by_cases cq : curB A = true
        · have hcur : curB A = true := cq
          have cA : Aside (Cur A) := cur_iff.1 cq
          have m0 : m = 0 := by rw [cq] at hcd; exact of_decide_eq_true hcd.symm
          subst m0
          have h1 : bits .and .u8 (k : Int) 170 = 0 := h1
          have hbad : badN n A = 160 := by unfold badN; rw [if_pos c]
          have n2 : Aside (n % 2 = 1) := c
          clear c cq hcd
          have x9 : Sx W w8.drew S n 32768 [(b, G'), (a, A), (0, c0), (1, c1)] (0 + 63 + 63) := x8A.out.below ((Below.refl _ w8).drew)
          have TA9 : IsTab w8.drew pa A := TA8.out
          have C9 := TA9.copy
          have KF := fits_x x9 (x := a) (X := A) (.tail _ (.head _))
          rw [hcur] at KF
          go_region_held3 (fun u => u.cell? ⟨pa, 0, none⟩ = some (.int .u64 (word A 0 : Int)) ∧ u.cell? ⟨pa, 1, none⟩ = some (.int .u64 (word A 1 : Int)) ∧ u.cell? ⟨pa, 2, none⟩ = some (.int .u64 (word A 2 : Int)) ∧ u.cell? ⟨pa, 3, none⟩ = some (.int .u64 (word A 3 : Int))) (first | assumption) (first
            | (go_at_call 21; refine KF.mono ?_; clear KF; rintro e v1 ⟨rfl, b1⟩; have T1 := kept TA9 b1; have C1 := T1.copy; clear C9)
            | (go_at_call 22; refine (KS _).mono ?_; clear KS; rintro e v2 ⟨rfl, b2⟩; have T2 := kept T1 b2; have C2 := T2.copy; clear C1))
          have x10 : Sx W v2 S n 32768 [(b, G'), (a, A), (0, c0), (1, c1)] (0 + 63 + 63) := (x9.below b1).below b2
          have TB10 : IsTab v2 pb G' := kept (kept (show IsTab w8.drew pb G' from TB8.out) b1) b2
          clear x9 TA9 T1 C2 b1 b2 x8A TA8 TB8
          have KE : Aside (∀ u, Sx W u S n 32768 [(b, G'), (a, A), (0, c0), (1, c1)] (0 + 63 + 63) → ∀ v, Calls Tryz.prog 48 #[.pointer (some ⟨S, 0, none⟩), .int .u32 (a : Int), .int .u32 (b : Int), v] u fun e w' => e = .returned (.tuple #[.int .u32 0, .int .i64 160]) ∧ Below u.heap.size u w') := fun u k v => (ranswer_odd v k (x := a) (y := b) (X := A) (Y := G') (.tail _ (.head _)) (.head _) n2.out).mono fun _ w' q => ⟨q.1, by rw [q.2]; exact Below.refl _ _⟩
          have KN := next_er 160 (KE.out v2 x10)
          have KP : Aside (∀ u, Below v2.heap.size v2 u → Calls Tryz.prog 24 #[.pointer (some ⟨S, 0, none⟩), .int .u32 (a : Int), .int .u32 (b : Int)] u fun e w' => e = .returned (.tuple #[.int .u32 0, .int .i64 160]) ∧ Below u.heap.size u w') := fun u k => prev_er 160 (KE.out u (x10.below k))
          have KBA : Aside (∀ u, Calls Tryz.prog 25 #[.int .i64 9, tab A, .int .u8 0, .int .i64 (n : Int)] u fun e w' => e = .returned (.int .i64 160) ∧ Below u.heap.size u w') := fun u => by
            have := bad_any A n u
            rwa [hbad] at this
          have TT : Aside (∀ u, Below v2.heap.size v2 u → IsTab u pa A) := fun u k => kept T2 k
          have XW : Aside (∀ u, Below v2.heap.size v2 u → Below W.heap.size W u) := fun u k => (x10.below k).base
          unfold tab at KBA
          clear KE x10 T2 TB10
          go_wp2_with (first
            | (go_at_call 23; refine KN.mono ?_; clear KN; rintro e v3 ⟨rfl, b3⟩; have K2 := KP.out v3 b3; clear KP)
            | (go_at_call 24; refine K2.mono ?_; clear K2; rintro e v4 ⟨rfl, b4⟩; have b4' := Rf.below_far b3 b4; obtain ⟨y0, y1, y2, y3⟩ := (TT.out v4 b4').copy; have KB := KBA.out v4; clear KBA)
            | (go_at_call 25; refine KB.mono ?_; clear KB y0 y1 y2 y3; rintro e v5 ⟨rfl, b5⟩))
          go_ret
          exact ⟨rfl, XW.out v5 (Rf.below_far b4' b5)⟩
        · have hcur : curB A = false := by simpa using cq
          have hcA : Aside (curB A = false) := hcur
          have m0 : ¬ m = 0 := by rw [hcur] at hcd; exact of_decide_eq_false hcd.symm
          have m1 : ¬ (m : Int) = 0 := by omega
          have m2 : ((m : Int) == 0) = false := beq_eq_false_iff_ne.2 m1
          clear m0
          have hbad : badN n A = 160 := by unfold badN; rw [if_pos c]
          have n2 : Aside (n % 2 = 1) := c
          clear c cq hcd
          have x9 : Sx W w8.drew S n 32768 [(b, G'), (a, A), (0, c0), (1, c1)] (0 + 63 + 63) := x8A.out.below ((Below.refl _ w8).drew)
          have TA9 : IsTab w8.drew pa A := TA8.out
          have C9 := TA9.copy
          have KF := fits_x x9 (x := a) (X := A) (.tail _ (.head _))
          rw [hcur] at KF
          go_region_held3 (fun u => u.cell? ⟨pa, 0, none⟩ = some (.int .u64 (word A 0 : Int)) ∧ u.cell? ⟨pa, 1, none⟩ = some (.int .u64 (word A 1 : Int)) ∧ u.cell? ⟨pa, 2, none⟩ = some (.int .u64 (word A 2 : Int)) ∧ u.cell? ⟨pa, 3, none⟩ = some (.int .u64 (word A 3 : Int))) (first | assumption) (first
            | (go_at_call 21; refine KF.mono ?_; clear KF; rintro e v1 ⟨rfl, b1⟩; have T1 := kept TA9 b1; have C1 := T1.copy; clear C9)
            | (go_at_call 22; refine (KS _).mono ?_; clear KS; rintro e v2 ⟨rfl, b2⟩; have T2 := kept T1 b2; have C2 := T2.copy; clear C1))
          have x10 : Sx W v2 S n 32768 [(b, G'), (a, A), (0, c0), (1, c1)] (0 + 63 + 63) := (x9.below b1).below b2
          have TB10 : IsTab v2 pb G' := kept (kept (show IsTab w8.drew pb G' from TB8.out) b1) b2
          clear x9 TA9 T1 C2 b1 b2 x8A TA8 TB8
          have KE : Aside (∀ u, Sx W u S n 32768 [(b, G'), (a, A), (0, c0), (1, c1)] (0 + 63 + 63) → ∀ v, Calls Tryz.prog 48 #[.pointer (some ⟨S, 0, none⟩), .int .u32 (a : Int), .int .u32 (b : Int), v] u fun e w' => e = .returned (.tuple #[.int .u32 0, .int .i64 160]) ∧ Below u.heap.size u w') := fun u k v => (ranswer_odd v k (x := a) (y := b) (X := A) (Y := G') (.tail _ (.head _)) (.head _) n2.out).mono fun _ w' q => ⟨q.1, by rw [q.2]; exact Below.refl _ _⟩
          have KN := next_er 160 (KE.out v2 x10)
          have KP : Aside (∀ u, Below v2.heap.size v2 u → Calls Tryz.prog 24 #[.pointer (some ⟨S, 0, none⟩), .int .u32 (a : Int), .int .u32 (b : Int)] u fun e w' => e = .returned (.tuple #[.int .u32 0, .int .i64 160]) ∧ Below u.heap.size u w') := fun u k => prev_er 160 (KE.out u (x10.below k))
          have KBA : Aside (∀ u, Calls Tryz.prog 25 #[.int .i64 9, tab A, .int .u8 0, .int .i64 (n : Int)] u fun e w' => e = .returned (.int .i64 160) ∧ Below u.heap.size u w') := fun u => by
            have := bad_any A n u
            rwa [hbad] at this
          have TT : Aside (∀ u, Below v2.heap.size v2 u → IsTab u pa A) := fun u k => kept T2 k
          have XW : Aside (∀ u, Below v2.heap.size v2 u → Below W.heap.size W u) := fun u k => (x10.below k).base
          unfold tab at KBA
          clear KE x10 T2 TB10
          go_wp2_with (first
            | (go_at_call 23; refine KN.mono ?_; clear KN; rintro e v3 ⟨rfl, b3⟩; have K2 := KP.out v3 b3; clear KP)
            | (go_at_call 24; refine K2.mono ?_; clear K2; rintro e v4 ⟨rfl, b4⟩; have b4' := Rf.below_far b3 b4; obtain ⟨y0, y1, y2, y3⟩ := (TT.out v4 b4').copy; have KB := KBA.out v4; clear KBA)
            | (go_at_call 25; refine KB.mono ?_; clear KB y0 y1 y2 y3; rintro e v5 ⟨rfl, b5⟩))
          go_ret
          exact ⟨rfl, XW.out v5 (Rf.below_far b4' b5)⟩
      · by_cases cq : curB A = true
        · have hcur : curB A = true := cq
          have cA : Aside (Cur A) := cur_iff.1 cq
          have m0 : m = 0 := by rw [cq] at hcd; exact of_decide_eq_true hcd.symm
          subst m0
          have h1 : bits .and .u8 (k : Int) 170 = 0 := h1
          have hbad : badN n A = 0 := by unfold badN; rw [if_neg c, hcur, if_pos rfl]
          have n2 : Aside (n % 2 = 0) := by show n % 2 = 0; omega
          clear c cq hcd
          have x9 : Sx W w8.drew S n 32768 [(b, G'), (a, A), (0, c0), (1, c1)] (0 + 63 + 63) := x8A.out.below ((Below.refl _ w8).drew)
          have TA9 : IsTab w8.drew pa A := TA8.out
          have C9 := TA9.copy
          have KF := fits_x x9 (x := a) (X := A) (.tail _ (.head _))
          rw [hcur] at KF
          go_region_held3 (fun u => u.cell? ⟨pa, 0, none⟩ = some (.int .u64 (word A 0 : Int)) ∧ u.cell? ⟨pa, 1, none⟩ = some (.int .u64 (word A 1 : Int)) ∧ u.cell? ⟨pa, 2, none⟩ = some (.int .u64 (word A 2 : Int)) ∧ u.cell? ⟨pa, 3, none⟩ = some (.int .u64 (word A 3 : Int))) (first | assumption) (first
            | (go_at_call 21; refine KF.mono ?_; clear KF; rintro e v1 ⟨rfl, b1⟩; have T1 := kept TA9 b1; have C1 := T1.copy; clear C9)
            | (go_at_call 22; refine (KS _).mono ?_; clear KS; rintro e v2 ⟨rfl, b2⟩; have T2 := kept T1 b2; have C2 := T2.copy; clear C1))
          have x10 : Sx W v2 S n 32768 [(b, G'), (a, A), (0, c0), (1, c1)] (0 + 63 + 63) := (x9.below b1).below b2
          have TB10 : IsTab v2 pb G' := kept (kept (show IsTab w8.drew pb G' from TB8.out) b1) b2
          clear x9 TA9 T1 C2 b1 b2 x8A TA8 TB8
          have KN := next_x x10 n2.out cA.out (x := a) (y := b) (X := A) (Y := G') (.tail _ (.head _)) (.head _) (budn n8A.out) (by decide)
          go_upto_region 17 with (first
            | (go_at_call 23; refine KN.mono ?_; clear KN; rintro e v3 ⟨nx, rfl, x11, u11⟩; have KP := prev_x x11 n2.out cA.out (x := a) (y := b) (X := A) (Y := G') (.tail _ (.tail _ (.head _))) (.tail _ (.head _)) (budn n8A.out) (by decide))
            | (go_at_call 24; refine KP.mono ?_; clear KP; rintro e v4 ⟨pv, rfl, x12, u12⟩))
          have T4 := out_tab u12 (out_tab u11 T2)
          have U4 := out_tab u12 (out_tab u11 TB10)
          have KB := bad_any A n v4
          rw [hbad] at KB
          have x12A : Aside (Sx W v4 S n 32768 ((pv, prevF A G') :: (nx, nextF A G') :: [(b, G'), (a, A), (0, c0), (1, c1)]) _) := x12
          unfold tab at KB
          obtain ⟨y0, y1, y2, y3⟩ := T4.copy
          clear u11 u12 x10 x11 x12 T2 TB10
          obtain ⟨NX, hNX⟩ : ∃ X, nextF A G' = X := ⟨_, rfl⟩
          obtain ⟨PX, hPX⟩ : ∃ X, prevF A G' = X := ⟨_, rfl⟩
          rw [hNX, hPX] at x12A
          have KNx : ∀ u, Calls Tryz.prog 27 #[tab A, tab G'] u fun e w' => e = .returned (tab NX) ∧ Below u.heap.size u w' := fun u => by rw [← hNX]; exact Rf.next_any A G' u
          have KPx : ∀ u, Calls Tryz.prog 28 #[tab A, tab G'] u fun e w' => e = .returned (tab PX) ∧ Below u.heap.size u w' := fun u => by rw [← hPX]; exact Rf.prev_any A G' u
          have KI1 : Aside (∀ u, Below v4.heap.size v4 u → Calls Tryz.prog 26 #[.pointer (some ⟨S, 0, none⟩), .int .u32 (nx : Int), tab NX] u fun e w' => e = .returned (.bool true) ∧ Below u.heap.size u w') := fun u k => is_x (x12A.out.below k) (x := nx) (X := NX) (Y := NX) (.tail _ (.head _)) (Eqt.refl _)
          have KI2 : Aside (∀ u, Below v4.heap.size v4 u → Calls Tryz.prog 26 #[.pointer (some ⟨S, 0, none⟩), .int .u32 (pv : Int), tab PX] u fun e w' => e = .returned (.bool true) ∧ Below u.heap.size u w') := fun u k => is_x (x12A.out.below k) (x := pv) (X := PX) (Y := PX) (.head _) (Eqt.refl _)
          have KI3 : Aside (∀ u, Below v4.heap.size v4 u → Calls Tryz.prog 26 #[.pointer (some ⟨S, 0, none⟩), .int .u32 (a : Int), tab A] u fun e w' => e = .returned (.bool true) ∧ Below u.heap.size u w') := fun u k => is_x (x12A.out.below k) (x := a) (X := A) (Y := A) (.tail _ (.tail _ (.tail _ (.head _)))) (Eqt.refl _)
          have TT : Aside (∀ u, Below v4.heap.size v4 u → IsTab u pa A ∧ IsTab u pb G') := fun u k => ⟨kept T4 k, kept U4 k⟩
          unfold tab at KNx KPx KI1 KI2 KI3
          clear hNX hPX T4 U4
          go_wp2_with (first
            | (go_at_call 25; refine KB.mono ?_; clear KB y0 y1 y2 y3; rintro e v5 ⟨rfl, b5⟩; obtain ⟨Ta, Tb⟩ := TT.out v5 b5; obtain ⟨y0, y1, y2, y3⟩ := Ta.copy; obtain ⟨z0, z1, z2, z3⟩ := Tb.copy; clear Ta Tb)
            | (go_at_call 27; refine (KNx _).mono ?_; clear KNx y0 y1 y2 y3 z0 z1 z2 z3; rintro e v6 ⟨rfl, b6⟩; have b6' := Rf.below_far b5 b6; have K1 := KI1.out v6 b6'; clear KI1)
            | (go_at_call 26; refine K1.mono ?_; clear K1; rintro e v7 ⟨rfl, b7⟩; have b7' := Rf.below_far b6' b7; obtain ⟨Ta, Tb⟩ := TT.out v7 b7'; obtain ⟨y0, y1, y2, y3⟩ := Ta.copy; obtain ⟨z0, z1, z2, z3⟩ := Tb.copy; clear Ta Tb)
            | (go_at_call 28; refine (KPx _).mono ?_; clear KPx y0 y1 y2 y3 z0 z1 z2 z3; rintro e v8 ⟨rfl, b8⟩; have b8' := Rf.below_far b7' b8; have K2 := KI2.out v8 b8'; clear KI2)
            | (go_at_call 26; refine K2.mono ?_; clear K2; rintro e v9 ⟨rfl, b9⟩; have b9' := Rf.below_far b8' b9; obtain ⟨Ta, Tb⟩ := TT.out v9 b9'; obtain ⟨y0, y1, y2, y3⟩ := Ta.copy; have K3 := KI3.out v9 b9'; clear Ta Tb KI3)
            | (go_at_call 26; refine K3.mono ?_; clear K3; rintro e v10 ⟨rfl, b10⟩))
          go_ret
          exact ⟨by simp, Rf.below_far (x12A.out.below b9').base b10⟩
        · have hcur : curB A = false := by simpa using cq
          have hcA : Aside (curB A = false) := hcur
          have m0 : ¬ m = 0 := by rw [hcur] at hcd; exact of_decide_eq_false hcd.symm
          have m1 : ¬ (m : Int) = 0 := by omega
          have m2 : ((m : Int) == 0) = false := beq_eq_false_iff_ne.2 m1
          clear m0
          have hbad : badN n A = 160 := by unfold badN; rw [if_neg c, hcur, if_neg Bool.false_ne_true]
          have n2 : Aside (n % 2 = 0) := by show n % 2 = 0; omega
          clear c cq hcd
          have x9 : Sx W w8.drew S n 32768 [(b, G'), (a, A), (0, c0), (1, c1)] (0 + 63 + 63) := x8A.out.below ((Below.refl _ w8).drew)
          have TA9 : IsTab w8.drew pa A := TA8.out
          have C9 := TA9.copy
          have KF := fits_x x9 (x := a) (X := A) (.tail _ (.head _))
          rw [hcur] at KF
          go_region_held3 (fun u => u.cell? ⟨pa, 0, none⟩ = some (.int .u64 (word A 0 : Int)) ∧ u.cell? ⟨pa, 1, none⟩ = some (.int .u64 (word A 1 : Int)) ∧ u.cell? ⟨pa, 2, none⟩ = some (.int .u64 (word A 2 : Int)) ∧ u.cell? ⟨pa, 3, none⟩ = some (.int .u64 (word A 3 : Int))) (first | assumption) (first
            | (go_at_call 21; refine KF.mono ?_; clear KF; rintro e v1 ⟨rfl, b1⟩; have T1 := kept TA9 b1; have C1 := T1.copy; clear C9)
            | (go_at_call 22; refine (KS _).mono ?_; clear KS; rintro e v2 ⟨rfl, b2⟩; have T2 := kept T1 b2; have C2 := T2.copy; clear C1))
          have x10 : Sx W v2 S n 32768 [(b, G'), (a, A), (0, c0), (1, c1)] (0 + 63 + 63) := (x9.below b1).below b2
          have TB10 : IsTab v2 pb G' := kept (kept (show IsTab w8.drew pb G' from TB8.out) b1) b2
          clear x9 TA9 T1 C2 b1 b2 x8A TA8 TB8
          have KE : Aside (∀ u, Sx W u S n 32768 [(b, G'), (a, A), (0, c0), (1, c1)] (0 + 63 + 63) → ∀ v, Calls Tryz.prog 48 #[.pointer (some ⟨S, 0, none⟩), .int .u32 (a : Int), .int .u32 (b : Int), v] u fun e w' => e = .returned (.tuple #[.int .u32 0, .int .i64 160]) ∧ Below u.heap.size u w') := fun u k v => (ranswer_unfit v k (x := a) (y := b) (X := A) (Y := G') (.tail _ (.head _)) (.head _) n2.out hcA.out).mono fun _ _ q => q
          have KN := next_er 160 (KE.out v2 x10)
          have KP : Aside (∀ u, Below v2.heap.size v2 u → Calls Tryz.prog 24 #[.pointer (some ⟨S, 0, none⟩), .int .u32 (a : Int), .int .u32 (b : Int)] u fun e w' => e = .returned (.tuple #[.int .u32 0, .int .i64 160]) ∧ Below u.heap.size u w') := fun u k => prev_er 160 (KE.out u (x10.below k))
          have KBA : Aside (∀ u, Calls Tryz.prog 25 #[.int .i64 9, tab A, .int .u8 0, .int .i64 (n : Int)] u fun e w' => e = .returned (.int .i64 160) ∧ Below u.heap.size u w') := fun u => by
            have := bad_any A n u
            rwa [hbad] at this
          have TT : Aside (∀ u, Below v2.heap.size v2 u → IsTab u pa A) := fun u k => kept T2 k
          have XW : Aside (∀ u, Below v2.heap.size v2 u → Below W.heap.size W u) := fun u k => (x10.below k).base
          unfold tab at KBA
          clear KE x10 T2 TB10
          go_wp2_with (first
            | (go_at_call 23; refine KN.mono ?_; clear KN; rintro e v3 ⟨rfl, b3⟩; have K2 := KP.out v3 b3; clear KP)
            | (go_at_call 24; refine K2.mono ?_; clear K2; rintro e v4 ⟨rfl, b4⟩; have b4' := Rf.below_far b3 b4; obtain ⟨y0, y1, y2, y3⟩ := (TT.out v4 b4').copy; have KB := KBA.out v4; clear KBA)
            | (go_at_call 25; refine KB.mono ?_; clear KB y0 y1 y2 y3; rintro e v5 ⟨rfl, b5⟩))
          go_ret
          exact ⟨rfl, XW.out v5 (Rf.below_far b4' b5)⟩
end Go.Proofs.YtdjjelknjojnfaaGreat
