/-
  RelReach, walked.
-/
import Derived.Test.YtdjjelknjojnfaaGreatRlF
import Derived.Test.YtdjjelknjojnfaaGreatRlV
namespace Go.Proofs.YtdjjelknjojnfaaGreat
open Go Go.RowKit
open Rf (fixAt fixF tab word IsTab halfN nextF prevF same)

theorem boxes2' (w : World) (F G : Nat → Bool) : IsTab ((w.alloc (.cells #[.int .u64 (word F 0 : Int), .int .u64 (word F 1 : Int), .int .u64 (word F 2 : Int), .int .u64 (word F 3 : Int)] 42)).alloc (.cells #[.int .u64 (word G 0 : Int), .int .u64 (word G 1 : Int), .int .u64 (word G 2 : Int), .int .u64 (word G 3 : Int)] 42)) w.heap.size F ∧ IsTab ((w.alloc (.cells #[.int .u64 (word F 0 : Int), .int .u64 (word F 1 : Int), .int .u64 (word F 2 : Int), .int .u64 (word F 3 : Int)] 42)).alloc (.cells #[.int .u64 (word G 0 : Int), .int .u64 (word G 1 : Int), .int .u64 (word G 2 : Int), .int .u64 (word G 3 : Int)] 42)) (w.heap.size + 1) G ∧ Below w.heap.size w ((w.alloc (.cells #[.int .u64 (word F 0 : Int), .int .u64 (word F 1 : Int), .int .u64 (word F 2 : Int), .int .u64 (word F 3 : Int)] 42)).alloc (.cells #[.int .u64 (word G 0 : Int), .int .u64 (word G 1 : Int), .int .u64 (word G 2 : Int), .int .u64 (word G 3 : Int)] 42)) :=
  ⟨(IsTab.new w F).alloc _, IsTab.newAt (by simp) G, ((Below.refl _ w).alloc (Nat.le_refl _) _).alloc (by simp) _⟩
theorem out_tab {w w' : World} (o : Out w w') {b : Nat} {F : Nat → Bool} (h : IsTab w b F) : IsTab w' b F := o b _ _ _ h (by decide)
theorem callNext (vs : Array Value) (w : World) : (callFunc 27 vs).run Tryz.prog w = .ok (.enter 27 vs) w := by
  have h := Tryz.func27
  go_simp
theorem callOr (vs : Array Value) (w : World) : (callFunc 30 vs).run Tryz.prog w = .ok (.enter 30 vs) w := by
  have h := Tryz.func30
  go_simp
theorem laid_zero {w : World} {b : Nat} {F : Nat → Bool} (h : IsTab w b F) : IsTab ((((w.setCell ⟨b, 0, none⟩ (.int .u64 0)).setCell ⟨b, 1, none⟩ (.int .u64 0)).setCell ⟨b, 2, none⟩ (.int .u64 0)).setCell ⟨b, 3, none⟩ (.int .u64 0)) b (fun _ => false) ∧ Rf.Turned b w ((((w.setCell ⟨b, 0, none⟩ (.int .u64 0)).setCell ⟨b, 1, none⟩ (.int .u64 0)).setCell ⟨b, 2, none⟩ (.int .u64 0)).setCell ⟨b, 3, none⟩ (.int .u64 0)) := by
  have t := Rf.laid_tab h (fun _ => false)
  have u := Rf.laid_turned w b (fun _ => false)
  unfold Rf.laid at t u
  rw [show word (fun _ => false) 0 = 0 by kernel_rfl, show word (fun _ => false) 1 = 0 by kernel_rfl, show word (fun _ => false) 2 = 0 by kernel_rfl, show word (fun _ => false) 3 = 0 by kernel_rfl] at t u
  exact ⟨t, u⟩
theorem Sx.turned {W w w' : World} {S n r m b : Nat} {l : Kl} {F : Nat → Bool} (h : Sx W w S n r l m) (t : IsTab w b F) (tu : Rf.Turned b w w') (far : W.heap.size ≤ b) : Sx W w' S n r l m :=
  h.kept' (h.base.trans (tu.below h.base.size far)) fun k hk => if e : k = b then .inr ⟨_, _, _, (e ▸ t : IsTab w k F), by decide⟩ else .inl (tu.block k hk e)
theorem tri8 (X : Nat → Bool) : Tri 8 X := fun _ _ hx hy h => congrArg X (num_same hx hy h)
set_option maxRecDepth 100000 in
set_option maxHeartbeats 8000000 in
theorem reach_walk (F R : Nat → Bool) (ad : Option Addr) (n cap : Nat) (V : Nat → Nat) (W : World) (hV : BtAt W ad n V) (hb : ∀ i, i < n → V i < 256) :
    Calls Tryz.prog 5 #[tab F, tab R, .slice ad n cap] W fun e w' => e = .returned (.bool true) ∧ Below W.heap.size W w' := by
  obtain ⟨TF, TR, B3⟩ := boxes2' W F R
  have Kk := rknown_any ((W.alloc (.cells #[.int .u64 (word F 0 : Int), .int .u64 (word F 1 : Int), .int .u64 (word F 2 : Int), .int .u64 (word F 3 : Int)] 42)).alloc (.cells #[.int .u64 (word R 0 : Int), .int .u64 (word R 1 : Int), .int .u64 (word R 2 : Int), .int .u64 (word R 3 : Int)] 42))
  have B3A : Aside (Below W.heap.size W ((W.alloc (.cells #[.int .u64 (word F 0 : Int), .int .u64 (word F 1 : Int), .int .u64 (word F 2 : Int), .int .u64 (word F 3 : Int)] 42)).alloc (.cells #[.int .u64 (word R 0 : Int), .int .u64 (word R 1 : Int), .int .u64 (word R 2 : Int), .int .u64 (word R 3 : Int)] 42))) := B3
  conv in #[tab F, tab R, Value.slice ad n cap] => unfold tab
  by_cases n30 : n ≤ 30
  · have hVA : Aside (BtAt W ad n V) := hV
    have hbA : Aside (∀ i, i < n → V i < 256) := hb
    have nA : Aside (n ≤ 30) := n30
    have ni : ¬ (30 : Int) < (n : Int) := by omega
    clear hV hb n30 B3
    go_enter Tryz.func5, Tryz.ntmps5
    go_upto_region 1 with fail
    have bR : Aside (W.heap.size ≤ W.heap.size + 1) := by show W.heap.size ≤ W.heap.size + 1; omega
    generalize (W.alloc (.cells #[.int .u64 (word F 0 : Int), .int .u64 (word F 1 : Int), .int .u64 (word F 2 : Int), .int .u64 (word F 3 : Int)] 42)).alloc (.cells #[.int .u64 (word R 0 : Int), .int .u64 (word R 1 : Int), .int .u64 (word R 2 : Int), .int .u64 (word R 3 : Int)] 42) = v3 at TF TR B3A Kk ⊢
    generalize W.heap.size + 1 = br at TR bR ⊢
    obtain ⟨b0, hb0⟩ : ∃ q, W.heap.size = q := ⟨_, rfl⟩
    rw [hb0] at TF
    conv in (occs := *) (Value.pointer (some ⟨W.heap.size, 0, none⟩)) => all_goals rw [hb0]
    clear hb0
    go_upto_region 5 with (first
      | (go_at_call 9; refine Kk.mono ?_; clear Kk; rintro e v4 ⟨rfl, b4⟩))
    have TF4 := kept TF b4
    have TR4 := kept TR b4
    have Kn : Calls Tryz.prog 10 #[.int .i64 8, .int .i64 32768] v4 _ := new_x W v4 8 32768 (by omega) (by omega) (by omega) (by omega) (Rf.below_far B3A.out b4)
    clear TF TR B3A b4
    go_upto_region 8 with (first
      | (go_at_call 10; refine Kn.mono ?_; clear Kn; rintro e w4 ⟨S, rfl, f4, x4, b5⟩))
    have TF5 := kept TF4 b5
    have TR5 := kept TR4 b5
    obtain ⟨F2, hF2⟩ : ∃ X, Rf.resUpto F 170 0 8 = X := ⟨_, rfl⟩
    have cF : Aside (Cur F2) := by rw [← hF2]; exact Cur.congr (res_cur F) (resUpto_res F 170 0 (by omega) (by omega)).symm
    have KR : ∀ u, Calls Tryz.prog 19 #[tab F, .int .u8 170, .int .u8 0] u fun e w' => e = .returned (tab F2) ∧ Below u.heap.size u w' := fun u => by rw [← hF2]; exact Rf.restrict_any F 170 0 (by omega) (by omega) u
    unfold tab at KR
    obtain ⟨y0, y1, y2, y3⟩ := TF5.copy
    clear hF2 TF4 TR4 b5 f4
    go_upto_region 9 with (first
      | (go_at_call 19; refine (KR _).mono ?_; clear KR; rintro e w5 ⟨rfl, b6⟩))
    have N6 := nb w5 (.cells #[.int .u64 (word F2 0 : Int), .int .u64 (word F2 1 : Int), .int .u64 (word F2 2 : Int), .int .u64 (word F2 3 : Int)] 42)
    have T2 := IsTab.new w5 F2
    have x6 := (x4.below b6).below N6
    have TR6 := kept (kept TR5 b6) N6
    have f2 : Aside (W.heap.size ≤ w5.heap.size) := (x4.below b6).base.size
    have n2 : Aside (w5.heap.size ≠ br) := by have := (kept TR5 b6).lt; show w5.heap.size ≠ br; omega
    clear y0 y1 y2 y3 TF5 TR5 b6 x4 N6
    generalize w5.alloc (.cells #[.int .u64 (word F2 0 : Int), .int .u64 (word F2 1 : Int), .int .u64 (word F2 2 : Int), .int .u64 (word F2 3 : Int)] 42) = w6 at T2 x6 TR6 ⊢
    generalize w5.heap.size = bf at T2 f2 n2 ⊢
    have n2' : Aside (br ≠ bf) := fun e => n2.out e.symm
    have I6 : Aside (IsTab w6 bf F2 ∧ Sx W w6 S 8 32768 [(0, c0), (1, c1)] 0) := ⟨T2, x6⟩
    have TR6A : Aside (IsTab w6 br R) := TR6
    clear T2 x6 TR6
    by_cases n0 : n = 0
    · have nn : ¬ (0 : Int) < (n : Int) := by omega
      have n0A : Aside (n = 0) := n0
      have I7 : Aside (∃ RR, IsTab w6 br RR ∧ IsTab w6 bf F2 ∧ Sx W w6 S 8 32768 [(0, c0), (1, c1)] (128 * 0)) := ⟨R, TR6A.out, I6.out⟩
      clear I6 TR6A n0 hVA hbA
      go_upto_region 12 with fail
      go_loopg [10, 11, 12, 13, 14, 15] n (fun gg s10 _ _ _ _ _ wr => ∃ j : Nat, j + gg = n ∧ s10 = .int .i64 (j : Int) ∧ Aside (∃ RR, IsTab wr br RR ∧ IsTab wr bf F2 ∧ Sx W wr S 8 32768 [(0, c0), (1, c1)] (128 * j)))
      case atStart => exact ⟨0, by omega, rfl, I7⟩
      case round =>
        clear I7
        obtain ⟨j, hj, rfl, hI⟩ := hrel
        obtain ⟨RR, TR, TF, X⟩ := hI.out
        obtain rfl : j = n := by have := n0A.out; omega
        clear hI hj n0A
        have X3 := X.more (b' := 3840) (by have := nA.out; omega)
        have K1 := make_t X3 F2 (tri8 F2) 63 (by decide) (by decide)
        unfold tab at K1
        obtain ⟨y0, y1, y2, y3⟩ := TF.copy
        clear X nA
        go_upto_region 21 with (first
          | (go_at_call 20; refine K1.mono ?_; clear K1 y0 y1 y2 y3; rintro e v1 ⟨a, rfl, x1, u1⟩))
        have T1 := out_tab u1 TR
        have G1 := out_tab u1 TF
        have K2 := make_t x1 RR (tri8 RR) 63 (by decide) (by decide)
        unfold tab at K2
        obtain ⟨y0, y1, y2, y3⟩ := T1.copy
        clear u1 TR TF X3
        go_upto_region 22 with (first
          | (go_at_call 20; refine K2.mono ?_; clear K2 y0 y1 y2 y3; rintro e v2 ⟨b, rfl, x2, u2⟩))
        have T2 := out_tab u2 T1
        have G2 := out_tab u2 G1
        have K3 := reach_x x2 (by decide) cF.out (x := a) (y := b) (X := F2) (Y := RR) (.tail _ (.head _)) (.head _) bud8 573 (by decide) (by decide)
        clear u2 T1 G1 x1 x2
        go_upto_region 23 with (first
          | (go_at_call 15; refine K3.mono ?_; clear K3; rintro e v3 ⟨z, k, rfl, rn, kl, x3, u3⟩))
        have rnA : Aside (Rnd F2 RR k) := rn
        have xm : Sx W v3 S 8 32768 [(z, rchF F2 RR k)] 13707 := (x3.more (by decide)).mono fun p hp => by
          simp at hp
          subst hp
          exact .head _
        have I0 : Aside (IsTab v3 br RR ∧ IsTab v3 bf (rchF F2 RR 0) ∧ Sx W v3 S 8 32768 [(z, rchF F2 RR k)] 13707) := ⟨out_tab u3 T2, out_tab u3 G2, xm⟩
        clear rn u3 T2 G2 x3 xm kl
        go_upto_region 24 with fail
        go_loopg [22, 23] 17 (fun gg s22 s23 wr => ∃ i : Nat, i + gg = 17 ∧ s22 = .int .i64 (i : Int) ∧ Aside (∀ c, s23 = Rf.ptr c → c < wr.heap.size) ∧ Aside (∀ t, t < i → ¬ Eqt (rchF F2 RR (t + 1)) (rchF F2 RR t)) ∧ Aside (IsTab wr br RR ∧ IsTab wr bf (rchF F2 RR i) ∧ Sx W wr S 8 32768 [(z, rchF F2 RR k)] 13707))
        case atStart => exact ⟨0, by omega, rfl, (fun c hc => absurd (show undef = Rf.ptr c from hc) (by simp [undef, Rf.ptr])), (fun t ht => absurd ht (by omega)), I0⟩
        case round =>
          clear I0
          obtain ⟨i, hi, rfl, h23, hN, hI⟩ := hrel
          have i16 : i ≤ 16 := rch_end cF.out i hN.out
          have iA : Aside (i ≤ 16 ∧ i + gk = 17) := ⟨i16, hi⟩
          have gi : ¬ (300 : Int) < (i : Int) := by omega
          obtain ⟨TR, TF, X⟩ := hI.out
          obtain ⟨G, hGe⟩ : ∃ Y, rchF F2 RR i = Y := ⟨_, rfl⟩
          obtain ⟨N, hNx⟩ : ∃ Y, nextF G RR = Y := ⟨_, rfl⟩
          obtain ⟨H, hH⟩ : ∃ Y, (fun x => G x || N x) = Y := ⟨_, rfl⟩
          have eH : Aside (rchF F2 RR (i + 1) = H) := by rw [← hH, ← hNx, ← hGe]; rfl
          have eG : Aside (rchF F2 RR i = G) := hGe
          have KN : ∀ u, Calls Tryz.prog 27 #[tab G, tab RR] u fun e w' => e = .returned (tab N) ∧ Below u.heap.size u w' := fun u => by rw [← hNx]; exact Rf.next_any G RR u
          have KO : ∀ u, Calls Tryz.prog 30 #[tab G, tab N] u fun e w' => e = .returned (tab H) ∧ Below u.heap.size u w' := fun u => by rw [← hH]; exact Rf.or_any G N u
          rw [hGe] at TF
          clear hGe hNx hH hI i16 hi
          go_upto_region 24 with fail
          refine Rf.wp_region_tabs' [.val 99 (tab G), .val 100 (tab G), .val 101 (tab RR), .val 102 (tab N), .val 103 (tab H), .new 23, .put 23 H] [99, 100, 101, 102, 103, 23] [23] [23] 133 (by kernel_rfl) (by kernel_rfl) rfl rfl rfl rfl (by decide) (by decide) rfl (by decide) ?_ ?_ ?_
          · intro s hs c hc
            simp only [List.mem_cons, List.not_mem_nil, or_false] at hs
            subst hs
            exact h23.out c hc
          · intro i kk hk
            match i, hk with
            | 0, hk => obtain rfl := Option.some.inj hk; exact ⟨_, rfl, rfl, rfl, fun a u hG hpre K hK => Rf.wp_load (b := bf) rfl rfl ((hG.other 9 (by decide)).trans rfl) (kept TF hG.below) hK⟩
            | 1, hk => obtain rfl := Option.some.inj hk; exact ⟨_, rfl, rfl, rfl, fun a u hG hpre K hK => Rf.wp_load (b := bf) rfl rfl ((hG.other 9 (by decide)).trans rfl) (kept TF hG.below) hK⟩
            | 2, hk => obtain rfl := Option.some.inj hk; exact ⟨_, rfl, rfl, rfl, fun a u hG hpre K hK => Rf.wp_load (b := br) rfl rfl ((hG.other 4 (by decide)).trans rfl) (kept TR hG.below) hK⟩
            | 3, hk =>
              obtain rfl := Option.some.inj hk
              refine ⟨_, rfl, rfl, rfl, fun ac u hG hpre K hK => ?_⟩
              have e0 : ac.eval (.tmp 100) = tab G := hpre ⟨1, .data⟩ (by simp) rfl _ rfl
              have e1 : ac.eval (.tmp 101) = tab RR := hpre ⟨2, .data⟩ (by simp) rfl _ rfl
              exact Rf.wp_call rfl (Rf.run_call rfl #[tab G, tab RR] (fun vs => callNext vs u) (by simp only [List.map_toArray, List.map_cons, List.map_nil, e0, e1])) (KN u) hK
            | 4, hk =>
              obtain rfl := Option.some.inj hk
              refine ⟨_, rfl, rfl, rfl, fun ac u hG hpre K hK => ?_⟩
              have e0 : ac.eval (.tmp 99) = tab G := hpre ⟨0, .data⟩ (by simp) rfl _ rfl
              have e1 : ac.eval (.tmp 102) = tab N := hpre ⟨3, .data⟩ (by simp) rfl _ rfl
              exact Rf.wp_call rfl (Rf.run_call rfl #[tab G, tab N] (fun vs => callOr vs u) (by simp only [List.map_toArray, List.map_cons, List.map_nil, e0, e1])) (KO u) hK
            | 5, hk => obtain rfl := Option.some.inj hk; exact ⟨_, rfl, rfl, rfl, rfl⟩
            | 6, hk => obtain rfl := Option.some.inj hk; exact ⟨_, rfl, rfl, rfl, 103, rfl, ⟨⟨4, .data⟩, by simp, rfl, rfl⟩, ⟨⟨5, .data⟩, by simp, rfl, rfl⟩⟩
            | i + 7, hk => simp at hk
          · intro bpt w8 s8 hnew hne hput
            have TX := hput 23 H (by simp)
            have TF8 := kept TF s8
            have TR8A : Aside (IsTab w8 br RR) := kept TR s8
            have X8A : Aside (Sx W w8 S 8 32768 [(z, rchF F2 RR k)] 13707) := X.below s8
            have ltA : Aside (bpt 23 < w8.heap.size) := (hnew 23 (by simp)).2
            clear hput hnew hne KN KO TR TF X s8 h23
            simp only [Rf.fin, Rf.Kind.dst?, Rf.kval, Act.put, Rf.ptr, List.setIfInBounds_toArray, List.set_cons_succ, List.set_cons_zero]
            generalize bpt 23 = pg at TX ltA ⊢
            obtain ⟨x0, x1, x2, x3⟩ := TX.copy
            obtain ⟨sv, hsv⟩ : ∃ b, same H G = b := ⟨_, rfl⟩
            have rz : ∀ w, (binOp .eql 42 (tab H) (tab G)).run Tryz.prog w = .ok (.bool sv) w := fun w => by rw [← hsv]; exact run_eqT _ _ w
            unfold tab at rz
            have svA : Aside (same H G = sv) := hsv
            clear hsv
            cases sv with
            | true =>
              obtain ⟨t0, t1, t2, t3⟩ := TF8.copy
              have st : Rnd F2 RR i := ⟨hN.out, by rw [eH.out, eG.out]; exact (Rf.same_iff H G).1 svA.out⟩
              obtain rfl : k = i := rnA.out.one st
              have K5 := is_x X8A.out (x := z) (X := rchF F2 RR k) (Y := G) (.head _) (by rw [eG.out]; exact Eqt.refl _)
              unfold tab at K5
              clear st svA rnA eH eG hN iA
              go_wp2_with (first
                | (go_at_call 26; refine K5.mono ?_; clear K5; rintro e v9 ⟨rfl, b9⟩))
              go_ret
              exact ⟨by simp, (X8A.out.below b9).base⟩
            | false =>
              have ne : Aside (¬ Eqt H G) := fun e => by have := (Rf.same_iff H G).2 e; rw [svA.out] at this; cases this
              have T9 := TF8
              have y0 := T9.cell (k := 0) (by decide); have y1 := T9.cell (k := 1) (by decide); have y2 := T9.cell (k := 2) (by decide); have y3 := T9.cell (k := 3) (by decide); have z0 := T9.free 0; have z1 := T9.free 1; have z2 := T9.free 2; have z3 := T9.free 3
              have tu := Rf.laid_turned w8 bf H
              have I9 : Aside (IsTab (Rf.laid w8 bf H) br RR ∧ IsTab (Rf.laid w8 bf H) bf (rchF F2 RR (i + 1)) ∧ Sx W (Rf.laid w8 bf H) S 8 32768 [(z, rchF F2 RR k)] 13707) := ⟨tu.tab TR8A.out n2'.out, by rw [eH.out]; exact Rf.laid_tab T9 H, X8A.out.turned T9 tu f2.out⟩
              have l9 : Aside (pg < (Rf.laid w8 bf H).heap.size) := Nat.lt_of_lt_of_le ltA.out tu.size
              have n9 : Aside (∀ t, t < i + 1 → ¬ Eqt (rchF F2 RR (t + 1)) (rchF F2 RR t)) := fun t ht => by
                by_cases q : t = i
                · subst q; rw [eH.out, eG.out]; exact ne.out
                · exact hN.out t (by omega)
              unfold Rf.laid at I9 l9
              obtain ⟨t0, t1, t2, t3⟩ := TF8.copy
              clear T9 tu TX TF8 TR8A X8A ltA svA ne hN eH eG y0 y1 y2 y3
              go_wp2_with (fail)
              go_roundg (gk - 1)
              case measure => have := iA.out; omega
              case rel =>
                have h1 := iA.out
                exact ⟨i + 1, by omega, by go_num, (fun c hc => by
                  have e : Rf.ptr pg = Rf.ptr c := hc
                  have : pg = c := by simpa [Rf.ptr] using e
                  exact this ▸ l9.out), n9, I9⟩
    have npi : (0 : Int) < (n : Int) := by omega
    have npA : Aside (0 < n) := by show 0 < n; omega
    have T9 := TR6A.out
    have y0 := T9.cell (k := 0) (by decide); have y1 := T9.cell (k := 1) (by decide); have y2 := T9.cell (k := 2) (by decide); have y3 := T9.cell (k := 3) (by decide); have z0 := T9.free 0; have z1 := T9.free 1; have z2 := T9.free 2; have z3 := T9.free 3
    clear n0
    go_upto_region 11 with fail
    obtain ⟨T7, tu⟩ := laid_zero T9
    have I7 : Aside (∃ RR, IsTab ((((w6.setCell ⟨br, 0, none⟩ (.int .u64 0)).setCell ⟨br, 1, none⟩ (.int .u64 0)).setCell ⟨br, 2, none⟩ (.int .u64 0)).setCell ⟨br, 3, none⟩ (.int .u64 0)) br RR ∧ IsTab ((((w6.setCell ⟨br, 0, none⟩ (.int .u64 0)).setCell ⟨br, 1, none⟩ (.int .u64 0)).setCell ⟨br, 2, none⟩ (.int .u64 0)).setCell ⟨br, 3, none⟩ (.int .u64 0)) bf F2 ∧ Sx W ((((w6.setCell ⟨br, 0, none⟩ (.int .u64 0)).setCell ⟨br, 1, none⟩ (.int .u64 0)).setCell ⟨br, 2, none⟩ (.int .u64 0)).setCell ⟨br, 3, none⟩ (.int .u64 0)) S 8 32768 [(0, c0), (1, c1)] (128 * 0)) := ⟨_, T7, tu.tab I6.out.1 n2.out, I6.out.2.turned T9 tu bR.out⟩
    clear y0 y1 y2 y3 z0 z1 z2 z3 T9 T7 tu I6 TR6A npi
    generalize (((w6.setCell ⟨br, 0, none⟩ (.int .u64 0)).setCell ⟨br, 1, none⟩ (.int .u64 0)).setCell ⟨br, 2, none⟩ (.int .u64 0)).setCell ⟨br, 3, none⟩ (.int .u64 0) = w7 at I7 ⊢
    go_upto_region 12 with fail
    rw [show decide (0 < n) = true from decide_eq_true npA.out]
    go_loopg [10, 11, 12, 13, 14, 15] n (fun gg s10 _ _ _ _ _ wr => ∃ j : Nat, j + gg = n ∧ s10 = .int .i64 (j : Int) ∧ Aside (∃ RR, IsTab wr br RR ∧ IsTab wr bf F2 ∧ Sx W wr S 8 32768 [(0, c0), (1, c1)] (128 * j)))
    case atStart => exact ⟨0, by omega, rfl, I7⟩
    case round =>
      clear I7
      obtain ⟨j, hj, rfl, hI⟩ := hrel
      obtain ⟨RR, TR, TF, X⟩ := hI.out
      have hJ : Aside (j + gk = n) := hj
      by_cases hlt : j < n
      · have hlt' : (j : Int) < (n : Int) := by omega
        have hltA : Aside (j < n) := hlt
        have j30 : j < 30 := by have := nA.out; omega
        obtain ⟨lb, lo, rfl, hc⟩ := hVA.out.some (by omega)
        have c1 := hc j hlt
        have lbW : lb < W.heap.size := by
          rcases hVA.out with q | ⟨b', o', e', lt', _⟩
          · omega
          · cases e'; exact lt'
        have c2 : wr.drew.cell? ⟨lb, lo + j, none⟩ = some (.int .u8 (V j : Int)) := by
          have : wr.cell? ⟨lb, lo + j, none⟩ = some (.int .u8 (V j : Int)) := by rw [X.base.cell lbW]; exact c1
          exact this
        have v256 := hbA.out j hlt
        obtain ⟨p, hp⟩ : ∃ t, V j % 16 = t := ⟨_, rfl⟩
        obtain ⟨q, hq⟩ : ∃ t, V j / 16 = t := ⟨_, rfl⟩
        have p16 : Aside (p < 16) := by show p < 16; omega
        have q16 : Aside (q < 16) := by show q < 16; omega
        have tm : Int.tmod (V j : Int) 16 = (p : Int) := by rw [Int.tmod_eq_emod_of_nonneg (by omega)]; omega
        have tm2 : (V j : Int) % 16 = (p : Int) := by omega
        have td : Int.tdiv (V j : Int) 16 = (q : Int) := by rw [Int.tdiv_eq_ediv_of_nonneg (by omega)]; omega
        have td2 : (V j : Int) / 16 = (q : Int) := by omega
        have wq : IntKind.u8.wrap (q : Int) = (q : Int) := by have := q16.out; rw [IntKind.wrap_u8]; omega
        have wp : IntKind.u8.wrap (p : Int) = (p : Int) := by have := p16.out; rw [IntKind.wrap_u8]; omega
        have Xd := X.below ((Below.refl _ wr).drew)
        have TRd : Aside (IsTab wr.drew br RR) := TR
        have TFd : Aside (IsTab wr.drew bf F2) := TF
        have K1 := pair8 Xd p16.out q16.out (by omega)
        have K2 : ∀ u, Calls Tryz.prog 29 #[.int .u8 (p : Int), .int .u8 (q : Int)] u fun e w' => e = .returned (tab (prUp p q 4)) ∧ Below u.heap.size u w' := lpair_any p q p16.out q16.out
        obtain ⟨P, hP⟩ : ∃ X, prUp p q 4 = X := ⟨_, rfl⟩
        have eP : Aside (Eqt (prF p q) P) := by rw [← hP]; exact (prUp_all p16.out q16.out).symm
        obtain ⟨D, hD⟩ : ∃ X, (fun x => RR x || P x) = X := ⟨_, rfl⟩
        have K4 : ∀ u, Calls Tryz.prog 30 #[tab RR, tab P] u fun e w' => e = .returned (tab D) ∧ Below u.heap.size u w' := fun u => by rw [← hD]; exact Rf.or_any RR P u
        rw [hP] at K2
        unfold tab at K2 K4
        clear hc hj hlt hp hq v256 c1 lbW TR TF X hI hP hD
        generalize V j = vj at c2 tm tm2 td td2
        go_upto_region 14 with fail
        go_region_held3 (fun u => u.cell? ⟨lb, lo + j, none⟩ = some (.int .u8 (vj : Int))) (first | assumption) (fail)
        clear c2 tm tm2 td td2
        go_upto_region 16 with (first
          | (go_at_call 12; refine K1.mono ?_; clear K1; rintro e v1 ⟨z, rfl, x1, u1⟩))
        have T1 := out_tab u1 TRd.out
        have G1 := out_tab u1 TFd.out
        clear u1 TRd TFd Xd
        go_upto_region 17 with (first
          | (go_at_call 29; refine (K2 _).mono ?_; clear K2; rintro e v2 ⟨rfl, b2⟩))
        have N3 := nb v2 (.cells #[.int .u64 (word P 0 : Int), .int .u64 (word P 1 : Int), .int .u64 (word P 2 : Int), .int .u64 (word P 3 : Int)] 42)
        have T3 := kept (kept T1 b2) N3
        have G3 := kept (kept G1 b2) N3
        have P3 := IsTab.new v2 P
        have x3 := (x1.below b2).below N3
        clear b2 N3 T1 G1 x1
        generalize v2.alloc (.cells #[.int .u64 (word P 0 : Int), .int .u64 (word P 1 : Int), .int .u64 (word P 2 : Int), .int .u64 (word P 3 : Int)] 42) = v3 at T3 G3 P3 x3 ⊢
        generalize v2.heap.size = bp at P3 ⊢
        have K3 := is_x x3 (x := z) (X := prF p q) (Y := P) (.head _) eP.out
        unfold tab at K3
        obtain ⟨p0, p1, p2, p3⟩ := P3.copy
        have T3A : Aside (IsTab v3 br RR) := T3
        have G3A : Aside (IsTab v3 bf F2) := G3
        have P3A : Aside (IsTab v3 bp P) := P3
        have x3A : Aside (Sx W v3 S 8 32768 ((z, prF p q) :: [(0, c0), (1, c1)]) (128 * j + 128)) := x3
        clear T3 G3 P3 x3
        go_upto_region 19 with (first
          | (go_at_call 26; refine K3.mono ?_; clear K3 p0 p1 p2 p3; rintro e v4 ⟨rfl, b4⟩))
        have T4 := kept T3A.out b4
        have G4 := kept G3A.out b4
        have P4 := kept P3A.out b4
        have x4 := x3A.out.below b4
        obtain ⟨p0, p1, p2, p3⟩ := P4.copy
        obtain ⟨t0, t1, t2, t3⟩ := T4.copy
        clear T3A G3A P3A x3A b4
        go_upto_region 13 with (first
          | (go_at_call 30; refine (K4 _).mono ?_; clear K4 t0 t1 t2 t3 p0 p1 p2 p3; rintro e v5 ⟨rfl, b5⟩; have T9 := kept T4 b5; have y0 := T9.cell (k := 0) (by decide); have y1 := T9.cell (k := 1) (by decide); have y2 := T9.cell (k := 2) (by decide); have y3 := T9.cell (k := 3) (by decide); have z0 := T9.free 0; have z1 := T9.free 1; have z2 := T9.free 2; have z3 := T9.free 3))
        have tu := Rf.laid_turned v5 br D
        have I9 : Aside (∃ RR, IsTab (Rf.laid v5 br D) br RR ∧ IsTab (Rf.laid v5 br D) bf F2 ∧ Sx W (Rf.laid v5 br D) S 8 32768 [(0, c0), (1, c1)] (128 * j + 128)) := ⟨D, Rf.laid_tab T9 D, tu.tab (kept G4 b5) n2.out, ((x4.below b5).turned T9 tu bR.out).mono fun p hp => .tail _ hp⟩
        unfold Rf.laid at I9
        clear y0 y1 y2 y3 z0 z1 z2 z3 T9 T4 G4 P4 x4 tu b5
        go_wp2_with (fail)
        go_roundg (gk - 1)
        case measure => have := hJ.out; have := hltA.out; omega
        case rel =>
          have h1 := hJ.out
          have h2 := hltA.out
          exact ⟨j + 1, by omega, by go_num, I9⟩
      · obtain rfl : j = n := by have := hJ.out; omega
        clear hI hlt hj hVA hbA
        have X3 := X.more (b' := 3840) (by have := nA.out; omega)
        have K1 := make_t X3 F2 (tri8 F2) 63 (by decide) (by decide)
        unfold tab at K1
        obtain ⟨y0, y1, y2, y3⟩ := TF.copy
        clear X nA
        go_upto_region 21 with (first
          | (go_at_call 20; refine K1.mono ?_; clear K1 y0 y1 y2 y3; rintro e v1 ⟨a, rfl, x1, u1⟩))
        have T1 := out_tab u1 TR
        have G1 := out_tab u1 TF
        have K2 := make_t x1 RR (tri8 RR) 63 (by decide) (by decide)
        unfold tab at K2
        obtain ⟨y0, y1, y2, y3⟩ := T1.copy
        clear u1 TR TF X3
        go_upto_region 22 with (first
          | (go_at_call 20; refine K2.mono ?_; clear K2 y0 y1 y2 y3; rintro e v2 ⟨b, rfl, x2, u2⟩))
        have T2 := out_tab u2 T1
        have G2 := out_tab u2 G1
        have K3 := reach_x x2 (by decide) cF.out (x := a) (y := b) (X := F2) (Y := RR) (.tail _ (.head _)) (.head _) bud8 573 (by decide) (by decide)
        clear u2 T1 G1 x1 x2
        go_upto_region 23 with (first
          | (go_at_call 15; refine K3.mono ?_; clear K3; rintro e v3 ⟨z, k, rfl, rn, kl, x3, u3⟩))
        have rnA : Aside (Rnd F2 RR k) := rn
        have xm : Sx W v3 S 8 32768 [(z, rchF F2 RR k)] 13707 := (x3.more (by decide)).mono fun p hp => by
          simp at hp
          subst hp
          exact .head _
        have I0 : Aside (IsTab v3 br RR ∧ IsTab v3 bf (rchF F2 RR 0) ∧ Sx W v3 S 8 32768 [(z, rchF F2 RR k)] 13707) := ⟨out_tab u3 T2, out_tab u3 G2, xm⟩
        clear rn u3 T2 G2 x3 xm kl
        go_upto_region 24 with fail
        go_loopg [22, 23] 17 (fun gg s22 s23 wr => ∃ i : Nat, i + gg = 17 ∧ s22 = .int .i64 (i : Int) ∧ Aside (∀ c, s23 = Rf.ptr c → c < wr.heap.size) ∧ Aside (∀ t, t < i → ¬ Eqt (rchF F2 RR (t + 1)) (rchF F2 RR t)) ∧ Aside (IsTab wr br RR ∧ IsTab wr bf (rchF F2 RR i) ∧ Sx W wr S 8 32768 [(z, rchF F2 RR k)] 13707))
        case atStart => exact ⟨0, by omega, rfl, (fun c hc => absurd (show undef = Rf.ptr c from hc) (by simp [undef, Rf.ptr])), (fun t ht => absurd ht (by omega)), I0⟩
        case round =>
          clear I0
          obtain ⟨i, hi, rfl, h23, hN, hI⟩ := hrel
          have i16 : i ≤ 16 := rch_end cF.out i hN.out
          have iA : Aside (i ≤ 16 ∧ i + gk = 17) := ⟨i16, hi⟩
          have gi : ¬ (300 : Int) < (i : Int) := by omega
          obtain ⟨TR, TF, X⟩ := hI.out
          obtain ⟨G, hGe⟩ : ∃ Y, rchF F2 RR i = Y := ⟨_, rfl⟩
          obtain ⟨N, hNx⟩ : ∃ Y, nextF G RR = Y := ⟨_, rfl⟩
          obtain ⟨H, hH⟩ : ∃ Y, (fun x => G x || N x) = Y := ⟨_, rfl⟩
          have eH : Aside (rchF F2 RR (i + 1) = H) := by rw [← hH, ← hNx, ← hGe]; rfl
          have eG : Aside (rchF F2 RR i = G) := hGe
          have KN : ∀ u, Calls Tryz.prog 27 #[tab G, tab RR] u fun e w' => e = .returned (tab N) ∧ Below u.heap.size u w' := fun u => by rw [← hNx]; exact Rf.next_any G RR u
          have KO : ∀ u, Calls Tryz.prog 30 #[tab G, tab N] u fun e w' => e = .returned (tab H) ∧ Below u.heap.size u w' := fun u => by rw [← hH]; exact Rf.or_any G N u
          rw [hGe] at TF
          clear hGe hNx hH hI i16 hi
          go_upto_region 24 with fail
          refine Rf.wp_region_tabs' [.val 99 (tab G), .val 100 (tab G), .val 101 (tab RR), .val 102 (tab N), .val 103 (tab H), .new 23, .put 23 H] [99, 100, 101, 102, 103, 23] [23] [23] 133 (by kernel_rfl) (by kernel_rfl) rfl rfl rfl rfl (by decide) (by decide) rfl (by decide) ?_ ?_ ?_
          · intro s hs c hc
            simp only [List.mem_cons, List.not_mem_nil, or_false] at hs
            subst hs
            exact h23.out c hc
          · intro i kk hk
            match i, hk with
            | 0, hk => obtain rfl := Option.some.inj hk; exact ⟨_, rfl, rfl, rfl, fun a u hG hpre K hK => Rf.wp_load (b := bf) rfl rfl ((hG.other 9 (by decide)).trans rfl) (kept TF hG.below) hK⟩
            | 1, hk => obtain rfl := Option.some.inj hk; exact ⟨_, rfl, rfl, rfl, fun a u hG hpre K hK => Rf.wp_load (b := bf) rfl rfl ((hG.other 9 (by decide)).trans rfl) (kept TF hG.below) hK⟩
            | 2, hk => obtain rfl := Option.some.inj hk; exact ⟨_, rfl, rfl, rfl, fun a u hG hpre K hK => Rf.wp_load (b := br) rfl rfl ((hG.other 4 (by decide)).trans rfl) (kept TR hG.below) hK⟩
            | 3, hk =>
              obtain rfl := Option.some.inj hk
              refine ⟨_, rfl, rfl, rfl, fun ac u hG hpre K hK => ?_⟩
              have e0 : ac.eval (.tmp 100) = tab G := hpre ⟨1, .data⟩ (by simp) rfl _ rfl
              have e1 : ac.eval (.tmp 101) = tab RR := hpre ⟨2, .data⟩ (by simp) rfl _ rfl
              exact Rf.wp_call rfl (Rf.run_call rfl #[tab G, tab RR] (fun vs => callNext vs u) (by simp only [List.map_toArray, List.map_cons, List.map_nil, e0, e1])) (KN u) hK
            | 4, hk =>
              obtain rfl := Option.some.inj hk
              refine ⟨_, rfl, rfl, rfl, fun ac u hG hpre K hK => ?_⟩
              have e0 : ac.eval (.tmp 99) = tab G := hpre ⟨0, .data⟩ (by simp) rfl _ rfl
              have e1 : ac.eval (.tmp 102) = tab N := hpre ⟨3, .data⟩ (by simp) rfl _ rfl
              exact Rf.wp_call rfl (Rf.run_call rfl #[tab G, tab N] (fun vs => callOr vs u) (by simp only [List.map_toArray, List.map_cons, List.map_nil, e0, e1])) (KO u) hK
            | 5, hk => obtain rfl := Option.some.inj hk; exact ⟨_, rfl, rfl, rfl, rfl⟩
            | 6, hk => obtain rfl := Option.some.inj hk; exact ⟨_, rfl, rfl, rfl, 103, rfl, ⟨⟨4, .data⟩, by simp, rfl, rfl⟩, ⟨⟨5, .data⟩, by simp, rfl, rfl⟩⟩
            | i + 7, hk => simp at hk
          · intro bpt w8 s8 hnew hne hput
            have TX := hput 23 H (by simp)
            have TF8 := kept TF s8
            have TR8A : Aside (IsTab w8 br RR) := kept TR s8
            have X8A : Aside (Sx W w8 S 8 32768 [(z, rchF F2 RR k)] 13707) := X.below s8
            have ltA : Aside (bpt 23 < w8.heap.size) := (hnew 23 (by simp)).2
            clear hput hnew hne KN KO TR TF X s8 h23
            simp only [Rf.fin, Rf.Kind.dst?, Rf.kval, Act.put, Rf.ptr, List.setIfInBounds_toArray, List.set_cons_succ, List.set_cons_zero]
            generalize bpt 23 = pg at TX ltA ⊢
            obtain ⟨x0, x1, x2, x3⟩ := TX.copy
            obtain ⟨sv, hsv⟩ : ∃ b, same H G = b := ⟨_, rfl⟩
            have rz : ∀ w, (binOp .eql 42 (tab H) (tab G)).run Tryz.prog w = .ok (.bool sv) w := fun w => by rw [← hsv]; exact run_eqT _ _ w
            unfold tab at rz
            have svA : Aside (same H G = sv) := hsv
            clear hsv
            cases sv with
            | true =>
              obtain ⟨t0, t1, t2, t3⟩ := TF8.copy
              have st : Rnd F2 RR i := ⟨hN.out, by rw [eH.out, eG.out]; exact (Rf.same_iff H G).1 svA.out⟩
              obtain rfl : k = i := rnA.out.one st
              have K5 := is_x X8A.out (x := z) (X := rchF F2 RR k) (Y := G) (.head _) (by rw [eG.out]; exact Eqt.refl _)
              unfold tab at K5
              clear st svA rnA eH eG hN iA
              go_wp2_with (first
                | (go_at_call 26; refine K5.mono ?_; clear K5; rintro e v9 ⟨rfl, b9⟩))
              go_ret
              exact ⟨by simp, (X8A.out.below b9).base⟩
            | false =>
              have ne : Aside (¬ Eqt H G) := fun e => by have := (Rf.same_iff H G).2 e; rw [svA.out] at this; cases this
              have T9 := TF8
              have y0 := T9.cell (k := 0) (by decide); have y1 := T9.cell (k := 1) (by decide); have y2 := T9.cell (k := 2) (by decide); have y3 := T9.cell (k := 3) (by decide); have z0 := T9.free 0; have z1 := T9.free 1; have z2 := T9.free 2; have z3 := T9.free 3
              have tu := Rf.laid_turned w8 bf H
              have I9 : Aside (IsTab (Rf.laid w8 bf H) br RR ∧ IsTab (Rf.laid w8 bf H) bf (rchF F2 RR (i + 1)) ∧ Sx W (Rf.laid w8 bf H) S 8 32768 [(z, rchF F2 RR k)] 13707) := ⟨tu.tab TR8A.out n2'.out, by rw [eH.out]; exact Rf.laid_tab T9 H, X8A.out.turned T9 tu f2.out⟩
              have l9 : Aside (pg < (Rf.laid w8 bf H).heap.size) := Nat.lt_of_lt_of_le ltA.out tu.size
              have n9 : Aside (∀ t, t < i + 1 → ¬ Eqt (rchF F2 RR (t + 1)) (rchF F2 RR t)) := fun t ht => by
                by_cases q : t = i
                · subst q; rw [eH.out, eG.out]; exact ne.out
                · exact hN.out t (by omega)
              unfold Rf.laid at I9 l9
              obtain ⟨t0, t1, t2, t3⟩ := TF8.copy
              clear T9 tu TX TF8 TR8A X8A ltA svA ne hN eH eG y0 y1 y2 y3
              go_wp2_with (fail)
              go_roundg (gk - 1)
              case measure => have := iA.out; omega
              case rel =>
                have h1 := iA.out
                exact ⟨i + 1, by omega, by go_num, (fun c hc => by
                  have e : Rf.ptr pg = Rf.ptr c := hc
                  have : pg = c := by simpa [Rf.ptr] using e
                  exact this ▸ l9.out), n9, I9⟩
  · have ni : (30 : Int) < (n : Int) := by omega
    clear hV hb n30 TF TR B3
    go_enter Tryz.func5, Tryz.ntmps5
    go_wp2_with (first
      | (go_at_call 9; refine Kk.mono ?_; clear Kk; rintro e w1 ⟨rfl, b1⟩))
    go_ret
    exact ⟨rfl, Rf.below_far B3A.out b1⟩
end Go.Proofs.YtdjjelknjojnfaaGreat
