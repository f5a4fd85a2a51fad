/-
  LogicTwice, walked.
-/
import Derived.Test.YtffhmelgpnmbbaaGreatTwQ
namespace Go.Proofs.YtffhmelgpnmbbaaGreat
open Go Go.RowKit
open Rf (tab word IsTab)

theorem size_h : (sizeOf 33).run Tryz.prog = fun w => .ok 1 w := by
  funext w
  have h : (Tryz.prog.info? 33).map (·.size) = some 1 := by kernel_rfl
  obtain ⟨i, hi, hs⟩ := Option.map_eq_some_iff.1 h
  simp [sizeOf, typeInfo, hi, hs]
theorem part_h (xs : Array Value) (k : Nat) (a : Int) (hx : xs[k]? = some (.int .u32 a)) (w : World) : (part 33 xs k).run Tryz.prog w = .ok (.int .u32 a) w := by
  simp [part, hx]
theorem equal5 (a0 a1 a2 a3 a4 : Int) (w : World) :
    (Op.equalIn 10000 47 (.agg #[.int .u32 a0, .int .u32 a1, .int .u32 a2, .int .u32 a3, .int .u32 a4]) (.agg #[.int .u32 a0, .int .u32 a1, .int .u32 a2, .int .u32 a3, .int .u32 a4])).run Tryz.prog w = .ok true w := by
  have hi : ∀ (a b : Int) (w : World), (Op.equalIn 9999 33 (.int .u32 a) (.int .u32 b)).run Tryz.prog w = .ok (a == b) w := fun a b w => run_equalIn_int w 9998 33 .u32 .u32 a b Tryz.underlying33
  rw [show (10000 : Nat) = 9999 + 1 from rfl]
  generalize 9999 = d at hi
  have h1 := size_h
  simp only [Op.equalIn, Sem.run_bind, run_underlying Tryz.underlying47, Result.andThen_ok, h1]
  have hr : (List.range' 0 5 1) = [0, 1, 2, 3, 4] := rfl
  rw [Std.Legacy.Range.forIn_eq_forIn_range', show Std.Legacy.Range.size [:5] = 5 from rfl, hr]
  have p0 := fun w => part_h #[.int .u32 a0, .int .u32 a1, .int .u32 a2, .int .u32 a3, .int .u32 a4] 0 a0 rfl w
  have p1 := fun w => part_h #[.int .u32 a0, .int .u32 a1, .int .u32 a2, .int .u32 a3, .int .u32 a4] 1 a1 rfl w
  have p2 := fun w => part_h #[.int .u32 a0, .int .u32 a1, .int .u32 a2, .int .u32 a3, .int .u32 a4] 2 a2 rfl w
  have p3 := fun w => part_h #[.int .u32 a0, .int .u32 a1, .int .u32 a2, .int .u32 a3, .int .u32 a4] 3 a3 rfl w
  have p4 := fun w => part_h #[.int .u32 a0, .int .u32 a1, .int .u32 a2, .int .u32 a3, .int .u32 a4] 4 a4 rfl w
  simp [List.forIn_cons, List.forIn_nil, Sem.run_bind, Nat.mul_one, p0, p1, p2, p3, p4, hi, Result.andThen_ok, Sem.run_ite, Sem.run_pure]
theorem has_len {M M' : Mdl} (o : M.Ok) (o' : M'.Ok) (h : ∀ X, Has M' X ↔ Has M X) : M'.hs.length = M.hs.length := by
  rw [← encs_len M, ← encs_len M']
  refine Nat.le_antisymm (nodup_le _ _ (encs_nodup o') fun z hz => ?_) (nodup_le _ _ (encs_nodup o) fun z hz => ?_)
  · obtain ⟨G, rfl⟩ := encs_ex hz
    exact encs_iff.2 ((h G).1 (encs_iff.1 hz))
  · obtain ⟨G, rfl⟩ := encs_ex hz
    exact encs_iff.2 ((h G).2 (encs_iff.1 hz))
theorem lt46 {i : Nat} (h : i < 46) : i = 0 ∨ i = 1 ∨ i = 2 ∨ i = 3 ∨ i = 4 ∨ i = 5 ∨ i = 6 ∨ i = 7 ∨ i = 8 ∨ i = 9 ∨ i = 10 ∨ i = 11 ∨ i = 12 ∨ i = 13 ∨ i = 14 ∨ i = 15 ∨ i = 16 ∨ i = 17 ∨ i = 18 ∨ i = 19 ∨ i = 20 ∨ i = 21 ∨ i = 22 ∨ i = 23 ∨ i = 24 ∨ i = 25 ∨ i = 26 ∨ i = 27 ∨ i = 28 ∨ i = 29 ∨ i = 30 ∨ i = 31 ∨ i = 32 ∨ i = 33 ∨ i = 34 ∨ i = 35 ∨ i = 36 ∨ i = 37 ∨ i = 38 ∨ i = 39 ∨ i = 40 ∨ i = 41 ∨ i = 42 ∨ i = 43 ∨ i = 44 ∨ i = 45 := by omega
/-- What holds ahead of a round. -/
structure TwI (W wr : World) (S br bl : Nat) (F G H : Nat → Bool) (a b c r : Nat) (s13 : Value) (F1 : Nat → Prop) (M : Mdl) (l1 l2 l3 l4 l5 : Value) : Prop where
  st : St wr S F1 M
  n8 : M.n = 8
  room : M.room = 3000
  up : M.up ≤ 189 + 315 * r
  base : Below W.heap.size W wr
  far : ∀ k, F1 k → W.heap.size ≤ k
  xb : Is3 wr br (.int .u32 (a : Int)) (.int .u32 (b : Int)) (.int .u32 (c : Int))
  lb : Is5 wr bl l1 l2 l3 l4 l5
  ha : Hn M a F
  hb : Hn M b G
  hc : Hn M c H
  far5 : W.heap.size ≤ bl
  n : ∃ nv : Int, s13 = .int .i64 nv ∧ (r = 1 → nv = (M.hs.length : Int))
  l : r = 1 → ∃ z1 z2 z3 z4 z5 : Nat, l1 = .int .u32 (z1 : Int) ∧ l2 = .int .u32 (z2 : Int) ∧ l3 = .int .u32 (z3 : Int) ∧ l4 = .int .u32 (z4 : Int) ∧ l5 = .int .u32 (z5 : Int) ∧ Hn M z1 (fN F) ∧ Hn M z2 (fA F G) ∧ Hn M z3 (fO G H) ∧ Hn M z4 (fX F H) ∧ Hn M z5 (fI F G H)
theorem TwI.start {W wr : World} {S br bl : Nat} {F G H : Nat → Bool} {a b c r : Nat} {s13 : Value} {F1 : Nat → Prop} {M : Mdl} {l1 l2 l3 l4 l5 : Value} (I : TwI W wr S br bl F G H a b c r s13 F1 M l1 l2 l3 l4 l5) (a0 : Act) : TG W S br bl F G H a b c (189 + 315 * r) M l1 l2 l3 l4 l5 a0 (Array.replicate 48 false) a0 wr.drew := by
  refine ⟨rfl, rfl, fun _ _ _ => rfl, I.xb, I.lb, ⟨F1, M, I.st.drew, Mdl.Grew.refl M, ?_, I.base.drew, I.far, fun _ _ => Iff.rfl, fun i _ hl => ?_⟩, fun hl => ?_⟩
  · have : calls (Array.replicate 48 false) = 0 := by unfold calls cn; simp
    rw [this]
    exact I.up
  · rw [getD_start] at hl; cases hl
  · rw [getD_start] at hl; cases hl
theorem vfin_of {a0 ac : Act} (hs : ac.tmps.size = a0.tmps.size) (hd : ac.defers = a0.defers) (h97 : a0.tmps.size = 97) (ho : ∀ s : Nat, s ≠ 15 → (s < 32 ∨ 78 ≤ s) → slot ac s = slot a0 s) : ∃ f : Nat → Value, ac = Rf.vfin ((32, f 0) :: (33, f 1) :: (34, f 2) :: (35, f 3) :: (36, f 4) :: (37, f 5) :: (38, f 6) :: (39, f 7) :: (40, f 8) :: (41, f 9) :: (42, f 10) :: (43, f 11) :: (44, f 12) :: (45, f 13) :: (46, f 14) :: (47, f 15) :: (48, f 16) :: (49, f 17) :: (50, f 18) :: (51, f 19) :: (52, f 20) :: (53, f 21) :: (54, f 22) :: (55, f 23) :: (56, f 24) :: (57, f 25) :: (58, f 26) :: (59, f 27) :: (60, f 28) :: (61, f 29) :: (62, f 30) :: (63, f 31) :: (64, f 32) :: (65, f 33) :: (66, f 34) :: (67, f 35) :: (68, f 36) :: (69, f 37) :: (70, f 38) :: (71, f 39) :: (72, f 40) :: (73, f 41) :: (74, f 42) :: (75, f 43) :: (76, f 44) :: (77, f 45) :: [(15, slot ac 15)]) a0 := by
  refine ⟨fun i => slot ac (32 + i), Rf.vact_fin _ _ _ (by simp) hs hd (fun s hn => ?_) (fun k hk => ?_)⟩
  · by_cases e : @Eq Nat s 15
    · exact absurd (by rw [show s = 15 from e]; simp) hn
    · refine ho s e ?_
      rcases Nat.lt_or_ge s 32 with q | q
      · exact .inl q
      · rcases Nat.lt_or_ge s 78 with r | r
        · exfalso
          obtain ⟨i, hi, e⟩ : ∃ i : Nat, i < 46 ∧ @Eq Nat s (32 + i) := ⟨s - 32, by omega, by omega⟩
          rcases lt46 hi with rfl | rfl | rfl | rfl | rfl | rfl | rfl | rfl | rfl | rfl | rfl | rfl | rfl | rfl | rfl | rfl | rfl | rfl | rfl | rfl | rfl | rfl | rfl | rfl | rfl | rfl | rfl | rfl | rfl | rfl | rfl | rfl | rfl | rfl | rfl | rfl | rfl | rfl | rfl | rfl | rfl | rfl | rfl | rfl | rfl | rfl <;> exact hn (by rw [show s = _ from e]; simp)
        · exact .inr r
  · rw [h97]
    simp only [List.mem_cons, List.not_mem_nil, or_false] at hk
    rcases hk with rfl | rfl | rfl | rfl | rfl | rfl | rfl | rfl | rfl | rfl | rfl | rfl | rfl | rfl | rfl | rfl | rfl | rfl | rfl | rfl | rfl | rfl | rfl | rfl | rfl | rfl | rfl | rfl | rfl | rfl | rfl | rfl | rfl | rfl | rfl | rfl | rfl | rfl | rfl | rfl | rfl | rfl | rfl | rfl | rfl | rfl | rfl
    · exact ⟨show @LT.lt Nat _ 32 97 by omega, rfl⟩
    · exact ⟨show @LT.lt Nat _ 33 97 by omega, rfl⟩
    · exact ⟨show @LT.lt Nat _ 34 97 by omega, rfl⟩
    · exact ⟨show @LT.lt Nat _ 35 97 by omega, rfl⟩
    · exact ⟨show @LT.lt Nat _ 36 97 by omega, rfl⟩
    · exact ⟨show @LT.lt Nat _ 37 97 by omega, rfl⟩
    · exact ⟨show @LT.lt Nat _ 38 97 by omega, rfl⟩
    · exact ⟨show @LT.lt Nat _ 39 97 by omega, rfl⟩
    · exact ⟨show @LT.lt Nat _ 40 97 by omega, rfl⟩
    · exact ⟨show @LT.lt Nat _ 41 97 by omega, rfl⟩
    · exact ⟨show @LT.lt Nat _ 42 97 by omega, rfl⟩
    · exact ⟨show @LT.lt Nat _ 43 97 by omega, rfl⟩
    · exact ⟨show @LT.lt Nat _ 44 97 by omega, rfl⟩
    · exact ⟨show @LT.lt Nat _ 45 97 by omega, rfl⟩
    · exact ⟨show @LT.lt Nat _ 46 97 by omega, rfl⟩
    · exact ⟨show @LT.lt Nat _ 47 97 by omega, rfl⟩
    · exact ⟨show @LT.lt Nat _ 48 97 by omega, rfl⟩
    · exact ⟨show @LT.lt Nat _ 49 97 by omega, rfl⟩
    · exact ⟨show @LT.lt Nat _ 50 97 by omega, rfl⟩
    · exact ⟨show @LT.lt Nat _ 51 97 by omega, rfl⟩
    · exact ⟨show @LT.lt Nat _ 52 97 by omega, rfl⟩
    · exact ⟨show @LT.lt Nat _ 53 97 by omega, rfl⟩
    · exact ⟨show @LT.lt Nat _ 54 97 by omega, rfl⟩
    · exact ⟨show @LT.lt Nat _ 55 97 by omega, rfl⟩
    · exact ⟨show @LT.lt Nat _ 56 97 by omega, rfl⟩
    · exact ⟨show @LT.lt Nat _ 57 97 by omega, rfl⟩
    · exact ⟨show @LT.lt Nat _ 58 97 by omega, rfl⟩
    · exact ⟨show @LT.lt Nat _ 59 97 by omega, rfl⟩
    · exact ⟨show @LT.lt Nat _ 60 97 by omega, rfl⟩
    · exact ⟨show @LT.lt Nat _ 61 97 by omega, rfl⟩
    · exact ⟨show @LT.lt Nat _ 62 97 by omega, rfl⟩
    · exact ⟨show @LT.lt Nat _ 63 97 by omega, rfl⟩
    · exact ⟨show @LT.lt Nat _ 64 97 by omega, rfl⟩
    · exact ⟨show @LT.lt Nat _ 65 97 by omega, rfl⟩
    · exact ⟨show @LT.lt Nat _ 66 97 by omega, rfl⟩
    · exact ⟨show @LT.lt Nat _ 67 97 by omega, rfl⟩
    · exact ⟨show @LT.lt Nat _ 68 97 by omega, rfl⟩
    · exact ⟨show @LT.lt Nat _ 69 97 by omega, rfl⟩
    · exact ⟨show @LT.lt Nat _ 70 97 by omega, rfl⟩
    · exact ⟨show @LT.lt Nat _ 71 97 by omega, rfl⟩
    · exact ⟨show @LT.lt Nat _ 72 97 by omega, rfl⟩
    · exact ⟨show @LT.lt Nat _ 73 97 by omega, rfl⟩
    · exact ⟨show @LT.lt Nat _ 74 97 by omega, rfl⟩
    · exact ⟨show @LT.lt Nat _ 75 97 by omega, rfl⟩
    · exact ⟨show @LT.lt Nat _ 76 97 by omega, rfl⟩
    · exact ⟨show @LT.lt Nat _ 77 97 by omega, rfl⟩
    · exact ⟨show @LT.lt Nat _ 15 97 by omega, rfl⟩
set_option maxRecDepth 100000 in
set_option maxHeartbeats 4000000 in
theorem twice_walk (F G H : Nat → Bool) (on : Bool) (W : World) :
    Calls Tryz.prog 4 #[tab F, tab G, tab H, .bool on] W fun e w' => e = .returned (.bool true) ∧ Below W.heap.size W w' := by
  conv in #[tab F, tab G, tab H, Value.bool on] => unfold tab
  go_enter Tryz.func4, Tryz.ntmps4
  go_upto_region 1 with fail
  obtain ⟨TF, TG, TH, B3, hs⟩ := boxes3 W F G H
  generalize ((W.alloc (.cells #[.int .u64 (word F 0 : Int), .int .u64 (word F 1 : Int), .int .u64 (word F 2 : Int), .int .u64 (word F 3 : Int)] 24)).alloc (.cells #[.int .u64 (word G 0 : Int), .int .u64 (word G 1 : Int), .int .u64 (word G 2 : Int), .int .u64 (word G 3 : Int)] 24)).alloc (.cells #[.int .u64 (word H 0 : Int), .int .u64 (word H 1 : Int), .int .u64 (word H 2 : Int), .int .u64 (word H 3 : Int)] 24) = v3 at TF TG TH B3 hs ⊢
  have B3A : Aside (Below W.heap.size W v3) := B3
  clear hs B3
  generalize W.heap.size + 1 + 1 = bh at TH ⊢
  generalize W.heap.size + 1 = bg at TG ⊢
  generalize W.heap.size = bf at TF ⊢
  have Kk := known_any v3
  go_upto_region 3 with (first
    | (go_at_call 6; refine Kk.mono ?_; clear Kk; rintro e v4 ⟨rfl, b4⟩))
  have TF4 := kept TF b4
  have TG4 := kept TG b4
  have TH4 := kept TH b4
  have B4 : Aside (Below W.heap.size W v4) := Rf.below_far B3A.out b4
  clear TF TG TH B3A b4
  have K3 := three_any v4 F G H
  unfold tab at K3
  obtain ⟨p0, p1, p2, p3⟩ := TF4.copy
  obtain ⟨q0, q1, q2, q3⟩ := TG4.copy
  obtain ⟨r0, r1, r2, r3⟩ := TH4.copy
  go_upto_region 4 with (first
    | (go_at_call 17; refine K3.mono ?_; clear K3; rintro e v5 ⟨S, a, b, c, rfl, x5⟩))
  have x0 := (x5.rebase B4.out).below (nb v5 (.cells #[.int .u32 (a : Int), .int .u32 (b : Int), .int .u32 (c : Int)] 44))
  have i0 : Is3 (v5.alloc (.cells #[.int .u32 (a : Int), .int .u32 (b : Int), .int .u32 (c : Int)] 44)) v5.heap.size _ _ _ := Go.Deep.blk_alloc_new _ _
  have hv5 : W.heap.size ≤ v5.heap.size := (x5.rebase B4.out).base.size
  clear p0 p1 p2 p3 q0 q1 q2 q3 r0 r1 r2 r3 TF4 TG4 TH4 x5 B4
  generalize v5.alloc (.cells #[.int .u32 (a : Int), .int .u32 (b : Int), .int .u32 (c : Int)] 44) = v6 at x0 i0 ⊢
  generalize v5.heap.size = br at i0 hv5 ⊢
  go_upto_region 7 with fail
  have xb : Is3 (v6.alloc (.cells #[.int .u32 0, .int .u32 0, .int .u32 0, .int .u32 0, .int .u32 0] 47)) br _ _ _ := (Out.below (nb v6 (.cells #[.int .u32 0, .int .u32 0, .int .u32 0, .int .u32 0, .int .u32 0] 47))).is3 i0
  have lb : Is5 (v6.alloc (.cells #[.int .u32 0, .int .u32 0, .int .u32 0, .int .u32 0, .int .u32 0] 47)) v6.heap.size _ _ _ _ _ := Go.Deep.blk_alloc_new _ _
  have x1 := x0.below (nb v6 (.cells #[.int .u32 0, .int .u32 0, .int .u32 0, .int .u32 0, .int .u32 0] 47))
  have hv6 : W.heap.size ≤ v6.heap.size := x0.base.size
  generalize v6.alloc (.cells #[.int .u32 0, .int .u32 0, .int .u32 0, .int .u32 0, .int .u32 0] 47) = v7 at xb lb x1 ⊢
  generalize v6.heap.size = bl at lb hv6 ⊢
  have I0 : Aside (∃ F1 M, TwI W v7 S br bl F G H a b c 0 (.int .i64 0) F1 M (.int .u32 0) (.int .u32 0) (.int .u32 0) (.int .u32 0) (.int .u32 0)) := by
    obtain ⟨F1, M, st, n8, rm, up, kn, B, f⟩ := x1
    exact ⟨F1, M, st, n8, rm, up, B, f, xb, lb, kn (a, F) (.tail _ (.tail _ (.head _))), kn (b, G) (.tail _ (.head _)), kn (c, H) (.head _), hv6, ⟨0, rfl, fun e => by omega⟩, fun e => by omega⟩
  clear x0 x1 i0 xb lb hv5 hv6
  go_wp2_with fail
  go_loopg [13, 14, 15] 2 (fun gk s13 s14 s15 wr => ∃ r : Nat, r + gk = 2 ∧ s14 = .int .i64 (r : Int) ∧ ∃ F1 M l1 l2 l3 l4 l5, TwI W wr S br bl F G H a b c r s13 F1 M l1 l2 l3 l4 l5)
  case atStart =>
    obtain ⟨F1, M, I⟩ := I0.out
    exact ⟨0, by omega, rfl, F1, M, _, _, _, _, _, I⟩
  case round =>
    clear I0
    obtain ⟨r, hr, rfl, F1, M, l1, l2, l3, l4, l5, I⟩ := hrel
    have hR : Aside (r + gk = 2) := hr
    have cr : r = 0 ∨ r = 1 ∨ r = 2 := by omega
    clear hr
    obtain ⟨nv, rfl, hnv⟩ := I.n
    rcases cr with rfl | rfl | rfl
    · go_upto_region 11 with fail
      refine five_region (b0 := 189) rfl rfl rfl I.st.ok I.n8 I.room (by omega) I.ha I.hb I.hc (I.start _) fun listed ac w' g h47 => ?_
      obtain ⟨F2, M2, wo, g5, z1, z2, z3, z4, z5, q15, g1, g2, I5, h1, h2, h3, h4, h5⟩ := g.fin h47
      obtain ⟨f, ef⟩ := vfin_of g.size g.defers rfl g.other
      rw [ef, q15]
      have xb := g.xb
      have lb := g.lb
      have Ms := I.st.ok
      have ha := I.ha.grew Ms wo.grew
      have hb := I.hb.grew Ms wo.grew
      have hc := I.hc.grew Ms wo.grew
      have n8 := wo.grew.n.trans I.n8
      have rm := wo.grew.room.trans I.room
      have up := wo.up
      have cl := calls_le listed
      have up2 : Aside (M2.up ≤ 189 + 315 * 1) := by show _ ≤ _; omega
      have st := wo.st
      have bs : Aside (Below W.heap.size W w') := wo.base
      have fr : Aside (∀ k, F2 k → W.heap.size ≤ k) := wo.far
      have hbl : Aside (W.heap.size ≤ bl) := I.far5
      have h15 : Aside (Hn M2 z1 (fN F) ∧ Hn M2 z2 (fA F G) ∧ Hn M2 z3 (fO G H) ∧ Hn M2 z4 (fX F H) ∧ Hn M2 z5 (fI F G H)) := ⟨h1, h2, h3, h4, h5⟩
      clear ef q15 g h47 wo up cl Ms h1 h2 h3 h4 h5 hnv I
      simp only [Rf.vfin, Act.put, List.setIfInBounds_toArray, List.set_cons_succ, List.set_cons_zero]
      generalize f 0 = f0
      generalize f 1 = f1
      generalize f 2 = f2
      generalize f 3 = f3
      generalize f 4 = f4
      generalize f 5 = f5
      generalize f 6 = f6
      generalize f 7 = f7
      generalize f 8 = f8
      generalize f 9 = f9
      generalize f 10 = f10
      generalize f 11 = f11
      generalize f 12 = f12
      generalize f 13 = f13
      generalize f 14 = f14
      generalize f 15 = f15
      generalize f 16 = f16
      generalize f 17 = f17
      generalize f 18 = f18
      generalize f 19 = f19
      generalize f 20 = f20
      generalize f 21 = f21
      generalize f 22 = f22
      generalize f 23 = f23
      generalize f 24 = f24
      generalize f 25 = f25
      generalize f 26 = f26
      generalize f 27 = f27
      generalize f 28 = f28
      generalize f 29 = f29
      generalize f 30 = f30
      generalize f 31 = f31
      generalize f 32 = f32
      generalize f 33 = f33
      generalize f 34 = f34
      generalize f 35 = f35
      generalize f 36 = f36
      generalize f 37 = f37
      generalize f 38 = f38
      generalize f 39 = f39
      generalize f 40 = f40
      generalize f 41 = f41
      generalize f 42 = f42
      generalize f 43 = f43
      generalize f 44 = f44
      generalize f 45 = f45
      go_upto_region 14 with fail
      have dI : Is5 w'.drew bl _ _ _ _ _ := lb
      have tl := laid5_turned w'.drew bl (.int .u32 (z1 : Int)) (.int .u32 (z2 : Int)) (.int .u32 (z3 : Int)) (.int .u32 (z4 : Int)) (.int .u32 (z5 : Int))
      have stl : St (laid5 w'.drew bl (.int .u32 (z1 : Int)) (.int .u32 (z2 : Int)) (.int .u32 (z3 : Int)) (.int .u32 (z4 : Int)) (.int .u32 (z5 : Int))) S F2 M2 := st.drew.kept fun k hk => tl.block k (st.lt k hk) fun e => st.row lb (by decide) (e ▸ hk)
      have nx : br ≠ bl := fun e => by
        have h := xb
        unfold Is3 at h
        rw [e, lb] at h
        simp at h
      have xbl : Is3 (laid5 w'.drew bl (.int .u32 (z1 : Int)) (.int .u32 (z2 : Int)) (.int .u32 (z3 : Int)) (.int .u32 (z4 : Int)) (.int .u32 (z5 : Int))) br _ _ _ := (tl.block br xb.lt nx).trans xb
      have lbl : Is5 (laid5 w'.drew bl (.int .u32 (z1 : Int)) (.int .u32 (z2 : Int)) (.int .u32 (z3 : Int)) (.int .u32 (z4 : Int)) (.int .u32 (z5 : Int))) bl (.int .u32 (z1 : Int)) (.int .u32 (z2 : Int)) (.int .u32 (z3 : Int)) (.int .u32 (z4 : Int)) (.int .u32 (z5 : Int)) := laid5_is dI _ _ _ _ _
      have bsd : Below W.heap.size W w'.drew := bs.out.drew
      have bsl : Aside (Below W.heap.size W (laid5 w'.drew bl (.int .u32 (z1 : Int)) (.int .u32 (z2 : Int)) (.int .u32 (z3 : Int)) (.int .u32 (z4 : Int)) (.int .u32 (z5 : Int)))) := bsd.trans (tl.below bsd.size hbl.out)
      refine keep_region rfl rfl rfl rfl st I5 lb ?_
      simp only [Rf.vfin, Act.put, List.setIfInBounds_toArray, List.set_cons_succ, List.set_cons_zero]
      have Kc := s_cached stl on
      generalize laid5 w'.drew bl (.int .u32 (z1 : Int)) (.int .u32 (z2 : Int)) (.int .u32 (z3 : Int)) (.int .u32 (z4 : Int)) (.int .u32 (z5 : Int)) = w9 at Kc stl xbl lbl bsl ⊢
      clear dI tl nx I5 xb lb st bsd g1 g2
      go_wp2_with (first
        | (go_at_call 8; refine Kc.mono ?_; clear Kc; rintro e w10 ⟨rfl, F10, s10, b10⟩))
      go_roundg (gk - 1)
      case measure => have := hR.out; omega
      case rel =>
        have := hR.out
        have u10 := Out.of stl b10
        obtain ⟨h1, h2, h3, h4, h5⟩ := h15.out
        exact ⟨1, by omega, by go_num, F10, M2, _, _, _, _, _, s10, n8, rm, up2.out, Wf.far bsl.out b10 bsl.out.size fr.out, b10.after bsl.out.size fr.out, u10.is3 xbl, u10.is5 lbl, ha, hb, hc, hbl.out, ⟨_, rfl, fun _ => rfl⟩, fun _ => ⟨z1, z2, z3, z4, z5, rfl, rfl, rfl, rfl, rfl, h1, h2, h3, h4, h5⟩⟩
    · obtain ⟨c1, c2, c3, c4, c5, rfl, rfl, rfl, rfl, rfl, k1, k2, k3, k4, k5⟩ := I.l rfl
      have hnv' := hnv rfl
      go_upto_region 11 with fail
      refine five_region (b0 := 504) rfl rfl rfl I.st.ok I.n8 I.room (by omega) I.ha I.hb I.hc (I.start _) fun listed ac w' g h47 => ?_
      obtain ⟨F2, M2, wo, g5, z1, z2, z3, z4, z5, q15, g1, g2, I5, h1, h2, h3, h4, h5⟩ := g.fin h47
      obtain ⟨f, ef⟩ := vfin_of g.size g.defers rfl g.other
      rw [ef, q15]
      have xb := g.xb
      have lb := g.lb
      have Ms := I.st.ok
      have o2 := wo.st.ok
      have E1 : z1 = c1 := h1.one o2 (k1.grew Ms wo.grew)
      have E2 : z2 = c2 := h2.one o2 (k2.grew Ms wo.grew)
      have E3 : z3 = c3 := h3.one o2 (k3.grew Ms wo.grew)
      have E4 : z4 = c4 := h4.one o2 (k4.grew Ms wo.grew)
      have E5 : z5 = c5 := h5.one o2 (k5.grew Ms wo.grew)
      subst E1 E2 E3 E4 E5
      have hln : M2.hs.length = M.hs.length := has_len Ms o2 (wo.all fun X hX => by
        simp only [Five, List.mem_cons, List.not_mem_nil, or_false] at hX
        rcases hX with rfl | rfl | rfl | rfl | rfl
        · exact ⟨_, k1⟩
        · exact ⟨_, k2⟩
        · exact ⟨_, k3⟩
        · exact ⟨_, k4⟩
        · exact ⟨_, k5⟩)
      have ha := I.ha.grew Ms wo.grew
      have hb := I.hb.grew Ms wo.grew
      have hc := I.hc.grew Ms wo.grew
      have n8 := wo.grew.n.trans I.n8
      have rm := wo.grew.room.trans I.room
      have up := wo.up
      have cl := calls_le listed
      have up2 : Aside (M2.up ≤ 189 + 315 * 2) := by show _ ≤ _; omega
      have st := wo.st
      have bs : Aside (Below W.heap.size W w') := wo.base
      have fr : Aside (∀ k, F2 k → W.heap.size ≤ k) := wo.far
      have hbl : Aside (W.heap.size ≤ bl) := I.far5
      have h15 : Aside (Hn M2 z1 (fN F) ∧ Hn M2 z2 (fA F G) ∧ Hn M2 z3 (fO G H) ∧ Hn M2 z4 (fX F H) ∧ Hn M2 z5 (fI F G H)) := ⟨h1, h2, h3, h4, h5⟩
      have KL0 := s_len st
      rw [hln, ← hnv'] at KL0
      clear ef q15 g h47 wo up cl Ms h1 h2 h3 h4 h5 hnv I k1 k2 k3 k4 k5 o2 hln hnv'
      simp only [Rf.vfin, Act.put, List.setIfInBounds_toArray, List.set_cons_succ, List.set_cons_zero]
      generalize f 0 = f0
      generalize f 1 = f1
      generalize f 2 = f2
      generalize f 3 = f3
      generalize f 4 = f4
      generalize f 5 = f5
      generalize f 6 = f6
      generalize f 7 = f7
      generalize f 8 = f8
      generalize f 9 = f9
      generalize f 10 = f10
      generalize f 11 = f11
      generalize f 12 = f12
      generalize f 13 = f13
      generalize f 14 = f14
      generalize f 15 = f15
      generalize f 16 = f16
      generalize f 17 = f17
      generalize f 18 = f18
      generalize f 19 = f19
      generalize f 20 = f20
      generalize f 21 = f21
      generalize f 22 = f22
      generalize f 23 = f23
      generalize f 24 = f24
      generalize f 25 = f25
      generalize f 26 = f26
      generalize f 27 = f27
      generalize f 28 = f28
      generalize f 29 = f29
      generalize f 30 = f30
      generalize f 31 = f31
      generalize f 32 = f32
      generalize f 33 = f33
      generalize f 34 = f34
      generalize f 35 = f35
      generalize f 36 = f36
      generalize f 37 = f37
      generalize f 38 = f38
      generalize f 39 = f39
      generalize f 40 = f40
      generalize f 41 = f41
      generalize f 42 = f42
      generalize f 43 = f43
      generalize f 44 = f44
      generalize f 45 = f45
      have heq5 := equal5 (z1 : Int) (z2 : Int) (z3 : Int) (z4 : Int) (z5 : Int)
      obtain ⟨x0, x1, x2, x3, x4⟩ := I5.cells
      obtain ⟨v0, v1, v2, v3', v4'⟩ := lb.cells
      go_upto_region 14 with (first
        | (go_at_call 11; refine KL0.mono ?_; clear KL0; rintro e u ⟨rfl, eu⟩; subst u))
      clear x0 x1 x2 x3 x4 v0 v1 v2 v3' v4' heq5
      have dI : Is5 w'.drew bl _ _ _ _ _ := lb
      have tl := laid5_turned w'.drew bl (.int .u32 (z1 : Int)) (.int .u32 (z2 : Int)) (.int .u32 (z3 : Int)) (.int .u32 (z4 : Int)) (.int .u32 (z5 : Int))
      have stl : St (laid5 w'.drew bl (.int .u32 (z1 : Int)) (.int .u32 (z2 : Int)) (.int .u32 (z3 : Int)) (.int .u32 (z4 : Int)) (.int .u32 (z5 : Int))) S F2 M2 := st.drew.kept fun k hk => tl.block k (st.lt k hk) fun e => st.row lb (by decide) (e ▸ hk)
      have nx : br ≠ bl := fun e => by
        have h := xb
        unfold Is3 at h
        rw [e, lb] at h
        simp at h
      have xbl : Is3 (laid5 w'.drew bl (.int .u32 (z1 : Int)) (.int .u32 (z2 : Int)) (.int .u32 (z3 : Int)) (.int .u32 (z4 : Int)) (.int .u32 (z5 : Int))) br _ _ _ := (tl.block br xb.lt nx).trans xb
      have lbl : Is5 (laid5 w'.drew bl (.int .u32 (z1 : Int)) (.int .u32 (z2 : Int)) (.int .u32 (z3 : Int)) (.int .u32 (z4 : Int)) (.int .u32 (z5 : Int))) bl (.int .u32 (z1 : Int)) (.int .u32 (z2 : Int)) (.int .u32 (z3 : Int)) (.int .u32 (z4 : Int)) (.int .u32 (z5 : Int)) := laid5_is dI _ _ _ _ _
      have bsd : Below W.heap.size W w'.drew := bs.out.drew
      have bsl : Aside (Below W.heap.size W (laid5 w'.drew bl (.int .u32 (z1 : Int)) (.int .u32 (z2 : Int)) (.int .u32 (z3 : Int)) (.int .u32 (z4 : Int)) (.int .u32 (z5 : Int)))) := bsd.trans (tl.below bsd.size hbl.out)
      refine keep_region rfl rfl rfl rfl st I5 lb ?_
      simp only [Rf.vfin, Act.put, List.setIfInBounds_toArray, List.set_cons_succ, List.set_cons_zero]
      have Kc := s_cached stl on
      generalize laid5 w'.drew bl (.int .u32 (z1 : Int)) (.int .u32 (z2 : Int)) (.int .u32 (z3 : Int)) (.int .u32 (z4 : Int)) (.int .u32 (z5 : Int)) = w9 at Kc stl xbl lbl bsl ⊢
      clear dI tl nx I5 xb lb st bsd g1 g2
      go_wp2_with (first
        | (go_at_call 8; refine Kc.mono ?_; clear Kc; rintro e w10 ⟨rfl, F10, s10, b10⟩))
      go_roundg (gk - 1)
      case measure => have := hR.out; omega
      case rel =>
        have := hR.out
        have u10 := Out.of stl b10
        obtain ⟨h1, h2, h3, h4, h5⟩ := h15.out
        exact ⟨2, by omega, by go_num, F10, M2, _, _, _, _, _, s10, n8, rm, up2.out, Wf.far bsl.out b10 bsl.out.size fr.out, b10.after bsl.out.size fr.out, u10.is3 xbl, u10.is5 lbl, ha, hb, hc, hbl.out, ⟨_, rfl, fun _ => rfl⟩, fun _ => ⟨z1, z2, z3, z4, z5, rfl, rfl, rfl, rfl, rfl, h1, h2, h3, h4, h5⟩⟩
    · go_wp2_with fail
      go_ret
      exact ⟨rfl, I.base⟩
end Go.Proofs.YtffhmelgpnmbbaaGreat
