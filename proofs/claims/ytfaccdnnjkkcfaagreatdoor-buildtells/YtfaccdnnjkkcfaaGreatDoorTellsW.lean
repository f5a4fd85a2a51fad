/-
  BuildTells, walked.
-/
import Derived.Test.YtfaccdnnjkkcfaaGreatDoorBdY
import Derived.Test.YtfaccdnnjkkcfaaGreatDoorBdZ
import Derived.Deep.LoopGhost
import Derived.Deep.RegionHeld3
import Derived.BigQuiet
import Derived.Deep.CutRange
namespace Go.Proofs.YtfaccdnnjkkcfaaGreatDoor
open Go Go.RowKit
open Rf (fixAt fixF tab word same IsTab Cols IntsAt TabsAt prt dedup supUpto)

theorem tabs_one' {v : World} {g : Nat} {X : Nat → Bool} (h : v.heap[g]? = some (.cells #[.int .u64 (word X 0 : Int), .int .u64 (word X 1 : Int), .int .u64 (word X 2 : Int), .int .u64 (word X 3 : Int)] 24 (0, 0))) : TabsAt v (some ⟨g, 0, none⟩) 1 (fun _ => X) := by
  have hT : IsTab v g X := h
  refine .inr ⟨g, 0, rfl, hT.lt, fun i hi k hk => ?_⟩
  obtain rfl : i = 0 := by omega
  have := hT.cell hk
  simpa using this
/-- As many nodes as the table tells. -/
theorem alone_len {n r a : Nat} {F : Nat → Bool} {M : Mdl} (oe : (Mdl.empty n r).Ok) (o : M.Ok) (d : Dep (Mdl.empty n r) 0 F) (g : Got (Mdl.empty n r) 0 F a M) : (prt (fun i => ((Mdl.empty n r).v i : Int)) n [F] (min n 8 + 1)).1.length = M.hs.length := by
  have := g.len oe o d
  have e0 : both (Mdl.empty n r) F = 0 := rfl
  rw [e0] at this
  show (prts (Mdl.empty n r) F).length = _
  rw [this]
  show _ = 0 + ((prts (Mdl.empty n r) F).length - 0)
  omega
theorem idn8 {n : Nat} (h : n ≤ 8) (r i : Nat) : (Mdl.empty n r).v i < 8 := by
  show Od.idn n i < 8
  unfold Od.idn
  split <;> omega
theorem empty_v (n r : Nat) : ∀ i, i < (Mdl.empty n r).n → (Mdl.empty n r).v i = i := fun i hi => by
  show Od.idn n i = i
  unfold Od.idn
  exact if_pos hi
set_option maxRecDepth 100000 in
set_option maxHeartbeats 8000000 in
theorem tells_walk (z : Nat) (F : Nat → Bool) (m q : Nat) (hz : z < 256) (hm : m < 256) (hq : q < 256) (W : World) (hC : Cols W) :
    Calls Tryz.prog 3 #[.int .u8 (z : Int), tab F, .int .u8 (m : Int), .int .u8 (q : Int)] W fun e w' => e = .returned (.bool true) ∧ Below W.heap.size W w' := by
  have hCA : Aside (Cols W) := hC
  have hmA : Aside (m < 256 ∧ q < 256) := ⟨hm, hq⟩
  obtain ⟨n, hn⟩ : ∃ n : Nat, (z : Int) % 8 + 1 = (n : Int) := ⟨z % 8 + 1, by omega⟩
  have n1 : 1 ≤ n := by omega
  have n8 : n ≤ 8 := by omega
  have hzm : Int.tmod (z : Int) 8 = (z : Int) % 8 := Int.tmod_eq_emod_of_nonneg (by omega)
  conv in #[Value.int .u8 (z : Int), tab F, Value.int .u8 (m : Int), Value.int .u8 (q : Int)] => unfold tab
  have B3 := nb W (.cells #[.int .u64 (word F 0 : Int), .int .u64 (word F 1 : Int), .int .u64 (word F 2 : Int), .int .u64 (word F 3 : Int)] 24)
  have TF := IsTab.new W F
  go_enter Tryz.func3, Tryz.ntmps3
  go_upto_region 1 with fail
  generalize W.alloc (.cells #[.int .u64 (word F 0 : Int), .int .u64 (word F 1 : Int), .int .u64 (word F 2 : Int), .int .u64 (word F 3 : Int)] 24) = v3 at B3 TF ⊢
  have Kk := bknown_any v3 (hC.kept B3)
  have B3A : Aside (Below W.heap.size W v3) := B3
  generalize hbf : W.heap.size = bf at TF ⊢
  have hbA : Aside (W.heap.size = bf) := hbf
  clear hbf B3 hC
  go_upto_region 3 with (first
    | (go_at_call 8; refine Kk.mono ?_; clear Kk; rintro e v4 ⟨rfl, b4⟩))
  have TF4 := kept TF b4
  have Kn : Calls Tryz.prog 9 #[.int .i64 (n : Int), .int .i64 600] v4 _ := s_new n 600 v4 n1 n8 (by omega) (by omega)
  have B4A : Aside (Below W.heap.size W v4) := Rf.below_far B3A.out b4
  clear TF b4 B3A
  go_upto_region 7 with (first
    | (go_at_call 9; refine Kn.mono ?_; clear Kn; rintro e w5 ⟨S, F0, rfl, s5, b5, f5⟩))
  have TF5 := kept TF4 b5
  have B5A : Aside (Below W.heap.size W w5) := Rf.below_far B4A.out b5
  have f5A : Aside (∀ k, F0 k → W.heap.size ≤ k) := fun k hk => Nat.le_trans B4A.out.size (f5 k hk)
  have K1 := s_order s5
  clear TF4 b5 f5 B4A hn hzm
  go_upto_region 8 with (first
    | (go_at_call 10; refine K1.mono ?_; clear K1; rintro e w6 ⟨P, l, rfl, o6, b6, p6⟩; have K2 := Od.all_any o6 (show (Mdl.empty n 600).n ≤ 8 from n8))
    | (go_at_call 11; refine K2.mono ?_; clear K2; rintro e w7 ⟨rfl, r7, b7⟩))
  have b57 := Rf.below_far b6 b7
  have TF7 := kept TF5 b57
  have s7 := s5.below b57
  have B7A : Aside (Below W.heap.size W w7) := Rf.below_far B5A.out b57
  have row7 : w7.rowIs w6.heap.size 3 n (fun i => .int .i64 ((Mdl.empty n 600).v i : Int)) := r7
  generalize w6.heap.size = ob at row7 ⊢
  have oe := s7.ok
  have oeA : Aside (Mdl.empty n 600).Ok := oe
  have C7 : Aside (Cols w7) := hCA.out.kept B7A.out
  have F00 : Aside (¬ F0 0) := fun h0 => by have := f5A.out 0 h0; have := hCA.out.1; omega
  have dT : Dep (Mdl.empty n 600) 0 (trimF F n (8 - n)) := Dep.trim oe F (empty_v n 600)
  have much : Aside (∀ G, Much (Mdl.empty n 600) 0 G) := fun G => by
    have := pow63 n8
    show 0 + (2 ^ (n - 2 - 0) - 1) + 19 ≤ 600
    rw [Nat.sub_zero]
    omega
  clear b57 b6 b7 o6 p6 r7 TF5 s5 B5A oe
  have KT := fun u => trim_any F n n8 u
  obtain ⟨zt, hzt⟩ : ∃ b, same (trimF F n (8 - n)) F = b := ⟨_, rfl⟩
  have heq : ∀ w, (Op.equalIn 10000 24 (tab (trimF F n (8 - n))) (tab F)).run Tryz.prog w = .ok zt w := fun w => by rw [← hzt]; exact Rf.equal_tab _ _ w
  have hztA : Aside (same (trimF F n (8 - n)) F = zt) := hzt
  clear hzt
  cases zt with
  | true =>
    have dF : Aside (Dep (Mdl.empty n 600) 0 F) := dT.congr ((Rf.same_iff _ _).1 hztA.out)
    have K3 := from_op s7 C7.out F00.out dF.out (much.out F)
    generalize trimF F n (8 - n) = G at KT heq
    unfold tab at K3 KT heq
    obtain ⟨y0, y1, y2, y3⟩ := TF7.copy
    clear hztA dT
    go_upto_region 9 with (first
      | (go_at_call 12; refine K3.mono ?_; clear K3; rintro e w8 ⟨a, M, F8, rfl, g8, s8, k8⟩))
    have TF8 : IsTab w8 bf F := (k8.block bf TF7.lt (s7.row TF7 (by decide))).trans TF7
    have row8 := k8.row s7 row7 (by decide)
    have B8A : Aside (Below W.heap.size W w8) := Wf.far B7A.out k8 B7A.out.size f5A.out
    have f8A : Aside (∀ k, F8 k → W.heap.size ≤ k) := k8.after B7A.out.size f5A.out
    have gA : Aside (Got (Mdl.empty n 600) 0 F a M) := g8
    have TF8' : IsTab w8.drew bf F := TF8
    have C8 := TF8'.copy
    clear y0 y1 y2 y3 TF7 row7 s7 k8 B7A f5A C7 F00 much g8
    go_region_held3 (fun u => u.cell? ⟨bf, 0, none⟩ = some (.int .u64 (word F 0 : Int)) ∧ u.cell? ⟨bf, 1, none⟩ = some (.int .u64 (word F 1 : Int)) ∧ u.cell? ⟨bf, 2, none⟩ = some (.int .u64 (word F 2 : Int)) ∧ u.cell? ⟨bf, 3, none⟩ = some (.int .u64 (word F 3 : Int))) (first | assumption) (first
      | (go_at_call 13; refine (KT _).mono ?_; clear KT; rintro e w9 ⟨rfl, b9⟩; have TF9 := kept TF8' b9; have C9 := TF9.copy; clear C8))
    have sT : St w9 S F8 M := s8.drew.below b9
    have rowT : w9.rowIs ob 3 n (fun i => .int .i64 ((Mdl.empty n 600).v i : Int)) := row8.of_block (b9.block ob row8.lt)
    have TF : IsTab w9 bf F := TF9
    have BA : Aside (Below W.heap.size W w9) := Rf.below_far B8A.out.drew b9
    have fA : Aside (∀ k, F8 k → W.heap.size ≤ k) := f8A.out
    have dA : Aside (Dep (Mdl.empty n 600) 0 F) := dF.out
    generalize w9 = wT at sT rowT TF BA
    generalize F8 = FT at sT fA
    clear C9 TF9 TF8' TF8 row8 s8 B8A f8A b9 heq dF
    have nM : M.n = n := gA.out.grew.n
    have vM : M.v = (Mdl.empty n 600).v := gA.out.grew.v
    have oM := sT.ok
    have lenM : M.hs.length ≤ 82 := by
      have u : M.up ≤ 0 + (2 ^ (n - 2 - 0) - 1) := gA.out.up
      rw [Nat.sub_zero] at u
      have := pow63 n8
      have := Mdl.len_le oM
      omega
    have KF : Calls Tryz.prog 14 #[.pointer (some ⟨S, 0, none⟩), .int .u32 (a : Int)] wT fun e w' => e = .returned (.tuple #[tab F, .int .i64 0]) ∧ Below wT.heap.size wT w' := by
      have := bfunc_op sT gA.out.node (hCA.out.kept BA.out)
      rwa [Rf.tab_ext (G := F) (fun y hy => gA.out.tbl y hy)] at this
    unfold tab at KF
    go_upto_region 15 with (first
      | (go_at_call 14; refine KF.mono ?_; clear KF; rintro e wa ⟨rfl, ba⟩))
    have Na := nb wa (.cells #[.int .u64 (word F 0 : Int), .int .u64 (word F 1 : Int), .int .u64 (word F 2 : Int), .int .u64 (word F 3 : Int)] 24)
    have TQ := IsTab.new wa F
    generalize wa.alloc (.cells #[.int .u64 (word F 0 : Int), .int .u64 (word F 1 : Int), .int .u64 (word F 2 : Int), .int .u64 (word F 3 : Int)] 24) = wb at Na TQ ⊢
    generalize wa.heap.size = bq at TQ ⊢
    have bab := Rf.below_far ba Na
    have sB := sT.below bab
    have rowB := rowT.of_block (bab.block ob rowT.lt)
    have TFb := kept TF bab
    have BB : Aside (Below W.heap.size W wb) := Rf.below_far BA.out bab
    have pl : pathsL M a = cubesR (Mdl.empty n 600).v n 0 F := by rw [cubesR_all oM gA.out.node gA.out.tbl, nM, vM]
    have KC := cubes_op sB gA.out.node
    rw [pl] at KC
    obtain ⟨lq, hlq⟩ : ∃ l, cubesR (Mdl.empty n 600).v n 0 F = l := ⟨_, rfl⟩
    have KR : Aside (∀ u : World, u.rowIs ob 3 n (fun i => .int .i64 ((Mdl.empty n 600).v i : Int)) → Calls Tryz.prog 16 #[tab F, .slice (some ⟨ob, 0, none⟩) n n] u (RcC u lq)) := fun u r => by
      rw [← hlq]
      exact rcubes_any (idn8 n8 600) n (k := 0) n8 (Nat.le_refl _) (.inr ⟨ob, 0, rfl, r.lt, fun i hi => by rw [Nat.zero_add]; show _ = some (Value.int .i64 ((Mdl.empty n 600).v (0 + i) : Int)); rw [Nat.zero_add]; exact r.cell hi⟩)
    have llq : lq.length ≤ 256 := by
      rw [← hlq]
      exact Nat.le_trans (cubesR_le _ n 0 F) (Nat.pow_le_pow_right (n := 2) (j := 8) (by omega) n8)
    rw [hlq] at KC
    clear hlq pl ba Na bab sT rowT TF BA
    go_upto_region 17 with (first
      | (go_at_call 15; refine KC.mono ?_; clear KC; rintro e wh ⟨ad1, cap1, rfl, o1, bc⟩; have TFc := kept TFb bc; obtain ⟨t0, t1, t2, t3⟩ := TFc.copy; have K2 := KR.out wh (rowB.of_block (bc.block ob rowB.lt)); unfold tab at K2)
      | (go_at_call 16; refine K2.mono ?_; clear K2; rintro e wd ⟨ad2, cap2, rfl, o2, bd⟩))
    have bcd := Rf.below_far bc bd
    have sD := sB.below bcd
    have rowD := rowB.of_block (bcd.block ob rowB.lt)
    have TFd : IsTab wd.drew bf F := kept TFb bcd.drew
    have TQd : IsTab wd.drew bq F := kept TQ bcd.drew
    have BD : Aside (Below W.heap.size W wd) := Rf.below_far BB.out bcd
    have o1A : Aside (OwnP wd wb.heap.size ad1 lq cap1) := o1.below bd
    have o2A : Aside (OwnP wd wh.heap.size ad2 lq cap2) := o2
    have sDA : Aside (St wd S FT M) := sD
    clear t0 t1 t2 t3 TFc TFb TQ sB rowB BB bc bd o1 o2 KR bcd
    have K3 : Calls Tryz.prog 17 #[.pointer (some ⟨S, 0, none⟩), .int .u32 (a : Int), tab F] wd.drew fun e w' => e = .returned (.bool true) ∧ Below wd.drew.heap.size wd.drew w' := by
      have := isf_any (G := F) sD.drew gA.out.node
      rwa [same_true gA.out.tbl] at this
    have KL : Aside (∀ u, Below wd.drew.heap.size wd.drew u → Calls Tryz.prog 18 #[.pointer (some ⟨S, 0, none⟩)] u fun e w' => e = .returned (.int .i64 (M.hs.length : Int)) ∧ w' = u) := fun u k => s_len (sDA.out.drew.below k)
    have KS : Aside (∀ u, Below wd.drew.heap.size wd.drew u → Calls Tryz.prog 19 #[.slice (some ⟨u.heap.size, 0, none⟩) 1 1, .slice (some ⟨ob, 0, none⟩) n n] (u.alloc (.cells #[.int .u64 (word F 0 : Int), .int .u64 (word F 1 : Int), .int .u64 (word F 2 : Int), .int .u64 (word F 3 : Int)] 24)) fun e w' => e = .returned (.int .i64 (M.hs.length : Int)) ∧ Below u.heap.size u w') := fun u k => by
      have B := nb u (.cells #[.int .u64 (word F 0 : Int), .int .u64 (word F 1 : Int), .int .u64 (word F 2 : Int), .int .u64 (word F 3 : Int)] 24)
      have r := rowD.of_block ((Rf.below_far k B).block ob rowD.lt)
      have := size_any (some ⟨u.heap.size, 0, none⟩) 1 1 (fun _ => F) (some ⟨ob, 0, none⟩) n n (fun i => ((Mdl.empty n 600).v i : Int)) _ (by omega) n8 (tabs_one' (Go.Deep.blk_alloc_new u _)) (.inr ⟨ob, 0, rfl, r.lt, fun i hi => by rw [Nat.zero_add]; exact r.cell hi⟩)
      rw [dedup_one, alone_len oeA.out oM dA.out gA.out] at this
      exact this.mono fun e w' h => ⟨h.1, Rf.below_far B h.2⟩
    have CD := two_cells' TQd TFd
    have heq2 : ∀ w, (Op.equalIn 10000 24 (tab F) (tab F)).run Tryz.prog w = .ok true w := fun w => by
      have := Rf.equal_tab F F w
      rwa [same_true (Eqt.refl F)] at this
    have hlb : (M.hs.length : Int) ≤ 82 := by omega
    unfold tab at K3 heq2
    go_cut [117] from 80 to 117 (fun sx w => sx = .bool false ∧ Aside (Below wd.heap.size wd w))
    case first =>
      go_region_held3 (fun u => u.cell? ⟨bq, 0, none⟩ = some (.int .u64 (word F 0 : Int)) ∧ u.cell? ⟨bq, 1, none⟩ = some (.int .u64 (word F 1 : Int)) ∧ u.cell? ⟨bq, 2, none⟩ = some (.int .u64 (word F 2 : Int)) ∧ u.cell? ⟨bq, 3, none⟩ = some (.int .u64 (word F 3 : Int)) ∧ u.cell? ⟨bf, 0, none⟩ = some (.int .u64 (word F 0 : Int)) ∧ u.cell? ⟨bf, 1, none⟩ = some (.int .u64 (word F 1 : Int)) ∧ u.cell? ⟨bf, 2, none⟩ = some (.int .u64 (word F 2 : Int)) ∧ u.cell? ⟨bf, 3, none⟩ = some (.int .u64 (word F 3 : Int))) (first | assumption) (first
        | (go_at_call 17; refine K3.mono ?_; clear K3; rintro e we ⟨rfl, be⟩; have TFe := kept TFd be; have TQe := kept TQd be; have CE := two_cells' TQe TFe; have NE := nb we (.cells #[.int .u64 (word F 0 : Int), .int .u64 (word F 1 : Int), .int .u64 (word F 2 : Int), .int .u64 (word F 3 : Int)] 24); have CE2 := two_cells' (kept TQe NE) (kept TFe NE); have K5 := KS.out we be; clear CD)
        | (go_at_call 18; refine (KL.out _ (by first | exact be | exact Rf.below_far be NE)).mono ?_; rintro e wl ⟨rfl, el⟩; subst wl)
        | (go_at_call 19; refine K5.mono ?_; clear K5; rintro e wf ⟨rfl, bF⟩; have CF := two_cells' (kept TQe bF) (kept TFe bF); clear CE2))
      all_goals go_wp2_with fail
      all_goals go_meet
      all_goals exact ⟨rfl, Rf.below_far (show Below wd.heap.size wd we from ⟨be.os, be.tape, be.output, be.size, be.block⟩) bF⟩
    case rest =>
      obtain ⟨rfl, hB⟩ := hcut
      clear K3 KL KS CD heq2 hlb rowD TFd TQd sD
      have sC : Aside (St wc S FT M) := sDA.out.below hB.out
      have BC : Aside (Below W.heap.size W wc) := Rf.below_far BD.out hB.out
      have p1A : Aside (OwnP wc wb.heap.size ad1 lq cap1) := o1A.out.below hB.out
      have p2A : Aside (OwnP wc wh.heap.size ad2 lq cap2) := o2A.out.below hB.out
      clear hB o1A o2A sDA BD
      go_upto_region 20 with fail
      go_loopg [20] lq.length (fun gg s20 wr => ∃ i : Nat, i + gg = lq.length ∧ s20 = .int .i64 (i : Int) ∧ Aside (Below wc.heap.size wc wr))
      case atStart => exact ⟨0, by omega, rfl, Below.refl _ _⟩
      case round =>
        obtain ⟨i, hi, rfl, hB⟩ := hrel
        have hIA : Aside (i + gk = lq.length) := hi
        by_cases hil : i < lq.length
        · have hil' : (i : Int) < (lq.length : Int) := by omega
          have hilA : Aside (i < lq.length) := hil
          obtain ⟨g1, hg1, a0, a1⟩ := (p1A.out.below hB.out).read hil
          obtain ⟨g2, hg2, d0, d1⟩ := (p2A.out.below hB.out).read hil
          subst hg1
          subst hg2
          generalize (lq.getD i (0, 0)).1 = p1 at a0 d0
          generalize (lq.getD i (0, 0)).2 = p2 at a1 d1
          have q0 : ∀ n, (wr.drewN n).cell? ⟨g1, i * 2, none⟩ = some (.int .u8 (p1 : Int)) := fun n => a0
          have q1 : ∀ n, (wr.drewN n).cell? ⟨g1, i * 2 + 1, none⟩ = some (.int .u8 (p2 : Int)) := fun n => a1
          have r0 : ∀ n, (wr.drewN n).cell? ⟨g2, i * 2, none⟩ = some (.int .u8 (p1 : Int)) := fun n => d0
          have r1 : ∀ n, (wr.drewN n).cell? ⟨g2, i * 2 + 1, none⟩ = some (.int .u8 (p2 : Int)) := fun n => d1
          have heq3 : ∀ w, (Op.equalIn 10000 49 (.agg #[.int .u8 (p1 : Int), .int .u8 (p2 : Int)]) (.agg #[.int .u8 (p1 : Int), .int .u8 (p2 : Int)])).run Tryz.prog w = .ok true w := fun w => by
            have := equal_pair (p1 : Int) (p2 : Int) (p1 : Int) (p2 : Int) w
            simpa using this
          have bi : (i : Int) ≤ 256 := by omega
          clear a0 a1 d0 d1 hi hil
          go_upto_region 22 with fail
          go_quiet (fail)
          have bB2 : Aside (Below wc.heap.size wc (wr.drewN nq)) := ⟨hB.out.os, hB.out.tape, hB.out.output, hB.out.size, hB.out.block⟩
          go_wp2_with fail
          go_roundg (gk - 1)
          case measure => have := hIA.out; have := hilA.out; omega
          case rel =>
            have := hIA.out
            have := hilA.out
            exact ⟨i + 1, by omega, by go_num, bB2⟩
        · obtain rfl : i = lq.length := by omega
          have sR := sC.out.below hB.out
          have BR : Aside (Below W.heap.size W wr) := Rf.below_far BC.out hB.out
          have rM : M.room = 600 := gA.out.grew.room
          obtain ⟨Q, hQ⟩ : ∃ Q, 2 ^ n = Q := ⟨_, rfl⟩
          have Q8 : Q ≤ 256 := by rw [← hQ]; exact Nat.pow_le_pow_right (n := 2) (j := 8) (by omega) n8
          have sh : IntKind.i64.wrap (2 ^ n) = (Q : Int) := by
            have e : ((2 : Int) ^ n) = (Q : Int) := by rw [← hQ]; push_cast; rfl
            rw [e, IntKind.wrap_i64]
            omega
          have mn : min n 64 = n := by omega
          have nlt : ¬ (lq.length : Int) < (lq.length : Int) := by omega
          obtain ⟨hm', hq'⟩ := hmA.out
          clear hi hil hIA hB sC BC p1A p2A
          by_cases big : Q ≤ m
          · have K6 := cube_bad sR m q (by rw [nM, hQ]; exact big)
            have gb : (Q : Int) ≤ (m : Int) := by omega
            clear hQ sR
            go_wp2_with (first
              | (go_at_call 20; refine K6.mono ?_; clear K6; rintro e wx ⟨rfl, ex⟩; subst wx))
            go_ret
            exact ⟨rfl, BR.out⟩
          · have sm : m < 2 ^ M.n := by rw [nM, hQ]; omega
            have K6 := cube_op sR hm' hq' sm (by omega)
            have smA : Aside (m < 2 ^ M.n) := sm
            have gb : ¬ (Q : Int) ≤ (m : Int) := by omega
            have oMA : Aside M.Ok := oM
            clear hQ sR sm
            go_wp2_with (first
              | (go_at_call 20; refine K6.mono ?_; clear K6; rintro e wx ⟨x, M2, F2, rfl, cu, s2, k2⟩; have BX : Aside (Below W.heap.size W wx) := Wf.far BR.out k2 BR.out.size fA.out; have tx := cu.got.tbl; rw [cubeL_all oMA.out smA.out] at tx; have isA : Aside (∀ u, Below wx.heap.size wx u → Calls Tryz.prog 17 #[.pointer (some ⟨S, 0, none⟩), .int .u32 (x : Int), tab (cubeF m q)] u fun e w' => e = .returned (.bool true) ∧ Below u.heap.size u w') := (fun u k => by have := isf_any (G := cubeF m q) (s2.below k) cu.got.node; rwa [same_true tx] at this); have onA : Aside (∀ u, Below wx.heap.size wx u → Calls Tryz.prog 22 #[.pointer (some ⟨S, 0, none⟩)] u fun e w' => e = .returned (.bool true) ∧ Below u.heap.size u w') := (fun u k => once_any (s2.below k)); have K7 := lcube_any m q hm' hq' wx; unfold tab at K7; clear s2 k2 cu tx)
              | (go_at_call 21; refine K7.mono ?_; clear K7; rintro e wy ⟨rfl, bY⟩; have K8 := isA.out wy bY; unfold tab at K8)
              | (go_at_call 17; refine K8.mono ?_; clear K8; rintro e wz ⟨rfl, bZ⟩; have K9 := onA.out wz (Rf.below_far bY bZ))
              | (go_at_call 22; refine K9.mono ?_; clear K9; rintro e wo ⟨rfl, bO⟩))
            go_ret
            exact ⟨rfl, Rf.below_far BX.out (Rf.below_far (Rf.below_far bY bZ) bO)⟩
  | false =>
    have big : 2 ^ n ≤ supUpto F 8 := trim_sup n8 fun e => by
      have h1 := same_true e
      rw [hztA.out] at h1
      cases h1
    have K3 := from_bad s7 F C7.out big
    have dTA : Aside (Dep (Mdl.empty n 600) 0 (trimF F n (8 - n))) := dT
    generalize trimF F n (8 - n) = G at KT heq dTA
    unfold tab at K3 KT heq
    obtain ⟨y0, y1, y2, y3⟩ := TF7.copy
    clear hztA dT big
    go_upto_region 9 with (first
      | (go_at_call 12; refine K3.mono ?_; clear K3; rintro e w8 ⟨rfl, b8⟩))
    have TF8' : IsTab w8.drew bf F := kept TF7 b8.drew
    have C8 := TF8'.copy
    have s8 := s7.below b8
    have row8 := row7.of_block (b8.block ob row7.lt)
    have B8A : Aside (Below W.heap.size W w8) := Rf.below_far B7A.out b8
    clear y0 y1 y2 y3
    go_region_held3 (fun u => u.cell? ⟨bf, 0, none⟩ = some (.int .u64 (word F 0 : Int)) ∧ u.cell? ⟨bf, 1, none⟩ = some (.int .u64 (word F 1 : Int)) ∧ u.cell? ⟨bf, 2, none⟩ = some (.int .u64 (word F 2 : Int)) ∧ u.cell? ⟨bf, 3, none⟩ = some (.int .u64 (word F 3 : Int))) (first | assumption) (first
      | (go_at_call 13; refine (KT _).mono ?_; rintro e w9 ⟨rfl, b9⟩; have TF9 := kept TF8' b9; have C9 := TF9.copy; clear C8))
    have b89 : Below w8.heap.size w8 w9 := ⟨b9.os, b9.tape, b9.output, b9.size, b9.block⟩
    have s9 := s8.below b89
    have row9 := row8.of_block (b89.block ob row8.lt)
    have B9A : Aside (Below W.heap.size W w9) := Rf.below_far B8A.out b89
    obtain ⟨y0, y1, y2, y3⟩ := TF9.copy
    clear C9 TF8' s8 row8 B8A b9 b89 b8 TF7 row7 s7 C7 heq
    go_upto_region 13 with (first
      | (go_at_call 13; refine (KT _).mono ?_; clear KT; rintro e w10 ⟨rfl, b10⟩; have T10 := kept TF9 b10; have x0 := T10.cell (k := 0) (by decide); have x1 := T10.cell (k := 1) (by decide); have x2 := T10.cell (k := 2) (by decide); have x3 := T10.cell (k := 3) (by decide); have z0 := T10.free 0; have z1 := T10.free 1; have z2 := T10.free 2; have z3 := T10.free 3))
    have T11 := Rf.laid_tab T10 G
    have tu := Rf.laid_turned w10 bf G
    have s10 := s9.below b10
    have row10 := row9.of_block (b10.block ob row9.lt)
    have nob : ob ≠ bf := fun e => by
      obtain ⟨cs, hb, _⟩ := row10
      have T10' : w10.heap[bf]? = some (.cells #[.int .u64 (word F 0 : Int), .int .u64 (word F 1 : Int), .int .u64 (word F 2 : Int), .int .u64 (word F 3 : Int)] 24 (0, 0)) := T10
      rw [e, T10'] at hb
      simp at hb
    have s11 := s10.kept (w' := Rf.laid w10 bf G) fun k hk => tu.block k (s10.lt k hk) fun e => s10.row T10 (by decide) (e ▸ hk)
    have row11 := row10.of_block (tu.block ob row10.lt nob)
    have B10 : Below W.heap.size W w10 := Rf.below_far B9A.out b10
    have B11A : Aside (Below W.heap.size W (Rf.laid w10 bf G)) := B10.trans (tu.below B10.size (Nat.le_of_eq hbA.out))
    clear x0 x1 x2 x3 z0 z1 z2 z3 y0 y1 y2 y3 T10 tu s10 row10 nob B10 TF9 s9 row9 B9A b10
    unfold Rf.laid at T11 s11 row11 B11A
    generalize (((w10.setCell ⟨bf, 0, none⟩ (.int .u64 (word G 0 : Int))).setCell ⟨bf, 1, none⟩ (.int .u64 (word G 1 : Int))).setCell ⟨bf, 2, none⟩ (.int .u64 (word G 2 : Int))).setCell ⟨bf, 3, none⟩ (.int .u64 (word G 3 : Int)) = w11 at T11 s11 row11 B11A ⊢
    have K4 := from_op s11 (hCA.out.kept B11A.out) F00.out dTA.out (much.out G)
    unfold tab at K4
    obtain ⟨y0, y1, y2, y3⟩ := T11.copy
    go_upto_region 14 with (first
      | (go_at_call 12; refine K4.mono ?_; clear K4; rintro e w12 ⟨a, M, FT, rfl, g12, sT, k12⟩))
    have TF : IsTab w12 bf G := (k12.block bf T11.lt (s11.row T11 (by decide))).trans T11
    have rowT := k12.row s11 row11 (by decide)
    have BA : Aside (Below W.heap.size W w12) := Wf.far B11A.out k12 B11A.out.size f5A.out
    have fA : Aside (∀ k, FT k → W.heap.size ≤ k) := k12.after B11A.out.size f5A.out
    have gA : Aside (Got (Mdl.empty n 600) 0 G a M) := g12
    have dA : Aside (Dep (Mdl.empty n 600) 0 G) := dTA.out
    clear y0 y1 y2 y3 T11 s11 row11 B11A f5A F00 much g12 k12 dTA B7A
    generalize w12 = wT at sT rowT TF BA
    have nM : M.n = n := gA.out.grew.n
    have vM : M.v = (Mdl.empty n 600).v := gA.out.grew.v
    have oM := sT.ok
    have lenM : M.hs.length ≤ 82 := by
      have u : M.up ≤ 0 + (2 ^ (n - 2 - 0) - 1) := gA.out.up
      rw [Nat.sub_zero] at u
      have := pow63 n8
      have := Mdl.len_le oM
      omega
    have KF : Calls Tryz.prog 14 #[.pointer (some ⟨S, 0, none⟩), .int .u32 (a : Int)] wT fun e w' => e = .returned (.tuple #[tab G, .int .i64 0]) ∧ Below wT.heap.size wT w' := by
      have := bfunc_op sT gA.out.node (hCA.out.kept BA.out)
      rwa [Rf.tab_ext (G := G) (fun y hy => gA.out.tbl y hy)] at this
    unfold tab at KF
    go_upto_region 15 with (first
      | (go_at_call 14; refine KF.mono ?_; clear KF; rintro e wa ⟨rfl, ba⟩))
    have Na := nb wa (.cells #[.int .u64 (word G 0 : Int), .int .u64 (word G 1 : Int), .int .u64 (word G 2 : Int), .int .u64 (word G 3 : Int)] 24)
    have TQ := IsTab.new wa G
    generalize wa.alloc (.cells #[.int .u64 (word G 0 : Int), .int .u64 (word G 1 : Int), .int .u64 (word G 2 : Int), .int .u64 (word G 3 : Int)] 24) = wb at Na TQ ⊢
    generalize wa.heap.size = bq at TQ ⊢
    have bab := Rf.below_far ba Na
    have sB := sT.below bab
    have rowB := rowT.of_block (bab.block ob rowT.lt)
    have TFb := kept TF bab
    have BB : Aside (Below W.heap.size W wb) := Rf.below_far BA.out bab
    have pl : pathsL M a = cubesR (Mdl.empty n 600).v n 0 G := by rw [cubesR_all oM gA.out.node gA.out.tbl, nM, vM]
    have KC := cubes_op sB gA.out.node
    rw [pl] at KC
    obtain ⟨lq, hlq⟩ : ∃ l, cubesR (Mdl.empty n 600).v n 0 G = l := ⟨_, rfl⟩
    have KR : Aside (∀ u : World, u.rowIs ob 3 n (fun i => .int .i64 ((Mdl.empty n 600).v i : Int)) → Calls Tryz.prog 16 #[tab G, .slice (some ⟨ob, 0, none⟩) n n] u (RcC u lq)) := fun u r => by
      rw [← hlq]
      exact rcubes_any (idn8 n8 600) n (k := 0) n8 (Nat.le_refl _) (.inr ⟨ob, 0, rfl, r.lt, fun i hi => by rw [Nat.zero_add]; show _ = some (Value.int .i64 ((Mdl.empty n 600).v (0 + i) : Int)); rw [Nat.zero_add]; exact r.cell hi⟩)
    have llq : lq.length ≤ 256 := by
      rw [← hlq]
      exact Nat.le_trans (cubesR_le _ n 0 G) (Nat.pow_le_pow_right (n := 2) (j := 8) (by omega) n8)
    rw [hlq] at KC
    clear hlq pl ba Na bab sT rowT TF BA
    go_upto_region 17 with (first
      | (go_at_call 15; refine KC.mono ?_; clear KC; rintro e wh ⟨ad1, cap1, rfl, o1, bc⟩; have TFc := kept TFb bc; obtain ⟨t0, t1, t2, t3⟩ := TFc.copy; have K2 := KR.out wh (rowB.of_block (bc.block ob rowB.lt)); unfold tab at K2)
      | (go_at_call 16; refine K2.mono ?_; clear K2; rintro e wd ⟨ad2, cap2, rfl, o2, bd⟩))
    have bcd := Rf.below_far bc bd
    have sD := sB.below bcd
    have rowD := rowB.of_block (bcd.block ob rowB.lt)
    have TFd : IsTab wd.drew bf G := kept TFb bcd.drew
    have TQd : IsTab wd.drew bq G := kept TQ bcd.drew
    have BD : Aside (Below W.heap.size W wd) := Rf.below_far BB.out bcd
    have o1A : Aside (OwnP wd wb.heap.size ad1 lq cap1) := o1.below bd
    have o2A : Aside (OwnP wd wh.heap.size ad2 lq cap2) := o2
    have sDA : Aside (St wd S FT M) := sD
    clear t0 t1 t2 t3 TFc TFb TQ sB rowB BB bc bd o1 o2 KR bcd
    have K3 : Calls Tryz.prog 17 #[.pointer (some ⟨S, 0, none⟩), .int .u32 (a : Int), tab G] wd.drew fun e w' => e = .returned (.bool true) ∧ Below wd.drew.heap.size wd.drew w' := by
      have := isf_any (G := G) sD.drew gA.out.node
      rwa [same_true gA.out.tbl] at this
    have KL : Aside (∀ u, Below wd.drew.heap.size wd.drew u → Calls Tryz.prog 18 #[.pointer (some ⟨S, 0, none⟩)] u fun e w' => e = .returned (.int .i64 (M.hs.length : Int)) ∧ w' = u) := fun u k => s_len (sDA.out.drew.below k)
    have KS : Aside (∀ u, Below wd.drew.heap.size wd.drew u → Calls Tryz.prog 19 #[.slice (some ⟨u.heap.size, 0, none⟩) 1 1, .slice (some ⟨ob, 0, none⟩) n n] (u.alloc (.cells #[.int .u64 (word G 0 : Int), .int .u64 (word G 1 : Int), .int .u64 (word G 2 : Int), .int .u64 (word G 3 : Int)] 24)) fun e w' => e = .returned (.int .i64 (M.hs.length : Int)) ∧ Below u.heap.size u w') := fun u k => by
      have B := nb u (.cells #[.int .u64 (word G 0 : Int), .int .u64 (word G 1 : Int), .int .u64 (word G 2 : Int), .int .u64 (word G 3 : Int)] 24)
      have r := rowD.of_block ((Rf.below_far k B).block ob rowD.lt)
      have := size_any (some ⟨u.heap.size, 0, none⟩) 1 1 (fun _ => G) (some ⟨ob, 0, none⟩) n n (fun i => ((Mdl.empty n 600).v i : Int)) _ (by omega) n8 (tabs_one' (Go.Deep.blk_alloc_new u _)) (.inr ⟨ob, 0, rfl, r.lt, fun i hi => by rw [Nat.zero_add]; exact r.cell hi⟩)
      rw [dedup_one, alone_len oeA.out oM dA.out gA.out] at this
      exact this.mono fun e w' h => ⟨h.1, Rf.below_far B h.2⟩
    have CD := two_cells' TQd TFd
    have heq2 : ∀ w, (Op.equalIn 10000 24 (tab G) (tab G)).run Tryz.prog w = .ok true w := fun w => by
      have := Rf.equal_tab G G w
      rwa [same_true (Eqt.refl G)] at this
    have hlb : (M.hs.length : Int) ≤ 82 := by omega
    unfold tab at K3 heq2
    go_cut [117] from 80 to 117 (fun sx w => sx = .bool false ∧ Aside (Below wd.heap.size wd w))
    case first =>
      go_region_held3 (fun u => u.cell? ⟨bq, 0, none⟩ = some (.int .u64 (word G 0 : Int)) ∧ u.cell? ⟨bq, 1, none⟩ = some (.int .u64 (word G 1 : Int)) ∧ u.cell? ⟨bq, 2, none⟩ = some (.int .u64 (word G 2 : Int)) ∧ u.cell? ⟨bq, 3, none⟩ = some (.int .u64 (word G 3 : Int)) ∧ u.cell? ⟨bf, 0, none⟩ = some (.int .u64 (word G 0 : Int)) ∧ u.cell? ⟨bf, 1, none⟩ = some (.int .u64 (word G 1 : Int)) ∧ u.cell? ⟨bf, 2, none⟩ = some (.int .u64 (word G 2 : Int)) ∧ u.cell? ⟨bf, 3, none⟩ = some (.int .u64 (word G 3 : Int))) (first | assumption) (first
        | (go_at_call 17; refine K3.mono ?_; clear K3; rintro e we ⟨rfl, be⟩; have TFe := kept TFd be; have TQe := kept TQd be; have CE := two_cells' TQe TFe; have NE := nb we (.cells #[.int .u64 (word G 0 : Int), .int .u64 (word G 1 : Int), .int .u64 (word G 2 : Int), .int .u64 (word G 3 : Int)] 24); have CE2 := two_cells' (kept TQe NE) (kept TFe NE); have K5 := KS.out we be; clear CD)
        | (go_at_call 18; refine (KL.out _ (by first | exact be | exact Rf.below_far be NE)).mono ?_; rintro e wl ⟨rfl, el⟩; subst wl)
        | (go_at_call 19; refine K5.mono ?_; clear K5; rintro e wf ⟨rfl, bF⟩; have CF := two_cells' (kept TQe bF) (kept TFe bF); clear CE2))
      all_goals go_wp2_with fail
      all_goals go_meet
      all_goals exact ⟨rfl, Rf.below_far (show Below wd.heap.size wd we from ⟨be.os, be.tape, be.output, be.size, be.block⟩) bF⟩
    case rest =>
      obtain ⟨rfl, hB⟩ := hcut
      clear K3 KL KS CD heq2 hlb rowD TFd TQd sD
      have sC : Aside (St wc S FT M) := sDA.out.below hB.out
      have BC : Aside (Below W.heap.size W wc) := Rf.below_far BD.out hB.out
      have p1A : Aside (OwnP wc wb.heap.size ad1 lq cap1) := o1A.out.below hB.out
      have p2A : Aside (OwnP wc wh.heap.size ad2 lq cap2) := o2A.out.below hB.out
      clear hB o1A o2A sDA BD
      go_upto_region 20 with fail
      go_loopg [20] lq.length (fun gg s20 wr => ∃ i : Nat, i + gg = lq.length ∧ s20 = .int .i64 (i : Int) ∧ Aside (Below wc.heap.size wc wr))
      case atStart => exact ⟨0, by omega, rfl, Below.refl _ _⟩
      case round =>
        obtain ⟨i, hi, rfl, hB⟩ := hrel
        have hIA : Aside (i + gk = lq.length) := hi
        by_cases hil : i < lq.length
        · have hil' : (i : Int) < (lq.length : Int) := by omega
          have hilA : Aside (i < lq.length) := hil
          obtain ⟨g1, hg1, a0, a1⟩ := (p1A.out.below hB.out).read hil
          obtain ⟨g2, hg2, d0, d1⟩ := (p2A.out.below hB.out).read hil
          subst hg1
          subst hg2
          generalize (lq.getD i (0, 0)).1 = p1 at a0 d0
          generalize (lq.getD i (0, 0)).2 = p2 at a1 d1
          have q0 : ∀ n, (wr.drewN n).cell? ⟨g1, i * 2, none⟩ = some (.int .u8 (p1 : Int)) := fun n => a0
          have q1 : ∀ n, (wr.drewN n).cell? ⟨g1, i * 2 + 1, none⟩ = some (.int .u8 (p2 : Int)) := fun n => a1
          have r0 : ∀ n, (wr.drewN n).cell? ⟨g2, i * 2, none⟩ = some (.int .u8 (p1 : Int)) := fun n => d0
          have r1 : ∀ n, (wr.drewN n).cell? ⟨g2, i * 2 + 1, none⟩ = some (.int .u8 (p2 : Int)) := fun n => d1
          have heq3 : ∀ w, (Op.equalIn 10000 49 (.agg #[.int .u8 (p1 : Int), .int .u8 (p2 : Int)]) (.agg #[.int .u8 (p1 : Int), .int .u8 (p2 : Int)])).run Tryz.prog w = .ok true w := fun w => by
            have := equal_pair (p1 : Int) (p2 : Int) (p1 : Int) (p2 : Int) w
            simpa using this
          have bi : (i : Int) ≤ 256 := by omega
          clear a0 a1 d0 d1 hi hil
          go_upto_region 22 with fail
          go_quiet (fail)
          have bB2 : Aside (Below wc.heap.size wc (wr.drewN nq)) := ⟨hB.out.os, hB.out.tape, hB.out.output, hB.out.size, hB.out.block⟩
          go_wp2_with fail
          go_roundg (gk - 1)
          case measure => have := hIA.out; have := hilA.out; omega
          case rel =>
            have := hIA.out
            have := hilA.out
            exact ⟨i + 1, by omega, by go_num, bB2⟩
        · obtain rfl : i = lq.length := by omega
          have sR := sC.out.below hB.out
          have BR : Aside (Below W.heap.size W wr) := Rf.below_far BC.out hB.out
          have rM : M.room = 600 := gA.out.grew.room
          obtain ⟨Q, hQ⟩ : ∃ Q, 2 ^ n = Q := ⟨_, rfl⟩
          have Q8 : Q ≤ 256 := by rw [← hQ]; exact Nat.pow_le_pow_right (n := 2) (j := 8) (by omega) n8
          have sh : IntKind.i64.wrap (2 ^ n) = (Q : Int) := by
            have e : ((2 : Int) ^ n) = (Q : Int) := by rw [← hQ]; push_cast; rfl
            rw [e, IntKind.wrap_i64]
            omega
          have mn : min n 64 = n := by omega
          have nlt : ¬ (lq.length : Int) < (lq.length : Int) := by omega
          obtain ⟨hm', hq'⟩ := hmA.out
          clear hi hil hIA hB sC BC p1A p2A
          by_cases big : Q ≤ m
          · have K6 := cube_bad sR m q (by rw [nM, hQ]; exact big)
            have gb : (Q : Int) ≤ (m : Int) := by omega
            clear hQ sR
            go_wp2_with (first
              | (go_at_call 20; refine K6.mono ?_; clear K6; rintro e wx ⟨rfl, ex⟩; subst wx))
            go_ret
            exact ⟨rfl, BR.out⟩
          · have sm : m < 2 ^ M.n := by rw [nM, hQ]; omega
            have K6 := cube_op sR hm' hq' sm (by omega)
            have smA : Aside (m < 2 ^ M.n) := sm
            have gb : ¬ (Q : Int) ≤ (m : Int) := by omega
            have oMA : Aside M.Ok := oM
            clear hQ sR sm
            go_wp2_with (first
              | (go_at_call 20; refine K6.mono ?_; clear K6; rintro e wx ⟨x, M2, F2, rfl, cu, s2, k2⟩; have BX : Aside (Below W.heap.size W wx) := Wf.far BR.out k2 BR.out.size fA.out; have tx := cu.got.tbl; rw [cubeL_all oMA.out smA.out] at tx; have isA : Aside (∀ u, Below wx.heap.size wx u → Calls Tryz.prog 17 #[.pointer (some ⟨S, 0, none⟩), .int .u32 (x : Int), tab (cubeF m q)] u fun e w' => e = .returned (.bool true) ∧ Below u.heap.size u w') := (fun u k => by have := isf_any (G := cubeF m q) (s2.below k) cu.got.node; rwa [same_true tx] at this); have onA : Aside (∀ u, Below wx.heap.size wx u → Calls Tryz.prog 22 #[.pointer (some ⟨S, 0, none⟩)] u fun e w' => e = .returned (.bool true) ∧ Below u.heap.size u w') := (fun u k => once_any (s2.below k)); have K7 := lcube_any m q hm' hq' wx; unfold tab at K7; clear s2 k2 cu tx)
              | (go_at_call 21; refine K7.mono ?_; clear K7; rintro e wy ⟨rfl, bY⟩; have K8 := isA.out wy bY; unfold tab at K8)
              | (go_at_call 17; refine K8.mono ?_; clear K8; rintro e wz ⟨rfl, bZ⟩; have K9 := onA.out wz (Rf.below_far bY bZ))
              | (go_at_call 22; refine K9.mono ?_; clear K9; rintro e wo ⟨rfl, bO⟩))
            go_ret
            exact ⟨rfl, Rf.below_far BX.out (Rf.below_far (Rf.below_far bY bZ) bO)⟩
end Go.Proofs.YtfaccdnnjkkcfaaGreatDoor
