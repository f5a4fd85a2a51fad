/-
  BuildPaths, walked.
-/
import Derived.Test.YtfaccdnnjkkcfaaGreatDoorBdX
import Derived.Test.YtfaccdnnjkkcfaaGreatDoorBdZ
import Derived.Deep.LoopGhost
import Derived.BigQuiet
namespace Go.Proofs.YtfaccdnnjkkcfaaGreatDoor
open Go Go.RowKit
open Rf (fixAt fixF tab word same IsTab Cols)

/-- What is told of the paths of a function. -/
structure PathsOf (F : Nat → Bool) (ps : List (Nat × Nat)) : Prop where
  len : ps.length ≤ 128
  hit : ∀ y, y < 256 → hits y ps = if F y = true then 1 else 0
  sub : ∀ p ∈ ps, (∀ i, p.2.testBit i = true → p.1.testBit i = true) ∧ p.1 < 256 ∧ p.2 < 256
theorem PathsOf.of {M : Mdl} (o : M.Ok) (n8 : M.n = 8) {x : Nat} {F : Nat → Bool} (xn : M.isNode x) (e : Eqt (M.tbl x) F) : PathsOf F (pathsL M x) := by
  have len := paths_len o M.n (m := 0) (q := 0) xn (by omega)
  rw [n8] at len
  refine ⟨by unfold pathsL; rw [n8]; exact len, fun y hy => ?_, fun p hp => ?_⟩
  · unfold pathsL
    rw [hits_paths o M.n xn (by omega) (fun i _ _ => ⟨Nat.zero_testBit _, Nat.zero_testBit _⟩) y, onP_zero, Bool.true_and, e y hy]
  · have := paths_in o M.n xn (m := 0) (q := 0) (fun i h => by rw [Nat.zero_testBit] at h; cases h) (Nat.pow_pos (by omega)) (Nat.pow_pos (by omega)) p hp
    rw [n8] at this
    exact this

set_option maxRecDepth 100000 in
set_option maxHeartbeats 4000000 in
theorem paths_walk (F : Nat → Bool) (W : World) (hC : Cols W) :
    Calls Tryz.prog 4 #[tab F] W fun e w' => e = .returned (.bool true) ∧ Below W.heap.size W w' := by
  conv in #[tab F] => unfold tab
  have B3 := nb W (.cells #[.int .u64 (word F 0 : Int), .int .u64 (word F 1 : Int), .int .u64 (word F 2 : Int), .int .u64 (word F 3 : Int)] 24)
  have TF := IsTab.new W F
  go_enter Tryz.func4, Tryz.ntmps4
  go_upto_region 1 with fail
  generalize W.alloc (.cells #[.int .u64 (word F 0 : Int), .int .u64 (word F 1 : Int), .int .u64 (word F 2 : Int), .int .u64 (word F 3 : Int)] 24) = v3 at B3 TF ⊢
  have Kk := bknown_any v3 (hC.kept B3)
  have B3A : Aside (Below W.heap.size W v3) := B3
  generalize hbf : W.heap.size = bf at TF ⊢
  have hbA : Aside (W.heap.size = bf) := hbf
  clear hbf B3 hC
  go_upto_region 3 with (first
    | (go_at_call 8; refine Kk.mono ?_; clear Kk; rintro e v4 ⟨rfl, b4⟩))
  have TF4 := kept TF b4
  have Kn : Calls Tryz.prog 9 #[.int .i64 8, .int .i64 200] v4 _ := s_new 8 200 v4 (by omega) (by omega) (by omega) (by omega)
  have B4A : Aside (Below W.heap.size W v4) := Rf.below_far B3A.out b4
  clear TF b4 B3A
  go_upto_region 6 with (first
    | (go_at_call 9; refine Kn.mono ?_; clear Kn; rintro e w5 ⟨S, F0, rfl, s5, b5, f5⟩))
  have TF5 := kept TF4 b5
  have B5A : Aside (Below W.heap.size W w5) := Rf.below_far B4A.out b5
  have f5A : Aside (∀ k, F0 k → W.heap.size ≤ k) := fun k hk => Nat.le_trans B4A.out.size (f5 k hk)
  have K1 := make_any s5 (Dep.all s5.ok rfl F) (by show 0 + (2 ^ (8 - 2) - 1) + 19 ≤ 200; omega)
  unfold tab at K1
  obtain ⟨y0, y1, y2, y3⟩ := TF5.copy
  clear TF4 b5 f5 B4A
  go_upto_region 7 with (first
    | (go_at_call 23; refine K1.mono ?_; clear K1; rintro e w6 ⟨a, M, rfl, ⟨F6, s6, g6⟩, m6⟩))
  have TF6 : IsTab w6 bf F := (g6.block bf TF5.lt (s5.row TF5 (by decide))).trans TF5
  have B6A : Aside (Below W.heap.size W w6) := Wf.far B5A.out g6 B5A.out.size f5A.out
  have K2 := cubes_op s6 m6.node
  have ps := PathsOf.of s6.ok (m6.grew.n) m6.node m6.tbl
  have psA : Aside (PathsOf F (pathsL M a)) := ps
  have len := ps.len
  generalize pathsL M a = l at K2 psA len
  clear y0 y1 y2 y3 TF5 B5A f5A g6 m6 s6 s5 ps
  go_upto_region 11 with (first
    | (go_at_call 15; refine K2.mono ?_; clear K2; rintro e w7 ⟨ad, cap, rfl, o7, b7⟩))
  have TF7 := kept TF6 b7
  have B7A : Aside (Below W.heap.size W w7) := Rf.below_far B6A.out b7
  have o7A : Aside (OwnP w7 w6.heap.size ad l cap) := o7
  have T7A : Aside (IsTab w7 bf F) := TF7
  clear TF6 TF7 o7 b7 B6A
  go_loopg [8, 9, 10] 256 (fun gg s8 _ _ wr => ∃ x : Nat, x + gg = 256 ∧ s8 = .int .i64 (x : Int) ∧ Aside (Below w7.heap.size w7 wr))
  case atStart => exact ⟨0, rfl, rfl, Below.refl _ _⟩
  case round =>
    obtain ⟨x, hx, rfl, hB⟩ := hrel
    have hX : Aside (x + gk = 256) := hx
    obtain ⟨go, rfl⟩ : ∃ g, g = gk := ⟨_, rfl⟩
    by_cases hlt : x < 256
    · have hlt' : (x : Int) < 256 := by omega
      have hltA : Aside (x < 256) := hlt
      have hX' : Aside (x + go = 256) := hX
      clear hx hX
      go_upto_region 15 with fail
      go_loopg [9, 10] l.length (fun gg s9 s10 wr2 => ∃ i : Nat, i + gg = l.length ∧ s9 = .int .i64 ((hits x (l.take i) : Nat) : Int) ∧ s10 = .int .i64 (i : Int) ∧ Aside (Below w7.heap.size w7 wr2))
      case atStart => exact ⟨0, by omega, rfl, rfl, hB⟩
      case round =>
        clear hB
        obtain ⟨i, hi, rfl, rfl, hB⟩ := hrel
        have hI : Aside (i + gk = l.length) := hi
        by_cases hil : i < l.length
        · have hil' : (i : Int) < (l.length : Int) := by omega
          have hilA : Aside (i < l.length) := hil
          have ownr := o7A.out.below hB.out
          obtain ⟨g, rfl, r0, r1⟩ := ownr.read hil
          have memp := psA.out.sub _ (getDP_mem hil)
          have step := hits_take x l i hil
          have hle := hits_le x l i
          have htot := psA.out.hit x hlt
          obtain ⟨p1, hp1⟩ : ∃ p, (l.getD i (0, 0)).1 = p := ⟨_, rfl⟩
          obtain ⟨p2, hp2⟩ : ∃ p, (l.getD i (0, 0)).2 = p := ⟨_, rfl⟩
          have pe : l.getD i (0, 0) = (p1, p2) := by rw [← hp1, ← hp2]
          rw [pe] at memp step r0 r1
          simp only at memp r0 r1
          have xw : IntKind.u8.wrap (x : Int) = (x : Int) := by rw [IntKind.wrap_u8]; omega
          obtain ⟨t, ht⟩ : ∃ t, x &&& p1 = t := ⟨_, rfl⟩
          have an : bits .and .u8 (x : Int) (p1 : Int) = (t : Int) := by rw [u8_and_nat x p1 hlt memp.2.1, ht]
          have sb : bits .andNot .u8 (p2 : Int) (p1 : Int) = 0 := by rw [u8_andNot_nat p2 p1 memp.2.2 memp.2.1, path_sub memp.1 memp.2.1]; rfl
          have eo : onP x (p1, p2) = decide (t = p2) := by
            show (x &&& p1 == p2) = _
            rw [ht, Bool.eq_iff_iff, beq_iff_eq, decide_eq_true_iff]
          rw [eo] at step
          have hs : hits x (l.take i) ≤ 1 := by rw [htot] at hle; split at hle <;> omega
          have stepA : Aside (hits x (l.take (i + 1)) = hits x (l.take i) + if decide (t = p2) = true then 1 else 0) := step
          have q0 : ∀ n, (wr.drewN n).cell? ⟨g, i * 2, none⟩ = some (.int .u8 (p1 : Int)) := fun n => r0
          have q1 : ∀ n, (wr.drewN n).cell? ⟨g, i * 2 + 1, none⟩ = some (.int .u8 (p2 : Int)) := fun n => r1
          generalize hits x (l.take i) = k at stepA hs ⊢
          have e1 : ((t : Int) == (p2 : Int)) = decide (t = p2) := by rw [Bool.eq_iff_iff, beq_iff_eq, decide_eq_true_iff]; omega
          have bi : (i : Int) ≤ 128 := by omega
          have bB : Aside (Below w7.heap.size w7 wr) := hB
          clear r0 r1 memp step hle htot hp1 hp2 pe ht eo ownr hi hil hB
          go_upto_region 17 with fail
          go_quiet (fail)
          have bB' : Aside (Below w7.heap.size w7 (wr.drewN nq)) := ⟨bB.out.os, bB.out.tape, bB.out.output, bB.out.size, bB.out.block⟩
          have s0 : ∀ n, ((wr.drewN nq).drewN n).cell? ⟨g, i * 2, none⟩ = some (.int .u8 (p1 : Int)) := fun n => q0 0
          have s1 : ∀ n, ((wr.drewN nq).drewN n).cell? ⟨g, i * 2 + 1, none⟩ = some (.int .u8 (p2 : Int)) := fun n => q1 0
          generalize wr.drewN nq = wq at s0 s1 bB' ⊢
          clear q0 q1 bB
          cases hd : decide (t = p2) with
          | true =>
            rw [hd] at e1 stepA
            simp only [if_true] at stepA
            clear hd
            go_upto_region 19 with fail
            go_quiet (fail)
            have bB2 : Aside (Below w7.heap.size w7 (wq.drewN nq)) := ⟨bB'.out.os, bB'.out.tape, bB'.out.output, bB'.out.size, bB'.out.block⟩
            go_wp2_with fail
            go_roundg (gk - 1)
            case measure => have := hI.out; have := hilA.out; omega
            case rel =>
              have := hI.out
              have := hilA.out
              exact ⟨i + 1, by omega, by rw [stepA.out]; go_num, by go_num, bB2⟩
          | false =>
            rw [hd] at e1 stepA
            simp only [Bool.false_eq_true, if_false, Nat.add_zero] at stepA
            clear hd
            go_upto_region 19 with fail
            go_quiet (fail)
            have bB2 : Aside (Below w7.heap.size w7 (wq.drewN nq)) := ⟨bB'.out.os, bB'.out.tape, bB'.out.output, bB'.out.size, bB'.out.block⟩
            go_wp2_with fail
            go_roundg (gk - 1)
            case measure => have := hI.out; have := hilA.out; omega
            case rel =>
              have := hI.out
              have := hilA.out
              exact ⟨i + 1, by omega, by rw [stepA.out], by go_num, bB2⟩
        · obtain rfl : i = l.length := by omega
          have htot := psA.out.hit x hlt
          rw [List.take_of_length_le (Nat.le_refl _)]
          have TF := kept T7A.out hB.out
          obtain ⟨y0, y1, y2, y3⟩ := TF.copy
          have KE := Rf.eval_any F x hlt wr
          unfold tab at KE
          have xw : IntKind.u8.wrap (x : Int) = (x : Int) := by rw [IntKind.wrap_u8]; omega
          have xb : (x : Int) ≤ 255 := by omega
          have nlt : ¬ (l.length : Int) < (l.length : Int) := by omega
          cases hF : F x with
          | true =>
            rw [hF] at htot KE
            simp only [if_true] at htot
            rw [htot]
            clear htot hF hi hil
            go_wp2_with (first
              | (go_at_call 24; refine KE.mono ?_; clear KE; rintro e w8 ⟨rfl, b8⟩))
            go_roundg (go - 1)
            case measure => have := hX'.out; have := hltA.out; omega
            case rel =>
              have := hX'.out
              have := hltA.out
              exact ⟨x + 1, by omega, by go_num, Rf.below_far hB.out b8⟩
          | false =>
            rw [hF] at htot KE
            simp only [Bool.false_eq_true, if_false] at htot
            rw [htot]
            clear htot hF hi hil
            go_wp2_with (first
              | (go_at_call 24; refine KE.mono ?_; clear KE; rintro e w8 ⟨rfl, b8⟩))
            go_roundg (go - 1)
            case measure => have := hX'.out; have := hltA.out; omega
            case rel =>
              have := hX'.out
              have := hltA.out
              exact ⟨x + 1, by omega, by go_num, Rf.below_far hB.out b8⟩
    · have hlt' : ¬ (x : Int) < 256 := by omega
      have hlt2 : ¬ x < 256 := hlt
      clear hx hX
      go_wp2_with fail
      go_ret
      exact ⟨rfl, Rf.below_far B7A.out hB.out⟩
end Go.Proofs.YtfaccdnnjkkcfaaGreatDoor
