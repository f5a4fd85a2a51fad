/-
  The walk of TableBases: for every two rows of numbers it tells true, and old memory is as it was.
-/
import Derived.Test.YtnekhfpccmnaiaaTwo
namespace Go.Proofs.Ytnekhfpccmnaiaa
open Go Go.RowKit

/-- What an argument that is a row of bytes holds, wherever it lies. -/
structure Bytes (W : World) (ad : Option Addr) (len b off : Nat) (Z : Nat → Int) : Prop where
  ad_ : 0 < len → ad = some ⟨b, off, none⟩
  lt : 0 < len → b < W.heap.size
  cell : ∀ k, k < len → W.cell? ⟨b, off + k, none⟩ = some (.int .u8 (Z k))
  val : ∀ k, k < len → 0 ≤ Z k ∧ Z k ≤ 255
theorem Bytes.kept {W w : World} {ad : Option Addr} {len b off : Nat} {Z : Nat → Int} (h : Bytes W ad len b off Z) (k : Below W.heap.size W w) {i : Nat} (hi : i < len) : w.cell? ⟨b, off + i, none⟩ = some (.int .u8 (Z i)) := by
  rw [k.cell (h.lt (by omega))]
  exact h.cell i hi

/-- What is so at the beginning of a round of TableBases. -/
structure BasesI (W w : World) (P R T1 T2 : Nat) (c : Nat → Int) : Prop where
  two : Two w P R T1 T2 c
  old : Below W.heap.size W w
  size : W.heap.size ≤ w.heap.size
theorem BasesI.new {W w w' : World} {P R T1 T2 : Nat} {c : Nat → Int} (h : BasesI W w P R T1 T2 c) (k : Below w.heap.size w w') : BasesI W w' P R T1 T2 c :=
  ⟨h.two.below k, far h.old k h.size, Nat.le_trans h.size k.size⟩
theorem BasesI.moved {W w w' : World} {R T1 T2 : Nat} {c : Nat → Int} (h : BasesI W w (R + 1) R T1 T2 c) (t : Two w' (R + 1) R T1 T2 c) (m : Moved (R + 1) R w w') (hw : W.heap.size ≤ R) : BasesI W w' (R + 1) R T1 T2 c :=
  ⟨t, below_move h.old m (by omega) hw h.size, Nat.le_trans h.size m.size⟩
/-- .. with a finder of each table. -/
structure BasesF (W w : World) (P R T1 T2 F G : Nat) (c : Nat → Int) (S S2 : Fd) : Prop where
  base : BasesI W w P R T1 T2 c
  f1 : IsFd w F T1 S
  f2 : IsFd w G T2 S2
  i1 : FI 8 (v1 c) S
  i2 : FI 12 (v2 c) S2
  ne : F ≠ G
  hF : W.heap.size ≤ F
  hG : W.heap.size ≤ G

theorem bases_long (ad ad2 : Option Addr) (len cap len2 cap2 : Nat) (W : World) (hlen : 30 < len ∨ 30 < len2) :
    Calls Try.prog 8 #[.slice ad len cap, .slice ad2 len2 cap2] W fun e w' => e = .returned (.bool true) ∧ Below W.heap.size W w' := by
  have K0 := known_any W
  by_cases h : 30 < len
  · have hd : decide (30 < (len : Int)) = true := by simp; omega
    clear hlen
    go_enter Try.func8, Try.ntmps8
    go_wp2_with (first
      | (go_at_call 9; refine K0.mono ?_; clear K0; rintro e w1 ⟨rfl, b1⟩))
    go_ret
    exact ⟨rfl, b1⟩
  · have hd : decide (30 < (len : Int)) = false := by simp; omega
    have hd2 : decide (30 < (len2 : Int)) = true := by simp; omega
    have h2 : 30 < len2 := by omega
    clear hlen
    go_enter Try.func8, Try.ntmps8
    go_wp2_with (first
      | (go_at_call 9; refine K0.mono ?_; clear K0; rintro e w1 ⟨rfl, b1⟩))
    go_ret
    exact ⟨rfl, b1⟩

set_option maxHeartbeats 4000000 in
set_option maxRecDepth 100000 in
theorem bases_walk (ad ad2 : Option Addr) (la cap b off lb cap2 b2 off2 : Nat) (Z V : Nat → Int) (W : World) (hZ : Bytes W ad la b off Z) (hV : Bytes W ad2 lb b2 off2 V) (hla : la ≤ 30) (hlb : lb ≤ 30) :
    Calls Try.prog 8 #[.slice ad la cap, .slice ad2 lb cap2] W fun e w' => e = .returned (.bool true) ∧ Below W.heap.size W w' := by
  have K0 := known_any W
  have hd : decide (30 < (la : Int)) = false := by simp; omega
  have hd2 : decide (30 < (lb : Int)) = false := by simp; omega
  have hd3 : ¬ 30 < la := by omega
  have hd4 : ¬ 30 < lb := by omega
  have hh : held 20 = 20 := by decide
  go_enter Try.func8, Try.ntmps8
  go_wp2_with (first
    | (go_at_call 9; refine K0.mono ?_; clear K0; rintro e w1 ⟨rfl, b1⟩; have K1 := new_any 20 w1; rw [hh] at K1)
    | (go_at_call 10; refine K1.mono ?_; clear K1; rintro e w2 ⟨rfl, m2, b2', s2⟩; have s2A : Aside (w2.heap.size = w1.heap.size + 2) := s2; clear s2; have K2 := tab_new' m2 0 8 0 8 rfl rfl (by omega) (by omega) (by omega))
    | (go_at_call_of 11 (Value.int .i64 0); refine K2.mono ?_; clear K2; rintro e w3 ⟨rfl, h3, b3, s3⟩; have s3A : Aside (w3.heap.size = w2.heap.size + 1) := s3; clear s3; have K3 := tab_new' h3.mem 8 12 8 12 rfl rfl (by omega) (by omega) (by omega))
    | (go_at_call_of 11 (Value.int .i64 12); refine K3.mono ?_; clear K3; rintro e w4 ⟨rfl, h4, b4, s4⟩; have s4A : Aside (w4.heap.size = w3.heap.size + 1) := s4; clear s4))
  obtain ⟨T1, hT1⟩ : ∃ T, T = w2.heap.size := ⟨_, rfl⟩
  obtain ⟨T2, hT2⟩ : ∃ T, T = w3.heap.size := ⟨_, rfl⟩
  obtain ⟨R, hR⟩ : ∃ R, R = w1.heap.size := ⟨_, rfl⟩
  have hWA : Aside (W.heap.size ≤ R) := by simp only [Aside]; have := b1.size; omega
  have start : BasesI W w4 (R + 1) R T1 T2 (fun _ => 0) := by
    have q1 := b1.size
    have q2 := s2A.out
    have q3 := s3A.out
    have q4 := s4A.out
    rw [hT1, hT2, hR]
    refine ⟨⟨⟨_, _, h3.below b4, h4⟩, Good.empty 8, Good.empty 12⟩, far (far (far b1 b2' b1.size) b3 ?_) b4 ?_, ?_⟩ <;> omega
  rw [← hT1, ← hT2, ← hR]
  clear hT1 hT2 hR h3 h4 m2 b2' b3 b4 b1 s2A s3A s4A hh
  go_loopg [10] 60 (fun g si wr => ∃ (i : Nat) (c : Nat → Int), i + g = 60 ∧ si = .int .i64 (i : Int) ∧ BasesI W wr (R + 1) R T1 T2 c)
  case atStart => exact ⟨0, _, by omega, rfl, start⟩
  case round =>
    obtain ⟨i, c, hi, rfl, E⟩ := hrel
    obtain ⟨go, hgo⟩ : ∃ go, go = gk := ⟨_, rfl⟩
    have hI : Aside (i + go = 60) := by simp only [Aside]; omega
    clear hi start
    by_cases hi60 : i < 60
    · have hi60' : (i : Int) < 60 := by omega
      have K1 := two_find1 E.two 1 (by omega) (by omega)
      obtain ⟨F, hF⟩ : ∃ F, F = wr.heap.size := ⟨_, rfl⟩
      rw [← hF] at K1
      have hFA : Aside (F = wr.heap.size) := hF
      clear hF
      go_upto_if 57 with (first
        | (go_at_call_of 12 (Value.pointer (some ⟨T1, 0, none⟩)); refine K1.mono ?_; clear K1; rintro e w4 ⟨rfl, k4, h4, b4, s4⟩; have K2 := two_find2 h4 1 (by omega) (by omega))
        | (go_at_call_of 12 (Value.pointer (some ⟨T2, 0, none⟩)); refine K2.mono ?_; clear K2; rintro e w5 ⟨rfl, k5, h5, b5, s5⟩))
      obtain ⟨G, hG⟩ : ∃ G, G = w4.heap.size := ⟨_, rfl⟩
      rw [← hG] at k5 ⊢
      have N5 : BasesF W w5 (R + 1) R T1 T2 F G c (Fd.start 8 1) (Fd.start 12 1) := by
        have hF := hFA.out
        have q1 := E.size
        have E4 := E.new (by rw [← hF]; exact b4)
        have E5 := E4.new b5
        refine ⟨E5, k4.below b5, k5, FI.start (by omega) _ (by omega), FI.start (by omega) _ (by omega), ?_, ?_, ?_⟩ <;> omega
      clear k4 h4 b4 s4 k5 h5 b5 s5 hG hFA
      go_cut [11] from 57 to 64 (fun sx w => ∃ (F' : Nat) (S : Fd), sx = .pointer (some ⟨F', 0, none⟩) ∧ BasesF W w (R + 1) R T1 T2 F' G c S (Fd.start 12 1))
      case first =>
        by_cases hia : i < la
        · have hia' : (i : Int) < (la : Int) := by omega
          obtain rfl := hZ.ad_ (by omega)
          have hc := hZ.kept N5.base.old hia
          have hz := hZ.val i hia
          generalize Z i = z at hc hz
          have K1 := key_any z 8 w5 hz.1 hz.2 (by omega) (by omega)
          have K2 := two_find1 N5.base.two (z % 8 + 1) (by omega) (by omega)
          go_wp2_with (first
            | (go_at_call 20; refine K1.mono ?_; clear K1; rintro e w5 ⟨rfl, rfl⟩)
            | (go_at_call 12; refine K2.mono ?_; clear K2; rintro e w6 ⟨rfl, k6, h6, b6, s6⟩))
          go_meet
          case rel =>
            refine ⟨_, _, rfl, ⟨N5.base.new b6, k6, N5.f2.below b6, FI.start (by omega) _ (by omega), N5.i2, ?_, N5.base.size, N5.hG⟩⟩
            have := N5.f2.lt
            omega
        · have hia' : ¬ (i : Int) < (la : Int) := by omega
          go_wp2_with fail
          go_meet
          case rel => exact ⟨_, _, rfl, N5⟩
      case rest =>
        clear N5
        obtain ⟨F1, S1, rfl, N6⟩ := hcut
        go_upto_if 68 with fail
        go_cut [12] from 68 to 75 (fun sy w => ∃ (G' : Nat) (S2 : Fd), sy = .pointer (some ⟨G', 0, none⟩) ∧ BasesF W w (R + 1) R T1 T2 F1 G' c S1 S2)
        case first =>
          by_cases hib : i < lb
          · have hib' : (i : Int) < (lb : Int) := by omega
            obtain rfl := hV.ad_ (by omega)
            have hc := hV.kept N6.base.old hib
            have hz := hV.val i hib
            generalize V i = z at hc hz
            have K1 := key_any z 12 wc hz.1 hz.2 (by omega) (by omega)
            have K2 := two_find2 N6.base.two (z % 12 + 1) (by omega) (by omega)
            go_wp2_with (first
              | (go_at_call 20; refine K1.mono ?_; clear K1; rintro e wc ⟨rfl, rfl⟩)
              | (go_at_call 12; refine K2.mono ?_; clear K2; rintro e w6 ⟨rfl, k6, h6, b6, s6⟩))
            go_meet
            case rel =>
              refine ⟨_, _, rfl, ⟨N6.base.new b6, N6.f1.below b6, k6, N6.i1, FI.start (by omega) _ (by omega), ?_, N6.hF, N6.base.size⟩⟩
              have := N6.f1.lt
              omega
          · have hib' : ¬ (i : Int) < (lb : Int) := by omega
            go_wp2_with fail
            go_meet
            case rel => exact ⟨_, _, rfl, N6⟩
        case rest =>
          clear N6
          obtain ⟨G1, S2, rfl, N7⟩ := hcut
          go_wp2_with fail
          go_loopg [13] 80 (fun g si wr => ∃ (k : Nat) (c : Nat → Int) (S S2 : Fd), k + g = 80 ∧ si = .int .i64 (k : Int) ∧ BasesF W wr (R + 1) R T1 T2 F1 G1 c S S2)
          case atStart => exact ⟨0, _, _, _, by omega, rfl, N7⟩
          case round =>
            clear N7
            obtain ⟨k, c, S, S2, hk, rfl, N⟩ := hrel
            have hKA : Aside (k + gk = 80) := hk
            clear hk
            go_upto_region 19 with fail
            go_cut [86] from 76 to 86 (fun sb w => ∃ b : Bool, sb = .bool b ∧ (b = true → k < 80) ∧ w = wr)
            case first =>
              by_cases hk80 : k < 80
              · have hk80' : (k : Int) < 80 := by omega
                have K1 := done_any N.f1
                have K2 := done_any N.f2
                generalize decide (S.st = 0) = bx at K1
                generalize decide (S2.st = 0) = by_ at K2
                have hFG := N.ne
                cases bx <;> cases by_
                all_goals go_wp2_with (first
                  | (go_at_call_of 15 (Value.pointer (some ⟨F1, 0, none⟩)); refine K1.mono ?_; clear K1; rintro e wq ⟨rfl, hq⟩; subst hq)
                  | (go_at_call_of 15 (Value.pointer (some ⟨G1, 0, none⟩)); refine K2.mono ?_; clear K2; rintro e wq ⟨rfl, hq⟩; subst hq))
                all_goals go_meet
                all_goals exact ⟨_, rfl, fun _ => hk80, rfl⟩
              · have hk80' : ¬ (k : Int) < 80 := by omega
                go_wp2_with fail
                go_meet
                case rel => exact ⟨_, rfl, fun e => (by cases e), rfl⟩
            case rest =>
              obtain ⟨bb, rfl, hbb, rfl⟩ := hcut
              have hw := hWA.out
              cases bb with
              | true =>
                have hk80 := hbb rfl
                clear hbb
                have K1 := two_step1 N.base.two N.f1 N.f2 N.ne N.i1 N.i2
                have hFG := N.ne
                go_wp2_with (first
                  | (go_at_call_of 13 (Value.pointer (some ⟨F1, 0, none⟩)); refine K1.mono ?_; clear K1; rintro e w5 ⟨b5, c5, S5, rfl, h5, k5, l5, i5, j5, m5⟩; have K2 := two_step2 h5 k5 l5 hFG i5 j5)
                  | (go_at_call_of 13 (Value.pointer (some ⟨G1, 0, none⟩)); refine K2.mono ?_; clear K2; rintro e w6 ⟨b6, c6, S6, rfl, h6, k6, l6, i6, j6, m6⟩))
                go_roundg (gk - 1)
                case measure => have := hKA.out; omega
                case rel =>
                  have hk := hKA.out
                  have z5 := Nat.le_trans N.base.size m5.size
                  exact ⟨k + 1, c6, _, _, by omega, rfl, ⟨⟨h6, below_step (below_step N.base.old m5 (by omega) hw N.hF N.base.size) m6 (by omega) hw N.hG z5, Nat.le_trans z5 m6.size⟩, k6, l6, i6, j6, hFG, N.hF, N.hG⟩⟩
              | false =>
                clear hbb
                have K1 := slot_any N.f1
                have K2 := slot_any N.f2
                have hFG := N.ne
                have E0 := N.base
                have L1 := two_len1 E0.two
                have t1 := N.i1.tells (by omega)
                have t2 := N.i2.tells (by omega)
                clear N
                rcases t1 with ⟨q, hq, e1⟩ | ⟨e0, e1⟩ | e1 <;> rw [e1] at K1 <;> clear e1
                all_goals rcases t2 with ⟨p, hp, e2⟩ | ⟨f0, e2⟩ | e2 <;> rw [e2] at K2 <;> clear e2
                all_goals go_wp2_with (first
                  | (go_at_call_of 14 (Value.pointer (some ⟨F1, 0, none⟩)); refine K1.mono ?_; clear K1; rintro e wq ⟨rfl, hq⟩; subst hq)
                  | (go_at_call_of 14 (Value.pointer (some ⟨G1, 0, none⟩)); refine K2.mono ?_; clear K2; rintro e wq ⟨rfl, hq⟩; subst hq)
                  | (go_at_call_of 16 (Value.pointer (some ⟨T1, 0, none⟩)); refine L1.mono ?_; clear L1; rintro e w5 ⟨rfl, h5, m5⟩; have E5 := E0.moved h5 m5 hw; have hL := two_len2 h5; clear m5)
                  | (go_at_call_of 16 (Value.pointer (some ⟨T2, 0, none⟩)); refine hL.mono ?_; clear hL; rintro e w6 ⟨rfl, h6, m6⟩; have E6 := E5.moved h6 m6 hw; clear m6)
                  | (go_at_call_of 16 (Value.pointer (some ⟨T2, 0, none⟩)); refine (two_len2 E0.two).mono ?_; rintro e w6 ⟨rfl, h6, m6⟩; have E6 := E0.moved h6 m6 hw; clear m6))
                all_goals go_roundg (go - 1)
                all_goals first
                  | (have := hI.out; omega)
                  | (have hi := hI.out
                     refine ⟨i + 1, c, by omega, rfl, ?_⟩
                     first
                       | exact E6
                       | exact E5
                       | exact E0)
    · obtain rfl : i = 60 := by have := hI.out; omega
      have hw := hWA.out
      have K1 := two_len1 E.two
      have hle := cnt_le (v1 c) 8
      generalize hn : cnt (v1 c) 8 = m at K1 hle
      have hmA : Aside (cnt (v1 c) 8 = m) := hn
      clear hn
      go_wp2_with (first
        | (go_at_call_of 16 (Value.pointer (some ⟨T1, 0, none⟩)); refine K1.mono ?_; clear K1; rintro e w5 ⟨rfl, h5, m5⟩; have K2 := two_clear h5)
        | (go_at_call 24; refine K2.mono ?_; clear K2; rintro e w6 ⟨rfl, ⟨c6, h6, z6, y6⟩, m6⟩; have K3 := two_len2 h6; rw [z6] at K3; rw [hmA.out] at y6; clear z6)
        | (go_at_call_of 16 (Value.pointer (some ⟨T2, 0, none⟩)); refine K3.mono ?_; clear K3; rintro e w7 ⟨rfl, h7, m7⟩; have K4 := two_len1 h7; rw [y6] at K4; clear y6)
        | (go_at_call_of 16 (Value.pointer (some ⟨T1, 0, none⟩)); refine K4.mono ?_; clear K4; rintro e w8 ⟨rfl, h8, m8⟩))
      go_ret
      have z5 := Nat.le_trans E.size m5.size
      have z6 := Nat.le_trans z5 m6.size
      have z7 := Nat.le_trans z6 m7.size
      exact ⟨rfl, below_move (below_move (below_move (below_move E.old m5 (by omega) hw E.size) m6 (by omega) hw z5) m7 (by omega) hw z6) m8 (by omega) hw z7⟩
end Go.Proofs.Ytnekhfpccmnaiaa
