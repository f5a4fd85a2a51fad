/-
  The walk of DequeLast: for every turns and number of thieves it tells true, and old memory is as it was.
-/
import Derived.Test.YtfpgdmnbehingaaCrew
import Derived.Test.YtfpgdmnbehingaaArg
namespace Go.Proofs.Ytfpgdmnbehingaa
open Go Go.RowKit

set_option maxRecDepth 100000 in
theorem last_off (z : Int) (ad : Option Addr) (len cap : Nat) (W : World) (hlen : 80 < len) :
    Calls Try.prog 6 #[.slice ad len cap, .int .u8 z] W fun e w' => e = .returned (.bool true) ∧ Below W.heap.size W w' := by
  have K0 := known_any W
  have hd : decide (80 < (len : Int)) = true := by simp; omega
  go_enter Try.func6, Try.ntmps6
  go_wp2_with (first
    | (go_at_call 8; refine K0.mono ?_; clear K0; rintro e w1 ⟨rfl, b1⟩))
  go_ret
  exact ⟨rfl, b1⟩

/-- The acts as they begin. -/
def fresh (i : Nat) : Ac := if i = 0 then Ac.ofPop else Ac.ofSteal
theorem fresh_fit (i : Nat) : Fit (fresh i) := by unfold fresh; split; exact Fit.ofPop; exact Fit.ofSteal
theorem fresh_last {c : Nat → Int} {m : Nat} {V : Nat → Int} {Ss : Nat → Ac} (hm : 1 ≤ m) (h : Holds 0 4 c 0 1 V) (hV : V 0 = 42) (hu : U64 c) (hS : ∀ i, i < m → Ss i = fresh i) : LastI m c Ss := by
  have h0 : Ss 0 = Ac.ofPop := hS 0 hm
  refine ⟨fun i hi => by rw [hS i hi]; exact fresh_fit i, hu, .inr (by rw [h0]; decide), 0, 1, V, ?_, hV, .inl ⟨rfl, rfl, fun i hi q => ?_⟩⟩
  · rw [h0]
    refine h.conc (OwnOK.fresh (.inr (.inr rfl)) fun _ => rfl) (by decide) fun i hi => ?_
    show ThOK 0 1 V Ac.ofPop (Ss (i + 1))
    rw [hS (i + 1) (by omega)]
    exact ThOK.fresh (.inr (by unfold fresh; rw [if_neg (by omega)]; rfl))
  · have := q.2
    rw [hS i hi] at this
    unfold fresh at this
    split at this <;> cases this
/-- When all are done: just one has got the value, or it is there still. -/
theorem LastI.end {m : Nat} {c : Nat → Int} {Ss : Nat → Ac} (h : LastI m c Ss) (hm : 1 ≤ m) (hd : ∀ i, i < m → (Ss i).st = 0) :
    (∀ i, i < m → (Ss i).has = true → (Ss i).value = 42) ∧ ∃ F T V, Holds 0 4 c F T V ∧ ((F = 0 ∧ T = 1 ∧ ∀ i, i < m → (Ss i).has = false) ∨ (F = T ∧ ∃ i0, i0 < m ∧ ∀ i, i < m → ((Ss i).has = true ↔ i = i0))) := by
  obtain ⟨F, T, V, C, hV, hw⟩ := h.conc
  have hh : ∀ i, i < m → ((Ss i).has = true ↔ hold i (Ss i)) := fun i hi => by
    unfold Ac.has hold
    rw [hd i hi]
    simp
  have hn : ∀ i, i < m → ¬ hold i (Ss i) → (Ss i).has = false := fun i hi q => by
    cases e : (Ss i).has with
    | false => rfl
    | true => exact absurd ((hh i hi).1 e) q
  rcases hw with ⟨a1, a2, a3⟩ | ⟨a1, a2, i0, b1, b2, b3, b4⟩
  · exact ⟨fun i hi q => absurd ((hh i hi).1 q) (a3 i hi), F, T, V, C.holds (hd 0 hm), .inl ⟨a1, a2, fun i hi => hn i hi (a3 i hi)⟩⟩
  · refine ⟨fun i hi q => ?_, F, T, V, C.holds (hd 0 hm), .inr ⟨a1, i0, b1, fun i hi => ⟨fun q => ?_, fun q => ?_⟩⟩⟩
    · by_cases d : i = i0
      · rw [d]; exact b3
      · exact absurd ((hh i hi).1 q) (b4 i hi d)
    · exact Classical.byContradiction fun d => b4 i hi d ((hh i hi).1 q)
    · rw [q]; exact (hh i0 b1).2 b2

set_option maxHeartbeats 4000000 in
set_option maxRecDepth 100000 in
theorem last_walk (z : Int) (ad : Option Addr) (len cap b off : Nat) (Z : Nat → Int) (W : World) (hz : 0 ≤ z ∧ z ≤ 255) (hZ : Bytes W ad len b off Z) (hlen : len ≤ 80) :
    Calls Try.prog 6 #[.slice ad len cap, .int .u8 z] W fun e w' => e = .returned (.bool true) ∧ Below W.heap.size W w' := by
  obtain ⟨t, ht, ht3⟩ : ∃ t : Nat, z % 4 = (t : Int) ∧ t ≤ 3 := ⟨(z % 4).toNat, by omega, by omega⟩
  have K0 := known_any W
  have Kc : ∀ w, Calls Try.prog 10 #[.int .i64 4] w fun e w' => e = .returned (.int .i64 6) ∧ w' = w := fun w => cells_any 4 w (by omega) (by omega)
  have hd : decide (80 < (len : Int)) = false := by simp; omega
  have hd4 : ¬ 80 < len := by omega
  go_enter Try.func6, Try.ntmps6
  go_wp2_with (first
    | (go_at_call 8; refine K0.mono ?_; clear K0; rintro e w1 ⟨rfl, b1⟩; have K1 := new_any 6 w1; rw [show held 6 = 6 by decide] at K1; obtain ⟨R, hR⟩ : ∃ R, R = w1.heap.size := ⟨_, rfl⟩; have hRA : Aside (R = w1.heap.size) := hR; rw [← hR] at K1; clear hR)
    | (go_at_call 10; refine (Kc _).mono ?_; clear Kc; rintro e w1 ⟨rfl, rfl⟩)
    | (go_at_call 9; refine K1.mono ?_; clear K1; rintro e w2 ⟨rfl, m2, b2, s2⟩; have s2A : Aside (w2.heap.size = R + 2) := s2; clear s2; have K4 := deque_new0 m2 4 (by omega) (by omega) (by omega) (by omega) empty_fit)
    | (go_at_call 11; refine K4.mono ?_; clear K4; rintro e w5 ⟨rfl, h5, b5, s5⟩; clear s5; obtain ⟨T, hT⟩ : ∃ T, T = w2.heap.size := ⟨_, rfl⟩; have Z0 : Has W w5 R 6 T 0 4 0 0 (fun _ => 42) := (by
        have q3 := hRA.out
        have q4 := s2A.out
        have q5 := b1.size
        rw [hT]
        have B2 : Below W.heap.size W w2 := far b1 (by rw [← q3]; exact b2) (by omega)
        exact Has.start ⟨⟨_, _, h5⟩, far B2 b5 B2.size, by omega⟩ _); rw [← hT]; clear hT h5 m2 b2 b5 b1 s2A hRA; have G1 := q_push Z0 42)
    | (go_at_call 13; refine G1.mono ?_; clear G1; rintro e w6 ⟨A, rfl, k1, a1, Z1, _⟩; have G2 := q_push_room Z1 42 (by omega) (by omega) (by omega) (by omega) k1 a1)
    | (go_at_call 12; refine G2.mono ?_; clear G2; rintro e w7 ⟨rfl, Z2, _⟩; clear Z1 Z0 k1; obtain ⟨c, Sd, Hd⟩ := Z2; have G3 := s_pop Sd)
    | (go_at_call 14; refine G3.mono ?_; clear G3; rintro e w8 ⟨A0, rfl, k2, a2, Sd2, _, _⟩; have B9 : Below w8.heap.size w8 (w8.alloc (.cells #[.pointer (some ⟨A0, 0, none⟩)] 35)) := (Below.refl _ _).alloc (Nat.le_refl _) _; have Sd3 := Sd2.below B9; have k3 := k2.below B9))
  have start : Crew W (w8.alloc (.cells #[.pointer (some ⟨A0, 0, none⟩)] 35)) R T 4 1 (some ⟨w8.heap.size, 0, none⟩) 1 (fun _ => A0) fresh c := by
    refine ⟨Sd3.sys, OwnR.one (heap_new w8 _) Sd2.size, fun i hi => ?_, fun i j hi hj _ => by omega, Sd3.old, Sd3.hR⟩
    obtain rfl : i = 0 := by omega
    exact ⟨k3, a2⟩
  have hu : U64 c := Sd.fit
  have hHd : Aside (Holds 0 4 c 0 1 (fun i => if i = 0 then 42 else 42)) := Hd
  clear Sd Sd2 Sd3 k2 k3 B9 Hd a1
  go_loopg [8, 9] t (fun g sf si wr => ∃ (i cap9 : Nat) (ad9 : Option Addr) (As : Nat → Nat) (Ss : Nat → Ac), i + g = t ∧ si = .int .i64 (i : Int) ∧ sf = .slice ad9 (i + 1) cap9 ∧ Aside (∀ a, a < i + 1 → Ss a = fresh a) ∧ Crew W wr R T 4 (i + 1) ad9 cap9 As Ss c)
  case atStart => exact ⟨0, _, _, _, _, by omega, rfl, rfl, fun _ _ => rfl, start⟩
  case round =>
    clear start
    obtain ⟨i, cap9, ad9, As, Ss, hi, rfl, rfl, hF, E⟩ := hrel
    have hI : Aside (i + gk = t) := hi
    by_cases hil : i < t
    · have hil' : (i : Int) < (t : Int) := by omega
      have hi10 : i + 1 ≤ 1000000 := by omega
      clear hi
      have K1 := crew_steal E
      go_wp2_with (first
        | (go_at_call 15; refine K1.mono ?_; clear K1; rintro e w4 ⟨A, rfl, k4, a4, E4, hnew⟩; have B5 : Below w4.heap.size w4 (w4.alloc (.cells #[.pointer (some ⟨A, 0, none⟩)] 35)) := (Below.refl _ _).alloc (Nat.le_refl _) _; have C5 := E4.new B5; have k5 := k4.below B5)
        | (at_builtin; refine append_ptr C5.own w4.heap.size (some ⟨A, 0, none⟩) (heap_new w4 _) hi10 C5.size rfl _ _ rfl rfl rfl ?_; intro g6 cap6 w6 o6 b6; have C6 := C5.add k5 a4 hnew o6 b6))
      go_roundg (gk - 1)
      case measure => have := hI.out; omega
      case rel =>
        refine ⟨i + 1, _, _, _, _, (by have := hI.out; omega), rfl, rfl, fun a ha => ?_, C6⟩
        by_cases d : a = i + 1
        · rw [d, setS_same]; unfold fresh; rw [if_neg (by omega)]
        · rw [setS_other _ _ d]; exact hF.out a (by omega)
    · obtain rfl : i = t := by have := hI.out; omega
      have hil' : ¬ (i : Int) < (i : Int) := by omega
      clear hi hI
      obtain ⟨m, hm⟩ : ∃ m : Nat, m = i + 1 := ⟨_, rfl⟩
      have hm' : (i : Int) + 1 = (m : Int) := by omega
      have L0 : LastI m c Ss := fresh_last (by omega) hHd.out rfl hu (fun a ha => hF.out a (by omega))
      rw [← hm] at E ⊢
      have hm1 : 1 ≤ m := by omega
      have hm4 : m ≤ 4 := by omega
      clear hF hHd hu hm hm' hil ht3
      go_wp2_with fail
      clear ht hil'
      go_loopg [10] (len + 16 * m) (fun g sj wr => ∃ (j : Nat) (Ss : Nat → Ac) (c : Nat → Int), j + g = len + 16 * m ∧ sj = .int .i64 (j : Int) ∧ Aside (Fair m len j Ss) ∧ LastI m c Ss ∧ Crew W wr R T 4 m ad9 cap9 As Ss c)
      case atStart => exact ⟨0, _, _, by omega, rfl, Fair.early (by omega) L0.fit, L0, E⟩
      case round =>
        clear L0 E
        obtain ⟨j, Ss, c, hj, rfl, hFr, L, E⟩ := hrel
        have hJ : Aside (j + gk = len + 16 * m) := hj
        have hjle : j ≤ len + 16 * m := by omega
        clear hj
        have hm0 : ((m : Int) == 0) = false := by simp; omega
        have hmne : ¬ (m : Int) = 0 := by omega
        by_cases hjl : j < len + 16 * m
        · have hjl' : (j : Int) < (len : Int) + 16 * (m : Int) := by omega
          obtain ⟨k0, hk0m⟩ : ∃ k0 : Nat, j % m = k0 := ⟨_, rfl⟩
          have hk0 : k0 < m := by rw [← hk0m]; exact Nat.mod_lt _ (by omega)
          have hk0e : (j : Int) % (m : Int) = (k0 : Int) := by rw [← hk0m]; simp
          have hk0t : Int.tmod (j : Int) (m : Int) = (k0 : Int) := by rw [Int.tmod_eq_emod_of_nonneg (by omega)]; exact hk0e
          have hk0A : Aside (j % m = k0) := hk0m
          clear hk0m
          obtain ⟨g9, rfl⟩ := E.own.form (by omega)
          have fin : ∀ kk : Nat, kk < m → (j < len ∨ kk = j % m) → Aside (Fair m len (j + 1) (setS Ss kk ((Ss kk).nxt 0 4 c))) := fun kk hkk hc => by
            simp only [Aside]
            by_cases d : j + 1 ≤ len
            · exact Fair.early d (L.step hkk hm1).fit
            · have e : kk = j % m := by rcases hc with q | q; omega; exact q
              subst e
              refine hFr.out.step (by omega) ?_
              by_cases h0 : (Ss (j % m)).st = 0
              · left; rw [nxt0 h0]; exact mu_zero h0
              · right; exact (L.fit _ hkk).mu_step h0
          by_cases hc : j < len
          · have hc' : (j : Int) < (len : Int) := by omega
            have hv := hZ.val j hc
            obtain rfl := hZ.ad_ (by omega)
            have hcv := hZ.kept E.old hc
            obtain ⟨kk, hke, hkk⟩ : ∃ kk : Nat, Z j % (m : Int) = (kk : Int) ∧ kk < m := by
              have h1 := Int.emod_nonneg (Z j) (show (m : Int) ≠ 0 by omega)
              have h2 := Int.emod_lt_of_pos (Z j) (show (0 : Int) < (m : Int) by omega)
              exact ⟨(Z j % (m : Int)).toNat, by omega, by omega⟩
            generalize Z j = v at hv hcv hke
            have hket : Int.tmod v (m : Int) = (kk : Int) := by rw [Int.tmod_eq_emod_of_nonneg hv.1]; exact hke
            have hkk' : (kk : Int) < (m : Int) := by omega
            have hcf := E.own.cell hkk
            have L2 := L.step hkk hm1
            have F2 := fin kk hkk (.inl hc)
            have Ks := crew_step E hkk (L.fit kk hkk)
            generalize decide (((Ss kk).nxt 0 4 c).st = 0) = bd at Ks
            clear fin hk0e hk0t hc
            go_wp2_with (first
              | (go_at_call 19; refine Ks.mono ?_; clear Ks; rintro e w5 ⟨rfl, C5⟩))
            go_roundg (gk - 1)
            case measure => have := hJ.out; omega
            case rel => exact ⟨j + 1, _, _, (by have := hJ.out; omega), rfl, F2, L2, C5⟩
          · have hc' : ¬ (j : Int) < (len : Int) := by omega
            have hcf := E.own.cell hk0
            have hkk' : (k0 : Int) < (m : Int) := by omega
            have L2 := L.step hk0 hm1
            have F2 := fin k0 hk0 (.inr hk0A.out.symm)
            have Ks := crew_step E hk0 (L.fit k0 hk0)
            generalize decide (((Ss k0).nxt 0 4 c).st = 0) = bd at Ks
            clear fin hc
            go_wp2_with (first
              | (go_at_call 19; refine Ks.mono ?_; clear Ks; rintro e w5 ⟨rfl, C5⟩))
            go_roundg (gk - 1)
            case measure => have := hJ.out; omega
            case rel => exact ⟨j + 1, _, _, (by have := hJ.out; omega), rfl, F2, L2, C5⟩
        · obtain rfl : j = len + 16 * m := by omega
          have hmu := Fair.done (m := m) (L := len) (Ss := Ss) (by rw [Nat.mul_comm]; exact hFr.out)
          have hdn : ∀ a, a < m → (Ss a).st = 0 := fun a ha => (L.fit a ha).mu_done (hmu a ha)
          have hend := L.end hm1 hdn
          have hdA : Aside (∀ a, a < m → decide ((Ss a).st = 0) = true) := fun a ha => decide_eq_true (hdn a ha)
          have hvA : Aside (∀ a, a < m → (Ss a).has = true → (Ss a).told = 42) := fun a ha q => by unfold Ac.told; rw [if_pos q]; exact hend.1 a ha q
          have hnA : Aside (∀ a, a < m → (Ss a).has = false → (Ss a).told = 0) := fun a _ q => by unfold Ac.told; rw [if_neg (by rw [q]; simp)]
          obtain ⟨F, T', V, hH, hw⟩ := hend.2
          have hwA : Aside ((F = 0 ∧ T' = 1 ∧ ∀ i, i < m → (Ss i).has = false) ∨ (F = T' ∧ ∃ i0, i0 < m ∧ ∀ i, i < m → ((Ss i).has = true ↔ i = i0))) := hw
          have hjl' : ¬ ((len + 16 * m : Nat) : Int) < (len : Int) + 16 * (m : Int) := by omega
          have hQ : Has W wr R 6 T 0 4 F T' V := ⟨c, E.stand, hH⟩
          clear hmu hFr hJ L hdn hend hw hH hjle hjl
          go_wp2_with fail
          go_loopg [12, 13] m (fun g sn si w => ∃ a n : Nat, a + g = m ∧ si = .int .i64 (a : Int) ∧ sn = .int .i64 (n : Int) ∧ Aside ((F = 0 ∧ T' = 1 ∧ n = 0) ∨ (F = T' ∧ ∃ i0, i0 < m ∧ (∀ i, i < m → ((Ss i).has = true ↔ i = i0)) ∧ n = if i0 < a then 1 else 0)) ∧ w = wr)
          case atStart =>
            refine ⟨0, 0, by omega, rfl, rfl, ?_, rfl⟩
            rcases hwA.out with ⟨q1, q2, _⟩ | ⟨q1, i0, q2, q3⟩
            · exact .inl ⟨q1, q2, rfl⟩
            · exact .inr ⟨q1, i0, q2, q3, by rw [if_neg (by omega)]⟩
          case round =>
            obtain ⟨a, n, ha, rfl, rfl, hn, rfl⟩ := hrel
            have hA : Aside (a + gk = m) := ha
            by_cases ham : a < m
            · have ham' : (a : Int) < (m : Int) := by omega
              have hsm : n ≤ 1 := by
                rcases hn.out with q | ⟨_, i0, _, _, q⟩
                · omega
                · rw [q]; split <;> omega
              obtain ⟨g9, rfl⟩ := E.own.form (by omega)
              have hcf := E.own.cell ham
              have Kg := got_any (E.act ham)
              have Kd := done_any (E.act ham)
              rw [hdA.out a ham] at Kd
              clear ha
              cases hb : (Ss a).has
              · rw [hb, hnA.out a ham hb] at Kg
                have hn2 : Aside ((F = 0 ∧ T' = 1 ∧ n = 0) ∨ (F = T' ∧ ∃ i0, i0 < m ∧ (∀ i, i < m → ((Ss i).has = true ↔ i = i0)) ∧ n = if i0 < a + 1 then 1 else 0)) := by
                  rcases hn.out with q | ⟨q1, i0, q2, q3, q4⟩
                  · exact .inl q
                  · refine .inr ⟨q1, i0, q2, q3, ?_⟩
                    have d : ¬ a = i0 := fun d => by have := (q3 a ham).2 d; rw [hb] at this; cases this
                    rw [q4]
                    by_cases e : i0 < a
                    · rw [if_pos e, if_pos (by omega)]
                    · rw [if_neg e, if_neg (by omega)]
                clear hb hn hwA
                go_wp2_with (first
                  | (go_at_call 20; refine Kg.mono ?_; clear Kg; rintro e wc ⟨rfl, rfl⟩)
                  | (go_at_call 21; refine Kd.mono ?_; clear Kd; rintro e wc ⟨rfl, rfl⟩))
                go_roundg (gk - 1)
                case measure => have := hA.out; omega
                case rel => exact ⟨a + 1, n, (by have := hA.out; omega), rfl, rfl, hn2, rfl⟩
              · rw [hb, hvA.out a ham hb] at Kg
                have hn2 : Aside ((F = 0 ∧ T' = 1 ∧ n + 1 = 0) ∨ (F = T' ∧ ∃ i0, i0 < m ∧ (∀ i, i < m → ((Ss i).has = true ↔ i = i0)) ∧ n + 1 = if i0 < a + 1 then 1 else 0)) := by
                  rcases hwA.out with ⟨_, _, q⟩ | ⟨q1, i0, q2, q3⟩
                  · have := q a ham; rw [hb] at this; cases this
                  · have d := (q3 a ham).1 hb
                    refine .inr ⟨q1, i0, q2, q3, ?_⟩
                    rcases hn.out with ⟨r1, r2, _⟩ | ⟨_, i1, r2, r3, r4⟩
                    · omega
                    · have d1 := (r3 a ham).1 hb
                      rw [r4, if_neg (by omega), if_pos (by omega)]
                clear hb hn hwA
                go_wp2_with (first
                  | (go_at_call 20; refine Kg.mono ?_; clear Kg; rintro e wc ⟨rfl, rfl⟩)
                  | (go_at_call 21; refine Kd.mono ?_; clear Kd; rintro e wc ⟨rfl, rfl⟩))
                go_roundg (gk - 1)
                case measure => have := hA.out; omega
                case rel => exact ⟨a + 1, n + 1, (by have := hA.out; omega), rfl, rfl, hn2, rfl⟩
            · obtain rfl : a = m := by omega
              have ham' : ¬ (a : Int) < (a : Int) := by omega
              clear ha hA hwA hvA hnA hdA
              have G1 := q_steal hQ
              rcases hn.out with ⟨q1, q2, q3⟩ | ⟨q1, i0, q2, q3, q4⟩
              · subst q1 q2 q3
                clear hn
                go_wp2_with (first
                  | (go_at_call 15; refine G1.mono ?_; clear G1; rintro e w6 ⟨A, rfl, k1, a1, Z1, _⟩; have G2 := q_steal_some Z1 (by omega) k1 a1)
                  | (go_at_call 12; refine G2.mono ?_; clear G2; rintro e w7 ⟨rfl, Z2, _⟩))
                go_ret
                exact ⟨rfl, Z2.old⟩
              · rw [if_pos q2] at q4
                subst q1 q4
                clear hn q3
                go_wp2_with (first
                  | (go_at_call 15; refine G1.mono ?_; clear G1; rintro e w6 ⟨A, rfl, k1, a1, Z1, _⟩; have G2 := q_steal_none Z1 k1 a1)
                  | (go_at_call 12; refine G2.mono ?_; clear G2; rintro e w7 ⟨rfl, Z2, _⟩))
                go_ret
                exact ⟨rfl, Z2.old⟩
end Go.Proofs.Ytfpgdmnbehingaa
