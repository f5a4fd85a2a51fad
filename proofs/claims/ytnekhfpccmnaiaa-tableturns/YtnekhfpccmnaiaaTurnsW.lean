/-
  The walk of TableTurns: for every numbers, keys and turns it tells true, and old memory is as it was.
-/
import Derived.Test.YtnekhfpccmnaiaaTurnsM
namespace Go.Proofs.Ytnekhfpccmnaiaa
open Go Go.RowKit

set_option maxRecDepth 100000 in
theorem turns_off (z y : Int) (ad ad2 : Option Addr) (len cap len2 cap2 : Nat) (W : World) (hlen : 12 < len ∨ 600 < len2) :
    Calls Try.prog 4 #[.int .u8 z, .slice ad len cap, .int .u8 y, .slice ad2 len2 cap2] W fun e w' => e = .returned (.bool true) ∧ Below W.heap.size W w' := by
  have K0 := known_any W
  by_cases h : 12 < len
  · have hd : decide (12 < (len : Int)) = true := by simp; omega
    clear hlen
    go_enter Try.func4, Try.ntmps4
    go_wp2_with (first
      | (go_at_call 9; refine K0.mono ?_; clear K0; rintro e w1 ⟨rfl, b1⟩))
    go_ret
    exact ⟨rfl, b1⟩
  · have hd : decide (12 < (len : Int)) = false := by simp; omega
    have hd2 : decide (600 < (len2 : Int)) = true := by simp; omega
    have h2 : 600 < len2 := by omega
    clear hlen
    go_enter Try.func4, Try.ntmps4
    go_wp2_with (first
      | (go_at_call 9; refine K0.mono ?_; clear K0; rintro e w1 ⟨rfl, b1⟩))
    go_ret
    exact ⟨rfl, b1⟩

theorem crew_find_b {W w : World} {R T n m cap : Nat} {ad : Option Addr} {Fs : Nat → Nat} {Ss : Nat → Fd} {t : Nat → Int} {o f : Int} (h : Crew W w R T n m ad cap Fs Ss t o f) (k : Int) (h0 : 0 < k) (h1 : k ≤ 255) :
    Calls Try.prog 12 #[.pointer (some ⟨T, 0, none⟩), .int .u64 k] w fun e w' => e = .returned (.pointer (some ⟨w.heap.size, 0, none⟩)) ∧ IsFd w' w.heap.size T (Fd.start n k) ∧ Below w.heap.size w w' ∧ (∀ i, i < m → Fs i ≠ w.heap.size) := by
  obtain ⟨c, H, ht⟩ := h.sys
  refine (find_any H k h0 (by omega)).mono ?_
  rintro e w' ⟨rfl, k1, b1, s1⟩
  exact ⟨rfl, k1, b1, fun i hi e => by have := (h.fds i hi).1.lt; omega⟩

/-- The finders, and the count of each one's steps. -/
structure TurnI (W w : World) (R T n m : Nat) (ad : Option Addr) (cap : Nat) (adS : Option Addr) (capS : Nat) (Fs : Nat → Nat) (Ss : Nat → Fd) (St : Nat → Nat) (t : Nat → Int) (o f : Int) : Prop where
  crew : Crew W w R T n m ad cap Fs Ss t o f
  steps : OwnR 3 w W.heap.size adS m capS (fun i => .int .i64 (St i : Int))
  made : Made n m Ss t
  few : ∀ a, a < m → St a + (Ss a).mu ≤ 3 * n

set_option maxHeartbeats 4000000 in
set_option maxRecDepth 100000 in
theorem turns_walk (z y : Int) (ad ad2 : Option Addr) (len cap b off len2 cap2 b2 off2 : Nat) (Z V : Nat → Int) (W : World) (hz : 0 ≤ z ∧ z ≤ 255) (hy : 0 ≤ y ∧ y ≤ 255) (hZ : Bytes W ad len b off Z) (hV : Bytes W ad2 len2 b2 off2 V) (hlen : len ≤ 12) (hlen2 : len2 ≤ 600) :
    Calls Try.prog 4 #[.int .u8 z, .slice ad len cap, .int .u8 y, .slice ad2 len2 cap2] W fun e w' => e = .returned (.bool true) ∧ Below W.heap.size W w' := by
  obtain ⟨n, hn, hn1, hn2⟩ : ∃ n : Nat, z % 8 + 1 = (n : Int) ∧ 1 ≤ n ∧ n ≤ 8 := ⟨(z % 8 + 1).toNat, by omega, by omega, by omega⟩
  obtain ⟨kinds, hkd, hkd1, hkd2⟩ : ∃ k : Int, y % 12 + 1 = k ∧ 1 ≤ k ∧ k ≤ 12 := ⟨_, rfl, by omega, by omega⟩
  have K0 := known_any W
  have hd : decide (12 < (len : Int)) = false := by simp; omega
  have hd2 : decide (600 < (len2 : Int)) = false := by simp; omega
  have hd4 : ¬ 12 < len := by omega
  have hd5 : ¬ 600 < len2 := by omega
  go_enter Try.func4, Try.ntmps4
  go_wp2_with (first
    | (go_at_call 9; refine K0.mono ?_; clear K0; rintro e w1 ⟨rfl, b1⟩; have K1 := new_any (n : Int) w1; rw [held_nat n (by omega)] at K1)
    | (go_at_call 10; refine K1.mono ?_; clear K1; rintro e w2 ⟨rfl, m2, b2', s2⟩; have s2A : Aside (w2.heap.size = w1.heap.size + 2) := s2; clear s2; have K2 := tab_new' m2 0 n 0 (n : Int) rfl rfl hn1 (by omega) (by omega))
    | (go_at_call 11; refine K2.mono ?_; clear K2; rintro e w3 ⟨rfl, h3, b3, s3⟩; have s3A : Aside (w3.heap.size = w2.heap.size + 1) := s3; clear s3))
  obtain ⟨T, hT⟩ : ∃ T, T = w2.heap.size := ⟨_, rfl⟩
  obtain ⟨R, hR⟩ : ∃ R, R = w1.heap.size := ⟨_, rfl⟩
  have start : Crew W w3 R T n 0 none 0 (fun _ => 0) (fun _ => Fd.none n) (fun _ => 0) 0 0 := by
    have q1 := b1.size
    have q2 := s2A.out
    have q3 := s3A.out
    rw [hT, hR]
    exact ⟨⟨_, h3, fun _ => rfl⟩, Good.empty n, OwnR.nil _ _ _ _, (fun i hi => absurd hi (by omega)), (fun i j hi => absurd hi (by omega)), far (far b1 b2' b1.size) b3 (by omega), by omega, by omega⟩
  rw [← hT, ← hR]
  clear hT hR h3 m2 b2' b3 b1 s2A s3A hn hz hy hkd
  go_loopg [14, 15, 16] len (fun g sf ss si wr => ∃ (i cap9 capS : Nat) (ad9 adS : Option Addr) (Fs : Nat → Nat) (Ss : Nat → Fd), i + g = len ∧ si = .int .i64 (i : Int) ∧ sf = .slice ad9 i cap9 ∧ ss = .slice adS i capS ∧ (∀ a, a < i → (Ss a).key = Z a % kinds + 1 ∧ (Ss a).made = false ∧ (Ss a).mu ≤ 3 * n) ∧ OwnR 3 wr W.heap.size adS i capS (fun _ => .int .i64 0) ∧ Crew W wr R T n i ad9 cap9 Fs Ss (fun _ => 0) 0 0)
  case atStart => exact ⟨0, 0, 0, none, none, _, _, by omega, rfl, rfl, rfl, (fun a ha => absurd ha (by omega)), OwnR.nil _ _ _ _, start⟩
  case round =>
    obtain ⟨i, cap9, capS, ad9, adS, Fs, Ss, hi, rfl, rfl, rfl, hkeys, OS, E⟩ := hrel
    have hI : Aside (i + gk = len) := by simp only [Aside]; omega
    have hkA : Aside (∀ a, a < i → (Ss a).key = Z a % kinds + 1 ∧ (Ss a).made = false ∧ (Ss a).mu ≤ 3 * n) := hkeys
    clear hi start hkeys
    by_cases hil : i < len
    · have hil' : (i : Int) < (len : Int) := by omega
      obtain rfl := hZ.ad_ (by omega)
      have hc := hZ.kept E.old hil
      have hzv := hZ.val i hil
      obtain ⟨x, hx⟩ : ∃ x, x = Z i := ⟨_, rfl⟩
      have hxA : Aside (x = Z i) := hx
      rw [← hx] at hc hzv
      clear hx
      obtain ⟨k, hk⟩ : ∃ k, k = x % kinds + 1 := ⟨_, rfl⟩
      have hkb : 0 < k ∧ k ≤ 255 := by
        have := Int.emod_nonneg x (show kinds ≠ 0 by omega)
        have := Int.emod_lt_of_pos x (show 0 < kinds by omega)
        omega
      have hkE : Aside (k = x % kinds + 1) := hk
      have K1 := key_any x kinds wr hzv.1 hzv.2 hkd1 (by omega)
      rw [← hk] at K1
      clear hk
      have K2 := crew_find_b E k hkb.1 hkb.2
      obtain ⟨F, hF⟩ : ∃ F, F = wr.heap.size := ⟨_, rfl⟩
      have hFA : Aside (F = wr.heap.size) := hF
      rw [← hF] at K2
      clear hF
      have hWF : Aside (W.heap.size ≤ F) := by simp only [Aside]; have := hFA.out; have := E.size; omega
      have hi10 : i ≤ 1000000 := by omega
      have hk0 : ¬ k = 0 := by omega
      go_wp2_with (first
        | (go_at_call 20; refine K1.mono ?_; clear K1; rintro e wr ⟨rfl, rfl⟩)
        | (go_at_call 12; refine K2.mono ?_; clear K2; rintro e w4 ⟨rfl, k4, b4, hnew⟩; have b4' : Below wr.heap.size wr w4 := (by rw [← hFA.out]; exact b4); have B5 : Below w4.heap.size w4 (w4.alloc (.cells #[.pointer (some ⟨F, 0, none⟩)] 30)) := (Below.refl _ _).alloc (Nat.le_refl _) _; have C5 := (E.new b4').new B5; have k5 := k4.below B5; have OS5 := (OS.below b4').below B5)
        | (at_builtin; refine append_ptr C5.own w4.heap.size (some ⟨F, 0, none⟩) (heap_new w4 _) hi10 C5.size rfl _ _ rfl rfl rfl ?_; intro g6 cap6 w6 o6 b6; have C6 := C5.add k5 (FI.start hn1 _ hk0) hWF.out hnew o6 b6; have OS6 := OS5.row C5.own (by decide) b6; have B6 : Below w6.heap.size w6 (w6.alloc (.cells #[.int .i64 0] 3)) := (Below.refl _ _).alloc (Nat.le_refl _) _; have C7 := C6.new B6; have OS7 := OS6.below B6)
        | (at_builtin; refine append_int OS7 w6.heap.size 0 (heap_new w6 _) hi10 C7.size rfl _ _ rfl rfl rfl ?_; intro g8 cap8 w8 o8 b8; have C8 := C7.row OS7 (.inr rfl) b8))
      go_roundg (gk - 1)
      case measure => have := hI.out; omega
      case rel =>
        have hi := hI.out
        refine ⟨i + 1, _, _, _, _, _, _, by omega, rfl, rfl, rfl, fun a ha => ?_, o8.congr fun a _ => ?_, C8⟩
        · by_cases d : a = i
          · rw [d, setS_same]
            exact ⟨by rw [← hxA.out]; exact hkE.out, rfl, (FI.start hn1 (fun _ => 0) hk0).mu_le⟩
          · rw [setS_other _ _ d]
            exact hkA.out a (by omega)
        · by_cases d : a = i <;> simp only [d, if_true, if_false]
    · obtain rfl : i = len := by have := hI.out; omega
      clear hI
      have T0 : TurnI W wr R T n i ad9 cap9 adS capS Fs Ss (fun _ => 0) (fun _ => 0) 0 0 := ⟨E, OS, Made.start n i fun a ha => (hkA.out a ha).2.1, fun a ha => by have := (hkA.out a ha).2.2; omega⟩
      have hky : ∀ a, a < i → (Ss a).key = Z a % kinds + 1 := fun a ha => (hkA.out a ha).1
      clear E OS hkA
      obtain ⟨pr, hpr⟩ : ∃ pr : Nat, pr = i * (3 * n + 4) := ⟨_, rfl⟩
      have hprI : (i : Int) * (3 * (n : Int) + 4) = (pr : Int) := by rw [hpr]; simp
      have hpr2 : pr ≤ 336 := by rw [hpr]; exact Nat.mul_le_mul hlen (show 3 * n + 4 ≤ 28 by omega)
      have hprA : Aside (pr = i * (3 * n + 4)) := hpr
      clear hpr
      go_wp2_with fail
      go_loopg [17] (len2 + pr) (fun g sj wr => ∃ (j : Nat) (Ss : Nat → Fd) (St : Nat → Nat) (t : Nat → Int) (o f : Int), j + g = len2 + pr ∧ sj = .int .i64 (j : Int) ∧ 0 ≤ o ∧ o ≤ (j : Int) ∧ (∀ a, a < i → (Ss a).key = Z a % kinds + 1) ∧ Fair n i len2 j Ss ∧ TurnI W wr R T n i ad9 cap9 adS capS Fs Ss St t o f)
      case atStart => exact ⟨0, _, _, _, _, _, by omega, rfl, by omega, by omega, hky, Fair.early (fun a ha => by have := T0.few a ha; omega) (by omega), T0⟩
      case round =>
        clear T0 hky
        obtain ⟨j, Ss, St, t, o, f, hj, rfl, ho0, ho1, hky, hfair, C⟩ := hrel
        have hJ : Aside (j + gk = len2 + pr) := hj
        have hkA : Aside (∀ a, a < i → (Ss a).key = Z a % kinds + 1) := hky
        have hFr : Aside (Fair n i len2 j Ss) := hfair
        have hjle : j ≤ len2 + pr := by omega
        clear hj hky hfair
        by_cases hjl : j < len2 + pr
        · have hjl' : (j : Int) < (len2 : Int) + (pr : Int) := by omega
          by_cases hi0 : i = 0
          · subst hi0
            have Ke := ended_any C.crew C.made (fun a ha => absurd ha (by omega)) ad cap b off Z hZ kinds hkd1 hkd2 hkA.out hlen
            go_wp2_with (first
              | (go_at_call 22; refine Ke.mono ?_; clear Ke; rintro e w5 ⟨rfl, b5⟩))
            go_ret
            exact ⟨rfl, b5⟩
          · have hm0 : ((i : Int) == 0) = false := by simp; omega
            have hm1 : ¬ (i : Int) = 0 := by omega
            have hm2 : (0 : Int) < (i : Int) := by omega
            obtain ⟨k0, hk0m⟩ : ∃ k0 : Nat, j % i = k0 := ⟨_, rfl⟩
            have hk0 : k0 < i := by rw [← hk0m]; exact Nat.mod_lt _ (by omega)
            have hk0e : (j : Int) % (i : Int) = (k0 : Int) := by rw [← hk0m]; simp
            have hk0t : Int.tmod (j : Int) (i : Int) = (k0 : Int) := by rw [Int.tmod_eq_emod_of_nonneg (by omega)]; exact hk0e
            have hk0A : Aside (j % i = k0) := hk0m
            clear hk0m
            obtain ⟨kk, hkk, hkc⟩ : ∃ kk : Nat, kk < i ∧ ((j < len2 ∧ V j % (i : Int) = (kk : Int)) ∨ (¬ j < len2 ∧ kk = k0)) := by
              by_cases c : j < len2
              · have hv := hV.val j c
                refine ⟨(V j).toNat % i, Nat.mod_lt _ (by omega), .inl ⟨c, ?_⟩⟩
                obtain ⟨vv, hvv⟩ := Int.eq_ofNat_of_zero_le hv.1
                rw [hvv]
                simp
              · exact ⟨k0, hk0, .inr ⟨c, rfl⟩⟩
            have hkk' : (kk : Int) < (i : Int) := by omega
            obtain ⟨g9, rfl⟩ := C.crew.own.form (by omega)
            obtain ⟨gS, rfl⟩ := C.steps.form (by omega)
            have hcf := C.crew.own.cell hkk
            have hcs := C.steps.cell hkk
            have hfi := C.crew.fi hkk
            have hfew := C.few kk hkk
            have Ko := crew_ops C.crew
            by_cases hst : (Ss kk).st = 0
            · have Kd := crew_done C.crew hkk true (decide_eq_true hst)
              have Kp := step_off (C.crew.fd hkk) hst
              have Kd2 := Kd
              have Ko2 := Ko
              have Ko3 := Ko
              have hmu0 := mu_zero hst
              have hF2 : Aside (Fair n i len2 (j + 1) Ss) := by
                simp only [Aside]
                rcases hkc with ⟨c, _⟩ | ⟨c, d⟩
                · exact Fair.early (fun a ha => by have := C.few a ha; omega) (by omega)
                · exact hFr.out.same (by omega) (by rw [hk0A.out, ← d]; exact hmu0)
              have hst3 : (St kk : Int) ≤ 3 * (n : Int) + 3 := by omega
              have ho2 : ¬ o + 1 < o := by omega
              clear hfi hfew hmu0 hst
              rcases hkc with ⟨hc, hke⟩ | ⟨hc, rfl⟩
              · have hc' : (j : Int) < (len2 : Int) := by omega
                obtain rfl := hV.ad_ (by omega)
                have hv := hV.val j hc
                have hcv := hV.kept C.crew.old hc
                generalize V j = v at hv hcv hke
                have hket : Int.tmod v (i : Int) = (kk : Int) := by rw [Int.tmod_eq_emod_of_nonneg hv.1]; exact hke
                go_wp2_with (first
                  | (go_at_call 15; refine Kd.mono ?_; clear Kd; rintro e wr ⟨rfl, rfl⟩)
                  | (go_at_call 21; refine Ko.mono ?_; clear Ko; rintro e wr ⟨rfl, rfl⟩)
                  | (go_at_call 13; refine Kp.mono ?_; clear Kp; rintro e wr ⟨rfl, rfl⟩)
                  | (go_at_call 15; refine Kd2.mono ?_; clear Kd2; rintro e wr ⟨rfl, rfl⟩)
                  | (go_at_call 21; refine Ko2.mono ?_; clear Ko2; rintro e wr ⟨rfl, rfl⟩)
                  | (go_at_call 21; refine Ko3.mono ?_; clear Ko3; rintro e wr ⟨rfl, rfl⟩))
                go_roundg (gk - 1)
                case measure => have := hJ.out; omega
                case rel =>
                  have hj := hJ.out
                  exact ⟨j + 1, Ss, St, t, o, f, by omega, rfl, ho0, by omega, hkA.out, hF2.out, C⟩
              · have hc' : ¬ (j : Int) < (len2 : Int) := by omega
                go_wp2_with (first
                  | (go_at_call 15; refine Kd.mono ?_; clear Kd; rintro e wr ⟨rfl, rfl⟩)
                  | (go_at_call 21; refine Ko.mono ?_; clear Ko; rintro e wr ⟨rfl, rfl⟩)
                  | (go_at_call 13; refine Kp.mono ?_; clear Kp; rintro e wr ⟨rfl, rfl⟩)
                  | (go_at_call 15; refine Kd2.mono ?_; clear Kd2; rintro e wr ⟨rfl, rfl⟩)
                  | (go_at_call 21; refine Ko2.mono ?_; clear Ko2; rintro e wr ⟨rfl, rfl⟩)
                  | (go_at_call 21; refine Ko3.mono ?_; clear Ko3; rintro e wr ⟨rfl, rfl⟩))
                go_roundg (gk - 1)
                case measure => have := hJ.out; omega
                case rel =>
                  have hj := hJ.out
                  exact ⟨j + 1, Ss, St, t, o, f, by omega, rfl, ho0, by omega, hkA.out, hF2.out, C⟩
            · have Kd := crew_done C.crew hkk false (decide_eq_false hst)
              have Kp := crew_step C.crew hkk
              have hop : opsOn o (Ss kk) = o + 1 := by
                unfold opsOn
                rw [if_neg hst]
                unfold wrap64
                omega
              rw [hop] at Kp
              have hmu2 := hfi.mu_step hst
              have hM2 := C.made.step C.crew.good (fun a ha => C.crew.fi ha) hn1 hkk
              have hky2 : Aside (∀ a, a < i → (setS Ss kk ((Ss kk).nxt n (t (Ss kk).slot)) a).key = Z a % kinds + 1) := by
                intro a ha
                by_cases d : a = kk
                · rw [d, setS_same, nxt_key]; exact hkA.out kk hkk
                · rw [setS_other _ _ d]; exact hkA.out a ha
              have hF2 : Aside (Fair n i len2 (j + 1) (setS Ss kk ((Ss kk).nxt n (t (Ss kk).slot)))) := by
                simp only [Aside]
                rcases hkc with ⟨c, _⟩ | ⟨c, d⟩
                · refine Fair.early (fun a ha => ?_) (by omega)
                  by_cases e : a = kk
                  · rw [e, setS_same]; omega
                  · rw [setS_other _ _ e]; have := C.few a ha; omega
                · have hkj : kk = j % i := by rw [hk0A.out]; exact d
                  rw [hkj] at hmu2 ⊢
                  exact hFr.out.step (by omega) (.inr hmu2)
              have hfew2 : Aside (∀ a, a < i → (if a = kk then St kk + 1 else St a) + (setS Ss kk ((Ss kk).nxt n (t (Ss kk).slot)) a).mu ≤ 3 * n) := by
                intro a ha
                by_cases e : a = kk
                · rw [e, if_pos rfl, setS_same]; omega
                · rw [if_neg e, setS_other _ _ e]; exact C.few a ha
              have hst3 : (St kk : Int) + 1 ≤ 3 * (n : Int) + 3 := by omega
              have ho2 : ¬ o + 1 < o + 1 := by omega
              have hnkey : Aside ((setS Ss kk ((Ss kk).nxt n (t (Ss kk).slot)) kk) = (Ss kk).nxt n (t (Ss kk).slot)) := setS_same _ _ _
              have hsd : Aside (∀ bb, decide (((Ss kk).nxt n (t (Ss kk).slot)).st = 0) = bb → decide ((setS Ss kk ((Ss kk).nxt n (t (Ss kk).slot)) kk).st = 0) = bb) := fun bb h => by rw [setS_same]; exact h
              obtain ⟨bd, hbd⟩ : ∃ bd, decide (((Ss kk).nxt n (t (Ss kk).slot)).st = 0) = bd := ⟨_, rfl⟩
              have hbd2 : Aside (decide ((setS Ss kk ((Ss kk).nxt n (t (Ss kk).slot)) kk).st = 0) = bd) := hsd.out bd hbd
              rw [hbd] at Kp
              clear hnkey hsd hbd hop hmu2
              generalize setS Ss kk ((Ss kk).nxt n (t (Ss kk).slot)) = Ss2 at Kp hM2 hky2 hF2 hfew2 hbd2
              generalize (Ss kk).after t = t2 at Kp hM2
              generalize failsOn f (t (Ss kk).slot) (Ss kk) = f2 at Kp
              have hSp : ∀ w', Went (Foot (R + 1) R (Fs kk)) wr w' → OwnR 3 w' W.heap.size (some ⟨gS, 0, none⟩) i capS (fun a => .int .i64 (St a : Int)) := by
                obtain ⟨c, H, _⟩ := C.crew.sys
                exact fun w' k => C.steps.went (.inr (.inr rfl)) H (C.crew.fd hkk) k
              clear hfi hfew hst
              rcases hkc with ⟨hc, hke⟩ | ⟨hc, rfl⟩
              · have hc' : (j : Int) < (len2 : Int) := by omega
                obtain rfl := hV.ad_ (by omega)
                have hv := hV.val j hc
                have hcv := hV.kept C.crew.old hc
                generalize V j = v at hv hcv hke
                have hket : Int.tmod v (i : Int) = (kk : Int) := by rw [Int.tmod_eq_emod_of_nonneg hv.1]; exact hke
                cases bd
                all_goals go_wp2_with (first
                  | (go_at_call 15; refine Kd.mono ?_; clear Kd; rintro e wr ⟨rfl, rfl⟩)
                  | (go_at_call 21; refine Ko.mono ?_; clear Ko; rintro e wr ⟨rfl, rfl⟩)
                  | (go_at_call 13; refine Kp.mono ?_; clear Kp; rintro e w5 ⟨rfl, C5, b5⟩; have hcf5 := C5.own.cell hkk; have OS5 := hSp w5 b5; have hcs5 := OS5.cell hkk; have hfz5 := OS5.frozen kk; have Kd2 := crew_done C5 hkk _ hbd2.out; have Ko2 := crew_ops C5; have OS6 := OS5.set (k := kk) (.int .i64 ((St kk : Int) + 1)); have C6 := C5.row OS5 (.inr rfl) (Went.set (o := kk) ⟨_, rfl, rfl⟩ w5 (.int .i64 ((St kk : Int) + 1))))
                  | (go_at_call 15; refine Kd2.mono ?_; clear Kd2; rintro e w5 ⟨rfl, rfl⟩)
                  | (go_at_call 21; refine Ko2.mono ?_; clear Ko2; rintro e w5 ⟨rfl, rfl⟩))
                all_goals go_roundg (gk - 1)
                all_goals first
                  | (have := hJ.out; omega)
                  | (have hj := hJ.out
                     refine ⟨j + 1, Ss2, fun a => if a = kk then St kk + 1 else St a, t2, o + 1, f2, by omega, rfl, by omega, by omega, hky2.out, hF2.out, ⟨C6, OS6.congr fun a _ => ?_, hM2, hfew2.out⟩⟩
                     by_cases d : a = kk <;> simp [d])
              · have hc' : ¬ (j : Int) < (len2 : Int) := by omega
                cases bd
                all_goals go_wp2_with (first
                  | (go_at_call 15; refine Kd.mono ?_; clear Kd; rintro e wr ⟨rfl, rfl⟩)
                  | (go_at_call 21; refine Ko.mono ?_; clear Ko; rintro e wr ⟨rfl, rfl⟩)
                  | (go_at_call 13; refine Kp.mono ?_; clear Kp; rintro e w5 ⟨rfl, C5, b5⟩; have hcf5 := C5.own.cell hkk; have OS5 := hSp w5 b5; have hcs5 := OS5.cell hkk; have hfz5 := OS5.frozen kk; have Kd2 := crew_done C5 hkk _ hbd2.out; have Ko2 := crew_ops C5; have OS6 := OS5.set (k := kk) (.int .i64 ((St kk : Int) + 1)); have C6 := C5.row OS5 (.inr rfl) (Went.set (o := kk) ⟨_, rfl, rfl⟩ w5 (.int .i64 ((St kk : Int) + 1))))
                  | (go_at_call 15; refine Kd2.mono ?_; clear Kd2; rintro e w5 ⟨rfl, rfl⟩)
                  | (go_at_call 21; refine Ko2.mono ?_; clear Ko2; rintro e w5 ⟨rfl, rfl⟩))
                all_goals go_roundg (gk - 1)
                all_goals first
                  | (have := hJ.out; omega)
                  | (have hj := hJ.out
                     refine ⟨j + 1, Ss2, fun a => if a = kk then St kk + 1 else St a, t2, o + 1, f2, by omega, rfl, by omega, by omega, hky2.out, hF2.out, ⟨C6, OS6.congr fun a _ => ?_, hM2, hfew2.out⟩⟩
                     by_cases d : a = kk <;> simp [d])
        · obtain rfl : j = len2 + pr := by omega
          have hjl' : ¬ ((len2 + pr : Nat) : Int) < (len2 : Int) + (pr : Int) := by omega
          have hmu := Fair.done (n := n) (m := i) (L := len2) (Ss := Ss) (by rw [← hprA.out]; exact hFr.out)
          have Ke := ended_any C.crew C.made (fun a ha => (C.crew.fi ha).mu_done (hmu a ha)) ad cap b off Z hZ kinds hkd1 hkd2 hkA.out hlen
          clear hmu
          go_wp2_with (first
            | (go_at_call 22; refine Ke.mono ?_; clear Ke; rintro e w5 ⟨rfl, b5⟩))
          go_ret
          exact ⟨rfl, b5⟩
end Go.Proofs.Ytnekhfpccmnaiaa
