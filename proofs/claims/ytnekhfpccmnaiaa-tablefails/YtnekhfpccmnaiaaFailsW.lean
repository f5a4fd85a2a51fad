/-
  The walk of TableFails: for every two rows it tells true, and old memory is as it was.
-/
import Derived.Test.YtnekhfpccmnaiaaAloneW
namespace Go.Proofs.Ytnekhfpccmnaiaa
open Go Go.RowKit

/-- How many slots a finder has met that aren't empty. -/
def Fd.met (n : Nat) (S : Fd) : Nat := (n - S.left) + (if ¬ S.st = 0 ∧ ¬ S.st = 1 ∧ ¬ S.st = 2 then 1 else if S.found = true then 1 else 0)
theorem met_le {n : Nat} {t : Nat → Int} {S : Fd} (h : FI n t S) (hn : 1 ≤ n) : S.met n ≤ cnt t n := by
  have hl := h.left
  have key : ∀ m, m ≤ n - S.left → m ≤ cnt t n := fun m hm => cnt_ge S.key hn m t (by omega) fun i hi => (h.past i (by omega)).1
  have key1 : 0 < S.left → ¬ t S.slot = 0 → n - S.left + 1 ≤ cnt t n := fun h0 hz => cnt_ge S.key hn _ t (by omega) fun i hi => by
    by_cases e : i < n - S.left
    · exact (h.past i e).1
    · rw [show i = n - S.left by omega, ← h.slot h0]; exact hz
  unfold Fd.met
  split
  next c => exact key1 (h.going c.1).1 (h.held c.1 c.2.1 c.2.2)
  next =>
    split
    next c =>
      obtain ⟨_, h0, e⟩ := h.found c
      exact key1 h0 (by rw [e]; exact h.key)
    next => exact key _ (by omega)
theorem met_step {n : Nat} {t : Nat → Int} {S : Fd} (h : FI n t S) : S.met n + S.fell (t S.slot) ≤ (S.nxt n (t S.slot)).met n := by
  have hl := h.left
  have h0 := h.going
  unfold Fd.fell
  by_cases c0 : S.st = 0
  · rw [nxt_done _ c0, if_neg (by omega)]; omega
  · obtain ⟨hl0, hf, hm⟩ := h0 c0
    have e1 : S.over.met n = n - S.left + 1 := by simp [Fd.met, Fd.over]
    have e2 : (S.to 2).met n = n - S.left := by simp [Fd.met, Fd.to, hf]
    have e3 : (S.to 3).met n = n - S.left + 1 := by simp [Fd.met, Fd.to]
    have e4 : S.put.met n = n - S.left + 1 := by simp [Fd.met, Fd.put]
    have e5 : n - S.left + 1 ≤ (S.passed n).met n := by
      have : n - (S.left - 1) ≤ (S.passed n).met n := Nat.le_add_right _ _
      omega
    have e6 : S.met n ≤ n - S.left + 1 := by
      unfold Fd.met
      split
      · omega
      · split <;> omega
    have e7 : S.st = 1 ∨ S.st = 2 → S.met n = n - S.left := by
      intro c
      unfold Fd.met
      rw [if_neg (by omega), if_neg (by simp [hf])]
      omega
    unfold Fd.nxt
    rw [if_neg c0]
    by_cases c1 : S.st = 1
    · rw [if_pos c1, if_neg (by omega), e7 (.inl c1)]
      split
      · omega
      · split <;> omega
    · rw [if_neg c1]
      by_cases c2 : S.st = 2
      · rw [if_pos c2, e7 (.inr c2)]
        by_cases cz : t S.slot = 0
        · rw [if_neg (fun e => e.2 cz), if_pos cz]; omega
        · rw [if_pos ⟨c2, cz⟩, if_neg cz]; omega
      · rw [if_neg c2, if_neg (fun e => c2 e.1)]
        split <;> omega
def sumM (n : Nat) (Ss : Nat → Fd) : Nat → Nat
  | 0 => 0
  | k + 1 => sumM n Ss k + (Ss k).met n
theorem sumM_congr {n : Nat} {Ss Us : Nat → Fd} (m : Nat) (h : ∀ i, i < m → Ss i = Us i) : sumM n Ss m = sumM n Us m := by
  induction m with
  | zero => rfl
  | succ m ih => simp only [sumM]; rw [ih fun i hi => h i (by omega), h m (by omega)]
theorem sumM_set (n : Nat) (Ss : Nat → Fd) {m k : Nat} (S : Fd) (hk : k < m) : sumM n (setS Ss k S) m + (Ss k).met n = sumM n Ss m + S.met n := by
  induction m with
  | zero => omega
  | succ m ih =>
    simp only [sumM]
    by_cases e : k = m
    · subst e
      have e : sumM n (setS Ss k S) k = sumM n Ss k := sumM_congr k (fun i hi => setS_other Ss S (show i ≠ k by omega))
      rw [setS_same, e]
      omega
    · rw [setS_other Ss S (show m ≠ k by omega)]
      have := ih (by omega)
      omega
theorem sumM_le {n c : Nat} {Ss : Nat → Fd} (m : Nat) (h : ∀ i, i < m → (Ss i).met n ≤ c) : sumM n Ss m ≤ m * c := by
  induction m with
  | zero => simp [sumM]
  | succ m ih =>
    simp only [sumM]
    have h1 := ih fun i hi => h i (by omega)
    have h2 := h m (by omega)
    rw [Nat.succ_mul]
    omega
theorem cnt_after {n : Nat} {t : Nat → Int} {S : Fd} (h : ¬ (S.st = 2 ∧ t S.slot = 0)) : cnt (S.after t) n = cnt t n := by unfold Fd.after; rw [if_neg h]

set_option maxRecDepth 100000 in
theorem fails_off (ad ad2 : Option Addr) (len cap len2 cap2 : Nat) (W : World) (hlen : 8 < len ∨ 300 < len2 ∨ len = 0) :
    Calls Try.prog 7 #[.slice ad len cap, .slice ad2 len2 cap2] W fun e w' => e = .returned (.bool true) ∧ Below W.heap.size W w' := by
  have K0 := known_any W
  by_cases h : 8 < len
  · have hd : decide (8 < (len : Int)) = true := by simp; omega
    clear hlen
    go_enter Try.func7, Try.ntmps7
    go_wp2_with (first
      | (go_at_call 9; refine K0.mono ?_; clear K0; rintro e w1 ⟨rfl, b1⟩))
    go_ret
    exact ⟨rfl, b1⟩
  · have hd : decide (8 < (len : Int)) = false := by simp; omega
    by_cases h2 : 300 < len2
    · have hd2 : decide (300 < (len2 : Int)) = true := by simp; omega
      clear hlen
      go_enter Try.func7, Try.ntmps7
      go_wp2_with (first
        | (go_at_call 9; refine K0.mono ?_; clear K0; rintro e w1 ⟨rfl, b1⟩))
      go_ret
      exact ⟨rfl, b1⟩
    · obtain rfl : len = 0 := by omega
      have hd2 : decide (300 < (len2 : Int)) = false := by simp; omega
      have hh : held 16 = 16 := by decide
      clear hlen h hd
      go_enter Try.func7, Try.ntmps7
      go_wp2_with (first
        | (go_at_call 9; refine K0.mono ?_; clear K0; rintro e w1 ⟨rfl, b1⟩; have K1 := new_any 16 w1; rw [hh] at K1)
        | (go_at_call 10; refine K1.mono ?_; clear K1; rintro e w2 ⟨rfl, m2, b2', s2⟩; have s2A : Aside (w2.heap.size = w1.heap.size + 2) := s2; clear s2; have K2 := tab_new' m2 0 16 0 16 rfl rfl (by omega) (by omega) (by omega))
        | (go_at_call 11; refine K2.mono ?_; clear K2; rintro e w3 ⟨rfl, h3, b3, s3⟩))
      go_ret
      exact ⟨rfl, far (far b1 b2' b1.size) b3 (by have := b1.size; have := s2A.out; omega)⟩

set_option maxHeartbeats 4000000 in
set_option maxRecDepth 100000 in
theorem fails_walk (ad ad2 : Option Addr) (len cap b off len2 cap2 b2 off2 : Nat) (Z V : Nat → Int) (W : World) (hZ : Bytes W ad len b off Z) (hV : Bytes W ad2 len2 b2 off2 V) (hlen1 : 1 ≤ len) (hlen : len ≤ 8) (hlen2 : len2 ≤ 300) :
    Calls Try.prog 7 #[.slice ad len cap, .slice ad2 len2 cap2] W fun e w' => e = .returned (.bool true) ∧ Below W.heap.size W w' := by
  have K0 := known_any W
  have hd : decide (8 < (len : Int)) = false := by simp; omega
  have hd2 : decide (300 < (len2 : Int)) = false := by simp; omega
  have hd3 : ((len : Int) == 0) = false := by simp; omega
  have hd4 : ¬ 8 < len := by omega
  have hd5 : ¬ 300 < len2 := by omega
  have hd6 : ¬ len = 0 := by omega
  have hh : held 16 = 16 := by decide
  obtain rfl := hZ.ad_ (by omega)
  go_enter Try.func7, Try.ntmps7
  go_wp2_with (first
    | (go_at_call 9; refine K0.mono ?_; clear K0; rintro e w1 ⟨rfl, b1⟩; have K1 := new_any 16 w1; rw [hh] at K1)
    | (go_at_call 10; refine K1.mono ?_; clear K1; rintro e w2 ⟨rfl, m2, b2', s2⟩; have s2A : Aside (w2.heap.size = w1.heap.size + 2) := s2; clear s2; have K2 := tab_new' m2 0 16 0 16 rfl rfl (by omega) (by omega) (by omega))
    | (go_at_call 11; refine K2.mono ?_; clear K2; rintro e w3 ⟨rfl, h3, b3, s3⟩; have s3A : Aside (w3.heap.size = w2.heap.size + 1) := s3; clear s3))
  obtain ⟨T, hT⟩ : ∃ T, T = w2.heap.size := ⟨_, rfl⟩
  obtain ⟨R, hR⟩ : ∃ R, R = w1.heap.size := ⟨_, rfl⟩
  have start : Crew W w3 R T 16 0 none 0 (fun _ => 0) (fun _ => Fd.none 16) (fun _ => 0) 0 0 := by
    have q1 := b1.size
    have q2 := s2A.out
    have q3 := s3A.out
    rw [hT, hR]
    exact ⟨⟨_, h3, fun _ => rfl⟩, Good.empty 16, OwnR.nil _ _ _ _, (fun i hi => absurd hi (by omega)), (fun i j hi => absurd hi (by omega)), far (far b1 b2' b1.size) b3 (by omega), by omega, by omega⟩
  rw [← hT, ← hR]
  clear hT hR h3 m2 b2' b3 b1 s2A s3A hh
  go_loopg [8, 9] len (fun g sf si wr => ∃ (i cap9 : Nat) (ad9 : Option Addr) (Fs : Nat → Nat) (Ss : Nat → Fd) (o : Int), i + g = len ∧ si = .int .i64 (i : Int) ∧ sf = .slice ad9 i cap9 ∧ Crew W wr R T 16 i ad9 cap9 Fs Ss (fun _ => 0) o 0)
  case atStart => exact ⟨0, 0, none, _, _, _, by omega, rfl, rfl, start⟩
  case round =>
    obtain ⟨i, cap9, ad9, Fs, Ss, o, hi, rfl, rfl, E⟩ := hrel
    have hI : Aside (i + gk = len) := by simp only [Aside]; omega
    clear hi start
    by_cases hil : i < len
    · have hil' : (i : Int) < (len : Int) := by omega
      have hc := hZ.kept E.old hil
      have hzv := hZ.val i hil
      generalize Z i = x at hc hzv
      have K1 := key_any x 6 wr hzv.1 hzv.2 (by omega) (by omega)
      have K2 := crew_find E (x % 6 + 1) (by omega) (by omega)
      obtain ⟨F, hF⟩ : ∃ F, F = wr.heap.size := ⟨_, rfl⟩
      have hFA : Aside (F = wr.heap.size) := hF
      rw [← hF] at K2
      clear hF
      have hWF : Aside (W.heap.size ≤ F) := by simp only [Aside]; have := hFA.out; have := E.size; omega
      have hi10 : i ≤ 1000000 := by omega
      go_wp2_with (first
        | (go_at_call 20; refine K1.mono ?_; clear K1; rintro e wr ⟨rfl, rfl⟩)
        | (go_at_call 12; refine K2.mono ?_; clear K2; rintro e w4 ⟨rfl, k4, C4, hnew⟩; have B5 : Below w4.heap.size w4 (w4.alloc (.cells #[.pointer (some ⟨F, 0, none⟩)] 30)) := (Below.refl _ _).alloc (Nat.le_refl _) _; have C5 := C4.new B5; have k5 := k4.below B5)
        | (at_builtin; refine append_ptr C5.own w4.heap.size (some ⟨F, 0, none⟩) (heap_new w4 _) hi10 C5.size rfl _ _ rfl rfl rfl ?_; intro g6 cap6 w6 o6 b6))
      have hk0 : ¬ (x % 6 + 1) = 0 := by omega
      have C6 := C5.add k5 (FI.start (by omega) _ hk0) hWF.out hnew o6 b6
      go_roundg (gk - 1)
      case measure => have := hI.out; omega
      case rel =>
        have hi := hI.out
        exact ⟨i + 1, _, _, _, _, _, by omega, rfl, rfl, C6⟩
    · obtain rfl : i = len := by have := hI.out; omega
      clear hI
      obtain ⟨g9, rfl⟩ := E.own.form (by omega)
      go_wp2_with fail
      go_loopg [10] (len2 + i * 60) (fun g sj wr => ∃ (j fn : Nat) (Ss : Nat → Fd) (t : Nat → Int) (o : Int), j + g = len2 + i * 60 ∧ sj = .int .i64 (j : Int) ∧ fn ≤ sumM 16 Ss i ∧ Crew W wr R T 16 i (some ⟨g9, 0, none⟩) cap9 Fs Ss t o (fn : Int))
      case atStart => exact ⟨0, 0, _, _, _, by omega, rfl, Nat.zero_le _, E⟩
      case round =>
        clear E
        obtain ⟨j, fn, Ss, t, o, hj, rfl, hfn, C⟩ := hrel
        have hJ : Aside (j + gk = len2 + i * 60) := hj
        have hM : Aside (fn ≤ sumM 16 Ss i) := hfn
        have hjle : j ≤ len2 + i * 60 := by omega
        have hsum : sumM 16 Ss i ≤ i * cnt t 16 := sumM_le i fun a ha => met_le (C.fi ha) C.pos
        have hcl := cnt_le t 16
        have hprod : i * cnt t 16 ≤ 8 * 16 := Nat.mul_le_mul hlen hcl
        have hfn128 : fn ≤ 128 := by omega
        clear hj hfn
        by_cases hjl : j < len2 + i * 60
        · have hjl' : (j : Int) < (len2 : Int) + (i : Int) * 60 := by omega
          have hm0 : ((i : Int) == 0) = false := by simp; omega
          have hm1 : ¬ (i : Int) = 0 := by omega
          obtain ⟨k0, hk0, hk0e⟩ : ∃ k0 : Nat, k0 < i ∧ (j : Int) % (i : Int) = (k0 : Int) := ⟨j % i, Nat.mod_lt _ (by omega), by simp⟩
          have hk0t : Int.tmod (j : Int) (i : Int) = (k0 : Int) := by rw [Int.tmod_eq_emod_of_nonneg (by omega)]; exact hk0e
          have step : ∀ kk : Nat, kk < i → (j < len2 → V j % (i : Int) = (kk : Int)) → (¬ j < len2 → kk = k0) → True := fun _ _ _ _ => trivial
          clear step hsum hprod
          obtain ⟨kk, hkk, hkc⟩ : ∃ kk : Nat, kk < i ∧ ((j < len2 ∧ V j % (i : Int) = (kk : Int)) ∨ (¬ j < len2 ∧ kk = k0)) := by
            by_cases c : j < len2
            · have hv := hV.val j c
              refine ⟨(V j).toNat % i, Nat.mod_lt _ (by omega), .inl ⟨c, ?_⟩⟩
              obtain ⟨vv, hvv⟩ := Int.eq_ofNat_of_zero_le hv.1
              rw [hvv]
              simp
            · exact ⟨k0, hk0, .inr ⟨c, rfl⟩⟩
          have hcf := C.own.cell hkk
          have K1 := crew_fails C
          have K2 := crew_len C
          have hkk' : (kk : Int) < (i : Int) := by omega
          have hmetA : Aside (sumM 16 (setS Ss kk ((Ss kk).nxt 16 (t (Ss kk).slot))) i + (Ss kk).met 16 = sumM 16 Ss i + ((Ss kk).nxt 16 (t (Ss kk).slot)).met 16) := sumM_set 16 Ss _ hkk
          have hmetB : Aside ((Ss kk).met 16 + (Ss kk).fell (t (Ss kk).slot) ≤ ((Ss kk).nxt 16 (t (Ss kk).slot)).met 16) := met_step (C.fi hkk)
          have K3 : ∀ w o, Crew W w R T 16 i (some ⟨g9, 0, none⟩) cap9 Fs Ss t o (fn : Int) → _ := fun w o C => crew_step C hkk
          by_cases hfell : (Ss kk).st = 2 ∧ ¬ t (Ss kk).slot = 0
          · have e1 : (Ss kk).fell (t (Ss kk).slot) = 1 := by unfold Fd.fell; rw [if_pos hfell]
            have e2 : failsOn (fn : Int) (t (Ss kk).slot) (Ss kk) = ((fn + 1 : Nat) : Int) := by
              unfold failsOn
              rw [if_pos hfell]
              unfold wrap64
              omega
            have e3 : Aside (cnt ((Ss kk).after t) 16 = cnt t 16) := cnt_after fun e => hfell.2 e.2
            have hM2 : Aside (fn + 1 ≤ sumM 16 (setS Ss kk ((Ss kk).nxt 16 (t (Ss kk).slot))) i) := by
              simp only [Aside]
              have := hM.out
              have := hmetA.out
              have := hmetB.out
              omega
            rw [e2] at K3
            clear e1 e2 hfell hmetA hmetB
            have hgt : (fn : Int) < (fn : Int) + 1 := by omega
            generalize decide (((Ss kk).nxt 16 (t (Ss kk).slot)).st = 0) = bd at K3
            generalize setS Ss kk ((Ss kk).nxt 16 (t (Ss kk).slot)) = Ss2 at K3 hM2
            generalize (Ss kk).after t = t2 at K3 e3
            rcases hkc with ⟨hc, hke⟩ | ⟨hc, rfl⟩
            · have hc' : (j : Int) < (len2 : Int) := by omega
              obtain rfl := hV.ad_ (by omega)
              have hv := hV.val j hc
              have hcv := hV.kept C.old hc
              generalize V j = v at hv hcv hke
              have hket : Int.tmod v (i : Int) = (kk : Int) := by rw [Int.tmod_eq_emod_of_nonneg hv.1]; exact hke
              go_wp2_with (first
                | (go_at_call 25; refine K1.mono ?_; clear K1; rintro e wr ⟨rfl, rfl⟩)
                | (go_at_call 16; refine K2.mono ?_; clear K2; rintro e w5 ⟨rfl, ⟨o5, C5⟩, b5⟩; have hcf5 := C5.own.cell hkk; have K4 := K3 w5 o5 C5; clear K3)
                | (go_at_call 13; refine K4.mono ?_; clear K4; rintro e w6 ⟨rfl, C6, b6⟩; have K5 := crew_fails C6; have K6 := crew_len C6; rw [e3.out] at K6)
                | (go_at_call 25; refine K5.mono ?_; clear K5; rintro e w6 ⟨rfl, rfl⟩)
                | (go_at_call 16; refine K6.mono ?_; clear K6; rintro e w7 ⟨rfl, ⟨o7, C7⟩, b7⟩))
              go_roundg (gk - 1)
              case measure => have := hJ.out; omega
              case rel =>
                have hj := hJ.out
                exact ⟨j + 1, fn + 1, _, _, _, by omega, rfl, hM2.out, C7⟩
            · have hc' : ¬ (j : Int) < (len2 : Int) := by omega
              go_wp2_with (first
                | (go_at_call 25; refine K1.mono ?_; clear K1; rintro e wr ⟨rfl, rfl⟩)
                | (go_at_call 16; refine K2.mono ?_; clear K2; rintro e w5 ⟨rfl, ⟨o5, C5⟩, b5⟩; have hcf5 := C5.own.cell hkk; have K4 := K3 w5 o5 C5; clear K3)
                | (go_at_call 13; refine K4.mono ?_; clear K4; rintro e w6 ⟨rfl, C6, b6⟩; have K5 := crew_fails C6; have K6 := crew_len C6; rw [e3.out] at K6)
                | (go_at_call 25; refine K5.mono ?_; clear K5; rintro e w6 ⟨rfl, rfl⟩)
                | (go_at_call 16; refine K6.mono ?_; clear K6; rintro e w7 ⟨rfl, ⟨o7, C7⟩, b7⟩))
              go_roundg (gk - 1)
              case measure => have := hJ.out; omega
              case rel =>
                have hj := hJ.out
                exact ⟨j + 1, fn + 1, _, _, _, by omega, rfl, hM2.out, C7⟩
          · have e1 : (Ss kk).fell (t (Ss kk).slot) = 0 := by unfold Fd.fell; rw [if_neg hfell]
            have e2 : failsOn (fn : Int) (t (Ss kk).slot) (Ss kk) = (fn : Int) := by unfold failsOn; rw [if_neg hfell]
            have hM2 : Aside (fn ≤ sumM 16 (setS Ss kk ((Ss kk).nxt 16 (t (Ss kk).slot))) i) := by
              simp only [Aside]
              have := hM.out
              have := hmetA.out
              have := hmetB.out
              omega
            rw [e2] at K3
            clear e1 e2 hfell hmetA hmetB
            generalize decide (((Ss kk).nxt 16 (t (Ss kk).slot)).st = 0) = bd at K3
            generalize setS Ss kk ((Ss kk).nxt 16 (t (Ss kk).slot)) = Ss2 at K3 hM2
            generalize (Ss kk).after t = t2 at K3
            rcases hkc with ⟨hc, hke⟩ | ⟨hc, rfl⟩
            · have hc' : (j : Int) < (len2 : Int) := by omega
              obtain rfl := hV.ad_ (by omega)
              have hv := hV.val j hc
              have hcv := hV.kept C.old hc
              generalize V j = v at hv hcv hke
              have hket : Int.tmod v (i : Int) = (kk : Int) := by rw [Int.tmod_eq_emod_of_nonneg hv.1]; exact hke
              go_wp2_with (first
                | (go_at_call 25; refine K1.mono ?_; clear K1; rintro e wr ⟨rfl, rfl⟩)
                | (go_at_call 16; refine K2.mono ?_; clear K2; rintro e w5 ⟨rfl, ⟨o5, C5⟩, b5⟩; have hcf5 := C5.own.cell hkk; have K4 := K3 w5 o5 C5; clear K3)
                | (go_at_call 13; refine K4.mono ?_; clear K4; rintro e w6 ⟨rfl, C6, b6⟩; have K5 := crew_fails C6)
                | (go_at_call 25; refine K5.mono ?_; clear K5; rintro e w6 ⟨rfl, rfl⟩))
              go_roundg (gk - 1)
              case measure => have := hJ.out; omega
              case rel =>
                have hj := hJ.out
                exact ⟨j + 1, fn, _, _, _, by omega, rfl, hM2.out, C6⟩
            · have hc' : ¬ (j : Int) < (len2 : Int) := by omega
              go_wp2_with (first
                | (go_at_call 25; refine K1.mono ?_; clear K1; rintro e wr ⟨rfl, rfl⟩)
                | (go_at_call 16; refine K2.mono ?_; clear K2; rintro e w5 ⟨rfl, ⟨o5, C5⟩, b5⟩; have hcf5 := C5.own.cell hkk; have K4 := K3 w5 o5 C5; clear K3)
                | (go_at_call 13; refine K4.mono ?_; clear K4; rintro e w6 ⟨rfl, C6, b6⟩; have K5 := crew_fails C6)
                | (go_at_call 25; refine K5.mono ?_; clear K5; rintro e w6 ⟨rfl, rfl⟩))
              go_roundg (gk - 1)
              case measure => have := hJ.out; omega
              case rel =>
                have hj := hJ.out
                exact ⟨j + 1, fn, _, _, _, by omega, rfl, hM2.out, C6⟩
        · have hjl' : ¬ (j : Int) < (len2 : Int) + (i : Int) * 60 := by omega
          have K1 := crew_fails C
          have K2 := crew_len C
          obtain ⟨pr, hpr⟩ : ∃ pr : Nat, pr = i * cnt t 16 := ⟨_, rfl⟩
          have hp1 : fn ≤ pr := by rw [hpr]; exact Nat.le_trans hM.out hsum
          have hp2 : pr ≤ 128 := by rw [hpr]; exact hprod
          have hpi : 3 * (i : Int) * ((cnt t 16 : Nat) : Int) = 3 * (pr : Int) := by
            rw [hpr, Int.mul_assoc]
            simp
          clear hpr hprod hsum hM
          generalize cnt t 16 = cc at K2 hpi hcl
          have hle : (fn : Int) ≤ 3 * (pr : Int) := by omega
          go_wp2_with (first
            | (go_at_call 25; refine K1.mono ?_; clear K1; rintro e wr ⟨rfl, rfl⟩)
            | (go_at_call 16; refine K2.mono ?_; clear K2; rintro e w5 ⟨rfl, ⟨o5, C5⟩, b5⟩))
          go_ret
          exact ⟨rfl, C5.old⟩
end Go.Proofs.Ytnekhfpccmnaiaa
