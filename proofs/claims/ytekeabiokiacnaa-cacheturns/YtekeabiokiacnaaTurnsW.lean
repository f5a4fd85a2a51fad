/-
  The walk of CacheTurns: for every number of lines, acts and turns it tells true, and old memory is as it was.
-/
import Derived.Test.YtekeabiokiacnaaCrew
namespace Go.Proofs.Ytekeabiokiacnaa
open Go Go.RowKit

set_option maxRecDepth 100000 in
theorem turns_off (z : Int) (ad ad2 : Option Addr) (len cap len2 cap2 : Nat) (W : World) (hlen : 10 < len ∨ 400 < len2) :
    Calls Try.prog 3 #[.int .u8 z, .slice ad len cap, .slice ad2 len2 cap2] W fun e w' => e = .returned (.bool true) ∧ Below W.heap.size W w' := by
  have K0 := known_any W
  by_cases h : 10 < len
  · have hd : decide (10 < (len : Int)) = true := by simp; omega
    clear hlen
    go_enter Try.func3, Try.ntmps3
    go_wp2_with (first
      | (go_at_call 7; refine K0.mono ?_; clear K0; rintro e w1 ⟨rfl, b1⟩))
    go_ret
    exact ⟨rfl, b1⟩
  · have hd : decide (10 < (len : Int)) = false := by simp; omega
    have hd2 : decide (400 < (len2 : Int)) = true := by simp; omega
    have h2 : 400 < len2 := by omega
    clear hlen
    go_enter Try.func3, Try.ntmps3
    go_wp2_with (first
      | (go_at_call 7; refine K0.mono ?_; clear K0; rintro e w1 ⟨rfl, b1⟩))
    go_ret
    exact ⟨rfl, b1⟩

/-- An act that has done nothing yet. -/
structure Fresh (n : Nat) (S : Ac) (p : Bool) (key val : Int) : Prop where
  line : ∃ j, j < n ∧ S.first = 4 * j
  fit : Fit (4 * n) S
  won : S.won = false
  good : ∀ m Ss, Good m Ss S
  put : S.put = p
  key : S.key = key
  val : p = true → S.val = val
theorem Fresh.ofPut {n : Nat} {key val : Int} (hn : 1 ≤ n) (h0 : 0 ≤ key ∧ key ≤ 18446744073709551615) (h1 : 0 ≤ val ∧ val ≤ 18446744073709551615) : Fresh n (Ac.ofPut (Go.Proofs.Ytekeabiokiacnaa.line 0 n key) key val) true key val := by
  have hl := home_lt key hn
  refine ⟨⟨home key n, hl, ?_⟩, Fit.ofPut ?_ h0.1 h0.2 h1.1 h1.2, rfl, fun _ _ => Good.ofPut h0 h1, rfl, rfl, fun _ => rfl⟩
  · show 0 + 4 * home key n = _; omega
  · show 0 + 4 * home key n + 4 ≤ _; omega
theorem Fresh.ofGet {n : Nat} {key val : Int} (hn : 1 ≤ n) (h0 : 0 ≤ key ∧ key ≤ 18446744073709551615) : Fresh n (Ac.ofGet (Go.Proofs.Ytekeabiokiacnaa.line 0 n key) key) false key val := by
  have hl := home_lt key hn
  refine ⟨⟨home key n, hl, ?_⟩, Fit.ofGet ?_ h0.1 h0.2, rfl, fun _ _ => Good.ofGet h0, rfl, rfl, fun e => by cases e⟩
  · show 0 + 4 * home key n = _; omega
  · show 0 + 4 * home key n + 4 ≤ _; omega

set_option maxHeartbeats 8000000 in
set_option maxRecDepth 100000 in
theorem turns_walk (z : Int) (ad ad2 : Option Addr) (len cap b off len2 cap2 b2 off2 : Nat) (Pt : Nat → Bool) (Ky Vl V : Nat → Int) (W : World) (hz : 0 ≤ z ∧ z ≤ 255) (hZ : Dos W ad len b off Pt Ky Vl) (hV : Bytes W ad2 len2 b2 off2 V) (hlen : len ≤ 10) (hlen2 : len2 ≤ 400) :
    Calls Try.prog 3 #[.int .u8 z, .slice ad len cap, .slice ad2 len2 cap2] W fun e w' => e = .returned (.bool true) ∧ Below W.heap.size W w' := by
  obtain ⟨n, hn, hn1, hn2⟩ : ∃ n : Nat, z % 4 + 1 = (n : Int) ∧ 1 ≤ n ∧ n ≤ 4 := ⟨(z % 4 + 1).toNat, by omega, by omega, by omega⟩
  have K0 := known_any W
  have Kc := fun w => cells_any n w (by omega)
  have hd : decide (10 < (len : Int)) = false := by simp; omega
  have hd2 : decide (400 < (len2 : Int)) = false := by simp; omega
  have hd4 : ¬ 10 < len := by omega
  have hd5 : ¬ 400 < len2 := by omega
  go_enter Try.func3, Try.ntmps3
  go_wp2_with (first
    | (go_at_call 7; refine K0.mono ?_; clear K0; rintro e w1 ⟨rfl, b1⟩; have K1 := new_any (4 * (n : Int)) w1; rw [held4 n (by omega)] at K1; obtain ⟨R, hR⟩ : ∃ R, R = w1.heap.size := ⟨_, rfl⟩; have hRA : Aside (R = w1.heap.size) := hR; rw [← hR] at K1; clear hR)
    | (go_at_call 9; refine (Kc _).mono ?_; clear Kc; rintro e w1 ⟨rfl, rfl⟩)
    | (go_at_call 8; refine K1.mono ?_; clear K1; rintro e w2 ⟨rfl, m2, b2', s2⟩; have s2A : Aside (w2.heap.size = R + 2) := s2; clear s2; have K4 := cache_new0 m2 n hn1 (by omega) (by omega) (by omega) empty_fit)
    | (go_at_call 10; refine K4.mono ?_; clear K4; rintro e w5 ⟨rfl, h5, b5, s5⟩; clear s5))
  obtain ⟨T, hT⟩ : ∃ T, T = w2.heap.size := ⟨_, rfl⟩
  have start : Crew W w5 R T n 0 none 0 (fun _ => 0) (fun _ => Ac.ofGet 0 0) (fun _ => 0) 0 := by
    have q3 := hRA.out
    have q4 := s2A.out
    have q5 := b1.size
    rw [hT]
    have B2 : Below W.heap.size W w2 := far b1 (by rw [← q3]; exact b2') (by omega)
    exact ⟨⟨_, h5⟩, OwnR.nil _ _ _ _, (fun i hi => absurd hi (by omega)), (fun i j hi => absurd hi (by omega)), far B2 b5 B2.size, by omega⟩
  rw [← hT]
  clear hT h5 m2 b2' b5 b1 s2A hRA hn hz
  go_loopg [11, 12, 13] len (fun g sf ss si wr => ∃ (i cap9 capS : Nat) (ad9 adS : Option Addr) (As : Nat → Nat) (Ss : Nat → Ac), i + g = len ∧ si = .int .i64 (i : Int) ∧ sf = .slice ad9 i cap9 ∧ ss = .slice adS i capS ∧ (∀ a, a < i → Fresh n (Ss a) (Pt a) (Ky a % 6) (Vl a)) ∧ OwnR 3 wr W.heap.size adS i capS (fun _ => .int .i64 0) ∧ Crew W wr R T n i ad9 cap9 As Ss (fun _ => 0) 0)
  case atStart => exact ⟨0, 0, 0, none, none, _, _, by omega, rfl, rfl, rfl, (fun a ha => absurd ha (by omega)), OwnR.nil _ _ _ _, start⟩
  case round =>
    obtain ⟨i, cap9, capS, ad9, adS, As, Ss, hi, rfl, rfl, rfl, hfr, OS, E⟩ := hrel
    have hI : Aside (i + gk = len) := hi
    have hF : Aside (∀ a, a < i → Fresh n (Ss a) (Pt a) (Ky a % 6) (Vl a)) := hfr
    clear hi start hfr
    by_cases hil : i < len
    · have hil' : (i : Int) < (len : Int) := by omega
      have hi10 : i ≤ 1000000 := by omega
      obtain rfl := hZ.ad_ (by omega)
      have hp := hZ.put' E.old hil
      have hky := hZ.key' E.old hil
      have hkb := hZ.keys i hil
      have hvb := hZ.vals i hil
      have hvk := hZ.val' E.old hil
      have hkeep : ∀ {u}, Below W.heap.size W u → u.cell? ⟨b, off + i * 3 + 1, none⟩ = some (.int .u8 (Ky i)) ∧ u.cell? ⟨b, off + i * 3 + 2, none⟩ = some (.int .u64 (Vl i)) := fun q => ⟨hZ.key' q hil, hZ.val' q hil⟩
      obtain ⟨k, hk⟩ : ∃ k, Ky i % 6 = k := ⟨_, rfl⟩
      have hkA : Aside (Ky i % 6 = k) := hk
      have hkr : 0 ≤ k ∧ k ≤ 5 := by omega
      have hfresh : Aside (∀ S : Ac, Fresh n S (Pt i) k (Vl i) → ∀ a, a < i + 1 → Fresh n (setS Ss i S a) (Pt a) (Ky a % 6) (Vl a)) := by
        intro S hS a ha
        by_cases d : a = i
        · rw [d, setS_same, hk]; exact hS
        · rw [setS_other _ _ d]; exact hF.out a (by omega)
      generalize Ky i = x at hky hkb hkeep hk
      generalize Vl i = v at hvk hvb hkeep hfresh
      cases hpt : Pt i
      · rw [hpt] at hp hfresh
        clear hpt hkeep hvk
        have K1 := crew_get E k hkr.1 (by omega)
        have fS : Aside (Fresh n (Ac.ofGet (line 0 n k) k) false k v) := Fresh.ofGet hn1 ⟨hkr.1, by omega⟩
        generalize Ac.ofGet (line 0 n k) k = S0 at K1 fS
        go_wp2_with (first
          | (go_at_call 12; refine K1.mono ?_; clear K1; rintro e w4 ⟨A, rfl, k4, a4, E4, b4, hnew⟩; have B5 : Below w4.heap.size w4 (w4.alloc (.cells #[.pointer (some ⟨A, 0, none⟩)] 37)) := (Below.refl _ _).alloc (Nat.le_refl _) _; have C5 := E4.new B5; have k5 := k4.below B5; have OS5 := (OS.below b4).below B5; clear b4)
          | (at_builtin; refine append_ptr C5.own w4.heap.size (some ⟨A, 0, none⟩) (heap_new w4 _) hi10 C5.size rfl _ _ rfl rfl rfl ?_; intro g6 cap6 w6 o6 b6; have C6 := C5.add k5 a4 hnew o6 b6; have OS6 := OS5.row C5.own (by decide) b6; have B6 : Below w6.heap.size w6 (w6.alloc (.cells #[.int .i64 0] 3)) := (Below.refl _ _).alloc (Nat.le_refl _) _; have C7 := C6.new B6; have OS7 := OS6.below B6)
          | (at_builtin; refine append_int OS7 w6.heap.size 0 (heap_new w6 _) hi10 C7.size rfl _ _ rfl rfl rfl ?_; intro g8 cap8 w8 o8 b8; have C8 := C7.row OS7 b8))
        go_roundg (gk - 1)
        case measure => have := hI.out; omega
        case rel =>
          refine ⟨i + 1, _, _, _, _, _, _, (by have := hI.out; omega), rfl, rfl, rfl, hfresh.out _ fS.out, o8.congr fun a _ => ?_, C8⟩
          by_cases d : a = i <;> simp only [d, if_true, if_false]
      · rw [hpt] at hp hfresh
        clear hpt
        have K1 := crew_put E.drew k v hkr.1 (by omega) hvb.1 hvb.2
        have fS : Aside (Fresh n (Ac.ofPut (line 0 n k) k v) true k v) := Fresh.ofPut hn1 ⟨hkr.1, by omega⟩ hvb
        generalize Ac.ofPut (line 0 n k) k v = S0 at K1 fS
        have OSd := OS.drew
        have hkt : Int.tmod x 6 = k := by rw [Int.tmod_eq_emod_of_nonneg hkb.1]; exact hk
        have hkw : IntKind.u64.wrap k = k := by rw [IntKind.wrap_u64]; omega
        go_wp2_with fail
        go_region_held3 (fun u => u.cell? ⟨b, off + i * 3 + 1, none⟩ = some (.int .u8 x) ∧ u.cell? ⟨b, off + i * 3 + 2, none⟩ = some (.int .u64 v)) (first | assumption | exact ⟨hky, hvk⟩ | exact hkeep C4.old | exact hkeep C5.old | exact hkeep C6.old) (first
          | (go_at_call 11; refine K1.mono ?_; clear K1; rintro e w4 ⟨A, rfl, k4, a4, C4, b4, hnew⟩; have B5 : Below w4.heap.size w4 (w4.alloc (.cells #[.pointer (some ⟨A, 0, none⟩)] 37)) := (Below.refl _ _).alloc (Nat.le_refl _) _; have C5 := C4.new B5; have k5 := k4.below B5; have OS5 := (OSd.below b4).below B5; clear b4)
          | (refine step_append_ptr C5.own w4.heap.size (some ⟨A, 0, none⟩) (heap_new w4 _) hi10 C5.size rfl (.tmp 60) (.tmp 75) rfl (by simp [Act.eval]) (by simp [Act.eval]) ?_; intro g6 cap6 w6 o6 b6; have C6 := C5.add k5 a4 hnew o6 b6; have OS6 := OS5.row C5.own (by decide) b6; have B6 : Below w6.heap.size w6 (w6.alloc (.cells #[.int .i64 0] 3)) := (Below.refl _ _).alloc (Nat.le_refl _) _; have C7 := C6.new B6; have OS7 := OS6.below B6))
        go_wp2_with (first
          | (at_builtin; refine append_int OS7 w6.heap.size 0 (heap_new w6 _) hi10 C7.size rfl _ _ rfl rfl rfl ?_; intro g8 cap8 w8 o8 b8; have C8 := C7.row OS7 b8))
        go_roundg (gk - 1)
        case measure => have := hI.out; omega
        case rel =>
          refine ⟨i + 1, _, _, _, _, _, _, (by have := hI.out; omega), rfl, rfl, rfl, hfresh.out _ fS.out, o8.congr fun a _ => ?_, C8⟩
          by_cases d : a = i <;> simp only [d, if_true, if_false]
    · obtain rfl : i = len := by have := hI.out; omega
      clear hI hil
      have T0 : TurnI W wr R T n i ad9 cap9 adS capS As Ss (fun _ => 0) (fun _ => 0) 0 Pt Ky Vl :=
        ⟨E, OS, Turn.start (fun a ha => (hF.out a ha).line) (fun a ha => (hF.out a ha).fit) (fun a ha => (hF.out a ha).won) (fun a ha => (hF.out a ha).good _ _), fun a _ => by have := mu_le (Ss a); omega, fun a ha hw => absurd ((hF.out a ha).won.symm.trans hw) (by simp), fun a ha => ⟨(hF.out a ha).put, (hF.out a ha).key, (hF.out a ha).val⟩⟩
      clear E OS hF
      go_wp2_with fail
      go_loopg [14] (len2 + 17 * i) (fun g sj wr => ∃ (j : Nat) (Ss : Nat → Ac) (St : Nat → Nat) (c : Nat → Int) (o : Int), j + g = len2 + 17 * i ∧ sj = .int .i64 (j : Int) ∧ 0 ≤ o ∧ o ≤ (j : Int) ∧ Fair i len2 j Ss ∧ TurnI W wr R T n i ad9 cap9 adS capS As Ss St c o Pt Ky Vl)
      case atStart => exact ⟨0, _, _, _, _, by omega, rfl, by omega, by omega, Fair.early (by omega), T0⟩
      case round =>
        clear T0
        obtain ⟨j, Ss, St, c, o, hj, rfl, ho0, ho1, hfair, C⟩ := hrel
        have hJ : Aside (j + gk = len2 + 17 * i) := hj
        have hFr : Aside (Fair i len2 j Ss) := hfair
        have hjle : j ≤ len2 + 17 * i := by omega
        clear hj hfair
        by_cases hjl : j < len2 + 17 * i
        · have hjl' : (j : Int) < (len2 : Int) + 17 * (i : Int) := by omega
          by_cases hi0 : i = 0
          · subst hi0
            clear hFr hJ
            go_wp2_with fail
            go_loopg [23] 0 (fun g si w => si = .int .i64 0 ∧ w = wr)
            case atStart => exact ⟨rfl, rfl⟩
            case round =>
              obtain ⟨rfl, rfl⟩ := hrel
              go_wp2_with fail
              go_ret
              exact ⟨rfl, C.crew.old⟩
          · have hm0 : ((i : Int) == 0) = false := by simp; omega
            have hm1 : ¬ (i : Int) = 0 := by omega
            have hm2 : (0 : Int) < (i : Int) := by omega
            have hm3 : decide (0 < i) = true := by simp; omega
            have hm4 : 0 < i := by omega
            obtain ⟨k0, hk0m⟩ : ∃ k0 : Nat, j % i = k0 := ⟨_, rfl⟩
            have hk0 : k0 < i := by rw [← hk0m]; exact Nat.mod_lt _ (by omega)
            have hk0e : (j : Int) % (i : Int) = (k0 : Int) := by rw [← hk0m]; simp
            have hk0t : Int.tmod (j : Int) (i : Int) = (k0 : Int) := by rw [Int.tmod_eq_emod_of_nonneg (by omega)]; exact hk0e
            have hk0A : Aside (j % i = k0) := hk0m
            clear hk0m
            obtain ⟨kk, hkk, hkc⟩ : ∃ kk : Nat, kk < i ∧ ((j < len2 ∧ V j % (i : Int) = (kk : Int)) ∨ (¬ j < len2 ∧ kk = k0)) := by
              by_cases c : j < len2
              · have hv := hV.val j c
                refine ⟨(V j).toNat % i, Nat.mod_lt _ (by omega), .inl ⟨c, ?_⟩⟩
                obtain ⟨vv, hvv⟩ := Int.eq_ofNat_of_zero_le hv.1
                rw [hvv]
                simp
              · exact ⟨k0, hk0, .inr ⟨c, rfl⟩⟩
            have hkcA : Aside (j < len2 ∨ kk = j % i) := by
              rcases hkc with ⟨c, _⟩ | ⟨_, c⟩
              · exact .inl c
              · exact .inr (by rw [hk0A.out]; exact c)
            obtain ⟨g9, rfl⟩ := C.crew.own.form (by omega)
            obtain ⟨gS, rfl⟩ := C.steps.form (by omega)
            have hkeepW : ∀ {ii}, ii < len2 → wr.cell? ⟨b2, off2 + ii, none⟩ = some (.int .u8 (V ii)) := fun q => hV.kept C.crew.old q
            go_upto_if 114 with fail
            go_cut [15] from 114 to 122 (fun sk w => sk = .int .i64 (kk : Int) ∧ w = wr)
            case first =>
              rcases hkc with ⟨hc, hke⟩ | ⟨hc, hke⟩
              · have hc' : (j : Int) < (len2 : Int) := by omega
                obtain rfl := hV.ad_ (by omega)
                have hv := hV.val j hc
                have hcv := hkeepW hc
                clear hkeepW
                generalize V j = v at hv hcv hke
                have hket : Int.tmod v (i : Int) = (kk : Int) := by rw [Int.tmod_eq_emod_of_nonneg hv.1]; exact hke
                go_wp2_with fail
                go_meet
                case rel => exact ⟨rfl, rfl⟩
              · have hc' : ¬ (j : Int) < (len2 : Int) := by omega
                have hkeA : Aside (kk = k0) := hke
                clear hkeepW hke
                go_wp2_with fail
                go_meet
                case rel => exact ⟨by rw [hkeA.out], rfl⟩
            case rest =>
              obtain ⟨rfl, rfl⟩ := hcut
              clear hkc hkeepW
              have hcf := C.crew.own.cell hkk
              have hcs := C.steps.cell hkk
              have hkk' : (kk : Int) < (i : Int) := by omega
              have hfew := C.few kk hkk
              have Ko := crew_ops C.crew
              by_cases hst : (Ss kk).st = 0
              · have Kd := crew_done C.crew hkk true (decide_eq_true hst)
                have Kp := step_off (C.crew.act hkk) hst
                have Kd2 := Kd
                have Ko2 := Ko
                have Ko3 := Ko
                have hF2 : Aside (Fair i len2 (j + 1) Ss) := by
                  simp only [Aside]
                  by_cases c : j + 1 ≤ len2
                  · exact Fair.early c
                  · rcases hkcA.out with c' | d
                    · omega
                    · exact hFr.out.same (by omega) (by rw [← d]; exact mu_zero hst)
                have hst3 : ¬ (16 : Int) < (St kk : Int) := by omega
                have hst4 : ¬ 16 < St kk := by omega
                have ho2 : ¬ o + 1 < o := by omega
                clear hfew hst
                go_wp2_with (first
                  | (go_at_call 13; refine Kd.mono ?_; clear Kd; rintro e wc ⟨rfl, rfl⟩)
                  | (go_at_call 14; refine Ko.mono ?_; clear Ko; rintro e wc ⟨rfl, rfl⟩)
                  | (go_at_call 15; refine Kp.mono ?_; clear Kp; rintro e wc ⟨rfl, rfl⟩)
                  | (go_at_call 13; refine Kd2.mono ?_; clear Kd2; rintro e wc ⟨rfl, rfl⟩)
                  | (go_at_call 14; refine Ko2.mono ?_; clear Ko2; rintro e wc ⟨rfl, rfl⟩)
                  | (go_at_call 14; refine Ko3.mono ?_; clear Ko3; rintro e wc ⟨rfl, rfl⟩))
                go_roundg (gk - 1)
                case measure => have := hJ.out; omega
                case rel =>
                  have hj := hJ.out
                  exact ⟨j + 1, Ss, St, c, o, by omega, rfl, ho0, by omega, hF2.out, C⟩
              · have Kd := crew_done C.crew hkk false (decide_eq_false hst)
                have Kp := crew_step C.crew hkk (C.turn.fit kk hkk) hst
                have hop : wrap64 (o + 1) = o + 1 := by unfold wrap64; omega
                rw [hop] at Kp
                clear hop
                have hstep := C.step hkk (by omega) hst
                have hF2 : Aside (Fair i len2 (j + 1) (setS Ss kk ((Ss kk).nxt c))) := by
                  simp only [Aside]
                  by_cases c' : j + 1 ≤ len2
                  · exact Fair.early c'
                  · rcases hkcA.out with c' | d
                    · omega
                    · have mu := (C.turn.fit kk hkk).mu_step (c := c) hst
                      rw [d] at mu ⊢
                      exact hFr.out.step (by omega) (.inr mu)
                have hsame : Aside ((setS Ss kk ((Ss kk).nxt c)) kk = (Ss kk).nxt c) := setS_same _ _ _
                have hT2 : Aside (Turn i n (setS Ss kk ((Ss kk).nxt c)) ((Ss kk).after c)) := hstep.1
                have hfew2 : Aside (∀ a, a < i → (if a = kk then St kk + 1 else St a) + (setS Ss kk ((Ss kk).nxt c) a).mu ≤ 5) := hstep.2.1
                have hwon2 : Aside (∀ a, a < i → (setS Ss kk ((Ss kk).nxt c) a).won = true → 0 < if a = kk then St kk + 1 else St a) := hstep.2.2.1
                have hsam2 : Aside (∀ a, a < i → (setS Ss kk ((Ss kk).nxt c) a).put = Pt a ∧ (setS Ss kk ((Ss kk).nxt c) a).key = Ky a % 6 ∧ (Pt a = true → (setS Ss kk ((Ss kk).nxt c) a).val = Vl a)) := hstep.2.2.2
                clear hstep
                have hmu1 : Aside (1 ≤ (Ss kk).mu) := by simp only [Aside]; have := (C.turn.fit kk hkk).mu_step (c := c) hst; omega
                have hst3 : ¬ (16 : Int) < (St kk : Int) + 1 := by have := hmu1.out; omega
                have ho2 : ¬ o + 1 < o + 1 := by omega
                have hSp : ∀ w', Went (Foot (R + 1) R (As kk)) wc w' → OwnR 3 w' W.heap.size (some ⟨gS, 0, none⟩) i capS (fun a => .int .i64 (St a : Int)) := by
                  obtain ⟨f, H⟩ := C.crew.sys
                  exact fun w' k => C.steps.went (.inr rfl) H (C.crew.act hkk) k
                obtain ⟨S2, hS2⟩ : ∃ S2, (Ss kk).nxt c = S2 := ⟨_, rfl⟩
                rw [hS2] at Kp hF2 hsame hT2 hfew2 hwon2 hsam2
                generalize (Ss kk).after c = c2 at Kp hT2
                generalize setS Ss kk S2 = Ss2 at Kp hF2 hsame hT2 hfew2 hwon2 hsam2
                clear hS2 hst hfew
                by_cases hbd : S2.st = 0
                · rw [decide_eq_true hbd] at Kp
                  have hbd2 : Aside (decide ((Ss2 kk).st = 0) = true) := by simp only [Aside]; rw [hsame.out]; exact decide_eq_true hbd
                  clear hbd
                  cases hfd : S2.found
                  · have htold : S2.told = 0 := by unfold Ac.told; rw [hfd]; rfl
                    go_wp2_with (first
                      | (go_at_call 13; refine Kd.mono ?_; clear Kd; rintro e wc ⟨rfl, rfl⟩)
                      | (go_at_call 14; refine Ko.mono ?_; clear Ko; rintro e wc ⟨rfl, rfl⟩)
                      | (go_at_call 15; refine Kp.mono ?_; clear Kp; rintro e w5 ⟨rfl, C5, b5⟩; have hcf5 := C5.own.cell hkk; have OS5 := hSp w5 b5; have hcs5 := OS5.cell hkk; have hfz5 := OS5.frozen kk; have Kd2 := crew_done C5 hkk _ hbd2.out; have Ko2 := crew_ops C5; have OS6 := OS5.set (k := kk) (.int .i64 ((St kk : Int) + 1)); have C6 := C5.row OS5 (Went.set (o := kk) ⟨_, rfl, rfl⟩ w5 (.int .i64 ((St kk : Int) + 1))); have hcf6 := C6.own.cell hkk; have Kg := got_any (C6.act hkk) ((hT2.out.fit kk hkk).h); rw [hsame.out, hfd, htold] at Kg)
                      | (go_at_call 13; refine Kd2.mono ?_; clear Kd2; rintro e w5 ⟨rfl, rfl⟩)
                      | (go_at_call 14; refine Ko2.mono ?_; clear Ko2; rintro e w5 ⟨rfl, rfl⟩)
                      | (go_at_call 16; refine Kg.mono ?_; clear Kg; rintro e w7 ⟨rfl, q, rfl⟩))
                    go_roundg (gk - 1)
                    case measure => have := hJ.out; omega
                    case rel =>
                      have hj := hJ.out
                      have T7 : TurnI W _ R T n i _ cap9 _ capS As Ss2 (fun a => if a = kk then St kk + 1 else St a) c2 (o + 1) Pt Ky Vl := ⟨C6, OS6.congr fun a _ => (by by_cases d : a = kk <;> simp [d]), hT2.out, hfew2.out, hwon2.out, hsam2.out⟩
                      exact ⟨j + 1, Ss2, fun a => if a = kk then St kk + 1 else St a, c2, o + 1, by omega, rfl, by omega, by omega, hF2.out, T7.drawn q⟩
                  · obtain ⟨v, htold⟩ : ∃ v, S2.told = v := ⟨_, rfl⟩
                    go_wp2_with (first
                      | (go_at_call 13; refine Kd.mono ?_; clear Kd; rintro e wc ⟨rfl, rfl⟩)
                      | (go_at_call 14; refine Ko.mono ?_; clear Ko; rintro e wc ⟨rfl, rfl⟩)
                      | (go_at_call 15; refine Kp.mono ?_; clear Kp; rintro e w5 ⟨rfl, C5, b5⟩; have hcf5 := C5.own.cell hkk; have OS5 := hSp w5 b5; have hcs5 := OS5.cell hkk; have hfz5 := OS5.frozen kk; have Kd2 := crew_done C5 hkk _ hbd2.out; have Ko2 := crew_ops C5; have OS6 := OS5.set (k := kk) (.int .i64 ((St kk : Int) + 1)); have C6 := C5.row OS5 (Went.set (o := kk) ⟨_, rfl, rfl⟩ w5 (.int .i64 ((St kk : Int) + 1))); have hcf6 := C6.own.cell hkk; have Kg := got_any (C6.act hkk) ((hT2.out.fit kk hkk).h); rw [hsame.out, hfd, htold] at Kg)
                      | (go_at_call 13; refine Kd2.mono ?_; clear Kd2; rintro e w5 ⟨rfl, rfl⟩)
                      | (go_at_call 14; refine Ko2.mono ?_; clear Ko2; rintro e w5 ⟨rfl, rfl⟩)
                      | (go_at_call 16; refine Kg.mono ?_; clear Kg; rintro e w7 ⟨rfl, q, rfl⟩))
                    obtain ⟨St2, hSt2⟩ : ∃ St2 : Nat → Nat, St2 = fun a => if a = kk then St kk + 1 else St a := ⟨_, rfl⟩
                    have T7 : TurnI W _ R T n i _ cap9 _ capS As Ss2 St2 c2 (o + 1) Pt Ky Vl := (by
                      rw [hSt2]
                      have T6 : TurnI W _ R T n i _ cap9 _ capS As Ss2 (fun a => if a = kk then St kk + 1 else St a) c2 (o + 1) Pt Ky Vl := ⟨C6, OS6.congr fun a _ => (by by_cases d : a = kk <;> simp [d]), hT2.out, hfew2.out, hwon2.out, hsam2.out⟩
                      exact T6.drawn q)
                    have hhit := T7.hit hkk (by rw [hsame.out]; exact hfd)
                    rw [hsame.out, htold] at hhit
                    have hptk : Aside (Pt kk = false) := hhit.1
                    have hex : Aside (∃ q, q < i ∧ Pt q = true ∧ 0 < St2 q ∧ Ky q % 6 = Ky kk % 6 ∧ Vl q = v) := hhit.2
                    clear hhit hSt2 C6 OS6 hT2 hfew2 hwon2 hsam2 OS5 C5 hcf5 hcs5 hfz5 hcf6 hSp C b5 htold hfd hsame
                    generalize ((w5.setCell ⟨gS, kk, none⟩ (.int .i64 ((St kk : Int) + 1))).drewN q) = wx at *
                    obtain ⟨go, hgo⟩ : ∃ go, go = gk := ⟨_, rfl⟩
                    rw [← hgo] at hJ
                    go_loopg [21, 22] i (fun g sb sj wr => ∃ (a : Nat) (bb : Bool), a + g = i ∧ sj = .int .i64 (a : Int) ∧ sb = .bool bb ∧ Aside (bb = true ∨ ∀ a', a' < a → ¬ (Pt a' = true ∧ 0 < St2 a' ∧ Ky a' % 6 = Ky kk % 6 ∧ Vl a' = v)) ∧ TurnI W wr R T n i (some ⟨g9, 0, none⟩) cap9 (some ⟨gS, 0, none⟩) capS As Ss2 St2 c2 (o + 1) Pt Ky Vl)
                    case atStart => exact ⟨0, false, by omega, rfl, rfl, .inr (fun a' h => absurd h (by omega)), T7⟩
                    case round =>
                      clear T7
                      obtain ⟨a, bb, ha, rfl, rfl, hb, T8⟩ := hrel
                      have hA : Aside (a + gk = i) := ha
                      clear ha
                      obtain rfl := hZ.ad_ (by omega)
                      by_cases hai : a < i
                      · have hai' : (a : Int) < (i : Int) := by omega
                        have hp3 := hZ.put' T8.crew.old hai
                        have hk3 := hZ.key' T8.crew.old hai
                        have hv3 := hZ.val' T8.crew.old hai
                        have hkk3 := hZ.key' T8.crew.old hkk
                        have hcs3 := T8.steps.cell hai
                        have hkb3 := hZ.keys a hai
                        have hkbk := hZ.keys kk hkk
                        have hnew : Aside (∀ b' : Bool, (b' = true ∨ ¬ (Pt a = true ∧ 0 < St2 a ∧ Ky a % 6 = Ky kk % 6 ∧ Vl a = v)) → bb = false → (b' = true ∨ ∀ a', a' < a + 1 → ¬ (Pt a' = true ∧ 0 < St2 a' ∧ Ky a' % 6 = Ky kk % 6 ∧ Vl a' = v))) := by
                          intro b' h1 h2
                          rcases h1 with h1 | h1
                          · exact .inl h1
                          · right
                            intro a' ha'
                            by_cases d : a' = a
                            · rw [d]; exact h1
                            · rcases hb.out with e | e
                              · rw [h2] at e; cases e
                              · exact e a' (by omega)
                        obtain ⟨r1, hr1⟩ : ∃ r1, Ky a % 6 = r1 := ⟨_, rfl⟩
                        obtain ⟨r2, hr2⟩ : ∃ r2, Ky kk % 6 = r2 := ⟨_, rfl⟩
                        have ht1 : Int.tmod (Ky a) 6 = r1 := by rw [Int.tmod_eq_emod_of_nonneg hkb3.1]; exact hr1
                        have ht2 : Int.tmod (Ky kk) 6 = r2 := by rw [Int.tmod_eq_emod_of_nonneg hkbk.1]; exact hr2
                        have hrb1 : 0 ≤ r1 ∧ r1 ≤ 5 := by omega
                        have hrb2 : 0 ≤ r2 ∧ r2 ≤ 5 := by omega
                        cases bb
                        · cases hpa : Pt a
                          · rw [hpa] at hp3
                            have hnA := hnew.out false (.inr (fun e => by rw [hpa] at e; cases e.1)) rfl
                            have hnB : Aside (false = true ∨ ∀ a', a' < a + 1 → ¬ (Pt a' = true ∧ 0 < St2 a' ∧ Ky a' % 6 = Ky kk % 6 ∧ Vl a' = v)) := hnA
                            clear hpa hnA hnew
                            go_wp2_with fail
                            go_quiet (fail)
                            go_wp2_with fail
                            go_roundg (gk - 1)
                            case measure => have := hA.out; omega
                            case rel => exact ⟨a + 1, false, (by have := hA.out; omega), rfl, rfl, hnB, T8.drawn _⟩
                          · rw [hpa] at hp3
                            clear hpa
                            by_cases hs : 0 < St2 a
                            · have hs1 : decide (0 < St2 a) = true := decide_eq_true hs
                              have hs2 : decide ((0 : Int) < (St2 a : Int)) = true := decide_eq_true (by omega)
                              by_cases hk : r1 = r2
                              · have hk1 : (r1 == r2) = true := by simpa using hk
                                by_cases hv : Vl a = v
                                · have hv1 : (Vl a == v) = true := by simpa using hv
                                  clear hv hk hnew
                                  go_wp2_with fail
                                  go_quiet (fail)
                                  go_wp2_with fail
                                  go_roundg (gk - 1)
                                  case measure => have := hA.out; omega
                                  case rel => exact ⟨a + 1, true, (by have := hA.out; omega), rfl, rfl, .inl rfl, T8.drawn _⟩
                                · have hv1 : (Vl a == v) = false := by simpa using hv
                                  have hnA := hnew.out false (.inr (fun e => hv e.2.2.2)) rfl
                                  have hnB : Aside (false = true ∨ ∀ a', a' < a + 1 → ¬ (Pt a' = true ∧ 0 < St2 a' ∧ Ky a' % 6 = Ky kk % 6 ∧ Vl a' = v)) := hnA
                                  clear hv hk hnA hnew
                                  go_wp2_with fail
                                  go_quiet (fail)
                                  go_wp2_with fail
                                  go_roundg (gk - 1)
                                  case measure => have := hA.out; omega
                                  case rel => exact ⟨a + 1, false, (by have := hA.out; omega), rfl, rfl, hnB, T8.drawn _⟩
                              · have hk1 : (r1 == r2) = false := by simpa using hk
                                have hnA := hnew.out false (.inr (fun e => hk (by rw [← hr1, ← hr2]; exact e.2.2.1))) rfl
                                have hnB : Aside (false = true ∨ ∀ a', a' < a + 1 → ¬ (Pt a' = true ∧ 0 < St2 a' ∧ Ky a' % 6 = Ky kk % 6 ∧ Vl a' = v)) := hnA
                                clear hk hnA hnew
                                go_wp2_with fail
                                go_quiet (fail)
                                go_wp2_with fail
                                go_roundg (gk - 1)
                                case measure => have := hA.out; omega
                                case rel => exact ⟨a + 1, false, (by have := hA.out; omega), rfl, rfl, hnB, T8.drawn _⟩
                            · have hs1 : decide (0 < St2 a) = false := decide_eq_false hs
                              have hs2 : decide ((0 : Int) < (St2 a : Int)) = false := decide_eq_false (by omega)
                              have hnA := hnew.out false (.inr (fun e => hs e.2.1)) rfl
                              have hnB : Aside (false = true ∨ ∀ a', a' < a + 1 → ¬ (Pt a' = true ∧ 0 < St2 a' ∧ Ky a' % 6 = Ky kk % 6 ∧ Vl a' = v)) := hnA
                              clear hnA hnew
                              go_wp2_with fail
                              go_quiet (fail)
                              go_wp2_with fail
                              go_roundg (gk - 1)
                              case measure => have := hA.out; omega
                              case rel => exact ⟨a + 1, false, (by have := hA.out; omega), rfl, rfl, hnB, T8.drawn _⟩
                        · clear hnew
                          go_wp2_with fail
                          go_quiet (fail)
                          go_wp2_with fail
                          go_roundg (gk - 1)
                          case measure => have := hA.out; omega
                          case rel => exact ⟨a + 1, true, (by have := hA.out; omega), rfl, rfl, .inl rfl, T8.drawn _⟩
                      · obtain rfl : a = i := by have := hA.out; omega
                        have hbb : bb = true := by
                          rcases hb.out with e | e
                          · exact e
                          · obtain ⟨q, h1, h2⟩ := hex.out
                            exact absurd h2 (e q h1)
                        subst hbb
                        have hpk := hZ.put' T8.crew.old hkk
                        rw [hptk.out] at hpk
                        clear hA hai
                        go_wp2_with fail
                        go_roundg (go - 1)
                        case measure => have := hJ.out; omega
                        case rel =>
                          have hj := hJ.out
                          exact ⟨j + 1, Ss2, St2, c2, o + 1, by omega, rfl, by omega, by omega, hF2.out, T8⟩
                · rw [decide_eq_false hbd] at Kp
                  have hbd2 : Aside (decide ((Ss2 kk).st = 0) = false) := by simp only [Aside]; rw [hsame.out]; exact decide_eq_false hbd
                  clear hbd
                  go_wp2_with (first
                    | (go_at_call 13; refine Kd.mono ?_; clear Kd; rintro e wc ⟨rfl, rfl⟩)
                    | (go_at_call 14; refine Ko.mono ?_; clear Ko; rintro e wc ⟨rfl, rfl⟩)
                    | (go_at_call 15; refine Kp.mono ?_; clear Kp; rintro e w5 ⟨rfl, C5, b5⟩; have hcf5 := C5.own.cell hkk; have OS5 := hSp w5 b5; have hcs5 := OS5.cell hkk; have hfz5 := OS5.frozen kk; have Kd2 := crew_done C5 hkk _ hbd2.out; have Ko2 := crew_ops C5; have OS6 := OS5.set (k := kk) (.int .i64 ((St kk : Int) + 1)); have C6 := C5.row OS5 (Went.set (o := kk) ⟨_, rfl, rfl⟩ w5 (.int .i64 ((St kk : Int) + 1))))
                    | (go_at_call 13; refine Kd2.mono ?_; clear Kd2; rintro e w5 ⟨rfl, rfl⟩)
                    | (go_at_call 14; refine Ko2.mono ?_; clear Ko2; rintro e w5 ⟨rfl, rfl⟩))
                  go_roundg (gk - 1)
                  case measure => have := hJ.out; omega
                  case rel =>
                    have hj := hJ.out
                    refine ⟨j + 1, Ss2, fun a => if a = kk then St kk + 1 else St a, c2, o + 1, by omega, rfl, by omega, by omega, hF2.out, ⟨C6, OS6.congr fun a _ => ?_, hT2.out, hfew2.out, hwon2.out, hsam2.out⟩⟩
                    by_cases d : a = kk <;> simp [d]
        · obtain rfl : j = len2 + 17 * i := by omega
          have hmu := Fair.done (m := i) (L := len2) (Ss := Ss) (by rw [Nat.mul_comm]; exact hFr.out)
          have hdn : Aside (∀ a, a < i → decide ((Ss a).st = 0) = true) := fun a ha => decide_eq_true ((C.turn.fit a ha).mu_done (hmu a ha))
          have hjl' : ¬ ((len2 + 17 * i : Nat) : Int) < (len2 : Int) + 17 * (i : Int) := by omega
          clear hmu hFr hJ
          go_wp2_with fail
          go_loopg [23] i (fun g si w => ∃ a : Nat, a + g = i ∧ si = .int .i64 (a : Int) ∧ w = wr)
          case atStart => exact ⟨0, by omega, rfl, rfl⟩
          case round =>
            obtain ⟨a, ha, rfl, rfl⟩ := hrel
            have hA : Aside (a + gk = i) := ha
            clear ha
            by_cases hai : a < i
            · have hai' : (a : Int) < (i : Int) := by omega
              obtain ⟨g9, rfl⟩ := C.crew.own.form (by omega)
              have hcf := C.crew.own.cell hai
              have Kd := crew_done C.crew hai true (hdn.out a hai)
              go_wp2_with (first
                | (go_at_call 13; refine Kd.mono ?_; clear Kd; rintro e wc ⟨rfl, rfl⟩))
              go_roundg (gk - 1)
              case measure => have := hA.out; omega
              case rel => exact ⟨a + 1, (by have := hA.out; omega), rfl, rfl⟩
            · obtain rfl : a = i := by have := hA.out; omega
              clear hA hai
              go_wp2_with fail
              go_ret
              exact ⟨rfl, C.crew.old⟩
end Go.Proofs.Ytekeabiokiacnaa
