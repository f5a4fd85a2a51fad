/-
  The walk of TableAlone: for every number and rows of keys and steps it tells true, and old memory is as it was.
-/
import Derived.Test.YtnekhfpccmnaiaaCrew
import Derived.Deep.Light
import Derived.Test.YtnekhfpccmnaiaaValx
namespace Go.Proofs.Ytnekhfpccmnaiaa
open Go Go.RowKit

def KeepM (J K : Act → World → Prop) : Prop := ∀ a w, Met J a w → K a w
theorem KeepM.mk {J K : Act → World → Prop} (h : ∀ a w, Met J a w → K a w) : KeepM J K := h
theorem KeepM.out {J K : Act → World → Prop} (h : KeepM J K) : ∀ a w, Met J a w → K a w := h

set_option maxRecDepth 100000 in
theorem alone_off (z : Int) (ad ad2 : Option Addr) (len cap len2 cap2 : Nat) (W : World) (hlen : len < 1 ∨ 10 < len) :
    Calls Try.prog 6 #[.int .u8 z, .slice ad len cap, .slice ad2 len2 cap2] W fun e w' => e = .returned (.bool true) ∧ Below W.heap.size W w' := by
  have K0 := known_any W
  by_cases h : len < 1
  · have hd : decide ((len : Int) < 1) = true := by simp; omega
    have h0 : len = 0 := by omega
    subst h0
    clear hlen
    go_enter Try.func6, Try.ntmps6
    go_wp2_with (first
      | (go_at_call 9; refine K0.mono ?_; clear K0; rintro e w1 ⟨rfl, b1⟩))
    go_ret
    exact ⟨rfl, b1⟩
  · have hd : decide ((len : Int) < 1) = false := by simp; omega
    have hd2 : decide (10 < (len : Int)) = true := by simp; omega
    have h2 : 10 < len := by omega
    have h3 : ¬ (len : Int) < 1 := by omega
    clear hlen
    go_enter Try.func6, Try.ntmps6
    go_wp2_with (first
      | (go_at_call 9; refine K0.mono ?_; clear K0; rintro e w1 ⟨rfl, b1⟩))
    go_ret
    exact ⟨rfl, b1⟩

theorem heap_new (w : World) (o : Obj) : (w.alloc o).heap[w.heap.size]? = some o := Go.Deep.blk_alloc_new w o

set_option maxHeartbeats 4000000 in
set_option maxRecDepth 100000 in
theorem alone_walk (z : Int) (ad ad2 : Option Addr) (len cap b off len2 cap2 b2 off2 : Nat) (Z V : Nat → Int) (W : World) (hz : 0 ≤ z ∧ z ≤ 255) (hZ : Bytes W ad len b off Z) (hV : Bytes W ad2 len2 b2 off2 V) (hlen1 : 1 ≤ len) (hlen : len ≤ 10) :
    Calls Try.prog 6 #[.int .u8 z, .slice ad len cap, .slice ad2 len2 cap2] W fun e w' => e = .returned (.bool true) ∧ Below W.heap.size W w' := by
  obtain ⟨n, hn, hn1, hn2⟩ : ∃ n : Nat, z % 8 + 1 = (n : Int) ∧ 1 ≤ n ∧ n ≤ 8 := ⟨(z % 8 + 1).toNat, by omega, by omega, by omega⟩
  have K0 := known_any W
  have hd : decide ((len : Int) < 1) = false := by simp; omega
  have hd2 : ¬ 10 < len := by omega
  have hd3 : ¬ (len : Int) < 1 := by omega
  have hd4 : ¬ len = 0 := by omega
  obtain rfl := hZ.ad_ (by omega)
  go_enter Try.func6, Try.ntmps6
  go_wp2_with (first
    | (go_at_call 9; refine K0.mono ?_; clear K0; rintro e w1 ⟨rfl, b1⟩; have K1 := new_any (n : Int) w1; rw [held_nat n (by omega)] at K1)
    | (go_at_call 10; refine K1.mono ?_; clear K1; rintro e w2 ⟨rfl, m2, b2', s2⟩; have s2A : Aside (w2.heap.size = w1.heap.size + 2) := s2; clear s2; have K2 := tab_new' m2 0 n 0 (n : Int) rfl rfl hn1 (by omega) (by omega))
    | (go_at_call 11; refine K2.mono ?_; clear K2; rintro e w3 ⟨rfl, h3, b3, s3⟩; have s3A : Aside (w3.heap.size = w2.heap.size + 1) := s3; clear s3))
  obtain ⟨T, hT⟩ : ∃ T, T = w2.heap.size := ⟨_, rfl⟩
  obtain ⟨R, hR⟩ : ∃ R, R = w1.heap.size := ⟨_, rfl⟩
  have start : Crew W w3 R T n 0 none 0 (fun _ => 0) (fun _ => Fd.none n) (fun _ => 0) 0 0 := by
    have q1 := b1.size
    have q2 := s2A.out
    have q3 := s3A.out
    rw [hT, hR]
    exact ⟨⟨_, h3, fun _ => rfl⟩, Good.empty n, OwnR.nil _ _ _ _, (fun i hi => absurd hi (by omega)), (fun i j hi => absurd hi (by omega)), far (far b1 b2' b1.size) b3 (by omega), by omega, by omega⟩
  rw [← hT, ← hR]
  clear hT hR h3 m2 b2' b3 b1 s2A s3A hn hz
  go_loopg [11, 12] len (fun g sf si wr => ∃ (i cap9 : Nat) (ad9 : Option Addr) (Fs : Nat → Nat) (Ss : Nat → Fd) (t : Nat → Int) (o f : Int), i + g = len ∧ si = .int .i64 (i : Int) ∧ sf = .slice ad9 i cap9 ∧ (∀ a, a < i → (Ss a).key = Z a % 9 + 1) ∧ Crew W wr R T n i ad9 cap9 Fs Ss t o f)
  case atStart => exact ⟨0, 0, none, _, _, _, _, _, by omega, rfl, rfl, (fun a ha => absurd ha (by omega)), start⟩
  case round =>
    obtain ⟨i, cap9, ad9, Fs, Ss, t, o, f, hi, rfl, rfl, hkeys, E⟩ := hrel
    obtain ⟨go, hgo⟩ : ∃ go, go = gk := ⟨_, rfl⟩
    have hI : Aside (i + go = len) := by simp only [Aside]; omega
    have hkA : Aside (∀ a, a < i → (Ss a).key = Z a % 9 + 1) := hkeys
    clear hi start hkeys
    by_cases hil : i < len
    · have hil' : (i : Int) < (len : Int) := by omega
      have hc := hZ.kept E.old hil
      have hzv := hZ.val i hil
      have hkz : Aside (Z i % 9 + 1 = Z i % 9 + 1) := rfl
      obtain ⟨x, hx⟩ : ∃ x, x = Z i := ⟨_, rfl⟩
      have hxA : Aside (x = Z i) := hx
      rw [← hx] at hc hzv
      clear hx hkz
      have K1 := key_any x 9 wr hzv.1 hzv.2 (by omega) (by omega)
      have K2 := crew_find E (x % 9 + 1) (by omega) (by omega)
      obtain ⟨F, hF⟩ : ∃ F, F = wr.heap.size := ⟨_, rfl⟩
      have hFA : Aside (F = wr.heap.size) := hF
      rw [← hF] at K2
      clear hF
      have hWF : Aside (W.heap.size ≤ F) := by simp only [Aside]; have := hFA.out; have := E.size; omega
      have hi10 : i ≤ 1000000 := by omega
      go_wp2_with (first
        | (go_at_call 20; refine K1.mono ?_; clear K1; rintro e wr ⟨rfl, rfl⟩)
        | (go_at_call 12; refine K2.mono ?_; clear K2; rintro e w4 ⟨rfl, k4, C4, hnew⟩; have B5 : Below w4.heap.size w4 (w4.alloc (.cells #[.pointer (some ⟨F, 0, none⟩)] 30)) := (Below.refl _ _).alloc (Nat.le_refl _) _; have C5 := C4.new B5; have k5 := k4.below B5)
        | (at_builtin; refine append_ptr C5.own w4.heap.size (some ⟨F, 0, none⟩) (heap_new w4 _) hi10 C5.size rfl _ _ rfl rfl rfl ?_; intro g6 cap6 w6 o6 b6))
      have hk0 : ¬ (x % 9 + 1) = 0 := by omega
      have C6 := C5.add k5 (FI.start hn1 t hk0) hWF.out hnew o6 b6
      have hkey6 : Aside (∀ a, a < i + 1 → (setS Ss i (Fd.start n (x % 9 + 1)) a).key = Z a % 9 + 1) := by
        intro a ha
        by_cases d : a = i
        · rw [d, setS_same, ← hxA.out]; rfl
        · rw [setS_other _ _ d]; exact hkA.out a (by omega)
      generalize setF Fs i F = Fs6 at C6
      generalize setS Ss i (Fd.start n (x % 9 + 1)) = Ss6 at C6 hkey6
      clear E C4 C5 k4 k5 hnew o6 b6 hc
      go_loopg [13] 5 (fun g sk wr => ∃ (k : Nat) (Ss : Nat → Fd) (t : Nat → Int) (o f : Int), k + g = 5 ∧ sk = .int .i64 (k : Int) ∧ (∀ a, a < i + 1 → (Ss a).key = Z a % 9 + 1) ∧ Crew W wr R T n (i + 1) (some ⟨g6, 0, none⟩) cap6 Fs6 Ss t o f)
      case atStart => exact ⟨0, _, _, _, _, by omega, rfl, hkey6.out, C6⟩
      case round =>
        clear C6 hkey6
        obtain ⟨k, Ss, t, o, f, hk, rfl, hkeys, C⟩ := hrel
        have hKA : Aside (k + gk = 5) := hk
        have hkyA : Aside (∀ a, a < i + 1 → (Ss a).key = Z a % 9 + 1) := hkeys
        clear hk hkeys
        by_cases hi2 : i < len2
        · have hi2' : (i : Int) < (len2 : Int) := by omega
          obtain rfl := hV.ad_ (by omega)
          have hc := hV.kept C.old hi2
          have hv := hV.val i hi2
          generalize V i = v at hc hv
          by_cases hkv : (k : Int) < v % 5
          · have hcf := C.own.cell (show i < i + 1 by omega)
            have K := crew_step C (k := i) (by omega)
            have hky2 : Aside (∀ a, a < i + 1 → (setS Ss i ((Ss i).nxt n (t (Ss i).slot)) a).key = Z a % 9 + 1) := by
              intro a ha
              by_cases d : a = i
              · rw [d, setS_same, nxt_key]; exact hkyA.out i (by omega)
              · rw [setS_other _ _ d]; exact hkyA.out a ha
            have hii : (i : Int) < (i : Int) + 1 := by omega
            go_wp2_with (first
              | (go_at_call 13; refine K.mono ?_; clear K; rintro e w5 ⟨rfl, C5, b5⟩))
            go_roundg (gk - 1)
            case measure => have := hKA.out; omega
            case rel =>
              have hk := hKA.out
              exact ⟨k + 1, _, _, _, _, by omega, rfl, hky2.out, C5⟩
          · go_wp2_with fail
            go_roundg (go - 1)
            case measure => have := hI.out; omega
            case rel =>
              have hi := hI.out
              exact ⟨i + 1, _, _, _, _, _, _, _, by omega, rfl, rfl, hkyA.out, C⟩
        · have hi2' : ¬ (i : Int) < (len2 : Int) := by omega
          go_wp2_with fail
          go_roundg (go - 1)
          case measure => have := hI.out; omega
          case rel =>
            have hi := hI.out
            exact ⟨i + 1, _, _, _, _, _, _, _, by omega, rfl, rfl, hkyA.out, C⟩
    · obtain rfl : i = len := by have := hI.out; omega
      obtain ⟨g9, rfl⟩ := E.own.form (by omega)
      obtain ⟨l, rfl⟩ : ∃ l, i = l + 1 := ⟨i - 1, by omega⟩
      have hcf := E.own.cell (show l < l + 1 by omega)
      have hli : ((l + 1 : Nat) : Int) - 1 = (l : Int) := by omega
      have hfi := E.fi (k := l) (by omega)
      have hlk := hkA.out l (by omega)
      go_wp2_with fail
      go_loopg [15] (3 * n) (fun g ss wr => ∃ (q : Nat) (Ss : Nat → Fd) (t : Nat → Int) (o f : Int), q + g = 3 * n ∧ ss = .int .i64 (q : Int) ∧ (Ss l).mu + q ≤ 3 * n ∧ (Ss l).key = Z l % 9 + 1 ∧ Crew W wr R T n (l + 1) (some ⟨g9, 0, none⟩) cap9 Fs Ss t o f)
      case atStart => exact ⟨0, _, _, _, _, by omega, rfl, hfi.mu_le, hlk, E⟩
      case round =>
        clear E hcf hfi hlk
        obtain ⟨q, Ss, t, o, f, hq, rfl, hmu, hlk, C⟩ := hrel
        have hQ : Aside (q + gk = 3 * n) := hq
        have hM : Aside ((Ss l).mu + q ≤ 3 * n) := hmu
        have hkA : Aside ((Ss l).key = Z l % 9 + 1) := hlk
        clear hq hmu hlk
        have hfi := C.fi (k := l) (by omega)
        by_cases hst : (Ss l).st = 0
        · have Kd := crew_done C (k := l) (by omega) true (decide_eq_true hst)
          have hdA : Aside (decide ((Ss l).st = 0) = true) := decide_eq_true hst
          have hcl := hZ.kept C.old (show l < l + 1 by omega)
          have hzv := hZ.val l (by omega)
          cases hf : (Ss l).found with
          | true =>
            have hx := tells_found hf
            obtain ⟨_, hleft, htk⟩ := hfi.found hf
            have hsl := hfi.slot_lt hn1 hleft
            have Ks := slot_is (C.fd (k := l) (by omega)) ((Ss l).slot : Int) 0 (by rw [hx]) (by rw [hx])
            rw [hkA.out] at htk
            generalize (Ss l).slot = q' at Ks hsl htk
            have htkA : Aside (t q' = Z l % 9 + 1) := htk
            obtain ⟨x, hx'⟩ : ∃ x, x = Z l := ⟨_, rfl⟩
            have hxA : Aside (x = Z l) := hx'
            rw [← hx'] at hcl hzv
            have htkA : Aside (t q' = x % 9 + 1) := by simp only [Aside]; rw [hx']; exact htkA.out
            clear hx'
            clear hx hf hst htk hleft hfi
            go_upto_region 25 with (first
              | (go_at_call 15; refine Kd.mono ?_; clear Kd; rintro e wr ⟨rfl, rfl⟩)
              | (go_at_call 14; refine Ks.mono ?_; clear Ks; rintro e wr ⟨rfl, rfl⟩))
            have hcell : ∀ u, (∃ o, Crew W u R T n (l + 1) (some ⟨g9, 0, none⟩) cap9 Fs Ss t o f) → u.cell? ⟨b, off + l, none⟩ = some (.int .u8 x) := fun u ⟨o, C⟩ => by rw [hxA.out]; exact hZ.kept C.old (show l < l + 1 by omega)
            have K15 : ∀ u, (∃ o, Crew W u R T n (l + 1) (some ⟨g9, 0, none⟩) cap9 Fs Ss t o f) → Calls Try.prog 15 #[.pointer (some ⟨Fs l, 0, none⟩)] u fun e w' => e = .returned (.bool true) ∧ ∃ o, Crew W w' R T n (l + 1) (some ⟨g9, 0, none⟩) cap9 Fs Ss t o f :=
              fun u ⟨o, C⟩ => (crew_done C (k := l) (by omega) true hdA.out).mono fun e w' ⟨he, hw⟩ => ⟨he, hw ▸ ⟨o, C⟩⟩
            have K17 : ∀ u, (∃ o, Crew W u R T n (l + 1) (some ⟨g9, 0, none⟩) cap9 Fs Ss t o f) → Calls Try.prog 17 #[.pointer (some ⟨T, 0, none⟩), .int .i64 (q' : Int)] u fun e w' => e = .returned (.int .u64 (x % 9 + 1)) ∧ ∃ o, Crew W w' R T n (l + 1) (some ⟨g9, 0, none⟩) cap9 Fs Ss t o f :=
              fun u ⟨o, C⟩ => (crew_at C q' hsl (x % 9 + 1) htkA.out).mono fun e w' ⟨he, hC, _⟩ => ⟨he, hC⟩
            have K20 : ∀ u, (∃ o, Crew W u R T n (l + 1) (some ⟨g9, 0, none⟩) cap9 Fs Ss t o f) → Calls Try.prog 20 #[.int .u8 x, .int .i64 9] u fun e w' => e = .returned (.int .u64 (x % 9 + 1)) ∧ ∃ o, Crew W w' R T n (l + 1) (some ⟨g9, 0, none⟩) cap9 Fs Ss t o f :=
              fun u ⟨o, C⟩ => (key_any x 9 u hzv.1 hzv.2 (by omega) (by omega)).mono fun e w' ⟨he, hw⟩ => ⟨he, hw ▸ ⟨o, C⟩⟩
            try simp only [List.append, List.setIfInBounds_toArray, List.set_cons_succ, List.set_cons_zero]
            refine wp_region_vals (fun u => ∃ o, Crew W u R T n (l + 1) (some ⟨g9, 0, none⟩) cap9 Fs Ss t o f) [(104, .pointer (some ⟨Fs l, 0, none⟩)), (105, .bool true), (106, .bool true), (107, .int .i64 0), (108, .bool true), (109, .bool true), (110, .pointer (some ⟨T, 0, none⟩)), (111, .int .i64 (q' : Int)), (112, .int .u64 (x % 9 + 1)), (113, .slice (some ⟨b, off, none⟩) (l + 1) cap), (114, .slice (some ⟨b, off, none⟩) (l + 1) cap), (115, .int .i64 ((l + 1 : Nat) : Int)), (116, .int .i64 (l : Int)), (117, .pointer (some ⟨b, off + l, none⟩)), (118, .int .u8 x), (119, .int .u64 (x % 9 + 1)), (120, .bool true), (121, .bool true), (122, .bool true), (123, undef), (124, undef), (125, undef), (126, undef), (127, undef), (128, undef), (129, undef), (130, undef), (131, .bool true), (132, .bool true), (6, .bool true)] [104, 105, 106, 107, 108, 109, 110, 111, 112, 113, 114, 115, 116, 117, 118, 119, 120, 121, 122, 123, 124, 125, 126, 127, 128, 129, 130, 131, 132, 6] 133 (by kernel_rfl) (by kernel_rfl) rfl rfl (by decide) rfl rfl ⟨o, C.drawn 1⟩ ?_ ?_
            · intro i kk hk
              match i, hk with
              | 0, hk => obtain rfl := Option.some.inj hk; exact vok_plain _ rfl rfl rfl (does_val rfl fun ac u hG hL => x_move rfl ((hG.other 14 (by decide)).trans rfl))
              | 1, hk => obtain rfl := Option.some.inj hk; exact vok_plain _ rfl rfl rfl (does_call #[.pointer (some ⟨Fs l, 0, none⟩)] rfl (fun ac u hG hL => x_call rfl (by have e0 : ac.eval (.tmp 104) = .pointer (some ⟨Fs l, 0, none⟩) := (hL ⟨0, .data⟩ (by simp) rfl _ rfl); simp only [List.map_toArray, List.map_cons, List.map_nil, e0]) (fun u => call15 _ u)) (fun u hu => K15 u hu))
              | 2, hk => obtain rfl := Option.some.inj hk; exact vok_plain _ rfl rfl rfl (does_val rfl fun ac u hG hL => x_move rfl (hL ⟨1, .data⟩ (by simp) rfl _ rfl))
              | 3, hk => obtain rfl := Option.some.inj hk; exact vok_sure _ rfl rfl 2 true 106 rfl ⟨⟨2, .guard⟩, by simp, rfl, rfl⟩ rfl (does_val rfl fun ac u hG hL => x_move rfl ((hG.other 17 (by decide)).trans rfl))
              | 4, hk => obtain rfl := Option.some.inj hk; exact vok_sure _ rfl rfl 2 true 106 rfl ⟨⟨2, .guard⟩, by simp, rfl, rfl⟩ rfl (does_val rfl fun ac u hG hL => x_bin rfl (hL ⟨3, .data⟩ (by simp) rfl _ rfl) rfl (rfl) (r_eqe _ _ true u (by decide)))
              | 5, hk => obtain rfl := Option.some.inj hk; exact vok_sure _ rfl rfl 2 true 106 rfl ⟨⟨2, .chain⟩, by simp, rfl, rfl⟩ rfl (does_val rfl fun ac u hG hL => x_move rfl (hL ⟨4, .data⟩ (by simp) rfl _ rfl))
              | 6, hk => obtain rfl := Option.some.inj hk; exact vok_sure _ rfl rfl 5 true 109 rfl ⟨⟨5, .guard⟩, by simp, rfl, rfl⟩ rfl (does_val rfl fun ac u hG hL => x_move rfl ((hG.other 9 (by decide)).trans rfl))
              | 7, hk => obtain rfl := Option.some.inj hk; exact vok_sure _ rfl rfl 5 true 109 rfl ⟨⟨5, .guard⟩, by simp, rfl, rfl⟩ rfl (does_val rfl fun ac u hG hL => x_move rfl ((hG.other 16 (by decide)).trans rfl))
              | 8, hk => obtain rfl := Option.some.inj hk; exact vok_sure _ rfl rfl 5 true 109 rfl ⟨⟨5, .chain⟩, by simp, rfl, rfl⟩ rfl (does_call #[.pointer (some ⟨T, 0, none⟩), .int .i64 (q' : Int)] rfl (fun ac u hG hL => x_call rfl (by have e0 : ac.eval (.tmp 110) = .pointer (some ⟨T, 0, none⟩) := (hL ⟨6, .data⟩ (by simp) rfl _ rfl); have e1 : ac.eval (.tmp 111) = .int .i64 (q' : Int) := (hL ⟨7, .data⟩ (by simp) rfl _ rfl); simp only [List.map_toArray, List.map_cons, List.map_nil, e0, e1]) (fun u => call17 _ u)) (fun u hu => K17 u hu))
              | 9, hk => obtain rfl := Option.some.inj hk; exact vok_sure _ rfl rfl 5 true 109 rfl ⟨⟨5, .guard⟩, by simp, rfl, rfl⟩ rfl (does_val rfl fun ac u hG hL => x_move rfl ((hG.other 1 (by decide)).trans rfl))
              | 10, hk => obtain rfl := Option.some.inj hk; exact vok_sure _ rfl rfl 5 true 109 rfl ⟨⟨5, .guard⟩, by simp, rfl, rfl⟩ rfl (does_val rfl fun ac u hG hL => x_move rfl ((hG.other 1 (by decide)).trans rfl))
              | 11, hk => obtain rfl := Option.some.inj hk; exact vok_sure _ rfl rfl 5 true 109 rfl ⟨⟨5, .guard⟩, by simp, rfl, rfl⟩ rfl (does_val rfl fun ac u hG hL => x_len39 rfl (hL ⟨10, .data⟩ (by simp) rfl _ rfl))
              | 12, hk => obtain rfl := Option.some.inj hk; exact vok_sure _ rfl rfl 5 true 109 rfl ⟨⟨5, .guard⟩, by simp, rfl, rfl⟩ rfl (does_val rfl fun ac u hG hL => x_bin rfl (hL ⟨11, .data⟩ (by simp) rfl _ rfl) rfl (rfl) (r_sub1 l u (by omega)))
              | 13, hk => obtain rfl := Option.some.inj hk; exact vok_sure _ rfl rfl 5 true 109 rfl ⟨⟨5, .guard⟩, by simp, rfl, rfl⟩ rfl (does_val rfl fun ac u hG hL => x_index39 rfl (hL ⟨9, .data⟩ (by simp) rfl _ rfl) (hL ⟨12, .data⟩ (by simp) rfl _ rfl) (show l < l + 1 by omega))
              | 14, hk => obtain rfl := Option.some.inj hk; exact vok_sure _ rfl rfl 5 true 109 rfl ⟨⟨5, .guard⟩, by simp, rfl, rfl⟩ rfl (does_val rfl fun ac u hG hL => x_load rfl (hL ⟨13, .data⟩ (by simp) rfl _ rfl) (r_load5 (hcell u hG.here)))
              | 15, hk => obtain rfl := Option.some.inj hk; exact vok_sure _ rfl rfl 5 true 109 rfl ⟨⟨5, .guard⟩, by simp, rfl, rfl⟩ rfl (does_call #[.int .u8 x, .int .i64 9] rfl (fun ac u hG hL => x_call rfl (by have e0 : ac.eval (.tmp 118) = .int .u8 x := (hL ⟨14, .data⟩ (by simp) rfl _ rfl); have e1 : ac.eval (.const (Value.int IntKind.i64 9)) = .int .i64 9 := rfl; simp only [List.map_toArray, List.map_cons, List.map_nil, e0, e1]) (fun u => call20 _ u)) (fun u hu => K20 u hu))
              | 16, hk => obtain rfl := Option.some.inj hk; exact vok_sure _ rfl rfl 5 true 109 rfl ⟨⟨5, .guard⟩, by simp, rfl, rfl⟩ rfl (does_val rfl fun ac u hG hL => x_bin rfl (hL ⟨8, .data⟩ (by simp) rfl _ rfl) (hL ⟨15, .data⟩ (by simp) rfl _ rfl) (rfl) (r_eq64 _ _ true u (by simp)))
              | 17, hk => obtain rfl := Option.some.inj hk; exact vok_sure _ rfl rfl 2 true 106 rfl ⟨⟨2, .guard⟩, by simp, rfl, rfl⟩ rfl (does_val rfl fun ac u hG hL => x_pick (b := true) rfl (hL ⟨5, .data⟩ (by simp) rfl _ rfl) (hL ⟨16, .data⟩ (by simp) rfl _ rfl))
              | 18, hk => obtain rfl := Option.some.inj hk; exact vok_sure _ rfl rfl 2 true 106 rfl ⟨⟨2, .guard⟩, by simp, rfl, rfl⟩ rfl (does_val rfl fun ac u hG hL => x_move rfl (hL ⟨17, .data⟩ (by simp) rfl _ rfl))
              | 19, hk => obtain rfl := Option.some.inj hk; exact vok_maybe _ rfl rfl 18 false 122 true rfl ⟨⟨18, .guard⟩, by simp, rfl, rfl⟩ rfl (fun _ => rfl) (fun h => absurd h (by decide))
              | 20, hk => obtain rfl := Option.some.inj hk; exact vok_maybe _ rfl rfl 18 false 122 true rfl ⟨⟨18, .guard⟩, by simp, rfl, rfl⟩ rfl (fun _ => rfl) (fun h => absurd h (by decide))
              | 21, hk => obtain rfl := Option.some.inj hk; exact vok_maybe _ rfl rfl 18 false 122 true rfl ⟨⟨18, .chain⟩, by simp, rfl, rfl⟩ rfl (fun _ => rfl) (fun h => absurd h (by decide))
              | 22, hk => obtain rfl := Option.some.inj hk; exact vok_skip _ rfl rfl 21 true 125 rfl ⟨⟨21, .guard⟩, by simp, rfl, rfl⟩ rfl
              | 23, hk => obtain rfl := Option.some.inj hk; exact vok_skip _ rfl rfl 21 true 125 rfl ⟨⟨21, .chain⟩, by simp, rfl, rfl⟩ rfl
              | 24, hk => obtain rfl := Option.some.inj hk; exact vok_skip _ rfl rfl 21 true 125 rfl ⟨⟨21, .guard⟩, by simp, rfl, rfl⟩ rfl
              | 25, hk => obtain rfl := Option.some.inj hk; exact vok_skip _ rfl rfl 21 true 125 rfl ⟨⟨21, .guard⟩, by simp, rfl, rfl⟩ rfl
              | 26, hk => obtain rfl := Option.some.inj hk; exact vok_maybe _ rfl rfl 18 false 122 true rfl ⟨⟨18, .guard⟩, by simp, rfl, rfl⟩ rfl (fun _ => rfl) (fun h => absurd h (by decide))
              | 27, hk => obtain rfl := Option.some.inj hk; exact vok_sure _ rfl rfl 2 true 106 rfl ⟨⟨2, .guard⟩, by simp, rfl, rfl⟩ rfl (does_val rfl fun ac u hG hL => x_pick (b := true) rfl (hL ⟨18, .data⟩ (by simp) rfl _ rfl) rfl)
              | 28, hk => obtain rfl := Option.some.inj hk; exact vok_plain _ rfl rfl rfl (does_val rfl fun ac u hG hL => x_pick (b := true) rfl (hL ⟨2, .data⟩ (by simp) rfl _ rfl) (hL ⟨27, .data⟩ (by simp) rfl _ rfl))
              | 29, hk => obtain rfl := Option.some.inj hk; exact vok_plain _ rfl rfl rfl (does_val rfl fun ac u hG hL => x_assign rfl (hL ⟨28, .data⟩ (by simp) rfl _ rfl))
              | i + 30, hk => simp at hk
            · rintro w7 ⟨o7, S7⟩
              simp only [vfin, Act.put, List.setIfInBounds_toArray, List.set_cons_succ, List.set_cons_zero]
              go_wp2_with fail
              go_ret
              exact ⟨rfl, S7.old⟩
          | false =>
            have hx := tells_full hf hst hfi.key
            have hcn : Aside (cnt t n = n) := cnt_full fun i hi => (hfi.all hst hf i hi).1
            have Ks := slot_is (C.fd (k := l) (by omega)) (-1) 60 (by rw [hx]) (by rw [hx])
            clear hx hf hst hfi
            go_upto_region 25 with (first
              | (go_at_call 15; refine Kd.mono ?_; clear Kd; rintro e wr ⟨rfl, rfl⟩)
              | (go_at_call 14; refine Ks.mono ?_; clear Ks; rintro e wr ⟨rfl, rfl⟩))
            have K15 : ∀ u, (∃ o, Crew W u R T n (l + 1) (some ⟨g9, 0, none⟩) cap9 Fs Ss t o f) → Calls Try.prog 15 #[.pointer (some ⟨Fs l, 0, none⟩)] u fun e w' => e = .returned (.bool true) ∧ ∃ o, Crew W w' R T n (l + 1) (some ⟨g9, 0, none⟩) cap9 Fs Ss t o f :=
              fun u ⟨o, C⟩ => (crew_done C (k := l) (by omega) true hdA.out).mono fun e w' ⟨he, hw⟩ => ⟨he, hw ▸ ⟨o, C⟩⟩
            have K16 : ∀ u, (∃ o, Crew W u R T n (l + 1) (some ⟨g9, 0, none⟩) cap9 Fs Ss t o f) → Calls Try.prog 16 #[.pointer (some ⟨T, 0, none⟩)] u fun e w' => e = .returned (.int .i64 (n : Int)) ∧ ∃ o, Crew W w' R T n (l + 1) (some ⟨g9, 0, none⟩) cap9 Fs Ss t o f :=
              fun u ⟨o, C⟩ => by
                have K := crew_len C
                rw [hcn.out] at K
                exact K.mono fun e w' ⟨he, hC, _⟩ => ⟨he, hC⟩
            try simp only [List.append, List.setIfInBounds_toArray, List.set_cons_succ, List.set_cons_zero]
            refine wp_region_vals (fun u => ∃ o, Crew W u R T n (l + 1) (some ⟨g9, 0, none⟩) cap9 Fs Ss t o f) [(104, .pointer (some ⟨Fs l, 0, none⟩)), (105, .bool true), (106, .bool true), (107, .int .i64 60), (108, .bool false), (109, .bool false), (110, undef), (111, undef), (112, undef), (113, undef), (114, undef), (115, undef), (116, undef), (117, undef), (118, undef), (119, undef), (120, undef), (121, .bool false), (122, .bool false), (123, .int .i64 60), (124, .bool true), (125, .bool true), (126, .pointer (some ⟨T, 0, none⟩)), (127, .int .i64 (n : Int)), (128, .int .i64 (n : Int)), (129, .bool true), (130, .bool true), (131, .bool true), (132, .bool true), (6, .bool true)] [104, 105, 106, 107, 108, 109, 110, 111, 112, 113, 114, 115, 116, 117, 118, 119, 120, 121, 122, 123, 124, 125, 126, 127, 128, 129, 130, 131, 132, 6] 133 (by kernel_rfl) (by kernel_rfl) rfl rfl (by decide) rfl rfl ⟨o, C.drawn 1⟩ ?_ ?_
            · intro i kk hk
              match i, hk with
              | 0, hk => obtain rfl := Option.some.inj hk; exact vok_plain _ rfl rfl rfl (does_val rfl fun ac u hG hL => x_move rfl ((hG.other 14 (by decide)).trans rfl))
              | 1, hk => obtain rfl := Option.some.inj hk; exact vok_plain _ rfl rfl rfl (does_call #[.pointer (some ⟨Fs l, 0, none⟩)] rfl (fun ac u hG hL => x_call rfl (by have e0 : ac.eval (.tmp 104) = .pointer (some ⟨Fs l, 0, none⟩) := (hL ⟨0, .data⟩ (by simp) rfl _ rfl); simp only [List.map_toArray, List.map_cons, List.map_nil, e0]) (fun u => call15 _ u)) (fun u hu => K15 u hu))
              | 2, hk => obtain rfl := Option.some.inj hk; exact vok_plain _ rfl rfl rfl (does_val rfl fun ac u hG hL => x_move rfl (hL ⟨1, .data⟩ (by simp) rfl _ rfl))
              | 3, hk => obtain rfl := Option.some.inj hk; exact vok_sure _ rfl rfl 2 true 106 rfl ⟨⟨2, .guard⟩, by simp, rfl, rfl⟩ rfl (does_val rfl fun ac u hG hL => x_move rfl ((hG.other 17 (by decide)).trans rfl))
              | 4, hk => obtain rfl := Option.some.inj hk; exact vok_sure _ rfl rfl 2 true 106 rfl ⟨⟨2, .guard⟩, by simp, rfl, rfl⟩ rfl (does_val rfl fun ac u hG hL => x_bin rfl (hL ⟨3, .data⟩ (by simp) rfl _ rfl) rfl (rfl) (r_eqe _ _ false u (by decide)))
              | 5, hk => obtain rfl := Option.some.inj hk; exact vok_sure _ rfl rfl 2 true 106 rfl ⟨⟨2, .chain⟩, by simp, rfl, rfl⟩ rfl (does_val rfl fun ac u hG hL => x_move rfl (hL ⟨4, .data⟩ (by simp) rfl _ rfl))
              | 6, hk => obtain rfl := Option.some.inj hk; exact vok_maybe _ rfl rfl 5 true 109 false rfl ⟨⟨5, .guard⟩, by simp, rfl, rfl⟩ rfl (fun _ => rfl) (fun h => absurd h (by decide))
              | 7, hk => obtain rfl := Option.some.inj hk; exact vok_maybe _ rfl rfl 5 true 109 false rfl ⟨⟨5, .guard⟩, by simp, rfl, rfl⟩ rfl (fun _ => rfl) (fun h => absurd h (by decide))
              | 8, hk => obtain rfl := Option.some.inj hk; exact vok_maybe _ rfl rfl 5 true 109 false rfl ⟨⟨5, .chain⟩, by simp, rfl, rfl⟩ rfl (fun _ => rfl) (fun h => absurd h (by decide))
              | 9, hk => obtain rfl := Option.some.inj hk; exact vok_maybe _ rfl rfl 5 true 109 false rfl ⟨⟨5, .guard⟩, by simp, rfl, rfl⟩ rfl (fun _ => rfl) (fun h => absurd h (by decide))
              | 10, hk => obtain rfl := Option.some.inj hk; exact vok_maybe _ rfl rfl 5 true 109 false rfl ⟨⟨5, .guard⟩, by simp, rfl, rfl⟩ rfl (fun _ => rfl) (fun h => absurd h (by decide))
              | 11, hk => obtain rfl := Option.some.inj hk; exact vok_maybe _ rfl rfl 5 true 109 false rfl ⟨⟨5, .guard⟩, by simp, rfl, rfl⟩ rfl (fun _ => rfl) (fun h => absurd h (by decide))
              | 12, hk => obtain rfl := Option.some.inj hk; exact vok_maybe _ rfl rfl 5 true 109 false rfl ⟨⟨5, .guard⟩, by simp, rfl, rfl⟩ rfl (fun _ => rfl) (fun h => absurd h (by decide))
              | 13, hk => obtain rfl := Option.some.inj hk; exact vok_maybe _ rfl rfl 5 true 109 false rfl ⟨⟨5, .guard⟩, by simp, rfl, rfl⟩ rfl (fun _ => rfl) (fun h => absurd h (by decide))
              | 14, hk => obtain rfl := Option.some.inj hk; exact vok_maybe _ rfl rfl 5 true 109 false rfl ⟨⟨5, .guard⟩, by simp, rfl, rfl⟩ rfl (fun _ => rfl) (fun h => absurd h (by decide))
              | 15, hk => obtain rfl := Option.some.inj hk; exact vok_maybe _ rfl rfl 5 true 109 false rfl ⟨⟨5, .guard⟩, by simp, rfl, rfl⟩ rfl (fun _ => rfl) (fun h => absurd h (by decide))
              | 16, hk => obtain rfl := Option.some.inj hk; exact vok_maybe _ rfl rfl 5 true 109 false rfl ⟨⟨5, .guard⟩, by simp, rfl, rfl⟩ rfl (fun _ => rfl) (fun h => absurd h (by decide))
              | 17, hk => obtain rfl := Option.some.inj hk; exact vok_sure _ rfl rfl 2 true 106 rfl ⟨⟨2, .guard⟩, by simp, rfl, rfl⟩ rfl (does_val rfl fun ac u hG hL => x_pick (b := false) rfl (hL ⟨5, .data⟩ (by simp) rfl _ rfl) rfl)
              | 18, hk => obtain rfl := Option.some.inj hk; exact vok_sure _ rfl rfl 2 true 106 rfl ⟨⟨2, .guard⟩, by simp, rfl, rfl⟩ rfl (does_val rfl fun ac u hG hL => x_move rfl (hL ⟨17, .data⟩ (by simp) rfl _ rfl))
              | 19, hk => obtain rfl := Option.some.inj hk; exact vok_sure _ rfl rfl 18 false 122 rfl ⟨⟨18, .guard⟩, by simp, rfl, rfl⟩ rfl (does_val rfl fun ac u hG hL => x_move rfl ((hG.other 17 (by decide)).trans rfl))
              | 20, hk => obtain rfl := Option.some.inj hk; exact vok_sure _ rfl rfl 18 false 122 rfl ⟨⟨18, .guard⟩, by simp, rfl, rfl⟩ rfl (does_val rfl fun ac u hG hL => x_bin rfl (hL ⟨19, .data⟩ (by simp) rfl _ rfl) rfl (rfl) (r_eqe _ _ true u (by decide)))
              | 21, hk => obtain rfl := Option.some.inj hk; exact vok_sure _ rfl rfl 18 false 122 rfl ⟨⟨18, .chain⟩, by simp, rfl, rfl⟩ rfl (does_val rfl fun ac u hG hL => x_move rfl (hL ⟨20, .data⟩ (by simp) rfl _ rfl))
              | 22, hk => obtain rfl := Option.some.inj hk; exact vok_sure _ rfl rfl 21 true 125 rfl ⟨⟨21, .guard⟩, by simp, rfl, rfl⟩ rfl (does_val rfl fun ac u hG hL => x_move rfl ((hG.other 9 (by decide)).trans rfl))
              | 23, hk => obtain rfl := Option.some.inj hk; exact vok_sure _ rfl rfl 21 true 125 rfl ⟨⟨21, .chain⟩, by simp, rfl, rfl⟩ rfl (does_call #[.pointer (some ⟨T, 0, none⟩)] rfl (fun ac u hG hL => x_call rfl (by have e0 : ac.eval (.tmp 126) = .pointer (some ⟨T, 0, none⟩) := (hL ⟨22, .data⟩ (by simp) rfl _ rfl); simp only [List.map_toArray, List.map_cons, List.map_nil, e0]) (fun u => call16 _ u)) (fun u hu => K16 u hu))
              | 24, hk => obtain rfl := Option.some.inj hk; exact vok_sure _ rfl rfl 21 true 125 rfl ⟨⟨21, .guard⟩, by simp, rfl, rfl⟩ rfl (does_val rfl fun ac u hG hL => x_move rfl ((hG.other 7 (by decide)).trans rfl))
              | 25, hk => obtain rfl := Option.some.inj hk; exact vok_sure _ rfl rfl 21 true 125 rfl ⟨⟨21, .guard⟩, by simp, rfl, rfl⟩ rfl (does_val rfl fun ac u hG hL => x_bin rfl (hL ⟨23, .data⟩ (by simp) rfl _ rfl) (hL ⟨24, .data⟩ (by simp) rfl _ rfl) (rfl) (r_eqi _ _ true u (by simp)))
              | 26, hk => obtain rfl := Option.some.inj hk; exact vok_sure _ rfl rfl 18 false 122 rfl ⟨⟨18, .guard⟩, by simp, rfl, rfl⟩ rfl (does_val rfl fun ac u hG hL => x_pick (b := true) rfl (hL ⟨21, .data⟩ (by simp) rfl _ rfl) (hL ⟨25, .data⟩ (by simp) rfl _ rfl))
              | 27, hk => obtain rfl := Option.some.inj hk; exact vok_sure _ rfl rfl 2 true 106 rfl ⟨⟨2, .guard⟩, by simp, rfl, rfl⟩ rfl (does_val rfl fun ac u hG hL => x_pick (b := false) rfl (hL ⟨18, .data⟩ (by simp) rfl _ rfl) (hL ⟨26, .data⟩ (by simp) rfl _ rfl))
              | 28, hk => obtain rfl := Option.some.inj hk; exact vok_plain _ rfl rfl rfl (does_val rfl fun ac u hG hL => x_pick (b := true) rfl (hL ⟨2, .data⟩ (by simp) rfl _ rfl) (hL ⟨27, .data⟩ (by simp) rfl _ rfl))
              | 29, hk => obtain rfl := Option.some.inj hk; exact vok_plain _ rfl rfl rfl (does_val rfl fun ac u hG hL => x_assign rfl (hL ⟨28, .data⟩ (by simp) rfl _ rfl))
              | i + 30, hk => simp at hk
            · rintro w7 ⟨o7, S7⟩
              simp only [vfin, Act.put, List.setIfInBounds_toArray, List.set_cons_succ, List.set_cons_zero]
              go_wp2_with fail
              go_ret
              exact ⟨rfl, S7.old⟩
        · have Kd := crew_done C (k := l) (by omega) false (decide_eq_false hst)
          have K := crew_step C (k := l) (by omega)
          have hmu2 : Aside (((Ss l).nxt n (t (Ss l).slot)).mu + 1 ≤ (Ss l).mu) := hfi.mu_step hst
          have hq3 : (q : Int) ≤ 3 * (n : Int) + 3 := by have := hQ.out; omega
          go_wp2_with (first
            | (go_at_call 15; refine Kd.mono ?_; clear Kd; rintro e wr ⟨rfl, rfl⟩)
            | (go_at_call 13; refine K.mono ?_; clear K; rintro e w5 ⟨rfl, C5, b5⟩))
          go_roundg (gk - 1)
          case measure => have := hQ.out; have := hM.out; have := hmu2.out; omega
          case rel =>
            have h1 := hQ.out
            have h2 := hM.out
            have h3 := hmu2.out
            refine ⟨q + 1, _, _, _, _, by omega, rfl, ?_, ?_, C5⟩
            · rw [setS_same]; omega
            · rw [setS_same, nxt_key]; exact hkA.out
end Go.Proofs.Ytnekhfpccmnaiaa
