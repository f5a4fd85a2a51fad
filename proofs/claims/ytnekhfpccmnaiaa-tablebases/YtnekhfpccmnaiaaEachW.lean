/-
  The walk of TableEach: for every number and seed it tells true, and old memory is as it was.
-/
import Derived.Test.YtnekhfpccmnaiaaSolo
namespace Go.Proofs.Ytnekhfpccmnaiaa
open Go Go.RowKit

theorem held_nat (n : Nat) (h : n ≤ 262144) : held (n : Int) = n := by
  unfold held
  rw [if_neg (by omega), if_neg (by omega)]
  omega
theorem tells_found {S : Fd} (h : S.found = true) : S.tells = ((S.slot : Int), 0) := by unfold Fd.tells; rw [if_pos h]
theorem tells_full {S : Fd} (h : S.found = false) (hs : S.st = 0) (hk : ¬ S.key = 0) : S.tells = (-1, 60) := by
  unfold Fd.tells
  rw [if_neg (by simp [h]), if_pos ⟨hs, hk⟩]
/-- Behind a step that is told of by another finder: the blocks of this one. -/
theorem Went.apart {P R F : Nat} {w w' : World} (k : Went (Foot P R F) w w') {B : Nat} (hB : B ≤ w.heap.size) (hP : B ≤ P) (hR : B ≤ R) (hF : B ≤ F) : Below B w w' :=
  k.below hB fun i e => by rcases e with rfl | rfl | rfl <;> assumption

/-- What is so behind i keys of TableEach. -/
structure EachI (W w : World) (P R T n i s : Nat) (t : Nat → Int) : Prop where
  sys : ∃ c o f, Sys w P R n T 0 n c o f ∧ ∀ j, c (0 + j) = t j
  good : Good n t
  many : cnt t n = i
  from_ : ∀ q, q < n → t q = 0 ∨ ∃ j, j < i ∧ t q = ((keyN s j : Nat) : Int)
  old : Below W.heap.size W w
  size : W.heap.size ≤ w.heap.size

set_option maxHeartbeats 4000000 in
set_option maxRecDepth 100000 in
theorem each_walk (z : Int) (s : Nat) (hz : 0 ≤ z ∧ z ≤ 255) (hs : s < 18446744073709551616) (W : World) :
    Calls Try.prog 3 #[.int .u8 z, .int .u64 (s : Int)] W fun e w' => e = .returned (.bool true) ∧ Below W.heap.size W w' := by
  obtain ⟨n, hn, hn1, hn2⟩ : ∃ n : Nat, z % 20 + 1 = (n : Int) ∧ 1 ≤ n ∧ n ≤ 20 := ⟨(z % 20 + 1).toNat, by omega, by omega, by omega⟩
  have K0 := known_any W
  have hsI : Aside ((s : Int) ≤ 18446744073709551615) := by simp only [Aside]; omega
  go_enter Try.func3, Try.ntmps3
  go_wp2_with (first
    | (go_at_call 9; refine K0.mono ?_; clear K0; rintro e w1 ⟨rfl, b1⟩; have K1 := new_any (n : Int) w1; rw [held_nat n (by omega)] at K1)
    | (go_at_call 10; refine K1.mono ?_; clear K1; rintro e w2 ⟨rfl, m2, b2, s2⟩; have s2A : Aside (w2.heap.size = w1.heap.size + 2) := s2; clear s2; have K2 := tab_new' m2 0 n 0 (n : Int) rfl rfl hn1 (by omega) (by omega))
    | (go_at_call 11; refine K2.mono ?_; clear K2; rintro e w3 ⟨rfl, h3, b3, s3⟩; have s3A : Aside (w3.heap.size = w2.heap.size + 1) := s3; clear s3))
  obtain ⟨T, hT⟩ : ∃ T, T = w2.heap.size := ⟨_, rfl⟩
  obtain ⟨R, hR⟩ : ∃ R, R = w1.heap.size := ⟨_, rfl⟩
  have hWA : Aside (W.heap.size ≤ R ∧ W.heap.size ≤ T) := by simp only [Aside]; have := b1.size; have := s2A.out; omega
  have start : EachI W w3 (R + 1) R T n 0 s (fun _ => 0) := by
    rw [hT, hR]
    refine ⟨⟨_, _, _, h3, fun _ => rfl⟩, Good.empty n, cnt_zero n, fun q hq => .inl rfl, far (far b1 b2 b1.size) b3 ?_, ?_⟩
    · have := b1.size; have := b2.size; omega
    · have := b1.size; have := b2.size; have := b3.size; omega
  rw [← hT, ← hR]
  clear hT hR h3 m2 b2 b3 b1 s2A s3A hn hz
  go_loopg [9] n (fun g si wr => ∃ (i : Nat) (t : Nat → Int), i + g = n ∧ si = .int .i64 (i : Int) ∧ EachI W wr (R + 1) R T n i s t)
  case atStart => exact ⟨0, _, by omega, rfl, start⟩
  case round =>
    obtain ⟨i, t, hi, rfl, E⟩ := hrel
    obtain ⟨go, hgo⟩ : ∃ go, go = gk := ⟨_, rfl⟩
    have hI : Aside (i + go = n) := by simp only [Aside]; omega
    have hin : i ≤ n := by omega
    clear hi
    obtain ⟨c, o, f, H, ht⟩ := E.sys
    have htA : Aside (∀ j, c (0 + j) = t j) := ht
    clear ht
    have hkf := key_form s i hs
    have hko := keyN_odd s i
    have hkl := keyN_lt s i
    obtain ⟨k, hk⟩ : ∃ k : Int, k = ((keyN s i : Nat) : Int) := ⟨_, rfl⟩
    have hkA : Aside (k = ((keyN s i : Nat) : Int)) := hk
    rw [← hk] at hkf
    have hk0 : 0 < k := by omega
    have hk1 : k ≤ 18446744073709551615 := by omega
    have hk2 : ¬ k = 0 := by omega
    clear hk hko hkl
    have K1 := find_any H k hk0 hk1
    have hle : (i : Int) ≤ (n : Int) := by omega
    obtain ⟨F, hF⟩ : ∃ F, F = wr.heap.size := ⟨_, rfl⟩
    rw [← hF] at K1
    have hFA : Aside (F = wr.heap.size) := hF
    clear hF
    go_wp2_with (first
      | (go_at_call 12; refine K1.mono ?_; clear K1; rintro e w4 ⟨rfl, k4, b4, s4⟩))
    have hF := hFA.out
    have hWF : Aside (W.heap.size ≤ F) := by simp only [Aside]; have := E.size; omega
    have H4 : Sys w4 (R + 1) R n T 0 n c o f := H.below (by rw [← hF]; exact b4)
    have B4 : Below W.heap.size W w4 := E.old.trans ⟨b4.os, b4.tape, b4.output, by have := b4.size; omega, fun j hj => b4.block j (by have := E.size; omega)⟩
    have Z4 : W.heap.size ≤ w4.heap.size := by have := E.size; omega
    clear hF s4
    go_loopg [12] (3 * n) (fun g si wr => ∃ (j : Nat) (S : Fd) (t' c' : Nat → Int) (o' f' : Int), j + g = 3 * n ∧ si = .int .i64 (j : Int) ∧ S.mu + j ≤ 3 * n ∧ S.key = k ∧ FI n t' S ∧ Good n t' ∧ Solo n t t' S ∧ (∀ j, c' (0 + j) = t' j) ∧ IsFd wr F T S ∧ Sys wr (R + 1) R n T 0 n c' o' f' ∧ Below W.heap.size W wr ∧ W.heap.size ≤ wr.heap.size)
    case atStart =>
      exact ⟨0, _, t, c, o, f, by omega, rfl, (FI.start hn1 t hk2).mu_le, rfl, FI.start hn1 t hk2, E.good, Solo.start n t k, htA.out, k4, H4, B4, Z4⟩
    case round =>
      obtain ⟨j, S, t', c', o', f', hj, rfl, hmu, hSk, fi, gd, so, ht', kf, H', bel, siz⟩ := hrel
      have hJ : Aside (j + gk = 3 * n) := hj
      have hM : Aside (S.mu + j ≤ 3 * n) := hmu
      clear hj hmu
      have K := step_any H' kf t' ht' fi
      have hkey : (S.nxt n (t' S.slot)).key = k := by rw [nxt_key]; exact hSk
      have fi2 := fi.step
      have gd2 := gd.step fi hn1
      have so2 := so.step fi hn1
      have hmu2 : Aside (¬ (S.nxt n (t' S.slot)).st = 0 → (S.nxt n (t' S.slot)).mu + 1 ≤ S.mu) := fun hh => fi.mu_step (fun e => hh (by rw [nxt_done _ e]; exact e))
      generalize S.nxt n (t' S.slot) = S2 at K hkey fi2 so2 hmu2
      generalize S.after t' = t2 at K gd2 fi2 so2
      have hj3 : (j : Int) < 3 * (n : Int) + 3 := by have := hJ.out; omega
      by_cases hst : S2.st = 0
      · rw [decide_eq_true hst] at K
        have hno : ∀ q, q < n → ¬ t q = S2.key := by
          intro q hq e
          rcases E.from_ q hq with h | ⟨m, hm, h⟩
          · rw [h, hkey] at e; exact hk2 e.symm
          · rw [h, hkey, hkA.out] at e
            exact keyN_ne s hm (by omega) (by omega)
        have hkey0 : ¬ S2.key = 0 := by rw [hkey]; exact hk2
        have hw := hWA.out
        by_cases hin2 : i = n
        · obtain ⟨hf, hm, hte⟩ := so2.full fi2 hn1 hno (by rw [E.many]; exact hin2)
          have hx := tells_full hf hst hkey0
          have hx1 : Aside (S2.tells.1 = -1) := by simp only [Aside]; rw [hx]
          have hx2 : Aside (S2.tells.2 = 60) := by simp only [Aside]; rw [hx]
          have hst2 : Aside (decide (S2.st = 0) = true) := decide_eq_true hst
          have hcn : Aside (cnt t2 n = n) := by simp only [Aside]; rw [hte, E.many]; exact hin2
          subst hin2
          clear hx hf hm hte hst hno hkey0 hkf hle
          have hii : ((i : Int) == (i : Int)) = true := by simp
          go_wp2_with (first
            | (go_at_call 13; refine K.mono ?_; clear K; rintro e w5 ⟨rfl, c5, h5, t5, _, k5, b5⟩; have Ks := slot_is k5 (-1) 60 hx1.out hx2.out; have Kd := done_is k5 true hst2.out; have Kl := tlen_any h5; rw [cnt_congr i (fun j _ => t5 j), hcn.out] at Kl; clear t5)
            | (go_at_call 14; refine Ks.mono ?_; clear Ks; rintro e w5 ⟨rfl, rfl⟩)
            | (go_at_call 15; refine Kd.mono ?_; clear Kd; rintro e w5 ⟨rfl, rfl⟩)
            | (go_at_call 16; refine Kl.mono ?_; clear Kl; rintro e w6 ⟨rfl, h6, b6⟩))
          go_ret
          exact ⟨rfl, below_move (below_step bel b5 (by omega) (by omega) hWF.out siz) b6 (by omega) (by omega) (Nat.le_trans siz b5.size)⟩
        · obtain ⟨hf, hm, hsl, hz0, hte⟩ := so2.room fi2 hn1 hst hno (by rw [E.many]; omega)
          have hx := tells_found hf
          have hx1 : Aside (S2.tells.1 = (S2.slot : Int)) := by simp only [Aside]; rw [hx]
          have hx2 : Aside (S2.tells.2 = 0) := by simp only [Aside]; rw [hx]
          have hst2 : Aside (decide (S2.st = 0) = true) := decide_eq_true hst
          have hcn : Aside (cnt t2 n = i + 1) := by simp only [Aside]; rw [hte, cnt_upd t hsl hz0 hkey0, E.many]
          have hmA : Aside (S2.made = true) := hm
          have htk : Aside (t2 S2.slot = k) := by simp only [Aside]; rw [hte, ← hkey]; exact upd_same _ _ _
          have hfr : Aside (∀ q, q < n → t2 q = 0 ∨ ∃ j, j < i + 1 ∧ t2 q = ((keyN s j : Nat) : Int)) := by
            intro q hq
            rw [hte]
            by_cases d : q = S2.slot
            · right
              rw [d, upd_same, hkey, hkA.out]
              exact ⟨i, by omega, rfl⟩
            · rw [upd_other _ _ d]
              rcases E.from_ q hq with h | ⟨m, hm, h⟩
              · exact .inl h
              · exact .inr ⟨m, by omega, h⟩
          generalize S2.slot = q at hx1 hsl htk
          clear hx hf hm hte hst hno hkey0 hkf hz0
          have hii : ((i : Int) == (n : Int)) = false := by simp; omega
          have hii2 : ¬ (i : Int) = (n : Int) := by omega
          have hkk : (k != k) = false := by simp
          go_wp2_with (first
            | (go_at_call 13; refine K.mono ?_; clear K; rintro e w5 ⟨rfl, c5, h5, t5, _, k5, b5⟩; have t5A : Aside (∀ j, c5 (0 + j) = t2 j) := t5; clear t5; have Ks := slot_is k5 (q : Int) 0 hx1.out hx2.out; have Kd := done_is k5 true hst2.out; have Ka := at_in h5 q hsl; rw [t5A.out, htk.out] at Ka)
            | (go_at_call 14; refine Ks.mono ?_; clear Ks; rintro e w5 ⟨rfl, rfl⟩)
            | (go_at_call 15; refine Kd.mono ?_; clear Kd; rintro e w5 ⟨rfl, rfl⟩)
            | (go_at_call 17; refine Ka.mono ?_; clear Ka; rintro e w6 ⟨rfl, h6, b6⟩; have Km := made_is (k5.moved h5.mem b6) true hmA.out; have Kl := tlen_any h6; rw [cnt_congr n (fun j _ => t5A.out j), hcn.out] at Kl)
            | (go_at_call 18; refine Km.mono ?_; clear Km; rintro e w6 ⟨rfl, rfl⟩)
            | (go_at_call 16; refine Kl.mono ?_; clear Kl; rintro e w7 ⟨rfl, ⟨o7, h7⟩, b7⟩; have Kh := has_any h7 t2 t5A.out k (Int.le_of_lt hk0) hk1 gd2)
            | (go_at_call 19; refine Kh.mono ?_; clear Kh; rintro e w8 ⟨y, ok, rfl, told, ⟨o8, h8⟩, b8⟩; obtain ⟨rfl, rfl⟩ : ok = true ∧ y = (q : Int) := by (
                rcases told with ⟨e1, s1, hs1, e2, e3⟩ | ⟨_, _, e3⟩
                · exact ⟨e1, by rw [e2, gd2.one hk2 hs1 hsl e3 htk.out]⟩
                · exact absurd htk.out (e3 hk2 q hsl))))
          go_roundg (go - 1)
          case measure => have := hI.out; omega
          case rel =>
            have hi := hI.out
            have z5 := Nat.le_trans siz b5.size
            have z6 := Nat.le_trans z5 b6.size
            have z7 := Nat.le_trans z6 b7.size
            refine ⟨i + 1, t2, by omega, rfl, ⟨⟨c5, _, _, h8, t5A.out⟩, gd2, hcn.out, hfr.out, ?_, Nat.le_trans z7 b8.size⟩⟩
            exact below_move (below_move (below_move (below_step bel b5 (by omega) (by omega) hWF.out siz) b6 (by omega) (by omega) z5) b7 (by omega) (by omega) z6) b8 (by omega) (by omega) z7
      · rw [decide_eq_false hst] at K
        go_wp2_with (first
          | (go_at_call 13; refine K.mono ?_; clear K; rintro e w5 ⟨rfl, c5, h5, t5, _, k5, b5⟩))
        go_roundg (gk - 1)
        case measure => have := hJ.out; have := hM.out; have := hmu2.out hst; omega
        case rel =>
          have hj := hJ.out
          have hm := hM.out
          have hm2 := hmu2.out hst
          have hw := hWA.out
          exact ⟨j + 1, S2, t2, c5, _, _, by omega, rfl, by omega, hkey, fi2, gd2, so2, t5, k5, h5, below_step bel b5 (by omega) (by omega) hWF.out siz, Nat.le_trans siz b5.size⟩
end Go.Proofs.Ytnekhfpccmnaiaa
