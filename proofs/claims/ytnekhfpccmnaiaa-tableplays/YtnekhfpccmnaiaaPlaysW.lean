/-
  The walk of TablePlays: for every number and row of keys it tells true, and old memory is as it was.
-/
import Derived.Test.YtnekhfpccmnaiaaOwn
import Derived.Deep.QuietTactic
import Derived.BigQuiet
import Derived.Test.YtnekhfpccmnaiaaValx
namespace Go.Proofs.Ytnekhfpccmnaiaa
open Go Go.RowKit

/-- What an argument that is a row of words holds, wherever it lies. -/
structure Words (W : World) (ad : Option Addr) (len b off : Nat) (Z : Nat → Int) : Prop where
  ad_ : 0 < len → ad = some ⟨b, off, none⟩
  lt : 0 < len → b < W.heap.size
  cell : ∀ k, k < len → W.cell? ⟨b, off + k, none⟩ = some (.int .u64 (Z k))
  val : ∀ k, k < len → 0 ≤ Z k ∧ Z k ≤ 18446744073709551615
theorem Words.kept {W w : World} {ad : Option Addr} {len b off : Nat} {Z : Nat → Int} (h : Words W ad len b off Z) (k : Below W.heap.size W w) {i : Nat} (hi : i < len) : w.cell? ⟨b, off + i, none⟩ = some (.int .u64 (Z i)) := by
  rw [k.cell (h.lt (by omega))]
  exact h.cell i hi

/-- What is so ahead of a key: the slots t, the m keys Q that are there. -/
structure PlayI (W w : World) (R T n m : Nat) (ad : Option Addr) (cap : Nat) (t Q : Nat → Int) : Prop where
  sys : ∃ c o f, Sys w (R + 1) R (n + 3) T 3 n c o f ∧ ∀ j, c (3 + j) = t j
  good : Good n t
  many : cnt t n = m
  own : OwnR 22 w W.heap.size ad m cap (fun i => .int .u64 (Q i))
  same : ∀ k, ¬ k = 0 → ((∃ s, s < n ∧ t s = k) ↔ ∃ a, a < m ∧ Q a = k)
  old : Below W.heap.size W w
  size : W.heap.size ≤ w.heap.size
theorem PlayI.drawn {W w : World} {R T n m : Nat} {ad : Option Addr} {cap : Nat} {t Q : Nat → Int} (h : PlayI W w R T n m ad cap t Q) (q : Nat) : PlayI W (w.drewN q) R T n m ad cap t Q := by
  obtain ⟨c, o, f, H, ht⟩ := h.sys
  exact ⟨⟨c, o, f, H.kept (fun _ _ => rfl), ht⟩, h.good, h.many, h.own.kept (fun _ _ => rfl), h.same, ⟨h.old.os, h.old.tape, h.old.output, h.old.size, h.old.block⟩, h.size⟩
theorem PlayI.new {W w w' : World} {R T n m : Nat} {ad : Option Addr} {cap : Nat} {t Q : Nat → Int} (h : PlayI W w R T n m ad cap t Q) (k : Below w.heap.size w w') : PlayI W w' R T n m ad cap t Q := by
  obtain ⟨c, o, f, H, ht⟩ := h.sys
  exact ⟨⟨c, o, f, H.below k, ht⟩, h.good, h.many, h.own.below k, h.same, far h.old k h.size, Nat.le_trans h.size k.size⟩
theorem PlayI.moved {W w w' : World} {R T n m : Nat} {ad : Option Addr} {cap : Nat} {t Q c : Nat → Int} {o f : Int} (h : PlayI W w R T n m ad cap t Q) (H : Sys w' (R + 1) R (n + 3) T 3 n c o f) (ht : ∀ j, c (3 + j) = t j) (k : Moved (R + 1) R w w') (hw : W.heap.size ≤ R) : PlayI W w' R T n m ad cap t Q := by
  obtain ⟨c0, o0, f0, H0, _⟩ := h.sys
  exact ⟨⟨c, o, f, H, ht⟩, h.good, h.many, h.own.moved (.inr (.inl rfl)) H0 k, h.same, below_move h.old k (by omega) hw h.size, Nat.le_trans h.size k.size⟩
/-- Whether key k is among the first j. -/
def among (Q : Nat → Int) (k : Int) : Nat → Bool
  | 0 => false
  | j + 1 => among Q k j || Q j == k
theorem among_iff (Q : Nat → Int) (k : Int) (j : Nat) : among Q k j = true ↔ ∃ a, a < j ∧ Q a = k := by
  induction j with
  | zero => simp [among]
  | succ j ih =>
    simp only [among, Bool.or_eq_true, ih, beq_iff_eq]
    constructor
    · rintro (⟨a, h1, h2⟩ | h)
      · exact ⟨a, by omega, h2⟩
      · exact ⟨j, by omega, h⟩
    · rintro ⟨a, h1, h2⟩
      by_cases e : a = j
      · right; rw [← e]; exact h2
      · left; exact ⟨a, by omega, h2⟩

/-- What is so behind a finder's run: the slots t, the m keys Q that were there, the finder at F. -/
structure PlayS (W w : World) (R T n m : Nat) (ad : Option Addr) (cap : Nat) (t Q : Nat → Int) (F : Nat) (S : Fd) : Prop where
  sys : ∃ c o f, Sys w (R + 1) R (n + 3) T 3 n c o f ∧ ∀ j, c (3 + j) = t j
  good : Good n t
  own : OwnR 22 w W.heap.size ad m cap (fun i => .int .u64 (Q i))
  fd : IsFd w F T S
  old : Below W.heap.size W w
  size : W.heap.size ≤ w.heap.size
  hR : W.heap.size ≤ R
section
variable {W w w' : World} {R T n m cap F : Nat} {ad : Option Addr} {t Q : Nat → Int} {S : Fd}
theorem PlayS.drawn (h : PlayS W w R T n m ad cap t Q F S) : PlayS W w.drew R T n m ad cap t Q F S := by
  obtain ⟨c, o, f, H, ht⟩ := h.sys
  exact ⟨⟨c, o, f, H.kept (fun _ _ => rfl), ht⟩, h.good, h.own.kept (fun _ _ => rfl), h.fd.kept rfl, ⟨h.old.os, h.old.tape, h.old.output, h.old.size, h.old.block⟩, h.size, h.hR⟩
theorem PlayS.moved {c : Nat → Int} {o f : Int} (h : PlayS W w R T n m ad cap t Q F S) (H : Sys w' (R + 1) R (n + 3) T 3 n c o f) (ht : ∀ j, c (3 + j) = t j) (k : Moved (R + 1) R w w') : PlayS W w' R T n m ad cap t Q F S := by
  obtain ⟨c0, o0, f0, H0, _⟩ := h.sys
  exact ⟨⟨c, o, f, H, ht⟩, h.good, h.own.moved (.inr (.inl rfl)) H0 k, h.fd.moved H0.mem k, below_move h.old k (by have := h.hR; omega) h.hR h.size, Nat.le_trans h.size k.size, h.hR⟩
theorem PlayS.new (h : PlayS W w R T n m ad cap t Q F S) (k : Below w.heap.size w w') : PlayS W w' R T n m ad cap t Q F S := by
  obtain ⟨c, o, f, H, ht⟩ := h.sys
  exact ⟨⟨c, o, f, H.below k, ht⟩, h.good, h.own.below k, h.fd.below k, far h.old k h.size, Nat.le_trans h.size k.size, h.hR⟩
theorem playS_at (h : PlayS W w R T n m ad cap t Q F S) (s : Nat) (hs : s < n) (x : Int) (hx : t s = x) :
    Calls Try.prog 17 #[.pointer (some ⟨T, 0, none⟩), .int .i64 (s : Int)] w fun e w' => e = .returned (.int .u64 x) ∧ PlayS W w' R T n m ad cap t Q F S := by
  obtain ⟨c, o, f, H, ht⟩ := h.sys
  have K := at_in H s hs
  rw [ht, hx] at K
  refine K.mono ?_
  rintro e w' ⟨rfl, H', b'⟩
  exact ⟨rfl, h.moved H' ht b'⟩
theorem playS_made (h : PlayS W w R T n m ad cap t Q F S) (b : Bool) (hb : S.made = b) :
    Calls Try.prog 18 #[.pointer (some ⟨F, 0, none⟩)] w fun e w' => e = .returned (.bool b) ∧ PlayS W w' R T n m ad cap t Q F S := by
  refine (made_is h.fd b hb).mono ?_
  rintro e w ⟨rfl, rfl⟩
  exact ⟨rfl, h⟩
theorem playS_len (h : PlayS W w R T n m ad cap t Q F S) (x : Nat) (hx : cnt t n = x) :
    Calls Try.prog 16 #[.pointer (some ⟨T, 0, none⟩)] w fun e w' => e = .returned (.int .i64 (x : Int)) ∧ PlayS W w' R T n m ad cap t Q F S := by
  obtain ⟨c, o, f, H, ht⟩ := h.sys
  have K := tlen_any H
  rw [cnt_congr n (fun i _ => ht i), hx] at K
  refine K.mono ?_
  rintro e w' ⟨rfl, ⟨o', H'⟩, b'⟩
  exact ⟨rfl, h.moved H' ht b'⟩
theorem playS_has (h : PlayS W w R T n m ad cap t Q F S) (k : Int) (h0 : 0 ≤ k) (h1 : k ≤ 18446744073709551615) :
    Calls Try.prog 19 #[.pointer (some ⟨T, 0, none⟩), .int .u64 k] w fun e w' => ∃ (y : Int) (ok : Bool), e = .returned (.tuple #[.int .i64 y, .bool ok]) ∧ Told n t k y ok ∧ PlayS W w' R T n m ad cap t Q F S := by
  obtain ⟨c, o, f, H, ht⟩ := h.sys
  refine (has_any H t ht k h0 h1 h.good).mono ?_
  rintro e w' ⟨y, ok, rfl, told, ⟨o', H'⟩, b'⟩
  exact ⟨y, ok, rfl, told, h.moved H' ht b'⟩
theorem told_hit {y : Int} {ok : Bool} {k : Int} {x : Nat} (h : Told n t k y ok) (g : Good n t) (hk : ¬ k = 0) (hx : x < n) (e : t x = k) : ok = true ∧ y = (x : Int) := by
  rcases h with ⟨e1, s1, hs1, e2, e3⟩ | ⟨_, _, e3⟩
  · exact ⟨e1, by rw [e2, g.one hk hs1 hx e3 e]⟩
  · exact absurd e (e3 hk x hx)
theorem told_miss {y : Int} {ok : Bool} {k : Int} (h : Told n t k y ok) (hno : ∀ s, s < n → ¬ t s = k) : ok = false ∧ y = -1 := by
  rcases h with ⟨e1, s1, hs1, e2, e3⟩ | ⟨e1, e2, _⟩
  · exact absurd e3 (hno s1 hs1)
  · exact ⟨e1, e2⟩
theorem PlayS.appended {w2 : World} {g cap' : Nat} {k : Int} (h : PlayS W w R T n m ad cap t Q F S) (o : OwnR 22 w2 W.heap.size (some ⟨g, 0, none⟩) (m + 1) cap' (fun i => if i = m then .int .u64 k else .int .u64 (Q i))) (b : Went (At ad) w w2) : PlayS W w2 R T n (m + 1) (some ⟨g, 0, none⟩) cap' t (fun a => if a = m then k else Q a) F S := by
  obtain ⟨c, o', f, H, ht⟩ := h.sys
  refine ⟨⟨c, o', f, H.row h.own (.inr (.inl rfl)) b, ht⟩, h.good, o.congr fun i _ => ?_, h.fd.row h.own (.inr (.inl rfl)) b, h.old.trans (b.below h.size fun q hq => (h.own.block q hq).1), Nat.le_trans h.size b.size, h.hR⟩
  by_cases d : i = m <;> simp only [d, if_true, if_false]
theorem PlayS.back (h : PlayS W w R T n m ad cap t Q F S) (hm : cnt t n = m) (hs : ∀ k, ¬ k = 0 → ((∃ s, s < n ∧ t s = k) ↔ ∃ a, a < m ∧ Q a = k)) : PlayI W w R T n m ad cap t Q :=
  ⟨h.sys, h.good, hm, h.own, hs, h.old, h.size⟩
end

set_option maxRecDepth 100000 in
theorem plays_long (z : Int) (ad : Option Addr) (len cap : Nat) (W : World) (hlen : 40 < len) :
    Calls Try.prog 5 #[.int .u8 z, .slice ad len cap] W fun e w' => e = .returned (.bool true) ∧ Below W.heap.size W w' := by
  have K0 := known_any W
  have hd : decide (40 < (len : Int)) = true := by simp; omega
  go_enter Try.func5, Try.ntmps5
  go_wp2_with (first
    | (go_at_call 9; refine K0.mono ?_; clear K0; rintro e w1 ⟨rfl, b1⟩))
  go_ret
  exact ⟨rfl, b1⟩

set_option maxHeartbeats 4000000 in
set_option maxRecDepth 100000 in
theorem plays_walk (z : Int) (ad : Option Addr) (len cap b off : Nat) (Y : Nat → Int) (W : World) (hz : 0 ≤ z ∧ z ≤ 255) (hY : Words W ad len b off Y) (hlen : len ≤ 40) :
    Calls Try.prog 5 #[.int .u8 z, .slice ad len cap] W fun e w' => e = .returned (.bool true) ∧ Below W.heap.size W w' := by
  obtain ⟨n, hn, hn1, hn2⟩ : ∃ n : Nat, z % 16 + 1 = (n : Int) ∧ 1 ≤ n ∧ n ≤ 16 := ⟨(z % 16 + 1).toNat, by omega, by omega, by omega⟩
  have K0 := known_any W
  have hd : decide (40 < (len : Int)) = false := by simp; omega
  have hd2 : ¬ 40 < len := by omega
  have hh : held ((n : Int) + 3) = n + 3 := by have := held_nat (n + 3) (by omega); push_cast at this; exact this
  go_enter Try.func5, Try.ntmps5
  go_wp2_with (first
    | (go_at_call 9; refine K0.mono ?_; clear K0; rintro e w1 ⟨rfl, b1⟩; have K1 := new_any ((n : Int) + 3) w1; rw [hh] at K1)
    | (go_at_call 10; refine K1.mono ?_; clear K1; rintro e w2 ⟨rfl, m2, b2, s2⟩; have s2A : Aside (w2.heap.size = w1.heap.size + 2) := s2; clear s2; have K2 := tab_new' m2 3 n 3 (n : Int) rfl rfl hn1 (by omega) (by omega))
    | (go_at_call 11; refine K2.mono ?_; clear K2; rintro e w3 ⟨rfl, h3, b3, s3⟩; have s3A : Aside (w3.heap.size = w2.heap.size + 1) := s3; clear s3; have K3 := slots_any h3)
    | (go_at_call 23; refine K3.mono ?_; clear K3; rintro e w3 ⟨rfl, rfl⟩))
  obtain ⟨T, hT⟩ : ∃ T, T = w2.heap.size := ⟨_, rfl⟩
  obtain ⟨R, hR⟩ : ∃ R, R = w1.heap.size := ⟨_, rfl⟩
  have hWA : Aside (W.heap.size ≤ R ∧ W.heap.size ≤ T) := by simp only [Aside]; have := b1.size; have := s2A.out; omega
  have start : PlayI W w3 R T n 0 none 0 (fun _ => 0) (fun _ => 0) := by
    have q1 := b1.size
    have q2 := s2A.out
    have q3 := s3A.out
    rw [hT, hR]
    refine ⟨⟨_, _, _, h3, fun _ => rfl⟩, Good.empty n, cnt_zero n, OwnR.nil _ _ _ _, fun k hk => ⟨?_, ?_⟩, far (far b1 b2 b1.size) b3 (by omega), by omega⟩
    · rintro ⟨s, _, e⟩; exact absurd e.symm hk
    · rintro ⟨a, h, _⟩; omega
  rw [← hT, ← hR]
  clear hT hR h3 m2 b2 b3 b1 s2A s3A hn hz hh
  go_loopg [9, 10] len (fun g st si wr => ∃ (i m cap9 : Nat) (ad9 : Option Addr) (t Q : Nat → Int), i + g = len ∧ si = .int .i64 (i : Int) ∧ st = .slice ad9 m cap9 ∧ PlayI W wr R T n m ad9 cap9 t Q)
  case atStart => exact ⟨0, 0, 0, none, _, _, by omega, rfl, rfl, start⟩
  case round =>
    obtain ⟨i, m, cap9, ad9, t, Q, hi, rfl, rfl, E⟩ := hrel
    obtain ⟨go, hgo⟩ : ∃ go, go = gk := ⟨_, rfl⟩
    have hI : Aside (i + go = len) := by simp only [Aside]; omega
    clear hi start
    have hmn : m ≤ n := by rw [← E.many]; exact cnt_le t n
    by_cases hil : i < len
    · have hil' : (i : Int) < (len : Int) := by omega
      obtain rfl := hY.ad_ (by omega)
      obtain ⟨k, hk⟩ : ∃ k, k = Y i := ⟨_, rfl⟩
      have hkv : 0 ≤ k ∧ k ≤ 18446744073709551615 := by rw [hk]; exact hY.val i hil
      have hcell : Aside (∀ w, Below W.heap.size W w → w.cell? ⟨b, off + i, none⟩ = some (.int .u64 k)) := fun w h => by rw [hk]; exact hY.kept h hil
      clear hk
      go_wp2_with fail
      go_loopg [11, 12] m (fun g sb sj wr => ∃ (j : Nat), j + g = m ∧ sb = .bool (among Q k j) ∧ sj = .int .i64 (j : Int) ∧ PlayI W wr R T n m ad9 cap9 t Q)
      case atStart => exact ⟨0, by omega, rfl, rfl, E⟩
      case round =>
        clear E
        obtain ⟨j, hj, rfl, rfl, E⟩ := hrel
        have hJ : Aside (j + gk = m) := hj
        clear hj
        have hc := hcell.out wr E.old
        by_cases hjm : j < m
        · have hjm' : (j : Int) < (m : Int) := by omega
          obtain ⟨g9, rfl⟩ := E.own.form (by omega)
          have hq := E.own.cell hjm
          have hs : Aside (among Q k (j + 1) = (among Q k j || Q j == k)) := rfl
          generalize among Q k j = bb at hs
          generalize Q j = x at hs hq
          cases bb with
          | true =>
            go_wp2_with fail
            go_quiet (fail)
            go_wp2_with fail
            go_roundg (gk - 1)
            case measure => have := hJ.out; omega
            case rel =>
              have hj := hJ.out
              exact ⟨j + 1, by omega, by rw [hs.out]; rfl, rfl, E.drawn _⟩
          | false =>
            have hd0 : decide ((0 : Int) ≤ (j : Int)) = true := by simp
            go_wp2_with fail
            go_quiet (fail)
            go_wp2_with fail
            go_roundg (gk - 1)
            case measure => have := hJ.out; omega
            case rel =>
              have hj := hJ.out
              exact ⟨j + 1, by omega, by rw [hs.out]; rfl, rfl, E.drawn _⟩
        · obtain rfl : j = m := by have := hJ.out; omega
          clear hJ
          have hinA : Aside (among Q k j = true ↔ ∃ a, a < j ∧ Q a = k) := among_iff Q k j
          generalize among Q k j = bin at hinA
          obtain ⟨c, o, f, H, ht⟩ := E.sys
          have htA : Aside (∀ j, c (3 + j) = t j) := ht
          clear ht
          obtain ⟨F, hF⟩ : ∃ F, F = wr.heap.size := ⟨_, rfl⟩
          have hFA : Aside (F = wr.heap.size) := hF
          have hw := hWA.out.1
          have hWF : Aside (W.heap.size ≤ F) := by simp only [Aside]; have := E.size; omega
          by_cases hk0 : k = 0
          · subst hk0
            have K1 := find_zero H
            rw [← hF] at K1
            clear hF
            go_wp2_with (first
              | (go_at_call 12; refine K1.mono ?_; clear K1; rintro e w4 ⟨rfl, k4, b4, s4⟩))
            have E4 := E.new (by rw [← hFA.out]; exact b4)
            clear E H s4 b4
            go_loopg [14] 0 (fun g sk wr => sk = .int .i64 0 ∧ IsFd wr F T (Fd.none n) ∧ PlayI W wr R T n j ad9 cap9 t Q)
            case atStart => exact ⟨rfl, k4, E4⟩
            case round =>
              clear k4 E4
              obtain ⟨rfl, kf, E⟩ := hrel
              obtain ⟨c, o, f, H, ht⟩ := E.sys
              have htA : Aside (∀ j, c (3 + j) = t j) := ht
              have hc := hcell.out wr E.old
              have K1 := step_off kf rfl
              have K2 := slot_is kf (-1) 61 rfl rfl
              have K3 := done_is kf true rfl
              have K4 := has_any H t ht 0 (by omega) (by omega) E.good
              have hj3 : (0 : Int) < 3 * (n : Int) + 3 := by omega
              have hmA : Aside (cnt t n = j) := E.many
              go_wp2_with (first
                | (go_at_call 13; refine K1.mono ?_; clear K1; rintro e wr ⟨rfl, rfl⟩)
                | (go_at_call 14; refine K2.mono ?_; clear K2; rintro e wr ⟨rfl, rfl⟩)
                | (go_at_call 15; refine K3.mono ?_; clear K3; rintro e wr ⟨rfl, rfl⟩)
                | (go_at_call 19; refine K4.mono ?_; clear K4; rintro e w5 ⟨y, ok, rfl, told, ⟨o5, h5⟩, b5⟩; have E5 := E.moved h5 htA.out b5 hw; have hc5 := hcell.out w5 E5.old; have K5 := tlen_any h5; rw [cnt_congr n (fun i _ => htA.out i), hmA.out] at K5)
                | (go_at_call 16; refine K5.mono ?_; clear K5; rintro e w6 ⟨rfl, ⟨o6, h6⟩, b6⟩; have E6 := E5.moved h6 htA.out b6 hw))
              go_roundg (go - 1)
              case measure => have := hI.out; omega
              case rel =>
                have hi := hI.out
                exact ⟨i + 1, j, cap9, ad9, t, Q, by omega, rfl, rfl, E6⟩
          · have hk1 : 0 < k := by omega
            have K1 := find_any H k hk1 hkv.2
            rw [← hF] at K1
            clear hF
            go_wp2_with (first
              | (go_at_call 12; refine K1.mono ?_; clear K1; rintro e w4 ⟨rfl, k4, b4, s4⟩))
            have b4' : Below wr.heap.size wr w4 := by rw [← hFA.out]; exact b4
            have H4 := H.below b4'
            have O4 := E.own.below b4'
            have B4 := far E.old b4' E.size
            have Z4 := Nat.le_trans E.size b4'.size
            have E0 := E
            clear E H s4 b4 b4'
            go_loopg [14] (3 * n) (fun g si wr => ∃ (q : Nat) (S : Fd) (t' c' : Nat → Int) (o' f' : Int), q + g = 3 * n ∧ si = .int .i64 (q : Int) ∧ S.mu + q ≤ 3 * n ∧ S.key = k ∧ FI n t' S ∧ Good n t' ∧ Solo n t t' S ∧ (∀ j, c' (3 + j) = t' j) ∧ IsFd wr F T S ∧ Sys wr (R + 1) R (n + 3) T 3 n c' o' f' ∧ OwnR 22 wr W.heap.size ad9 j cap9 (fun i => .int .u64 (Q i)) ∧ Below W.heap.size W wr ∧ W.heap.size ≤ wr.heap.size)
            case atStart =>
              exact ⟨0, _, t, c, o, f, by omega, rfl, (FI.start hn1 t hk0).mu_le, rfl, FI.start hn1 t hk0, E0.good, Solo.start n t k, htA.out, k4, H4, O4, B4, Z4⟩
            case round =>
              clear k4 H4 O4 B4 Z4
              obtain ⟨q, S, t', c', o', f', hq, rfl, hmu, hSk, fi, gd, so, ht', kf, H', own, bel, siz⟩ := hrel
              have hJ : Aside (q + gk = 3 * n) := hq
              have hM : Aside (S.mu + q ≤ 3 * n) := hmu
              clear hq hmu
              have K := step_any H' kf t' ht' fi
              clear ht'
              have hkey : (S.nxt n (t' S.slot)).key = k := by rw [nxt_key]; exact hSk
              have fi2 := fi.step
              have gd2 := gd.step fi hn1
              have so2 := so.step fi hn1
              have hmu2 : Aside (¬ (S.nxt n (t' S.slot)).st = 0 → (S.nxt n (t' S.slot)).mu + 1 ≤ S.mu) := fun hh => fi.mu_step (fun e => hh (by rw [nxt_done _ e]; exact e))
              generalize S.nxt n (t' S.slot) = S2 at K hkey fi2 so2 hmu2
              generalize S.after t' = t2 at K gd2 fi2 so2
              have hj3 : (q : Int) < 3 * (n : Int) + 3 := by have := hJ.out; omega
              by_cases hst : S2.st = 0
              · rw [decide_eq_true hst] at K
                have hst2 : Aside (decide (S2.st = 0) = true) := decide_eq_true hst
                have hkey0 : ¬ S2.key = 0 := by rw [hkey]; exact hk0
                by_cases hin : ∃ s, s < n ∧ t s = k
                · -- the key is there
                  obtain ⟨sl, hsl, hsk⟩ := hin
                  have hbin : bin = true := hinA.out.2 ((E0.same k hk0).1 ⟨sl, hsl, hsk⟩)
                  subst hbin
                  obtain ⟨hf, hm, hte⟩ := so2.there fi2 gd2 hst hsl (by rw [hkey]; exact hsk)
                  have hx := tells_found hf
                  have hx1 : Aside (S2.tells.1 = (S2.slot : Int)) := by simp only [Aside]; rw [hx]
                  have hx2 : Aside (S2.tells.2 = 0) := by simp only [Aside]; rw [hx]
                  have hmA : Aside (S2.made = false) := hm
                  obtain ⟨_, hleft, htk⟩ := fi2.found hf
                  have hsl2 := fi2.slot_lt hn1 hleft
                  rw [hkey] at htk
                  have htkA : Aside (t2 S2.slot = k) := htk
                  generalize S2.slot = x at hx1 hsl2 htkA
                  have hkk : (k != k) = false := by simp
                  have hkz : (k == 0) = false := by simpa using hk0
                  have hkz2 : (k != 0) = true := by simpa using hk0
                  have hteA : Aside (t2 = t) := hte
                  have hcA : Aside (cnt t2 n = j) := by simp only [Aside]; rw [hte]; exact E0.many
                  clear hx hf hm hte hst hkey0 htk hleft hsk hsl
                  go_upto_region 32 with (first
                    | (go_at_call 13; refine K.mono ?_; clear K; rintro e w5 ⟨rfl, c5, h5, t5, _, k5, b5⟩; have P5 : PlayS W w5 R T n j ad9 cap9 t2 Q F S2 := ⟨⟨c5, _, _, h5, t5⟩, gd2, own.went (.inr (.inl rfl)) H' kf b5, k5, below_step bel b5 (by omega) (by omega) hWF.out siz, Nat.le_trans siz b5.size, hw⟩; clear t5; have Ks := slot_is k5 (x : Int) 0 hx1.out hx2.out; have Kd := done_is k5 true hst2.out; have hc5 := hcell.out w5 P5.old)
                    | (go_at_call 14; refine Ks.mono ?_; clear Ks; rintro e w5 ⟨rfl, rfl⟩)
                    | (go_at_call 15; refine Kd.mono ?_; clear Kd; rintro e w5 ⟨rfl, rfl⟩))
                  try simp only [List.append, List.setIfInBounds_toArray, List.set_cons_succ, List.set_cons_zero]
                  refine wp_region_vals (fun u => PlayS W u R T n j ad9 cap9 t2 Q F S2) [(126, .int .i64 0), (127, .bool false), (128, .bool false), (129, .pointer (some ⟨T, 0, none⟩)), (130, .int .i64 (x : Int)), (131, .int .u64 k), (132, .slice (some ⟨b, off, none⟩) len cap), (133, .int .i64 (i : Int)), (134, .pointer (some ⟨b, off + i, none⟩)), (135, .int .u64 k), (136, .bool false), (137, .bool false), (138, .bool false), (139, .pointer (some ⟨F, 0, none⟩)), (140, .bool false), (141, .bool true), (142, .bool false), (143, .bool false), (144, .bool false)] [126, 127, 128, 129, 130, 131, 132, 133, 134, 135, 136, 137, 138, 139, 140, 141, 142, 143, 144] 205 (by kernel_rfl) (by kernel_rfl) rfl rfl (by decide) rfl rfl P5.drawn ?_ ?_
                  · intro i kk hk
                    match i, hk with
                    | 0, hk => obtain rfl := Option.some.inj hk; exact vok_plain _ rfl rfl rfl (does_val rfl fun ac u hG hL => x_move rfl ((hG.other 16 (by decide)).trans rfl))
                    | 1, hk => obtain rfl := Option.some.inj hk; exact vok_plain _ rfl rfl rfl (does_val rfl fun ac u hG hL => x_bin rfl (hL ⟨0, .data⟩ (by simp) rfl _ rfl) rfl (rfl) (r_nee _ _ false u (by decide)))
                    | 2, hk => obtain rfl := Option.some.inj hk; exact vok_plain _ rfl rfl rfl (does_val rfl fun ac u hG hL => x_move rfl (hL ⟨1, .data⟩ (by simp) rfl _ rfl))
                    | 3, hk => obtain rfl := Option.some.inj hk; exact vok_sure _ rfl rfl 2 false 128 rfl ⟨⟨2, .guard⟩, by simp, rfl, rfl⟩ rfl (does_val rfl fun ac u hG hL => x_move rfl ((hG.other 7 (by decide)).trans rfl))
                    | 4, hk => obtain rfl := Option.some.inj hk; exact vok_sure _ rfl rfl 2 false 128 rfl ⟨⟨2, .guard⟩, by simp, rfl, rfl⟩ rfl (does_val rfl fun ac u hG hL => x_move rfl ((hG.other 15 (by decide)).trans rfl))
                    | 5, hk => obtain rfl := Option.some.inj hk; exact vok_sure _ rfl rfl 2 false 128 rfl ⟨⟨2, .chain⟩, by simp, rfl, rfl⟩ rfl (does_call #[.pointer (some ⟨T, 0, none⟩), .int .i64 (x : Int)] rfl (fun ac u hG hL => x_call rfl (by have e0 : ac.eval (.tmp 129) = .pointer (some ⟨T, 0, none⟩) := (hL ⟨3, .data⟩ (by simp) rfl _ rfl); have e1 : ac.eval (.tmp 130) = .int .i64 (x : Int) := (hL ⟨4, .data⟩ (by simp) rfl _ rfl); simp only [List.map_toArray, List.map_cons, List.map_nil, e0, e1]) (fun u => call17 _ u)) (fun u hu => playS_at hu x hsl2 k htkA.out))
                    | 6, hk => obtain rfl := Option.some.inj hk; exact vok_sure _ rfl rfl 2 false 128 rfl ⟨⟨2, .guard⟩, by simp, rfl, rfl⟩ rfl (does_val rfl fun ac u hG hL => x_move rfl ((hG.other 1 (by decide)).trans rfl))
                    | 7, hk => obtain rfl := Option.some.inj hk; exact vok_sure _ rfl rfl 2 false 128 rfl ⟨⟨2, .guard⟩, by simp, rfl, rfl⟩ rfl (does_val rfl fun ac u hG hL => x_move rfl ((hG.other 10 (by decide)).trans rfl))
                    | 8, hk => obtain rfl := Option.some.inj hk; exact vok_sure _ rfl rfl 2 false 128 rfl ⟨⟨2, .guard⟩, by simp, rfl, rfl⟩ rfl (does_val rfl fun ac u hG hL => x_index45 rfl (hL ⟨6, .data⟩ (by simp) rfl _ rfl) (hL ⟨7, .data⟩ (by simp) rfl _ rfl) hil)
                    | 9, hk => obtain rfl := Option.some.inj hk; exact vok_sure _ rfl rfl 2 false 128 rfl ⟨⟨2, .guard⟩, by simp, rfl, rfl⟩ rfl (does_val rfl fun ac u hG hL => x_load rfl (hL ⟨8, .data⟩ (by simp) rfl _ rfl) (r_load22 (hcell.out u hG.here.old)))
                    | 10, hk => obtain rfl := Option.some.inj hk; exact vok_sure _ rfl rfl 2 false 128 rfl ⟨⟨2, .guard⟩, by simp, rfl, rfl⟩ rfl (does_val rfl fun ac u hG hL => x_bin rfl (hL ⟨5, .data⟩ (by simp) rfl _ rfl) (hL ⟨9, .data⟩ (by simp) rfl _ rfl) (rfl) (r_ne64 _ _ false u (by simp)))
                    | 11, hk => obtain rfl := Option.some.inj hk; exact vok_plain _ rfl rfl rfl (does_val rfl fun ac u hG hL => x_pick (b := false) rfl (hL ⟨2, .data⟩ (by simp) rfl _ rfl) (hL ⟨10, .data⟩ (by simp) rfl _ rfl))
                    | 12, hk => obtain rfl := Option.some.inj hk; exact vok_plain _ rfl rfl rfl (does_val rfl fun ac u hG hL => x_move rfl (hL ⟨11, .data⟩ (by simp) rfl _ rfl))
                    | 13, hk => obtain rfl := Option.some.inj hk; exact vok_sure _ rfl rfl 12 false 138 rfl ⟨⟨12, .guard⟩, by simp, rfl, rfl⟩ rfl (does_val rfl fun ac u hG hL => x_move rfl ((hG.other 13 (by decide)).trans rfl))
                    | 14, hk => obtain rfl := Option.some.inj hk; exact vok_sure _ rfl rfl 12 false 138 rfl ⟨⟨12, .chain⟩, by simp, rfl, rfl⟩ rfl (does_call #[.pointer (some ⟨F, 0, none⟩)] rfl (fun ac u hG hL => x_call rfl (by have e0 : ac.eval (.tmp 139) = .pointer (some ⟨F, 0, none⟩) := (hL ⟨13, .data⟩ (by simp) rfl _ rfl); simp only [List.map_toArray, List.map_cons, List.map_nil, e0]) (fun u => call18 _ u)) (fun u hu => playS_made hu false hmA.out))
                    | 15, hk => obtain rfl := Option.some.inj hk; exact vok_sure _ rfl rfl 12 false 138 rfl ⟨⟨12, .guard⟩, by simp, rfl, rfl⟩ rfl (does_val rfl fun ac u hG hL => x_move rfl ((hG.other 11 (by decide)).trans rfl))
                    | 16, hk => obtain rfl := Option.some.inj hk; exact vok_sure _ rfl rfl 12 false 138 rfl ⟨⟨12, .guard⟩, by simp, rfl, rfl⟩ rfl (does_val rfl fun ac u hG hL => x_un rfl (hL ⟨15, .data⟩ (by simp) rfl _ rfl) (r_not true u))
                    | 17, hk => obtain rfl := Option.some.inj hk; exact vok_sure _ rfl rfl 12 false 138 rfl ⟨⟨12, .guard⟩, by simp, rfl, rfl⟩ rfl (does_val rfl fun ac u hG hL => x_bin rfl (hL ⟨14, .data⟩ (by simp) rfl _ rfl) (hL ⟨16, .data⟩ (by simp) rfl _ rfl) (rfl) (r_neb _ _ false u rfl))
                    | 18, hk => obtain rfl := Option.some.inj hk; exact vok_plain _ rfl rfl rfl (does_val rfl fun ac u hG hL => x_pick (b := false) rfl (hL ⟨12, .data⟩ (by simp) rfl _ rfl) (hL ⟨17, .data⟩ (by simp) rfl _ rfl))
                    | i + 19, hk => simp at hk
                  · intro w7 P7
                    simp only [vfin, Act.put, List.setIfInBounds_toArray, List.set_cons_succ, List.set_cons_zero]
                    have hc7 := hcell.out w7 P7.old
                    have Kh := playS_has P7 k hkv.1 hkv.2
                    go_wp2_with (first
                      | (go_at_call 19; refine Kh.mono ?_; clear Kh; rintro e w8 ⟨y, ok, rfl, told, P8⟩; obtain ⟨rfl, rfl⟩ := told_hit told gd2 hk0 hsl2 htkA.out; have hc8 := hcell.out w8 P8.old; have Kl := playS_len P8 j hcA.out)
                      | (go_at_call 16; refine Kl.mono ?_; clear Kl; rintro e w9 ⟨rfl, P9⟩))
                    go_roundg (go - 1)
                    case measure => have := hI.out; omega
                    case rel =>
                      have hi := hI.out
                      exact ⟨i + 1, j, cap9, ad9, t2, Q, by omega, rfl, rfl, P9.back hcA.out (by rw [hteA.out]; exact E0.same)⟩
                · have hno : ∀ s, s < n → ¬ t s = S2.key := fun s hs e => hin ⟨s, hs, by rw [e]; exact hkey⟩
                  have hbin : bin = false := by
                    cases hb : bin with
                    | false => rfl
                    | true => exact absurd ((E0.same k hk0).2 (hinA.out.1 hb)) hin
                  subst hbin
                  by_cases hroom : j < n
                  · obtain ⟨hf, hm, hsl0, hz0, hte⟩ := so2.room fi2 hn1 hst hno (by rw [E0.many]; exact hroom)
                    have hx := tells_found hf
                    have hx1 : Aside (S2.tells.1 = (S2.slot : Int)) := by simp only [Aside]; rw [hx]
                    have hx2 : Aside (S2.tells.2 = 0) := by simp only [Aside]; rw [hx]
                    have hmA : Aside (S2.made = true) := hm
                    obtain ⟨_, hleft, htk⟩ := fi2.found hf
                    have hsl2 := fi2.slot_lt hn1 hleft
                    rw [hkey] at htk
                    have htkA : Aside (t2 S2.slot = k) := htk
                    generalize S2.slot = x at hx1 hsl2 htkA
                    have hkk : (k != k) = false := by simp
                    have hkz : (k == 0) = false := by simpa using hk0
                    have hkz2 : (k != 0) = true := by simpa using hk0
                    have hcA : Aside (cnt t2 n = j + 1) := by simp only [Aside]; rw [hte, cnt_upd t hsl0 hz0 hkey0, E0.many]
                    have hsame : Aside (∀ k', ¬ k' = 0 → ((∃ s, s < n ∧ t2 s = k') ↔ ∃ a, a < j + 1 ∧ (fun a => if a = j then k else Q a) a = k')) := by
                      intro k' hk'
                      rw [hte]
                      constructor
                      · rintro ⟨s, hs, e⟩
                        by_cases d : s = S2.slot
                        · rw [d, upd_same, hkey] at e
                          exact ⟨j, by omega, by simp only [if_true]; exact e⟩
                        · rw [upd_other _ _ d] at e
                          obtain ⟨a, ha, e'⟩ := (E0.same k' hk').1 ⟨s, hs, e⟩
                          exact ⟨a, by omega, by simp only [show ¬ a = j by omega, if_false]; exact e'⟩
                      · rintro ⟨a, ha, e⟩
                        by_cases d : a = j
                        · simp only [d, if_true] at e
                          exact ⟨S2.slot, hsl0, by rw [upd_same, hkey]; exact e⟩
                        · simp only [d, if_false] at e
                          obtain ⟨s, hs, e'⟩ := (E0.same k' hk').2 ⟨a, by omega, e⟩
                          refine ⟨s, hs, ?_⟩
                          rw [upd_other _ _ (fun q => by rw [q, hz0] at e'; exact hk' e'.symm)]
                          exact e'
                    clear hx hf hm hte hst hkey0 htk hleft hz0 hsl0
                    have hjn : (j : Int) < (n : Int) := by omega
                    have hj10 : j ≤ 1000000 := by omega
                    go_upto_region 32 with (first
                      | (go_at_call 13; refine K.mono ?_; clear K; rintro e w5 ⟨rfl, c5, h5, t5, _, k5, b5⟩; have P5 : PlayS W w5 R T n j ad9 cap9 t2 Q F S2 := ⟨⟨c5, _, _, h5, t5⟩, gd2, own.went (.inr (.inl rfl)) H' kf b5, k5, below_step bel b5 (by omega) (by omega) hWF.out siz, Nat.le_trans siz b5.size, hw⟩; clear t5; have Ks := slot_is k5 (x : Int) 0 hx1.out hx2.out; have Kd := done_is k5 true hst2.out; have hc5 := hcell.out w5 P5.old)
                      | (go_at_call 14; refine Ks.mono ?_; clear Ks; rintro e w5 ⟨rfl, rfl⟩)
                      | (go_at_call 15; refine Kd.mono ?_; clear Kd; rintro e w5 ⟨rfl, rfl⟩))
                    try simp only [List.append, List.setIfInBounds_toArray, List.set_cons_succ, List.set_cons_zero]
                    refine wp_region_vals (fun u => PlayS W u R T n j ad9 cap9 t2 Q F S2) [(126, .int .i64 0), (127, .bool false), (128, .bool false), (129, .pointer (some ⟨T, 0, none⟩)), (130, .int .i64 (x : Int)), (131, .int .u64 k), (132, .slice (some ⟨b, off, none⟩) len cap), (133, .int .i64 (i : Int)), (134, .pointer (some ⟨b, off + i, none⟩)), (135, .int .u64 k), (136, .bool false), (137, .bool false), (138, .bool false), (139, .pointer (some ⟨F, 0, none⟩)), (140, .bool true), (141, .bool false), (142, .bool true), (143, .bool false), (144, .bool false)] [126, 127, 128, 129, 130, 131, 132, 133, 134, 135, 136, 137, 138, 139, 140, 141, 142, 143, 144] 205 (by kernel_rfl) (by kernel_rfl) rfl rfl (by decide) rfl rfl P5.drawn ?_ ?_
                    · intro i kk hk
                      match i, hk with
                      | 0, hk => obtain rfl := Option.some.inj hk; exact vok_plain _ rfl rfl rfl (does_val rfl fun ac u hG hL => x_move rfl ((hG.other 16 (by decide)).trans rfl))
                      | 1, hk => obtain rfl := Option.some.inj hk; exact vok_plain _ rfl rfl rfl (does_val rfl fun ac u hG hL => x_bin rfl (hL ⟨0, .data⟩ (by simp) rfl _ rfl) rfl (rfl) (r_nee _ _ false u (by decide)))
                      | 2, hk => obtain rfl := Option.some.inj hk; exact vok_plain _ rfl rfl rfl (does_val rfl fun ac u hG hL => x_move rfl (hL ⟨1, .data⟩ (by simp) rfl _ rfl))
                      | 3, hk => obtain rfl := Option.some.inj hk; exact vok_sure _ rfl rfl 2 false 128 rfl ⟨⟨2, .guard⟩, by simp, rfl, rfl⟩ rfl (does_val rfl fun ac u hG hL => x_move rfl ((hG.other 7 (by decide)).trans rfl))
                      | 4, hk => obtain rfl := Option.some.inj hk; exact vok_sure _ rfl rfl 2 false 128 rfl ⟨⟨2, .guard⟩, by simp, rfl, rfl⟩ rfl (does_val rfl fun ac u hG hL => x_move rfl ((hG.other 15 (by decide)).trans rfl))
                      | 5, hk => obtain rfl := Option.some.inj hk; exact vok_sure _ rfl rfl 2 false 128 rfl ⟨⟨2, .chain⟩, by simp, rfl, rfl⟩ rfl (does_call #[.pointer (some ⟨T, 0, none⟩), .int .i64 (x : Int)] rfl (fun ac u hG hL => x_call rfl (by have e0 : ac.eval (.tmp 129) = .pointer (some ⟨T, 0, none⟩) := (hL ⟨3, .data⟩ (by simp) rfl _ rfl); have e1 : ac.eval (.tmp 130) = .int .i64 (x : Int) := (hL ⟨4, .data⟩ (by simp) rfl _ rfl); simp only [List.map_toArray, List.map_cons, List.map_nil, e0, e1]) (fun u => call17 _ u)) (fun u hu => playS_at hu x hsl2 k htkA.out))
                      | 6, hk => obtain rfl := Option.some.inj hk; exact vok_sure _ rfl rfl 2 false 128 rfl ⟨⟨2, .guard⟩, by simp, rfl, rfl⟩ rfl (does_val rfl fun ac u hG hL => x_move rfl ((hG.other 1 (by decide)).trans rfl))
                      | 7, hk => obtain rfl := Option.some.inj hk; exact vok_sure _ rfl rfl 2 false 128 rfl ⟨⟨2, .guard⟩, by simp, rfl, rfl⟩ rfl (does_val rfl fun ac u hG hL => x_move rfl ((hG.other 10 (by decide)).trans rfl))
                      | 8, hk => obtain rfl := Option.some.inj hk; exact vok_sure _ rfl rfl 2 false 128 rfl ⟨⟨2, .guard⟩, by simp, rfl, rfl⟩ rfl (does_val rfl fun ac u hG hL => x_index45 rfl (hL ⟨6, .data⟩ (by simp) rfl _ rfl) (hL ⟨7, .data⟩ (by simp) rfl _ rfl) hil)
                      | 9, hk => obtain rfl := Option.some.inj hk; exact vok_sure _ rfl rfl 2 false 128 rfl ⟨⟨2, .guard⟩, by simp, rfl, rfl⟩ rfl (does_val rfl fun ac u hG hL => x_load rfl (hL ⟨8, .data⟩ (by simp) rfl _ rfl) (r_load22 (hcell.out u hG.here.old)))
                      | 10, hk => obtain rfl := Option.some.inj hk; exact vok_sure _ rfl rfl 2 false 128 rfl ⟨⟨2, .guard⟩, by simp, rfl, rfl⟩ rfl (does_val rfl fun ac u hG hL => x_bin rfl (hL ⟨5, .data⟩ (by simp) rfl _ rfl) (hL ⟨9, .data⟩ (by simp) rfl _ rfl) (rfl) (r_ne64 _ _ false u (by simp)))
                      | 11, hk => obtain rfl := Option.some.inj hk; exact vok_plain _ rfl rfl rfl (does_val rfl fun ac u hG hL => x_pick (b := false) rfl (hL ⟨2, .data⟩ (by simp) rfl _ rfl) (hL ⟨10, .data⟩ (by simp) rfl _ rfl))
                      | 12, hk => obtain rfl := Option.some.inj hk; exact vok_plain _ rfl rfl rfl (does_val rfl fun ac u hG hL => x_move rfl (hL ⟨11, .data⟩ (by simp) rfl _ rfl))
                      | 13, hk => obtain rfl := Option.some.inj hk; exact vok_sure _ rfl rfl 12 false 138 rfl ⟨⟨12, .guard⟩, by simp, rfl, rfl⟩ rfl (does_val rfl fun ac u hG hL => x_move rfl ((hG.other 13 (by decide)).trans rfl))
                      | 14, hk => obtain rfl := Option.some.inj hk; exact vok_sure _ rfl rfl 12 false 138 rfl ⟨⟨12, .chain⟩, by simp, rfl, rfl⟩ rfl (does_call #[.pointer (some ⟨F, 0, none⟩)] rfl (fun ac u hG hL => x_call rfl (by have e0 : ac.eval (.tmp 139) = .pointer (some ⟨F, 0, none⟩) := (hL ⟨13, .data⟩ (by simp) rfl _ rfl); simp only [List.map_toArray, List.map_cons, List.map_nil, e0]) (fun u => call18 _ u)) (fun u hu => playS_made hu true hmA.out))
                      | 15, hk => obtain rfl := Option.some.inj hk; exact vok_sure _ rfl rfl 12 false 138 rfl ⟨⟨12, .guard⟩, by simp, rfl, rfl⟩ rfl (does_val rfl fun ac u hG hL => x_move rfl ((hG.other 11 (by decide)).trans rfl))
                      | 16, hk => obtain rfl := Option.some.inj hk; exact vok_sure _ rfl rfl 12 false 138 rfl ⟨⟨12, .guard⟩, by simp, rfl, rfl⟩ rfl (does_val rfl fun ac u hG hL => x_un rfl (hL ⟨15, .data⟩ (by simp) rfl _ rfl) (r_not false u))
                      | 17, hk => obtain rfl := Option.some.inj hk; exact vok_sure _ rfl rfl 12 false 138 rfl ⟨⟨12, .guard⟩, by simp, rfl, rfl⟩ rfl (does_val rfl fun ac u hG hL => x_bin rfl (hL ⟨14, .data⟩ (by simp) rfl _ rfl) (hL ⟨16, .data⟩ (by simp) rfl _ rfl) (rfl) (r_neb _ _ false u rfl))
                      | 18, hk => obtain rfl := Option.some.inj hk; exact vok_plain _ rfl rfl rfl (does_val rfl fun ac u hG hL => x_pick (b := false) rfl (hL ⟨12, .data⟩ (by simp) rfl _ rfl) (hL ⟨17, .data⟩ (by simp) rfl _ rfl))
                      | i + 19, hk => simp at hk
                    · intro w7 P7
                      simp only [vfin, Act.put, List.setIfInBounds_toArray, List.set_cons_succ, List.set_cons_zero]
                      have hc7 := hcell.out w7 P7.old
                      have B8 : Below w7.heap.size w7 (w7.alloc (.cells #[.int .u64 k] 22)) := (Below.refl _ _).alloc (Nat.le_refl _) _
                      have Q8 := P7.new B8
                      go_wp2_with (first
                        | (at_builtin; refine append_u64 Q8.own w7.heap.size k (Go.Deep.blk_alloc_new w7 _) hj10 Q8.size rfl _ _ rfl rfl rfl ?_; intro g9 cap10 w10 o10 b10; have P10 := Q8.appended o10 b10; have hc10 := hcell.out w10 P10.old; have Kh := playS_has P10 k hkv.1 hkv.2)
                        | (go_at_call 19; refine Kh.mono ?_; clear Kh; rintro e w8 ⟨y, ok, rfl, told, P8⟩; obtain ⟨rfl, rfl⟩ := told_hit told gd2 hk0 hsl2 htkA.out; have hc8 := hcell.out w8 P8.old; have Kl := playS_len P8 (j + 1) hcA.out)
                        | (go_at_call 16; refine Kl.mono ?_; clear Kl; rintro e w9 ⟨rfl, P9⟩))
                      go_roundg (go - 1)
                      case measure => have := hI.out; omega
                      case rel =>
                        have hi := hI.out
                        exact ⟨i + 1, j + 1, cap10, _, t2, _, by omega, rfl, rfl, P9.back hcA.out hsame.out⟩
                  · have hjn2 : cnt t n = n := by have := E0.many; omega
                    obtain ⟨hf, hm, hte⟩ := so2.full fi2 hn1 hno hjn2
                    have hx := tells_full hf hst hkey0
                    have hx1 : Aside (S2.tells.1 = -1) := by simp only [Aside]; rw [hx]
                    have hx2 : Aside (S2.tells.2 = 60) := by simp only [Aside]; rw [hx]
                    have hmA : Aside (S2.made = false) := hm
                    have hnoA : Aside (∀ s, s < n → ¬ t2 s = k) := fun s hs e => hin ⟨s, hs, by rw [← hte]; exact e⟩
                    have hteA : Aside (t2 = t) := hte
                    have hcA : Aside (cnt t2 n = j) := by simp only [Aside]; rw [hte]; exact E0.many
                    have hkz : (k == 0) = false := by simpa using hk0
                    have hkz2 : (k != 0) = true := by simpa using hk0
                    have hjn : ¬ (j : Int) < (n : Int) := by omega
                    clear hx hf hm hte hst hkey0 hjn2 hin hno
                    go_upto_region 36 with (first
                      | (go_at_call 13; refine K.mono ?_; clear K; rintro e w5 ⟨rfl, c5, h5, t5, _, k5, b5⟩; have P5 : PlayS W w5 R T n j ad9 cap9 t2 Q F S2 := ⟨⟨c5, _, _, h5, t5⟩, gd2, own.went (.inr (.inl rfl)) H' kf b5, k5, below_step bel b5 (by omega) (by omega) hWF.out siz, Nat.le_trans siz b5.size, hw⟩; clear t5; have Ks := slot_is k5 (-1) 60 hx1.out hx2.out; have Km := made_is k5 false hmA.out; have Kd := done_is k5 true hst2.out; have hc5 := hcell.out w5 P5.old)
                      | (go_at_call 14; refine Ks.mono ?_; clear Ks; rintro e w5 ⟨rfl, rfl⟩)
                      | (go_at_call 15; refine Kd.mono ?_; clear Kd; rintro e w5 ⟨rfl, rfl⟩)
                      | (go_at_call 18; refine Km.mono ?_; clear Km; rintro e w5 ⟨rfl, rfl⟩))
                    have Kh := playS_has P5 k hkv.1 hkv.2
                    go_wp2_with (first
                      | (go_at_call 19; refine Kh.mono ?_; clear Kh; rintro e w8 ⟨y, ok, rfl, told, P8⟩; obtain ⟨rfl, rfl⟩ := told_miss told hnoA.out; have hc8 := hcell.out w8 P8.old; have Kl := playS_len P8 j hcA.out)
                      | (go_at_call 16; refine Kl.mono ?_; clear Kl; rintro e w9 ⟨rfl, P9⟩))
                    go_roundg (go - 1)
                    case measure => have := hI.out; omega
                    case rel =>
                      have hi := hI.out
                      exact ⟨i + 1, j, cap9, ad9, t2, Q, by omega, rfl, rfl, P9.back hcA.out (by rw [hteA.out]; exact E0.same)⟩
              · rw [decide_eq_false hst] at K
                go_wp2_with (first
                  | (go_at_call 13; refine K.mono ?_; clear K; rintro e w5 ⟨rfl, c5, h5, t5, _, k5, b5⟩))
                go_roundg (gk - 1)
                case measure => have := hJ.out; have := hM.out; have := hmu2.out hst; omega
                case rel =>
                  have hj := hJ.out
                  have hm := hM.out
                  have hm2 := hmu2.out hst
                  exact ⟨q + 1, S2, t2, c5, _, _, by omega, rfl, by omega, hkey, fi2, gd2, so2, t5, k5, h5, own.went (.inr (.inl rfl)) H' kf b5, below_step bel b5 (by omega) (by omega) hWF.out siz, Nat.le_trans siz b5.size⟩
    · obtain rfl : i = len := by have := hI.out; omega
      obtain ⟨c, o, f, H, ht⟩ := E.sys
      have hw := hWA.out.1
      have K1 := clear_any H
      have hz : cnt (fun i => clr 3 c n (3 + i)) n = 0 := by
        rw [cnt_congr n (u := fun _ => 0) (fun i hi => by unfold clr; rw [if_pos (by omega)])]
        exact cnt_zero n
      have hzA : Aside (cnt (fun i => clr 3 c n (3 + i)) n = 0) := hz
      clear hz ht
      go_wp2_with (first
        | (go_at_call 24; refine K1.mono ?_; clear K1; rintro e w5 ⟨rfl, ⟨o5, h5⟩, b5⟩; have K2 := tlen_any h5; rw [hzA.out] at K2)
        | (go_at_call 16; refine K2.mono ?_; clear K2; rintro e w6 ⟨rfl, ⟨o6, h6⟩, b6⟩; have K3 := at_out h6 (-1) (.inl (by omega)); have K4 := at_out h6 (n : Int) (.inr (Int.le_refl _)))
        | (go_at_call 17; refine K3.mono ?_; clear K3; rintro e w6 ⟨rfl, rfl⟩)
        | (go_at_call 17; refine K4.mono ?_; clear K4; rintro e w6 ⟨rfl, rfl⟩))
      go_ret
      exact ⟨rfl, below_move (below_move E.old b5 (by omega) hw E.size) b6 (by omega) hw (Nat.le_trans E.size b5.size)⟩
end Go.Proofs.Ytnekhfpccmnaiaa
