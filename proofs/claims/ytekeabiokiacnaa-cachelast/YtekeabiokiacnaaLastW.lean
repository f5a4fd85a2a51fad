/-
  The walk of CacheLast: for every number of lines and every row of acts it tells true, and old memory is as it was.
-/
import Derived.Test.YtekeabiokiacnaaUse
import Derived.Test.YtekeabiokiacnaaArg
namespace Go.Proofs.Ytekeabiokiacnaa
open Go Go.RowKit

theorem zero44 : ∃ cs : Array Value, (∀ w, (zeroValue 44).run Try.prog w = .ok (.agg cs) w) ∧ cs.size = 256 ∧ ∀ i, i < 256 → cs[i]? = some (.int .u64 0) :=
  ⟨Array.replicate 256 (.int .u64 0), fun w => by kernel_rfl, by simp, fun i hi => by simp [hi]⟩
theorem zero45 : ∃ cs : Array Value, (∀ w, (zeroValue 45).run Try.prog w = .ok (.agg cs) w) ∧ cs.size = 256 ∧ ∀ i, i < 256 → cs[i]? = some (.bool false) :=
  ⟨Array.replicate 256 (.bool false), fun w => by kernel_rfl, by simp, fun i hi => by simp [hi]⟩

set_option maxRecDepth 100000 in
theorem last_off (z : Int) (ad : Option Addr) (len cap : Nat) (W : World) (hlen : 60 < len) :
    Calls Try.prog 4 #[.int .u8 z, .slice ad len cap] W fun e w' => e = .returned (.bool true) ∧ Below W.heap.size W w' := by
  have K0 := known_any W
  have hd : decide (60 < (len : Int)) = true := by simp; omega
  go_enter Try.func4, Try.ntmps4
  go_wp2_with (first
    | (go_at_call 7; refine K0.mono ?_; clear K0; rintro e w1 ⟨rfl, b1⟩))
  go_ret
  exact ⟨rfl, b1⟩

/-- The cache, and what was last put with each key. -/
structure LastI (W w : World) (R T n BL BH : Nat) (c : Nat → Int) (lst : Nat → Int) (has : Nat → Bool) : Prop where
  st : Stand W w R (4 * n) T 0 n c
  rl : w.rowIs BL 44 256 (fun i => .int .u64 (lst i))
  rh : w.rowIs BH 45 256 (fun i => .bool (has i))
  hl : W.heap.size ≤ BL
  hh : W.heap.size ≤ BH
  told : Aside (∀ k : Nat, k < 256 → Hits c (line 0 n (k : Int)) (k : Int) → has k = true ∧ jn (lo (c (line 0 n (k : Int) + 2))) (lo (c (line 0 n (k : Int) + 3))) = lst k)

section
variable {W w w' : World} {R T n BL BH A : Nat} {c c' : Nat → Int} {lst : Nat → Int} {has : Nat → Bool} {S : Ac}
theorem row_ne {e e' : TypeId} {b b' m : Nat} {V : Nat → Value} {cs : Array Value} {cu : Nat × Nat} (h : w.rowIs b e m V) (k : w.heap[b']? = some (.cells cs e' cu)) (hne : e ≠ e') : b ≠ b' := fun eq => by
  obtain ⟨cs', hb, _⟩ := h
  rw [eq, k] at hb
  simp at hb
  exact hne hb.2.1.symm
theorem Stand.set {N base k : Nat} (h : Stand W w R N T base n c) (h1 : k ≠ R + 1) (h2 : k ≠ R) (h3 : k ≠ T) (hW : W.heap.size ≤ k) (o : Nat) (v : Value) : Stand W (w.setCell ⟨k, o, none⟩ v) R N T base n c := by
  obtain ⟨o', f, H⟩ := h.sys
  refine ⟨⟨o', f, H.kept fun b hb => Below.heap_setCell _ _ _ _ ?_⟩, h.old.trans ((Only.set k o w v).below h.size fun i e => by omega), h.hR⟩
  show b ≠ k
  rcases hb with e | e | e <;> omega
theorem LastI.neL (h : LastI W w R T n BL BH c lst has) : BL ≠ R + 1 ∧ BL ≠ R ∧ BL ≠ T ∧ BH ≠ R + 1 ∧ BH ≠ R ∧ BH ≠ T ∧ BL ≠ BH := by
  obtain ⟨o, f, H⟩ := h.st.sys
  obtain ⟨cs, hb, _⟩ := H.mem.row
  obtain ⟨cs2, hb2, _⟩ := h.rh
  exact ⟨row_ne h.rl H.mem.head (by decide), row_ne h.rl hb (by decide), row_ne h.rl H.tab (by decide), row_ne h.rh H.mem.head (by decide), row_ne h.rh hb (by decide), row_ne h.rh H.tab (by decide), row_ne h.rl hb2 (by decide)⟩
theorem LastI.below (h : LastI W w R T n BL BH c lst has) (k : Below w.heap.size w w') : LastI W w' R T n BL BH c lst has :=
  ⟨h.st.below k, h.rl.of_block (k.block _ h.rl.lt), h.rh.of_block (k.block _ h.rh.lt), h.hl, h.hh, h.told⟩
theorem LastI.foot (h : LastI W w R T n BL BH c lst has) (k : IsAct w A (R + 1) S) (m : Went (Foot (R + 1) R A) w w') (s : Stand W w' R (4 * n) T 0 n c) : LastI W w' R T n BL BH c lst has := by
  have q := h.neL
  have a1 : BL ≠ A := row_ne h.rl k (by decide)
  have a2 : BH ≠ A := row_ne h.rh k (by decide)
  refine ⟨s, h.rl.of_block (m.block _ h.rl.lt fun e => ?_), h.rh.of_block (m.block _ h.rh.lt fun e => ?_), h.hl, h.hh, h.told⟩
  · rcases e with e | e | e <;> omega
  · rcases e with e | e | e <;> omega
/-- Behind a put: the key's place of both rows written. -/
theorem LastI.put (h : LastI W w R T n BL BH c lst has) (k : IsAct w A (R + 1) S) (m : Went (Foot (R + 1) R A) w w') {key : Nat} (hk : key < 256) {val : Int} (h2 : 0 ≤ val) (h3 : val ≤ 18446744073709551615) (s : Stand W w' R (4 * n) T 0 n (putAt c (line 0 n (key : Int)) (key : Int) val)) :
    (w'.rowIs BL 44 256 (fun i => .int .u64 (lst i)) ∧ (w'.setCell ⟨BL, key, none⟩ (.int .u64 val)).rowIs BH 45 256 (fun i => .bool (has i)))
    ∧ LastI W ((w'.setCell ⟨BL, key, none⟩ (.int .u64 val)).setCell ⟨BH, key, none⟩ (.bool true)) R T n BL BH (putAt c (line 0 n (key : Int)) (key : Int) val) (upd lst key val) (fun i => if i = key then true else has i) := by
  have q := h.neL
  have a1 : BL ≠ A := row_ne h.rl k (by decide)
  have a2 : BH ≠ A := row_ne h.rh k (by decide)
  have r1 : w'.rowIs BL 44 256 (fun i => .int .u64 (lst i)) := h.rl.of_block (m.block _ h.rl.lt fun e => by rcases e with e | e | e <;> omega)
  have r2 : w'.rowIs BH 45 256 (fun i => .bool (has i)) := h.rh.of_block (m.block _ h.rh.lt fun e => by rcases e with e | e | e <;> omega)
  have r2' : (w'.setCell ⟨BL, key, none⟩ (.int .u64 val)).rowIs BH 45 256 (fun i => .bool (has i)) := r2.setOther (a := ⟨BL, key, none⟩) (fun e => q.2.2.2.2.2.2 e.symm) (.int .u64 val)
  refine ⟨⟨r1, r2'⟩, ⟨?_, ?_, ?_, h.hl, h.hh, ?_⟩⟩
  · exact (s.set q.1 q.2.1 q.2.2.1 h.hl _ _).set q.2.2.2.1 q.2.2.2.2.1 q.2.2.2.2.2.1 h.hh _ _
  · refine ((r1.set key (.int .u64 val)).setOther (a := ⟨BH, key, none⟩) q.2.2.2.2.2.2 (.bool true)).congr fun i _ => ?_
    by_cases d : i = key <;> simp [upd, d]
  · refine (r2'.set key (.bool true)).congr fun i _ => ?_
    by_cases d : i = key <;> simp [d]
  · intro k' hk' hit
    have hfit := h.st.fit
    by_cases dl : line 0 n (k' : Int) = line 0 n (key : Int)
    · rw [dl] at hit ⊢
      have p := put_hits (c := c) (f := line 0 n (key : Int)) (key := (key : Int)) (key' := (k' : Int)) (val := val) hfit (by omega) (by omega) h2 h3
      have e := p.1.1 hit
      have e' : k' = key := by omega
      rw [p.2]
      exact ⟨by simp [e'], by rw [e', upd_same]⟩
    · have ho : ∀ i, line 0 n (k' : Int) ≤ i → i < line 0 n (k' : Int) + 4 → putAt c (line 0 n (key : Int)) (key : Int) val i = c i := fun i h1 h4 => putAt_other (by unfold line at *; omega)
      rw [hits_congr ho] at hit
      have e' : k' ≠ key := fun e => dl (by rw [e])
      rw [ho _ (by omega) (by omega), ho _ (by omega) (by omega), upd_other _ _ e']
      have := h.told.out k' hk' hit
      exact ⟨by simp [e', this.1], this.2⟩
end

set_option maxHeartbeats 8000000 in
set_option maxRecDepth 100000 in
theorem last_walk (z : Int) (ad : Option Addr) (len cap b off : Nat) (Pt : Nat → Bool) (Ky Vl : Nat → Int) (W : World) (hz : 0 ≤ z ∧ z ≤ 255) (hZ : Dos W ad len b off Pt Ky Vl) (hlen : len ≤ 60) :
    Calls Try.prog 4 #[.int .u8 z, .slice ad len cap] W fun e w' => e = .returned (.bool true) ∧ Below W.heap.size W w' := by
  obtain ⟨n, hn, hn1, hn2⟩ : ∃ n : Nat, z % 8 + 1 = (n : Int) ∧ 1 ≤ n ∧ n ≤ 8 := ⟨(z % 8 + 1).toNat, by omega, by omega, by omega⟩
  have K0 := known_any W
  have Kc := fun w => cells_any n w (by omega)
  have hd : decide (60 < (len : Int)) = false := by simp; omega
  have hd4 : ¬ 60 < len := by omega
  obtain ⟨C44, z44, s44, e44⟩ := zero44
  obtain ⟨C45, z45, s45, e45⟩ := zero45
  have E44 : Aside (C44.size = 256 ∧ ∀ i, i < 256 → C44[i]? = some (.int .u64 0)) := ⟨s44, e44⟩
  have E45 : Aside (C45.size = 256 ∧ ∀ i, i < 256 → C45[i]? = some (.bool false)) := ⟨s45, e45⟩
  clear s44 e44 s45 e45
  go_enter Try.func4, Try.ntmps4
  go_wp2_with (first
    | (go_at_call 7; refine K0.mono ?_; clear K0; rintro e w1 ⟨rfl, b1⟩; have K1 := new_any (4 * (n : Int)) w1; rw [held4 n (by omega)] at K1; obtain ⟨R, hR⟩ : ∃ R, R = w1.heap.size := ⟨_, rfl⟩; have hRA : Aside (R = w1.heap.size) := hR; rw [← hR] at K1; clear hR)
    | (go_at_call 9; refine (Kc _).mono ?_; clear Kc; rintro e w1 ⟨rfl, rfl⟩)
    | (go_at_call 8; refine K1.mono ?_; clear K1; rintro e w2 ⟨rfl, m2, b2, s2⟩; have s2A : Aside (w2.heap.size = R + 2) := s2; clear s2; have K4 := cache_new0 m2 n hn1 (by omega) (by omega) (by omega) empty_fit)
    | (go_at_call 10; refine K4.mono ?_; clear K4; rintro e w5 ⟨rfl, h5, b5, s5⟩; clear s5))
  obtain ⟨T, hT⟩ : ∃ T, T = w2.heap.size := ⟨_, rfl⟩
  obtain ⟨BL, hBL⟩ : ∃ BL, BL = w5.heap.size := ⟨_, rfl⟩
  obtain ⟨w6, hw6⟩ : ∃ w6, w6 = (w5.alloc (.cells C44 44)).alloc (.cells C45 45) := ⟨_, rfl⟩
  have start : LastI W w6 R T n BL (BL + 1) (fun _ => 0) (fun _ => 0) (fun _ => false) := by
    have q3 := hRA.out
    have q4 := s2A.out
    have q5 := b1.size
    rw [hT, hBL, hw6]
    have B2 : Below W.heap.size W w2 := far b1 (by rw [← q3]; exact b2) (by omega)
    have st5 : Stand W w5 R (4 * n) w2.heap.size 0 n (fun _ => 0) := ⟨⟨_, _, h5⟩, far B2 b5 B2.size, by omega⟩
    have e1 := E44.out
    have e2 := E45.out
    refine ⟨(st5.below ((Below.refl _ _).alloc (Nat.le_refl _) _)).below ((Below.refl _ _).alloc (Nat.le_refl _) _), ?_, ?_, st5.size, Nat.le_trans st5.size (by omega), fun k _ hit => absurd hit (empty_misses _ _)⟩
    · have r := World.rowIs_alloc w5 C44 44 (fun _ => .int .u64 0) (fun i hi => e1.2 i (by omega))
      rw [e1.1] at r
      exact r.alloc _
    · have r := World.rowIs_alloc (w5.alloc (.cells C44 44)) C45 45 (fun _ => .bool false) (fun i hi => e2.2 i (by omega))
      rw [e2.1] at r
      have e : (w5.alloc (.cells C44 44)).heap.size = w5.heap.size + 1 := by simp
      rw [e] at r
      exact r
  rw [← hT, ← hBL, ← hw6]
  clear hT hBL hw6 h5 m2 b2 b5 b1 s2A hRA hn hz E44 E45 z44 z45
  obtain ⟨BH, hBH⟩ : ∃ BH, BH = BL + 1 := ⟨_, rfl⟩
  rw [← hBH] at start ⊢
  clear hBH
  go_loopg [11] len (fun g si wr => ∃ (i : Nat) (c lst : Nat → Int) (has : Nat → Bool), i + g = len ∧ si = .int .i64 (i : Int) ∧ LastI W wr R T n BL BH c lst has)
  case atStart => exact ⟨0, _, _, _, by omega, rfl, start⟩
  case round =>
    obtain ⟨i, c, lst, has, hi, rfl, E⟩ := hrel
    have hI : Aside (i + gk = len) := hi
    clear hi start
    by_cases hil : i < len
    · have hil' : (i : Int) < (len : Int) := by omega
      obtain rfl := hZ.ad_ (by omega)
      have hp := hZ.put' E.st.old hil
      have hky := hZ.key' E.st.old hil
      have hkb := hZ.keys i hil
      obtain ⟨k, hk⟩ : ∃ k : Nat, Ky i = (k : Int) := ⟨(Ky i).toNat, by omega⟩
      rw [hk] at hky hkb
      have hk256 : k < 256 := by omega
      have hk256' : (k : Int) < 256 := by omega
      have hvkeep : ∀ {u}, Below W.heap.size W u → u.cell? ⟨b, off + i * 3 + 2, none⟩ = some (.int .u64 (Vl i)) := fun q => hZ.val' q hil
      have hvb := hZ.vals i hil
      generalize Vl i = v at hvkeep hvb
      clear hk
      obtain ⟨L, hL⟩ : ∃ L, line 0 n (k : Int) = L := ⟨_, rfl⟩
      have hLA : Aside (line 0 n (k : Int) = L) := hL
      clear hL
      cases hpt : Pt i
      · rw [hpt] at hp
        clear hpt
        have G1 := s_get E.st (k : Int) hLA.out (by omega) (by omega)
        have htold : Aside (Hits c L (k : Int) → has k = true ∧ jn (lo (c (L + 2))) (lo (c (L + 3))) = lst k) := by
          simp only [Aside]
          rw [← hLA.out]
          exact E.told.out k hk256
        by_cases hit : Hits c L (k : Int)
        · have ht := htold.out hit
          have htA : Aside (has k = true) := ht.1
          have htB : Aside (jn (lo (c (L + 2))) (lo (c (L + 3))) = lst k) := ht.2
          have hitA : Aside (Hits c L (k : Int)) := hit
          have hdd : (lst k != lst k) = false := by simp
          clear ht hit htold
          go_wp2_with (first
            | (go_at_call 12; refine G1.mono ?_; clear G1; rintro e w7 ⟨A, rfl, k7, a7, Z7, b7, _⟩; have E7 := E.below b7; have G2 := s_hit Z7 (k : Int) hLA.out (by omega) (by omega) k7 a7 hitA.out (lst k) htB.out)
            | (go_at_call 17; refine G2.mono ?_; clear G2; rintro e w8 ⟨rfl, Z8, b8⟩; have E8 := E7.foot k7 b8 Z8; have c8 := E8.rl.cell hk256; have d8 := E8.rh.cell hk256; rw [htA.out] at d8))
          go_roundg (gk - 1)
          case measure => have := hI.out; omega
          case rel => exact ⟨i + 1, _, _, _, (by have := hI.out; omega), rfl, E8⟩
        · have hitA : Aside (¬ Hits c L (k : Int)) := hit
          clear hit htold
          go_wp2_with (first
            | (go_at_call 12; refine G1.mono ?_; clear G1; rintro e w7 ⟨A, rfl, k7, a7, Z7, b7, _⟩; have E7 := E.below b7; have G2 := s_miss Z7 (k : Int) hLA.out (by omega) (by omega) k7 a7 hitA.out)
            | (go_at_call 17; refine G2.mono ?_; clear G2; rintro e w8 ⟨rfl, Z8, b8⟩; have E8 := E7.foot k7 b8 Z8))
          go_roundg (gk - 1)
          case measure => have := hI.out; omega
          case rel => exact ⟨i + 1, _, _, _, (by have := hI.out; omega), rfl, E8⟩
      · rw [hpt] at hp
        clear hpt
        have hv0 := hvkeep E.st.old
        have G1 := s_put E.st (k : Int) v hLA.out (by omega) (by omega) hvb.1 hvb.2
        have ph := put_hits (c := c) (f := L) (key := (k : Int)) (key' := (k : Int)) (val := v) E.st.fit (by omega) (by omega) hvb.1 hvb.2
        have phA : Aside (Hits (putAt c L (k : Int) v) L (k : Int)) := ph.1.2 rfl
        have phB : Aside (jn (lo (putAt c L (k : Int) v (L + 2))) (lo (putAt c L (k : Int) v (L + 3))) = v) := ph.2
        clear ph
        have hdd : (v != v) = false := by simp
        go_wp2_with (first
          | (go_at_call 11; refine G1.mono ?_; clear G1; rintro e w7 ⟨A, rfl, k7, a7, Z7, b7, _⟩; have hv7 := hvkeep Z7.old; have E7 := E.below b7; have G2 := s_done Z7 (k : Int) v hLA.out (by omega) (by omega) hvb.1 hvb.2 k7 a7)
          | (go_at_call 17; refine G2.mono ?_; clear G2; rintro e w8 ⟨rfl, Z8, b8⟩; have hv8 := hvkeep Z8.old; have E8 := E7.put k7 b8 hk256 hvb.1 hvb.2 (by rw [hLA.out]; exact Z8); rw [hLA.out] at E8; obtain ⟨⟨r1, r2⟩, E9⟩ := E8; have c8 := r1.cell hk256; have f8 := r1.frozen k; have c9 := r2.cell hk256; have f9 := r2.frozen k; have hv9 := hvkeep E9.st.old; have G3 := s_get E9.st (k : Int) hLA.out (by omega) (by omega))
          | (go_at_call 12; refine G3.mono ?_; clear G3; rintro e wa ⟨Aa, rfl, ka, aa, Za, ba, _⟩; have hva := hvkeep Za.old; have Ea := E9.below ba; have G4 := s_hit Za (k : Int) hLA.out (by omega) (by omega) ka aa phA.out v phB.out)
          | (go_at_call 17; refine G4.mono ?_; clear G4; rintro e wb ⟨rfl, Zb, bb⟩; have hvb' := hvkeep Zb.old; have Eb := Ea.foot ka bb Zb))
        go_roundg (gk - 1)
        case measure => have := hI.out; omega
        case rel => exact ⟨i + 1, _, _, _, (by have := hI.out; omega), rfl, Eb⟩
    · obtain rfl : i = len := by have := hI.out; omega
      have G1 := s_clear E.st
      clear hI hil
      go_wp2_with (first
        | (go_at_call 18; refine G1.mono ?_; clear G1; rintro e w7 ⟨rfl, c', Z7, hz⟩; have hzA : Aside (∀ key, ¬ Hits c' (line 0 n key) key) := hz; clear hz))
      clear E
      go_loopg [19] 52 (fun g si wr => ∃ (j : Nat), j + g = 52 ∧ si = .int .i64 (5 * (j : Int)) ∧ Stand W wr R (4 * n) T 0 n c')
      case atStart => exact ⟨0, by omega, rfl, Z7⟩
      case round =>
        clear Z7
        obtain ⟨j, hj, rfl, E⟩ := hrel
        have hJ : Aside (j + gk = 52) := hj
        by_cases hj5 : j < 52
        · have hj5' : (5 * (j : Int)) < 256 := by omega
          obtain ⟨q, hq⟩ : ∃ q : Int, 5 * (j : Int) = q := ⟨_, rfl⟩
          have hq5 : IntKind.i64.wrap (q + 5) = q + 5 := by rw [IntKind.wrap_i64]; omega
          have hqA : Aside (5 * (j : Int) = q) := hq
          rw [hq] at hj5' ⊢
          have hq0 : 0 ≤ q := by omega
          have hqu : IntKind.u64.wrap q = q := by rw [IntKind.wrap_u64]; omega
          have hqm : q % 18446744073709551616 = q := by omega
          clear hq hj
          have G1 := s_get E q rfl hq0 (by omega)
          go_wp2_with (first
            | (go_at_call 12; refine G1.mono ?_; clear G1; rintro e w8 ⟨A, rfl, k8, a8, Z8, _, _⟩; have G2 := s_miss Z8 q rfl hq0 (by omega) k8 a8 (hzA.out q))
            | (go_at_call 17; refine G2.mono ?_; clear G2; rintro e w9 ⟨rfl, Z9, _⟩))
          go_roundg (gk - 1)
          case measure => have := hJ.out; omega
          case rel => exact ⟨j + 1, (by have := hJ.out; omega), (by have := hqA.out; rw [show 5 * ((j + 1 : Nat) : Int) = q + 5 by omega]), Z9⟩
        · obtain rfl : j = 52 := by omega
          go_wp2_with fail
          go_ret
          exact ⟨rfl, E.old⟩
end Go.Proofs.Ytekeabiokiacnaa
