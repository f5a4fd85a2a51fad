/-
  Set of package order: what is each variable once, and what isn't.
-/
import Derived.Test.YteickckgljlacaaGreatBaseS
namespace Go.Proofs.YteickckgljlacaaGreat.Od
open Go Go.RowKit

/-- A slice of n numbers in the world. -/
def IntsAt (w : World) (ad : Option Addr) (n : Nat) (Z : Nat → Int) : Prop :=
  n = 0 ∨ ∃ b off, ad = some ⟨b, off, none⟩ ∧ b < w.heap.size ∧ ∀ i, i < n → w.cell? ⟨b, off + i, none⟩ = some (.int .i64 (Z i))

theorem IntsAt.kept {w w' : World} {ad : Option Addr} {n : Nat} {Z : Nat → Int} (h : IntsAt w ad n Z) (hs : w.heap.size ≤ w'.heap.size) (k : ∀ a, ad = some a → a.block < w.heap.size → w'.heap[a.block]? = w.heap[a.block]?) : IntsAt w' ad n Z := by
  rcases h with h | ⟨b, off, rfl, hb, hc⟩
  · exact .inl h
  · exact .inr ⟨b, off, rfl, Nat.lt_of_lt_of_le hb hs, fun i hi => (World.cell?_of_block (a := ⟨b, off + i, none⟩) (k ⟨b, off, none⟩ rfl hb)).trans (hc i hi)⟩
theorem IntsAt.below {w w' : World} {ad : Option Addr} {n : Nat} {Z : Nat → Int} (h : IntsAt w ad n Z) (k : Below w.heap.size w w') : IntsAt w' ad n Z :=
  h.kept k.size fun _ _ hb => k.block _ hb
theorem IntsAt.moved {w w' : World} {ad : Option Addr} {n P : Nat} {Z : Nat → Int} (h : IntsAt w ad n Z) (k : Moved P w w') (hP : ∀ a, ad = some a → a.block ≠ P) : IntsAt w' ad n Z :=
  h.kept k.size fun a ha hb => k.block _ hb (hP a ha)
theorem IntsAt.drew {w : World} {ad : Option Addr} {n : Nat} {Z : Nat → Int} (h : IntsAt w ad n Z) : IntsAt w.drew ad n Z := h
theorem IntsAt.new {w : World} {ad : Option Addr} {n : Nat} {Z : Nat → Int} (h : IntsAt w ad n Z) (o : Obj) : IntsAt (w.alloc o) ad n Z :=
  h.kept (by simp) fun _ _ hb => Below.heap_alloc _ _ _ hb
theorem IntsAt.row {w : World} {b n : Nat} {t : TypeId} {Z : Nat → Int} (h : w.rowIs b t n (fun i => .int .i64 (Z i))) : IntsAt w (some ⟨b, 0, none⟩) n Z :=
  .inr ⟨b, 0, rfl, h.lt, fun i hi => by rw [Nat.zero_add]; exact h.cell hi⟩
theorem IntsAt.congr {w : World} {ad : Option Addr} {n : Nat} {Z Y : Nat → Int} (h : IntsAt w ad n Z) (e : ∀ i, i < n → Z i = Y i) : IntsAt w ad n Y := by
  rcases h with h | ⟨b, off, rfl, hb, hc⟩
  · exact .inl h
  · exact .inr ⟨b, off, rfl, hb, fun i hi => by rw [← e i hi]; exact hc i hi⟩

/-- Is x one of the first i numbers? -/
def seenB (Z : Nat → Int) : Nat → Nat → Bool
  | 0, _ => false
  | i + 1, x => seenB Z i x || decide (Z i = (x : Int))
def okAt (n : Nat) (Z : Nat → Int) (i : Nat) : Bool := decide (0 ≤ Z i) && (decide (Z i < (n : Int)) && !seenB Z i (Z i).toNat)
def okUpto (n : Nat) (Z : Nat → Int) : Nat → Bool
  | 0 => true
  | i + 1 => okUpto n Z i && okAt n Z i
def permB (len : Nat) (Z : Nat → Int) (n : Nat) : Bool := decide (len = n) && okUpto n Z n
theorem okAt_neg {n i : Nat} {Z : Nat → Int} (h : Z i < 0) : okAt n Z i = false := by
  have : decide (0 ≤ Z i) = false := by simp; omega
  rw [okAt, this]; rfl
theorem okAt_big {n i : Nat} {Z : Nat → Int} (h : (n : Int) ≤ Z i) : okAt n Z i = false := by
  have : decide (Z i < (n : Int)) = false := by simp; omega
  rw [okAt, this]; simp
theorem okAt_seen {n i z : Nat} {Z : Nat → Int} (hz : Z i = (z : Int)) (h : seenB Z i z = true) : okAt n Z i = false := by
  rw [okAt, hz, Int.toNat_natCast, h]; simp
theorem okAt_ok {n i z : Nat} {Z : Nat → Int} (hz : Z i = (z : Int)) (hn : z < n) (h : seenB Z i z = false) : okAt n Z i = true := by
  rw [okAt, hz, Int.toNat_natCast, h]; simp; omega
theorem okUpto_get {n : Nat} {Z : Nat → Int} : ∀ {k : Nat}, okUpto n Z k = true → ∀ i, i < k → okAt n Z i = true
  | 0, _, i, hi => absurd hi (Nat.not_lt_zero _)
  | k + 1, h, i, hi => by
    rw [okUpto, Bool.and_eq_true] at h
    by_cases e : i = k
    · rw [e]; exact h.2
    · exact okUpto_get h.1 i (by omega)
theorem okUpto_false {n : Nat} {Z : Nat → Int} {k i : Nat} (hi : i < k) (h : okAt n Z i = false) : okUpto n Z k = false := by
  cases e : okUpto n Z k with
  | false => rfl
  | true => rw [okUpto_get e i hi] at h; cases h
theorem permB_false {n : Nat} {Z : Nat → Int} {i : Nat} (hi : i < n) (h : okAt n Z i = false) : permB n Z n = false := by
  rw [permB, okUpto_false hi h]; simp
theorem seenB_iff {Z : Nat → Int} : ∀ {i x : Nat}, seenB Z i x = true ↔ ∃ j, j < i ∧ Z j = (x : Int)
  | 0, x => by simp [seenB]
  | i + 1, x => by
    rw [seenB, Bool.or_eq_true, seenB_iff, decide_eq_true_eq]
    constructor
    · rintro (⟨j, hj, e⟩ | e)
      · exact ⟨j, by omega, e⟩
      · exact ⟨i, by omega, e⟩
    · rintro ⟨j, hj, e⟩
      by_cases h : j = i
      · subst h; exact .inr e
      · exact .inl ⟨j, by omega, e⟩
/-- What 'each variable once' says. -/
theorem permB_spec {len n : Nat} {Z : Nat → Int} (h : permB len Z n = true) : len = n ∧ (∀ i, i < n → 0 ≤ Z i ∧ Z i < (n : Int)) ∧ ∀ i j, i < n → j < i → Z j ≠ Z i := by
  rw [permB, Bool.and_eq_true, decide_eq_true_eq] at h
  have g := fun i hi => okUpto_get h.2 i hi
  have g1 : ∀ i, i < n → 0 ≤ Z i ∧ Z i < (n : Int) ∧ seenB Z i (Z i).toNat = false := fun i hi => by
    have := g i hi
    simp only [okAt, Bool.and_eq_true, decide_eq_true_eq, Bool.not_eq_true'] at this
    exact this
  refine ⟨h.1, fun i hi => ⟨(g1 i hi).1, (g1 i hi).2.1⟩, fun i j hi hj e => ?_⟩
  have := (g1 i hi).2.2
  have h2 : seenB Z i (Z i).toNat = true := seenB_iff.2 ⟨j, hj, by rw [e]; have := (g1 i hi).1; omega⟩
  rw [this] at h2
  cases h2

theorem seen_set {w : World} {S i z : Nat} {Z : Nat → Int} (h : w.rowIs S 111 8 (fun x => .bool (seenB Z i x))) (hz : Z i = (z : Int)) :
    (w.setCell ⟨S, z, none⟩ (.bool true)).rowIs S 111 8 (fun x => .bool (seenB Z (i + 1) x)) :=
  (h.set z _).congr fun j _ => by
    by_cases e : j = z
    · subst e
      simp [seenB, hz]
    · have : ¬ Z i = (j : Int) := by rw [hz]; omega
      simp [seenB, e, this]

theorem seen_start (w : World) (Z : Nat → Int) : (w.alloc (.cells #[.bool false, .bool false, .bool false, .bool false, .bool false, .bool false, .bool false, .bool false] 111)).rowIs w.heap.size 111 8 (fun x => .bool (seenB Z 0 x)) :=
  World.rowIs_alloc w #[.bool false, .bool false, .bool false, .bool false, .bool false, .bool false, .bool false, .bool false] 111 _ fun i hi => by
    have : i = 0 ∨ i = 1 ∨ i = 2 ∨ i = 3 ∨ i = 4 ∨ i = 5 ∨ i = 6 ∨ i = 7 := by simp at hi; omega
    rcases this with rfl | rfl | rfl | rfl | rfl | rfl | rfl | rfl <;> rfl

set_option maxHeartbeats 800000 in
theorem each_any {w : World} {P n : Nat} {v l : Nat → Nat} (h : IsOrd w P n v l) {ad : Option Addr} {len c : Nat} {Z : Nat → Int} (hz : IntsAt w ad len Z) (hn : n ≤ 8) :
    Calls Tryz.prog 76 #[.pointer (some ⟨P, 0, none⟩), .slice ad len c] w fun e w' => e = .returned (.bool (permB len Z n)) ∧ Below w.heap.size w w' := by
  have c0 := h.cell0
  by_cases hnm : len = n
  · subst hnm
    go_enter Tryz.func76, Tryz.ntmps76
    go_wp2_with fail
    go_loopg [17] len (fun g si wr => ∃ j : Nat, j + g = len ∧ si = .int .i64 (j : Int) ∧ okUpto len Z j = true ∧ Below w.heap.size w wr ∧ wr.rowIs w.heap.size 111 8 (fun x => .bool (seenB Z j x)))
    case atStart => exact ⟨0, by omega, rfl, rfl, (Below.refl _ w).alloc (Nat.le_refl _) _, seen_start w Z⟩
    case round =>
      obtain ⟨j, hj, rfl, he, hb, hr⟩ := hrel
      have hJ : Aside (j + gk = len) := hj
      have hE : Aside (okUpto len Z j = true) := he
      have ho := h.below hb
      clear he
      by_cases hlt : j < len
      · have hlt' : (j : Int) < (len : Int) := by omega
        rcases hz with hz | ⟨b1, o1, rfl, hb1, hc1⟩
        · omega
        have k1 : wr.cell? ⟨b1, o1 + j, none⟩ = some (.int .i64 (Z j)) := by rw [hb.cell hb1]; exact hc1 j hlt
        by_cases h0 : Z j < 0 ∨ (len : Int) ≤ Z j
        · have hF : Aside (permB len Z len = false) := permB_false hlt (by rcases h0 with h0 | h0; exact okAt_neg h0; exact okAt_big h0)
          have H := has_out ho (Z j) h0
          generalize Z j = z at k1 H
          clear hj h0
          go_wp2_with (go_at_call 68; refine H.mono ?_; clear H; rintro e w' ⟨rfl, rfl⟩)
          go_ret
          rw [hF.out]
          exact ⟨rfl, hb⟩
        · obtain ⟨z, hzz⟩ : ∃ z : Nat, Z j = (z : Int) := ⟨(Z j).toNat, by omega⟩
          have hz8 : z < 8 := by omega
          have hz8' : (z : Int) < 8 := by omega
          have H := has_in ho z (by omega)
          have k2 : wr.cell? ⟨w.heap.size, z, none⟩ = some (.bool (seenB Z j z)) := hr.cell hz8
          have f2 := hr.frozen z
          have hr2 : Aside ((wr.setCell ⟨w.heap.size, z, none⟩ (.bool true)).rowIs w.heap.size 111 8 (fun x => .bool (seenB Z (j + 1) x))) := seen_set hr hzz
          rw [hzz] at k1
          by_cases hsn : seenB Z j z = true
          · have hF : Aside (permB len Z len = false) := permB_false hlt (okAt_seen hzz hsn)
            rw [hsn] at k2
            clear hj hzz h0 hsn
            go_wp2_with (go_at_call 68; refine H.mono ?_; clear H; rintro e w' ⟨rfl, rfl⟩)
            go_ret
            rw [hF.out]
            exact ⟨rfl, hb⟩
          · have hsn' : seenB Z j z = false := by simpa using hsn
            have hE' : Aside (okUpto len Z (j + 1) = true) := by
              simp only [Aside, okUpto]
              rw [hE.out, okAt_ok hzz (by omega) hsn']
              rfl
            rw [hsn'] at k2
            clear hj hzz h0 hsn hsn'
            go_wp2_with (go_at_call 68; refine H.mono ?_; clear H; rintro e w' ⟨rfl, rfl⟩)
            go_roundg (gk - 1)
            case measure => have := hJ.out; omega
            case rel =>
              have hj := hJ.out
              exact ⟨j + 1, by omega, by go_num, hE'.out, hb.setCell (Nat.le_refl _) _, hr2.out⟩
      · obtain rfl : j = len := by omega
        clear hj
        go_wp2_with fail
        go_ret
        rw [permB, hE.out]
        exact ⟨by simp, hb⟩
  · have hd : Aside (permB len Z n = false) := by simp [Aside, permB, hnm]
    have hnm' : ¬ (len : Int) = (n : Int) := by omega
    go_enter Tryz.func76, Tryz.ntmps76
    go_wp2_with fail
    go_ret
    rw [hd.out]
    exact ⟨rfl, Below.refl _ _⟩

/-- What Set leaves. -/
def setV (v : Nat → Nat) (Z : Nat → Int) : Nat → Nat → Nat
  | 0 => v
  | i + 1 => upd (setV v Z i) i (Z i).toNat
def setL (l : Nat → Nat) (Z : Nat → Int) : Nat → Nat → Nat
  | 0 => l
  | i + 1 => upd (setL l Z i) (Z i).toNat i
set_option maxHeartbeats 800000 in
theorem set_ok {w : World} {P n : Nat} {v l : Nat → Nat} (h : IsOrd w P n v l) {ad : Option Addr} {len c : Nat} {Z : Nat → Int} (hz : IntsAt w ad len Z) (hn : n ≤ 8) (hP : ∀ a, ad = some a → a.block ≠ P) (hp : permB len Z n = true) :
    Calls Tryz.prog 52 #[.pointer (some ⟨P, 0, none⟩), .slice ad len c] w fun e w' => e = .returned (.int .i64 0) ∧ IsOrd w' P n (setV v Z n) (setL l Z n) ∧ Moved P w w' := by
  obtain ⟨hlen, hrange, _⟩ := permB_spec hp
  subst hlen
  have H := each_any h hz hn (c := c)
  rw [hp] at H
  clear hp
  go_enter Tryz.func52, Tryz.ntmps52
  go_wp2_with (go_at_call 76; refine H.mono ?_; clear H; rintro e w1 ⟨rfl, b1⟩)
  go_loopg [13] len (fun g si wr => ∃ j : Nat, j + g = len ∧ si = .int .i64 (j : Int) ∧ IsOrd wr P len (setV v Z j) (setL l Z j) ∧ Moved P w wr)
  case atStart => exact ⟨0, by omega, rfl, h.below b1, Moved.of_below b1⟩
  case round =>
    obtain ⟨j, hj, rfl, ho, hm⟩ := hrel
    have hJ : Aside (j + gk = len) := hj
    by_cases hlt : j < len
    · have hlt' : (j : Int) < (len : Int) := by omega
      have hzr := hz.moved hm hP
      rcases hzr with hz0 | ⟨b1, o1, rfl, hb1, hc1⟩
      · omega
      have k1 : wr.cell? ⟨b1, o1 + j, none⟩ = some (.int .i64 (Z j)) := hc1 j hlt
      have hr := hrange j hlt
      obtain ⟨z, hzz⟩ : ∃ z : Nat, Z j = (z : Int) := ⟨(Z j).toNat, by omega⟩
      have hS : Aside ((Z j).toNat = z) := by simp only [Aside]; omega
      have H := put_any ho j z (by omega) (by omega)
      rw [hzz] at k1
      clear hj hzz hr hc1
      go_wp2_with (go_at_call 64; refine H.mono ?_; clear H; rintro e w2 ⟨rfl, o2, m2⟩)
      go_roundg (gk - 1)
      case measure => have := hJ.out; omega
      case rel =>
        have hj := hJ.out
        refine ⟨j + 1, by omega, by go_num, ?_, hm.trans m2⟩
        rw [setV, setL, hS.out]
        exact o2
    · obtain rfl : j = len := by omega
      clear hj
      go_wp2_with fail
      go_ret
      exact ⟨rfl, ho, hm⟩

theorem set_no {w : World} {P n : Nat} {v l : Nat → Nat} (h : IsOrd w P n v l) {ad : Option Addr} {len c : Nat} {Z : Nat → Int} (hz : IntsAt w ad len Z) (hn : n ≤ 8) (hp : permB len Z n = false) :
    Calls Tryz.prog 52 #[.pointer (some ⟨P, 0, none⟩), .slice ad len c] w fun e w' => e = .returned (.int .i64 40) ∧ Below w.heap.size w w' := by
  have H := each_any h hz hn (c := c)
  rw [hp] at H
  clear hp
  go_enter Tryz.func52, Tryz.ntmps52
  go_wp2_with (go_at_call 76; refine H.mono ?_; clear H; rintro e w1 ⟨rfl, b1⟩)
  go_ret
  exact ⟨rfl, b1⟩

end Go.Proofs.YteickckgljlacaaGreat.Od
