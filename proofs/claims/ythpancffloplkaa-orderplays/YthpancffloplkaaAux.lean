/-
  Slices of numbers; the statements' own comparisons (same, perm); Set of package order.
-/
import Derived.Test.YthpancffloplkaaNew
namespace Go.Proofs.Ythpancffloplkaa
open Go Go.RowKit

/-- A slice of n numbers in the world. -/
def IntsAt (w : World) (ad : Option Addr) (n : Nat) (Z : Nat → Int) : Prop :=
  n = 0 ∨ ∃ b off, ad = some ⟨b, off, none⟩ ∧ b < w.heap.size ∧ ∀ i, i < n → w.cell? ⟨b, off + i, none⟩ = some (.int .i64 (Z i))

theorem IntsAt.kept {w w' : World} {ad : Option Addr} {n : Nat} {Z : Nat → Int} (h : IntsAt w ad n Z) (hs : w.heap.size ≤ w'.heap.size) (k : ∀ a, ad = some a → a.block < w.heap.size → w'.heap[a.block]? = w.heap[a.block]?) : IntsAt w' ad n Z := by
  rcases h with h | ⟨b, off, rfl, hb, hc⟩
  · exact .inl h
  · exact .inr ⟨b, off, rfl, Nat.lt_of_lt_of_le hb hs, fun i hi => (World.cell?_of_block (a := ⟨b, off + i, none⟩) (k ⟨b, off, none⟩ rfl hb)).trans (hc i hi)⟩
theorem IntsAt.below {w w' : World} {ad : Option Addr} {n : Nat} {Z : Nat → Int} (h : IntsAt w ad n Z) (k : Below w.heap.size w w') : IntsAt w' ad n Z :=
  h.kept k.size fun _ _ hb => k.block _ hb
theorem IntsAt.moved {w w' : World} {ad : Option Addr} {n P : Nat} {Z : Nat → Int} (h : IntsAt w ad n Z) (k : Moved P w w') (hP : ∀ a, ad = some a → a.block ≠ P) : IntsAt w' ad n Z :=
  h.kept k.size fun a ha hb => k.block _ hb (hP a ha)
theorem IntsAt.drew {w : World} {ad : Option Addr} {n : Nat} {Z : Nat → Int} (h : IntsAt w ad n Z) : IntsAt w.drew ad n Z := h
theorem IntsAt.new {w : World} {ad : Option Addr} {n : Nat} {Z : Nat → Int} (h : IntsAt w ad n Z) (o : Obj) : IntsAt (w.alloc o) ad n Z :=
  h.kept (by simp) fun _ _ hb => Below.heap_alloc _ _ _ hb
theorem IntsAt.row {w : World} {b n : Nat} {t : TypeId} {Z : Nat → Int} (h : w.rowIs b t n (fun i => .int .i64 (Z i))) : IntsAt w (some ⟨b, 0, none⟩) n Z :=
  .inr ⟨b, 0, rfl, h.lt, fun i hi => by rw [Nat.zero_add]; exact h.cell hi⟩
theorem IntsAt.congr {w : World} {ad : Option Addr} {n : Nat} {Z Y : Nat → Int} (h : IntsAt w ad n Z) (e : ∀ i, i < n → Z i = Y i) : IntsAt w ad n Y := by
  rcases h with h | ⟨b, off, rfl, hb, hc⟩
  · exact .inl h
  · exact .inr ⟨b, off, rfl, hb, fun i hi => by rw [← e i hi]; exact hc i hi⟩

def eqUpto (Z Y : Nat → Int) : Nat → Bool
  | 0 => true
  | k + 1 => eqUpto Z Y k && decide (Z k = Y k)
def sameB (n : Nat) (Z : Nat → Int) (m : Nat) (Y : Nat → Int) : Bool := decide (n = m) && eqUpto Z Y n
theorem eqUpto_true {Z Y : Nat → Int} : ∀ {n : Nat}, (∀ i, i < n → Z i = Y i) → eqUpto Z Y n = true
  | 0, _ => rfl
  | n + 1, h => by rw [eqUpto, eqUpto_true fun i hi => h i (by omega), h n (by omega)]; simp
theorem eqUpto_get {Z Y : Nat → Int} : ∀ {n : Nat}, eqUpto Z Y n = true → ∀ i, i < n → Z i = Y i
  | 0, _, i, hi => absurd hi (Nat.not_lt_zero _)
  | n + 1, h, i, hi => by
    rw [eqUpto, Bool.and_eq_true, decide_eq_true_eq] at h
    by_cases e : i = n
    · rw [e]; exact h.2
    · exact eqUpto_get h.1 i (by omega)
theorem eqUpto_false {Z Y : Nat → Int} {n i : Nat} (hi : i < n) (h : ¬ Z i = Y i) : eqUpto Z Y n = false := by
  cases e : eqUpto Z Y n with
  | false => rfl
  | true => exact absurd (eqUpto_get e i hi) h
theorem sameB_true {n : Nat} {Z Y : Nat → Int} (h : ∀ i, i < n → Z i = Y i) : sameB n Z n Y = true := by
  rw [sameB, eqUpto_true h]; simp
theorem sameB_false {n i : Nat} {Z Y : Nat → Int} (hi : i < n) (h : ¬ Z i = Y i) : sameB n Z n Y = false := by
  rw [sameB, eqUpto_false hi h]; simp

theorem below_far {a b c : World} (h : Below a.heap.size a b) (k : Below b.heap.size b c) : Below a.heap.size a c :=
  h.trans (k.mono h.size)

set_option maxHeartbeats 400000 in
theorem same_any {w : World} {ad bd : Option Addr} {n m c d : Nat} {Z Y : Nat → Int} (hz : IntsAt w ad n Z) (hy : IntsAt w bd m Y) (hn : n ≤ 1000) :
    Calls Try.prog 12 #[.slice ad n c, .slice bd m d] w fun e w' => e = .returned (.bool (sameB n Z m Y)) ∧ Below w.heap.size w w' := by
  by_cases hnm : n = m
  · subst hnm
    go_enter Try.func12, Try.ntmps12
    go_wp2_with fail
    go_loopg [5] n (fun g si wr => ∃ j : Nat, j + g = n ∧ si = .int .i64 (j : Int) ∧ eqUpto Z Y j = true ∧ Below w.heap.size w wr)
    case atStart => exact ⟨0, by omega, rfl, rfl, Below.refl _ _⟩
    case round =>
      obtain ⟨j, hj, rfl, he, hb⟩ := hrel
      have hJ : Aside (j + gk = n) := hj
      have hE : Aside (eqUpto Z Y j = true) := he
      clear he
      by_cases hlt : j < n
      · have hlt' : (j : Int) < (n : Int) := by omega
        rcases hz with hz | ⟨b1, o1, rfl, hb1, hc1⟩
        · omega
        rcases hy with hy | ⟨b2, o2, rfl, hb2, hc2⟩
        · omega
        have k1 : wr.cell? ⟨b1, o1 + j, none⟩ = some (.int .i64 (Z j)) := by rw [hb.cell hb1]; exact hc1 j hlt
        have k2 : wr.cell? ⟨b2, o2 + j, none⟩ = some (.int .i64 (Y j)) := by rw [hb.cell hb2]; exact hc2 j hlt
        by_cases hzy : Z j = Y j
        · have hE' : Aside (eqUpto Z Y (j + 1) = true) := by simp only [Aside, eqUpto]; rw [hE.out, hzy]; simp
          rw [hzy] at k1
          generalize Y j = y at k1 k2
          clear hzy hj
          go_wp2_with fail
          go_region
          go_wp2_with fail
          go_roundg (gk - 1)
          case measure => have := hJ.out; omega
          case rel =>
            have hj := hJ.out
            exact ⟨j + 1, by omega, by go_num, hE'.out, hb.drew⟩
        · have hF : Aside (sameB n Z n Y = false) := sameB_false hlt hzy
          generalize Y j = y at k1 k2 hzy
          generalize Z j = z at k1 k2 hzy
          clear hj
          go_wp2_with fail
          go_region
          go_wp2_with fail
          go_ret
          rw [hF.out]
          exact ⟨rfl, hb.drew⟩
      · obtain rfl : j = n := by omega
        clear hj
        go_wp2_with fail
        go_ret
        rw [sameB, hE.out]
        exact ⟨by simp, hb⟩
  · have hd : Aside (sameB n Z m Y = false) := by simp [Aside, sameB, hnm]
    have hnm' : ¬ (n : Int) = (m : Int) := by omega
    go_enter Try.func12, Try.ntmps12
    go_wp2_with fail
    go_ret
    rw [hd.out]
    exact ⟨rfl, Below.refl _ _⟩

/-- Is x one of the first i numbers? -/
def seenB (Z : Nat → Int) : Nat → Nat → Bool
  | 0, _ => false
  | i + 1, x => seenB Z i x || decide (Z i = (x : Int))
def okAt (n : Nat) (Z : Nat → Int) (i : Nat) : Bool := decide (0 ≤ Z i) && (decide (Z i < (n : Int)) && !seenB Z i (Z i).toNat)
def okUpto (n : Nat) (Z : Nat → Int) : Nat → Bool
  | 0 => true
  | i + 1 => okUpto n Z i && okAt n Z i
def permB (len : Nat) (Z : Nat → Int) (n : Nat) : Bool := decide (len = n) && okUpto n Z n
theorem okAt_neg {n i : Nat} {Z : Nat → Int} (h : Z i < 0) : okAt n Z i = false := by
  have : decide (0 ≤ Z i) = false := by simp; omega
  rw [okAt, this]; rfl
theorem okAt_big {n i : Nat} {Z : Nat → Int} (h : (n : Int) ≤ Z i) : okAt n Z i = false := by
  have : decide (Z i < (n : Int)) = false := by simp; omega
  rw [okAt, this]; simp
theorem okAt_seen {n i z : Nat} {Z : Nat → Int} (hz : Z i = (z : Int)) (h : seenB Z i z = true) : okAt n Z i = false := by
  rw [okAt, hz, Int.toNat_natCast, h]; simp
theorem okAt_ok {n i z : Nat} {Z : Nat → Int} (hz : Z i = (z : Int)) (hn : z < n) (h : seenB Z i z = false) : okAt n Z i = true := by
  rw [okAt, hz, Int.toNat_natCast, h]; simp; omega
theorem okUpto_get {n : Nat} {Z : Nat → Int} : ∀ {k : Nat}, okUpto n Z k = true → ∀ i, i < k → okAt n Z i = true
  | 0, _, i, hi => absurd hi (Nat.not_lt_zero _)
  | k + 1, h, i, hi => by
    rw [okUpto, Bool.and_eq_true] at h
    by_cases e : i = k
    · rw [e]; exact h.2
    · exact okUpto_get h.1 i (by omega)
theorem okUpto_false {n : Nat} {Z : Nat → Int} {k i : Nat} (hi : i < k) (h : okAt n Z i = false) : okUpto n Z k = false := by
  cases e : okUpto n Z k with
  | false => rfl
  | true => rw [okUpto_get e i hi] at h; cases h
theorem permB_false {n : Nat} {Z : Nat → Int} {i : Nat} (hi : i < n) (h : okAt n Z i = false) : permB n Z n = false := by
  rw [permB, okUpto_false hi h]; simp
theorem seenB_iff {Z : Nat → Int} : ∀ {i x : Nat}, seenB Z i x = true ↔ ∃ j, j < i ∧ Z j = (x : Int)
  | 0, x => by simp [seenB]
  | i + 1, x => by
    rw [seenB, Bool.or_eq_true, seenB_iff, decide_eq_true_eq]
    constructor
    · rintro (⟨j, hj, e⟩ | e)
      · exact ⟨j, by omega, e⟩
      · exact ⟨i, by omega, e⟩
    · rintro ⟨j, hj, e⟩
      by_cases h : j = i
      · subst h; exact .inr e
      · exact .inl ⟨j, by omega, e⟩
/-- What 'each variable once' says. -/
theorem permB_spec {len n : Nat} {Z : Nat → Int} (h : permB len Z n = true) : len = n ∧ (∀ i, i < n → 0 ≤ Z i ∧ Z i < (n : Int)) ∧ ∀ i j, i < n → j < i → Z j ≠ Z i := by
  rw [permB, Bool.and_eq_true, decide_eq_true_eq] at h
  have g := fun i hi => okUpto_get h.2 i hi
  have g1 : ∀ i, i < n → 0 ≤ Z i ∧ Z i < (n : Int) ∧ seenB Z i (Z i).toNat = false := fun i hi => by
    have := g i hi
    simp only [okAt, Bool.and_eq_true, decide_eq_true_eq, Bool.not_eq_true'] at this
    exact this
  refine ⟨h.1, fun i hi => ⟨(g1 i hi).1, (g1 i hi).2.1⟩, fun i j hi hj e => ?_⟩
  have := (g1 i hi).2.2
  have h2 : seenB Z i (Z i).toNat = true := seenB_iff.2 ⟨j, hj, by rw [e]; have := (g1 i hi).1; omega⟩
  rw [this] at h2
  cases h2

theorem seen_set {w : World} {S i z : Nat} {Z : Nat → Int} (h : w.rowIs S 46 8 (fun x => .bool (seenB Z i x))) (hz : Z i = (z : Int)) :
    (w.setCell ⟨S, z, none⟩ (.bool true)).rowIs S 46 8 (fun x => .bool (seenB Z (i + 1) x)) :=
  (h.set z _).congr fun j _ => by
    by_cases e : j = z
    · subst e
      simp [seenB, hz]
    · have : ¬ Z i = (j : Int) := by rw [hz]; omega
      simp [seenB, e, this]

theorem seen_start (w : World) (Z : Nat → Int) : (w.alloc (.cells #[.bool false, .bool false, .bool false, .bool false, .bool false, .bool false, .bool false, .bool false] 46)).rowIs w.heap.size 46 8 (fun x => .bool (seenB Z 0 x)) :=
  World.rowIs_alloc w #[.bool false, .bool false, .bool false, .bool false, .bool false, .bool false, .bool false, .bool false] 46 _ fun i hi => by
    have : i = 0 ∨ i = 1 ∨ i = 2 ∨ i = 3 ∨ i = 4 ∨ i = 5 ∨ i = 6 ∨ i = 7 := by simp at hi; omega
    rcases this with rfl | rfl | rfl | rfl | rfl | rfl | rfl | rfl <;> rfl

set_option maxHeartbeats 800000 in
theorem perm_any {w : World} {ad : Option Addr} {len n c : Nat} {Z : Nat → Int} (hz : IntsAt w ad len Z) (hn : n ≤ 8) :
    Calls Try.prog 8 #[.slice ad len c, .int .i64 (n : Int)] w fun e w' => e = .returned (.bool (permB len Z n)) ∧ Below w.heap.size w w' := by
  by_cases hnm : len = n
  · subst hnm
    go_enter Try.func8, Try.ntmps8
    go_wp2_with fail
    go_loopg [6] len (fun g si wr => ∃ j : Nat, j + g = len ∧ si = .int .i64 (j : Int) ∧ okUpto len Z j = true ∧ Below w.heap.size w wr ∧ wr.rowIs w.heap.size 46 8 (fun x => .bool (seenB Z j x)))
    case atStart => exact ⟨0, by omega, rfl, rfl, (Below.refl _ w).alloc (Nat.le_refl _) _, seen_start w Z⟩
    case round =>
      obtain ⟨j, hj, rfl, he, hb, hr⟩ := hrel
      have hJ : Aside (j + gk = len) := hj
      have hE : Aside (okUpto len Z j = true) := he
      clear he
      by_cases hlt : j < len
      · have hlt' : (j : Int) < (len : Int) := by omega
        rcases hz with hz | ⟨b1, o1, rfl, hb1, hc1⟩
        · omega
        have k1 : wr.cell? ⟨b1, o1 + j, none⟩ = some (.int .i64 (Z j)) := by rw [hb.cell hb1]; exact hc1 j hlt
        by_cases h0 : Z j < 0
        · have hF : Aside (permB len Z len = false) := permB_false hlt (okAt_neg h0)
          generalize Z j = z at k1 h0
          clear hj
          go_wp2_with fail
          go_ret
          rw [hF.out]
          exact ⟨rfl, hb⟩
        · by_cases h1 : (len : Int) ≤ Z j
          · have hF : Aside (permB len Z len = false) := permB_false hlt (okAt_big h1)
            have h0' : decide (Z j < 0) = false := by simp; omega
            have h1' : decide ((len : Int) ≤ Z j) = true := by simp; omega
            generalize Z j = z at k1 h0 h1 h0' h1'
            clear hj
            go_wp2_with fail
            go_ret
            rw [hF.out]
            exact ⟨rfl, hb⟩
          · obtain ⟨z, hzz⟩ : ∃ z : Nat, Z j = (z : Int) := ⟨(Z j).toNat, by omega⟩
            have hz8 : z < 8 := by omega
            have hzl : (z : Int) < (len : Int) := by omega
            have h1' : decide ((len : Int) ≤ (z : Int)) = false := by simp; omega
            have hz8' : (z : Int) < 8 := by omega
            have k2 : wr.cell? ⟨w.heap.size, z, none⟩ = some (.bool (seenB Z j z)) := hr.cell hz8
            have f2 := hr.frozen z
            have hr2 : Aside ((wr.setCell ⟨w.heap.size, z, none⟩ (.bool true)).rowIs w.heap.size 46 8 (fun x => .bool (seenB Z (j + 1) x))) := seen_set hr hzz
            rw [hzz] at k1
            by_cases hsn : seenB Z j z = true
            · have hF : Aside (permB len Z len = false) := permB_false hlt (okAt_seen hzz hsn)
              rw [hsn] at k2
              clear hj hzz h0 h1 hsn
              go_wp2_with fail
              go_ret
              rw [hF.out]
              exact ⟨rfl, hb⟩
            · have hsn' : seenB Z j z = false := by simpa using hsn
              have hE' : Aside (okUpto len Z (j + 1) = true) := by
                simp only [Aside, okUpto]
                rw [hE.out, okAt_ok hzz (by omega) hsn']
                rfl
              rw [hsn'] at k2
              clear hj hzz h0 h1 hsn hsn'
              go_wp2_with fail
              go_roundg (gk - 1)
              case measure => have := hJ.out; omega
              case rel =>
                have hj := hJ.out
                exact ⟨j + 1, by omega, by go_num, hE'.out, hb.setCell (Nat.le_refl _) _, hr2.out⟩
      · obtain rfl : j = len := by omega
        clear hj
        go_wp2_with fail
        go_ret
        rw [permB, hE.out]
        exact ⟨by simp, hb⟩
  · have hd : Aside (permB len Z n = false) := by simp [Aside, permB, hnm]
    have hnm' : ¬ (len : Int) = (n : Int) := by omega
    go_enter Try.func8, Try.ntmps8
    go_wp2_with fail
    go_ret
    rw [hd.out]
    exact ⟨rfl, Below.refl _ _⟩
end Go.Proofs.Ythpancffloplkaa
