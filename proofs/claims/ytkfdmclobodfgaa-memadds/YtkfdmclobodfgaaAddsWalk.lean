/-
  The walk of MemAdds: for every row of turns it tells true, and old memory is as it was.
-/
import Derived.Test.YtkfdmclobodfgaaSumsWalk
namespace Go.Proofs.Ytkfdmclobodfgaa
open Go Go.RowKit

/-- What is so behind k turns: the cell holds x, as many as were added; two arrays of the law's own say who has seen what. -/
structure Added (W w : World) (P R A S k : Nat) (x : Int) (c : Nat → Int) (q f : Int) (hs : Nat → Bool) (sw : Nat → Int) : Prop where
  mem : IsMem w P R 1 c q f
  cell : c 0 = x
  few : 0 ≤ x ∧ x ≤ k
  ops : 0 ≤ q ∧ q ≤ 3 * k
  fails : 0 ≤ f ∧ f ≤ k
  has : w.rowIs A 37 4 (fun i => .bool (hs i))
  saw : w.rowIs S 38 4 (fun i => .int .u64 (sw i))
  old : Below W.heap.size W w
  hP : W.heap.size ≤ P
  hR : W.heap.size ≤ R
  hA : W.heap.size ≤ A
  hS : W.heap.size ≤ S
  ap : A ≠ P
  ar : A ≠ R
  sp : S ≠ P
  sr : S ≠ R
  as' : A ≠ S

/-- Who has seen, with one of them turned. -/
def updB (hs : Nat → Bool) (i : Nat) (v : Bool) : Nat → Bool := fun j => if j = i then v else hs j

theorem has_set {w : World} {A : Nat} {hs : Nat → Bool} (h : w.rowIs A 37 4 (fun i => .bool (hs i))) (d : Nat) (v : Bool) : (w.setCell ⟨A, d, none⟩ (.bool v)).rowIs A 37 4 (fun i => .bool (updB hs d v i)) :=
  (h.set d (.bool v)).congr fun j _ => by by_cases e : j = d <;> simp [updB, e]
theorem saw_set {w : World} {S : Nat} {sw : Nat → Int} (h : w.rowIs S 38 4 (fun i => .int .u64 (sw i))) (d : Nat) (v : Int) : (w.setCell ⟨S, d, none⟩ (.int .u64 v)).rowIs S 38 4 (fun i => .int .u64 (upd sw d v i)) :=
  (h.set d (.int .u64 v)).congr fun j _ => by by_cases e : j = d <;> simp [upd, e]

/-- A turn that looks. -/
theorem Added.seen {W w : World} {P R A S k : Nat} {x : Int} {c : Nat → Int} {q f : Int} {hs : Nat → Bool} {sw : Nat → Int} (L : Added W w P R A S k x c q f hs sw) {w6 : World} (m6 : IsMem w6 P R 1 c (q + 1) f) (b6 : Moved P R w w6) (d : Nat) :
    Added W ((w6.setCell ⟨A, d, none⟩ (.bool true)).setCell ⟨S, d, none⟩ (.int .u64 x)) P R A S (k + 1) x c (q + 1) f (updB hs d true) (upd sw d x) := by
  have h1 := L.few
  have h2 := L.ops
  have h3 := L.fails
  have H6 := L.has.of_block (b6.block _ L.has.lt L.ap L.ar)
  have S6 := L.saw.of_block (b6.block _ L.saw.lt L.sp L.sr)
  refine ⟨?_, L.cell, by omega, by omega, by omega, (has_set H6 d true).setOther L.as' _, saw_set (S6.setOther L.as'.symm _) d x, ((L.old.trans (b6.below L.old.size L.hP L.hR)).setCell L.hA _).setCell L.hS _, L.hP, L.hR, L.hA, L.hS, L.ap, L.ar, L.sp, L.sr, L.as'⟩
  exact (m6.of_blocks (Below.heap_setCell _ _ _ _ L.ap.symm) (Below.heap_setCell _ _ _ _ L.ar.symm)).of_blocks (Below.heap_setCell _ _ _ _ L.sp.symm) (Below.heap_setCell _ _ _ _ L.sr.symm)

/-- A turn that has seen lets go of it. -/
theorem Added.lets {W w : World} {P R A S k : Nat} {x : Int} {c : Nat → Int} {q f : Int} {hs : Nat → Bool} {sw : Nat → Int} (L : Added W w P R A S k x c q f hs sw) (d : Nat) :
    Added W (w.setCell ⟨A, d, none⟩ (.bool false)) P R A S k x c q f (updB hs d false) sw :=
  ⟨L.mem.of_blocks (Below.heap_setCell _ _ _ _ L.ap.symm) (Below.heap_setCell _ _ _ _ L.ar.symm), L.cell, L.few, L.ops, L.fails, has_set L.has d false, L.saw.setOther L.as'.symm _, L.old.setCell L.hA _, L.hP, L.hR, L.hA, L.hS, L.ap, L.ar, L.sp, L.sr, L.as'⟩

/-- A turn that tries, and looks again. -/
theorem Added.tried {W w : World} {P R A S k : Nat} {x : Int} {c : Nat → Int} {q f : Int} {hs : Nat → Bool} {sw : Nat → Int} (L : Added W w P R A S k x c q f hs sw) {w8 : World} {x' : Int} {c' : Nat → Int} {f' : Int} (m8 : IsMem w8 P R 1 c' (q + 1 + 1) f') (b8 : Moved P R w w8)
    (hx : c' 0 = x') (h1 : 0 ≤ x' ∧ x' ≤ x + 1) (h2 : 0 ≤ f' ∧ f' ≤ f + 1) : Added W w8 P R A S (k + 1) x' c' (q + 1 + 1) f' hs sw := by
  have g1 := L.few
  have g2 := L.ops
  have g3 := L.fails
  exact ⟨m8, hx, by omega, by omega, by omega, L.has.of_block (b8.block _ L.has.lt L.ap L.ar), L.saw.of_block (b8.block _ L.saw.lt L.sp L.sr), L.old.trans (b8.below L.old.size L.hP L.hR), L.hP, L.hR, L.hA, L.hS, L.ap, L.ar, L.sp, L.sr, L.as'⟩

theorem adds_long (ad : Option Addr) (len cap : Nat) (W : World) (hlen : 200 < len) :
    Calls Try.prog 4 #[.slice ad len cap] W fun e w' => e = .returned (.bool true) ∧ Below W.heap.size W w' := by
  have hd : decide (200 < (len : Int)) = true := by simp; omega
  go_enter Try.func4, Try.ntmps4
  go_wp2_with (first
    | (go_at_call 8; refine (known_any W).mono ?_; rintro e w1 ⟨rfl, b1⟩))
  go_ret
  exact ⟨rfl, b1⟩

set_option maxHeartbeats 1600000 in
theorem adds_walk (ad : Option Addr) (b off len cap : Nat) (Z : Nat → Int) (hZ : ∀ k, k < len → 0 ≤ Z k ∧ Z k ≤ 255) (W : World) (hb : 0 < len → b < W.heap.size) (hcell : ∀ k, k < len → W.cell? ⟨b, off + k, none⟩ = some (.int .u8 (Z k)))
    (hlen : len ≤ 200) (had : Aside (0 < len → ad = some ⟨b, off, none⟩)) :
    Calls Try.prog 4 #[.slice ad len cap] W fun e w' => e = .returned (.bool true) ∧ Below W.heap.size W w' := by
  have hd : decide (200 < (len : Int)) = false := by simp; omega
  have hh1 : held 1 = 1 := by decide
  go_enter Try.func4, Try.ntmps4
  go_wp2_with (first
    | (go_at_call 8; refine (known_any W).mono ?_; rintro e w1 ⟨rfl, b1⟩)
    | (go_at_call 9; refine (new_any 1 w1).mono ?_; rw [hh1]; rintro e w2 ⟨rfl, m2, n2, s2⟩))
  go_loopg [6, 7] len (fun g sx si wr => ∃ (k : Nat) (x : Int) (c : Nat → Int) (q f : Int) (hs : Nat → Bool) (sw : Nat → Int), k + g = len ∧ sx = .int .u64 x ∧ si = .int .i64 (k : Int) ∧ Added W wr (w1.heap.size + 1) w1.heap.size (w1.heap.size + 2) (w1.heap.size + 3) k x c q f hs sw)
  case atStart =>
    have hsz := b1.size
    have B2 := below_far b1 n2
    refine ⟨0, 0, fun _ => 0, 0, 0, fun _ => false, fun _ => 0, by omega, rfl, rfl, ⟨(m2.new _).new _, rfl, by decide, by decide, by decide, ?_, ?_, (B2.alloc (by omega) _).alloc (by simp; omega) _, by omega, by omega, by omega, by omega, by omega, by omega, by omega, by omega, by omega⟩⟩
    · refine World.rowIs.alloc ?_ _
      rw [← s2]
      exact World.rowIs_alloc w2 #[.bool false, .bool false, .bool false, .bool false] 37 (fun _ => .bool false) (fun i hi => by
        have : i = 0 ∨ i = 1 ∨ i = 2 ∨ i = 3 := by simp at hi; omega
        rcases this with rfl | rfl | rfl | rfl <;> rfl)
    · rw [show w1.heap.size + 3 = (w2.alloc (.cells #[.bool false, .bool false, .bool false, .bool false] 37)).heap.size by simp; omega]
      exact World.rowIs_alloc _ #[.int .u64 0, .int .u64 0, .int .u64 0, .int .u64 0] 38 (fun _ => .int .u64 0) (fun i hi => by
        have : i = 0 ∨ i = 1 ∨ i = 2 ∨ i = 3 := by simp at hi; omega
        rcases this with rfl | rfl | rfl | rfl <;> rfl)
  case round =>
    obtain ⟨k, x, c, q, f, hs, sw, hk, rfl, rfl, L⟩ := hrel
    have hK : Aside (k + gk = len) := hk
    have hL : Aside (len ≤ 200) := hlen
    by_cases hkl : k < len
    · have hb := hb (by omega)
      obtain rfl := had.out (by omega)
      clear had
      have hz := hZ k hkl
      have hc : wr.cell? ⟨b, off + k, none⟩ = some (.int .u8 (Z k)) := by rw [L.old.cell hb]; exact hcell k hkl
      generalize Z k = z at hz hc
      obtain ⟨d, hd4, hdd⟩ : ∃ d : Nat, d < 4 ∧ z % 4 = (d : Int) := ⟨(z % 4).toNat, by omega, by omega⟩
      have hd4' : (d : Int) < 4 := by omega
      have hx9 := L.few
      have hq9 : 0 ≤ q ∧ q ≤ 1000 := by have := L.ops; omega
      have hf9 : 0 ≤ f ∧ f ≤ 1000 := by have := L.fails; omega
      have hxk : x ≤ 200 := by omega
      clear hk
      by_cases hh : hs d = true
      · have hs0 : wr.cell? ⟨w1.heap.size + 2, d, none⟩ = some (.bool true) := by rw [L.has.cell hd4, hh]
        have hf0 := L.has.frozen d
        go_wp2_with fail
        have L5 := L.lets d
        generalize wr.setCell ⟨w1.heap.size + 2, d, none⟩ (.bool false) = w5 at L5 ⊢
        have hs5 : w5.cell? ⟨w1.heap.size + 3, d, none⟩ = some (.int .u64 (sw d)) := L5.saw.cell hd4
        by_cases hsx : sw d = x
        · rw [hsx] at hs5
          have hwx : IntKind.u64.wrap (x + 1) = x + 1 := by rw [IntKind.wrap_u64]; omega
          go_region_with (first
            | (go_at_call 12; refine (hit_at L5.mem.drew 0 x (x + 1) L5.cell (by decide) (by omega)).mono ?_; rintro e w6 ⟨rfl, m6, b6⟩))
          all_goals go_wp2_with (first
            | (go_at_call 10; refine (load_at m6 0 (x + 1) (upd_same _ _ _) (by decide) (by omega)).mono ?_; rintro e w7 ⟨rfl, m7, b7⟩))
          all_goals go_roundg (gk - 1)
          all_goals first
            | (have := hK.out; omega)
            | (have hk := hK.out
               exact ⟨k + 1, x + 1, _, q + 1 + 1, f, _, _, by omega, rfl, rfl, L5.tried m7 (b6.undrew.trans b7) (upd_same _ _ _) (by omega) (by omega)⟩)
        · have hne : ¬ c 0 = sw d := by rw [L5.cell]; exact fun h => hsx h.symm
          go_region_with (first
            | (go_at_call 12; refine (cas_miss _ _ _ _ _ _ _ 0 (sw d) _ (by decide) hne (by omega) (by omega) L5.mem.drew).mono ?_; rintro e w6 ⟨rfl, m6, b6⟩))
          all_goals go_wp2_with (first
            | (go_at_call 10; refine (load_at m6 0 x L5.cell (by decide) (by omega)).mono ?_; rintro e w7 ⟨rfl, m7, b7⟩))
          all_goals go_roundg (gk - 1)
          all_goals first
            | (have := hK.out; omega)
            | (have hk := hK.out
               exact ⟨k + 1, x, c, q + 1 + 1, f + 1, _, _, by omega, rfl, rfl, L5.tried m7 (b6.undrew.trans b7) L5.cell (by omega) (by omega)⟩)
      · have hh' : hs d = false := by simpa using hh
        clear hh
        have hs0 : wr.cell? ⟨w1.heap.size + 2, d, none⟩ = some (.bool false) := by rw [L.has.cell hd4, hh']
        go_wp2_with fail
        have hf0 := L.has.frozen d
        have hf1 := L.saw.frozen d
        have hs1 : wr.cell? ⟨w1.heap.size + 3, d, none⟩ = some (.int .u64 (sw d)) := L.saw.cell hd4
        go_region_with (first
          | (go_at_call 10; refine (load_at L.mem.drew 0 x L.cell (by decide) (by omega)).mono ?_; rintro e w6 ⟨rfl, m6, b6⟩; have H6 := L.has.of_block (b6.block _ L.has.lt L.ap L.ar); have S6 := L.saw.of_block (b6.block _ L.saw.lt L.sp L.sr); have c60 := H6.cell hd4; have f60 := H6.frozen d; have c61 := S6.cell hd4; have f61 := S6.frozen d))
        go_wp2_with fail
        go_roundg (gk - 1)
        case measure => have := hK.out; omega
        case rel =>
          have hk := hK.out
          exact ⟨k + 1, x, c, q + 1, f, _, _, by omega, rfl, rfl, L.seen m6 b6.undrew d⟩
    · have hkl' : k = len := by have := hK.out; omega
      subst hkl'
      have hq9 : 0 ≤ q ∧ q ≤ 1000 := by have := L.ops; omega
      go_wp2_with (first
        | (go_at_call 10; refine (load_at L.mem 0 x L.cell (by decide) (by omega)).mono ?_; rintro e w3 ⟨rfl, m3, b3⟩))
      go_ret
      exact ⟨rfl, L.old.trans (b3.below L.old.size L.hP L.hR)⟩

end Go.Proofs.Ytkfdmclobodfgaa
