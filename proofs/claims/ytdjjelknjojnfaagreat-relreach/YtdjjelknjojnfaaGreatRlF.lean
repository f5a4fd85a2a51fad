/-
  The statements' own pair: a table made variable by variable.
-/
import Derived.Test.YtdjjelknjojnfaaGreatRlK
import Derived.Deep.LoopGhost
namespace Go.Proofs.YtdjjelknjojnfaaGreat
open Go Go.RowKit
open Rf (fixAt fixF tab word IsTab halfN)

/-! ## A drawn statement whose last operation stores -/
/-- What holds while it is under way: its first n operations leave values from slot b on, the last one turns the world. -/
structure SG (w5 : World) (n b : Nat) (val : Nat → Value) (fin : World → World) (a0 : Act) (listed : Array Bool) (a : Act) (w : World) : Prop where
  size : a.tmps.size = a0.tmps.size
  defers : a.defers = a0.defers
  other : ∀ s, (s < b ∨ b + n ≤ s) → slot a s = slot a0 s
  vals : ∀ i, i < n → listed.getD i false = true → slot a (b + i) = val i
  world : ∃ wy, Below w5.heap.size w5 wy ∧ w = if listed.getD n false = true then fin wy else wy
section
variable {w5 : World} {n b : Nat} {val : Nat → Value} {fin : World → World} {a0 : Act} {listed : Array Bool} {a : Act} {w w' : World}
theorem SG.start (k : Nat) : SG w5 n b val fin a0 (Array.replicate k false) a0 w5 := by
  refine ⟨rfl, rfl, fun _ _ => rfl, fun i _ hl => ?_, w5, Below.refl _ _, ?_⟩
  · rw [getD_start] at hl; cases hl
  · rw [getD_start]; simp
theorem SG.now (g : SG w5 n b val fin a0 listed a w) (nl : listed.getD n false = false) : Below w5.heap.size w5 w := by
  obtain ⟨wy, h1, h2⟩ := g.world
  rw [nl] at h2
  simp at h2
  subst h2
  exact h1
theorem SG.step (g : SG w5 n b val fin a0 listed a w) {i : Nat} (hi : i < n) (hb : b + n ≤ a0.tmps.size) (nl : listed.getD n false = false) (k : Below w.heap.size w w') : SG w5 n b val fin a0 (listed.setIfInBounds i true) (a.put (some (b + i)) (val i)) w' := by
  refine ⟨by simp [Act.put, g.size], by simp [Act.put, g.defers], fun s hs => ?_, fun j hj hl => ?_, w', Rf.below_far (g.now nl) k, ?_⟩
  · rw [slot_put_ne _ (show @Ne Nat (b + i) s by omega)]
    exact g.other s hs
  · by_cases e : i = j
    · subst e
      exact slot_put_eq _ (show @LT.lt Nat _ (b + i) a.tmps.size by rw [g.size]; omega)
    · rw [getD_set_ne false e] at hl
      rw [slot_put_ne _ (show @Ne Nat (b + i) (b + j) by omega)]
      exact g.vals j hj hl
  · rw [getD_set_ne false (by omega), nl]
    simp
theorem SG.store (g : SG w5 n b val fin a0 listed a w) (hn : listed.size = n + 1) (nl : listed.getD n false = false) : SG w5 n b val fin a0 (listed.setIfInBounds n true) a (fin w) := by
  refine ⟨g.size, g.defers, g.other, fun j hj hl => g.vals j hj (by rwa [getD_set_ne false (by omega)] at hl), w, g.now nl, ?_⟩
  simp [hn]
end
theorem lt6 {i : Nat} (h : i < 6) : i = 0 ∨ i = 1 ∨ i = 2 ∨ i = 3 ∨ i = 4 ∨ i = 5 := by omega
/-- The tables at hand. -/
def T3 (w : World) (b4 bf ba bb : Nat) (F A B : Nat → Bool) : Prop := IsTab w b4 (fun _ => false) ∧ IsTab w bf F ∧ IsTab w ba A ∧ IsTab w bb B
theorem T3.kept {w w' : World} {b4 bf ba bb : Nat} {F A B : Nat → Bool} (h : T3 w b4 bf ba bb F A B) (k : Below w.heap.size w w') : T3 w' b4 bf ba bb F A B := ⟨Rf.IsTab.kept h.1 k, Rf.IsTab.kept h.2.1 k, Rf.IsTab.kept h.2.2.1 k, Rf.IsTab.kept h.2.2.2 k⟩
theorem T3.cells {u : World} {b4 bf ba bb : Nat} {F A B : Nat → Bool} (h : T3 u b4 bf ba bb F A B) : u.cell? ⟨bf, 0, none⟩ = some (.int .u64 (word F 0 : Int)) ∧ u.cell? ⟨bf, 1, none⟩ = some (.int .u64 (word F 1 : Int)) ∧ u.cell? ⟨bf, 2, none⟩ = some (.int .u64 (word F 2 : Int)) ∧ u.cell? ⟨bf, 3, none⟩ = some (.int .u64 (word F 3 : Int)) ∧ u.cell? ⟨ba, 0, none⟩ = some (.int .u64 (word A 0 : Int)) ∧ u.cell? ⟨ba, 1, none⟩ = some (.int .u64 (word A 1 : Int)) ∧ u.cell? ⟨ba, 2, none⟩ = some (.int .u64 (word A 2 : Int)) ∧ u.cell? ⟨ba, 3, none⟩ = some (.int .u64 (word A 3 : Int)) ∧ u.cell? ⟨bb, 0, none⟩ = some (.int .u64 (word B 0 : Int)) ∧ u.cell? ⟨bb, 1, none⟩ = some (.int .u64 (word B 1 : Int)) ∧ u.cell? ⟨bb, 2, none⟩ = some (.int .u64 (word B 2 : Int)) ∧ u.cell? ⟨bb, 3, none⟩ = some (.int .u64 (word B 3 : Int)) := by
  obtain ⟨a0, a1, a2, a3⟩ := h.2.1.copy
  obtain ⟨b0, b1, b2, b3⟩ := h.2.2.1.copy
  obtain ⟨d0, d1, d2, d3⟩ := h.2.2.2.copy
  exact ⟨a0, a1, a2, a3, b0, b1, b2, b3, d0, d1, d2, d3⟩
set_option maxRecDepth 100000 in
set_option maxHeartbeats 4000000 in
theorem lpair_any (a b : Nat) (ha : a < 16) (hb : b < 16) (w : World) :
    Calls Tryz.prog 29 #[.int .u8 (a : Int), .int .u8 (b : Int)] w fun e w' => e = .returned (tab (prUp a b 4)) ∧ Below w.heap.size w w' := by
  have B0 := nb w (.cells #[.int .u64 0, .int .u64 0, .int .u64 0, .int .u64 0] 42)
  have TZ := IsTab.zeroAt (w := w) (n := w.heap.size) rfl
  have a256 : a < 256 := by omega
  have b256 : b < 256 := by omega
  clear ha hb
  go_enter Tryz.func29, Tryz.ntmps29
  go_upto_region 1 with fail
  generalize w.alloc (.cells #[.int .u64 0, .int .u64 0, .int .u64 0, .int .u64 0] 42) = w4 at B0 TZ ⊢
  obtain ⟨b4, hb4⟩ : ∃ b, w.heap.size = b := ⟨_, rfl⟩
  have hbA : Aside (w.heap.size = b4) := hb4
  rw [hb4] at TZ ⊢
  clear hb4
  have KC := Rf.const_any true w4
  unfold tab at KC
  go_upto_region 3 with (first
    | (go_at_call 46; refine KC.mono ?_; clear KC; rintro e w5 ⟨rfl, b5⟩))
  have N6 := nb w5 (.cells #[.int .u64 (word (fun _ => true) 0 : Int), .int .u64 (word (fun _ => true) 1 : Int), .int .u64 (word (fun _ => true) 2 : Int), .int .u64 (word (fun _ => true) 3 : Int)] 42)
  have T6 := IsTab.new w5 (fun _ => true)
  have lt5 : b4 < w5.heap.size := Nat.lt_of_lt_of_le TZ.lt b5.size
  have TZ6 := kept TZ (Rf.below_far b5 N6)
  have B6 := Rf.below_far B0 (Rf.below_far b5 N6)
  generalize w5.alloc (.cells #[.int .u64 (word (fun _ => true) 0 : Int), .int .u64 (word (fun _ => true) 1 : Int), .int .u64 (word (fun _ => true) 2 : Int), .int .u64 (word (fun _ => true) 3 : Int)] 42) = w6 at N6 T6 TZ6 B6 ⊢
  generalize w5.heap.size = bf at T6 lt5 ⊢
  have hneA : Aside (b4 ≠ bf) := by show b4 ≠ bf; omega
  have hgeA : Aside (w.heap.size ≤ bf) := by have := hbA.out; show w.heap.size ≤ bf; omega
  have I0 : Aside (IsTab w6 bf (prUp a b 0) ∧ IsTab w6 b4 (fun _ => false) ∧ Below w.heap.size w w6) := ⟨T6, TZ6, B6⟩
  clear N6 T6 TZ6 B6 TZ B0 b5 lt5
  go_loopg [6, 7, 8] 4 (fun gg s6 _ _ wr => ∃ v : Nat, v + gg = 4 ∧ s6 = .int .i64 (v : Int) ∧ Aside (IsTab wr bf (prUp a b v) ∧ IsTab wr b4 (fun _ => false) ∧ Below w.heap.size w wr))
  case atStart => exact ⟨0, rfl, rfl, I0⟩
  case round =>
    clear I0
    obtain ⟨v, hv, rfl, I⟩ := hrel
    have hV : Aside (v + gk = 4) := hv
    by_cases hlt : v < 4
    · have hlt' : (v : Int) < 4 := by omega
      have bp := bit8 a v a256 (by omega)
      have bq := bit8 b v b256 (by omega)
      have mv : min v 8 = v := by omega
      have hltA : Aside (v < 4) := hlt
      obtain ⟨F, hF⟩ : ∃ F, prUp a b v = F := ⟨_, rfl⟩
      obtain ⟨A, hMA⟩ : ∃ A, Rf.M (2 * v) = A := ⟨_, rfl⟩
      obtain ⟨B, hMB⟩ : ∃ B, Rf.M (2 * v + 1) = B := ⟨_, rfl⟩
      have K2 : Calls Tryz.prog 35 #[.int .i64 (2 * (v : Int))] wr fun e w' => e = .returned (tab A) ∧ Below wr.heap.size wr w' := by rw [← hMA]; exact Rf.var_any (2 * v) (by omega) wr
      have K3 : ∀ u, Calls Tryz.prog 35 #[.int .i64 (2 * (v : Int) + 1)] u fun e w' => e = .returned (tab B) ∧ Below u.heap.size u w' := fun u => by rw [← hMB]; exact Rf.var_any (2 * v + 1) (by omega) u
      have FA : Aside (prUp a b v = F ∧ Rf.M (2 * v) = A ∧ Rf.M (2 * v + 1) = B) := ⟨hF, hMA, hMB⟩
      rw [hF] at I
      unfold tab at K2 K3
      obtain ⟨T, TZ, BB⟩ := I.out
      clear I hF hMA hMB
      go_upto_region 6 with (first
        | (go_at_call 35; refine K2.mono ?_; clear K2; rintro e w7 ⟨rfl, b7⟩)
        | (go_at_call 35; refine (K3 _).mono ?_; clear K3; rintro e w8 ⟨rfl, b8⟩))
      obtain ⟨TA, TB', B9⟩ := boxes2 w8 A B
      have b89 := Rf.below_far b7 (Rf.below_far b8 B9)
      have h3 : T3 ((w8.alloc (.cells #[.int .u64 (word A 0 : Int), .int .u64 (word A 1 : Int), .int .u64 (word A 2 : Int), .int .u64 (word A 3 : Int)] 42)).alloc (.cells #[.int .u64 (word B 0 : Int), .int .u64 (word B 1 : Int), .int .u64 (word B 2 : Int), .int .u64 (word B 3 : Int)] 42)) b4 bf w8.heap.size (w8.heap.size + 1) F A B := ⟨kept TZ b89, kept T b89, TA, TB'⟩
      have BA : Aside (Below w.heap.size w ((w8.alloc (.cells #[.int .u64 (word A 0 : Int), .int .u64 (word A 1 : Int), .int .u64 (word A 2 : Int), .int .u64 (word A 3 : Int)] 42)).alloc (.cells #[.int .u64 (word B 0 : Int), .int .u64 (word B 1 : Int), .int .u64 (word B 2 : Int), .int .u64 (word B 3 : Int)] 42))) := Rf.below_far BB b89
      have l1 : bf < w8.heap.size := Nat.lt_of_lt_of_le T.lt (Nat.le_trans b7.size b8.size)
      have l2 : b4 < w8.heap.size := Nat.lt_of_lt_of_le TZ.lt (Nat.le_trans b7.size b8.size)
      have l3 : w.heap.size ≤ w8.heap.size := Nat.le_trans BB.size (Nat.le_trans b7.size b8.size)
      have d4a : Aside (b4 ≠ w8.heap.size) := by show b4 ≠ w8.heap.size; omega
      have dfa : Aside (bf ≠ w8.heap.size) := by show bf ≠ w8.heap.size; omega
      have dab : Aside (w8.heap.size + 1 ≠ w8.heap.size) := by show w8.heap.size + 1 ≠ w8.heap.size; omega
      have d4b : Aside (b4 ≠ w8.heap.size + 1) := by show b4 ≠ w8.heap.size + 1; omega
      have dfb : Aside (bf ≠ w8.heap.size + 1) := by show bf ≠ w8.heap.size + 1; omega
      have dba : Aside (w8.heap.size ≠ w8.heap.size + 1) := by show w8.heap.size ≠ w8.heap.size + 1; omega
      have fara : Aside (w.heap.size ≤ w8.heap.size) := l3
      have farb : Aside (w.heap.size ≤ w8.heap.size + 1) := by show w.heap.size ≤ w8.heap.size + 1; omega
      clear TA TB' B9 b89 T TZ BB b7 b8 l1 l2 l3 hv hlt
      generalize (w8.alloc (.cells #[.int .u64 (word A 0 : Int), .int .u64 (word A 1 : Int), .int .u64 (word A 2 : Int), .int .u64 (word A 3 : Int)] 42)).alloc (.cells #[.int .u64 (word B 0 : Int), .int .u64 (word B 1 : Int), .int .u64 (word B 2 : Int), .int .u64 (word B 3 : Int)] 42) = wa at h3 BA ⊢
      generalize w8.heap.size + 1 = bb at h3 dab d4b dfb dba farb ⊢
      generalize w8.heap.size = ba at h3 d4a dfa dab dba fara ⊢
      cases hbp : a.testBit v with
      | true =>
        rw [hbp] at bp
        simp only [if_true] at bp
        cases hbq : b.testBit v with
        | true =>
          rw [hbq] at bq
          simp only [if_true] at bq
          go_upto_region 10 with fail
          obtain ⟨C, hC⟩ : ∃ X, (fun x => A x && B x) = X := ⟨_, rfl⟩
          obtain ⟨D, hD⟩ : ∃ X, (fun x => F x && C x) = X := ⟨_, rfl⟩
          have K1 : ∀ u, Calls Tryz.prog 47 #[tab A, tab B] u fun e w' => e = .returned (tab C) ∧ Below u.heap.size u w' := fun u => by rw [← hC]; exact Rf.and_any A B u
          have K2 : ∀ u, Calls Tryz.prog 47 #[tab F, tab C] u fun e w' => e = .returned (tab D) ∧ Below u.heap.size u w' := fun u => by rw [← hD]; exact Rf.and_any F C u
          have eD : Aside (D = prUp a b (v + 1)) := by
            obtain ⟨f1, f2, f3⟩ := FA.out
            rw [← hD, ← hC]
            refine tabE fun x => ?_
            rw [prUp_succ, hbp, hbq, ← f1, ← f2, ← f3]
            show (prUp a b v x && (Rf.M (2 * v) x && Rf.M (2 * v + 1) x)) = _
            rw [← Rf.M_bit, ← Rf.M_bit]
            simp
          unfold tab at K1 K2
          clear hC hD hbp hbq
          have h3d : T3 wa.drew b4 bf ba bb F A B := h3
          have BAd : Aside (Below w.heap.size w wa.drew) := BA.out.trans ((Below.refl _ wa).drew)
          clear h3 BA
          refine wp_region_listed (by kernel_rfl) (SG wa.drew 5 37 (fun i => if i = 0 then Value.agg #[.int .u64 (word F 0 : Int), .int .u64 (word F 1 : Int), .int .u64 (word F 2 : Int), .int .u64 (word F 3 : Int)] else if i = 1 then Value.agg #[.int .u64 (word A 0 : Int), .int .u64 (word A 1 : Int), .int .u64 (word A 2 : Int), .int .u64 (word A 3 : Int)] else if i = 2 then Value.agg #[.int .u64 (word B 0 : Int), .int .u64 (word B 1 : Int), .int .u64 (word B 2 : Int), .int .u64 (word B 3 : Int)] else if i = 3 then Value.agg #[.int .u64 (word C 0 : Int), .int .u64 (word C 1 : Int), .int .u64 (word C 2 : Int), .int .u64 (word C 3 : Int)] else Value.agg #[.int .u64 (word D 0 : Int), .int .u64 (word D 1 : Int), .int .u64 (word D 2 : Int), .int .u64 (word D 3 : Int)]) (fun u => Rf.laid u bf D) _) (by kernel_rfl) ?_ ?_ (SG.start _)
          · intro listed i o a' w' ho hn hi hdep hcl g
            have hi6 : i < 6 := (Array.getElem?_eq_some_iff.1 ho).1
            have nl : i < 5 → listed.getD 5 false = false := fun hi5 => by
              cases r : listed.getD 5 false with
              | false => rfl
              | true =>
                have h4 : listed.getD 4 false = true := hcl 5 _ r rfl { on := 4, ground := .data } (by simp) (by decide)
                have h3 : listed.getD 3 false = true := hcl 4 _ h4 rfl { on := 3, ground := .data } (by simp) (by decide)
                have : i = 0 ∨ i = 1 ∨ i = 2 ∨ i = 3 ∨ i = 4 := by omega
                rcases this with rfl | rfl | rfl | rfl | rfl
                · rw [hcl 4 _ h4 rfl { on := 0, ground := .data } (by simp) (by decide)] at hi; cases hi
                · rw [hcl 3 _ h3 rfl { on := 1, ground := .data } (by simp) (by decide)] at hi; cases hi
                · rw [hcl 3 _ h3 rfl { on := 2, ground := .data } (by simp) (by decide)] at hi; cases hi
                · rw [h3] at hi; cases hi
                · rw [h4] at hi; cases hi
            have q5 : a'.tmps.getD 5 undef = .pointer (some ⟨bf, 0, none⟩) := g.other 5 (by omega)
            have q7 : a'.tmps.getD 7 undef = .pointer (some ⟨ba, 0, none⟩) := g.other 7 (by omega)
            have q8 : a'.tmps.getD 8 undef = .pointer (some ⟨bb, 0, none⟩) := g.other 8 (by omega)
            have nB : listed.getD 5 false = false → T3 w' b4 bf ba bb F A B := fun r => h3d.kept (g.now r)
            rcases lt6 hi6 with rfl | rfl | rfl | rfl | rfl | rfl
            · simp at ho
              subst ho
              obtain ⟨t0, t1, t2, t3, x0, x1, x2, x3, v0, v1, v2, v3⟩ := (nB (nl (by omega))).cells
              refine wpOp_plain rfl rfl ?_
              go_simp
              exact g.step (i := 0) (by omega) (show 37 + 5 ≤ 43 by omega) (nl (by omega)) (Below.refl _ _)
            · simp at ho
              subst ho
              obtain ⟨t0, t1, t2, t3, x0, x1, x2, x3, v0, v1, v2, v3⟩ := (nB (nl (by omega))).cells
              refine wpOp_plain rfl rfl ?_
              go_simp
              exact g.step (i := 1) (by omega) (show 37 + 5 ≤ 43 by omega) (nl (by omega)) (Below.refl _ _)
            · simp at ho
              subst ho
              obtain ⟨t0, t1, t2, t3, x0, x1, x2, x3, v0, v1, v2, v3⟩ := (nB (nl (by omega))).cells
              refine wpOp_plain rfl rfl ?_
              go_simp
              exact g.step (i := 2) (by omega) (show 37 + 5 ≤ 43 by omega) (nl (by omega)) (Below.refl _ _)
            · simp at ho
              subst ho
              have v0 : a'.tmps.getD 38 undef = .agg #[.int .u64 (word A 0 : Int), .int .u64 (word A 1 : Int), .int .u64 (word A 2 : Int), .int .u64 (word A 3 : Int)] := g.vals 1 (by omega) (hdep { on := 1, ground := .data } (by simp) (by decide))
              have v1 : a'.tmps.getD 39 undef = .agg #[.int .u64 (word B 0 : Int), .int .u64 (word B 1 : Int), .int .u64 (word B 2 : Int), .int .u64 (word B 3 : Int)] := g.vals 2 (by omega) (hdep { on := 2, ground := .data } (by simp) (by decide))
              refine wpOp_plain rfl rfl ?_
              go_simp
              refine (K1 _).mono ?_
              rintro e w'' ⟨rfl, b''⟩
              exact g.step (i := 3) (by omega) (show 37 + 5 ≤ 43 by omega) (nl (by omega)) b''
            · simp at ho
              subst ho
              have v0 : a'.tmps.getD 37 undef = .agg #[.int .u64 (word F 0 : Int), .int .u64 (word F 1 : Int), .int .u64 (word F 2 : Int), .int .u64 (word F 3 : Int)] := g.vals 0 (by omega) (hdep { on := 0, ground := .data } (by simp) (by decide))
              have v1 : a'.tmps.getD 40 undef = .agg #[.int .u64 (word C 0 : Int), .int .u64 (word C 1 : Int), .int .u64 (word C 2 : Int), .int .u64 (word C 3 : Int)] := g.vals 3 (by omega) (hdep { on := 3, ground := .data } (by simp) (by decide))
              refine wpOp_plain rfl rfl ?_
              go_simp
              refine (K2 _).mono ?_
              rintro e w'' ⟨rfl, b''⟩
              exact g.step (i := 4) (by omega) (show 37 + 5 ≤ 43 by omega) (nl (by omega)) b''
            · simp at ho
              subst ho
              have v0 : a'.tmps.getD 41 undef = .agg #[.int .u64 (word D 0 : Int), .int .u64 (word D 1 : Int), .int .u64 (word D 2 : Int), .int .u64 (word D 3 : Int)] := g.vals 4 (by omega) (hdep { on := 4, ground := .data } (by simp) (by decide))
              have hT := (nB hi).2.1
              have y0 := hT.cell (k := 0) (by decide); have y1 := hT.cell (k := 1) (by decide); have y2 := hT.cell (k := 2) (by decide); have y3 := hT.cell (k := 3) (by decide); have z0 := hT.free 0; have z1 := hT.free 1; have z2 := hT.free 2; have z3 := hT.free 3
              refine wpOp_plain rfl rfl ?_
              go_simp
              exact g.store hn hi
          · intro listed a' w' hall g
            obtain ⟨wy, by', ey⟩ := g.world
            rw [if_pos (hall 5 (show 5 < 6 by omega))] at ey
            have ea : a' = Rf.vfin [(37, .agg #[.int .u64 (word F 0 : Int), .int .u64 (word F 1 : Int), .int .u64 (word F 2 : Int), .int .u64 (word F 3 : Int)]), (38, .agg #[.int .u64 (word A 0 : Int), .int .u64 (word A 1 : Int), .int .u64 (word A 2 : Int), .int .u64 (word A 3 : Int)]), (39, .agg #[.int .u64 (word B 0 : Int), .int .u64 (word B 1 : Int), .int .u64 (word B 2 : Int), .int .u64 (word B 3 : Int)]), (40, .agg #[.int .u64 (word C 0 : Int), .int .u64 (word C 1 : Int), .int .u64 (word C 2 : Int), .int .u64 (word C 3 : Int)]), (41, .agg #[.int .u64 (word D 0 : Int), .int .u64 (word D 1 : Int), .int .u64 (word D 2 : Int), .int .u64 (word D 3 : Int)])] _ := Rf.vact_fin _ _ _ (by simp) g.size g.defers (fun s hs => g.other s (by
                rcases Nat.lt_or_ge s 37 with q | q
                · exact .inl q
                · rcases Nat.lt_or_ge s 42 with r | r
                  · have c : @Eq Nat s 37 ∨ @Eq Nat s 38 ∨ @Eq Nat s 39 ∨ @Eq Nat s 40 ∨ @Eq Nat s 41 := by omega
                    rcases c with rfl | rfl | rfl | rfl | rfl <;> exact absurd (by simp) hs
                  · exact .inr r)) (fun k hk => by
                simp only [List.mem_cons, List.not_mem_nil, or_false] at hk
                rcases hk with rfl | rfl | rfl | rfl | rfl
                · exact ⟨show @LT.lt Nat _ 37 43 by omega, g.vals 0 (by omega) (hall 0 (show 0 < 6 by omega))⟩
                · exact ⟨show @LT.lt Nat _ 38 43 by omega, g.vals 1 (by omega) (hall 1 (show 1 < 6 by omega))⟩
                · exact ⟨show @LT.lt Nat _ 39 43 by omega, g.vals 2 (by omega) (hall 2 (show 2 < 6 by omega))⟩
                · exact ⟨show @LT.lt Nat _ 40 43 by omega, g.vals 3 (by omega) (hall 3 (show 3 < 6 by omega))⟩
                · exact ⟨show @LT.lt Nat _ 41 43 by omega, g.vals 4 (by omega) (hall 4 (show 4 < 6 by omega))⟩)
            clear g hall
            subst ea
            simp only [Rf.vfin, Act.put, List.setIfInBounds_toArray, List.set_cons_succ, List.set_cons_zero]
            have hy := h3d.kept by'
            have I2 : Aside (IsTab w' bf (prUp a b (v + 1)) ∧ IsTab w' b4 (fun _ => false) ∧ Below w.heap.size w w') := by
              have B9 := Rf.below_far BAd by'
              rw [ey, ← eD.out]
              exact ⟨Rf.laid_tab hy.2.1 D, (Rf.laid_turned _ _ _).tab hy.1 hneA.out, B9.trans ((Rf.laid_turned _ _ _).below B9.size hgeA.out)⟩
            clear ey by' hy h3d BAd K1 K2 eD FA d4a dfa dab d4b dfb dba fara farb
            go_wp2_with fail
            go_roundg (gk - 1)
            case measure => have := hV.out; have := hltA.out; omega
            case rel =>
              have := hV.out
              have := hltA.out
              exact ⟨v + 1, by omega, by go_num, I2⟩
        | false =>
          rw [hbq] at bq
          simp only [Bool.false_eq_true, if_false] at bq
          obtain ⟨NB, hN⟩ : ∃ N, (fun x => !B x) = N := ⟨_, rfl⟩
          have KN : ∀ u, Calls Tryz.prog 34 #[tab B] u fun e w' => e = .returned (tab NB) ∧ Below u.heap.size u w' := fun u => by rw [← hN]; exact Rf.not_any B u
          have nNB : Aside ((fun x => !B x) = NB) := hN
          unfold tab at KN
          have hX := h3.2.2.2
          obtain ⟨x0, x1, x2, x3⟩ := hX.copy
          clear hN
          go_upto_region 10 with (first
            | (go_at_call 34; refine (KN _).mono ?_; clear KN; rintro e wn ⟨rfl, bn⟩; have T9 := kept hX bn; have y0 := T9.cell (k := 0) (by decide); have y1 := T9.cell (k := 1) (by decide); have y2 := T9.cell (k := 2) (by decide); have y3 := T9.cell (k := 3) (by decide); have z0 := T9.free 0; have z1 := T9.free 1; have z2 := T9.free 2; have z3 := T9.free 3))
          have tu := Rf.laid_turned wn bb NB
          have dd : Aside (b4 ≠ bb ∧ bf ≠ bb ∧ ba ≠ bb) := ⟨d4b.out, dfb.out, dba.out⟩
          have h3' : T3 (Rf.laid wn bb NB) b4 bf ba bb F A NB := ⟨tu.tab (kept h3.1 bn) dd.out.1, tu.tab (kept h3.2.1 bn) dd.out.2.1, tu.tab (kept h3.2.2.1 bn) dd.out.2.2, Rf.laid_tab T9 NB⟩
          have B9 : Aside (Below w.heap.size w (Rf.laid wn bb NB)) := (Rf.below_far BA.out bn).trans (tu.below (Rf.below_far BA.out bn).size farb.out)
          clear y0 y1 y2 y3 z0 z1 z2 z3 x0 x1 x2 x3 T9 tu hX h3 BA dd bn
          have h3 := h3'
          have BA := B9
          clear h3' B9
          unfold Rf.laid at h3 BA
          generalize (((wn.setCell ⟨bb, 0, none⟩ (.int .u64 (word NB 0 : Int))).setCell ⟨bb, 1, none⟩ (.int .u64 (word NB 1 : Int))).setCell ⟨bb, 2, none⟩ (.int .u64 (word NB 2 : Int))).setCell ⟨bb, 3, none⟩ (.int .u64 (word NB 3 : Int)) = wa at h3 BA ⊢
          obtain ⟨C, hC⟩ : ∃ X, (fun x => A x && NB x) = X := ⟨_, rfl⟩
          obtain ⟨D, hD⟩ : ∃ X, (fun x => F x && C x) = X := ⟨_, rfl⟩
          have K1 : ∀ u, Calls Tryz.prog 47 #[tab A, tab NB] u fun e w' => e = .returned (tab C) ∧ Below u.heap.size u w' := fun u => by rw [← hC]; exact Rf.and_any A NB u
          have K2 : ∀ u, Calls Tryz.prog 47 #[tab F, tab C] u fun e w' => e = .returned (tab D) ∧ Below u.heap.size u w' := fun u => by rw [← hD]; exact Rf.and_any F C u
          have eD : Aside (D = prUp a b (v + 1)) := by
            obtain ⟨f1, f2, f3⟩ := FA.out
            rw [← hD, ← hC]
            refine tabE fun x => ?_
            rw [prUp_succ, hbp, hbq, ← f1, ← nNB.out, ← f2, ← f3]
            show (prUp a b v x && (Rf.M (2 * v) x && !Rf.M (2 * v + 1) x)) = _
            rw [← Rf.M_bit, ← Rf.M_bit]
            simp
          unfold tab at K1 K2
          clear hC hD hbp hbq
          have h3d : T3 wa.drew b4 bf ba bb F A NB := h3
          have BAd : Aside (Below w.heap.size w wa.drew) := BA.out.trans ((Below.refl _ wa).drew)
          clear h3 BA
          refine wp_region_listed (by kernel_rfl) (SG wa.drew 5 37 (fun i => if i = 0 then Value.agg #[.int .u64 (word F 0 : Int), .int .u64 (word F 1 : Int), .int .u64 (word F 2 : Int), .int .u64 (word F 3 : Int)] else if i = 1 then Value.agg #[.int .u64 (word A 0 : Int), .int .u64 (word A 1 : Int), .int .u64 (word A 2 : Int), .int .u64 (word A 3 : Int)] else if i = 2 then Value.agg #[.int .u64 (word NB 0 : Int), .int .u64 (word NB 1 : Int), .int .u64 (word NB 2 : Int), .int .u64 (word NB 3 : Int)] else if i = 3 then Value.agg #[.int .u64 (word C 0 : Int), .int .u64 (word C 1 : Int), .int .u64 (word C 2 : Int), .int .u64 (word C 3 : Int)] else Value.agg #[.int .u64 (word D 0 : Int), .int .u64 (word D 1 : Int), .int .u64 (word D 2 : Int), .int .u64 (word D 3 : Int)]) (fun u => Rf.laid u bf D) _) (by kernel_rfl) ?_ ?_ (SG.start _)
          · intro listed i o a' w' ho hn hi hdep hcl g
            have hi6 : i < 6 := (Array.getElem?_eq_some_iff.1 ho).1
            have nl : i < 5 → listed.getD 5 false = false := fun hi5 => by
              cases r : listed.getD 5 false with
              | false => rfl
              | true =>
                have h4 : listed.getD 4 false = true := hcl 5 _ r rfl { on := 4, ground := .data } (by simp) (by decide)
                have h3 : listed.getD 3 false = true := hcl 4 _ h4 rfl { on := 3, ground := .data } (by simp) (by decide)
                have : i = 0 ∨ i = 1 ∨ i = 2 ∨ i = 3 ∨ i = 4 := by omega
                rcases this with rfl | rfl | rfl | rfl | rfl
                · rw [hcl 4 _ h4 rfl { on := 0, ground := .data } (by simp) (by decide)] at hi; cases hi
                · rw [hcl 3 _ h3 rfl { on := 1, ground := .data } (by simp) (by decide)] at hi; cases hi
                · rw [hcl 3 _ h3 rfl { on := 2, ground := .data } (by simp) (by decide)] at hi; cases hi
                · rw [h3] at hi; cases hi
                · rw [h4] at hi; cases hi
            have q5 : a'.tmps.getD 5 undef = .pointer (some ⟨bf, 0, none⟩) := g.other 5 (by omega)
            have q7 : a'.tmps.getD 7 undef = .pointer (some ⟨ba, 0, none⟩) := g.other 7 (by omega)
            have q8 : a'.tmps.getD 8 undef = .pointer (some ⟨bb, 0, none⟩) := g.other 8 (by omega)
            have nB : listed.getD 5 false = false → T3 w' b4 bf ba bb F A NB := fun r => h3d.kept (g.now r)
            rcases lt6 hi6 with rfl | rfl | rfl | rfl | rfl | rfl
            · simp at ho
              subst ho
              obtain ⟨t0, t1, t2, t3, x0, x1, x2, x3, v0, v1, v2, v3⟩ := (nB (nl (by omega))).cells
              refine wpOp_plain rfl rfl ?_
              go_simp
              exact g.step (i := 0) (by omega) (show 37 + 5 ≤ 43 by omega) (nl (by omega)) (Below.refl _ _)
            · simp at ho
              subst ho
              obtain ⟨t0, t1, t2, t3, x0, x1, x2, x3, v0, v1, v2, v3⟩ := (nB (nl (by omega))).cells
              refine wpOp_plain rfl rfl ?_
              go_simp
              exact g.step (i := 1) (by omega) (show 37 + 5 ≤ 43 by omega) (nl (by omega)) (Below.refl _ _)
            · simp at ho
              subst ho
              obtain ⟨t0, t1, t2, t3, x0, x1, x2, x3, v0, v1, v2, v3⟩ := (nB (nl (by omega))).cells
              refine wpOp_plain rfl rfl ?_
              go_simp
              exact g.step (i := 2) (by omega) (show 37 + 5 ≤ 43 by omega) (nl (by omega)) (Below.refl _ _)
            · simp at ho
              subst ho
              have v0 : a'.tmps.getD 38 undef = .agg #[.int .u64 (word A 0 : Int), .int .u64 (word A 1 : Int), .int .u64 (word A 2 : Int), .int .u64 (word A 3 : Int)] := g.vals 1 (by omega) (hdep { on := 1, ground := .data } (by simp) (by decide))
              have v1 : a'.tmps.getD 39 undef = .agg #[.int .u64 (word NB 0 : Int), .int .u64 (word NB 1 : Int), .int .u64 (word NB 2 : Int), .int .u64 (word NB 3 : Int)] := g.vals 2 (by omega) (hdep { on := 2, ground := .data } (by simp) (by decide))
              refine wpOp_plain rfl rfl ?_
              go_simp
              refine (K1 _).mono ?_
              rintro e w'' ⟨rfl, b''⟩
              exact g.step (i := 3) (by omega) (show 37 + 5 ≤ 43 by omega) (nl (by omega)) b''
            · simp at ho
              subst ho
              have v0 : a'.tmps.getD 37 undef = .agg #[.int .u64 (word F 0 : Int), .int .u64 (word F 1 : Int), .int .u64 (word F 2 : Int), .int .u64 (word F 3 : Int)] := g.vals 0 (by omega) (hdep { on := 0, ground := .data } (by simp) (by decide))
              have v1 : a'.tmps.getD 40 undef = .agg #[.int .u64 (word C 0 : Int), .int .u64 (word C 1 : Int), .int .u64 (word C 2 : Int), .int .u64 (word C 3 : Int)] := g.vals 3 (by omega) (hdep { on := 3, ground := .data } (by simp) (by decide))
              refine wpOp_plain rfl rfl ?_
              go_simp
              refine (K2 _).mono ?_
              rintro e w'' ⟨rfl, b''⟩
              exact g.step (i := 4) (by omega) (show 37 + 5 ≤ 43 by omega) (nl (by omega)) b''
            · simp at ho
              subst ho
              have v0 : a'.tmps.getD 41 undef = .agg #[.int .u64 (word D 0 : Int), .int .u64 (word D 1 : Int), .int .u64 (word D 2 : Int), .int .u64 (word D 3 : Int)] := g.vals 4 (by omega) (hdep { on := 4, ground := .data } (by simp) (by decide))
              have hT := (nB hi).2.1
              have y0 := hT.cell (k := 0) (by decide); have y1 := hT.cell (k := 1) (by decide); have y2 := hT.cell (k := 2) (by decide); have y3 := hT.cell (k := 3) (by decide); have z0 := hT.free 0; have z1 := hT.free 1; have z2 := hT.free 2; have z3 := hT.free 3
              refine wpOp_plain rfl rfl ?_
              go_simp
              exact g.store hn hi
          · intro listed a' w' hall g
            obtain ⟨wy, by', ey⟩ := g.world
            rw [if_pos (hall 5 (show 5 < 6 by omega))] at ey
            have ea : a' = Rf.vfin [(37, .agg #[.int .u64 (word F 0 : Int), .int .u64 (word F 1 : Int), .int .u64 (word F 2 : Int), .int .u64 (word F 3 : Int)]), (38, .agg #[.int .u64 (word A 0 : Int), .int .u64 (word A 1 : Int), .int .u64 (word A 2 : Int), .int .u64 (word A 3 : Int)]), (39, .agg #[.int .u64 (word NB 0 : Int), .int .u64 (word NB 1 : Int), .int .u64 (word NB 2 : Int), .int .u64 (word NB 3 : Int)]), (40, .agg #[.int .u64 (word C 0 : Int), .int .u64 (word C 1 : Int), .int .u64 (word C 2 : Int), .int .u64 (word C 3 : Int)]), (41, .agg #[.int .u64 (word D 0 : Int), .int .u64 (word D 1 : Int), .int .u64 (word D 2 : Int), .int .u64 (word D 3 : Int)])] _ := Rf.vact_fin _ _ _ (by simp) g.size g.defers (fun s hs => g.other s (by
                rcases Nat.lt_or_ge s 37 with q | q
                · exact .inl q
                · rcases Nat.lt_or_ge s 42 with r | r
                  · have c : @Eq Nat s 37 ∨ @Eq Nat s 38 ∨ @Eq Nat s 39 ∨ @Eq Nat s 40 ∨ @Eq Nat s 41 := by omega
                    rcases c with rfl | rfl | rfl | rfl | rfl <;> exact absurd (by simp) hs
                  · exact .inr r)) (fun k hk => by
                simp only [List.mem_cons, List.not_mem_nil, or_false] at hk
                rcases hk with rfl | rfl | rfl | rfl | rfl
                · exact ⟨show @LT.lt Nat _ 37 43 by omega, g.vals 0 (by omega) (hall 0 (show 0 < 6 by omega))⟩
                · exact ⟨show @LT.lt Nat _ 38 43 by omega, g.vals 1 (by omega) (hall 1 (show 1 < 6 by omega))⟩
                · exact ⟨show @LT.lt Nat _ 39 43 by omega, g.vals 2 (by omega) (hall 2 (show 2 < 6 by omega))⟩
                · exact ⟨show @LT.lt Nat _ 40 43 by omega, g.vals 3 (by omega) (hall 3 (show 3 < 6 by omega))⟩
                · exact ⟨show @LT.lt Nat _ 41 43 by omega, g.vals 4 (by omega) (hall 4 (show 4 < 6 by omega))⟩)
            clear g hall
            subst ea
            simp only [Rf.vfin, Act.put, List.setIfInBounds_toArray, List.set_cons_succ, List.set_cons_zero]
            have hy := h3d.kept by'
            have I2 : Aside (IsTab w' bf (prUp a b (v + 1)) ∧ IsTab w' b4 (fun _ => false) ∧ Below w.heap.size w w') := by
              have B9 := Rf.below_far BAd by'
              rw [ey, ← eD.out]
              exact ⟨Rf.laid_tab hy.2.1 D, (Rf.laid_turned _ _ _).tab hy.1 hneA.out, B9.trans ((Rf.laid_turned _ _ _).below B9.size hgeA.out)⟩
            clear ey by' hy h3d BAd K1 K2 eD FA d4a dfa dab d4b dfb dba fara farb
            go_wp2_with fail
            go_roundg (gk - 1)
            case measure => have := hV.out; have := hltA.out; omega
            case rel =>
              have := hV.out
              have := hltA.out
              exact ⟨v + 1, by omega, by go_num, I2⟩
      | false =>
        rw [hbp] at bp
        simp only [Bool.false_eq_true, if_false] at bp
        cases hbq : b.testBit v with
        | true =>
          rw [hbq] at bq
          simp only [if_true] at bq
          obtain ⟨NA, hN⟩ : ∃ N, (fun x => !A x) = N := ⟨_, rfl⟩
          have KN : ∀ u, Calls Tryz.prog 34 #[tab A] u fun e w' => e = .returned (tab NA) ∧ Below u.heap.size u w' := fun u => by rw [← hN]; exact Rf.not_any A u
          have nNA : Aside ((fun x => !A x) = NA) := hN
          unfold tab at KN
          have hX := h3.2.2.1
          obtain ⟨x0, x1, x2, x3⟩ := hX.copy
          clear hN
          go_upto_region 8 with (first
            | (go_at_call 34; refine (KN _).mono ?_; clear KN; rintro e wn ⟨rfl, bn⟩; have T9 := kept hX bn; have y0 := T9.cell (k := 0) (by decide); have y1 := T9.cell (k := 1) (by decide); have y2 := T9.cell (k := 2) (by decide); have y3 := T9.cell (k := 3) (by decide); have z0 := T9.free 0; have z1 := T9.free 1; have z2 := T9.free 2; have z3 := T9.free 3))
          have tu := Rf.laid_turned wn ba NA
          have dd : Aside (b4 ≠ ba ∧ bf ≠ ba ∧ bb ≠ ba) := ⟨d4a.out, dfa.out, dab.out⟩
          have h3' : T3 (Rf.laid wn ba NA) b4 bf ba bb F NA B := ⟨tu.tab (kept h3.1 bn) dd.out.1, tu.tab (kept h3.2.1 bn) dd.out.2.1, Rf.laid_tab T9 NA, tu.tab (kept h3.2.2.2 bn) dd.out.2.2⟩
          have B9 : Aside (Below w.heap.size w (Rf.laid wn ba NA)) := (Rf.below_far BA.out bn).trans (tu.below (Rf.below_far BA.out bn).size fara.out)
          clear y0 y1 y2 y3 z0 z1 z2 z3 x0 x1 x2 x3 T9 tu hX h3 BA dd bn
          have h3 := h3'
          have BA := B9
          clear h3' B9
          unfold Rf.laid at h3 BA
          generalize (((wn.setCell ⟨ba, 0, none⟩ (.int .u64 (word NA 0 : Int))).setCell ⟨ba, 1, none⟩ (.int .u64 (word NA 1 : Int))).setCell ⟨ba, 2, none⟩ (.int .u64 (word NA 2 : Int))).setCell ⟨ba, 3, none⟩ (.int .u64 (word NA 3 : Int)) = wa at h3 BA ⊢
          go_upto_region 10 with fail
          obtain ⟨C, hC⟩ : ∃ X, (fun x => NA x && B x) = X := ⟨_, rfl⟩
          obtain ⟨D, hD⟩ : ∃ X, (fun x => F x && C x) = X := ⟨_, rfl⟩
          have K1 : ∀ u, Calls Tryz.prog 47 #[tab NA, tab B] u fun e w' => e = .returned (tab C) ∧ Below u.heap.size u w' := fun u => by rw [← hC]; exact Rf.and_any NA B u
          have K2 : ∀ u, Calls Tryz.prog 47 #[tab F, tab C] u fun e w' => e = .returned (tab D) ∧ Below u.heap.size u w' := fun u => by rw [← hD]; exact Rf.and_any F C u
          have eD : Aside (D = prUp a b (v + 1)) := by
            obtain ⟨f1, f2, f3⟩ := FA.out
            rw [← hD, ← hC]
            refine tabE fun x => ?_
            rw [prUp_succ, hbp, hbq, ← f1, ← nNA.out, ← f2, ← f3]
            show (prUp a b v x && (!Rf.M (2 * v) x && Rf.M (2 * v + 1) x)) = _
            rw [← Rf.M_bit, ← Rf.M_bit]
            simp
          unfold tab at K1 K2
          clear hC hD hbp hbq
          have h3d : T3 wa.drew b4 bf ba bb F NA B := h3
          have BAd : Aside (Below w.heap.size w wa.drew) := BA.out.trans ((Below.refl _ wa).drew)
          clear h3 BA
          refine wp_region_listed (by kernel_rfl) (SG wa.drew 5 37 (fun i => if i = 0 then Value.agg #[.int .u64 (word F 0 : Int), .int .u64 (word F 1 : Int), .int .u64 (word F 2 : Int), .int .u64 (word F 3 : Int)] else if i = 1 then Value.agg #[.int .u64 (word NA 0 : Int), .int .u64 (word NA 1 : Int), .int .u64 (word NA 2 : Int), .int .u64 (word NA 3 : Int)] else if i = 2 then Value.agg #[.int .u64 (word B 0 : Int), .int .u64 (word B 1 : Int), .int .u64 (word B 2 : Int), .int .u64 (word B 3 : Int)] else if i = 3 then Value.agg #[.int .u64 (word C 0 : Int), .int .u64 (word C 1 : Int), .int .u64 (word C 2 : Int), .int .u64 (word C 3 : Int)] else Value.agg #[.int .u64 (word D 0 : Int), .int .u64 (word D 1 : Int), .int .u64 (word D 2 : Int), .int .u64 (word D 3 : Int)]) (fun u => Rf.laid u bf D) _) (by kernel_rfl) ?_ ?_ (SG.start _)
          · intro listed i o a' w' ho hn hi hdep hcl g
            have hi6 : i < 6 := (Array.getElem?_eq_some_iff.1 ho).1
            have nl : i < 5 → listed.getD 5 false = false := fun hi5 => by
              cases r : listed.getD 5 false with
              | false => rfl
              | true =>
                have h4 : listed.getD 4 false = true := hcl 5 _ r rfl { on := 4, ground := .data } (by simp) (by decide)
                have h3 : listed.getD 3 false = true := hcl 4 _ h4 rfl { on := 3, ground := .data } (by simp) (by decide)
                have : i = 0 ∨ i = 1 ∨ i = 2 ∨ i = 3 ∨ i = 4 := by omega
                rcases this with rfl | rfl | rfl | rfl | rfl
                · rw [hcl 4 _ h4 rfl { on := 0, ground := .data } (by simp) (by decide)] at hi; cases hi
                · rw [hcl 3 _ h3 rfl { on := 1, ground := .data } (by simp) (by decide)] at hi; cases hi
                · rw [hcl 3 _ h3 rfl { on := 2, ground := .data } (by simp) (by decide)] at hi; cases hi
                · rw [h3] at hi; cases hi
                · rw [h4] at hi; cases hi
            have q5 : a'.tmps.getD 5 undef = .pointer (some ⟨bf, 0, none⟩) := g.other 5 (by omega)
            have q7 : a'.tmps.getD 7 undef = .pointer (some ⟨ba, 0, none⟩) := g.other 7 (by omega)
            have q8 : a'.tmps.getD 8 undef = .pointer (some ⟨bb, 0, none⟩) := g.other 8 (by omega)
            have nB : listed.getD 5 false = false → T3 w' b4 bf ba bb F NA B := fun r => h3d.kept (g.now r)
            rcases lt6 hi6 with rfl | rfl | rfl | rfl | rfl | rfl
            · simp at ho
              subst ho
              obtain ⟨t0, t1, t2, t3, x0, x1, x2, x3, v0, v1, v2, v3⟩ := (nB (nl (by omega))).cells
              refine wpOp_plain rfl rfl ?_
              go_simp
              exact g.step (i := 0) (by omega) (show 37 + 5 ≤ 43 by omega) (nl (by omega)) (Below.refl _ _)
            · simp at ho
              subst ho
              obtain ⟨t0, t1, t2, t3, x0, x1, x2, x3, v0, v1, v2, v3⟩ := (nB (nl (by omega))).cells
              refine wpOp_plain rfl rfl ?_
              go_simp
              exact g.step (i := 1) (by omega) (show 37 + 5 ≤ 43 by omega) (nl (by omega)) (Below.refl _ _)
            · simp at ho
              subst ho
              obtain ⟨t0, t1, t2, t3, x0, x1, x2, x3, v0, v1, v2, v3⟩ := (nB (nl (by omega))).cells
              refine wpOp_plain rfl rfl ?_
              go_simp
              exact g.step (i := 2) (by omega) (show 37 + 5 ≤ 43 by omega) (nl (by omega)) (Below.refl _ _)
            · simp at ho
              subst ho
              have v0 : a'.tmps.getD 38 undef = .agg #[.int .u64 (word NA 0 : Int), .int .u64 (word NA 1 : Int), .int .u64 (word NA 2 : Int), .int .u64 (word NA 3 : Int)] := g.vals 1 (by omega) (hdep { on := 1, ground := .data } (by simp) (by decide))
              have v1 : a'.tmps.getD 39 undef = .agg #[.int .u64 (word B 0 : Int), .int .u64 (word B 1 : Int), .int .u64 (word B 2 : Int), .int .u64 (word B 3 : Int)] := g.vals 2 (by omega) (hdep { on := 2, ground := .data } (by simp) (by decide))
              refine wpOp_plain rfl rfl ?_
              go_simp
              refine (K1 _).mono ?_
              rintro e w'' ⟨rfl, b''⟩
              exact g.step (i := 3) (by omega) (show 37 + 5 ≤ 43 by omega) (nl (by omega)) b''
            · simp at ho
              subst ho
              have v0 : a'.tmps.getD 37 undef = .agg #[.int .u64 (word F 0 : Int), .int .u64 (word F 1 : Int), .int .u64 (word F 2 : Int), .int .u64 (word F 3 : Int)] := g.vals 0 (by omega) (hdep { on := 0, ground := .data } (by simp) (by decide))
              have v1 : a'.tmps.getD 40 undef = .agg #[.int .u64 (word C 0 : Int), .int .u64 (word C 1 : Int), .int .u64 (word C 2 : Int), .int .u64 (word C 3 : Int)] := g.vals 3 (by omega) (hdep { on := 3, ground := .data } (by simp) (by decide))
              refine wpOp_plain rfl rfl ?_
              go_simp
              refine (K2 _).mono ?_
              rintro e w'' ⟨rfl, b''⟩
              exact g.step (i := 4) (by omega) (show 37 + 5 ≤ 43 by omega) (nl (by omega)) b''
            · simp at ho
              subst ho
              have v0 : a'.tmps.getD 41 undef = .agg #[.int .u64 (word D 0 : Int), .int .u64 (word D 1 : Int), .int .u64 (word D 2 : Int), .int .u64 (word D 3 : Int)] := g.vals 4 (by omega) (hdep { on := 4, ground := .data } (by simp) (by decide))
              have hT := (nB hi).2.1
              have y0 := hT.cell (k := 0) (by decide); have y1 := hT.cell (k := 1) (by decide); have y2 := hT.cell (k := 2) (by decide); have y3 := hT.cell (k := 3) (by decide); have z0 := hT.free 0; have z1 := hT.free 1; have z2 := hT.free 2; have z3 := hT.free 3
              refine wpOp_plain rfl rfl ?_
              go_simp
              exact g.store hn hi
          · intro listed a' w' hall g
            obtain ⟨wy, by', ey⟩ := g.world
            rw [if_pos (hall 5 (show 5 < 6 by omega))] at ey
            have ea : a' = Rf.vfin [(37, .agg #[.int .u64 (word F 0 : Int), .int .u64 (word F 1 : Int), .int .u64 (word F 2 : Int), .int .u64 (word F 3 : Int)]), (38, .agg #[.int .u64 (word NA 0 : Int), .int .u64 (word NA 1 : Int), .int .u64 (word NA 2 : Int), .int .u64 (word NA 3 : Int)]), (39, .agg #[.int .u64 (word B 0 : Int), .int .u64 (word B 1 : Int), .int .u64 (word B 2 : Int), .int .u64 (word B 3 : Int)]), (40, .agg #[.int .u64 (word C 0 : Int), .int .u64 (word C 1 : Int), .int .u64 (word C 2 : Int), .int .u64 (word C 3 : Int)]), (41, .agg #[.int .u64 (word D 0 : Int), .int .u64 (word D 1 : Int), .int .u64 (word D 2 : Int), .int .u64 (word D 3 : Int)])] _ := Rf.vact_fin _ _ _ (by simp) g.size g.defers (fun s hs => g.other s (by
                rcases Nat.lt_or_ge s 37 with q | q
                · exact .inl q
                · rcases Nat.lt_or_ge s 42 with r | r
                  · have c : @Eq Nat s 37 ∨ @Eq Nat s 38 ∨ @Eq Nat s 39 ∨ @Eq Nat s 40 ∨ @Eq Nat s 41 := by omega
                    rcases c with rfl | rfl | rfl | rfl | rfl <;> exact absurd (by simp) hs
                  · exact .inr r)) (fun k hk => by
                simp only [List.mem_cons, List.not_mem_nil, or_false] at hk
                rcases hk with rfl | rfl | rfl | rfl | rfl
                · exact ⟨show @LT.lt Nat _ 37 43 by omega, g.vals 0 (by omega) (hall 0 (show 0 < 6 by omega))⟩
                · exact ⟨show @LT.lt Nat _ 38 43 by omega, g.vals 1 (by omega) (hall 1 (show 1 < 6 by omega))⟩
                · exact ⟨show @LT.lt Nat _ 39 43 by omega, g.vals 2 (by omega) (hall 2 (show 2 < 6 by omega))⟩
                · exact ⟨show @LT.lt Nat _ 40 43 by omega, g.vals 3 (by omega) (hall 3 (show 3 < 6 by omega))⟩
                · exact ⟨show @LT.lt Nat _ 41 43 by omega, g.vals 4 (by omega) (hall 4 (show 4 < 6 by omega))⟩)
            clear g hall
            subst ea
            simp only [Rf.vfin, Act.put, List.setIfInBounds_toArray, List.set_cons_succ, List.set_cons_zero]
            have hy := h3d.kept by'
            have I2 : Aside (IsTab w' bf (prUp a b (v + 1)) ∧ IsTab w' b4 (fun _ => false) ∧ Below w.heap.size w w') := by
              have B9 := Rf.below_far BAd by'
              rw [ey, ← eD.out]
              exact ⟨Rf.laid_tab hy.2.1 D, (Rf.laid_turned _ _ _).tab hy.1 hneA.out, B9.trans ((Rf.laid_turned _ _ _).below B9.size hgeA.out)⟩
            clear ey by' hy h3d BAd K1 K2 eD FA d4a dfa dab d4b dfb dba fara farb
            go_wp2_with fail
            go_roundg (gk - 1)
            case measure => have := hV.out; have := hltA.out; omega
            case rel =>
              have := hV.out
              have := hltA.out
              exact ⟨v + 1, by omega, by go_num, I2⟩
        | false =>
          rw [hbq] at bq
          simp only [Bool.false_eq_true, if_false] at bq
          obtain ⟨NA, hN⟩ : ∃ N, (fun x => !A x) = N := ⟨_, rfl⟩
          have KN : ∀ u, Calls Tryz.prog 34 #[tab A] u fun e w' => e = .returned (tab NA) ∧ Below u.heap.size u w' := fun u => by rw [← hN]; exact Rf.not_any A u
          have nNA : Aside ((fun x => !A x) = NA) := hN
          unfold tab at KN
          have hX := h3.2.2.1
          obtain ⟨x0, x1, x2, x3⟩ := hX.copy
          clear hN
          go_upto_region 8 with (first
            | (go_at_call 34; refine (KN _).mono ?_; clear KN; rintro e wn ⟨rfl, bn⟩; have T9 := kept hX bn; have y0 := T9.cell (k := 0) (by decide); have y1 := T9.cell (k := 1) (by decide); have y2 := T9.cell (k := 2) (by decide); have y3 := T9.cell (k := 3) (by decide); have z0 := T9.free 0; have z1 := T9.free 1; have z2 := T9.free 2; have z3 := T9.free 3))
          have tu := Rf.laid_turned wn ba NA
          have dd : Aside (b4 ≠ ba ∧ bf ≠ ba ∧ bb ≠ ba) := ⟨d4a.out, dfa.out, dab.out⟩
          have h3' : T3 (Rf.laid wn ba NA) b4 bf ba bb F NA B := ⟨tu.tab (kept h3.1 bn) dd.out.1, tu.tab (kept h3.2.1 bn) dd.out.2.1, Rf.laid_tab T9 NA, tu.tab (kept h3.2.2.2 bn) dd.out.2.2⟩
          have B9 : Aside (Below w.heap.size w (Rf.laid wn ba NA)) := (Rf.below_far BA.out bn).trans (tu.below (Rf.below_far BA.out bn).size fara.out)
          clear y0 y1 y2 y3 z0 z1 z2 z3 x0 x1 x2 x3 T9 tu hX h3 BA dd bn
          have h3 := h3'
          have BA := B9
          clear h3' B9
          unfold Rf.laid at h3 BA
          generalize (((wn.setCell ⟨ba, 0, none⟩ (.int .u64 (word NA 0 : Int))).setCell ⟨ba, 1, none⟩ (.int .u64 (word NA 1 : Int))).setCell ⟨ba, 2, none⟩ (.int .u64 (word NA 2 : Int))).setCell ⟨ba, 3, none⟩ (.int .u64 (word NA 3 : Int)) = wa at h3 BA ⊢
          obtain ⟨NB, hN⟩ : ∃ N, (fun x => !B x) = N := ⟨_, rfl⟩
          have KN : ∀ u, Calls Tryz.prog 34 #[tab B] u fun e w' => e = .returned (tab NB) ∧ Below u.heap.size u w' := fun u => by rw [← hN]; exact Rf.not_any B u
          have nNB : Aside ((fun x => !B x) = NB) := hN
          unfold tab at KN
          have hX := h3.2.2.2
          obtain ⟨x0, x1, x2, x3⟩ := hX.copy
          clear hN
          go_upto_region 10 with (first
            | (go_at_call 34; refine (KN _).mono ?_; clear KN; rintro e wn ⟨rfl, bn⟩; have T9 := kept hX bn; have y0 := T9.cell (k := 0) (by decide); have y1 := T9.cell (k := 1) (by decide); have y2 := T9.cell (k := 2) (by decide); have y3 := T9.cell (k := 3) (by decide); have z0 := T9.free 0; have z1 := T9.free 1; have z2 := T9.free 2; have z3 := T9.free 3))
          have tu := Rf.laid_turned wn bb NB
          have dd : Aside (b4 ≠ bb ∧ bf ≠ bb ∧ ba ≠ bb) := ⟨d4b.out, dfb.out, dba.out⟩
          have h3' : T3 (Rf.laid wn bb NB) b4 bf ba bb F NA NB := ⟨tu.tab (kept h3.1 bn) dd.out.1, tu.tab (kept h3.2.1 bn) dd.out.2.1, tu.tab (kept h3.2.2.1 bn) dd.out.2.2, Rf.laid_tab T9 NB⟩
          have B9 : Aside (Below w.heap.size w (Rf.laid wn bb NB)) := (Rf.below_far BA.out bn).trans (tu.below (Rf.below_far BA.out bn).size farb.out)
          clear y0 y1 y2 y3 z0 z1 z2 z3 x0 x1 x2 x3 T9 tu hX h3 BA dd bn
          have h3 := h3'
          have BA := B9
          clear h3' B9
          unfold Rf.laid at h3 BA
          generalize (((wn.setCell ⟨bb, 0, none⟩ (.int .u64 (word NB 0 : Int))).setCell ⟨bb, 1, none⟩ (.int .u64 (word NB 1 : Int))).setCell ⟨bb, 2, none⟩ (.int .u64 (word NB 2 : Int))).setCell ⟨bb, 3, none⟩ (.int .u64 (word NB 3 : Int)) = wa at h3 BA ⊢
          obtain ⟨C, hC⟩ : ∃ X, (fun x => NA x && NB x) = X := ⟨_, rfl⟩
          obtain ⟨D, hD⟩ : ∃ X, (fun x => F x && C x) = X := ⟨_, rfl⟩
          have K1 : ∀ u, Calls Tryz.prog 47 #[tab NA, tab NB] u fun e w' => e = .returned (tab C) ∧ Below u.heap.size u w' := fun u => by rw [← hC]; exact Rf.and_any NA NB u
          have K2 : ∀ u, Calls Tryz.prog 47 #[tab F, tab C] u fun e w' => e = .returned (tab D) ∧ Below u.heap.size u w' := fun u => by rw [← hD]; exact Rf.and_any F C u
          have eD : Aside (D = prUp a b (v + 1)) := by
            obtain ⟨f1, f2, f3⟩ := FA.out
            rw [← hD, ← hC]
            refine tabE fun x => ?_
            rw [prUp_succ, hbp, hbq, ← f1, ← nNA.out, ← nNB.out, ← f2, ← f3]
            show (prUp a b v x && (!Rf.M (2 * v) x && !Rf.M (2 * v + 1) x)) = _
            rw [← Rf.M_bit, ← Rf.M_bit]
            simp
          unfold tab at K1 K2
          clear hC hD hbp hbq
          have h3d : T3 wa.drew b4 bf ba bb F NA NB := h3
          have BAd : Aside (Below w.heap.size w wa.drew) := BA.out.trans ((Below.refl _ wa).drew)
          clear h3 BA
          refine wp_region_listed (by kernel_rfl) (SG wa.drew 5 37 (fun i => if i = 0 then Value.agg #[.int .u64 (word F 0 : Int), .int .u64 (word F 1 : Int), .int .u64 (word F 2 : Int), .int .u64 (word F 3 : Int)] else if i = 1 then Value.agg #[.int .u64 (word NA 0 : Int), .int .u64 (word NA 1 : Int), .int .u64 (word NA 2 : Int), .int .u64 (word NA 3 : Int)] else if i = 2 then Value.agg #[.int .u64 (word NB 0 : Int), .int .u64 (word NB 1 : Int), .int .u64 (word NB 2 : Int), .int .u64 (word NB 3 : Int)] else if i = 3 then Value.agg #[.int .u64 (word C 0 : Int), .int .u64 (word C 1 : Int), .int .u64 (word C 2 : Int), .int .u64 (word C 3 : Int)] else Value.agg #[.int .u64 (word D 0 : Int), .int .u64 (word D 1 : Int), .int .u64 (word D 2 : Int), .int .u64 (word D 3 : Int)]) (fun u => Rf.laid u bf D) _) (by kernel_rfl) ?_ ?_ (SG.start _)
          · intro listed i o a' w' ho hn hi hdep hcl g
            have hi6 : i < 6 := (Array.getElem?_eq_some_iff.1 ho).1
            have nl : i < 5 → listed.getD 5 false = false := fun hi5 => by
              cases r : listed.getD 5 false with
              | false => rfl
              | true =>
                have h4 : listed.getD 4 false = true := hcl 5 _ r rfl { on := 4, ground := .data } (by simp) (by decide)
                have h3 : listed.getD 3 false = true := hcl 4 _ h4 rfl { on := 3, ground := .data } (by simp) (by decide)
                have : i = 0 ∨ i = 1 ∨ i = 2 ∨ i = 3 ∨ i = 4 := by omega
                rcases this with rfl | rfl | rfl | rfl | rfl
                · rw [hcl 4 _ h4 rfl { on := 0, ground := .data } (by simp) (by decide)] at hi; cases hi
                · rw [hcl 3 _ h3 rfl { on := 1, ground := .data } (by simp) (by decide)] at hi; cases hi
                · rw [hcl 3 _ h3 rfl { on := 2, ground := .data } (by simp) (by decide)] at hi; cases hi
                · rw [h3] at hi; cases hi
                · rw [h4] at hi; cases hi
            have q5 : a'.tmps.getD 5 undef = .pointer (some ⟨bf, 0, none⟩) := g.other 5 (by omega)
            have q7 : a'.tmps.getD 7 undef = .pointer (some ⟨ba, 0, none⟩) := g.other 7 (by omega)
            have q8 : a'.tmps.getD 8 undef = .pointer (some ⟨bb, 0, none⟩) := g.other 8 (by omega)
            have nB : listed.getD 5 false = false → T3 w' b4 bf ba bb F NA NB := fun r => h3d.kept (g.now r)
            rcases lt6 hi6 with rfl | rfl | rfl | rfl | rfl | rfl
            · simp at ho
              subst ho
              obtain ⟨t0, t1, t2, t3, x0, x1, x2, x3, v0, v1, v2, v3⟩ := (nB (nl (by omega))).cells
              refine wpOp_plain rfl rfl ?_
              go_simp
              exact g.step (i := 0) (by omega) (show 37 + 5 ≤ 43 by omega) (nl (by omega)) (Below.refl _ _)
            · simp at ho
              subst ho
              obtain ⟨t0, t1, t2, t3, x0, x1, x2, x3, v0, v1, v2, v3⟩ := (nB (nl (by omega))).cells
              refine wpOp_plain rfl rfl ?_
              go_simp
              exact g.step (i := 1) (by omega) (show 37 + 5 ≤ 43 by omega) (nl (by omega)) (Below.refl _ _)
            · simp at ho
              subst ho
              obtain ⟨t0, t1, t2, t3, x0, x1, x2, x3, v0, v1, v2, v3⟩ := (nB (nl (by omega))).cells
              refine wpOp_plain rfl rfl ?_
              go_simp
              exact g.step (i := 2) (by omega) (show 37 + 5 ≤ 43 by omega) (nl (by omega)) (Below.refl _ _)
            · simp at ho
              subst ho
              have v0 : a'.tmps.getD 38 undef = .agg #[.int .u64 (word NA 0 : Int), .int .u64 (word NA 1 : Int), .int .u64 (word NA 2 : Int), .int .u64 (word NA 3 : Int)] := g.vals 1 (by omega) (hdep { on := 1, ground := .data } (by simp) (by decide))
              have v1 : a'.tmps.getD 39 undef = .agg #[.int .u64 (word NB 0 : Int), .int .u64 (word NB 1 : Int), .int .u64 (word NB 2 : Int), .int .u64 (word NB 3 : Int)] := g.vals 2 (by omega) (hdep { on := 2, ground := .data } (by simp) (by decide))
              refine wpOp_plain rfl rfl ?_
              go_simp
              refine (K1 _).mono ?_
              rintro e w'' ⟨rfl, b''⟩
              exact g.step (i := 3) (by omega) (show 37 + 5 ≤ 43 by omega) (nl (by omega)) b''
            · simp at ho
              subst ho
              have v0 : a'.tmps.getD 37 undef = .agg #[.int .u64 (word F 0 : Int), .int .u64 (word F 1 : Int), .int .u64 (word F 2 : Int), .int .u64 (word F 3 : Int)] := g.vals 0 (by omega) (hdep { on := 0, ground := .data } (by simp) (by decide))
              have v1 : a'.tmps.getD 40 undef = .agg #[.int .u64 (word C 0 : Int), .int .u64 (word C 1 : Int), .int .u64 (word C 2 : Int), .int .u64 (word C 3 : Int)] := g.vals 3 (by omega) (hdep { on := 3, ground := .data } (by simp) (by decide))
              refine wpOp_plain rfl rfl ?_
              go_simp
              refine (K2 _).mono ?_
              rintro e w'' ⟨rfl, b''⟩
              exact g.step (i := 4) (by omega) (show 37 + 5 ≤ 43 by omega) (nl (by omega)) b''
            · simp at ho
              subst ho
              have v0 : a'.tmps.getD 41 undef = .agg #[.int .u64 (word D 0 : Int), .int .u64 (word D 1 : Int), .int .u64 (word D 2 : Int), .int .u64 (word D 3 : Int)] := g.vals 4 (by omega) (hdep { on := 4, ground := .data } (by simp) (by decide))
              have hT := (nB hi).2.1
              have y0 := hT.cell (k := 0) (by decide); have y1 := hT.cell (k := 1) (by decide); have y2 := hT.cell (k := 2) (by decide); have y3 := hT.cell (k := 3) (by decide); have z0 := hT.free 0; have z1 := hT.free 1; have z2 := hT.free 2; have z3 := hT.free 3
              refine wpOp_plain rfl rfl ?_
              go_simp
              exact g.store hn hi
          · intro listed a' w' hall g
            obtain ⟨wy, by', ey⟩ := g.world
            rw [if_pos (hall 5 (show 5 < 6 by omega))] at ey
            have ea : a' = Rf.vfin [(37, .agg #[.int .u64 (word F 0 : Int), .int .u64 (word F 1 : Int), .int .u64 (word F 2 : Int), .int .u64 (word F 3 : Int)]), (38, .agg #[.int .u64 (word NA 0 : Int), .int .u64 (word NA 1 : Int), .int .u64 (word NA 2 : Int), .int .u64 (word NA 3 : Int)]), (39, .agg #[.int .u64 (word NB 0 : Int), .int .u64 (word NB 1 : Int), .int .u64 (word NB 2 : Int), .int .u64 (word NB 3 : Int)]), (40, .agg #[.int .u64 (word C 0 : Int), .int .u64 (word C 1 : Int), .int .u64 (word C 2 : Int), .int .u64 (word C 3 : Int)]), (41, .agg #[.int .u64 (word D 0 : Int), .int .u64 (word D 1 : Int), .int .u64 (word D 2 : Int), .int .u64 (word D 3 : Int)])] _ := Rf.vact_fin _ _ _ (by simp) g.size g.defers (fun s hs => g.other s (by
                rcases Nat.lt_or_ge s 37 with q | q
                · exact .inl q
                · rcases Nat.lt_or_ge s 42 with r | r
                  · have c : @Eq Nat s 37 ∨ @Eq Nat s 38 ∨ @Eq Nat s 39 ∨ @Eq Nat s 40 ∨ @Eq Nat s 41 := by omega
                    rcases c with rfl | rfl | rfl | rfl | rfl <;> exact absurd (by simp) hs
                  · exact .inr r)) (fun k hk => by
                simp only [List.mem_cons, List.not_mem_nil, or_false] at hk
                rcases hk with rfl | rfl | rfl | rfl | rfl
                · exact ⟨show @LT.lt Nat _ 37 43 by omega, g.vals 0 (by omega) (hall 0 (show 0 < 6 by omega))⟩
                · exact ⟨show @LT.lt Nat _ 38 43 by omega, g.vals 1 (by omega) (hall 1 (show 1 < 6 by omega))⟩
                · exact ⟨show @LT.lt Nat _ 39 43 by omega, g.vals 2 (by omega) (hall 2 (show 2 < 6 by omega))⟩
                · exact ⟨show @LT.lt Nat _ 40 43 by omega, g.vals 3 (by omega) (hall 3 (show 3 < 6 by omega))⟩
                · exact ⟨show @LT.lt Nat _ 41 43 by omega, g.vals 4 (by omega) (hall 4 (show 4 < 6 by omega))⟩)
            clear g hall
            subst ea
            simp only [Rf.vfin, Act.put, List.setIfInBounds_toArray, List.set_cons_succ, List.set_cons_zero]
            have hy := h3d.kept by'
            have I2 : Aside (IsTab w' bf (prUp a b (v + 1)) ∧ IsTab w' b4 (fun _ => false) ∧ Below w.heap.size w w') := by
              have B9 := Rf.below_far BAd by'
              rw [ey, ← eD.out]
              exact ⟨Rf.laid_tab hy.2.1 D, (Rf.laid_turned _ _ _).tab hy.1 hneA.out, B9.trans ((Rf.laid_turned _ _ _).below B9.size hgeA.out)⟩
            clear ey by' hy h3d BAd K1 K2 eD FA d4a dfa dab d4b dfb dba fara farb
            go_wp2_with fail
            go_roundg (gk - 1)
            case measure => have := hV.out; have := hltA.out; omega
            case rel =>
              have := hV.out
              have := hltA.out
              exact ⟨v + 1, by omega, by go_num, I2⟩
    · obtain rfl : v = 4 := by have := hV.out; omega
      obtain ⟨T, TZ, B⟩ := I.out
      obtain ⟨t0, t1, t2, t3⟩ := T.copy
      have y0 := TZ.cell (k := 0) (by decide)
      have y1 := TZ.cell (k := 1) (by decide)
      have y2 := TZ.cell (k := 2) (by decide)
      have y3 := TZ.cell (k := 3) (by decide)
      have z0 := TZ.free 0
      have z1 := TZ.free 1
      have z2 := TZ.free 2
      have z3 := TZ.free 3
      have ge : Aside (w.heap.size ≤ b4) := Nat.le_of_eq hbA.out
      clear hv hlt
      go_wp2_with fail
      exact bodyPost_ret (Rf.results_tab rfl rfl (Rf.laid_tab TZ _)) rfl ⟨rfl, B.trans ((Rf.laid_turned _ _ _).below B.size ge.out)⟩
end Go.Proofs.YtdjjelknjojnfaaGreat
