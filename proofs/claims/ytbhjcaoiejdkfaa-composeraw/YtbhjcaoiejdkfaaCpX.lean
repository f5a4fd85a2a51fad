/-
  Package compose over a store with known handles; the statements' own first look.
-/
import Derived.Test.YtbhjcaoiejdkfaaCpS
import Derived.Test.YtbhjcaoiejdkfaaQtc
namespace Go.Proofs.Ytbhjcaoiejdkfaa
open Go Go.RowKit
open Rf (fixAt fixF IntsAt)

theorem com_congr {v : Nat} (hv : v < 8) {F F' G G' : Nat → Bool} (e : Eqt F F') (q : Eqt G G') : Eqt (comF v F G) (comF v F' G') := fun x hx => by
  unfold comF
  rw [q x hx, e _ (fixl hx hv _)]
theorem sb_congr {n : Nat} (hn : n ≤ 8) {F F' : Nat → Bool} {G G' : Nat → Nat → Bool} (e : Eqt F F') (q : ∀ u, u < n → Eqt (G u) (G' u)) : Eqt (sbF n G F) (sbF n G' F') := fun x hx => by
  unfold sbF
  have h1 := sb_bit G hx n hn
  have h2 := sb_bit G' hx n hn
  rw [e _ h1.1]
  refine congrArg F' (num_same h1.1 h2.1 fun j _ => ?_)
  rw [h1.2, h2.2]
  by_cases c : j < n
  · rw [if_pos c, if_pos c, q j c x hx]
  · rw [if_neg c, if_neg c]
section
variable {W w w' : World} {S n r b : Nat} {l : Kl} {x y v : Nat} {X Y : Nat → Bool}
theorem com_x (h : Sx W w S n r l b) (hx : (x, X) ∈ l) (hy : (y, Y) ∈ l) (hv : v < n) (c : Nat) (hc : 2 ^ (n - 2) ≤ c + 1) (hb : b + c + 19 ≤ r) :
    Calls Try.prog 14 #[.pointer (some ⟨S, 0, none⟩), .int .u32 (x : Int), .int .i64 (v : Int), .int .u32 (y : Int)] w (LeftX W S n r l (b + c) (comF v X Y) w) := by
  obtain ⟨F, M, s, e1, e2, e3, q, B, f⟩ := h
  obtain ⟨nx, ex⟩ := q _ hx
  obtain ⟨ny, ey⟩ := q _ hy
  obtain ⟨i, hi, hvi⟩ := surj_of_inj s.ok.vlt s.ok.vinj (u := v) (by rw [e1]; exact hv)
  have := compose_op s nx ny hi
  rw [hvi] at this
  exact this.mono fun e w' h => left_x s e1 e2 e3 q B f c hc hb (com_congr (by have := s.ok.le8; omega) ex ey) h
theorem com_varx (h : Sx W w S n r l b) (hx : (x, X) ∈ l) (hy : (y, Y) ∈ l) (v : Int) (hv : v < 0 ∨ (n : Int) ≤ v) :
    Calls Try.prog 14 #[.pointer (some ⟨S, 0, none⟩), .int .u32 (x : Int), .int .i64 v, .int .u32 (y : Int)] w fun e w' => e = .returned (.tuple #[.int .u32 0, .int .i64 40]) ∧ Below w.heap.size w w' := by
  obtain ⟨F, M, s, e1, e2, e3, q, B, f⟩ := h
  exact compose_var v s (q _ hx).1 (q _ hy).1 (by rw [e1]; exact hv)
theorem ren_x (h : Sx W w S n r l b) (hx : (x, X) ∈ l) {ad : Option Addr} {cap : Nat} {Z : Nat → Int} (hZ : IntsAt w ad n Z) (rng : ∀ u, u < n → 0 ≤ Z u ∧ Z u < n) (c : Nat) (hc : 2 ^ (n - 2) ≤ c + 1) (hb : b + c + 19 ≤ r) :
    Calls Try.prog 17 #[.pointer (some ⟨S, 0, none⟩), .int .u32 (x : Int), .slice ad n cap] w (LeftX W S n r l (b + c) (sbF n (fun u => Rf.M (Z u).toNat) X) w) := by
  obtain ⟨F, M, s, e1, e2, e3, q, B, f⟩ := h
  obtain ⟨nx, ex⟩ := q _ hx
  subst n
  refine (rename_any s nx hZ).mono fun e w' h => ?_
  rcases h with ⟨⟨u, hu, hb⟩, _⟩ | ⟨_, h⟩
  · have := rng u hu
    omega
  · exact left_x s rfl e2 e3 q B f c hc hb (sb_congr s.ok.le8 ex fun _ _ => Eqt.refl _) h
theorem ren_badx (h : Sx W w S n r l b) (hx : (x, X) ∈ l) {ad : Option Addr} {cap : Nat} {Z : Nat → Int} (hZ : IntsAt w ad n Z) (bad : ∃ u, u < n ∧ (Z u < 0 ∨ (n : Int) ≤ Z u)) :
    Calls Try.prog 17 #[.pointer (some ⟨S, 0, none⟩), .int .u32 (x : Int), .slice ad n cap] w fun e w' => e = .returned (.tuple #[.int .u32 0, .int .i64 40]) ∧ Below w.heap.size w w' := by
  obtain ⟨F, M, s, e1, e2, e3, q, B, f⟩ := h
  obtain ⟨nx, ex⟩ := q _ hx
  subst n
  refine (rename_any s nx hZ).mono fun e w' h => ?_
  rcases h with ⟨_, h⟩ | ⟨rng, _⟩
  · exact h
  · obtain ⟨u, hu, hb⟩ := bad
    have := rng u hu
    omega
theorem ren_lenx (h : Sx W w S n r l b) (hx : (x, X) ∈ l) (ad : Option Addr) (k cap : Nat) (hk : k ≠ n) :
    Calls Try.prog 17 #[.pointer (some ⟨S, 0, none⟩), .int .u32 (x : Int), .slice ad k cap] w fun e w' => e = .returned (.tuple #[.int .u32 0, .int .i64 40]) ∧ w' = w := by
  obtain ⟨F, M, s, e1, e2, e3, q, B, f⟩ := h
  exact rename_len s (q _ hx).1 ad k cap (by rw [e1]; exact hk)
theorem sub_x (h : Sx W w S n r l b) (hx : (x, X) ∈ l) {ad : Option Addr} {cap : Nat} {H : Nat → Nat} {G : Nat → Nat → Bool} (hH : HdAt w ad n H) (hN : ∀ u, u < n → (H u, G u) ∈ l) (c : Nat) (hc : 2 ^ (n - 2) ≤ c + 1) (hb : b + c + 19 ≤ r) :
    Calls Try.prog 16 #[.pointer (some ⟨S, 0, none⟩), .int .u32 (x : Int), .slice ad n cap] w (LeftX W S n r l (b + c) (sbF n G X) w) := by
  obtain ⟨F, M, s, e1, e2, e3, q, B, f⟩ := h
  obtain ⟨nx, ex⟩ := q _ hx
  subst n
  exact (subst_op s nx hH fun i hi => (q _ (hN i hi)).1).mono fun e w' h => left_x s rfl e2 e3 q B f c hc hb (sb_congr s.ok.le8 ex fun u hu => (q _ (hN u hu)).2) h
theorem sub_lenx (h : Sx W w S n r l b) (hx : (x, X) ∈ l) {ad : Option Addr} {k cap : Nat} {H : Nat → Nat} {G : Nat → Nat → Bool} (hH : HdAt w ad k H) (hN : ∀ u, u < k → (H u, G u) ∈ l) (hk : k ≤ 1000000) (ne : k ≠ n) :
    Calls Try.prog 16 #[.pointer (some ⟨S, 0, none⟩), .int .u32 (x : Int), .slice ad k cap] w fun e w' => e = .returned (.tuple #[.int .u32 0, .int .i64 40]) ∧ w' = w := by
  obtain ⟨F, M, s, e1, e2, e3, q, B, f⟩ := h
  exact subst_len s (q _ hx).1 hH (fun i hi => (q _ (hN i hi)).1) hk (by rw [e1]; exact ne)
theorem sub_nodesx (h : Sx W w S n r l b) (hx : (x, X) ∈ l) {ad : Option Addr} {k cap : Nat} {H : Nat → Nat} (hH : HdAt w ad k H) (hb : ∀ i, i < k → H i < 4294967296) (hk : k ≤ 1000000) (no : ∃ i, i < k ∧ 2 + r ≤ H i) :
    Calls Try.prog 16 #[.pointer (some ⟨S, 0, none⟩), .int .u32 (x : Int), .slice ad k cap] w fun e w' => e = .returned (.tuple #[.int .u32 0, .int .i64 101]) ∧ w' = w := by
  obtain ⟨F, M, s, e1, e2, e3, q, B, f⟩ := h
  obtain ⟨i, hi, hr⟩ := no
  exact subst_nodes s (q _ hx).1 hH hb hk ⟨i, hi, fun hn => by have := s.nodes hn; omega⟩
end
theorem Sx.set {W w : World} {S n r b : Nat} {l : Kl} (h : Sx W w S n r l b) {k : Nat} {cs : Array Value} {t : TypeId} {fr : Nat × Nat} (hk : w.heap[k]? = some (.cells cs t fr)) (ht : t ≠ 73 ∧ t ≠ 98 ∧ t ≠ 147 ∧ t ≠ 22) (hW : W.heap.size ≤ k) (o : Nat) (v : Value) : Sx W (w.setCell ⟨k, o, none⟩ v) S n r l b := by
  obtain ⟨F, M, s, e1, e2, e3, q, B, f⟩ := h
  have nk := s.row hk ht
  exact ⟨F, M, s.kept fun x hx => Below.heap_setCell _ _ _ _ (fun e => nk (show F k from (show x = k from e) ▸ hx)), e1, e2, e3, q, B.setCell hW v, f⟩
theorem info_int : (Try.prog.info? 3).map (fun i => (i.zero, i.size, i.bytes)) = some (some (.int .i64 0), 1, 8) := by kernel_rfl
theorem com_own {v : Nat} (hv : v < 8) (F : Nat → Bool) : Eqt (comF v F (Rf.M v)) F := fun x hx => by
  unfold comF
  rw [← Rf.M_bit, fixAt_same hx hv]
theorem com_var {v : Nat} (hv : v < 8) (G : Nat → Bool) : Eqt (comF v (Rf.M v) G) G := fun x hx => by
  unfold comF
  rw [← Rf.M_bit, fixb hx hv, if_pos rfl]
theorem ints2_new (w : World) (p q : Int) : IntsAt (w.alloc (.cells #[.int .i64 p, .int .i64 q] 3)) (some ⟨w.heap.size, 0, none⟩) 2 (fun u => if u = 0 then p else q) := by
  have h : (w.alloc (.cells #[.int .i64 p, .int .i64 q] 3)).heap[w.heap.size]? = some (.cells #[.int .i64 p, .int .i64 q] 3 (0, 0)) := Go.Deep.blk_alloc_new _ _
  refine .inr ⟨_, _, rfl, (Array.getElem?_eq_some_iff.1 h).1, fun i hi => ?_⟩
  have : i = 0 ∨ i = 1 := by omega
  rw [cell_of_row _ _ _ _ _ _ h]
  rcases this with rfl | rfl <;> rfl
theorem hd1_new (w : World) (a : Nat) : HdAt (w.alloc (.cells #[.int .u32 (a : Int)] 36)) (some ⟨w.heap.size, 0, none⟩) 1 (fun _ => a) := by
  have h : (w.alloc (.cells #[.int .u32 (a : Int)] 36)).heap[w.heap.size]? = some (.cells #[.int .u32 (a : Int)] 36 (0, 0)) := Go.Deep.blk_alloc_new _ _
  refine .inr ⟨_, _, rfl, (Array.getElem?_eq_some_iff.1 h).1, fun i hi => ?_⟩
  have : i = 0 := by omega
  subst this
  rw [cell_of_row _ _ _ _ _ _ h]
  rfl
set_option maxRecDepth 100000 in
set_option maxHeartbeats 1000000 in
theorem cknown_any (W : World) :
    Calls Try.prog 13 #[] W fun e w' => e = .returned (.bool true) ∧ Below W.heap.size W w' := by
  have K1 : Calls Try.prog 6 #[.int .i64 2, .int .i64 100] W _ := new_x W W 2 100 (by omega) (by omega) (by omega) (by omega) (Below.refl _ _)
  have E1 : Aside (Eqt (comF 0 (Rf.M 0) (Rf.M 1)) (Rf.M 1)) := com_var (by omega) _
  have E2 : Aside (Eqt (sbF 2 (fun u => Rf.M ((if u = 0 then 1 else 0 : Int)).toNat) (Rf.M 0)) (Rf.M 1)) := fun x hx => by
    unfold sbF
    rw [← Rf.M_bit, (sb_bit _ hx 2 (by omega)).2, if_pos (by omega)]
    rfl
  go_enter Try.func13, Try.ntmps13
  go_upto_region 7 with (first
    | (go_at_call 6; refine K1.mono ?_; clear K1; rintro e w1 ⟨S, rfl, f1, x1, b1⟩; have K2 : Calls Try.prog 30 #[.pointer (some ⟨S, 0, none⟩), .int .i64 0] w1 _ := var_x (v := 0) x1 (by omega) 0 (by decide) (by decide); clear f1)
    | (go_at_call 30; refine K2.mono ?_; clear K2; rintro e w2 ⟨a, rfl, x2, u2⟩; have K3 : Calls Try.prog 30 #[.pointer (some ⟨S, 0, none⟩), .int .i64 1] w2 _ := var_x (v := 1) x2 (by omega) 0 (by decide) (by decide))
    | (go_at_call 30; refine K3.mono ?_; clear K3; rintro e w3 ⟨b, rfl, x3, u3⟩; have K4 : Calls Try.prog 14 #[.pointer (some ⟨S, 0, none⟩), .int .u32 (a : Int), .int .i64 0, .int .u32 (b : Int)] w3 _ := com_x (v := 0) x3 (x := a) (y := b) (X := Rf.M 0) (Y := Rf.M 1) (by simp) (by simp) (by omega) 0 (by decide) (by decide))
    | (go_at_call 14; refine K4.mono ?_; clear K4; rintro e w4 ⟨p, rfl, x4, u4⟩; have hp : p = b := x4.same (X := comF 0 (Rf.M 0) (Rf.M 1)) (Y := Rf.M 1) (by simp) (by simp) E1.out; subst p))
  have x5 := x4.below (nb w4 (.cells #[.int .i64 1, .int .i64 0] 3))
  have K5 := ren_x (cap := 2) x5 (x := a) (X := Rf.M 0) (by simp) (ints2_new w4 1 0) (fun u hu => by split <;> omega) 0 (by decide) (by decide)
  clear x1 x2 x3 u2 u3 u4 b1
  go_upto_region 9 with (first
    | (go_at_call 17; refine K5.mono ?_; clear K5; rintro e w6 ⟨p, rfl, x6, u6⟩; have hp : p = b := x6.same (X := sbF 2 (fun u => Rf.M ((if u = 0 then 1 else 0 : Int)).toNat) (Rf.M 0)) (Y := Rf.M 1) (by simp) (by simp) E2.out; subst p; have K6 := com_varx x6 (x := a) (y := b) (X := Rf.M 0) (Y := Rf.M 1) (by simp) (by simp) 2 (by omega))
    | (go_at_call 14; refine K6.mono ?_; clear K6; rintro e w7 ⟨rfl, b7⟩))
  have x7 := (x6.below b7).below (nb w7 (.cells #[.int .u32 (a : Int)] 36))
  have K7 := sub_lenx (cap := 1) x7 (x := a) (X := Rf.M 0) (G := fun _ => Rf.M 0) (by simp) (hd1_new w7 a) (fun u hu => by simp) (by omega) (by omega)
  clear x4 x5 x6 u6 b7
  go_wp2_with (first
    | (go_at_call 16; refine K7.mono ?_; clear K7; rintro e w8 ⟨rfl, e8⟩; subst w8))
  go_ret
  exact ⟨rfl, x7.base⟩
end Go.Proofs.Ytbhjcaoiejdkfaa
