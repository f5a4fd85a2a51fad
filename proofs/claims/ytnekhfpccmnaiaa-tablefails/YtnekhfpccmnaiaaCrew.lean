/-
  A row of finders of one table: what a step of one of them does to all.
-/
import Derived.Test.YtnekhfpccmnaiaaOwn
import Derived.Deep.QuietTactic
import Derived.BigQuiet
namespace Go.Proofs.Ytnekhfpccmnaiaa
open Go Go.RowKit

theorem OwnR.row {e e2 : TypeId} {w w' : World} {B n cap m cap2 B2 : Nat} {ad ad2 : Option Addr} {V V2 : Nat → Value} (h : OwnR e w B ad n cap V) (h2 : OwnR e2 w B2 ad2 m cap2 V2) (hne : e ≠ e2) (k : Went (At ad2) w w') : OwnR e w' B ad n cap V := by
  refine h.kept fun b hb => k.block b (h.block b hb).2 fun hA => ?_
  obtain ⟨cur, hc⟩ := h.kind b hb
  exact h2.apart hc hne hA
theorem Went.at_below {ad : Option Addr} {w w' : World} {B : Nat} (k : Went (At ad) w w') (hB : B ≤ w.heap.size) (h : ∀ b, At ad b → B ≤ b) : Below B w w' := k.below hB h

/-- The m finders at Fs, in the states Ss, of the table at T with the slots t. -/
structure Crew (W w : World) (R T n m : Nat) (ad : Option Addr) (cap : Nat) (Fs : Nat → Nat) (Ss : Nat → Fd) (t : Nat → Int) (o f : Int) : Prop where
  sys : ∃ c, Sys w (R + 1) R n T 0 n c o f ∧ ∀ j, c (0 + j) = t j
  good : Good n t
  own : OwnR 30 w W.heap.size ad m cap (fun i => .pointer (some ⟨Fs i, 0, none⟩))
  fds : ∀ i, i < m → IsFd w (Fs i) T (Ss i) ∧ FI n t (Ss i) ∧ W.heap.size ≤ Fs i
  inj : ∀ i j, i < m → j < m → Fs i = Fs j → i = j
  old : Below W.heap.size W w
  size : W.heap.size ≤ w.heap.size
  hR : W.heap.size ≤ R

def setS (Ss : Nat → Fd) (k : Nat) (S : Fd) : Nat → Fd := fun i => if i = k then S else Ss i
theorem setS_same (Ss : Nat → Fd) (k : Nat) (S : Fd) : setS Ss k S k = S := by simp [setS]
theorem setS_other (Ss : Nat → Fd) {k i : Nat} (S : Fd) (h : i ≠ k) : setS Ss k S i = Ss i := by simp [setS, h]
def setF (Fs : Nat → Nat) (k : Nat) (F : Nat) : Nat → Nat := fun i => if i = k then F else Fs i
theorem setF_same (Fs : Nat → Nat) (k : Nat) (F : Nat) : setF Fs k F k = F := by simp [setF]
theorem setF_other (Fs : Nat → Nat) {k i : Nat} (F : Nat) (h : i ≠ k) : setF Fs k F i = Fs i := by simp [setF, h]

section
variable {W w w' : World} {R T n m cap : Nat} {ad : Option Addr} {Fs : Nat → Nat} {Ss : Nat → Fd} {t : Nat → Int} {o f : Int}
theorem Crew.pos (h : Crew W w R T n m ad cap Fs Ss t o f) : 1 ≤ n := by
  obtain ⟨c, H, _⟩ := h.sys
  exact H.pos
theorem Crew.fd (h : Crew W w R T n m ad cap Fs Ss t o f) {k : Nat} (hk : k < m) : IsFd w (Fs k) T (Ss k) := (h.fds k hk).1
theorem Crew.fi (h : Crew W w R T n m ad cap Fs Ss t o f) {k : Nat} (hk : k < m) : FI n t (Ss k) := (h.fds k hk).2.1
theorem Crew.new (h : Crew W w R T n m ad cap Fs Ss t o f) (k : Below w.heap.size w w') : Crew W w' R T n m ad cap Fs Ss t o f := by
  obtain ⟨c, H, ht⟩ := h.sys
  exact ⟨⟨c, H.below k, ht⟩, h.good, h.own.below k, fun i hi => ⟨(h.fds i hi).1.below k, (h.fds i hi).2⟩, h.inj, far h.old k h.size, Nat.le_trans h.size k.size, h.hR⟩
theorem Crew.drawn (h : Crew W w R T n m ad cap Fs Ss t o f) (q : Nat) : Crew W (w.drewN q) R T n m ad cap Fs Ss t o f := by
  obtain ⟨c, H, ht⟩ := h.sys
  exact ⟨⟨c, H.kept (fun _ _ => rfl), ht⟩, h.good, h.own.kept (fun _ _ => rfl), fun i hi => ⟨(h.fds i hi).1.kept rfl, (h.fds i hi).2⟩, h.inj, ⟨h.old.os, h.old.tape, h.old.output, h.old.size, h.old.block⟩, h.size, h.hR⟩
/-- Behind a call that touches the cells alone. -/
theorem Crew.moved {c : Nat → Int} {o' f' : Int} (h : Crew W w R T n m ad cap Fs Ss t o f) (H : Sys w' (R + 1) R n T 0 n c o' f') (ht : ∀ j, c (0 + j) = t j) (k : Moved (R + 1) R w w') : Crew W w' R T n m ad cap Fs Ss t o' f' := by
  obtain ⟨c0, H0, _⟩ := h.sys
  exact ⟨⟨c, H, ht⟩, h.good, h.own.moved (.inl rfl) H0 k, fun i hi => ⟨(h.fds i hi).1.moved H0.mem k, (h.fds i hi).2⟩, h.inj, below_move h.old k (by have := h.hR; omega) h.hR h.size, Nat.le_trans h.size k.size, h.hR⟩
theorem Crew.row {e : TypeId} {m2 cap2 : Nat} {ad2 : Option Addr} {V2 : Nat → Value} (h : Crew W w R T n m ad cap Fs Ss t o f) (o2 : OwnR e w W.heap.size ad2 m2 cap2 V2) (he : e = 22 ∨ e = 3) (k : Went (At ad2) w w') : Crew W w' R T n m ad cap Fs Ss t o f := by
  obtain ⟨c, H, ht⟩ := h.sys
  have he2 : e = 30 ∨ e = 22 ∨ e = 3 := .inr he
  exact ⟨⟨c, H.row o2 he2 k, ht⟩, h.good, h.own.row o2 (by rcases he with rfl | rfl <;> decide) k, fun i hi => ⟨(h.fds i hi).1.row o2 he2 k, (h.fds i hi).2⟩, h.inj, h.old.trans (k.below h.size fun b hb => (o2.block b hb).1), Nat.le_trans h.size k.size, h.hR⟩
/-- One finder more. -/
theorem Crew.add {w2 : World} {F g cap' : Nat} {S : Fd} (h : Crew W w R T n m ad cap Fs Ss t o f) (hF : IsFd w F T S) (fi : FI n t S) (hWF : W.heap.size ≤ F) (hnew : ∀ i, i < m → Fs i ≠ F)
    (o2 : OwnR 30 w2 W.heap.size (some ⟨g, 0, none⟩) (m + 1) cap' (fun i => if i = m then .pointer (some ⟨F, 0, none⟩) else .pointer (some ⟨Fs i, 0, none⟩))) (k : Went (At ad) w w2) :
    Crew W w2 R T n (m + 1) (some ⟨g, 0, none⟩) cap' (setF Fs m F) (setS Ss m S) t o f := by
  obtain ⟨c, H, ht⟩ := h.sys
  refine ⟨⟨c, H.row h.own (.inl rfl) k, ht⟩, h.good, o2.congr fun i hi => ?_, fun i hi => ?_, fun i j hi hj e => ?_, h.old.trans (k.below h.size fun b hb => (h.own.block b hb).1), Nat.le_trans h.size k.size, h.hR⟩
  · by_cases d : i = m
    · simp only [d, if_true, setF_same]
    · simp only [d, if_false, setF_other _ _ d]
  · by_cases d : i = m
    · rw [d, setF_same, setS_same]
      exact ⟨hF.row h.own (.inl rfl) k, fi, hWF⟩
    · rw [setF_other _ _ d, setS_other _ _ d]
      have := h.fds i (by omega)
      exact ⟨this.1.row h.own (.inl rfl) k, this.2⟩
  · by_cases d : i = m
    · by_cases d2 : j = m
      · omega
      · rw [d, setF_same, setF_other _ _ d2] at e
        exact absurd e.symm (hnew j (by omega))
    · by_cases d2 : j = m
      · rw [d2, setF_same, setF_other _ _ d] at e
        exact absurd e (hnew i (by omega))
      · rw [setF_other _ _ d, setF_other _ _ d2] at e
        exact h.inj i j (by omega) (by omega) e
/-- A step of finder k. -/
theorem crew_step (h : Crew W w R T n m ad cap Fs Ss t o f) {k : Nat} (hk : k < m) :
    Calls Try.prog 13 #[.pointer (some ⟨Fs k, 0, none⟩)] w fun e w' => e = .returned (.bool (decide (((Ss k).nxt n (t (Ss k).slot)).st = 0))) ∧
      Crew W w' R T n m ad cap Fs (setS Ss k ((Ss k).nxt n (t (Ss k).slot))) ((Ss k).after t) (opsOn o (Ss k)) (failsOn f (t (Ss k).slot) (Ss k)) ∧ Went (Foot (R + 1) R (Fs k)) w w' := by
  obtain ⟨c, H, ht⟩ := h.sys
  obtain ⟨kf, fi, hW⟩ := h.fds k hk
  refine (step_any H kf t ht fi).mono ?_
  rintro e w' ⟨rfl, c', H', ht', _, k', b'⟩
  have hR := h.hR
  refine ⟨rfl, ⟨⟨c', H', ht'⟩, h.good.step fi H.pos, h.own.went (.inl rfl) H kf b', fun i hi => ?_, h.inj, below_step h.old b' (by omega) hR hW h.size, Nat.le_trans h.size b'.size, hR⟩, b'⟩
  by_cases d : i = k
  · rw [d, setS_same]
    exact ⟨k', fi.step, hW⟩
  · rw [setS_other _ _ d]
    obtain ⟨ki, fii, hWi⟩ := h.fds i hi
    exact ⟨ki.went b' H (fun e => d (h.inj i k hi hk e)), fii.grow (after_grows t (Ss k)), hWi⟩
theorem crew_find (h : Crew W w R T n m ad cap Fs Ss t o f) (k : Int) (h0 : 0 < k) (h1 : k ≤ 255) :
    Calls Try.prog 12 #[.pointer (some ⟨T, 0, none⟩), .int .u64 k] w fun e w' => e = .returned (.pointer (some ⟨w.heap.size, 0, none⟩)) ∧ IsFd w' w.heap.size T (Fd.start n k) ∧ Crew W w' R T n m ad cap Fs Ss t o f ∧ (∀ i, i < m → Fs i ≠ w.heap.size) := by
  obtain ⟨c, H, ht⟩ := h.sys
  refine (find_any H k h0 (by omega)).mono ?_
  rintro e w' ⟨rfl, k1, b1, s1⟩
  exact ⟨rfl, k1, h.new b1, fun i hi e => by have := (h.fds i hi).1.lt; omega⟩
theorem crew_len (h : Crew W w R T n m ad cap Fs Ss t o f) :
    Calls Try.prog 16 #[.pointer (some ⟨T, 0, none⟩)] w fun e w' => e = .returned (.int .i64 ((cnt t n : Nat) : Int)) ∧ (∃ o', Crew W w' R T n m ad cap Fs Ss t o' f) ∧ Moved (R + 1) R w w' := by
  obtain ⟨c, H, ht⟩ := h.sys
  have K := tlen_any H
  rw [cnt_congr n (fun i _ => ht i)] at K
  refine K.mono ?_
  rintro e w' ⟨rfl, ⟨o', H'⟩, b'⟩
  exact ⟨rfl, ⟨o', h.moved H' ht b'⟩, b'⟩
theorem crew_at (h : Crew W w R T n m ad cap Fs Ss t o f) (s : Nat) (hs : s < n) (x : Int) (hx : t s = x) :
    Calls Try.prog 17 #[.pointer (some ⟨T, 0, none⟩), .int .i64 (s : Int)] w fun e w' => e = .returned (.int .u64 x) ∧ (∃ o', Crew W w' R T n m ad cap Fs Ss t o' f) ∧ Moved (R + 1) R w w' := by
  obtain ⟨c, H, ht⟩ := h.sys
  have K := at_in H s hs
  rw [ht, hx] at K
  refine K.mono ?_
  rintro e w' ⟨rfl, H', b'⟩
  exact ⟨rfl, ⟨_, h.moved H' ht b'⟩, b'⟩
theorem crew_has (h : Crew W w R T n m ad cap Fs Ss t o f) (k : Int) (h0 : 0 ≤ k) (h1 : k ≤ 255) :
    Calls Try.prog 19 #[.pointer (some ⟨T, 0, none⟩), .int .u64 k] w fun e w' => ∃ (y : Int) (ok : Bool), e = .returned (.tuple #[.int .i64 y, .bool ok]) ∧ Told n t k y ok ∧ (∃ o', Crew W w' R T n m ad cap Fs Ss t o' f) ∧ Moved (R + 1) R w w' := by
  obtain ⟨c, H, ht⟩ := h.sys
  refine (has_any H t ht k h0 (by omega) h.good).mono ?_
  rintro e w' ⟨y, ok, rfl, told, ⟨o', H'⟩, b'⟩
  exact ⟨y, ok, rfl, told, ⟨o', h.moved H' ht b'⟩, b'⟩
theorem crew_done (h : Crew W w R T n m ad cap Fs Ss t o f) {k : Nat} (hk : k < m) (b : Bool) (hb : decide ((Ss k).st = 0) = b) :
    Calls Try.prog 15 #[.pointer (some ⟨Fs k, 0, none⟩)] w fun e w' => e = .returned (.bool b) ∧ w' = w := done_is (h.fd hk) b hb
theorem crew_ops (h : Crew W w R T n m ad cap Fs Ss t o f) :
    Calls Try.prog 21 #[.pointer (some ⟨R + 1, 0, none⟩)] w fun e w' => e = .returned (.int .i64 o) ∧ w' = w := by
  obtain ⟨c, H, ht⟩ := h.sys
  exact ops_any _ _ _ _ _ _ _ H.mem
theorem crew_fails (h : Crew W w R T n m ad cap Fs Ss t o f) :
    Calls Try.prog 25 #[.pointer (some ⟨R + 1, 0, none⟩)] w fun e w' => e = .returned (.int .i64 f) ∧ w' = w := by
  obtain ⟨c, H, ht⟩ := h.sys
  exact fails_any _ _ _ _ _ _ _ H.mem
end
end Go.Proofs.Ytnekhfpccmnaiaa
