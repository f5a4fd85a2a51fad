/-
  Two tables in the same cells: what each call does to both.
-/
import Derived.Test.YtnekhfpccmnaiaaEachW
namespace Go.Proofs.Ytnekhfpccmnaiaa
open Go Go.RowKit

theorem Good.congr {n : Nat} {t u : Nat → Int} (h : Good n t) (hn : 1 ≤ n) (e : ∀ i, i < n → u i = t i) : Good n u := by
  intro k j hk hj hu i hi
  rw [e _ (place_lt _ _ hn)] at hu
  rw [e _ (place_lt _ _ hn)]
  exact h k j hk hj hu i hi
theorem FI.congr {n : Nat} {t u : Nat → Int} {S : Fd} (h : FI n t S) (hn : 1 ≤ n) (e : ∀ i, i < n → u i = t i) : FI n u S := by
  refine ⟨h.key, h.left, h.slot, fun i hi => ?_, h.going, fun a b c => ?_, fun d => ?_, h.full, h.made⟩
  · rw [e _ (place_lt _ _ hn)]; exact h.past i hi
  · rw [e _ (h.slot_lt hn (h.going a).1)]; exact h.held a b c
  · obtain ⟨a, b, c⟩ := h.found d
    exact ⟨a, b, by rw [e _ (h.slot_lt hn b)]; exact c⟩
theorem Sys.also {w w' : World} {P R N T T2 base b2 n n2 : Nat} {c c' : Nat → Int} {o f o' f' : Int} (h2 : Sys w P R N T2 b2 n2 c o f) (h1 : Sys w' P R N T base n c' o' f') (k : w'.heap[T2]? = w.heap[T2]?) : Sys w' P R N T2 b2 n2 c' o' f' :=
  ⟨h1.mem, k.trans h2.tab, h2.room, h2.pos, h2.small⟩

def v1 (c : Nat → Int) : Nat → Int := fun i => c (0 + i)
def v2 (c : Nat → Int) : Nat → Int := fun i => c (8 + i)
structure Two (w : World) (P R T1 T2 : Nat) (c : Nat → Int) : Prop where
  both : ∃ o f, Sys w P R 20 T1 0 8 c o f ∧ Sys w P R 20 T2 8 12 c o f
  g1 : Good 8 (v1 c)
  g2 : Good 12 (v2 c)

section
variable {w w' : World} {P R T1 T2 F G : Nat} {c : Nat → Int} {S S2 : Fd}
theorem Two.below (h : Two w P R T1 T2 c) (k : Below w.heap.size w w') : Two w' P R T1 T2 c := by
  obtain ⟨o, f, a, b⟩ := h.both
  exact ⟨⟨o, f, a.below k, b.below k⟩, h.g1, h.g2⟩
theorem two_find1 (h : Two w P R T1 T2 c) (k : Int) (h0 : 0 < k) (h1 : k ≤ 255) :
    Calls Try.prog 12 #[.pointer (some ⟨T1, 0, none⟩), .int .u64 k] w fun e w' => e = .returned (.pointer (some ⟨w.heap.size, 0, none⟩)) ∧ IsFd w' w.heap.size T1 (Fd.start 8 k) ∧ Two w' P R T1 T2 c ∧ Below w.heap.size w w' ∧ w.heap.size < w'.heap.size := by
  obtain ⟨o, f, a, b⟩ := h.both
  refine (find_any a k h0 (by omega)).mono ?_
  rintro e w' ⟨rfl, k1, b1, s1⟩
  exact ⟨rfl, k1, h.below b1, b1, s1⟩
theorem two_find2 (h : Two w P R T1 T2 c) (k : Int) (h0 : 0 < k) (h1 : k ≤ 255) :
    Calls Try.prog 12 #[.pointer (some ⟨T2, 0, none⟩), .int .u64 k] w fun e w' => e = .returned (.pointer (some ⟨w.heap.size, 0, none⟩)) ∧ IsFd w' w.heap.size T2 (Fd.start 12 k) ∧ Two w' P R T1 T2 c ∧ Below w.heap.size w w' ∧ w.heap.size < w'.heap.size := by
  obtain ⟨o, f, a, b⟩ := h.both
  refine (find_any b k h0 (by omega)).mono ?_
  rintro e w' ⟨rfl, k1, b1, s1⟩
  exact ⟨rfl, k1, h.below b1, b1, s1⟩
theorem two_len1 (h : Two w P R T1 T2 c) :
    Calls Try.prog 16 #[.pointer (some ⟨T1, 0, none⟩)] w fun e w' => e = .returned (.int .i64 ((cnt (v1 c) 8 : Nat) : Int)) ∧ Two w' P R T1 T2 c ∧ Moved P R w w' := by
  obtain ⟨o, f, a, b⟩ := h.both
  refine (tlen_any a).mono ?_
  rintro e w' ⟨rfl, ⟨o', h'⟩, m⟩
  exact ⟨rfl, ⟨⟨o', f, h', b.also h' (m.block _ b.ltT b.neP b.neR)⟩, h.g1, h.g2⟩, m⟩
theorem two_len2 (h : Two w P R T1 T2 c) :
    Calls Try.prog 16 #[.pointer (some ⟨T2, 0, none⟩)] w fun e w' => e = .returned (.int .i64 ((cnt (v2 c) 12 : Nat) : Int)) ∧ Two w' P R T1 T2 c ∧ Moved P R w w' := by
  obtain ⟨o, f, a, b⟩ := h.both
  refine (tlen_any b).mono ?_
  rintro e w' ⟨rfl, ⟨o', h'⟩, m⟩
  exact ⟨rfl, ⟨⟨o', f, a.also h' (m.block _ a.ltT a.neP a.neR), h'⟩, h.g1, h.g2⟩, m⟩
theorem two_step1 (h : Two w P R T1 T2 c) (k : IsFd w F T1 S) (l : IsFd w G T2 S2) (hne : F ≠ G) (fi : FI 8 (v1 c) S) (fj : FI 12 (v2 c) S2) :
    Calls Try.prog 13 #[.pointer (some ⟨F, 0, none⟩)] w fun e w' => ∃ (b : Bool) (c' : Nat → Int) (S' : Fd), e = .returned (.bool b) ∧ Two w' P R T1 T2 c' ∧ IsFd w' F T1 S' ∧ IsFd w' G T2 S2 ∧ FI 8 (v1 c') S' ∧ FI 12 (v2 c') S2 ∧ Went (Foot P R F) w w' := by
  obtain ⟨o, f, a, b⟩ := h.both
  refine (step_any a k (v1 c) (fun _ => rfl) fi).mono ?_
  rintro e w' ⟨rfl, c', h', t', out, k', m⟩
  have e1 : v1 c' = S.after (v1 c) := funext t'
  have e2 : v2 c' = v2 c := funext fun i => out (8 + i) (by omega)
  have hT : T2 ≠ F := fun d => k.neT b d.symm
  refine ⟨_, c', _, rfl, ⟨⟨_, _, h', b.also h' (m.block _ b.ltT fun d => ?_)⟩, ?_, ?_⟩, k', l.went m a hne.symm, ?_, ?_, m⟩
  · rcases d with d | d | d
    · exact b.neP d
    · exact b.neR d
    · exact hT d
  · rw [e1]; exact h.g1.step fi (by omega)
  · rw [e2]; exact h.g2
  · rw [e1]; exact fi.step
  · rw [e2]; exact fj
theorem two_step2 (h : Two w P R T1 T2 c) (k : IsFd w F T1 S) (l : IsFd w G T2 S2) (hne : F ≠ G) (fi : FI 8 (v1 c) S) (fj : FI 12 (v2 c) S2) :
    Calls Try.prog 13 #[.pointer (some ⟨G, 0, none⟩)] w fun e w' => ∃ (b : Bool) (c' : Nat → Int) (S' : Fd), e = .returned (.bool b) ∧ Two w' P R T1 T2 c' ∧ IsFd w' F T1 S ∧ IsFd w' G T2 S' ∧ FI 8 (v1 c') S ∧ FI 12 (v2 c') S' ∧ Went (Foot P R G) w w' := by
  obtain ⟨o, f, a, b⟩ := h.both
  refine (step_any b l (v2 c) (fun _ => rfl) fj).mono ?_
  rintro e w' ⟨rfl, c', h', t', out, k', m⟩
  have e2 : v2 c' = S2.after (v2 c) := funext t'
  have e1 : ∀ i, i < 8 → v1 c' i = v1 c i := fun i hi => out (0 + i) (by omega)
  have hT : T1 ≠ G := fun d => l.neT a d.symm
  refine ⟨_, c', _, rfl, ⟨⟨_, _, a.also h' (m.block _ a.ltT fun d => ?_), h'⟩, ?_, ?_⟩, k.went m b hne, k', ?_, ?_, m⟩
  · rcases d with d | d | d
    · exact a.neP d
    · exact a.neR d
    · exact hT d
  · exact h.g1.congr (by omega) e1
  · rw [e2]; exact h.g2.step fj (by omega)
  · exact fi.congr (by omega) e1
  · rw [e2]; exact fj.step
theorem two_clear (h : Two w P R T1 T2 c) :
    Calls Try.prog 24 #[.pointer (some ⟨T2, 0, none⟩)] w fun e w' => e = .returned (.tuple #[]) ∧ (∃ c', Two w' P R T1 T2 c' ∧ cnt (v2 c') 12 = 0 ∧ cnt (v1 c') 8 = cnt (v1 c) 8) ∧ Moved P R w w' := by
  obtain ⟨o, f, a, b⟩ := h.both
  refine (clear_any b).mono ?_
  rintro e w' ⟨rfl, ⟨o', h'⟩, m⟩
  have e1 : ∀ i, i < 8 → v1 (clr 8 c 12) i = v1 c i := fun i hi => by unfold v1 clr; rw [if_neg (by omega)]
  have e2 : ∀ i, i < 12 → v2 (clr 8 c 12) i = (fun _ => 0) i := fun i hi => by unfold v2 clr; rw [if_pos (by omega)]
  refine ⟨rfl, ⟨_, ⟨⟨o', f, a.also h' (m.block _ a.ltT a.neP a.neR), h'⟩, h.g1.congr (by omega) e1, (Good.empty 12).congr (by omega) e2⟩, ?_, cnt_congr 8 e1⟩, m⟩
  rw [cnt_congr 12 e2]
  exact cnt_zero 12
/-- What a finder tells, whenever it is asked. -/
theorem FI.tells {n : Nat} {t : Nat → Int} (f : FI n t S) (hn : 1 ≤ n) : (∃ q : Nat, q < n ∧ S.tells = ((q : Int), 0)) ∨ (cnt t n = n ∧ S.tells = (-1, 60)) ∨ S.tells = (-1, 61) := by
  cases hf : S.found with
  | true =>
    obtain ⟨_, hl, _⟩ := f.found hf
    exact .inl ⟨S.slot, f.slot_lt hn hl, tells_found hf⟩
  | false =>
    by_cases hs : S.st = 0
    · exact .inr (.inl ⟨cnt_full fun i hi => (f.all hs hf i hi).1, tells_full hf hs f.key⟩)
    · right; right
      unfold Fd.tells
      rw [if_neg (by simp [hf]), if_neg (fun e => hs e.1)]
end
end Go.Proofs.Ytnekhfpccmnaiaa
