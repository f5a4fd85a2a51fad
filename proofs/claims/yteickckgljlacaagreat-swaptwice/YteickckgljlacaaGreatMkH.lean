/-
  Collect: what isn't reached goes.
-/
import Derived.Test.YteickckgljlacaaGreatMkG
namespace Go.Proofs.YteickckgljlacaaGreat.Mk
open Go Go.RowKit

section
variable {w w' : World} {S : Nat} {F : Nat → Prop} {M : Mdl} {ks : List Nat}
theorem s_retain (h : St w S F M) (sh : Shut M ks) {ad : Option Addr} {cap Bl : Nat} (hl : OwnR 38 w Bl ad ks.length cap (fun i => .int .u32 (ks.getD i 0 : Nat))) :
    Calls Tryz.prog 57 #[.pointer (some ⟨S, 0, none⟩), .slice ad ks.length cap] w fun e w' => e = .returned (.int .i64 ((M.hs.length : Int) - (ks.length : Int))) ∧ ∃ F', St w' S F' (only M ks) ∧ Wf F F' w w' := by
  obtain ⟨I, h, rfl⟩ := h
  refine (retain_any h sh hl).mono ?_
  rintro e w' ⟨rfl, I', h', g⟩
  exact ⟨rfl, _, ⟨I', h', rfl⟩, g⟩
theorem Rch.shut {H : Nat → Nat} {n : Nat} (r : Rch M H n ks) (up : ks.Pairwise (· < ·)) : Shut M ks := ⟨r.inn, r.closed, up⟩
/-- What Collect tells and leaves. -/
def CollQ (S : Nat) (F : Nat → Prop) (M : Mdl) (n : Nat) (H : Nat → Nat) (w : World) (e : Ending) (w' : World) : Prop :=
  ((∀ i, i < n → M.isNode (H i)) ∧ ∃ xs F', e = .returned (.tuple #[.int .i64 ((M.hs.length : Int) - (xs.length : Int)), .int .i64 0]) ∧ Rch M H n xs ∧ xs.Pairwise (· < ·) ∧ St w' S F' (only M xs) ∧ Wf F F' w w') ∨
  ((∃ i, i < n ∧ ¬ M.isNode (H i)) ∧ e = .returned (.tuple #[.int .i64 0, .int .i64 101]) ∧ St w' S F M ∧ Below w.heap.size w w')
set_option maxRecDepth 100000 in
set_option maxHeartbeats 2000000 in
theorem collect_any {ad : Option Addr} {n cap : Nat} {H : Nat → Nat} (s : St w S F M) (hl : HsAt w ad n H) (hb : ∀ i, i < n → H i < 4294967296) (hn : n ≤ 1000000) :
    Calls Tryz.prog 30 #[.pointer (some ⟨S, 0, none⟩), .slice ad n cap] w (CollQ S F M n H w) := by
  have K := reach_any (cap := cap) s hl hb hn
  have sA : Aside (∀ u, Below w.heap.size w u → St u S F M) := fun u k => s.below k
  by_cases all : ∀ i, i < n → M.isNode (H i)
  · have K1 : Calls Tryz.prog 56 #[.pointer (some ⟨S, 0, none⟩), .slice ad n cap] w fun e w' => ∃ ad' cap' xs, e = .returned (.tuple #[.slice ad' xs.length cap', .int .i64 0]) ∧ Rch M H n xs ∧ xs.Pairwise (· < ·) ∧ OwnR 38 w' w.heap.size ad' xs.length cap' (fun i => .int .u32 (xs.getD i 0 : Nat)) ∧ Below w.heap.size w w' := K.mono fun e w' q => by
      rcases q with ⟨_, r⟩ | ⟨⟨i, hi, hq⟩, _⟩
      · exact r
      · exact absurd (all i hi) hq
    have allA : Aside (∀ i, i < n → M.isNode (H i)) := all
    clear K all s hl hb
    go_enter Tryz.func30, Tryz.ntmps30
    go_wp2_with (first
      | (go_at_call 56; refine K1.mono ?_; clear K1; rintro e w1 ⟨ad1, cap1, xs, rfl, rc, up, o1, b1⟩; have s1 := sA.out w1 b1; have K2 := s_retain s1 (rc.shut up) o1; have rA : Aside (Rch M H n xs ∧ xs.Pairwise (· < ·) ∧ Below w.heap.size w w1) := ⟨rc, up, b1⟩; clear rc up o1 b1)
      | (go_at_call 57; refine K2.mono ?_; clear K2; rintro e w2 ⟨rfl, F2, s2, g2⟩; have gA : Aside (St w2 S F2 (only M xs) ∧ Wf F F2 w1 w2) := ⟨s2, g2⟩; clear s2 g2))
    go_ret2
    obtain ⟨rc, up, b1⟩ := rA.out
    exact .inl ⟨allA.out, xs, F2, rfl, rc, up, gA.out.1, (Wf.of_below b1 F).trans gA.out.2⟩
  · have K1 : Calls Tryz.prog 56 #[.pointer (some ⟨S, 0, none⟩), .slice ad n cap] w fun e w' => e = .returned (.tuple #[.slice Option.none 0 0, .int .i64 101]) ∧ Below w.heap.size w w' := K.mono fun e w' q => by
      rcases q with ⟨r, _⟩ | ⟨_, r⟩
      · exact absurd r all
      · exact r
    have allA : Aside (∃ i, i < n ∧ ¬ M.isNode (H i)) := Classical.byContradiction fun q => all fun i hi => Classical.byContradiction fun z => q ⟨i, hi, z⟩
    clear K all s hl hb
    go_enter Tryz.func30, Tryz.ntmps30
    go_wp2_with (first
      | (go_at_call 56; refine K1.mono ?_; clear K1; rintro e w1 ⟨rfl, b1⟩))
    go_ret2
    exact .inr ⟨allA.out, rfl, sA.out _ b1, b1⟩
end
end Go.Proofs.YteickckgljlacaaGreat.Mk
