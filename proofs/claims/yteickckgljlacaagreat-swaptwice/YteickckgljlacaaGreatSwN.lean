/-
  Two levels of a store exchanged (Swap): each handle's function is what it was.
-/
import Derived.Test.YteickckgljlacaaGreatSwM
namespace Go.Proofs.YteickckgljlacaaGreat.Sw
open Go Go.RowKit

section
variable {w w' : World} {S k : Nat} {M : Mdl} {F : Nat → Prop}
theorem swap_bad (s : St w S F M) (z : Int) (hz : z < 0 ∨ (M.n : Int) ≤ z + 1) :
    Calls Tryz.prog 18 #[.pointer (some ⟨S, 0, none⟩), .int .i64 z] w fun e w' => e = .returned (.int .i64 40) ∧ Below w.heap.size w w' := by
  have n8 := s.ok.le8
  have K1 := s_order' s
  have hzA : Aside (z < 0 ∨ (M.n : Int) ≤ z + 1) := hz
  clear hz s
  go_enter Tryz.func18, Tryz.ntmps18
  go_wp2_with (first
    | (go_at_call 10; refine K1.mono ?_; clear K1; rintro e w1 ⟨P, l, rfl, o1, inv, b1, hP⟩; have K2 := Od.swap_out o1 n8 z hzA.out)
    | (go_at_call 46; refine K2.mono ?_; clear K2; rintro e w2 ⟨rfl, rfl⟩))
  go_ret
  exact ⟨rfl, b1⟩
/-- What a swap needs and finds. -/
theorem swap_full (s : St w S F M) (kn : k + 1 < M.n) (full : M.room < M.hs.length + 2 * atLev M k) :
    Calls Tryz.prog 18 #[.pointer (some ⟨S, 0, none⟩), .int .i64 (k : Int)] w fun e w' => e = .returned (.int .i64 60) ∧ Below w.heap.size w w' := by
  have ok := s.ok
  have n8 := ok.le8
  have sA : Aside (St w S F M) := s
  have K1 := s_order' s
  have h8 : ∀ i, i < M.n → M.v i < M.n := ok.vlt
  have hl := ok.len
  have hr := s.room
  have ha : atLev M k ≤ M.hs.length := by unfold atLev; exact List.length_filter_le _ _
  have hwr : IntKind.i64.wrap ((M.room : Int) - (M.hs.length : Int)) = (M.room : Int) - (M.hs.length : Int) := by rw [IntKind.wrap_i64]; omega
  have hgt : (M.room : Int) - (M.hs.length : Int) < ((2 * atLev M k : Nat) : Int) := by omega
  have KN : Aside (∀ u, Below w.heap.size w u → Calls Tryz.prog 17 #[.pointer (some ⟨S, 0, none⟩), .int .i64 (k : Int)] u fun e w' => e = .returned (.int .i64 ((2 * atLev M k : Nat) : Int)) ∧ Below u.heap.size u w') := fun u b => by
    have := needs_any (sA.out.below b) (k : Int)
    rwa [atZ_nat] at this
  have KR : Aside (∀ u, Below w.heap.size w u → Calls Tryz.prog 19 #[.pointer (some ⟨S, 0, none⟩)] u fun e w' => e = .returned (.int .i64 (M.room : Int)) ∧ w' = u) := fun u b => s_room (sA.out.below b)
  have KL : Aside (∀ u, Below w.heap.size w u → Calls Tryz.prog 16 #[.pointer (some ⟨S, 0, none⟩)] u fun e w' => e = .returned (.int .i64 (M.hs.length : Int)) ∧ ∃ q, w' = u.drewN q) := fun u b => s_len (sA.out.below b)
  clear s ok
  generalize ((2 * atLev M k : Nat) : Int) = z at hgt KN
  go_enter Tryz.func18, Tryz.ntmps18
  go_wp2_with (first
    | (go_at_call 10; refine K1.mono ?_; clear K1; rintro e w1 ⟨P, l, rfl, o1, inv, b1, hP⟩; have K2 := Od.swap_in o1 n8 k kn h8)
    | (go_at_call 46; refine K2.mono ?_; clear K2; rintro e w2 ⟨rfl, o2, m2⟩; have b2 : Below w.heap.size w w2 := b1.trans (m2.below b1.size hP); have K3 := KN.out w2 b2)
    | (go_at_call 17; refine K3.mono ?_; clear K3; rintro e w3 ⟨rfl, b3⟩; have b4 : Below w.heap.size w w3 := b2.trans (b3.mono b2.size); have K4 := KR.out w3 b4; have K5 := KL.out w3 b4)
    | (go_at_call 19; refine K4.mono ?_; clear K4; rintro e w4 ⟨rfl, rfl⟩)
    | (go_at_call 16; refine K5.mono ?_; clear K5; rintro e w4 ⟨rfl, q, rfl⟩))
  go_ret
  exact ⟨rfl, ⟨b4.os, b4.tape, b4.output, b4.size, b4.block⟩⟩
set_option maxHeartbeats 1000000 in
theorem swap_ok (s : St w S F M) (kn : k + 1 < M.n) (room : M.hs.length + 2 * atLev M k ≤ M.room) :
    Calls Tryz.prog 18 #[.pointer (some ⟨S, 0, none⟩), .int .i64 (k : Int)] w fun e w' => e = .returned (.int .i64 0) ∧ ∃ F' M', Plan M k M' ∧ M'.hs.length ≤ M.hs.length + 2 * atLev M k ∧ St w' S F' M' ∧ Wf F F' w w' := by
  have ok := s.ok
  have n8 := ok.le8
  have sA : Aside (St w S F M) := s
  have okA : Aside M.Ok := ok
  have K1 := s_order' s
  have h8 : ∀ i, i < M.n → M.v i < M.n := ok.vlt
  have hr := s.room
  have roomA : Aside (M.hs.length + 2 * atLev M k ≤ M.room) := room
  have hwr : IntKind.i64.wrap ((M.room : Int) - (M.hs.length : Int)) = (M.room : Int) - (M.hs.length : Int) := by rw [IntKind.wrap_i64]; omega
  have hgt : ¬ (M.room : Int) - (M.hs.length : Int) < ((2 * atLev M k : Nat) : Int) := by omega
  have KN : Aside (∀ u, Below w.heap.size w u → Calls Tryz.prog 17 #[.pointer (some ⟨S, 0, none⟩), .int .i64 (k : Int)] u fun e w' => e = .returned (.int .i64 ((2 * atLev M k : Nat) : Int)) ∧ Below u.heap.size u w') := fun u b => by
    have := needs_any (sA.out.below b) (k : Int)
    rwa [atZ_nat] at this
  have KR : Aside (∀ u, Below w.heap.size w u → Calls Tryz.prog 19 #[.pointer (some ⟨S, 0, none⟩)] u fun e w' => e = .returned (.int .i64 (M.room : Int)) ∧ w' = u) := fun u b => s_room (sA.out.below b)
  have KL : Aside (∀ u, Below w.heap.size w u → Calls Tryz.prog 16 #[.pointer (some ⟨S, 0, none⟩)] u fun e w' => e = .returned (.int .i64 (M.hs.length : Int)) ∧ ∃ q, w' = u.drewN q) := fun u b => s_len (sA.out.below b)
  have KE : Aside (∀ u, Below w.heap.size w u → Calls Tryz.prog 48 #[.pointer (some ⟨S, 0, none⟩), .int .i64 (k : Int)] u _) := fun u b => exchanged_any (sA.out.below b) kn room
  have hcA : Aside (∀ c, c ≤ 2 * atLev M k → M.hs.length + c ≤ M.room) := fun c hc => by omega
  clear s ok room
  generalize ((2 * atLev M k : Nat) : Int) = z at hgt KN
  go_enter Tryz.func18, Tryz.ntmps18
  go_wp2_with (first
    | (go_at_call 10; refine K1.mono ?_; clear K1; rintro e w1 ⟨P, l, rfl, o1, inv, b1, hP⟩; have K2 := Od.swap_in o1 n8 k kn h8; rw [swV_eq] at K2; have invA : Aside (∀ i, i < M.n → Od.swL M.v l k (swv M.v k i) = i) := swL_inv kn inv okA.out.vinj; clear inv)
    | (go_at_call 46; refine K2.mono ?_; clear K2; rintro e w2 ⟨rfl, o2, m2⟩; have b2 : Below w.heap.size w w2 := b1.trans (m2.below b1.size hP); have K3 := KN.out w2 b2)
    | (go_at_call 17; refine K3.mono ?_; clear K3; rintro e w3 ⟨rfl, b3⟩; have o3 := o2.below b3; have b4 : Below w.heap.size w w3 := b2.trans (b3.mono b2.size); have K4 := KR.out w3 b4; have K5 := KL.out w3 b4)
    | (go_at_call 19; refine K4.mono ?_; clear K4; rintro e w4 ⟨rfl, e4⟩; subst w4)
    | (go_at_call 16; refine K5.mono ?_; clear K5; rintro e w4 ⟨rfl, q, rfl⟩; have b5 : Below w.heap.size w (w3.drewN q) := ⟨b4.os, b4.tape, b4.output, b4.size, b4.block⟩; have o5 : Od.IsOrd (w3.drewN q) P M.n (swv M.v k) (Od.swL M.v l k) := o3.of_block rfl; have K6 := KE.out (w3.drewN q) b5)
    | (go_at_call 48; refine K6.mono ?_; clear K6; rintro e w6 ⟨bn, N, L, last, c, rfl, hm, pi, hc, b6, hbn⟩; have o6 := o5.below b6; have b7 : Below w.heap.size w w6 := b5.trans (b6.mono b5.size); obtain ⟨I, hI, hF⟩ := sA.out.below b7; have plA : Aside (Plan M k (laidM M k N) ∧ (laidM M k N).hs.length ≤ M.hs.length + 2 * atLev M k) := ⟨pi.plan okA.out kn (fun x hx => (sA.out.nodes (.inr hx))) hr.2 (hcA.out c hc), by have := pi.laid_len; omega⟩; have K7 := relay_st hI kn pi (hcA.out c hc) hm o6 invA.out; have hFA : Aside (F = Fp S I) := hF; clear hF pi hm hI)
    | (go_at_call 47; refine K7.mono ?_; clear K7; rintro e w8 ⟨rfl, I', s8, g8⟩))
  go_ret
  refine ⟨rfl, Fp S I', laidM M k N, plA.out.1, plA.out.2, ⟨I', s8, rfl⟩, ?_⟩
  rw [hFA.out]
  exact (Wf.of_below b7 (Fp S I)).trans g8
end
end Go.Proofs.YteickckgljlacaaGreat.Sw
