/-
  QuantRaw, walked.
-/
import Derived.Test.YtjbkgladpkmdhaaGreatQtK
namespace Go.Proofs.YtjbkgladpkmdhaaGreat
open Go Go.RowKit

section
variable {W w w' : World} {S n r m nv a : Nat} {l : Kl}
/-- What a quantifier leaves of a constant. -/
def LeftC (W : World) (S n r a : Nat) (e : Ending) (w' : World) : Prop := e = .returned (.tuple #[.int .u32 (a : Int), .int .i64 0]) ∧ Sx W w' S n r [] r
theorem left_c {F0 : Nat → Prop} {M : Mdl} {Y : Nat → Bool} {e : Ending} (_s : St w S F0 M) (e1 : M.n = n) (e2 : M.room = r) (B : Below W.heap.size W w) (f : ∀ k, F0 k → W.heap.size ≤ k) (ha : a < 2) (h : LeftQ S F0 w M 0 a Y e w') : LeftC W S n r a e w' := by
  obtain ⟨x, er, M', F', rfl, t, c, s', g⟩ := h
  obtain ⟨rfl, rfl⟩ := c ha
  have u : M'.up ≤ M'.hs.length := List.length_filter_le _ _
  have ln := s'.ok.len
  rcases t with ⟨_, t⟩ | ⟨e, _⟩
  · have rm : M'.room = r := t.grew.room.trans e2
    exact ⟨rfl, F', M', s', t.grew.n.trans e1, rm, by omega, (fun p hp => absurd hp List.not_mem_nil), Wf.far B g B.size f, g.after B.size f⟩
  · cases e
theorem ex_c (h : Sx W w S n r [] r) (ha : a < 2) (hm : m < 2 ^ n) :
    Calls Tryz.prog 11 #[.pointer (some ⟨S, 0, none⟩), .int .u32 (a : Int), .int .u8 (m : Int)] w (LeftC W S n r a) := by
  obtain ⟨F0, M, s, e1, e2, e3, q, B, f⟩ := h
  exact (exq_op s (.inl ha) (by rw [e1]; exact hm)).mono fun e w' h => left_c s e1 e2 B f ha h
theorem all_c (h : Sx W w S n r [] r) (ha : a < 2) (hm : m < 2 ^ n) :
    Calls Tryz.prog 12 #[.pointer (some ⟨S, 0, none⟩), .int .u32 (a : Int), .int .u8 (m : Int)] w (LeftC W S n r a) := by
  obtain ⟨F0, M, s, e1, e2, e3, q, B, f⟩ := h
  exact (allq_op s (.inl ha) (by rw [e1]; exact hm)).mono fun e w' h => left_c s e1 e2 B f ha h
theorem res_c (h : Sx W w S n r [] r) (ha : a < 2) (hm : m < 2 ^ n) (hv : nv < 256) :
    Calls Tryz.prog 13 #[.pointer (some ⟨S, 0, none⟩), .int .u32 (a : Int), .int .u8 (m : Int), .int .u8 (nv : Int)] w (LeftC W S n r a) := by
  obtain ⟨F0, M, s, e1, e2, e3, q, B, f⟩ := h
  exact (resq_op s (.inl ha) (by rw [e1]; exact hm) hv).mono fun e w' h => left_c s e1 e2 B f ha h
end
theorem empty_node {n r a : Nat} : (Mdl.empty n r).isNode a ↔ a < 2 := ⟨fun h => h.resolve_right (by rintro h; cases h), .inl⟩
set_option maxRecDepth 100000 in
set_option maxHeartbeats 4000000 in
theorem raw_walk (z : Int) (h m nv : Nat) (W : World) (z0 : 0 ≤ z) (hh : h < 4294967296) (hm : m < 256) (hv : nv < 256) :
    Calls Tryz.prog 5 #[.int .u8 z, .int .u32 (h : Int), .int .u8 (m : Int), .int .u8 (nv : Int)] W fun e w' => e = .returned (.bool true) ∧ Below W.heap.size W w' := by
  obtain ⟨n, hn⟩ : ∃ n : Nat, z % 8 + 1 = (n : Int) := ⟨(z % 8 + 1).toNat, by omega⟩
  have n1 : 1 ≤ n := by omega
  have n8 : n ≤ 8 := by omega
  have hz : Int.tmod z 8 = z % 8 := Int.tmod_eq_emod_of_nonneg z0
  obtain ⟨P, hP⟩ : ∃ P : Nat, 2 ^ n = P := ⟨_, rfl⟩
  have hP2 : (2 : Int) ^ n = (P : Int) := by rw [← hP]; push_cast; rfl
  have hP8 : P ≤ 256 := by rw [← hP]; exact Nat.pow_le_pow_right (n := 2) (j := 8) (by omega) n8
  have hPA : Aside (2 ^ n = P) := hP
  have wn : IntKind.u64.wrap (n : Int) = (n : Int) := by rw [IntKind.wrap_u64]; omega
  have wP : IntKind.i64.wrap (P : Int) = (P : Int) := by rw [IntKind.wrap_i64]; omega
  have nmin : min n 64 = n := by omega
  have hPi : (P : Int) ≤ 256 := by omega
  clear hP
  have Kk := known_any W
  have KN : Aside (∀ u, Calls Tryz.prog 7 #[.int .i64 (n : Int), .int .i64 50] u fun e w' => ∃ S F, e = .returned (.tuple #[.pointer (some ⟨S, 0, none⟩), .int .i64 0]) ∧ St w' S F (Mdl.empty n 50) ∧ Below u.heap.size u w' ∧ ∀ k, F k → u.heap.size ≤ k) := fun u => s_new n 50 u n1 n8 (by omega) (by omega)
  go_enter Tryz.func5, Tryz.ntmps5
  go_upto_region 9 with (first
    | (go_at_call 6; refine Kk.mono ?_; clear Kk; rintro e w1 ⟨rfl, b1⟩; have Kn := KN.out w1)
    | (go_at_call 7; refine Kn.mono ?_; clear Kn; rintro e w2 ⟨S, F0, rfl, s2, b2, f2⟩))
  have B2 := Rf.below_far b1 b2
  have f2' : ∀ k, F0 k → W.heap.size ≤ k := fun k hk => Nat.le_trans b1.size (f2 k hk)
  have KI := s_is s2 h hh
  have B2A : Aside (Below W.heap.size W w2) := B2
  by_cases h2 : h < 2
  · rw [Mdl.nodeB_true (empty_node.2 h2)] at KI
    by_cases hmn : m < P
    · have hmP : ¬ ((P : Int) ≤ (m : Int)) := by omega
      have X0 : Sx W w2 S n 50 [] 50 := ⟨F0, _, s2, rfl, rfl, Nat.zero_le _, (fun p hp => absurd hp List.not_mem_nil), B2, f2'⟩
      have C0 := ex_c (m := m) X0 h2 (by rw [hPA.out]; exact hmn)
      clear B2 f2' f2 b1 b2 s2 KN X0
      go_wp2_with (first
        | (go_at_call 22; refine KI.mono ?_; clear KI; rintro e w3 ⟨rfl, e3⟩; subst w3)
        | (go_at_call 11; refine C0.mono ?_; clear C0; rintro e w4 ⟨rfl, x4⟩; have C1 := all_c (m := m) x4 h2 (by rw [hPA.out]; exact hmn))
        | (go_at_call 12; refine C1.mono ?_; clear C1; rintro e w5 ⟨rfl, x5⟩; have C2 := res_c (m := m) (nv := nv) x5 h2 (by rw [hPA.out]; exact hmn) hv)
        | (go_at_call 13; refine C2.mono ?_; clear C2; rintro e w6 ⟨rfl, x6⟩))
      go_ret
      exact ⟨rfl, x6.base⟩
    · have hmP : (P : Int) ≤ (m : Int) := by omega
      have C0 := exq_var (m := m) s2 (empty_node.2 h2) (by show 2 ^ n ≤ m; rw [hPA.out]; omega)
      have C1 := allq_var (m := m) s2 (empty_node.2 h2) (by show 2 ^ n ≤ m; rw [hPA.out]; omega)
      have C2 := resq_var (m := m) (nv : Int) s2 (empty_node.2 h2) (by show 2 ^ n ≤ m; rw [hPA.out]; omega)
      clear B2 f2' f2 b1 b2 s2 KN hmn
      go_wp2_with (first
        | (go_at_call 22; refine KI.mono ?_; clear KI; rintro e w3 ⟨rfl, e3⟩; subst w3)
        | (go_at_call 11; refine C0.mono ?_; clear C0; rintro e w4 ⟨rfl, e4⟩; subst w4)
        | (go_at_call 12; refine C1.mono ?_; clear C1; rintro e w4 ⟨rfl, e4⟩; subst w4)
        | (go_at_call 13; refine C2.mono ?_; clear C2; rintro e w4 ⟨rfl, e4⟩; subst w4))
      go_ret
      exact ⟨rfl, B2A.out⟩
  · have no : ¬ (Mdl.empty n 50).isNode h := fun q => h2 (empty_node.1 q)
    rw [Mdl.nodeB_false no] at KI
    have C0 := exq_node (m : Int) s2 hh no
    have C1 := allq_node (m : Int) s2 hh no
    have C2 := resq_node (m : Int) (nv : Int) s2 hh no
    clear B2 f2' f2 b1 b2 s2 KN no
    go_wp2_with (first
      | (go_at_call 22; refine KI.mono ?_; clear KI; rintro e w3 ⟨rfl, e3⟩; subst w3)
      | (go_at_call 11; refine C0.mono ?_; clear C0; rintro e w4 ⟨rfl, e4⟩; subst w4)
      | (go_at_call 12; refine C1.mono ?_; clear C1; rintro e w4 ⟨rfl, e4⟩; subst w4)
      | (go_at_call 13; refine C2.mono ?_; clear C2; rintro e w4 ⟨rfl, e4⟩; subst w4))
    go_ret
    exact ⟨rfl, B2A.out⟩
end Go.Proofs.YtjbkgladpkmdhaaGreat
