/-
  MarkRoom, walked.
-/
import Derived.Test.YtlmbofbdncgaiaaGreatMkN
namespace Go.Proofs.YtlmbofbdncgaiaaGreat.Mk
open Go Go.RowKit
open Rf (tab word IsTab)

section
variable {w : World} {S : Nat} {F : Nat → Prop} {M M2 M3 M4 : Mdl} {l a b : Nat}
theorem mk_fits (n8 : M.n = 8) {l c : Nat} (hl : l < 8) (hc : c < 2) : M.Fits (l, c, 1 - c) := by
  have l1 : M.lev c = M.n := Mdl.lev_const hc
  have l2 : M.lev (1 - c) = M.n := Mdl.lev_const (by omega)
  exact ⟨by show l < M.n; omega, by show c ≠ 1 - c; omega, ⟨.inl hc, by show l < M.lev c; omega⟩, ⟨.inl (by show 1 - c < 2; omega), by show l < M.lev (1 - c); omega⟩⟩
theorem mk_yes (s : St w S F M) (f : M.Fits (l, a, b)) (h : (∃ x ∈ M.hs, M.nd x = (l, a, b)) ∨ M.hs.length < M.room) :
    Calls Tryz.prog 25 #[.pointer (some ⟨S, 0, none⟩), .int .i64 (l : Int), .int .u32 (a : Int), .int .u32 (b : Int)] w fun e w' => ∃ x M' F', e = .returned (.tuple #[.int .u32 ((x : Nat) : Int), .int .i64 0]) ∧ M'.isNode x ∧ Mdl.Grew M M' ∧ St w' S F' M' ∧ Wf F F' w w' := by
  by_cases t : ∃ x ∈ M.hs, M.nd x = (l, a, b)
  · obtain ⟨x, hx, e⟩ := t
    refine (s_mk_there s l a b f x hx e).mono ?_
    rintro e w' ⟨rfl, F', s', g⟩
    exact ⟨x, M, F', rfl, .inr hx, Mdl.Grew.refl M, s', g⟩
  · refine (s_mk_new s l a b f (fun k hk e => t ⟨k, hk, e⟩) (h.resolve_left t)).mono ?_
    rintro e w' ⟨x, rfl, F', M', ad, s', g, _⟩
    exact ⟨x, M', F', rfl, .inr ad.at.1, ad.grew, s', g⟩
theorem mk_no (s : St w S F M) (f : M.Fits (l, a, b)) (h : ¬ ((∃ x ∈ M.hs, M.nd x = (l, a, b)) ∨ M.hs.length < M.room)) :
    Calls Tryz.prog 25 #[.pointer (some ⟨S, 0, none⟩), .int .i64 (l : Int), .int .u32 (a : Int), .int .u32 (b : Int)] w fun e w' => e = .returned (.tuple #[.int .u32 0, .int .i64 60]) ∧ ∃ F', St w' S F' M ∧ Wf F F' w w' :=
  s_mk_full s l a b f (fun k hk e => h (.inl ⟨k, hk, e⟩)) (by have := s.ok.len; have : ¬ M.hs.length < M.room := fun q => h (.inr q); omega)
/-- The negation's negation is there. -/
theorem not_back {x y : Nat} {er : Int} (o2 : M2.Ok) (o3 : M3.Ok) (o4 : M4.Ok) (na : M2.isNode a) (g : Got M2 0 (ans M2 oNot a 0 0) x M3) (t : Told M3 0 (ans M3 oNot x 0 0) y er M4) : er = 0 ∧ y = a := by
  have na3 := g.grew.isNode na
  have e : Eqt (M3.tbl a) (ans M3 oNot x 0 0) := fun z hz => by
    have h1 : M3.tbl x z = !(M2.tbl a z) := g.tbl z hz
    show M3.tbl a z = !(M3.tbl x z)
    rw [h1, Bool.not_not, g.grew.tbl o2 na z]
  rcases t with ⟨rfl, q⟩ | ⟨_, _, q⟩
  · refine ⟨rfl, (Mdl.one_iff o4 q.node (q.grew.isNode na3)).1 fun z hz => ?_⟩
    rw [q.grew.tbl o3 na3 z, e z hz]
    exact q.tbl z hz
  · obtain ⟨G, p, no⟩ := q.miss
    exact absurd (Has.grew q.grew o3 (Prt.there o3 _ na3 (Nat.le_refl _) ((Prt.like o3 (tbl_dep o3 na3 (Nat.zero_le _)) e).2 p))) no
end
set_option maxRecDepth 100000 in
set_option maxHeartbeats 4000000 in
theorem room_walk (F G : Nat → Bool) (z : Int) (W : World) (z0 : 0 ≤ z) :
    Calls Tryz.prog 6 #[tab F, tab G, .int .u8 z] W fun e w' => e = .returned (.bool true) ∧ Below W.heap.size W w' := by
  conv in #[tab F, tab G, Value.int .u8 z] => unfold tab
  obtain ⟨t, ht⟩ : ∃ t : Nat, Int.tmod z 40 = (t : Int) := ⟨(z % 40).toNat, by rw [Int.tmod_eq_emod_of_nonneg z0]; omega⟩
  have t40 : t < 40 := by have := Int.tmod_lt_of_pos z (show (0 : Int) < 40 by omega); omega
  have w1 : IntKind.u8.wrap (t : Int) = (t : Int) := by rw [IntKind.wrap_u8]; omega
  have w2 : IntKind.i64.wrap (t : Int) = (t : Int) := by rw [IntKind.wrap_i64]; omega
  have w3 : IntKind.i64.wrap (80 + (t : Int)) = 80 + (t : Int) := by rw [IntKind.wrap_i64]; omega
  go_enter Tryz.func6, Tryz.ntmps6
  go_upto_region 1 with fail
  obtain ⟨TF, TG, B3⟩ := boxes2 W F G
  unfold fo at TF TG B3
  generalize (W.alloc (.cells #[.int .u64 (word F 0 : Int), .int .u64 (word F 1 : Int), .int .u64 (word F 2 : Int), .int .u64 (word F 3 : Int)] 24)).alloc (.cells #[.int .u64 (word G 0 : Int), .int .u64 (word G 1 : Int), .int .u64 (word G 2 : Int), .int .u64 (word G 3 : Int)] 24) = v1 at TF TG B3 ⊢
  have B1A : Aside (Below W.heap.size W v1) := B3
  clear B3 TG
  generalize W.heap.size + 1 = bg
  generalize hbf : W.heap.size = bf at TF ⊢
  clear hbf
  have tF : Aside (∀ u, Below v1.heap.size v1 u → IsTab u bf F) := fun u k => kept TF k
  clear TF
  have Kk := known_any v1
  go_upto_region 3 with (first
    | (go_at_call 8; refine Kk.mono ?_; clear Kk; rintro e v2 ⟨rfl, b2⟩))
  have Kn := s_new 8 (80 + t) v2 (by omega) (by omega) (by omega) (by omega)
  rw [show ((80 + t : Nat) : Int) = 80 + (t : Int) by omega, show ((8 : Nat) : Int) = 8 from rfl] at Kn
  go_upto_region 6 with (first
    | (go_at_call 9; refine Kn.mono ?_; clear Kn; rintro e v3 ⟨S, F0, rfl, s3, b3, f3⟩))
  have B3 : Below v1.heap.size v1 v3 := Rf.below_far b2 b3
  have K1 := make_any' (F := F) Rm.tight s3 (Dep.all s3.ok rfl F) (by show 0 + (2 ^ (8 - 2 - 0) - 1) + 15 ≤ 80 + t; omega)
  obtain ⟨y0, y1, y2, y3⟩ := (tF.out v3 B3).copy
  have B3A : Aside (Below v1.heap.size v1 v3 ∧ ∀ k, F0 k → v1.heap.size ≤ k) := ⟨B3, fun k hk => Nat.le_trans b2.size (f3 k hk)⟩
  clear b2 b3 f3 s3 B3
  unfold tab at K1
  go_upto_region 8 with (first
    | (go_at_call 11; refine K1.mono ?_; clear K1; rintro e v4 ⟨a, M, rfl, ⟨F4, s4, g4⟩, m4⟩))
  clear y0 y1 y2 y3 w1 w2 w3 ht t40 tF
  have B4A : Aside (Below v1.heap.size v1 v4 ∧ ∀ k, F4 k → v1.heap.size ≤ k) := ⟨Wf.far B3A.out.1 g4 B3A.out.1.size B3A.out.2, g4.after B3A.out.1.size B3A.out.2⟩
  have naA : Aside (M.isNode a) := m4.node
  have n8A : Aside (M.n = 8) := m4.grew.n
  have sA : Aside (St v4 S F4 M) := s4
  clear g4 m4 B3A s4
  go_loopg [11, 12, 13] 300 (fun g si _sx _se wr => ∃ (j : Nat) (F1 : Nat → Prop) (M1 : Mdl), j + g = 300 ∧ si = .int .i64 (j : Int) ∧ Aside (St wr S F1 M1) ∧ Aside (Mdl.Grew M M1) ∧ Aside (Below v1.heap.size v1 wr ∧ ∀ k, F1 k → v1.heap.size ≤ k))
  case atStart => exact ⟨0, F4, M, by omega, rfl, sA, Mdl.Grew.refl M, B4A⟩
  case round =>
    obtain ⟨j, F1, M1, hj, rfl, hS, hG, hB⟩ := hrel
    have hJ : Aside (j + gk = 300) := hj
    have hjn : j ≤ 300 := by omega
    clear hj sA B4A
    by_cases hlt : j < 300
    · have hlt' : (j : Int) < 300 := by omega
      have hjw : IntKind.i64.wrap ((j : Int) + 1) = (j : Int) + 1 := by rw [IntKind.wrap_i64]; omega
      obtain ⟨l, hl⟩ : ∃ l, j % 8 = l := ⟨_, rfl⟩
      obtain ⟨d, hd⟩ : ∃ d, j / 8 = d := ⟨_, rfl⟩
      obtain ⟨c, hc⟩ : ∃ c, d % 2 = c := ⟨_, rfl⟩
      have l8 : l < 8 := by omega
      have c2 : c < 2 := by omega
      have hm8 : Int.tmod (j : Int) 8 = (l : Int) := by rw [Int.tmod_eq_emod_of_nonneg (by omega)]; omega
      have hd8 : Int.tdiv (j : Int) 8 = (d : Int) := by rw [Int.tdiv_eq_ediv_of_nonneg (by omega)]; omega
      have hm2 : Int.tmod (d : Int) 2 = (c : Int) := by rw [Int.tmod_eq_emod_of_nonneg (by omega)]; omega
      have wl : IntKind.i64.wrap (l : Int) = (l : Int) := by rw [IntKind.wrap_i64]; omega
      have wd : IntKind.i64.wrap (d : Int) = (d : Int) := by rw [IntKind.wrap_i64]; omega
      have wc : IntKind.i64.wrap (c : Int) = (c : Int) := by rw [IntKind.wrap_i64]; omega
      have wc3 : IntKind.u32.wrap (c : Int) = (c : Int) := by rw [IntKind.wrap_u32]; omega
      have w1c : IntKind.i64.wrap (1 - (c : Int)) = ((1 - c : Nat) : Int) := by rw [IntKind.wrap_i64]; omega
      have w1c3 : IntKind.u32.wrap ((1 - c : Nat) : Int) = ((1 - c : Nat) : Int) := by rw [IntKind.wrap_u32]; omega
      have n1 : M1.n = 8 := hG.out.n.trans n8A.out
      have ft := mk_fits n1 l8 c2
      have hltA : Aside (j < 300) := hlt
      clear hl hd hc n1 hlt
      by_cases rm : (∃ x ∈ M1.hs, M1.nd x = (l, c, 1 - c)) ∨ M1.hs.length < M1.room
      · have KM := mk_yes hS.out ft rm
        clear rm ft l8 c2
        go_wp2_with (first
          | (go_at_call 25; refine KM.mono ?_; clear KM; rintro e w6 ⟨x, M6, F6, rfl, nx, g6, s6, q6⟩; have f6 : Aside (St w6 S F6 M6 ∧ Mdl.Grew M M6 ∧ Below v1.heap.size v1 w6 ∧ ∀ k, F6 k → v1.heap.size ≤ k) := ⟨s6, hG.out.trans g6, Wf.far hB.out.1 q6 hB.out.1.size hB.out.2, q6.after hB.out.1.size hB.out.2⟩; have KI := s_is s6 x (lt32 s6.ok nx); rw [Mdl.nodeB_true nx] at KI; clear nx g6 s6 q6)
          | (go_at_call 24; refine KI.mono ?_; clear KI; rintro e w ⟨rfl, e⟩; subst w))
        go_roundg (gk - 1)
        case measure => have := hJ.out; have := hltA.out; omega
        case rel =>
          have := hJ.out
          have := hltA.out
          exact ⟨j + 1, F6, M6, by omega, by go_num, f6.out.1, f6.out.2.1, f6.out.2.2⟩
      · have KM := mk_no hS.out ft rm
        clear rm ft l8 c2
        go_wp2_with (first
          | (go_at_call 25; refine KM.mono ?_; clear KM; rintro e w6 ⟨rfl, F6, s6, q6⟩; have f6 : Aside (St w6 S F6 M1 ∧ Below v1.heap.size v1 w6 ∧ ∀ k, F6 k → v1.heap.size ≤ k) := ⟨s6, Wf.far hB.out.1 q6 hB.out.1.size hB.out.2, q6.after hB.out.1.size hB.out.2⟩; clear s6 q6))
        go_roundg (gk - 1)
        case measure => have := hJ.out; have := hltA.out; omega
        case rel =>
          have := hJ.out
          have := hltA.out
          exact ⟨j + 1, F6, M1, by omega, by go_num, f6.out.1, hG, f6.out.2⟩
    · obtain rfl : j = 300 := by omega
      have s1 := hS.out
      have na : M1.isNode a := hG.out.isNode naA.out
      have s5 := s1.new (.cells #[.int .u32 (a : Int)] 32)
      have KC := collect_yes (cap := 1) s5 (hs_one wr a) (fun _ _ => na) (by omega)
      have B5A : Aside (Below v1.heap.size v1 (wr.alloc (.cells #[.int .u32 (a : Int)] 32)) ∧ ∀ k, F1 k → v1.heap.size ≤ k) := ⟨Rf.below_far hB.out.1 (nb wr _), hB.out.2⟩
      clear hlt hJ hjn hS hB s1 s5 naA hG n8A na
      go_wp2_with fail
      go_upto_region 14 with (first
        | (go_at_call 19; refine KC.mono ?_; clear KC; rintro e w6 ⟨xs, F6, rfl, r6, u6, s6, g6⟩; have na2 : (only M1 xs).isNode a := r6.top 0 (by omega); have B6A : Aside (Below v1.heap.size v1 w6 ∧ ∀ k, F6 k → v1.heap.size ≤ k) := ⟨Wf.far B5A.out.1 g6 B5A.out.1.size B5A.out.2, g6.after B5A.out.1.size B5A.out.2⟩; clear r6 u6 g6))
      clear B5A
      generalize (M1.hs.length : Int) - (xs.length : Int) = gone
      generalize only M1 xs = M2 at s6 na2
      have KN := not_op s6 na2
      have o2A : Aside (M2.Ok ∧ M2.isNode a) := ⟨s6.ok, na2⟩
      clear s6 na2
      go_upto_region 15 with (first
        | (go_at_call 26; refine KN.mono ?_; clear KN; rintro e w7 ⟨x, er, M3, F7, rfl, t7, s7, g7⟩))
      have B7A : Aside (Below v1.heap.size v1 w7 ∧ ∀ k, F7 k → v1.heap.size ≤ k) := ⟨Wf.far B6A.out.1 g7 B6A.out.1.size B6A.out.2, g7.after B6A.out.1.size B6A.out.2⟩
      clear B6A g7
      rcases t7 with ⟨rfl, gt⟩ | ⟨rfl, rfl, st⟩
      · have KN := not_op s7 gt.node
        have gA : Aside (Got M2 0 (ans M2 oNot a 0 0) x M3 ∧ M3.Ok) := ⟨gt, s7.ok⟩
        clear gt s7
        go_upto_region 16 with (first
          | (go_at_call 26; refine KN.mono ?_; clear KN; rintro e w8 ⟨y, er, M4, F8, rfl, t8, s8, g8⟩; obtain ⟨rfl, rfl⟩ := not_back o2A.out.1 gA.out.2 s8.ok o2A.out.2 gA.out.1 t8; clear t8))
        have B8A : Aside (Below v1.heap.size v1 w8) := Wf.far B7A.out.1 g8 B7A.out.1.size B7A.out.2
        clear g8 s8 gA o2A B7A
        go_wp2_with fail
        go_ret
        exact ⟨rfl, Rf.below_far B1A.out B8A.out⟩
      · have KN : Calls Tryz.prog 26 #[.pointer (some ⟨S, 0, none⟩), .int .u32 0] w7 _ := not_op s7 (a := 0) (.inl (by omega))
        clear st s7 o2A
        go_upto_region 16 with (first
          | (go_at_call 26; refine KN.mono ?_; clear KN; rintro e w8 ⟨y, er, M4, F8, rfl, t8, s8, g8⟩; clear t8))
        have B8A : Aside (Below v1.heap.size v1 w8) := Wf.far B7A.out.1 g8 B7A.out.1.size B7A.out.2
        clear g8 s8 B7A
        go_wp2_with fail
        go_ret
        exact ⟨rfl, Rf.below_far B1A.out B8A.out⟩
end Go.Proofs.YtlmbofbdncgaiaaGreat.Mk
