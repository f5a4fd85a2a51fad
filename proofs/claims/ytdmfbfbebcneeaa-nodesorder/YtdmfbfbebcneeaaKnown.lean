/-
  The statements' own first look at package nodes.
-/
import Derived.Test.YtdmfbfbebcneeaaBaseD
namespace Go.Proofs.Ytdmfbfbebcneeaa
open Go Go.RowKit

theorem fits_grew {M M' : Mdl} {d : Nd} (f : M.Fits d) (g : Mdl.Grew M M') : M'.Fits d :=
  ⟨by rw [g.n]; exact f.lv, f.ne, ⟨g.isNode f.lo.1, by rw [g.lev f.lo.1]; exact f.lo.2⟩, ⟨g.isNode f.hi.1, by rw [g.lev f.hi.1]; exact f.hi.2⟩⟩
theorem no_big {M M' : Mdl} {x : Nat} {d : Nd} (h : M.n = 2 ∧ M.room = 3 ∧ M.hs = []) (a : M.Adds x d M') (hx : x ≤ M.room + 1) : ¬ M'.isNode 99999 := by
  rintro (e | e)
  · omega
  · rcases (a.mem _).1 e with e | e
    · omega
    · rw [h.2.2] at e; cases e
set_option maxRecDepth 100000 in
set_option maxHeartbeats 1000000 in
theorem known_any (W : World) :
    Calls Try.prog 8 #[] W fun e w' => e = .returned (.bool true) ∧ Below W.heap.size W w' := by
  obtain ⟨M, hM⟩ : ∃ M, Mdl.empty 2 3 = M := ⟨_, rfl⟩
  have K1 : Calls Try.prog 9 #[.int .i64 2, .int .i64 3] W _ := s_new 2 3 W (by omega) (by omega) (by omega) (by omega)
  rw [hM] at K1
  have K2 : Aside (∀ w, Calls Try.prog 9 #[.int .i64 9, .int .i64 3] w _) := fun w => new_var 9 3 w (by omega)
  have K3 : Aside (∀ w, Calls Try.prog 9 #[.int .i64 2, .int .i64 0] w _) := fun w => new_full 2 0 w (by omega) (by omega) (by omega)
  have fits : Aside (M.Fits (1, 0, 1)) := by rw [← hM]; exact ⟨by decide, by decide, ⟨.inl (by decide), by decide⟩, ⟨.inl (by decide), by decide⟩⟩
  have no : Aside (∀ k ∈ M.hs, M.nd k ≠ (1, 0, 1)) := by rw [← hM]; intro k hk; simp [Mdl.empty] at hk
  have rm : Aside (M.hs.length < M.room) := by rw [← hM]; exact (by decide : 0 < 3)
  have hn : Aside (M.n = 2 ∧ M.room = 3 ∧ M.hs = []) := by rw [← hM]; exact ⟨rfl, rfl, rfl⟩
  clear hM
  go_enter Try.func8, Try.ntmps8
  go_wp2_with (first
    | (go_at_call 9; refine K1.mono ?_; clear K1; rintro e w1 ⟨S, F, rfl, h1, b1, f1⟩; have Kv := K2.out w1)
    | (go_at_call 9; refine Kv.mono ?_; clear Kv; rintro e w1 ⟨rfl, rfl⟩; have Kf := K3.out w1)
    | (go_at_call 9; refine Kf.mono ?_; clear Kf; rintro e w1 ⟨rfl, rfl⟩; have Km : Calls Try.prog 13 #[.pointer (some ⟨S, 0, none⟩), .int .i64 1, .int .u32 0, .int .u32 1] w1 _ := s_mk_new h1 1 0 1 fits.out no.out rm.out)
    | (go_at_call 13; refine Km.mono ?_; clear Km; rintro e w2 ⟨x, rfl, F2, M2, ad, h2, b2, xr⟩; have xA : Aside (x ≤ M.room + 1) := xr; clear xr; have adA : Aside (M.Adds x (1, 0, 1) M2) := ad; clear ad; have Kt : Calls Try.prog 13 #[.pointer (some ⟨S, 0, none⟩), .int .i64 1, .int .u32 0, .int .u32 1] w2 _ := s_mk_there h2 1 0 1 (fits_grew fits.out adA.out.grew) x adA.out.at.1 adA.out.at.2)
    | (go_at_call 13; refine Kt.mono ?_; clear Kt; rintro e w3 ⟨rfl, F3, h3, b3⟩; have lx : Aside (M2.lev x = 1) := ((Mdl.lev_in h3.ok adA.out.at.1).trans (congrArg Prod.fst adA.out.at.2)); have nx : Aside (M2.isNode x) := Or.inr adA.out.at.1; have Ks : Calls Try.prog 13 #[.pointer (some ⟨S, 0, none⟩), .int .i64 0, .int .u32 (x : Int), .int .u32 (x : Int)] w3 _ := s_mk_same h3 0 x (by rw [lx.out]; omega) nx.out)
    | (go_at_call 13; refine Ks.mono ?_; clear Ks; rintro e w3 ⟨rfl, rfl⟩; have Kl : Calls Try.prog 13 #[.pointer (some ⟨S, 0, none⟩), .int .i64 1, .int .u32 (x : Int), .int .u32 0] w3 _ := s_mk_level h3 1 x 0 (by rw [adA.out.n, hn.out.1]; omega) nx.out (.inl (by omega)) (.inl (by rw [lx.out]; omega)))
    | (go_at_call 13; refine Kl.mono ?_; clear Kl; rintro e w3 ⟨rfl, rfl⟩; have Kn : Calls Try.prog 13 #[.pointer (some ⟨S, 0, none⟩), .int .i64 0, .int .u32 99999, .int .u32 0] w3 _ := s_mk_node h3 0 99999 0 (by rw [adA.out.n, hn.out.1]; omega) (by omega) (by omega) (.inl (no_big hn.out adA.out xA.out)))
    | (go_at_call 13; refine Kn.mono ?_; clear Kn; rintro e w3 ⟨rfl, rfl⟩; have x1 : (1 : Int) < (x : Int) := (by have := (h3.ok.range x adA.out.at.1).1; omega); have Kz := s_len h3; rw [adA.out.len, hn.out.2.2] at Kz; have K1' : Calls Try.prog 15 #[.pointer (some ⟨S, 0, none⟩), .int .u32 1] w3 _ := s_level h3 1 (by omega); rw [Mdl.levI_const (by omega), adA.out.n, hn.out.1] at K1'; have Kx := s_level h3 x (by have := (h3.ok.range x adA.out.at.1).2; omega); rw [Mdl.levI_node nx.out, lx.out] at Kx; have Kh := s_high h3 x (by have := (h3.ok.range x adA.out.at.1).2; omega); rw [Mdl.highN_in h3.ok adA.out.at.1, adA.out.at.2] at Kh)
    | (go_at_call 18; refine Kz.mono ?_; clear Kz; rintro e w3 ⟨rfl, rfl⟩)
    | (go_at_call 15; refine K1'.mono ?_; clear K1'; rintro e w3 ⟨rfl, rfl⟩)
    | (go_at_call 15; refine Kx.mono ?_; clear Kx; rintro e w3 ⟨rfl, rfl⟩)
    | (go_at_call 17; refine Kh.mono ?_; clear Kh; rintro e w3 ⟨rfl, rfl⟩))
  go_ret
  exact ⟨rfl, Wf.far (Wf.far b1 b2 b1.size f1) b3 (Nat.le_trans b1.size b2.size) (b2.after b1.size f1)⟩
end Go.Proofs.Ytdmfbfbebcneeaa
