/-
  The statements' own first look at package mark.
-/
import Derived.Test.YtlmbofbdncgaiaaGreatMkI
import Derived.Test.YtlmbofbdncgaiaaGreatLgc
namespace Go.Proofs.YtlmbofbdncgaiaaGreat.Mk
open Go Go.RowKit

/-- The store behind the check's three calls. -/
structure Kn3 (M : Mdl) (a b c : Nat) : Prop where
  ok : M.Ok
  pa : a ∈ M.hs ∧ M.nd a = (1, 0, 1)
  pb : b ∈ M.hs ∧ M.nd b = (0, a, 1)
  pc : c ∈ M.hs ∧ M.nd c = (0, 0, 1)
  len : M.hs.length = 3
  small : a ≤ 11 ∧ b ≤ 11 ∧ c ≤ 11
section
variable {M M1 M2 M3 : Mdl} {a b c : Nat}
theorem kn1 (hn : M.n = 2 ∧ M.room = 10 ∧ M.hs = []) (ad : M.Adds a (1, 0, 1) M1) (o : M1.Ok) : M1.Fits (0, a, 1) ∧ (∀ k ∈ M1.hs, M1.nd k ≠ (0, a, 1)) ∧ M1.hs.length < M1.room := by
  have ha := ad.at
  have a2 := (o.range a ha.1).1
  have la := Mdl.lev_in o ha.1
  have l1 : M1.lev 1 = M1.n := Mdl.lev_const (by omega)
  have n2 : M1.n = 2 := ad.n.trans hn.1
  refine ⟨⟨by show 0 < M1.n; omega, by show a ≠ 1; omega, ⟨.inr ha.1, by show 0 < M1.lev a; rw [la, ha.2]; decide⟩, ⟨.inl (by show 1 < 2; omega), by show 0 < M1.lev 1; omega⟩⟩, fun k hk e => ?_, by rw [ad.len, ad.room, hn.2.1, hn.2.2]; decide⟩
  rcases (ad.mem k).1 hk with rfl | q
  · rw [ha.2] at e; simp at e
  · rw [hn.2.2] at q; cases q
theorem kn2 (hn : M.n = 2 ∧ M.room = 10 ∧ M.hs = []) (ad : M.Adds a (1, 0, 1) M1) (o1 : M1.Ok) (bd : M1.Adds b (0, a, 1) M2) : M2.Fits (0, 0, 1) ∧ (∀ k ∈ M2.hs, M2.nd k ≠ (0, 0, 1)) ∧ M2.hs.length < M2.room := by
  have ha := ad.at
  have hb := bd.at
  have a2 := (o1.range a ha.1).1
  have n2 : M2.n = 2 := bd.n.trans (ad.n.trans hn.1)
  have l1 : M2.lev 1 = M2.n := Mdl.lev_const (by omega)
  have l0 : M2.lev 0 = M2.n := Mdl.lev_const (by omega)
  refine ⟨⟨by show 0 < M2.n; omega, by decide, ⟨.inl (by decide), by show 0 < M2.lev 0; omega⟩, ⟨.inl (by decide), by show 0 < M2.lev 1; omega⟩⟩, fun k hk e => ?_, by rw [bd.len, bd.room, ad.len, ad.room, hn.2.1, hn.2.2]; decide⟩
  rcases (bd.mem k).1 hk with rfl | q
  · rw [hb.2] at e
    simp at e
    omega
  · rw [(bd.grew.keep k q).2] at e
    rcases (ad.mem k).1 q with rfl | z
    · rw [ha.2] at e; simp at e
    · rw [hn.2.2] at z; cases z
theorem kn3 (hn : M.n = 2 ∧ M.room = 10 ∧ M.hs = []) (ad : M.Adds a (1, 0, 1) M1) (bd : M1.Adds b (0, a, 1) M2) (cd : M2.Adds c (0, 0, 1) M3) (o : M3.Ok) (xa : a ≤ M.room + 1) (xb : b ≤ M1.room + 1) (xc : c ≤ M2.room + 1) : Kn3 M3 a b c := by
  rw [hn.2.1] at xa
  rw [ad.room, hn.2.1] at xb
  rw [bd.room, ad.room, hn.2.1] at xc
  have ha := ad.at
  have hb := bd.at
  have h1 := bd.grew.keep a ha.1
  have h2 := cd.grew.keep a h1.1
  have h3 := cd.grew.keep b hb.1
  exact ⟨o, ⟨h2.1, h2.2.trans (h1.2.trans ha.2)⟩, ⟨h3.1, h3.2.trans hb.2⟩, cd.at, by rw [cd.len, bd.len, ad.len, hn.2.2]; rfl, xa, xb, xc⟩
theorem Kn3.got (k : Kn3 M a b c) {H : Nat → Nat} {n : Nat} {xs : List Nat} (r : Rch M H n xs) (r1 : ∀ i, i < n → H i < 2 ∨ H i = b) (r2 : ∃ i, i < n ∧ H i = b) : xs.length = 2 ∧ a ∈ xs ∧ b ∈ xs ∧ c ∉ xs ∧ (9999 ∉ xs) := by
  have o := k.ok
  have a2 := (o.range a k.pa.1).1
  have b2 := (o.range b k.pb.1).1
  have ab : a ≠ b := fun e => by have h := k.pa.2; rw [e, k.pb.2] at h; simp at h
  have hbx : b ∈ xs := by
    obtain ⟨i, hi, e⟩ := r2
    have := r.top i hi
    rw [e] at this
    exact this.resolve_left (by omega)
  have hax : a ∈ xs := by
    have := (r.closed b hbx).1
    rw [k.pb.2] at this
    exact this.resolve_left (by show ¬ a < 2; omega)
  have le : ∀ x ∈ xs, x ∈ [a, b] := r.le o (fun i hi => (r1 i hi).imp id fun e => by rw [e]; simp) fun x hx => by
    rcases List.mem_cons.1 hx with rfl | hx
    · rw [k.pa.2]; exact ⟨.inl (by decide), .inl (by decide)⟩
    · rw [List.mem_singleton] at hx
      subst hx
      rw [k.pb.2]; exact ⟨.inr (by simp), .inl (by show 1 < 2; omega)⟩
  have nc : ∀ x, x ≠ a → x ≠ b → x ∉ xs := fun x h1 h2 hx => by
    have := le x hx
    simp at this
    omega
  refine ⟨Nat.le_antisymm (nodup_lenN xs [a, b] r.once le) (nodup_lenN [a, b] xs (by simp [ab]) fun x hx => ?_), hax, hbx, nc c ?_ ?_, nc 9999 (by have := k.small; omega) (by have := k.small; omega)⟩
  · simp at hx
    rcases hx with rfl | rfl
    · exact hax
    · exact hbx
  · intro e
    have h := k.pc.2; rw [e, k.pa.2] at h; simp at h
  · intro e
    have h := k.pc.2; rw [e, k.pb.2] at h; simp at h; omega
end
set_option maxRecDepth 100000 in
set_option maxHeartbeats 2000000 in
theorem known_any (W : World) :
    Calls Tryz.prog 8 #[] W fun e w' => e = .returned (.bool true) ∧ Below W.heap.size W w' := by
  obtain ⟨M, hM⟩ : ∃ M, Mdl.empty 2 10 = M := ⟨_, rfl⟩
  have K1 : Calls Tryz.prog 9 #[.int .i64 2, .int .i64 10] W _ := s_new 2 10 W (by omega) (by omega) (by omega) (by omega)
  rw [hM] at K1
  have fits : Aside (M.Fits (1, 0, 1)) := by rw [← hM]; exact ⟨by decide, by decide, ⟨.inl (by decide), by decide⟩, ⟨.inl (by decide), by decide⟩⟩
  have no : Aside (∀ k ∈ M.hs, M.nd k ≠ (1, 0, 1)) := by rw [← hM]; intro k hk; simp [Mdl.empty] at hk
  have rm : Aside (M.hs.length < M.room) := by rw [← hM]; exact (by decide : 0 < 10)
  have hn : Aside (M.n = 2 ∧ M.room = 10 ∧ M.hs = []) := by rw [← hM]; exact ⟨rfl, rfl, rfl⟩
  clear hM
  go_enter Tryz.func8, Tryz.ntmps8
  go_upto_region 7 with (first
    | (go_at_call 9; refine K1.mono ?_; clear K1; rintro e w1 ⟨S, F, rfl, h1, b1, f1⟩; have Km : Calls Tryz.prog 25 #[.pointer (some ⟨S, 0, none⟩), .int .i64 1, .int .u32 0, .int .u32 1] w1 _ := s_mk_new h1 1 0 1 fits.out no.out rm.out)
    | (go_at_call 25; refine Km.mono ?_; clear Km; rintro e w2 ⟨a, rfl, F2, M2, ad, h2, b2, xa⟩; have xaA : Aside (M.Adds a (1, 0, 1) M2 ∧ a ≤ M.room + 1 ∧ M2.Ok) := ⟨ad, xa, h2.ok⟩; clear xa ad; have Km2 : Calls Tryz.prog 25 #[.pointer (some ⟨S, 0, none⟩), .int .i64 0, .int .u32 (a : Int), .int .u32 1] w2 _ := s_mk_new h2 0 a 1 (kn1 hn.out xaA.out.1 h2.ok).1 (kn1 hn.out xaA.out.1 h2.ok).2.1 (kn1 hn.out xaA.out.1 h2.ok).2.2)
    | (go_at_call 25; refine Km2.mono ?_; clear Km2; rintro e w3 ⟨b, rfl, F3, M3, bd, h3, b3, xb⟩; have xbA : Aside (M2.Adds b (0, a, 1) M3 ∧ b ≤ M2.room + 1) := ⟨bd, xb⟩; clear xb bd; have Km3 : Calls Tryz.prog 25 #[.pointer (some ⟨S, 0, none⟩), .int .i64 0, .int .u32 0, .int .u32 1] w3 _ := s_mk_new h3 0 0 1 (kn2 hn.out xaA.out.1 xaA.out.2.2 xbA.out.1).1 (kn2 hn.out xaA.out.1 xaA.out.2.2 xbA.out.1).2.1 (kn2 hn.out xaA.out.1 xaA.out.2.2 xbA.out.1).2.2)
    | (go_at_call 25; refine Km3.mono ?_; clear Km3; rintro e w4 ⟨c, rfl, F4, M4, cd, h4, b4, xc⟩; have kA : Aside (Kn3 M4 a b c) := kn3 hn.out xaA.out.1 xbA.out.1 cd h4.ok xaA.out.2.1 xbA.out.2 xc; clear xc cd))
  have g4 : Wf F F4 w1 w4 := (b2.trans b3).trans b4
  clear fits no rm hn xaA xbA h1 h2 h3 b2 b3 b4
  have bA : Aside (Below W.heap.size W w4) := Wf.far b1 g4 b1.size f1
  have fA : Aside (∀ i, F4 i → W.heap.size ≤ i) := g4.after b1.size f1
  clear b1 f1 g4
  have hb : M4.isNode b := .inr kA.out.pb.1
  have h5 := h4.new (.cells #[.int .u32 (b : Int)] 32)
  have K7 := reach_yes (cap := 1) h5 (hs_one w4 b) (fun _ _ => hb) (by omega)
  have hbA : Aside (M4.isNode b) := hb
  have n4 : Below w4.heap.size w4 (w4.alloc (.cells #[.int .u32 (b : Int)] 32)) := nb w4 _
  clear hb h4
  go_upto_region 8 with (first
    | (go_at_call 14; refine K7.mono ?_; clear K7; rintro e w5 ⟨ad5, cap5, xs, rfl, r5, u5, o5, b5⟩; have q5A : Aside (xs.length = 2) := (kA.out.got r5 (fun _ _ => .inr rfl) ⟨0, by omega, rfl⟩).1; have h6 := h5.below b5; clear r5 u5 o5))
  have b6A : Aside (Below W.heap.size W w5) := Rf.below_far (Rf.below_far bA.out n4) b5
  clear b5 bA n4 h5
  have h7 := h6.new (.cells #[.int .u32 (b : Int), .int .u32 ((1 : Nat) : Int)] 32)
  have K8 := collect_yes (cap := 2) h7 (hs_two w5 b 1) (fun i hi => by unfold at2; split; exact hbA.out; exact .inl (by omega)) (by omega)
  have n7 : Below w5.heap.size w5 (w5.alloc (.cells #[.int .u32 (b : Int), .int .u32 ((1 : Nat) : Int)] 32)) := nb w5 _
  clear h6
  rw [show ((1 : Nat) : Int) = 1 from rfl] at h7 K8 n7
  go_upto_region 9 with (first
    | (go_at_call 19; refine K8.mono ?_; clear K8; rintro e w6 ⟨ys, F6, rfl, r6, u6, h8, g8⟩; obtain ⟨y2, ya, yb, yc, y9⟩ := kA.out.got r6 (fun i hi => by unfold at2; split; exact .inr rfl; exact .inl (by omega)) ⟨0, by omega, rfl⟩; rw [y2, kA.out.len]; have yA : Aside (a ∈ ys ∧ b ∈ ys ∧ c ∉ ys ∧ (9999 ∉ ys)) := ⟨ya, yb, yc, y9⟩; have kk := kA.out; have abA : Aside (2 ≤ c ∧ a < 4294967296 ∧ b < 4294967296 ∧ c < 4294967296) := (by have := (kk.ok.range c kk.pc.1).1; have := kk.small; show _ ∧ _; omega); clear kk r6 u6 y2 ya yb yc y9))
  have b8 := Rf.below_far b6A.out n7
  have b8A : Aside (Below W.heap.size W w6) := Wf.far b8 g8 b8.size fA.out
  clear b8 b6A n7 h7 g8 fA
  have h9 := h8.new (.cells #[.int .u32 ((9999 : Nat) : Int)] 32)
  have K9 := collect_no (cap := 1) h9 (hs_one w6 9999) (fun _ _ => by omega) ⟨0, by omega, fun q => q.elim (by omega) yA.out.2.2.2⟩ (by omega)
  have n9 : Below w6.heap.size w6 (w6.alloc (.cells #[.int .u32 ((9999 : Nat) : Int)] 32)) := nb w6 _
  rw [show ((9999 : Nat) : Int) = 9999 from rfl] at h9 K9 n9
  clear h8
  have hlen : xs.length = 2 := q5A.out
  rw [hlen]
  go_upto_region 10 with (first
    | (go_at_call 19; refine K9.mono ?_; clear K9; rintro e w7 ⟨rfl, h10, b10⟩; have Ic := s_is h10 c abA.out.2.2.2; rw [Mdl.nodeB_false (fun q => q.elim (by have := abA.out; omega) yA.out.2.2.1)] at Ic; have Ia := s_is h10 a abA.out.2.1; rw [Mdl.nodeB_true (.inr yA.out.1)] at Ia; have Ib := s_is h10 b abA.out.2.2.1; rw [Mdl.nodeB_true (.inr yA.out.2.1)] at Ib))
  have b10A : Aside (Below W.heap.size W w7) := Rf.below_far (Rf.below_far b8A.out n9) b10
  clear b10 n9 b8A h10 hlen q5A h9 yA abA hbA kA
  go_wp2_with (first
    | (go_at_call 24; refine Ic.mono ?_; clear Ic; rintro e w ⟨rfl, rfl⟩)
    | (go_at_call 24; refine Ia.mono ?_; clear Ia; rintro e w ⟨rfl, rfl⟩)
    | (go_at_call 24; refine Ib.mono ?_; clear Ib; rintro e w ⟨rfl, rfl⟩))
  go_ret
  exact ⟨rfl, b10A.out⟩
end Go.Proofs.YtlmbofbdncgaiaaGreat.Mk
