/-
  The statement's look at all nodes: just those that were told.
-/
import Derived.Test.YtdmfbfbebcneeaaJudge
namespace Go.Proofs.Ytdmfbfbebcneeaa
open Go Go.RowKit
set_option maxRecDepth 100000 in
set_option maxHeartbeats 2000000 in
theorem allt_any {w : World} {S : Nat} {F : Nat → Prop} {M : Mdl} {g n cap : Nat} {T : Nat → Nat} (h : St w S F M) (hT : ∀ i, i < n → w.cell? ⟨g, i, none⟩ = some (.int .u32 (T i : Int))) (hg : g < w.heap.size) (hn : n ≤ 1000000) (t : Told M n T) :
    Calls Try.prog 20 #[.pointer (some ⟨S, 0, none⟩), .slice (some ⟨g, 0, none⟩) n cap] w fun e w' => e = .returned (.bool true) ∧ Below w.heap.size w w' := by
  have K1 := s_all h
  have o := h.ok
  obtain ⟨L, hL⟩ : ∃ L, M.hs.length = L := ⟨_, rfl⟩
  have hLA : Aside (M.hs.length = L) := hL
  rw [hL] at K1
  have hnl : (n : Int) - 2 = (L : Int) := by have := t.len; omega
  have hLs : L ≤ 32768 := by have := o.len; have := h.room.2; omega
  clear hL
  have tA : Aside (Told M n T) := t
  have hTA : Aside (∀ w1, Below w.heap.size w w1 → ∀ i, i < n → w1.cell? ⟨g, i, none⟩ = some (.int .u32 (T i : Int))) := fun w1 b i hi => by rw [b.cell hg]; exact hT i hi
  clear t hT
  go_enter Try.func20, Try.ntmps20
  go_wp2_with (first
    | (go_at_call 28; refine K1.mono ?_; clear K1; rintro e w1 ⟨g1, rfl, row, b1, gg⟩; have h1 := h.below b1)
    )
  have b1A : Aside (Below w.heap.size w w1) := b1
  have hT1 : Aside (∀ i, i < n → w1.cell? ⟨g, i, none⟩ = some (.int .u32 (T i : Int))) := hTA.out w1 b1
  clear b1 h gg hTA
  go_loopg [4, 6] L (fun gk s4 si wr => ∃ i : Nat, i + gk = L ∧ s4 = .bool false ∧ si = .int .i64 (i : Int) ∧ wr = w1)
  case atStart => exact ⟨0, by omega, rfl, rfl, rfl⟩
  case round =>
    obtain ⟨i, hi, rfl, rfl, hwr⟩ := hrel
    have hwr := hwr.symm
    subst hwr
    have hI : Aside (i + gk = L) := hi
    clear hi
    by_cases hlt : i < L
    · have hlt' : (i : Int) < (L : Int) := by omega
      have cx := row.cell hlt
      have xm : M.hs.getD i 0 ∈ M.hs := getD_mem (by rw [hLA.out]; exact hlt)
      have Kp := place_yes (cap := cap) hT1.out hn _ (tA.out.some (.inr xm))
      generalize M.hs.getD i 0 = x at cx Kp
      clear xm
      go_wp2_with (first
        | (go_at_call 26; refine Kp.mono ?_; clear Kp; rintro e w1 ⟨pm, rfl, pm1, pm2, rfl⟩; have pm3 : ¬ (pm : Int) < 0 := by omega))
      go_roundg (gk - 1)
      case measure => have := hI.out; omega
      case rel =>
        have hi := hI.out
        exact ⟨i + 1, by omega, rfl, by go_num, rfl⟩
    · obtain rfl : i = L := by have := hI.out; omega
      have hlt' : ¬ (i : Int) < (i : Int) := by omega
      clear hI
      go_wp2_with fail
      go_loopg [4, 7] 6000 (fun gk s4 si wr => ∃ x : Nat, x + gk = 6000 ∧ s4 = .bool false ∧ si = .int .u32 (x : Int) ∧ wr = w1)
      case atStart => exact ⟨0, by omega, rfl, rfl, rfl⟩
      case round =>
        obtain ⟨x, hx, rfl, rfl, hwr⟩ := hrel
        have hwr := hwr.symm
        subst hwr
        have hX : Aside (x + gk = 6000) := hx
        clear hx
        by_cases hx6 : x < 6000
        · have hx6' : (x : Int) < 6000 := by omega
          have Ki := s_is h1 x (by omega)
          have Kj := Ki
          by_cases nd : M.isNode x
          · rw [decide_eq_true nd] at Ki Kj
            have Kp := place_yes (cap := cap) hT1.out hn _ (tA.out.some nd)
            clear nd
            go_wp2_with (first
              | (go_at_call 27; refine Ki.mono ?_; clear Ki; rintro e w1 ⟨rfl, rfl⟩)
              | (go_at_call 26; refine Kp.mono ?_; clear Kp; rintro e w1 ⟨pm, rfl, pm1, pm2, rfl⟩; have pm3 : (0 : Int) ≤ (pm : Int) := by omega)
              | (go_at_call 27; refine Kj.mono ?_; clear Kj; rintro e w1 ⟨rfl, rfl⟩))
            go_roundg (gk - 1)
            case measure => have := hX.out; omega
            case rel =>
              have hx := hX.out
              exact ⟨x + 1, by omega, rfl, by go_num, rfl⟩
          · rw [decide_eq_false nd] at Ki Kj
            have Kp := place_no (cap := cap) hT1.out hn _ (tA.out.none nd)
            have Kl := s_level h1 x (by omega)
            rw [Mdl.levI_none nd] at Kl
            have Ka := s_low h1 x (by omega)
            rw [Mdl.lowN_none nd] at Ka
            have Kb := s_high h1 x (by omega)
            rw [Mdl.highN_none nd] at Kb
            clear nd
            go_wp2_with (first
              | (go_at_call 27; refine Ki.mono ?_; clear Ki; rintro e w1 ⟨rfl, rfl⟩)
              | (go_at_call 26; refine Kp.mono ?_; clear Kp; rintro e w1 ⟨rfl, rfl⟩)
              | (go_at_call 27; refine Kj.mono ?_; clear Kj; rintro e w1 ⟨rfl, rfl⟩)
              | (go_at_call 15; refine Kl.mono ?_; clear Kl; rintro e w1 ⟨rfl, rfl⟩)
              | (go_at_call 16; refine Ka.mono ?_; clear Ka; rintro e w1 ⟨rfl, rfl⟩)
              | (go_at_call 17; refine Kb.mono ?_; clear Kb; rintro e w1 ⟨rfl, rfl⟩))
            go_roundg (gk - 1)
            case measure => have := hX.out; omega
            case rel =>
              have hx := hX.out
              exact ⟨x + 1, by omega, rfl, by go_num, rfl⟩
        · obtain rfl : x = 6000 := by have := hX.out; omega
          have Ka : Calls Try.prog 16 #[.pointer (some ⟨S, 0, none⟩), .int .u32 1] w1 _ := s_low h1 1 (by omega)
          rw [Mdl.lowN_const (by omega)] at Ka
          have Kb : Calls Try.prog 17 #[.pointer (some ⟨S, 0, none⟩), .int .u32 0] w1 _ := s_high h1 0 (by omega)
          rw [Mdl.highN_const (by omega)] at Kb
          have Kl : Calls Try.prog 15 #[.pointer (some ⟨S, 0, none⟩), .int .u32 0] w1 _ := s_level h1 0 (by omega)
          rw [Mdl.levI_const (by omega)] at Kl
          have Kv := s_vars h1
          go_wp2_with (first
            | (go_at_call 16; refine Ka.mono ?_; clear Ka; rintro e w1 ⟨rfl, rfl⟩)
            | (go_at_call 17; refine Kb.mono ?_; clear Kb; rintro e w1 ⟨rfl, rfl⟩)
            | (go_at_call 15; refine Kl.mono ?_; clear Kl; rintro e w1 ⟨rfl, rfl⟩)
            | (go_at_call 10; refine Kv.mono ?_; clear Kv; rintro e w1 ⟨rfl, rfl⟩))
          go_ret
          exact ⟨rfl, b1A.out⟩
end Go.Proofs.Ytdmfbfbebcneeaa
