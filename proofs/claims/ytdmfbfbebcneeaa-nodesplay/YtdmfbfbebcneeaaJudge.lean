/-
  The statement's own judgement of a node to be made; what it picks; its look at all nodes.
-/
import Derived.Test.YtdmfbfbebcneeaaRoomW
namespace Go.Proofs.Ytdmfbfbebcneeaa
open Go Go.RowKit

/-- Which handle is picked. -/
def pickN (T : Nat → Nat) (n : Nat) (z : Int) (raw : Bool) : Nat :=
  if raw = true then (IntKind.u32.wrap z % 5000).toNat else T (Int.tmod (Int.tmod z n + n) n).toNat
theorem pick_idx (n : Nat) (z : Int) (hn : 1 ≤ n) : 0 ≤ Int.tmod z n + n ∧ Int.tmod z n + n < 2 * n ∧ 0 ≤ Int.tmod (Int.tmod z n + n) n ∧ Int.tmod (Int.tmod z n + n) n < n := by
  have h1 : -(n : Int) < Int.tmod z n := by
    have := Int.lt_tmod_of_pos z (show (0 : Int) < n by omega)
    omega
  have h2 : Int.tmod z n < n := Int.tmod_lt_of_pos z (by omega)
  have h3 : 0 ≤ Int.tmod z n + n := by omega
  rw [Int.tmod_eq_emod_of_nonneg h3]
  exact ⟨h3, by omega, Int.emod_nonneg _ (by omega), Int.emod_lt_of_pos _ (by omega)⟩
section
variable {w : World} {g n cap : Nat} {T : Nat → Nat}
theorem pickN_lt (hn : 1 ≤ n) (hT : ∀ i, i < n → T i < 268435456) (z : Int) (raw : Bool) : pickN T n z raw < 268435456 := by
  unfold pickN
  split
  · omega
  · have := pick_idx n z hn
    exact hT _ (by omega)
theorem pick_any (hT : ∀ i, i < n → w.cell? ⟨g, i, none⟩ = some (.int .u32 (T i : Int))) (hn : 1 ≤ n) (hn2 : n ≤ 1000000) (z : Int) (raw : Bool) :
    Calls Try.prog 12 #[.slice (some ⟨g, 0, none⟩) n cap, .int .i64 z, .bool raw] w fun e w' => e = .returned (.int .u32 (pickN T n z raw : Int)) ∧ w' = w := by
  unfold pickN
  cases raw with
  | true =>
    rw [if_pos rfl]
    have h0 : 0 ≤ IntKind.u32.wrap z ∧ IntKind.u32.wrap z ≤ 4294967295 := by rw [IntKind.wrap_u32]; omega
    obtain ⟨y, hy⟩ : ∃ y, IntKind.u32.wrap z = y := ⟨_, rfl⟩
    have hy2 : z % 4294967296 = y := by rw [← hy, IntKind.wrap_u32]
    rw [hy] at h0 ⊢
    obtain ⟨v, hv⟩ : ∃ v : Nat, y % 5000 = (v : Int) := ⟨(y % 5000).toNat, by omega⟩
    rw [hv]
    have hv2 : Int.tmod y 5000 = (v : Int) := by rw [Int.tmod_eq_emod_of_nonneg h0.1]; exact hv
    have h00 := h0.1
    have h01 := h0.2
    clear hT h0
    go_enter Try.func12, Try.ntmps12
    go_wp2_with fail
    go_ret
    exact ⟨by simp, rfl⟩
  | false =>
    rw [if_neg (by simp)]
    obtain ⟨p1, p2, p3, p4⟩ := pick_idx n z hn
    obtain ⟨v, hv⟩ : ∃ v : Nat, Int.tmod (Int.tmod z n + n) n = (v : Int) := ⟨_, (Int.toNat_of_nonneg p3).symm⟩
    rw [hv] at p3 p4 ⊢
    have cv := hT v (by omega)
    rw [Int.toNat_natCast]
    generalize T v = t at cv
    obtain ⟨u, hu⟩ : ∃ u, Int.tmod z n = u := ⟨_, rfl⟩
    rw [hu] at p1 p2 hv
    have hv2 : (u + (n : Int)) % (n : Int) = (v : Int) := by rw [← hv, Int.tmod_eq_emod_of_nonneg p1]
    have n0 : ((n : Int) == 0) = false := by simp; omega
    have n0' : ¬ (n : Int) = 0 := by omega
    have vn : v < n := by omega
    clear hT
    go_enter Try.func12, Try.ntmps12
    go_wp2_with fail
    go_ret
    exact ⟨rfl, rfl⟩
end

section
variable {w : World} {S : Nat} {F : Nat → Prop} {M M' : Mdl} {g n cap : Nat} {T : Nat → Nat}
theorem judge_var (h : St w S F M') (l : Int) (x y z : Value) (hl : l < 0 ∨ (M'.n : Int) ≤ l) :
    Calls Try.prog 14 #[.pointer (some ⟨S, 0, none⟩), x, .int .i64 l, y, z] w fun e w' => e = .returned (.tuple #[.int .i64 40, .int .i64 0]) ∧ w' = w := by
  have K := s_vars h
  by_cases h1 : l < 0
  · clear hl
    go_enter Try.func14, Try.ntmps14
    go_wp2_with (first
      | (go_at_call 10; refine K.mono ?_; clear K; rintro e w ⟨rfl, rfl⟩))
    go_ret2
    exact ⟨rfl, rfl⟩
  · have h2 : (M'.n : Int) ≤ l := by omega
    clear hl
    go_enter Try.func14, Try.ntmps14
    go_wp2_with (first
      | (go_at_call 10; refine K.mono ?_; clear K; rintro e w ⟨rfl, rfl⟩))
    go_ret2
    exact ⟨rfl, rfl⟩
theorem judge_node (h : St w S F M') (hT : ∀ i, i < n → w.cell? ⟨g, i, none⟩ = some (.int .u32 (T i : Int))) (hn : n ≤ 1000000) (t : Told M n T) (l a b : Nat) (hl : l < M'.n) (hnn : ¬ M.isNode a ∨ ¬ M.isNode b) :
    Calls Try.prog 14 #[.pointer (some ⟨S, 0, none⟩), .slice (some ⟨g, 0, none⟩) n cap, .int .i64 (l : Int), .int .u32 (a : Int), .int .u32 (b : Int)] w fun e w' => e = .returned (.tuple #[.int .i64 101, .int .i64 0]) ∧ w' = w := by
  have K := s_vars h
  have h1 : ¬ (l : Int) < 0 := by omega
  have h2 : ¬ (M'.n : Int) ≤ (l : Int) := by omega
  have h3 : ¬ M'.n ≤ l := by omega
  by_cases na : M.isNode a
  · have nb : ¬ M.isNode b := hnn.resolve_left (fun e => e na)
    have Ka := place_yes (cap := cap) hT hn a (t.some na)
    have Kb := place_no (cap := cap) hT hn b (t.none nb)
    clear hT t na nb hnn hl
    go_enter Try.func14, Try.ntmps14
    go_wp2_with (first
      | (go_at_call 10; refine K.mono ?_; clear K; rintro e w ⟨rfl, rfl⟩)
      | (go_at_call 26; refine Ka.mono ?_; clear Ka; rintro e w ⟨pa, rfl, pa1, pa2, rfl⟩; have pa3 : ¬ (pa : Int) < 0 := by omega)
      | (go_at_call 26; refine Kb.mono ?_; clear Kb; rintro e w ⟨rfl, rfl⟩))
    go_ret2
    exact ⟨rfl, rfl⟩
  · have Ka := place_no (cap := cap) hT hn a (t.none na)
    by_cases nb : M.isNode b
    · have Kb := place_yes (cap := cap) hT hn b (t.some nb)
      clear hT t na nb hnn hl
      go_enter Try.func14, Try.ntmps14
      go_wp2_with (first
        | (go_at_call 10; refine K.mono ?_; clear K; rintro e w ⟨rfl, rfl⟩)
        | (go_at_call 26; refine Ka.mono ?_; clear Ka; rintro e w ⟨rfl, rfl⟩)
        | (go_at_call 26; refine Kb.mono ?_; clear Kb; rintro e w ⟨pb, rfl, pb1, pb2, rfl⟩))
      go_ret2
      exact ⟨rfl, rfl⟩
    · have Kb := place_no (cap := cap) hT hn b (t.none nb)
      clear hT t na nb hnn hl
      go_enter Try.func14, Try.ntmps14
      go_wp2_with (first
        | (go_at_call 10; refine K.mono ?_; clear K; rintro e w ⟨rfl, rfl⟩)
        | (go_at_call 26; refine Ka.mono ?_; clear Ka; rintro e w ⟨rfl, rfl⟩)
        | (go_at_call 26; refine Kb.mono ?_; clear Kb; rintro e w ⟨rfl, rfl⟩))
      go_ret2
      exact ⟨rfl, rfl⟩
theorem judge_level (h : St w S F M') (gr : Mdl.Grew M M') (hT : ∀ i, i < n → w.cell? ⟨g, i, none⟩ = some (.int .u32 (T i : Int))) (hn : n ≤ 1000000) (t : Told M n T) (l a b : Nat) (hl : l < M'.n) (na : M.isNode a) (nb : M.isNode b) (hlev : M.lev a ≤ l ∨ M.lev b ≤ l) :
    Calls Try.prog 14 #[.pointer (some ⟨S, 0, none⟩), .slice (some ⟨g, 0, none⟩) n cap, .int .i64 (l : Int), .int .u32 (a : Int), .int .u32 (b : Int)] w fun e w' => e = .returned (.tuple #[.int .i64 100, .int .i64 0]) ∧ w' = w := by
  have K := s_vars h
  have o' := h.ok
  have h1 : ¬ (l : Int) < 0 := by omega
  have h2 : ¬ (M'.n : Int) ≤ (l : Int) := by omega
  have h3 : ¬ M'.n ≤ l := by omega
  have Ka := place_yes (cap := cap) hT hn a (t.some na)
  have Kb := place_yes (cap := cap) hT hn b (t.some nb)
  have qa := Mdl.isNode_lt o' (gr.isNode na)
  have qb := Mdl.isNode_lt o' (gr.isNode nb)
  have La := s_level h a (by omega)
  rw [Mdl.levI_node (gr.isNode na), gr.lev na] at La
  have Lb := s_level h b (by omega)
  rw [Mdl.levI_node (gr.isNode nb), gr.lev nb] at Lb
  clear hT t na nb hl gr
  generalize M.lev a = p at La hlev
  generalize M.lev b = q at Lb hlev
  by_cases c1 : p ≤ l
  · have c1' : (p : Int) ≤ (l : Int) := by omega
    clear hlev
    go_enter Try.func14, Try.ntmps14
    go_wp2_with (first
      | (go_at_call 10; refine K.mono ?_; clear K; rintro e w ⟨rfl, rfl⟩)
      | (go_at_call 26; refine Ka.mono ?_; clear Ka; rintro e w ⟨pa, rfl, pa1, pa2, rfl⟩; have pa3 : ¬ (pa : Int) < 0 := by omega)
      | (go_at_call 26; refine Kb.mono ?_; clear Kb; rintro e w ⟨pb, rfl, pb1, pb2, rfl⟩; have pb3 : ¬ (pb : Int) < 0 := by omega)
      | (go_at_call 15; refine La.mono ?_; clear La; rintro e w ⟨rfl, rfl⟩)
      | (go_at_call 15; refine Lb.mono ?_; clear Lb; rintro e w ⟨rfl, rfl⟩))
    go_ret2
    exact ⟨rfl, rfl⟩
  · have c1' : ¬ (p : Int) ≤ (l : Int) := by omega
    have c2 : q ≤ l := by omega
    have c2' : (q : Int) ≤ (l : Int) := by omega
    clear hlev
    go_enter Try.func14, Try.ntmps14
    go_wp2_with (first
      | (go_at_call 10; refine K.mono ?_; clear K; rintro e w ⟨rfl, rfl⟩)
      | (go_at_call 26; refine Ka.mono ?_; clear Ka; rintro e w ⟨pa, rfl, pa1, pa2, rfl⟩; have pa3 : ¬ (pa : Int) < 0 := by omega)
      | (go_at_call 26; refine Kb.mono ?_; clear Kb; rintro e w ⟨pb, rfl, pb1, pb2, rfl⟩; have pb3 : ¬ (pb : Int) < 0 := by omega)
      | (go_at_call 15; refine La.mono ?_; clear La; rintro e w ⟨rfl, rfl⟩)
      | (go_at_call 15; refine Lb.mono ?_; clear Lb; rintro e w ⟨rfl, rfl⟩))
    go_ret2
    exact ⟨rfl, rfl⟩
theorem judge_same (h : St w S F M') (gr : Mdl.Grew M M') (hT : ∀ i, i < n → w.cell? ⟨g, i, none⟩ = some (.int .u32 (T i : Int))) (hn : n ≤ 1000000) (t : Told M n T) (l a : Nat) (hlev : l < M.lev a) (na : M.isNode a) :
    Calls Try.prog 14 #[.pointer (some ⟨S, 0, none⟩), .slice (some ⟨g, 0, none⟩) n cap, .int .i64 (l : Int), .int .u32 (a : Int), .int .u32 (a : Int)] w fun e w' => ∃ p : Nat, e = .returned (.tuple #[.int .i64 0, .int .i64 ((p : Int) + 1)]) ∧ p < n ∧ T p = a ∧ w' = w := by
  have hl : l < M'.n := by have := Mdl.lev_le h.ok (gr.isNode na); rw [gr.lev na] at this; omega
  have K := s_vars h
  have o' := h.ok
  have h1 : ¬ (l : Int) < 0 := by omega
  have h2 : ¬ (M'.n : Int) ≤ (l : Int) := by omega
  have h3 : ¬ M'.n ≤ l := by omega
  have Ka := place_yes (cap := cap) hT hn a (t.some na)
  have Kb := place_yes (cap := cap) hT hn a (t.some na)
  have qa := Mdl.isNode_lt o' (gr.isNode na)
  have qb := Mdl.isNode_lt o' (gr.isNode na)
  have La := s_level h a (by omega)
  rw [Mdl.levI_node (gr.isNode na), gr.lev na] at La
  have Lb := s_level h a (by omega)
  rw [Mdl.levI_node (gr.isNode na), gr.lev na] at Lb
  clear hT t na hl gr
  generalize M.lev a = p at La Lb hlev
  have c1 : ¬ p ≤ l := by omega
  have c1' : ¬ (p : Int) ≤ (l : Int) := by omega
  clear hlev
  go_enter Try.func14, Try.ntmps14
  go_wp2_with (first
    | (go_at_call 10; refine K.mono ?_; clear K; rintro e w ⟨rfl, rfl⟩)
    | (go_at_call 26; refine Ka.mono ?_; clear Ka; rintro e w ⟨pa, rfl, pa1, pa2, rfl⟩; have pa3 : ¬ (pa : Int) < 0 := by omega)
    | (go_at_call 26; refine Kb.mono ?_; clear Kb; rintro e w ⟨pb, rfl, pb1, pb2, rfl⟩; have pb3 : ¬ (pb : Int) < 0 := by omega)
    | (go_at_call 15; refine La.mono ?_; clear La; rintro e w ⟨rfl, rfl⟩)
    | (go_at_call 15; refine Lb.mono ?_; clear Lb; rintro e w ⟨rfl, rfl⟩))
  go_ret2
  exact ⟨pa, rfl, pa1, pa2, rfl⟩
set_option maxRecDepth 100000 in
set_option maxHeartbeats 1000000 in
theorem judge_search (h : St w S F M') (gr : Mdl.Grew M M') (hT : ∀ i, i < n → w.cell? ⟨g, i, none⟩ = some (.int .u32 (T i : Int))) (hn : n ≤ 1000000) (t : Told M n T) (l a b : Nat) (hl : l < M'.n) (na : M.isNode a) (nb : M.isNode b) (la : l < M.lev a) (lb : l < M.lev b) (hab : a ≠ b) (o : M.Ok) (m : Nat) (m2 : 2 ≤ m) (hm : m ≤ n) (first : ∀ j, 2 ≤ j → j < m → M.nd (T j) ≠ (l, a, b)) (hit : m < n → M.nd (T m) = (l, a, b)) (r1 r2 : Int) (hr1 : m < n → 0 = r1 ∧ (m : Int) + 1 = r2) (hr2 : ¬ m < n → M.room ≤ M.hs.length → 60 = r1 ∧ 0 = r2) (hr3 : ¬ m < n → ¬ M.room ≤ M.hs.length → 0 = r1 ∧ 0 = r2) :
    Calls Try.prog 14 #[.pointer (some ⟨S, 0, none⟩), .slice (some ⟨g, 0, none⟩) n cap, .int .i64 (l : Int), .int .u32 (a : Int), .int .u32 (b : Int)] w fun e w' => e = .returned (.tuple #[.int .i64 r1, .int .i64 r2]) ∧ w' = w := by
  have K := s_vars h
  have o' := h.ok
  have h1 : ¬ (l : Int) < 0 := by omega
  have h2 : ¬ (M'.n : Int) ≤ (l : Int) := by omega
  have h3 : ¬ M'.n ≤ l := by omega
  have Ka := place_yes (cap := cap) hT hn a (t.some na)
  have Kb := place_yes (cap := cap) hT hn b (t.some nb)
  have qa := Mdl.isNode_lt o' (gr.isNode na)
  have qb := Mdl.isNode_lt o' (gr.isNode nb)
  have La := s_level h a (by omega)
  rw [Mdl.levI_node (gr.isNode na), gr.lev na] at La
  have Lb := s_level h b (by omega)
  rw [Mdl.levI_node (gr.isNode nb), gr.lev nb] at Lb
  have hrm := s_room h
  rw [gr.room] at hrm
  have A1 : Aside (m < n → 0 = r1 ∧ (m : Int) + 1 = r2) := hr1
  have A2 : Aside (¬ m < n → M.room ≤ M.hs.length → 60 = r1 ∧ 0 = r2) := hr2
  have A3 : Aside (¬ m < n → ¬ M.room ≤ M.hs.length → 0 = r1 ∧ 0 = r2) := hr3
  clear hr1 hr2 hr3
  have hTA : Aside (∀ i, i < n → w.cell? ⟨g, i, none⟩ = some (.int .u32 (T i : Int))) := hT
  have fA : Aside (∀ j, 2 ≤ j → j < m → M.nd (T j) ≠ (l, a, b)) := first
  have hitA : Aside (m < n → M.nd (T m) = (l, a, b)) := hit
  have hne : ¬ (a : Int) = (b : Int) := by omega
  have hne' : ((a : Int) == (b : Int)) = false := by simpa using hne
  have tA : Aside (Told M n T) := t
  have grA : Aside (Mdl.Grew M M') := gr
  clear hT first hit t na nb hl gr hab
  generalize M.lev a = p at La la
  generalize M.lev b = q at Lb lb
  have c1 : ¬ p ≤ l := by omega
  have c1' : ¬ (p : Int) ≤ (l : Int) := by omega
  have c2 : ¬ q ≤ l := by omega
  have c2' : ¬ (q : Int) ≤ (l : Int) := by omega
  have d1 : decide (p ≤ l) = false := decide_eq_false c1
  have d1' : decide ((p : Int) ≤ (l : Int)) = false := decide_eq_false c1'
  have d2 : decide (q ≤ l) = false := decide_eq_false c2
  have d2' : decide ((q : Int) ≤ (l : Int)) = false := decide_eq_false c2'
  clear la lb
  go_enter Try.func14, Try.ntmps14
  go_wp2_with (first
    | (go_at_call 10; refine K.mono ?_; clear K; rintro e w ⟨rfl, rfl⟩)
    | (go_at_call 26; refine Ka.mono ?_; clear Ka; rintro e w ⟨pa, rfl, pa1, pa2, rfl⟩; have pa3 : ¬ (pa : Int) < 0 := by omega)
    | (go_at_call 26; refine Kb.mono ?_; clear Kb; rintro e w ⟨pb, rfl, pb1, pb2, rfl⟩; have pb3 : ¬ (pb : Int) < 0 := by omega)
    | (go_at_call 15; refine La.mono ?_; clear La; rintro e w ⟨rfl, rfl⟩)
    | (go_at_call 15; refine Lb.mono ?_; clear Lb; rintro e w ⟨rfl, rfl⟩))
  go_loopg [10, 11, 14] (n - 2) (fun gk s10 s11 si wr => ∃ i : Nat, i + gk = n ∧ 2 ≤ i ∧ i ≤ m ∧ s10 = .int .i64 0 ∧ s11 = .int .i64 0 ∧ si = .int .i64 (i : Int) ∧ wr = w)
  case atStart => exact ⟨2, by omega, by omega, m2, rfl, rfl, rfl, rfl⟩
  case round =>
    obtain ⟨i, hi, hi2, him, rfl, rfl, rfl, rfl⟩ := hrel
    have hI : Aside (i + gk = n) := hi
    clear hi
    by_cases hlt : i < n
    · have hlt' : (i : Int) < (n : Int) := by omega
      have ci := hTA.out i hlt
      have xm := tA.out.inner i hi2 hlt
      obtain ⟨xm', xe'⟩ := grA.out.keep _ xm
      have xr := o.range _ xm
      have JL := s_level ‹St _ S F M'› (T i) (by omega)
      rw [Mdl.levI_in o' xm', xe'] at JL
      have JA := s_low ‹St _ S F M'› (T i) (by omega)
      rw [Mdl.lowN_in o' xm', xe'] at JA
      have JB := s_high ‹St _ S F M'› (T i) (by omega)
      rw [Mdl.highN_in o' xm', xe'] at JB
      clear xe' xm'
      by_cases e : i = m
      · subst e
        rw [hitA.out hlt] at JL JA JB
        generalize T i = x at ci JL JA JB
        simp only at JL JA JB
        go_wp2_with (first
          | (go_at_call 15; refine JL.mono ?_; clear JL; rintro e w ⟨rfl, rfl⟩)
          | (go_at_call 16; refine JA.mono ?_; clear JA; rintro e w ⟨rfl, rfl⟩)
          | (go_at_call 17; refine JB.mono ?_; clear JB; rintro e w ⟨rfl, rfl⟩))
        go_ret2
        obtain ⟨rfl, rfl⟩ := A1.out hlt
        exact ⟨rfl, rfl⟩
      · have une := fA.out i hi2 (by omega)
        have uneA : Aside (¬ ((M.nd (T i)).1 = l ∧ (M.nd (T i)).2.1 = a ∧ (M.nd (T i)).2.2 = b)) := fun e => une (Prod.ext e.1 (Prod.ext e.2.1 e.2.2))
        clear une xm xr
        generalize (M.nd (T i)).1 = ly at JL uneA
        generalize (M.nd (T i)).2.1 = y at JA uneA
        generalize (M.nd (T i)).2.2 = z at JB uneA
        generalize T i = x at ci JL JA JB
        by_cases f1 : ly = l
        · subst f1
          by_cases f2 : y = a
          · subst f2
            have f3 : ¬ z = b := fun e => uneA.out ⟨rfl, rfl, e⟩
            have e3 : ¬ (z : Int) = (b : Int) := by omega
            have e3' : ((z : Int) == (b : Int)) = false := by simpa using e3
            clear f3
            go_wp2_with (first
              | (go_at_call 15; refine JL.mono ?_; clear JL; rintro e w ⟨rfl, rfl⟩)
              | (go_at_call 16; refine JA.mono ?_; clear JA; rintro e w ⟨rfl, rfl⟩)
              | (go_at_call 17; refine JB.mono ?_; clear JB; rintro e w ⟨rfl, rfl⟩))
            go_roundg (gk - 1)
            case measure => have := hI.out; omega
            case rel =>
              have hi := hI.out
              exact ⟨i + 1, by omega, by omega, by omega, rfl, rfl, by go_num, rfl⟩
          · have e2 : ¬ (y : Int) = (a : Int) := by omega
            have e2' : ((y : Int) == (a : Int)) = false := by simpa using e2
            clear f2
            go_wp2_with (first
              | (go_at_call 15; refine JL.mono ?_; clear JL; rintro e w ⟨rfl, rfl⟩)
              | (go_at_call 16; refine JA.mono ?_; clear JA; rintro e w ⟨rfl, rfl⟩)
              | (go_at_call 17; refine JB.mono ?_; clear JB; rintro e w ⟨rfl, rfl⟩))
            go_roundg (gk - 1)
            case measure => have := hI.out; omega
            case rel =>
              have hi := hI.out
              exact ⟨i + 1, by omega, by omega, by omega, rfl, rfl, by go_num, rfl⟩
        · have e1 : ¬ (ly : Int) = (l : Int) := by omega
          have e1' : ((ly : Int) == (l : Int)) = false := by simpa using e1
          clear f1
          go_wp2_with (first
            | (go_at_call 15; refine JL.mono ?_; clear JL; rintro e w ⟨rfl, rfl⟩)
            | (go_at_call 16; refine JA.mono ?_; clear JA; rintro e w ⟨rfl, rfl⟩)
            | (go_at_call 17; refine JB.mono ?_; clear JB; rintro e w ⟨rfl, rfl⟩))
          go_roundg (gk - 1)
          case measure => have := hI.out; omega
          case rel =>
            have hi := hI.out
            exact ⟨i + 1, by omega, by omega, by omega, rfl, rfl, by go_num, rfl⟩
    · have e : ¬ m < n := by omega
      have hlt' : ¬ (i : Int) < (n : Int) := by omega
      have hnl := tA.out.len
      by_cases c : M.room ≤ M.hs.length
      · have c' : (M.room : Int) ≤ (n : Int) - 2 := by omega
        have r := A2.out e c
        clear c hnl
        go_wp2_with (first
          | (go_at_call 11; refine hrm.mono ?_; clear hrm; rintro e w ⟨rfl, rfl⟩))
        go_ret2
        obtain ⟨rfl, rfl⟩ := r
        exact ⟨rfl, rfl⟩
      · have c' : ¬ (M.room : Int) ≤ (n : Int) - 2 := by omega
        have r := A3.out e c
        clear c hnl
        go_wp2_with (first
          | (go_at_call 11; refine hrm.mono ?_; clear hrm; rintro e w ⟨rfl, rfl⟩))
        go_ret2
        obtain ⟨rfl, rfl⟩ := r
        exact ⟨rfl, rfl⟩
end
end Go.Proofs.Ytdmfbfbebcneeaa
