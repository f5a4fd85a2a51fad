/-
  What Mk of a store tells, and what it makes.
-/
import Derived.Test.YtdmfbfbebcneeaaFind
namespace Go.Proofs.Ytdmfbfbebcneeaa
open Go Go.RowKit

section
variable {w w' : World} {S : Nat} {M : Mdl} {I : Ins} {d : Nd}
theorem inner_there (h : StI w S M I) (f : M.Fits d) (i : Nat) (hi : i < M.hs.length) (e : M.nd (i + 2) = d) :
    Calls Try.prog 38 #[.pointer (some ⟨S, 0, none⟩), .int .u64 (ndZ d)] w fun e w' => e = .returned (.tuple #[.int .u32 ((i : Int) + 2), .int .i64 0]) ∧ ∃ I', StI w' S M I' ∧ Wf (Fp S I) (Fp S I') w w' := by
  obtain ⟨k0, k1⟩ := h.pu.fits_word f
  have hwd : Aside (I.wd i = ndZ d) := by simp only [Aside]; rw [h.pu.wd i hi, e]
  have K1 := recall_any h (ndZ d) (by omega) k1
  have F : Aside (∀ {w : World}, StI w S M I → Calls Try.prog 50 #[.pointer (some ⟨S, 0, none⟩), .int .u64 (ndZ d)] w fun e w' => e = .returned (.tuple #[.int .u32 ((i : Int) + 2), .int .i64 0]) ∧ StI w' S M I ∧ Wf (Fp S I) (Fp S I) w w') := fun {w} h => by
    by_cases full : M.hs.length = M.room
    · exact find_full_there h f i hi e full
    · exact find_there h f i hi e full
  have hT : Aside (∀ x j : Nat, j < M.hs.length → ndZ d = I.wd j → x = j + 2 → x = i + 2) := fun x j hj ej ex => by
    have := h.pu.word_of f hj ej
    have := h.pu.ok.one (j + 2) (h.pu.mem_iff.2 (by omega)) (i + 2) (h.pu.mem_iff.2 (by omega)) (by rw [this, e])
    omega
  clear e
  go_enter Try.func38, Try.ntmps38
  go_wp2_with (first
    | (go_at_call 49; refine K1.mono ?_; clear K1; rintro e w1 ⟨x, ok, rfl, told, h1, b1⟩; have K2 := F.out h1)
    | (go_at_call 50; refine K2.mono ?_; clear K2; rintro e w2 ⟨rfl, h2, b2⟩; have K3 := keep_any h2 i hi; rw [hwd.out] at K3)
    | (go_at_call 51; refine K3.mono ?_; clear K3; rintro e w3 ⟨rfl, c3, h3, b3⟩))
  · go_ret2
    obtain ⟨j, hj, ej, ex⟩ := told.out ‹_›
    obtain rfl := hT.out x j hj ej ex
    exact ⟨by simp, I, h1, b1⟩
  · go_ret2
    exact ⟨rfl, _, h3, (b1.trans b2).trans b3⟩
theorem inner_full (h : StI w S M I) (f : M.Fits d) (no : ∀ k ∈ M.hs, M.nd k ≠ d) (full : M.hs.length = M.room) :
    Calls Try.prog 38 #[.pointer (some ⟨S, 0, none⟩), .int .u64 (ndZ d)] w fun e w' => e = .returned (.tuple #[.int .u32 0, .int .i64 60]) ∧ ∃ I', StI w' S M I' ∧ Wf (Fp S I) (Fp S I') w w' := by
  obtain ⟨k0, k1⟩ := h.pu.fits_word f
  have K1 := recall_any h (ndZ d) (by omega) k1
  have F : Aside (∀ {w : World}, StI w S M I → _) := fun {w} (h : StI w S M I) => find_full_no h f no full
  have hT : Aside (∀ j : Nat, j < M.hs.length → ¬ ndZ d = I.wd j) := fun j hj ej => no (j + 2) (h.pu.mem_iff.2 (by omega)) (h.pu.word_of f hj ej)
  clear no full
  go_enter Try.func38, Try.ntmps38
  go_wp2_with (first
    | (go_at_call 49; refine K1.mono ?_; clear K1; rintro e w1 ⟨x, ok, rfl, told, h1, b1⟩; have K2 := F.out h1)
    | (go_at_call 50; refine K2.mono ?_; clear K2; rintro e w2 ⟨rfl, h2, b2⟩))
  · obtain ⟨j, hj, ej, ex⟩ := told.out ‹_›
    exact absurd ej (hT.out j hj)
  · go_ret2
    exact ⟨rfl, _, h2, b1.trans b2⟩
theorem inner_new (h : StI w S M I) (f : M.Fits d) (no : ∀ k ∈ M.hs, M.nd k ≠ d) (room : M.hs.length < M.room) :
    Calls Try.prog 38 #[.pointer (some ⟨S, 0, none⟩), .int .u64 (ndZ d)] w fun e w' => e = .returned (.tuple #[.int .u32 ((M.hs.length : Int) + 2), .int .i64 0]) ∧ ∃ I', StI w' S (M.addAt d) I' ∧ Wf (Fp S I) (Fp S I') w w' := by
  obtain ⟨k0, k1⟩ := h.pu.fits_word f
  have K1 := recall_any h (ndZ d) (by omega) k1
  have F : Aside (∀ {w : World}, StI w S M I → _) := fun {w} (h : StI w S M I) => find_new h f no room
  have hT : Aside (∀ j : Nat, j < M.hs.length → ¬ ndZ d = I.wd j) := fun j hj ej => no (j + 2) (h.pu.mem_iff.2 (by omega)) (h.pu.word_of f hj ej)
  have hl : M.hs.length < (M.addAt d).hs.length := by simp [Mdl.addAt]
  clear no room
  go_enter Try.func38, Try.ntmps38
  go_wp2_with (first
    | (go_at_call 49; refine K1.mono ?_; clear K1; rintro e w1 ⟨x, ok, rfl, told, h1, b1⟩; have K2 := F.out h1)
    | (go_at_call 50; refine K2.mono ?_; clear K2; rintro e w2 ⟨rfl, I2, e2, h2, b2⟩; have K3 := keep_any h2 M.hs.length hl; rw [e2] at K3; clear e2)
    | (go_at_call 51; refine K3.mono ?_; clear K3; rintro e w3 ⟨rfl, c3, h3, b3⟩))
  · obtain ⟨j, hj, ej, ex⟩ := told.out ‹_›
    exact absurd ej (hT.out j hj)
  · go_ret2
    exact ⟨rfl, _, h3, (b1.trans b2).trans b3⟩

/-- No such level. -/
theorem mk_var (h : StI w S M I) (l : Int) (x y : Value) (hl : l < 0 ∨ (M.n : Int) ≤ l) :
    Calls Try.prog 13 #[.pointer (some ⟨S, 0, none⟩), .int .i64 l, x, y] w fun e w' => e = .returned (.tuple #[.int .u32 0, .int .i64 40]) ∧ w' = w := by
  have K := vars_any h
  by_cases h1 : l < 0
  · clear hl
    go_enter Try.func13, Try.ntmps13
    go_wp2_with (first
      | (go_at_call 10; refine K.mono ?_; clear K; rintro e w ⟨rfl, rfl⟩))
    go_ret2
    exact ⟨rfl, rfl⟩
  · have h2 : (M.n : Int) ≤ l := by omega
    clear hl
    go_enter Try.func13, Try.ntmps13
    go_wp2_with (first
      | (go_at_call 10; refine K.mono ?_; clear K; rintro e w ⟨rfl, rfl⟩))
    go_ret2
    exact ⟨rfl, rfl⟩
/-- No node. -/
theorem mk_node (h : StI w S M I) (l a b : Nat) (hl : l < M.n) (ha : a < 4294967296) (hb : b < 4294967296) (hn : ¬ M.isNode a ∨ ¬ M.isNode b) :
    Calls Try.prog 13 #[.pointer (some ⟨S, 0, none⟩), .int .i64 (l : Int), .int .u32 (a : Int), .int .u32 (b : Int)] w fun e w' => e = .returned (.tuple #[.int .u32 0, .int .i64 101]) ∧ w' = w := by
  have K := vars_any h
  have h1 : ¬ (l : Int) < 0 := by omega
  have h2 : ¬ (M.n : Int) ≤ (l : Int) := by omega
  have h3 : ¬ M.n ≤ l := by omega
  have Ka := is_any h a ha
  have Kb := is_any h b hb
  by_cases na : M.isNode a
  · have nb : ¬ M.isNode b := hn.resolve_left (fun e => e na)
    rw [decide_eq_true na] at Ka
    rw [decide_eq_false nb] at Kb
    clear na nb hn hl
    go_enter Try.func13, Try.ntmps13
    go_wp2_with (first
      | (go_at_call 10; refine K.mono ?_; clear K; rintro e w ⟨rfl, rfl⟩)
      | (go_at_call 27; refine Ka.mono ?_; clear Ka; rintro e w ⟨rfl, rfl⟩)
      | (go_at_call 27; refine Kb.mono ?_; clear Kb; rintro e w ⟨rfl, rfl⟩))
    go_ret2
    exact ⟨rfl, rfl⟩
  · rw [decide_eq_false na] at Ka
    clear na hn Kb hl
    go_enter Try.func13, Try.ntmps13
    go_wp2_with (first
      | (go_at_call 10; refine K.mono ?_; clear K; rintro e w ⟨rfl, rfl⟩)
      | (go_at_call 27; refine Ka.mono ?_; clear Ka; rintro e w ⟨rfl, rfl⟩))
    go_ret2
    exact ⟨rfl, rfl⟩
/-- Not deeper. -/
theorem mk_level (h : StI w S M I) (l a b : Nat) (hl : l < M.n) (na : M.isNode a) (nb : M.isNode b) (hn : M.lev a ≤ l ∨ M.lev b ≤ l) :
    Calls Try.prog 13 #[.pointer (some ⟨S, 0, none⟩), .int .i64 (l : Int), .int .u32 (a : Int), .int .u32 (b : Int)] w fun e w' => e = .returned (.tuple #[.int .u32 0, .int .i64 100]) ∧ w' = w := by
  have o := h.pu.ok
  have K := vars_any h
  have h1 : ¬ (l : Int) < 0 := by omega
  have h2 : ¬ (M.n : Int) ≤ (l : Int) := by omega
  have h3 : ¬ M.n ≤ l := by omega
  have ha := Mdl.isNode_lt o na
  have hb := Mdl.isNode_lt o nb
  have Ka := is_any h a (by omega)
  have Kb := is_any h b (by omega)
  have La := level_any h a (by omega)
  have Lb := level_any h b (by omega)
  rw [Mdl.levI_node na] at La
  rw [Mdl.levI_node nb] at Lb
  rw [decide_eq_true na] at Ka
  rw [decide_eq_true nb] at Kb
  clear na nb
  generalize M.lev a = p at La hn
  generalize M.lev b = q at Lb hn
  by_cases hqp : q < p
  · have e1 : (q : Int) < (p : Int) := by omega
    have e2 : q ≤ l := by omega
    have e3 : (q : Int) ≤ (l : Int) := by omega
    clear hn hl
    go_enter Try.func13, Try.ntmps13
    go_wp2_with (first
      | (go_at_call 10; refine K.mono ?_; clear K; rintro e w ⟨rfl, rfl⟩)
      | (go_at_call 27; refine Ka.mono ?_; clear Ka; rintro e w ⟨rfl, rfl⟩)
      | (go_at_call 27; refine Kb.mono ?_; clear Kb; rintro e w ⟨rfl, rfl⟩)
      | (go_at_call 15; refine La.mono ?_; clear La; rintro e w ⟨rfl, rfl⟩)
      | (go_at_call 15; refine Lb.mono ?_; clear Lb; rintro e w ⟨rfl, rfl⟩))
    go_ret2
    exact ⟨rfl, rfl⟩
  · have e1 : ¬ (q : Int) < (p : Int) := by omega
    have e2 : p ≤ l := by omega
    have e3 : (p : Int) ≤ (l : Int) := by omega
    clear hn hl
    go_enter Try.func13, Try.ntmps13
    go_wp2_with (first
      | (go_at_call 10; refine K.mono ?_; clear K; rintro e w ⟨rfl, rfl⟩)
      | (go_at_call 27; refine Ka.mono ?_; clear Ka; rintro e w ⟨rfl, rfl⟩)
      | (go_at_call 27; refine Kb.mono ?_; clear Kb; rintro e w ⟨rfl, rfl⟩)
      | (go_at_call 15; refine La.mono ?_; clear La; rintro e w ⟨rfl, rfl⟩)
      | (go_at_call 15; refine Lb.mono ?_; clear Lb; rintro e w ⟨rfl, rfl⟩))
    go_ret2
    exact ⟨rfl, rfl⟩
/-- The same twice. -/
theorem mk_same (h : StI w S M I) (l a : Nat) (hl : l < M.lev a) (na : M.isNode a) :
    Calls Try.prog 13 #[.pointer (some ⟨S, 0, none⟩), .int .i64 (l : Int), .int .u32 (a : Int), .int .u32 (a : Int)] w fun e w' => e = .returned (.tuple #[.int .u32 (a : Int), .int .i64 0]) ∧ w' = w := by
  have o := h.pu.ok
  have hln : l < M.n := by have := Mdl.lev_le o na; omega
  have K := vars_any h
  have h1 : ¬ (l : Int) < 0 := by omega
  have h2 : ¬ (M.n : Int) ≤ (l : Int) := by omega
  have h3 : ¬ M.n ≤ l := by omega
  have ha := Mdl.isNode_lt o na
  have Ka := is_any h a (by omega)
  have La := level_any h a (by omega)
  rw [Mdl.levI_node na] at La
  rw [decide_eq_true na] at Ka
  have Kb := Ka
  have Lb := La
  clear na hln
  generalize M.lev a = p at La Lb hl
  have e1 : ¬ (p : Int) < (p : Int) := by omega
  have e2 : ¬ p ≤ l := by omega
  have e3 : ¬ (p : Int) ≤ (l : Int) := by omega
  clear hl
  go_enter Try.func13, Try.ntmps13
  go_wp2_with (first
    | (go_at_call 10; refine K.mono ?_; clear K; rintro e w ⟨rfl, rfl⟩)
    | (go_at_call 27; refine Ka.mono ?_; clear Ka; rintro e w ⟨rfl, rfl⟩)
    | (go_at_call 27; refine Kb.mono ?_; clear Kb; rintro e w ⟨rfl, rfl⟩)
    | (go_at_call 15; refine La.mono ?_; clear La; rintro e w ⟨rfl, rfl⟩)
    | (go_at_call 15; refine Lb.mono ?_; clear Lb; rintro e w ⟨rfl, rfl⟩))
  go_ret2
  exact ⟨rfl, rfl⟩
/-- It is there. -/
theorem mk_there (h : StI w S M I) (l a b : Nat) (f : M.Fits (l, a, b)) (i : Nat) (hi : i < M.hs.length) (e : M.nd (i + 2) = (l, a, b)) :
    Calls Try.prog 13 #[.pointer (some ⟨S, 0, none⟩), .int .i64 (l : Int), .int .u32 (a : Int), .int .u32 (b : Int)] w fun e w' => e = .returned (.tuple #[.int .u32 ((i : Int) + 2), .int .i64 0]) ∧ ∃ I', StI w' S M I' ∧ Wf (Fp S I) (Fp S I') w w' := by
  have o := h.pu.ok
  have hl := f.lv
  have na := f.lo.1
  have nb := f.hi.1
  have la := f.lo.2
  have lb := f.hi.2
  have hab := f.ne
  simp only at hl na nb la lb hab
  have K := vars_any h
  have h1 : ¬ (l : Int) < 0 := by omega
  have h2 : ¬ (M.n : Int) ≤ (l : Int) := by omega
  have h3 : ¬ M.n ≤ l := by omega
  have ha := Mdl.isNode_lt o na
  have hb := Mdl.isNode_lt o nb
  have hl8 := o.le8
  have Ka := is_any h a (by omega)
  have Kb := is_any h b (by omega)
  have La := level_any h a (by omega)
  have Lb := level_any h b (by omega)
  rw [Mdl.levI_node na] at La
  rw [Mdl.levI_node nb] at Lb
  rw [decide_eq_true na] at Ka
  rw [decide_eq_true nb] at Kb
  have Kn := bnode_any (l : Int) (a : Int) (b : Int) w (by omega) (by omega) (by omega)
  have Ki := inner_there h f i hi e
  change Calls _ _ #[_, .int .u64 (nodeZ (l : Int) (a : Int) (b : Int))] _ _ at Ki
  have hwl : IntKind.u8.wrap (l : Int) = (l : Int) := by rw [IntKind.wrap_u8]; omega
  have hne : ¬ (a : Int) = (b : Int) := by omega
  have hne' : ((a : Int) == (b : Int)) = false := by simpa using hne
  clear na nb hab
  generalize M.lev a = p at La la
  generalize M.lev b = q at Lb lb
  by_cases hqp : q < p
  · have e1 : (q : Int) < (p : Int) := by omega
    have e2 : ¬ q ≤ l := by omega
    have e3 : ¬ (q : Int) ≤ (l : Int) := by omega
    clear la lb hl hqp
    go_enter Try.func13, Try.ntmps13
    go_wp2_with (first
      | (go_at_call 10; refine K.mono ?_; clear K; rintro e w ⟨rfl, rfl⟩)
      | (go_at_call 27; refine Ka.mono ?_; clear Ka; rintro e w ⟨rfl, rfl⟩)
      | (go_at_call 27; refine Kb.mono ?_; clear Kb; rintro e w ⟨rfl, rfl⟩)
      | (go_at_call 15; refine La.mono ?_; clear La; rintro e w ⟨rfl, rfl⟩)
      | (go_at_call 15; refine Lb.mono ?_; clear Lb; rintro e w ⟨rfl, rfl⟩)
      | (go_at_call 39; refine Kn.mono ?_; clear Kn; rintro e w ⟨rfl, rfl⟩)
      | (go_at_call 38; refine Ki.mono ?_; clear Ki; rintro e w2 ⟨rfl, I2, h2, b2⟩))
    go_ret2
    exact ⟨rfl, I2, h2, b2⟩
  · have e1 : ¬ (q : Int) < (p : Int) := by omega
    have e2 : ¬ p ≤ l := by omega
    have e3 : ¬ (p : Int) ≤ (l : Int) := by omega
    clear la lb hl hqp
    go_enter Try.func13, Try.ntmps13
    go_wp2_with (first
      | (go_at_call 10; refine K.mono ?_; clear K; rintro e w ⟨rfl, rfl⟩)
      | (go_at_call 27; refine Ka.mono ?_; clear Ka; rintro e w ⟨rfl, rfl⟩)
      | (go_at_call 27; refine Kb.mono ?_; clear Kb; rintro e w ⟨rfl, rfl⟩)
      | (go_at_call 15; refine La.mono ?_; clear La; rintro e w ⟨rfl, rfl⟩)
      | (go_at_call 15; refine Lb.mono ?_; clear Lb; rintro e w ⟨rfl, rfl⟩)
      | (go_at_call 39; refine Kn.mono ?_; clear Kn; rintro e w ⟨rfl, rfl⟩)
      | (go_at_call 38; refine Ki.mono ?_; clear Ki; rintro e w2 ⟨rfl, I2, h2, b2⟩))
    go_ret2
    exact ⟨rfl, I2, h2, b2⟩
/-- There is no room. -/
theorem mk_full (h : StI w S M I) (l a b : Nat) (f : M.Fits (l, a, b)) (no : ∀ k ∈ M.hs, M.nd k ≠ (l, a, b)) (full : M.hs.length = M.room) :
    Calls Try.prog 13 #[.pointer (some ⟨S, 0, none⟩), .int .i64 (l : Int), .int .u32 (a : Int), .int .u32 (b : Int)] w fun e w' => e = .returned (.tuple #[.int .u32 0, .int .i64 60]) ∧ ∃ I', StI w' S M I' ∧ Wf (Fp S I) (Fp S I') w w' := by
  have o := h.pu.ok
  have hl := f.lv
  have na := f.lo.1
  have nb := f.hi.1
  have la := f.lo.2
  have lb := f.hi.2
  have hab := f.ne
  simp only at hl na nb la lb hab
  have K := vars_any h
  have h1 : ¬ (l : Int) < 0 := by omega
  have h2 : ¬ (M.n : Int) ≤ (l : Int) := by omega
  have h3 : ¬ M.n ≤ l := by omega
  have ha := Mdl.isNode_lt o na
  have hb := Mdl.isNode_lt o nb
  have hl8 := o.le8
  have Ka := is_any h a (by omega)
  have Kb := is_any h b (by omega)
  have La := level_any h a (by omega)
  have Lb := level_any h b (by omega)
  rw [Mdl.levI_node na] at La
  rw [Mdl.levI_node nb] at Lb
  rw [decide_eq_true na] at Ka
  rw [decide_eq_true nb] at Kb
  have Kn := bnode_any (l : Int) (a : Int) (b : Int) w (by omega) (by omega) (by omega)
  have Ki := inner_full h f no full
  change Calls _ _ #[_, .int .u64 (nodeZ (l : Int) (a : Int) (b : Int))] _ _ at Ki
  have hwl : IntKind.u8.wrap (l : Int) = (l : Int) := by rw [IntKind.wrap_u8]; omega
  have hne : ¬ (a : Int) = (b : Int) := by omega
  have hne' : ((a : Int) == (b : Int)) = false := by simpa using hne
  clear na nb hab
  generalize M.lev a = p at La la
  generalize M.lev b = q at Lb lb
  by_cases hqp : q < p
  · have e1 : (q : Int) < (p : Int) := by omega
    have e2 : ¬ q ≤ l := by omega
    have e3 : ¬ (q : Int) ≤ (l : Int) := by omega
    clear la lb hl hqp
    go_enter Try.func13, Try.ntmps13
    go_wp2_with (first
      | (go_at_call 10; refine K.mono ?_; clear K; rintro e w ⟨rfl, rfl⟩)
      | (go_at_call 27; refine Ka.mono ?_; clear Ka; rintro e w ⟨rfl, rfl⟩)
      | (go_at_call 27; refine Kb.mono ?_; clear Kb; rintro e w ⟨rfl, rfl⟩)
      | (go_at_call 15; refine La.mono ?_; clear La; rintro e w ⟨rfl, rfl⟩)
      | (go_at_call 15; refine Lb.mono ?_; clear Lb; rintro e w ⟨rfl, rfl⟩)
      | (go_at_call 39; refine Kn.mono ?_; clear Kn; rintro e w ⟨rfl, rfl⟩)
      | (go_at_call 38; refine Ki.mono ?_; clear Ki; rintro e w2 ⟨rfl, I2, h2, b2⟩))
    go_ret2
    exact ⟨rfl, I2, h2, b2⟩
  · have e1 : ¬ (q : Int) < (p : Int) := by omega
    have e2 : ¬ p ≤ l := by omega
    have e3 : ¬ (p : Int) ≤ (l : Int) := by omega
    clear la lb hl hqp
    go_enter Try.func13, Try.ntmps13
    go_wp2_with (first
      | (go_at_call 10; refine K.mono ?_; clear K; rintro e w ⟨rfl, rfl⟩)
      | (go_at_call 27; refine Ka.mono ?_; clear Ka; rintro e w ⟨rfl, rfl⟩)
      | (go_at_call 27; refine Kb.mono ?_; clear Kb; rintro e w ⟨rfl, rfl⟩)
      | (go_at_call 15; refine La.mono ?_; clear La; rintro e w ⟨rfl, rfl⟩)
      | (go_at_call 15; refine Lb.mono ?_; clear Lb; rintro e w ⟨rfl, rfl⟩)
      | (go_at_call 39; refine Kn.mono ?_; clear Kn; rintro e w ⟨rfl, rfl⟩)
      | (go_at_call 38; refine Ki.mono ?_; clear Ki; rintro e w2 ⟨rfl, I2, h2, b2⟩))
    go_ret2
    exact ⟨rfl, I2, h2, b2⟩
/-- It is made. -/
theorem mk_new (h : StI w S M I) (l a b : Nat) (f : M.Fits (l, a, b)) (no : ∀ k ∈ M.hs, M.nd k ≠ (l, a, b)) (room : M.hs.length < M.room) :
    Calls Try.prog 13 #[.pointer (some ⟨S, 0, none⟩), .int .i64 (l : Int), .int .u32 (a : Int), .int .u32 (b : Int)] w fun e w' => e = .returned (.tuple #[.int .u32 ((M.hs.length : Int) + 2), .int .i64 0]) ∧ ∃ I', StI w' S (M.addAt (l, a, b)) I' ∧ Wf (Fp S I) (Fp S I') w w' := by
  have o := h.pu.ok
  have hl := f.lv
  have na := f.lo.1
  have nb := f.hi.1
  have la := f.lo.2
  have lb := f.hi.2
  have hab := f.ne
  simp only at hl na nb la lb hab
  have K := vars_any h
  have h1 : ¬ (l : Int) < 0 := by omega
  have h2 : ¬ (M.n : Int) ≤ (l : Int) := by omega
  have h3 : ¬ M.n ≤ l := by omega
  have ha := Mdl.isNode_lt o na
  have hb := Mdl.isNode_lt o nb
  have hl8 := o.le8
  have Ka := is_any h a (by omega)
  have Kb := is_any h b (by omega)
  have La := level_any h a (by omega)
  have Lb := level_any h b (by omega)
  rw [Mdl.levI_node na] at La
  rw [Mdl.levI_node nb] at Lb
  rw [decide_eq_true na] at Ka
  rw [decide_eq_true nb] at Kb
  have Kn := bnode_any (l : Int) (a : Int) (b : Int) w (by omega) (by omega) (by omega)
  have Ki := inner_new h f no room
  change Calls _ _ #[_, .int .u64 (nodeZ (l : Int) (a : Int) (b : Int))] _ _ at Ki
  have hwl : IntKind.u8.wrap (l : Int) = (l : Int) := by rw [IntKind.wrap_u8]; omega
  have hne : ¬ (a : Int) = (b : Int) := by omega
  have hne' : ((a : Int) == (b : Int)) = false := by simpa using hne
  clear na nb hab
  generalize M.lev a = p at La la
  generalize M.lev b = q at Lb lb
  by_cases hqp : q < p
  · have e1 : (q : Int) < (p : Int) := by omega
    have e2 : ¬ q ≤ l := by omega
    have e3 : ¬ (q : Int) ≤ (l : Int) := by omega
    clear la lb hl hqp
    go_enter Try.func13, Try.ntmps13
    go_wp2_with (first
      | (go_at_call 10; refine K.mono ?_; clear K; rintro e w ⟨rfl, rfl⟩)
      | (go_at_call 27; refine Ka.mono ?_; clear Ka; rintro e w ⟨rfl, rfl⟩)
      | (go_at_call 27; refine Kb.mono ?_; clear Kb; rintro e w ⟨rfl, rfl⟩)
      | (go_at_call 15; refine La.mono ?_; clear La; rintro e w ⟨rfl, rfl⟩)
      | (go_at_call 15; refine Lb.mono ?_; clear Lb; rintro e w ⟨rfl, rfl⟩)
      | (go_at_call 39; refine Kn.mono ?_; clear Kn; rintro e w ⟨rfl, rfl⟩)
      | (go_at_call 38; refine Ki.mono ?_; clear Ki; rintro e w2 ⟨rfl, I2, h2, b2⟩))
    go_ret2
    exact ⟨rfl, I2, h2, b2⟩
  · have e1 : ¬ (q : Int) < (p : Int) := by omega
    have e2 : ¬ p ≤ l := by omega
    have e3 : ¬ (p : Int) ≤ (l : Int) := by omega
    clear la lb hl hqp
    go_enter Try.func13, Try.ntmps13
    go_wp2_with (first
      | (go_at_call 10; refine K.mono ?_; clear K; rintro e w ⟨rfl, rfl⟩)
      | (go_at_call 27; refine Ka.mono ?_; clear Ka; rintro e w ⟨rfl, rfl⟩)
      | (go_at_call 27; refine Kb.mono ?_; clear Kb; rintro e w ⟨rfl, rfl⟩)
      | (go_at_call 15; refine La.mono ?_; clear La; rintro e w ⟨rfl, rfl⟩)
      | (go_at_call 15; refine Lb.mono ?_; clear Lb; rintro e w ⟨rfl, rfl⟩)
      | (go_at_call 39; refine Kn.mono ?_; clear Kn; rintro e w ⟨rfl, rfl⟩)
      | (go_at_call 38; refine Ki.mono ?_; clear Ki; rintro e w2 ⟨rfl, I2, h2, b2⟩))
    go_ret2
    exact ⟨rfl, I2, h2, b2⟩
end
end Go.Proofs.Ytdmfbfbebcneeaa
