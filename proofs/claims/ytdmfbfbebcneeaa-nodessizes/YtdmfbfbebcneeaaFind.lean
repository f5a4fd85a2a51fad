/-
  A node's word is looked for in a store's table, and laid there if there is room.
-/
import Derived.Test.YtdmfbfbebcneeaaKeep
import Derived.Deep.QuietTactic
import Derived.BigQuiet
namespace Go.Proofs.Ytdmfbfbebcneeaa
open Go Go.RowKit

/-- The store with a node more, at the next handle. -/
def Mdl.addAt (M : Mdl) (d : Nd) : Mdl := ⟨M.n, M.v, M.room, M.hs ++ [M.hs.length + 2], fun x => if x = M.hs.length + 2 then d else M.nd x⟩
def Ins.grown (I : Ins) (L : Nat) (k : Int) (s g cap' : Nat) (c' : Nat → Int) : Ins := ⟨I.P, I.R, I.mp, some ⟨g, 0, none⟩, cap', I.lines, c', fun i => if i = L then k else I.wd i, at1 I.nm (s : Int) (some ((L : Int) + 2)), I.l, I.on⟩

section
variable {w w' : World} {S : Nat} {M : Mdl} {I : Ins} {d : Nd}
theorem Pu.adds (p : Pu M I) : M.Adds (M.hs.length + 2) d (M.addAt d) :=
  ⟨rfl, rfl, rfl, fun e => by have := (p.mem_iff.1 e).2; omega, fun k => by simp [Mdl.addAt, or_comm], by simp [Mdl.addAt], fun _ => rfl⟩
/-- A word of the store is a node's. -/
theorem Pu.word_of (p : Pu M I) (f : M.Fits d) {i : Nat} (hi : i < M.hs.length) (e : ndZ d = I.wd i) : M.nd (i + 2) = d := by
  have hm : i + 2 ∈ M.hs := p.mem_iff.2 (by omega)
  rw [p.wd i hi] at e
  obtain ⟨e1, e2, e3⟩ := nodeZ_inj (Mdl.isNode_lt p.ok f.lo.1) (Mdl.isNode_lt p.ok f.hi.1) (Mdl.isNode_lt p.ok (p.ok.lo _ hm).1) (Mdl.isNode_lt p.ok (p.ok.hi _ hm).1) e
  exact (Prod.ext e1 (Prod.ext e2 e3)).symm
theorem Pu.fits_word (p : Pu M I) (f : M.Fits d) : 0 < ndZ d ∧ ndZ d ≤ 18446744073709551615 :=
  ⟨nodeZ_pos (Mdl.isNode_lt p.ok f.lo.1) (Mdl.isNode_lt p.ok f.hi.1) f.ne, (nodeZ_bd _ _ _ (by have := f.lv; have := p.ok.le8; omega)).2⟩
theorem Pu.no_slot (p : Pu M I) (f : M.Fits d) (no : ∀ k ∈ M.hs, M.nd k ≠ d) : ∀ s, s < 2 * M.room → ¬ I.c s = ndZ d := fun s hs e => by
  have h0 : ¬ I.c s = 0 := by have := (p.fits_word f).1; omega
  obtain ⟨i, hi, e1, _⟩ := p.tab s hs h0
  exact no (i + 2) (p.mem_iff.2 (by omega)) (p.word_of f hi (e.symm.trans e1))
/-- The store with a node more holds what a store must. -/
theorem Pu.add (p : Pu M I) (f : M.Fits d) (no : ∀ k ∈ M.hs, M.nd k ≠ d) (room : M.hs.length < M.room) {s : Nat} (hs : s < 2 * M.room) (h0 : I.c s = 0) {c' : Nat → Int} (hc : ∀ j, j < 2 * M.room → c' j = upd I.c s (ndZ d) j) (hh : ∀ j, 2 * M.room ≤ j → c' j = I.c j) (fit : Ch.U64 c') (good : Tb.Good (2 * M.room) c') (g cap' : Nat) : Pu (M.addAt d) (I.grown M.hs.length (ndZ d) s g cap' c') := by
  have k0 := (p.fits_word f).1
  have len : (M.addAt d).hs.length = M.hs.length + 1 := by simp [Mdl.addAt]
  have hln := p.len
  have r2 := p.room2
  have hhs : (M.addAt d).hs = List.range' 2 (M.addAt d).hs.length := by
    rw [len, List.range'_concat]
    show M.hs ++ [M.hs.length + 2] = _
    rw [← p.hs]
    simp [Nat.add_comm]
  have so : (M.addAt d).hs.Pairwise (· < ·) := by
    show (M.hs ++ [M.hs.length + 2]).Pairwise (· < ·)
    rw [List.pairwise_append]
    refine ⟨p.ok.sorted, by simp, fun a ha b hb => ?_⟩
    have := (p.mem_iff.1 ha).2
    simp at hb
    omega
  have wdo : ∀ i, i < M.hs.length → (I.grown M.hs.length (ndZ d) s g cap' c').wd i = I.wd i := fun i hi => if_neg (by omega)
  have cs : ∀ j, j < 2 * M.room → j ≠ s → c' j = I.c j := fun j hj e => by rw [hc j hj, Tb.upd_other _ _ e]
  have css : c' s = ndZ d := by rw [hc s hs, Tb.upd_same]
  refine ⟨p.ok.adds p.adds f no (by omega) room so, p.room1, p.room2, p.lines1, p.lines2, hhs, fun i hi => ?_, fit, good, fun j hj e => ?_, fun i hi => ?_, ?_, fun key q0 q1 hk => ?_⟩
  · rw [len] at hi
    show (if i = M.hs.length then ndZ d else I.wd i) = ndZ (if i + 2 = M.hs.length + 2 then d else M.nd (i + 2))
    by_cases e : i = M.hs.length
    · rw [if_pos e, if_pos (by omega)]
    · rw [if_neg e, if_neg (by omega), p.wd i (by omega)]
  · rw [len]
    change ¬ c' j = 0 at e
    by_cases ej : j = s
    · exact ⟨M.hs.length, by omega, by rw [ej]; show c' s = if _ then _ else _; rw [css, if_pos rfl], by rw [ej]; show at1 I.nm _ _ _ = _; unfold at1; rw [if_pos rfl]⟩
    · rw [cs j hj ej] at e
      obtain ⟨i, hi, e1, e2⟩ := p.tab j hj e
      exact ⟨i, by omega, by show c' j = _; rw [cs j hj ej, e1, wdo i hi], by show at1 I.nm _ _ _ = _; unfold at1; rw [if_neg (by omega), e2]⟩
  · rw [len] at hi
    by_cases e : i = M.hs.length
    · exact ⟨s, hs, by show c' s = if _ then _ else _; rw [css, if_pos e]⟩
    · obtain ⟨j, hj, e1⟩ := p.all i (by omega)
      have hjs : j ≠ s := fun q => by
        have := (p.word (show i < M.hs.length by omega)).2.1
        rw [q, h0] at e1
        omega
      exact ⟨j, hj, by show c' j = _; rw [cs j hj hjs, e1, wdo i (by omega)]⟩
  · rw [len, ← p.cnt]
    show Tb.cnt c' (2 * M.room) = _
    rw [Tb.cnt_congr _ hc, Tb.cnt_upd _ hs h0 (by omega)]
  · have low := line_low (2 * M.room) I.lines key
    change Ch.Hits c' (Ch.line (2 * M.room) I.lines key) key at hk
    rw [Ch.hits_congr (fun j h1 _ => hh j (by omega))] at hk
    obtain ⟨i, hi, e1, e2⟩ := p.cch key q0 q1 hk
    refine ⟨i, by omega, by rw [wdo i hi, e1], ?_⟩
    show Ch.jn (Ch.lo (c' (Ch.line (2 * M.room) I.lines key + 2))) (Ch.lo (c' (Ch.line (2 * M.room) I.lines key + 3))) = _
    rw [hh _ (by omega), hh _ (by omega), e2]

/-- A word that is there, in a full store. -/
theorem find_full_there (h : StI w S M I) (f : M.Fits d) (i : Nat) (hi : i < M.hs.length) (e : M.nd (i + 2) = d) (full : M.hs.length = M.room) :
    Calls Try.prog 50 #[.pointer (some ⟨S, 0, none⟩), .int .u64 (ndZ d)] w fun e w' => e = .returned (.tuple #[.int .u32 ((i : Int) + 2), .int .i64 0]) ∧ StI w' S M I ∧ Wf (Fp S I) (Fp S I) w w' := by
  obtain ⟨k0, k1⟩ := h.pu.fits_word f
  have hwd : I.wd i = ndZ d := by rw [h.pu.wd i hi, e]
  have cS : ∀ q, (w.drewN q).cell? ⟨S, 17, none⟩ = some (.int .i64 (M.room : Int)) := fun q => (h.drewN q).c17
  have KL : ∀ q, Calls Try.prog 18 #[.pointer (some ⟨S, 0, none⟩)] (w.drewN q) fun e w' => e = .returned (.int .i64 (M.room : Int)) ∧ w' = w.drewN q := fun q => by
    have := slen_any (h.drewN q)
    rwa [full] at this
  have hp := h.pu
  have c17 := h.c17
  have hS := h
  have hT : Aside (∀ (y : Int) (ok : Bool), Tb.Told (2 * M.room) I.c (ndZ d) y ok → ok = true ∧ I.nm y = some ((i : Int) + 2)) := fun y ok t => by
    obtain ⟨s0, hs0, e0⟩ := hp.all i hi
    rcases t with ⟨rfl, s, hs, rfl, es⟩ | ⟨_, _, no⟩
    · have := hp.good.one (k := ndZ d) (by omega) hs hs0 es (by rw [e0, hwd])
      subst this
      obtain ⟨j, hj, e1, e2⟩ := hp.tab s hs (by omega)
      have : j = i := by
        have := hp.word_of f hj (es.symm.trans e1)
        have := hp.ok.one (j + 2) (hp.mem_iff.2 (by omega)) (i + 2) (hp.mem_iff.2 (by omega)) (by rw [this, e])
        omega
      rw [this] at e2
      exact ⟨rfl, e2⟩
    · exact absurd (by rw [e0, hwd]) (no (by omega) s0 hs0)
  clear hwd e full
  go_enter Try.func50, Try.ntmps50
  go_wp2_with fail
  go_quiet ((go_at_call 18; exact Calls.quiet_of_same (KL _)))
  have hq := h.drewN nq
  have wq := (Wf.refl (Fp S I) w).drewN nq
  clear cS KL c17 h hS
  generalize w.drewN nq = w0 at hq wq ⊢
  obtain ⟨o, f0, ht⟩ := hq.tb
  have K1 := Tb.has_any ht I.c (fun i => by rw [Nat.zero_add]) (ndZ d) (by omega) k1 hp.good
  go_wp2_with (first
    | (go_at_call 61; refine K1.mono ?_; clear K1; rintro e w1 ⟨y, ok, rfl, told, ⟨o1, h1⟩, m1⟩; obtain ⟨rfl, hnm⟩ := hT.out y ok told; clear told; obtain ⟨s1, s2⟩ := hq.turn (c' := I.c) (Went.of_moved m1 (.inl rfl) (.inr (.inl rfl))) h1.mem hp; have c22 := s1.c22; have lk := map_at s1.map y; have hnm' : ((I.cells I.c).nm y).getD 0 = (i : Int) + 2 := by (show (I.nm y).getD 0 = _; rw [hnm]; rfl)))
  go_ret2
  exact ⟨rfl, s1, wq.trans s2⟩
/-- A word that isn't there, in a full store. -/
theorem find_full_no (h : StI w S M I) (f : M.Fits d) (no : ∀ k ∈ M.hs, M.nd k ≠ d) (full : M.hs.length = M.room) :
    Calls Try.prog 50 #[.pointer (some ⟨S, 0, none⟩), .int .u64 (ndZ d)] w fun e w' => e = .returned (.tuple #[.int .u32 0, .int .i64 60]) ∧ StI w' S M I ∧ Wf (Fp S I) (Fp S I) w w' := by
  obtain ⟨k0, k1⟩ := h.pu.fits_word f
  have cS : ∀ q, (w.drewN q).cell? ⟨S, 17, none⟩ = some (.int .i64 (M.room : Int)) := fun q => (h.drewN q).c17
  have KL : ∀ q, Calls Try.prog 18 #[.pointer (some ⟨S, 0, none⟩)] (w.drewN q) fun e w' => e = .returned (.int .i64 (M.room : Int)) ∧ w' = w.drewN q := fun q => by
    have := slen_any (h.drewN q)
    rwa [full] at this
  have hp := h.pu
  have c17 := h.c17
  have hT : Aside (∀ (y : Int) (ok : Bool), Tb.Told (2 * M.room) I.c (ndZ d) y ok → ok = false) := fun y ok t => by
    rcases t with ⟨rfl, s, hs, rfl, es⟩ | ⟨e, _, _⟩
    · exact absurd es (hp.no_slot f no s hs)
    · exact e
  clear full no
  go_enter Try.func50, Try.ntmps50
  go_wp2_with fail
  go_quiet ((go_at_call 18; exact Calls.quiet_of_same (KL _)))
  have hq := h.drewN nq
  have wq := (Wf.refl (Fp S I) w).drewN nq
  clear cS KL c17 h
  generalize w.drewN nq = w0 at hq wq ⊢
  obtain ⟨o, f0, ht⟩ := hq.tb
  have K1 := Tb.has_any ht I.c (fun i => by rw [Nat.zero_add]) (ndZ d) (by omega) k1 hp.good
  go_wp2_with (first
    | (go_at_call 61; refine K1.mono ?_; clear K1; rintro e w1 ⟨y, ok, rfl, told, ⟨o1, h1⟩, m1⟩; obtain rfl := hT.out y ok told; clear told; obtain ⟨s1, s2⟩ := hq.turn (c' := I.c) (Went.of_moved m1 (.inl rfl) (.inr (.inl rfl))) h1.mem hp))
  go_ret2
  exact ⟨rfl, s1, wq.trans s2⟩
/-- A word that is there, where there is room. -/
theorem find_there (h : StI w S M I) (f : M.Fits d) (i : Nat) (hi : i < M.hs.length) (e : M.nd (i + 2) = d) (full : ¬ M.hs.length = M.room) :
    Calls Try.prog 50 #[.pointer (some ⟨S, 0, none⟩), .int .u64 (ndZ d)] w fun e w' => e = .returned (.tuple #[.int .u32 ((i : Int) + 2), .int .i64 0]) ∧ StI w' S M I ∧ Wf (Fp S I) (Fp S I) w w' := by
  obtain ⟨k0, k1⟩ := h.pu.fits_word f
  have hwd : I.wd i = ndZ d := by rw [h.pu.wd i hi, e]
  have hne : ¬ (M.hs.length : Int) = (M.room : Int) := by omega
  have hne' : ((M.hs.length : Int) == (M.room : Int)) = false := by simpa using hne
  have cS : ∀ q, (w.drewN q).cell? ⟨S, 17, none⟩ = some (.int .i64 (M.room : Int)) := fun q => (h.drewN q).c17
  have KL : ∀ q, Calls Try.prog 18 #[.pointer (some ⟨S, 0, none⟩)] (w.drewN q) fun e w' => e = .returned (.int .i64 (M.hs.length : Int)) ∧ w' = w.drewN q := fun q => slen_any (h.drewN q)
  have hp := h.pu
  have c17 := h.c17
  have hT : Aside (∀ (t : Nat → Int) (X : Tb.Fd), X.st = 0 → X.key = ndZ d → Tb.FI (2 * M.room) t X → Tb.Good (2 * M.room) t → Tb.Solo (2 * M.room) I.c t X → X.tells = ((X.slot : Int), 0) ∧ X.made = false ∧ t = I.c ∧ I.nm (X.slot : Int) = some ((i : Int) + 2)) := fun t X x0 xk fi gd so => by
    obtain ⟨s0, hs0, e0⟩ := hp.all i hi
    obtain ⟨e1, e2, e3⟩ := so.there fi gd x0 hs0 (by rw [e0, hwd, xk])
    subst e3
    obtain ⟨_, xl, xs⟩ := fi.found e1
    have hsl := fi.slot_lt (by have := hp.room1; omega) xl
    obtain ⟨j, hj, q1, q2⟩ := hp.tab X.slot hsl (by rw [xs, xk]; omega)
    have : j = i := by
      have := hp.word_of f hj (by rw [← q1, xs, xk])
      have := hp.ok.one (j + 2) (hp.mem_iff.2 (by omega)) (i + 2) (hp.mem_iff.2 (by omega)) (by rw [this, e])
      omega
    rw [this] at q2
    exact ⟨by unfold Tb.Fd.tells; rw [if_pos e1], e2, rfl, q2⟩
  have hmf : ∀ (fn : Fn) (first cap : Array Value) (w : World), (Instr.makeFunc fn first cap).run Try.prog w = .ok (.func fn first cap) w := fun _ _ _ _ => rfl
  clear hwd e full
  go_enter Try.func50, Try.ntmps50
  go_wp2_with fail
  go_quiet ((go_at_call 18; exact Calls.quiet_of_same (KL _)))
  have hq := h.drewN nq
  have wq := (Wf.refl (Fp S I) w).drewN nq
  clear cS KL c17 h
  generalize w.drewN nq = w0 at hq wq ⊢
  obtain ⟨o, f0, ht⟩ := hq.tb
  have K1 := Tb.find_any ht (ndZ d) (by omega) k1
  generalize hH : w0.heap.size = A at K1
  have hH' : Aside (w0.heap.size = A) := hH
  clear hH
  go_wp2_with (first
    | (go_at_call 62; refine K1.mono ?_; clear K1; rintro e w1 ⟨rfl, a1, b1, s1⟩; rw [← hH'.out] at b1; have ht1 := ht.below b1; have K2 := drive_find (t0 := I.c) (t := I.c) ht1 a1 (fun i => by rw [Nat.zero_add]) (Tb.FI.start ht.pos I.c (by omega)) hp.good (Tb.Solo.start _ _ _))
    | (go_at_call 58; refine K2.mono ?_; clear K2; rintro e w2 ⟨rfl, c2, o2, f2, t2, X, ht2, ct2, _, a2, x0, xk, fi, gd, so, b2⟩; obtain ⟨q1, q2, q3, q4⟩ := hT.out t2 X x0 xk fi gd so; clear x0 xk fi gd so; have K3 := Tb.slot_any a2; rw [q1] at K3; have K4 := Tb.made_any a2; rw [q2] at K4; clear q1 q2)
    | (go_at_call 64; refine K3.mono ?_; clear K3; rintro e w2 ⟨rfl, rfl⟩)
    | (go_at_call 65; refine K4.mono ?_; clear K4; rintro e w2 ⟨rfl, rfl⟩; have g : Went (fun k => k = I.P ∨ k = I.R ∨ w0.heap.size ≤ k) w0 w2 := ⟨b2.os.trans b1.os, b2.tape.trans b1.tape, b2.output.trans b1.output, Nat.le_trans b1.size b2.size, fun j hj hn => (b2.block j (Nat.lt_of_lt_of_le hj b1.size) fun e => hn (by rcases e with e | e | e; exact .inl e; exact .inr (.inl e); have := hH'.out; exact .inr (.inr (by omega)))).trans (b1.block j hj)⟩; obtain rfl : c2 = I.c := (by (funext j; have := ct2 j; rw [Nat.zero_add] at this; rw [this, q3])); obtain ⟨s1, s2⟩ := hq.turn (c' := I.c) g ht2.mem hp; clear q3 ct2; have c22 := s1.c22; have lk := map_at s1.map (X.slot : Int); have hnm' : ((I.cells I.c).nm (X.slot : Int)).getD 0 = (i : Int) + 2 := (by (show (I.nm _).getD 0 = _; rw [q4]; rfl))))
  go_ret2
  exact ⟨rfl, s1, wq.trans s2⟩
/-- A word that isn't there, where there is room. -/
theorem find_new (h : StI w S M I) (f : M.Fits d) (no : ∀ k ∈ M.hs, M.nd k ≠ d) (full : M.hs.length < M.room) :
    Calls Try.prog 50 #[.pointer (some ⟨S, 0, none⟩), .int .u64 (ndZ d)] w fun e w' => e = .returned (.tuple #[.int .u32 ((M.hs.length : Int) + 2), .int .i64 0]) ∧ ∃ I', I'.wd M.hs.length = ndZ d ∧ StI w' S (M.addAt d) I' ∧ Wf (Fp S I) (Fp S I') w w' := by
  obtain ⟨k0, k1⟩ := h.pu.fits_word f
  have hne : ¬ (M.hs.length : Int) = (M.room : Int) := by omega
  have hne' : ((M.hs.length : Int) == (M.room : Int)) = false := by simpa using hne
  have cS : ∀ q, (w.drewN q).cell? ⟨S, 17, none⟩ = some (.int .i64 (M.room : Int)) := fun q => (h.drewN q).c17
  have KL : ∀ q, Calls Try.prog 18 #[.pointer (some ⟨S, 0, none⟩)] (w.drewN q) fun e w' => e = .returned (.int .i64 (M.hs.length : Int)) ∧ w' = w.drewN q := fun q => slen_any (h.drewN q)
  have hp := h.pu
  have c17 := h.c17
  have hln := hp.len
  have hr2 := hp.room2
  have hT : Aside (∀ (t : Nat → Int) (X : Tb.Fd), X.st = 0 → X.key = ndZ d → Tb.FI (2 * M.room) t X → Tb.Solo (2 * M.room) I.c t X → X.tells = ((X.slot : Int), 0) ∧ X.made = true ∧ X.slot < 2 * M.room ∧ I.c X.slot = 0 ∧ t = upd I.c X.slot (ndZ d)) := fun t X x0 xk fi so => by
    obtain ⟨e1, e2, e3, e4, e5⟩ := so.room fi (by have := hp.room1; omega) x0 (by rw [xk]; exact hp.no_slot f no) (by rw [hp.cnt]; omega)
    rw [xk] at e5
    exact ⟨by unfold Tb.Fd.tells; rw [if_pos e1], e2, e3, e4, e5⟩
  have hmf : ∀ (fn : Fn) (first cap : Array Value) (w : World), (Instr.makeFunc fn first cap).run Try.prog w = .ok (.func fn first cap) w := fun _ _ _ _ => rfl
  have hno : Aside (∀ k ∈ M.hs, M.nd k ≠ d) := no
  clear no
  go_enter Try.func50, Try.ntmps50
  go_wp2_with fail
  go_quiet ((go_at_call 18; exact Calls.quiet_of_same (KL _)))
  have hq := h.drewN nq
  have wq := (Wf.refl (Fp S I) w).drewN nq
  clear cS KL c17 h
  generalize w.drewN nq = w0 at hq wq ⊢
  obtain ⟨o, f0, ht⟩ := hq.tb
  have K1 := Tb.find_any ht (ndZ d) (by omega) k1
  generalize hH : w0.heap.size = A at K1
  have hH' : Aside (w0.heap.size = A) := hH
  clear hH
  obtain ⟨p1, p2, p3, p4, p5, p6, p7, p8, p9⟩ := hq.apart
  go_wp2_with (first
    | (go_at_call 62; refine K1.mono ?_; clear K1; rintro e w1 ⟨rfl, a1, b1, s1⟩; rw [← hH'.out] at b1; have ht1 := ht.below b1; have K2 := drive_find (t0 := I.c) (t := I.c) ht1 a1 (fun i => by rw [Nat.zero_add]) (Tb.FI.start ht.pos I.c (by omega)) hp.good (Tb.Solo.start _ _ _))
    | (go_at_call 58; refine K2.mono ?_; clear K2; rintro e w2 ⟨rfl, c2, o2, f2, t2, X, ht2, ct2, cb2, a2, x0, xk, fi, gd, so, b2⟩; obtain ⟨q1, q2, q3, q4, q5⟩ := hT.out t2 X x0 xk fi so; clear x0 xk fi so; have K3 := Tb.slot_any a2; rw [q1] at K3; have K4 := Tb.made_any a2; rw [q2] at K4; clear q1 q2)
    | (go_at_call 64; refine K3.mono ?_; clear K3; rintro e w2 ⟨rfl, rfl⟩)
    | (go_at_call 65; refine K4.mono ?_; clear K4; rintro e w2 ⟨rfl, rfl⟩; have g : Went (fun k => k = I.P ∨ k = I.R ∨ w0.heap.size ≤ k) w0 w2 := ⟨b2.os.trans b1.os, b2.tape.trans b1.tape, b2.output.trans b1.output, Nat.le_trans b1.size b2.size, fun j hj hn => (b2.block j (Nat.lt_of_lt_of_le hj b1.size) fun e => hn (by rcases e with e | e | e; exact .inl e; exact .inr (.inl e); have := hH'.out; exact .inr (.inr (by omega)))).trans (b1.block j hj)⟩; have kp : Aside (∀ b, b < w0.heap.size → b ≠ I.P → b ≠ I.R → w2.heap[b]? = w0.heap[b]?) := (fun b hb h1 h2 => g.block b hb fun e => by rcases e with e | e | e <;> omega); have blk2 := hq.blk.of_block (kp.out S hq.ltS p1 p2); have own2 := hq.own.kept (w' := w2) fun b hb => kp.out b (hq.own.block b hb).2 (fun e => p7 (e ▸ hb)) (fun e => p8 (e ▸ hb)); have map2 := hq.map.same (kp.out I.mp hq.map.lt p4 p5); have K5 := name_any blk2 own2 map2 X.slot (ndZ d) hln)
    | (go_at_call 66; refine K5.mono ?_; clear K5; rintro e w3 ⟨rfl, g3, cap3, blk3, own3, map3, wt3, at3⟩; have c22 : w3.cell? ⟨S, 22, none⟩ = some (.map (some I.mp)) := blk3.cell (i := 22) (by omega); have lk := map_at map3 (X.slot : Int); have hnm' : (at1 I.nm (X.slot : Int) (some ((M.hs.length : Int) + 2)) (X.slot : Int)).getD 0 = (M.hs.length : Int) + 2 := (by unfold at1; rw [if_pos rfl]; rfl)))
  go_ret2
  have ec : ∀ j, c2 j = upd I.c X.slot (ndZ d) j := fun j => by rw [← q5, ← ct2 j, Nat.zero_add]
  have hfit : Ch.U64 c2 := fun j => by
    rw [ec j]
    unfold upd
    split
    · omega
    · exact hp.fit j
  have t2c : t2 = c2 := by funext j; rw [q5, ec j]
  rw [t2c] at gd
  have hpu := hp.add f hno.out full q3 q4 (fun j _ => ec j) (fun j hj => cb2 j (.inr (by omega))) hfit gd g3 cap3
  refine ⟨rfl, I.grown M.hs.length (ndZ d) X.slot g3 cap3 c2, if_pos rfl, ⟨?_, ?_, ?_, map3, hpu⟩, ?_⟩
  · have e : (M.addAt d).hs.length = M.hs.length + 1 := by simp [Mdl.addAt]
    rw [e]
    exact blk3
  · refine ⟨o2, f2, ht2.mem.of_blocks (wt3.block _ ht2.mem.ltP ?_) (wt3.block _ ht2.mem.ltR ?_)⟩
    · rintro (e | e | e)
      · exact p1 e.symm
      · exact p4 e.symm
      · exact p7 e
    · rintro (e | e | e)
      · exact p2 e.symm
      · exact p5 e.symm
      · exact p8 e
  · have e : (M.addAt d).hs.length = M.hs.length + 1 := by simp [Mdl.addAt]
    rw [e]
    exact own3
  · refine wq.trans ⟨wt3.os.trans g.os, wt3.tape.trans g.tape, wt3.output.trans g.output, Nat.le_trans g.size wt3.size, fun k hk hf => (wt3.block k (Nat.lt_of_lt_of_le hk g.size) ?_).trans (kp.out k hk (fun e => hf (.inr (.inl e))) fun e => hf (.inr (.inr (.inl e)))), fun k hk => ?_⟩
    · rintro (e | e | e)
      · exact hf (.inl e)
      · exact hf (.inr (.inr (.inr (.inl e))))
      · exact hf (.inr (.inr (.inr (.inr e))))
    · rcases hk with e | e | e | e | ⟨a, ha, e⟩
      · exact .inl (.inl e)
      · exact .inl (.inr (.inl e))
      · exact .inl (.inr (.inr (.inl e)))
      · exact .inl (.inr (.inr (.inr (.inl e))))
      · cases ha
        rw [← e]
        rcases at3 with at3 | at3
        · exact .inl (.inr (.inr (.inr (.inr at3))))
        · exact .inr (Nat.le_trans g.size at3)
end
end Go.Proofs.Ytdmfbfbebcneeaa
