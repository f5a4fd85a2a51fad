/-
  Package count over a store with known handles; two functions made in an empty store; the statements' own look.
-/
import Derived.Test.YtfaccdnnjkkcfaaGreatDoorCtL
import Derived.Test.YtfaccdnnjkkcfaaGreatDoorCtE
namespace Go.Proofs.YtfaccdnnjkkcfaaGreatDoor
open Go Go.RowKit
open Rf (tab word IsTab TabsAt fixF fixAt prt dedup IntsAt supUpto countUpto addN)

theorem Out.tab {w w' : World} (o : Out w w') {b : Nat} {F : Nat → Bool} (h : IsTab w b F) : IsTab w' b F := o b _ _ _ h (by decide)
theorem boxes2 (w : World) (F G : Nat → Bool) : IsTab ((w.alloc (.cells #[.int .u64 (word F 0 : Int), .int .u64 (word F 1 : Int), .int .u64 (word F 2 : Int), .int .u64 (word F 3 : Int)] 24)).alloc (.cells #[.int .u64 (word G 0 : Int), .int .u64 (word G 1 : Int), .int .u64 (word G 2 : Int), .int .u64 (word G 3 : Int)] 24)) w.heap.size F ∧ IsTab ((w.alloc (.cells #[.int .u64 (word F 0 : Int), .int .u64 (word F 1 : Int), .int .u64 (word F 2 : Int), .int .u64 (word F 3 : Int)] 24)).alloc (.cells #[.int .u64 (word G 0 : Int), .int .u64 (word G 1 : Int), .int .u64 (word G 2 : Int), .int .u64 (word G 3 : Int)] 24)) (w.heap.size + 1) G ∧ Below w.heap.size w ((w.alloc (.cells #[.int .u64 (word F 0 : Int), .int .u64 (word F 1 : Int), .int .u64 (word F 2 : Int), .int .u64 (word F 3 : Int)] 24)).alloc (.cells #[.int .u64 (word G 0 : Int), .int .u64 (word G 1 : Int), .int .u64 (word G 2 : Int), .int .u64 (word G 3 : Int)] 24)) :=
  ⟨(IsTab.new w F).alloc _, IsTab.newAt (by simp) G, ((Below.refl _ w).alloc (Nat.le_refl _) _).alloc (by simp) _⟩
section
variable {W w : World} {S n r b x : Nat} {l : Kl} {X : Nat → Bool}
theorem count_x (h : Sx W w S n r l b) (hx : (x, X) ∈ l) :
    Calls Tryz.prog 26 #[.pointer (some ⟨S, 0, none⟩), .int .u32 (x : Int)] w fun e w' => e = .returned (.tuple #[.int .u64 (countUpto X (2 ^ n) : Int), .int .i64 0]) ∧ Below w.heap.size w w' := by
  obtain ⟨F, M, s, e1, e2, e3, q, B, f⟩ := h
  obtain ⟨nx, ex⟩ := q _ hx
  have := count_op s nx
  have l8 : 2 ^ M.n ≤ 256 := Nat.pow_le_pow_right (n := 2) (j := 8) (by omega) s.ok.le8
  unfold tCnt at this
  rwa [cnt_congr (G := X) _ fun y hy => ex y (by omega), e1] at this
theorem count_badx (h : Sx W w S n r l b) (hb : x < 4294967296) (no : 2 + r ≤ x) :
    Calls Tryz.prog 26 #[.pointer (some ⟨S, 0, none⟩), .int .u32 (x : Int)] w fun e w' => e = .returned (.tuple #[.int .u64 0, .int .i64 101]) ∧ w' = w := by
  obtain ⟨F, M, s, e1, e2, e3, q, B, f⟩ := h
  exact count_bad s hb fun h => by have := s.nodes h; omega
end

/-! ## Two functions in an empty store -/
structure TwoIs (M : Mdl) (F G : Nat → Bool) (x y : Nat) : Prop where
  nx : M.isNode x
  tx : Eqt (M.tbl x) F
  ny : M.isNode y
  ty : Eqt (M.tbl y) G
  dF : Dep M 0 F
  dG : Dep M 0 G
  has : ∀ H, Has M H ↔ Prt M F H ∨ Prt M G H
theorem TwoIs.made {M0 M1 M2 : Mdl} {x y : Nat} {F G : Nat → Bool} (o1 : M1.Ok) (e0 : M0.hs = []) (m1 : MadeIs M0 0 F x M1) (m2 : MadeIs M1 0 G y M2) (dF : Dep M2 0 F) (dG : Dep M2 0 G) : TwoIs M2 F G x y := by
  refine ⟨m2.grew.isNode m1.node, fun z hz => by rw [m2.grew.tbl o1 m1.node]; exact m1.tbl z hz, m2.node, m2.tbl, dF, dG, fun H => ?_⟩
  unfold Prt
  rw [m2.subs H, m1.subs H, m2.grew.v, m2.grew.n, m1.grew.v, m1.grew.n]
  constructor
  · rintro ((⟨z, hz, _⟩ | q) | q)
    · rw [e0] at hz; cases hz
    · exact .inl q
    · exact .inr q
  · rintro (q | q)
    · exact .inl (.inr q)
    · exact .inr q
section
variable {M : Mdl} {F G : Nat → Bool} {x y : Nat}
/-- All nodes are reached from both. -/
theorem TwoIs.all (t : TwoIs M F G x y) (o : M.Ok) {H : Nat → Nat} {n : Nat} {ks : List Nat} (r : Rch M H n ks) (hx : ∃ i, i < n ∧ H i = x) (hy : ∃ i, i < n ∧ H i = y) (k : Nat) : k ∈ ks ↔ k ∈ M.hs := by
  refine ⟨r.inn k, fun hk => ?_⟩
  obtain ⟨i, hi, rfl⟩ := hx
  obtain ⟨j, hj, rfl⟩ := hy
  rcases (t.has (M.tbl k)).1 ⟨k, hk, Eqt.refl _⟩ with p | p
  · exact r.closed.prt o hk _ t.nx (Nat.le_refl _) (r.top i hi) ((Prt.like o (tbl_dep o t.nx (Nat.zero_le _)) t.tx).2 p)
  · exact r.closed.prt o hk _ t.ny (Nat.le_refl _) (r.top j hj) ((Prt.like o (tbl_dep o t.ny (Nat.zero_le _)) t.ty).2 p)
theorem TwoIs.len (t : TwoIs M F G x y) (o : M.Ok) {H : Nat → Nat} {n : Nat} {ks : List Nat} (r : Rch M H n ks) (h : ks.Nodup) (hx : ∃ i, i < n ∧ H i = x) (hy : ∃ i, i < n ∧ H i = y) : ks.length = M.hs.length :=
  ((List.perm_ext_iff_of_nodup h o.nodup).2 (t.all o r hx hy)).length_eq
theorem TwoIs.lev (t : TwoIs M F G x y) (o : M.Ok) {H : Nat → Nat} {n : Nat} {ks : List Nat} (r : Rch M H n ks) (h : ks.Nodup) (hx : ∃ i, i < n ∧ H i = x) (hy : ∃ i, i < n ∧ H i = y) (i : Nat) : lvN M ks i = lvN M M.hs i :=
  lvN_perm h o.nodup (t.all o r hx hy) i
theorem TwoIs.subs (t : TwoIs M F G x y) (o : M.Ok) (T : Nat → Nat → Bool) (hT : T 0 = F) (hT1 : T 1 = G) : (∀ H, Has M H ↔ ∃ F' ∈ dedup T 2, Subs M.v M.n 0 F' H) ∧ ∀ F' ∈ dedup T 2, Dep M 0 F' := by
  have ed : dedup T 2 = addN [F] G := by
    show addN (dedup T 1) (T 1) = _
    rw [dedup_one, hT, hT1]
  rw [ed]
  cases q : Rf.hasUpto (fun i => [F].getD i fun _ => false) G [F].length with
  | true =>
    rw [Rf.addN_skip q]
    obtain ⟨F', h1, h2⟩ := (has_iff [F] G).1 q
    rw [List.mem_singleton] at h1
    subst h1
    refine ⟨fun H => ?_, fun H hH => by rw [List.mem_singleton] at hH; subst hH; exact t.dF⟩
    rw [t.has]
    constructor
    · rintro (s | s)
      · exact ⟨F', List.mem_singleton.2 rfl, s⟩
      · exact ⟨F', List.mem_singleton.2 rfl, subs_congr o t.dG t.dF h2.symm s⟩
    · rintro ⟨H', hH, s⟩
      rw [List.mem_singleton] at hH
      subst hH
      exact .inl s
  | false =>
    rw [Rf.addN_new q]
    refine ⟨fun H => ?_, fun H hH => ?_⟩
    · rw [t.has]
      constructor
      · rintro (s | s)
        · exact ⟨F, by simp, s⟩
        · exact ⟨G, by simp, s⟩
      · rintro ⟨H', hH, s⟩
        simp at hH
        rcases hH with rfl | rfl
        · exact .inl s
        · exact .inr s
    · simp at hH
      rcases hH with rfl | rfl
      · exact t.dF
      · exact t.dG
theorem TwoIs.parts (t : TwoIs M F G x y) (o : M.Ok) (T : Nat → Nat → Bool) (hT : T 0 = F) (hT1 : T 1 = G) : (prt (fun i => (M.v i : Int)) M.n (dedup T 2) (min M.n 8 + 1)).1.length = M.hs.length ∧ ∀ i, fsN M.v M.n (prt (fun i => (M.v i : Int)) M.n (dedup T 2) (min M.n 8 + 1)).1 i = lvN M M.hs i := by
  obtain ⟨h1, h2⟩ := t.subs o T hT hT1
  obtain ⟨h3, h4⟩ := parts_has o _ h1 h2
  exact ⟨parts_len o _ h1 h2, parts_levels o _ h3 h4⟩
end

/-! ## The statements' own look -/
theorem hs3 (w : World) (a c d : Nat) : HsAt (w.alloc (.cells #[.int .u32 (a : Int), .int .u32 (c : Int), .int .u32 (d : Int)] 35)) (some ⟨w.heap.size, 0, none⟩) 3 (fun i => if i = 0 then a else if i = 1 then c else d) :=
  HsAt.row (World.rowIs_alloc w _ _ _ fun i hi => by
    have : i = 0 ∨ i = 1 ∨ i = 2 := by simp at hi; omega
    rcases this with rfl | rfl | rfl <;> rfl)
theorem hs2 (w : World) (a c : Nat) : HsAt (w.alloc (.cells #[.int .u32 (a : Int), .int .u32 (c : Int)] 35)) (some ⟨w.heap.size, 0, none⟩) 2 (fun i => if i = 0 then a else c) :=
  HsAt.row (World.rowIs_alloc w _ _ _ fun i hi => by
    have : i = 0 ∨ i = 1 := by simp at hi; omega
    rcases this with rfl | rfl <;> rfl)
theorem hs1 (w : World) (a : Nat) : HsAt (w.alloc (.cells #[.int .u32 (a : Int)] 35)) (some ⟨w.heap.size, 0, none⟩) 1 (fun _ => a) :=
  HsAt.row (World.rowIs_alloc w _ _ _ fun i hi => by
    have : i = 0 := by simp at hi; omega
    rcases this with rfl; rfl)
/-- A variable alone in a store is all that is reached from it. -/
theorem var_alone {M M' : Mdl} {a i : Nat} (o : M.Ok) (o' : M'.Ok) (e0 : M.hs = []) (hi : i < M.n) (g : Got M 0 (Rf.M (M.v i)) a M') {H : Nat → Nat} {n : Nat} {ks : List Nat} (r : Rch M' H n ks) (nd : ks.Nodup) (ha : ∃ j, j < n ∧ H j = a) : ks.length = 1 := by
  obtain ⟨g0, g1⟩ := var_got o hi
  have only : ∀ k ∈ ks, k = a := fun k hk => by
    have hk' := r.inn k hk
    rcases (g.has (M'.tbl k)).1 ⟨k, hk', Eqt.refl _⟩ with ⟨z, hz, _⟩ | p
    · rw [e0] at hz; cases hz
    · have c : ∀ b, Cst (fixF (Rf.M (M.v i)) (M.v i) b) := fun b => by
        have e := var_fix (v8 o hi) b
        cases b with
        | false => exact .inl e.symm
        | true => exact .inr e.symm
      rcases (Prt.step o hi (var_dep hi)).1 p with ⟨e, _⟩ | p | p
      · exact (Mdl.one_iff o' (.inr hk') g.node).1 (e.symm.trans g.tbl.symm)
      · exact absurd p (Prt.not_cst o (((var_dep hi).fix o hi false).mono (Nat.zero_le _)) (c false))
      · exact absurd p (Prt.not_cst o (((var_dep hi).fix o hi true).mono (Nat.zero_le _)) (c true))
  obtain ⟨j, hj, rfl⟩ := ha
  have am : H j ∈ ks := (r.top j hj).resolve_left fun h2 => by
    have c := (tbl_cst (M := M') h2)
    have : Cst (Rf.M (M.v i)) := (cst_congr g.tbl).1 c
    have hv := v8 o hi
    have f0 := var_fix hv false 0 (by omega)
    have f1 := var_fix hv true 0 (by omega)
    have b0 := (fixAt_bits (show 0 < 256 by omega) hv false).1
    have b1 := (fixAt_bits (show 0 < 256 by omega) hv true).1
    have f0 : false = Rf.M (M.v i) (fixAt (M.v i) false 0) := f0
    have f1 : true = Rf.M (M.v i) (fixAt (M.v i) true 0) := f1
    rcases this with c | c
    · rw [c _ b1] at f1; cases f1
    · rw [c _ b0] at f0; cases f0
  match ks, nd, only, am with
  | [], _, _, am => cases am
  | [z], _, _, _ => rfl
  | z :: z' :: ks, nd, only, _ =>
    have e1 := only z (by simp)
    have e2 := only z' (by simp)
    rw [e1, e2] at nd
    simp at nd
theorem num_known : countUpto (Rf.M 1) 8 = 4 ∧ supUpto (Rf.M 1) 8 = 2 ∧ oneN (Rf.M 1) = 2 ∧ oneB (Rf.M 1) = true := by
  refine ⟨?_, ?_, ?_, ?_⟩ <;> kernel_rfl
end Go.Proofs.YtfaccdnnjkkcfaaGreatDoor
