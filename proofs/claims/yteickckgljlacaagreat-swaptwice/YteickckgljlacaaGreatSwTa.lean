/-
  Two levels exchanged twice, without a program.
-/
import Derived.Test.YteickckgljlacaaGreatSwW
import Derived.Test.YteickckgljlacaaGreatMkI
namespace Go.Proofs.YteickckgljlacaaGreat.Sw
open Go Go.RowKit
open Rf (fixAt fixF)

section
variable {M M1 M2 : Mdl} {k : Nat}
theorem swv_twice (v : Nat → Nat) (k : Nat) : swv (swv v k) k = v := funext fun i => by
  by_cases a : i = k
  · subst a; rw [swv_k, swv_k1]
  · by_cases b : i = k + 1
    · subst b; rw [swv_k1, swv_k]
    · rw [swv_far a b, swv_far a b]
/-- Behind one swap just old nodes lie on the upper level. -/
theorem plan_upper (o : M.Ok) (p : Plan M k M1) : atLev M1 k ≤ M.hs.length := by
  have o1 := p.ok o
  unfold atLev
  refine nodup_le _ _ (o1.nodup.filter _) fun x hx => ?_
  obtain ⟨h1, h2⟩ := List.mem_filter.1 hx
  rw [decide_eq_true_eq] at h2
  by_cases c : x ∈ M.hs
  · exact c
  · have := (p.new x h1 c).1
    omega
theorem indep_above (o : M.Ok) {x j : Nat} (hx : M.isNode x) (hj : j < M.lev x) (hn : j < M.n) : Indep (M.v j) (M.tbl x) := ((tbl_fix o hx hj hn false).trans (tbl_fix o hx hj hn true).symm)
/-- Exchanged twice each node is what it was. -/
theorem twice_grew (o : M.Ok) (p1 : Plan M k M1) (p2 : Plan M1 k M2) : Mdl.Grew M M2 := by
  have o1 := p1.ok o
  have o2 := p2.ok o1
  have kp := (p1.kept o).trans (p2.kept o1)
  have ev : M2.v = M.v := by rw [p2.v, p1.v, swv_twice]
  refine ⟨kp.n, ev, kp.room, fun h hm => ?_⟩
  have h2 : h ∈ M2.hs := p2.keep h (p1.keep h hm)
  have t : M2.tbl h = M.tbl h := kp.tbl (.inr hm)
  have l1 := o.lv h hm
  have l2 := o2.lv h h2
  have en := kp.n
  have hl : (M2.nd h).1 = (M.nd h).1 := by
    rcases Nat.lt_trichotomy (M2.nd h).1 (M.nd h).1 with c | c | c
    · exfalso
      refine node_hangs o2 h2 ?_
      rw [t, ev]
      exact indep_above o (.inr hm) (by rw [Mdl.lev_in o hm]; exact c) (by omega)
    · exact c
    · exfalso
      refine node_hangs o hm ?_
      rw [← t, ← ev]
      exact indep_above o2 (.inr h2) (by rw [Mdl.lev_in o2 h2]; exact c) (by omega)
  have lo : (M2.nd h).2.1 = (M.nd h).2.1 := by
    refine (Mdl.one_iff o2 (o2.lo h h2).1 (kp.node _ (o.lo h hm).1)).1 ?_
    rw [kp.tbl (o.lo h hm).1]
    have a := tbl_lo o2 h2
    have b := tbl_lo o hm
    rw [t, hl, ev] at a
    exact a.trans b.symm
  have hi : (M2.nd h).2.2 = (M.nd h).2.2 := by
    refine (Mdl.one_iff o2 (o2.hi h h2).1 (kp.node _ (o.hi h hm).1)).1 ?_
    rw [kp.tbl (o.hi h hm).1]
    have a := tbl_hi o2 h2
    have b := tbl_hi o hm
    rw [t, hl, ev] at a
    exact a.trans b.symm
  exact ⟨h2, Prod.ext hl (Prod.ext lo hi)⟩
end
section
variable {Ma M : Mdl} {F G : Nat → Bool} {a b r : Nat}
/-- Two functions made in an empty store: its nodes' functions are their parts. -/
theorem made_two (m1 : MadeIs (Mdl.empty 8 r) 0 F a Ma) (m2 : MadeIs Ma 0 G b M) (X : Nat → Bool) : Has M X ↔ PrtT M (fun i => if i = 0 then F else G) 2 X := by
  have e1 : Ma.n = 8 := m1.grew.n
  have e2 : Ma.v = Od.idn 8 := m1.grew.v
  have e3 : M.n = 8 := m2.grew.n.trans e1
  have e4 : M.v = Od.idn 8 := m2.grew.v.trans e2
  rw [m2.subs X, m1.subs X, e1, e2]
  show _ ↔ ∃ i, i < 2 ∧ Subs M.v M.n 0 _ X
  rw [e3, e4]
  constructor
  · rintro ((⟨x, hx, _⟩ | s) | s)
    · cases hx
    · exact ⟨0, by omega, s⟩
    · exact ⟨1, by omega, s⟩
  · rintro ⟨i, hi, s⟩
    have : i = 0 ∨ i = 1 := by omega
    rcases this with rfl | rfl
    · exact .inl (.inr s)
    · exact .inr s
end
/-- What is collected behind two swaps is as much as there was. -/
theorem twice_len {M M2 : Mdl} (o : M.Ok) (o2 : M2.Ok) (n8 : M.n = 8) (g : Mdl.Grew M M2) {T : Nat → Nat → Bool} {L : Nat} (h : ∀ X, Has M X ↔ PrtT M T L X) {H : Nat → Nat} {xs : List Nat} (r : Mk.Rch M2 H L xs) (up : xs.Pairwise (· < ·)) (nh : ∀ i, i < L → M2.isNode (H i) ∧ Eqt (M2.tbl (H i)) (T i)) : xs.length = M.hs.length := by
  have n2 : M2.n = 8 := g.n.trans n8
  rw [size_len o (fun _ _ => Dep.all o n8 _) h, ← sizeN_grew g]
  exact reach_size o2 ⟨r.inn, r.closed, r.top, r.only⟩ (up.imp fun h => Nat.ne_of_lt h) nh (fun _ _ => Dep.all o2 n2 _)
end Go.Proofs.YteickckgljlacaaGreat.Sw
