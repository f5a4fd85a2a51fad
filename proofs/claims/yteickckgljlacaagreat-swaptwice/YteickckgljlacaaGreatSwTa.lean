/-
  Two levels exchanged twice, without a program.
-/
import Derived.Test.YteickckgljlacaaGreatSwT
import Derived.Test.YteickckgljlacaaGreatMkI
namespace Go.Proofs.YteickckgljlacaaGreat.Sw
open Go Go.RowKit
open Rf (tab word IsTab TabsAt fixAt fixF prt dedup)

/-- It holds the children of what it holds, but for constants. -/
def Closed (M : Mdl) (C : Nat → Prop) : Prop := ∀ h, C h → ((M.nd h).2.1 < 2 ∨ C (M.nd h).2.1) ∧ ((M.nd h).2.2 < 2 ∨ C (M.nd h).2.2)
theorem Closed.prt {M : Mdl} (o : M.Ok) {C : Nat → Prop} (cl : Closed M C) {x : Nat} (hx : x ∈ M.hs) (d : Nat) : ∀ {h : Nat}, M.isNode h → M.n - M.lev h ≤ d → (h < 2 ∨ C h) → Prt M (M.tbl h) (M.tbl x) → C x := by
  induction d with
  | zero =>
    intro h hh hd _ p
    refine absurd p (Prt.not_cst o (tbl_dep o hh (Nat.zero_le _)) (tbl_cst ?_))
    rcases hh with e | e
    · exact e
    · have := o.lv h e; rw [Mdl.lev_in o e] at hd; omega
  | succ d ih =>
    intro h hh hd hc p
    rcases hh with e | hm
    · exact absurd p (Prt.not_cst o (tbl_dep o (.inl e) (Nat.zero_le _)) (tbl_cst e))
    · have lv := o.lv h hm
      have l1 := o.lo h hm
      have l2 := o.hi h hm
      have ch : C h := hc.resolve_left (by have := (o.range h hm).1; omega)
      rw [Mdl.lev_in o hm] at hd
      have dp : Dep M (M.nd h).1 (M.tbl h) := tbl_dep o (.inr hm) (by rw [Mdl.lev_in o hm]; exact Nat.le_refl _)
      rcases (Prt.step o lv dp).1 p with ⟨e, _⟩ | q | q
      · rw [← (Mdl.one_iff o (.inr hm) (.inr hx)).1 e]; exact ch
      · exact ih l1.1 (by omega) (cl h ch).1 ((Prt.like o (tbl_dep o l1.1 (Nat.zero_le _)) (tbl_lo o hm)).2 q)
      · exact ih l2.1 (by omega) (cl h ch).2 ((Prt.like o (tbl_dep o l2.1 (Nat.zero_le _)) (tbl_hi o hm)).2 q)
theorem subs_to {v : Nat → Nat} : ∀ {d k : Nat} {F G G' : Nat → Bool}, Subs v d k F G → Eqt G G' → Subs v d k F G'
  | 0, _, _, _, _, s, _ => s
  | _ + 1, _, _, _, _, ⟨nc, s⟩, e => ⟨nc, s.imp (fun q => ⟨q.1, subs_to q.2 e⟩) fun q => ⟨q.1, q.2.imp (fun h => h.trans e) fun h => h.imp (fun h => subs_to h e) fun h => subs_to h e⟩⟩
section
variable {M : Mdl} {L : Nat} {T : Nat → Nat → Bool} {H : Nat → Nat} {ks : List Nat}
theorem node_ncst (o : M.Ok) {x : Nat} (hx : x ∈ M.hs) : ¬ Cst (M.tbl x) := fun c => by
  have r := (o.range x hx).1
  rcases c with c | c
  · have := (Mdl.one_iff o (.inr hx) (.inl (by omega : 0 < 2))).1 (c.trans (tbl_zero M).symm)
    omega
  · have := (Mdl.one_iff o (.inr hx) (.inl (by omega : 1 < 2))).1 (c.trans (tbl_one M).symm)
    omega
/-- A part of a child is a part. -/
theorem prt_kid (o : M.Ok) {k : Nat} (hk : k ∈ M.hs) {X : Nat → Bool} : (Prt M (M.tbl (M.nd k).2.1) X → Prt M (M.tbl k) X) ∧ (Prt M (M.tbl (M.nd k).2.2) X → Prt M (M.tbl k) X) := by
  have lv := o.lv k hk
  have d := tbl_dep o (.inr hk) (k := (M.nd k).1) (by rw [Mdl.lev_in o hk]; exact Nat.le_refl _)
  have st := Prt.step (G := X) o lv d
  have dl := fun {c : Nat} (hc : M.isNode c) => tbl_dep o hc (Nat.zero_le (M.lev c))
  refine ⟨fun h => st.2 (.inr (.inl ?_)), fun h => st.2 (.inr (.inr ?_))⟩
  · exact (Prt.like o (dl (o.lo k hk).1) (tbl_lo o hk)).1 h
  · exact (Prt.like o (dl (o.hi k hk).1) (tbl_hi o hk)).1 h
theorem reach_size (o : M.Ok) (r : Mk.Rch M H L ks) (nd : ks.Nodup) (nh : ∀ i, i < L → M.isNode (H i) ∧ Eqt (M.tbl (H i)) (T i)) (d : ∀ i, i < L → Dep M 0 (T i)) : ks.length = sizeN M T L := by
  have e : sizeN M T L = ((prt (fun i => (M.v i : Int)) M.n (dedup T L) (min M.n 8 + 1)).1.map encT).length := by rw [List.length_map]; rfl
  have dn := fun {c : Nat} (hc : M.isNode c) => tbl_dep o hc (Nat.zero_le (M.lev c))
  have q : ∀ k ∈ ks, ∀ X, Prt M (M.tbl k) X → PrtT M T L X := r.only (fun y => ∀ X, Prt M (M.tbl y) X → PrtT M T L X) (fun i hi X p => ⟨i, hi, (Prt.like o (dn (nh i hi).1) (nh i hi).2).1 p⟩) fun k hk h => ⟨fun X p => h X ((prt_kid o hk).1 p), fun X p => h X ((prt_kid o hk).2 p)⟩
  have n1 : (ks.map fun k => encT (M.tbl k)).Nodup := nodup_map_on _ _ nd fun a ha b hb e => (Mdl.one_iff o (.inr (r.inn a ha)) (.inr (r.inn b hb))).1 ((encT_iff _ _).1 e)
  have e2 : (ks.map fun k => encT (M.tbl k)).length = ks.length := List.length_map _
  rw [e, ← e2]
  refine Nat.le_antisymm (nodup_le _ _ n1 fun z hz => ?_) (nodup_le _ _ (sizeN_nodup M T L) fun z hz => ?_)
  · obtain ⟨k, hk, rfl⟩ := List.mem_map.1 hz
    have hm := r.inn k hk
    exact (sizeN_mem o d _).2 (q k hk _ (Prt.self o (dn (.inr hm)) (node_ncst o hm)))
  · obtain ⟨G, _, rfl⟩ := List.mem_map.1 hz
    obtain ⟨i, hi, p⟩ := (sizeN_mem o d G).1 hz
    have p' := (Prt.like o (dn (nh i hi).1) (nh i hi).2).2 p
    obtain ⟨x, hx, ex⟩ := Prt.there o _ (nh i hi).1 (Nat.le_refl _) p'
    have p2 : Prt M (M.tbl (H i)) (M.tbl x) := by
      exact subs_to p' ex.symm
    have hk := Closed.prt o r.closed hx _ (nh i hi).1 (Nat.le_refl _) (r.top i hi) p2
    exact List.mem_map.2 ⟨x, hk, (encT_iff _ _).2 ex⟩
end

section
variable {M M1 M2 : Mdl} {k : Nat}
theorem swv_twice (v : Nat → Nat) (k : Nat) : swv (swv v k) k = v := funext fun i => by
  by_cases a : i = k
  · subst a; rw [swv_k, swv_k1]
  · by_cases b : i = k + 1
    · subst b; rw [swv_k1, swv_k]
    · rw [swv_far a b, swv_far a b]
/-- Behind one swap just old nodes lie on the upper level. -/
theorem plan_upper (o : M.Ok) (p : Plan M k M1) : atLev M1 k ≤ M.hs.length := by
  have o1 := p.ok o
  unfold atLev
  refine nodup_le _ _ (o1.nodup.filter _) fun x hx => ?_
  obtain ⟨h1, h2⟩ := List.mem_filter.1 hx
  rw [decide_eq_true_eq] at h2
  by_cases c : x ∈ M.hs
  · exact c
  · have := (p.new x h1 c).1
    omega
theorem indep_above (o : M.Ok) {x j : Nat} (hx : M.isNode x) (hj : j < M.lev x) (hn : j < M.n) : Indep (M.v j) (M.tbl x) := ((tbl_fix o hx hj hn false).trans (tbl_fix o hx hj hn true).symm)
/-- Exchanged twice each node is what it was. -/
theorem twice_grew (o : M.Ok) (p1 : Plan M k M1) (p2 : Plan M1 k M2) : Mdl.Grew M M2 := by
  have o1 := p1.ok o
  have o2 := p2.ok o1
  have kp := (p1.kept o).trans (p2.kept o1)
  have ev : M2.v = M.v := by rw [p2.v, p1.v, swv_twice]
  refine ⟨kp.n, ev, kp.room, fun h hm => ?_⟩
  have h2 : h ∈ M2.hs := p2.keep h (p1.keep h hm)
  have t : M2.tbl h = M.tbl h := kp.tbl (.inr hm)
  have l1 := o.lv h hm
  have l2 := o2.lv h h2
  have en := kp.n
  have hl : (M2.nd h).1 = (M.nd h).1 := by
    rcases Nat.lt_trichotomy (M2.nd h).1 (M.nd h).1 with c | c | c
    · exfalso
      refine node_hangs o2 h2 ?_
      rw [t, ev]
      exact indep_above o (.inr hm) (by rw [Mdl.lev_in o hm]; exact c) (by omega)
    · exact c
    · exfalso
      refine node_hangs o hm ?_
      rw [← t, ← ev]
      exact indep_above o2 (.inr h2) (by rw [Mdl.lev_in o2 h2]; exact c) (by omega)
  have lo : (M2.nd h).2.1 = (M.nd h).2.1 := by
    refine (Mdl.one_iff o2 (o2.lo h h2).1 (kp.node _ (o.lo h hm).1)).1 ?_
    rw [kp.tbl (o.lo h hm).1]
    have a := tbl_lo o2 h2
    have b := tbl_lo o hm
    rw [t, hl, ev] at a
    exact a.trans b.symm
  have hi : (M2.nd h).2.2 = (M.nd h).2.2 := by
    refine (Mdl.one_iff o2 (o2.hi h h2).1 (kp.node _ (o.hi h hm).1)).1 ?_
    rw [kp.tbl (o.hi h hm).1]
    have a := tbl_hi o2 h2
    have b := tbl_hi o hm
    rw [t, hl, ev] at a
    exact a.trans b.symm
  exact ⟨h2, Prod.ext hl (Prod.ext lo hi)⟩
end
section
variable {Ma M : Mdl} {F G : Nat → Bool} {a b r : Nat}
/-- Two functions made in an empty store: its nodes' functions are their parts. -/
theorem made_two (m1 : MadeIs (Mdl.empty 8 r) 0 F a Ma) (m2 : MadeIs Ma 0 G b M) (X : Nat → Bool) : Has M X ↔ PrtT M (fun i => if i = 0 then F else G) 2 X := by
  have e1 : Ma.n = 8 := m1.grew.n
  have e2 : Ma.v = Od.idn 8 := m1.grew.v
  have e3 : M.n = 8 := m2.grew.n.trans e1
  have e4 : M.v = Od.idn 8 := m2.grew.v.trans e2
  rw [m2.subs X, m1.subs X, e1, e2]
  show _ ↔ ∃ i, i < 2 ∧ Subs M.v M.n 0 _ X
  rw [e3, e4]
  constructor
  · rintro ((⟨x, hx, _⟩ | s) | s)
    · cases hx
    · exact ⟨0, by omega, s⟩
    · exact ⟨1, by omega, s⟩
  · rintro ⟨i, hi, s⟩
    have : i = 0 ∨ i = 1 := by omega
    rcases this with rfl | rfl
    · exact .inl (.inr s)
    · exact .inr s
end
/-- What is collected behind two swaps is as much as there was. -/
theorem twice_len {M M2 : Mdl} (o : M.Ok) (o2 : M2.Ok) (n8 : M.n = 8) (g : Mdl.Grew M M2) {T : Nat → Nat → Bool} {L : Nat} (h : ∀ X, Has M X ↔ PrtT M T L X) {H : Nat → Nat} {xs : List Nat} (r : Mk.Rch M2 H L xs) (up : xs.Pairwise (· < ·)) (nh : ∀ i, i < L → M2.isNode (H i) ∧ Eqt (M2.tbl (H i)) (T i)) : xs.length = M.hs.length := by
  have n2 : M2.n = 8 := g.n.trans n8
  rw [size_len o (fun _ _ => Dep.all o n8 _) h, ← sizeN_grew g]
  exact reach_size o2 r (up.imp fun h => Nat.ne_of_lt h) nh (fun _ _ => Dep.all o2 n2 _)
end Go.Proofs.YteickckgljlacaaGreat.Sw
