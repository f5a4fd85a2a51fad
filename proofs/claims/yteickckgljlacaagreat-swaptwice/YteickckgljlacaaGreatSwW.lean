/-
  As many nodes are reached from some handles as their functions have together.
-/
import Derived.Test.YteickckgljlacaaGreatSwCs
import Derived.Test.YteickckgljlacaaGreatSwQ
namespace Go.Proofs.YteickckgljlacaaGreat.Sw
open Go Go.RowKit
open Rf (tab word IsTab TabsAt fixAt fixF prt dedup)

theorem tabs_two {v : World} {g : Nat} {X Y : Nat → Bool} (h : v.heap[g]? = some (.cells #[.int .u64 (word X 0 : Int), .int .u64 (word X 1 : Int), .int .u64 (word X 2 : Int), .int .u64 (word X 3 : Int), .int .u64 (word Y 0 : Int), .int .u64 (word Y 1 : Int), .int .u64 (word Y 2 : Int), .int .u64 (word Y 3 : Int)] 24 (0, 0))) : TabsAt v (some ⟨g, 0, none⟩) 2 (fun i => if i = 0 then X else Y) := by
  refine .inr ⟨g, 0, rfl, (Array.getElem?_eq_some_iff.1 h).1, fun i hi k hk => ?_⟩
  have ci : i = 0 ∨ i = 1 := by omega
  have ck : k = 0 ∨ k = 1 ∨ k = 2 ∨ k = 3 := by omega
  rcases ci with rfl | rfl <;> rcases ck with rfl | rfl | rfl | rfl <;> simp [World.cell?, h]
theorem subs_to {v : Nat → Nat} : ∀ {d k : Nat} {F G G' : Nat → Bool}, Subs v d k F G → Eqt G G' → Subs v d k F G'
  | 0, _, _, _, _, s, _ => s
  | _ + 1, _, _, _, _, ⟨nc, s⟩, e => ⟨nc, s.imp (fun q => ⟨q.1, subs_to q.2 e⟩) fun q => ⟨q.1, q.2.imp (fun h => h.trans e) fun h => h.imp (fun h => subs_to h e) fun h => subs_to h e⟩⟩
section
variable {M : Mdl} {L : Nat} {T : Nat → Nat → Bool} {H : Nat → Nat} {ks : List Nat}
theorem node_ncst (o : M.Ok) {x : Nat} (hx : x ∈ M.hs) : ¬ Cst (M.tbl x) := fun c => by
  have r := (o.range x hx).1
  rcases c with c | c
  · have := (Mdl.one_iff o (.inr hx) (.inl (by omega : 0 < 2))).1 (c.trans (tbl_zero M).symm)
    omega
  · have := (Mdl.one_iff o (.inr hx) (.inl (by omega : 1 < 2))).1 (c.trans (tbl_one M).symm)
    omega
/-- A part of a child is a part. -/
theorem prt_kid (o : M.Ok) {k : Nat} (hk : k ∈ M.hs) {X : Nat → Bool} : (Prt M (M.tbl (M.nd k).2.1) X → Prt M (M.tbl k) X) ∧ (Prt M (M.tbl (M.nd k).2.2) X → Prt M (M.tbl k) X) := by
  have lv := o.lv k hk
  have d := tbl_dep o (.inr hk) (k := (M.nd k).1) (by rw [Mdl.lev_in o hk]; exact Nat.le_refl _)
  have st := Prt.step (G := X) o lv d
  have dl := fun {c : Nat} (hc : M.isNode c) => tbl_dep o hc (Nat.zero_le (M.lev c))
  refine ⟨fun h => st.2 (.inr (.inl ?_)), fun h => st.2 (.inr (.inr ?_))⟩
  · exact (Prt.like o (dl (o.lo k hk).1) (tbl_lo o hk)).1 h
  · exact (Prt.like o (dl (o.hi k hk).1) (tbl_hi o hk)).1 h
theorem reach_size (o : M.Ok) (r : Rch M H L ks) (nd : ks.Nodup) (nh : ∀ i, i < L → M.isNode (H i) ∧ Eqt (M.tbl (H i)) (T i)) (d : ∀ i, i < L → Dep M 0 (T i)) : ks.length = sizeN M T L := by
  have e : sizeN M T L = ((prt (fun i => (M.v i : Int)) M.n (dedup T L) (min M.n 8 + 1)).1.map encT).length := by rw [List.length_map]; rfl
  have dn := fun {c : Nat} (hc : M.isNode c) => tbl_dep o hc (Nat.zero_le (M.lev c))
  have q : ∀ k ∈ ks, ∀ X, Prt M (M.tbl k) X → PrtT M T L X := r.only (fun y => ∀ X, Prt M (M.tbl y) X → PrtT M T L X) (fun i hi X p => ⟨i, hi, (Prt.like o (dn (nh i hi).1) (nh i hi).2).1 p⟩) fun k hk h => ⟨fun X p => h X ((prt_kid o hk).1 p), fun X p => h X ((prt_kid o hk).2 p)⟩
  have n1 : (ks.map fun k => encT (M.tbl k)).Nodup := nodup_map_on _ _ nd fun a ha b hb e => (Mdl.one_iff o (.inr (r.inn a ha)) (.inr (r.inn b hb))).1 ((encT_iff _ _).1 e)
  have e2 : (ks.map fun k => encT (M.tbl k)).length = ks.length := List.length_map _
  rw [e, ← e2]
  refine Nat.le_antisymm (nodup_le _ _ n1 fun z hz => ?_) (nodup_le _ _ (sizeN_nodup M T L) fun z hz => ?_)
  · obtain ⟨k, hk, rfl⟩ := List.mem_map.1 hz
    have hm := r.inn k hk
    exact (sizeN_mem o d _).2 (q k hk _ (Prt.self o (dn (.inr hm)) (node_ncst o hm)))
  · obtain ⟨G, _, rfl⟩ := List.mem_map.1 hz
    obtain ⟨i, hi, p⟩ := (sizeN_mem o d G).1 hz
    have p' := (Prt.like o (dn (nh i hi).1) (nh i hi).2).2 p
    obtain ⟨x, hx, ex⟩ := Prt.there o _ (nh i hi).1 (Nat.le_refl _) p'
    have p2 : Prt M (M.tbl (H i)) (M.tbl x) := by
      exact subs_to p' ex.symm
    have hk := r.closed.prt o hx _ (nh i hi).1 (Nat.le_refl _) (r.top i hi) p2
    exact List.mem_map.2 ⟨x, hk, (encT_iff _ _).2 ex⟩
end
end Go.Proofs.YteickckgljlacaaGreat.Sw
