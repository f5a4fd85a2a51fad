/-
  The reference's Levels; as many nodes on each level as the reference counts.
-/
import Derived.Test.YtfaccdnnjkkcfaaGreatDoorCtS
import Derived.Test.YtfaccdnnjkkcfaaGreatDoorBaseF
namespace Go.Proofs.YtfaccdnnjkkcfaaGreatDoor
open Go Go.RowKit
open Rf (tab word IsTab TabsAt fixF fixAt prt dedup IntsAt supUpto)

/-! ## Without a program -/
/-- The first level on whose variable a function hangs, below k; else k. -/
def fstH (p : Nat → Bool) (v : Nat → Nat) : Nat → Nat
  | 0 => 0
  | k + 1 => if fstH p v k < k then fstH p v k else if hangs p (v k) then k else k + 1
theorem fstH_le (p : Nat → Bool) (v : Nat → Nat) : ∀ k, fstH p v k ≤ k
  | 0 => Nat.le_refl _
  | k + 1 => by
    have := fstH_le p v k
    rw [fstH]
    split
    · omega
    · split <;> omega
theorem fstH_more {p : Nat → Bool} {v : Nat → Nat} {k : Nat} : ∀ j, fstH p v k < k → fstH p v (k + j) = fstH p v k
  | 0, _ => rfl
  | j + 1, h => by
    rw [← Nat.add_assoc, fstH, fstH_more j h, if_pos (by omega)]
theorem fstH_at {p : Nat → Bool} {v : Nat → Nat} {k n : Nat} (hk : k < n) (h : fstH p v k = k) (hh : hangs p (v k) = true) : fstH p v n = k := by
  have e : fstH p v (k + 1) = k := by rw [fstH, if_neg (by omega), hh, if_pos rfl]
  obtain ⟨j, rfl⟩ : ∃ j, n = (k + 1) + j := ⟨n - (k + 1), by omega⟩
  rw [fstH_more j (by omega), e]
theorem fstH_not {p : Nat → Bool} {v : Nat → Nat} {k : Nat} (h : fstH p v k = k) (hh : hangs p (v k) = false) : fstH p v (k + 1) = k + 1 := by
  rw [fstH, if_neg (by omega), hh]
  rfl
theorem fstH_none {p : Nat → Bool} {v : Nat → Nat} : ∀ {k : Nat}, (∀ i, i < k → hangs p (v i) = false) → fstH p v k = k
  | 0, _ => rfl
  | k + 1, h => fstH_not (fstH_none fun i hi => h i (by omega)) (h k (by omega))
theorem fstH_congr {p q : Nat → Bool} (e : Eqt p q) {v : Nat → Nat} : ∀ k, (∀ i, i < k → v i < 8) → fstH p v k = fstH q v k
  | 0, _ => rfl
  | k + 1, h => by rw [fstH, fstH, fstH_congr e k fun i hi => h i (by omega), hangs_congr e (h k (by omega))]
theorem fstH_node {M : Mdl} (o : M.Ok) {x : Nat} (hx : x ∈ M.hs) : fstH (M.tbl x) M.v M.n = (M.nd x).1 :=
  fstH_at (o.lv x hx) (fstH_none fun i hi => hangs_above o (.inr hx) (by rw [Mdl.lev_in o hx]; exact hi) (by have := o.lv x hx; omega)) (hangs_own o hx)
/-- How many functions of a list have their first level there. -/
def fsN (v : Nat → Nat) (n : Nat) (ts : List (Nat → Bool)) (i : Nat) : Nat := (ts.filter fun p => decide (fstH p v n = i)).length
theorem fsN_le (v : Nat → Nat) (n : Nat) (ts : List (Nat → Bool)) (i : Nat) : fsN v n ts i ≤ ts.length := List.length_filter_le _ _
theorem fsN_put (v : Nat → Nat) (n : Nat) (ts : List (Nat → Bool)) (p : Nat → Bool) (i : Nat) : fsN v n (ts ++ [p]) i = fsN v n ts i + if fstH p v n = i then 1 else 0 := by
  unfold fsN
  rw [List.filter_append, List.length_append]
  by_cases c : fstH p v n = i
  · rw [if_pos c, List.filter_cons, if_pos (by simpa using c)]
    simp
  · rw [if_neg c, List.filter_cons, if_neg (by simpa using c)]
    simp
/-- On each level as many nodes as unlike parts. -/
theorem parts_levels {M : Mdl} (o : M.Ok) (ts : List (Nat → Bool)) (pw : PW ts) (h : ∀ G, InT ts G ↔ Has M G) (i : Nat) : fsN M.v M.n ts i = lvN M M.hs i := by
  have v8' : ∀ i, i < M.n → M.v i < 8 := fun i hi => v8 o hi
  have n1 : ((ts.filter fun p => decide (fstH p M.v M.n = i)).map encT).Nodup := by
    refine List.pairwise_map.2 ((List.Pairwise.filter _ pw).imp fun h e => h ((encT_iff _ _).1 e))
  have n2 : ((M.hs.filter fun k => decide ((M.nd k).1 = i)).map fun k => encT (M.tbl k)).Nodup := by
    refine nodup_map_on _ _ (o.nodup.filter _) fun a ha b hb e => ?_
    exact (Mdl.one_iff o (.inr (List.mem_filter.1 ha).1) (.inr (List.mem_filter.1 hb).1)).1 ((encT_iff _ _).1 e)
  have m : ∀ t, t ∈ ((ts.filter fun p => decide (fstH p M.v M.n = i)).map encT) ↔ t ∈ ((M.hs.filter fun k => decide ((M.nd k).1 = i)).map fun k => encT (M.tbl k)) := fun t => by
    constructor
    · intro ht
      obtain ⟨p, hp, rfl⟩ := List.mem_map.1 ht
      obtain ⟨hp, hi⟩ := List.mem_filter.1 hp
      obtain ⟨x, hx, e⟩ := (h p).1 ⟨p, hp, Eqt.refl p⟩
      refine List.mem_map.2 ⟨x, List.mem_filter.2 ⟨hx, ?_⟩, (encT_iff _ _).2 e⟩
      have hi := of_decide_eq_true hi
      rw [← fstH_node o hx, fstH_congr e _ v8', hi]
      exact decide_eq_true rfl
    · intro ht
      obtain ⟨x, hx, rfl⟩ := List.mem_map.1 ht
      obtain ⟨hx, hi⟩ := List.mem_filter.1 hx
      obtain ⟨p, hp, e⟩ := (h (M.tbl x)).2 ⟨x, hx, Eqt.refl _⟩
      refine List.mem_map.2 ⟨p, List.mem_filter.2 ⟨hp, ?_⟩, (encT_iff _ _).2 e⟩
      have hi := of_decide_eq_true hi
      rw [fstH_congr e _ v8', fstH_node o hx, hi]
      exact decide_eq_true rfl
  have := ((List.perm_ext_iff_of_nodup n1 n2).2 m).length_eq
  rw [List.length_map, List.length_map] at this
  exact this
/-- The reference's parts are the functions of the nodes, where just these were made. -/
theorem parts_has {M : Mdl} (o : M.Ok) (ts0 : List (Nat → Bool)) (h : ∀ G, Has M G ↔ ∃ F ∈ ts0, Subs M.v M.n 0 F G) (dep : ∀ F ∈ ts0, Dep M 0 F) : PW (prt (fun i => (M.v i : Int)) M.n ts0 (min M.n 8 + 1)).1 ∧ ∀ G, InT (prt (fun i => (M.v i : Int)) M.n ts0 (min M.n 8 + 1)).1 G ↔ Has M G := by
  have n8 := o.le8
  have e8 : min M.n 8 = M.n := by omega
  rw [e8]
  refine ⟨pw_prt _ _ _ _, fun G => ?_⟩
  rw [in_prt _ _ _ (M.n + 1) (Nat.le_refl _) (by omega), h]
  constructor
  · rintro ⟨j, hj, h1, h2⟩
    obtain ⟨F, hF, d⟩ := (lv_desc o ts0 j (by omega) G).1 h1
    exact ⟨F, hF, (subs_desc o M.n 0 F G (by omega) (dep F hF)).2 ⟨j, by omega, d, h2⟩⟩
  · rintro ⟨F, hF, q⟩
    obtain ⟨j, hj, d, nc⟩ := (subs_desc o M.n 0 F G (by omega) (dep F hF)).1 q
    exact ⟨j, by omega, (lv_desc o ts0 j (by omega) G).2 ⟨F, hF, d⟩, nc⟩

/-! ## The walk -/
theorem sup_read {F : Nat → Bool} {v : Nat} (hv : v < 8) : (bits .and .u8 ((supUpto F 8 : Int) / 2 ^ v) 1 == 1) = hangs F v := by
  rw [Rf.read_mask _ _ (Rf.sup_lt F 8 (Nat.le_refl _)), ← Rf.M_bit, sup_bit, decide_eq_true hv]
  rfl
theorem take_put {ts : List (Nat → Bool)} {j : Nat} (hj : j < ts.length) : ts.take (j + 1) = ts.take j ++ [ts.getD j fun _ => false] := by
  rw [List.take_add_one, List.getD_eq_getElem?_getD, List.getElem?_eq_getElem hj]
  rfl
end Go.Proofs.YtfaccdnnjkkcfaaGreatDoor
