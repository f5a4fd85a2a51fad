/-
  Package count: what is reached; Size and Levels.
-/
import Derived.Test.YtfaccdnnjkkcfaaGreatDoorCtN
import Derived.Deep.LoopGhost
namespace Go.Proofs.YtfaccdnnjkkcfaaGreatDoor
open Go Go.RowKit

/-! ## Handles as entries -/
/-- A node with its level. -/
def ent (M : Mdl) (k : Nat) : Int × Int := ((k : Int), ((M.nd k).1 : Int))
theorem look_in (M : Mdl) {h : Nat} : ∀ {ks : List Nat}, h ∈ ks → Hm.look (ks.map (ent M)) (h : Int) = some ((M.nd h).1 : Int)
  | k :: ks, hk => by
    show (if (k : Int) = (h : Int) then some ((M.nd k).1 : Int) else Hm.look (ks.map (ent M)) (h : Int)) = _
    by_cases c : k = h
    · subst c
      rw [if_pos rfl]
    · rw [if_neg (show ¬ ((k : Int) = (h : Int)) by omega)]
      exact look_in M ((List.mem_cons.1 hk).resolve_left fun e => c e.symm)
theorem look_out (M : Mdl) {h : Nat} {ks : List Nat} (hk : h ∉ ks) : Hm.look (ks.map (ent M)) (h : Int) = none := by
  rw [Hm.look_none]
  intro p hp e
  obtain ⟨k, hk', rfl⟩ := List.mem_map.1 hp
  have : (k : Int) = (h : Int) := e
  exact hk ((show k = h by omega) ▸ hk')
theorem keys_once {M : Mdl} {w : World} {b : Nat} {ks : List Nat} (m : Hm.IsM w b (ks.map (ent M))) : ks.Nodup := by
  obtain ⟨es, ck, _, q⟩ := m
  have := q.nodup
  rw [List.map_map] at this
  exact (List.pairwise_map.1 this).imp fun h e => h (by rw [e])
/-- What adding a node leaves. -/
structure AddP (M : Mdl) (h : Nat) (ks ms : List Nat) : Prop where
  inn : ∀ k ∈ ms, k ∈ M.hs
  kids : ∀ k ∈ ms, ((M.nd k).2.1 < 2 ∨ (M.nd k).2.1 ∈ ks ++ ms) ∧ ((M.nd k).2.2 < 2 ∨ (M.nd k).2.2 ∈ ks ++ ms)
  top : h < 2 ∨ h ∈ ks ++ ms
  only : ∀ Q : Nat → Prop, Q h → (∀ k ∈ M.hs, Q k → Q (M.nd k).2.1 ∧ Q (M.nd k).2.2) → ∀ k ∈ ms, Q k
def AddQ (M : Mdl) (b h : Nat) (ks : List Nat) (w : World) (e : Ending) (w' : World) : Prop := e = .returned (.tuple #[]) ∧ ∃ ms, Hm.IsM w' b ((ks ++ ms).map (ent M)) ∧ AddP M h ks ms ∧ Went (fun k => k = b) w w'
theorem AddP.none {M : Mdl} {h : Nat} {ks : List Nat} (t : h < 2 ∨ h ∈ ks) : AddP M h ks [] := ⟨fun _ h => absurd h List.not_mem_nil, fun _ h => absurd h List.not_mem_nil, by rw [List.append_nil]; exact t, fun _ _ _ _ h => absurd h List.not_mem_nil⟩
theorem AddP.join {M : Mdl} {h : Nat} {ks m1 m2 : List Nat} (hm : h ∈ M.hs) (a : AddP M (M.nd h).2.1 (ks ++ [h]) m1) (c : AddP M (M.nd h).2.2 ((ks ++ [h]) ++ m1) m2) : AddP M h ks (h :: (m1 ++ m2)) := by
  have e : ks ++ (h :: (m1 ++ m2)) = ((ks ++ [h]) ++ m1) ++ m2 := by simp
  refine ⟨fun k hk => ?_, fun k hk => ?_, .inr (by simp), fun Q q cl k hk => ?_⟩
  · rcases List.mem_cons.1 hk with rfl | hk
    · exact hm
    · exact (List.mem_append.1 hk).elim (a.inn k) (c.inn k)
  · rw [e]
    rcases List.mem_cons.1 hk with rfl | hk
    · exact ⟨a.top.imp id fun x => List.mem_append.2 (.inl x), c.top⟩
    · rcases List.mem_append.1 hk with hk | hk
      · exact ⟨(a.kids k hk).1.imp id fun x => List.mem_append.2 (.inl x), (a.kids k hk).2.imp id fun x => List.mem_append.2 (.inl x)⟩
      · exact c.kids k hk
  · rcases List.mem_cons.1 hk with rfl | hk
    · exact q
    · exact (List.mem_append.1 hk).elim (a.only Q (cl h hm q).1 cl k) (c.only Q (cl h hm q).2 cl k)
theorem went_one {b : Nat} {w w' w'' : World} (k : Went (fun k => k = b) w w') (q : Went (fun k => k = b) w' w'') : Went (fun k => k = b) w w'' :=
  ⟨q.os.trans k.os, q.tape.trans k.tape, q.output.trans k.output, Nat.le_trans k.size q.size, fun i hi hne => (q.block i (Nat.lt_of_lt_of_le hi k.size) hne).trans (k.block i hi hne)⟩
section
variable {w w' u : World} {S b h : Nat} {F0 : Nat → Prop} {M : Mdl}
theorem St.went (s : St w S F0 M) (hnb : ¬ F0 b) (k : Went (fun k => k = b) w u) : St u S F0 M := s.kept fun i hi => k.block i (s.lt i hi) fun e => hnb (e ▸ hi)
/-- A slice of handles among the arguments. -/
def HsAt (w : World) (ad : Option Addr) (n : Nat) (H : Nat → Nat) : Prop :=
  n = 0 ∨ ∃ b off, ad = some ⟨b, off, none⟩ ∧ b < w.heap.size ∧ ∀ i, i < n → w.cell? ⟨b, off + i, none⟩ = some (.int .u32 (H i : Int))
theorem HsAt.kept {ad : Option Addr} {n : Nat} {H : Nat → Nat} (h : HsAt w ad n H) (k : Below w.heap.size w w') : HsAt w' ad n H := by
  rcases h with h | ⟨b, off, e, hb, hc⟩
  · exact .inl h
  · exact .inr ⟨b, off, e, Nat.lt_of_lt_of_le hb k.size, fun i hi => by rw [k.cell hb]; exact hc i hi⟩
theorem HsAt.get {b off n : Nat} {H : Nat → Nat} (h : HsAt w (some ⟨b, off, none⟩) n H) {i : Nat} (hi : i < n) : w.cell? ⟨b, off + i, none⟩ = some (.int .u32 (H i : Int)) := by
  rcases h with h | ⟨b', off', e, _, hc⟩
  · omega
  · injection e with e
    injection e with e1 e2
    subst e1 e2
    exact hc i hi
theorem HsAt.some {ad : Option Addr} {n : Nat} {H : Nat → Nat} (h : HsAt w ad n H) (hn : 0 < n) : ∃ b off, ad = .some ⟨b, off, none⟩ ∧ b < w.heap.size := by
  rcases h with h | ⟨b, off, e, hb, _⟩
  · omega
  · exact ⟨b, off, e, hb⟩
theorem HsAt.row {g n : Nat} {H : Nat → Nat} (r : w.rowIs g 35 n (fun i => .int .u32 (H i : Int))) : HsAt w (Option.some ⟨g, 0, none⟩) n H :=
  .inr ⟨g, 0, rfl, r.lt, fun i hi => by rw [Nat.zero_add]; exact r.cell hi⟩
/-- What is reached from the first j of them. -/
structure Rch (M : Mdl) (H : Nat → Nat) (j : Nat) (ks : List Nat) : Prop where
  inn : ∀ k ∈ ks, k ∈ M.hs
  closed : Closed M (· ∈ ks)
  top : ∀ i, i < j → H i < 2 ∨ H i ∈ ks
  only : ∀ Q : Nat → Prop, (∀ i, i < j → Q (H i)) → (∀ k ∈ M.hs, Q k → Q (M.nd k).2.1 ∧ Q (M.nd k).2.2) → ∀ k ∈ ks, Q k
theorem Rch.start (M : Mdl) (H : Nat → Nat) : Rch M H 0 [] := ⟨fun _ h => absurd h List.not_mem_nil, fun _ h => absurd h List.not_mem_nil, fun _ hi => absurd hi (Nat.not_lt_zero _), fun _ _ _ _ h => absurd h List.not_mem_nil⟩
theorem Rch.step {H : Nat → Nat} {j : Nat} {ks ms : List Nat} (r : Rch M H j ks) (a : AddP M (H j) ks ms) : Rch M H (j + 1) (ks ++ ms) := by
  refine ⟨fun k hk => (List.mem_append.1 hk).elim (r.inn k) (a.inn k), fun k hk => ?_, fun i hi => ?_, fun Q q cl k hk => ?_⟩
  · rcases List.mem_append.1 hk with hk | hk
    · exact ⟨(r.closed k hk).1.imp id fun x => List.mem_append.2 (.inl x), (r.closed k hk).2.imp id fun x => List.mem_append.2 (.inl x)⟩
    · exact a.kids k hk
  · by_cases c : i = j
    · subst c; exact a.top
    · exact (r.top i (by omega)).imp id fun x => List.mem_append.2 (.inl x)
  · rcases List.mem_append.1 hk with hk | hk
    · exact r.only Q (fun i hi => q i (by omega)) cl k hk
    · exact a.only Q (q j (by omega)) cl k hk
def ReachQ (M : Mdl) (n : Nat) (H : Nat → Nat) (w : World) (e : Ending) (w' : World) : Prop :=
  ((∀ i, i < n → M.isNode (H i)) ∧ ∃ b ks, e = .returned (.tuple #[.map (Option.some b), .int .i64 0]) ∧ Hm.IsM w' b (ks.map (ent M)) ∧ Rch M H n ks ∧ Below w.heap.size w w' ∧ w.heap.size ≤ b) ∨
  ((∃ i, i < n ∧ ¬ M.isNode (H i)) ∧ e = .returned (.tuple #[.map Option.none, .int .i64 101]) ∧ Below w.heap.size w w')
theorem below_map {b : Nat} (k : Below w.heap.size w u) (hb : w.heap.size ≤ b) (q : Went (fun k => k = b) u w') : Below w.heap.size w w' :=
  ⟨q.os.trans k.os, q.tape.trans k.tape, q.output.trans k.output, Nat.le_trans k.size q.size, fun i hi => (q.block i (Nat.lt_of_lt_of_le hi k.size) (by omega)).trans (k.block i hi)⟩
end
end Go.Proofs.YtfaccdnnjkkcfaaGreatDoor
