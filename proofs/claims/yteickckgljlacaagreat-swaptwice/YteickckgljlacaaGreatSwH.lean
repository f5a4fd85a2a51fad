/-
  The plan when it is made: the store that it lays.
-/
import Derived.Test.YteickckgljlacaaGreatSwG
namespace Go.Proofs.YteickckgljlacaaGreat.Sw
open Go

/-- The store that a plan lays. -/
def laidM (M : Mdl) (k : Nat) (N : List (Nat × Nd)) : Mdl := ⟨M.n, swv M.v k, M.room, (List.range (2 + M.room)).filter (fun x => decide (x ∈ M.hs ∨ x ∈ N.map (·.1))), fun x => (N.lookup x).getD (M.nd x)⟩
/-- How many nodes there are at a level. -/
def atLev (M : Mdl) (k : Nat) : Nat := (M.hs.filter fun h => decide ((M.nd h).1 = k)).length
section
variable {M : Mdl} {k c last x : Nat} {pre : List Nat} {N : List (Nat × Nd)} {L : List (Nd × Nat)}
theorem look_of : ∀ {N : List (Nat × Nd)}, (N.map (·.1)).Nodup → ∀ {x d}, (x, d) ∈ N → N.lookup x = some d
  | [], _, _, _, h => absurd h List.not_mem_nil
  | (y, e) :: N, hn, x, d, h => by
    have h1 := List.nodup_cons.1 (show (y :: N.map (·.1)).Nodup from hn)
    rcases List.mem_cons.1 h with q | q
    · obtain ⟨rfl, rfl⟩ := Prod.mk.inj q
      simp [List.lookup]
    · have : x ≠ y := fun e => h1.1 (e ▸ List.mem_map.2 ⟨_, q, rfl⟩)
      have e2 : (x == y) = false := by rw [beq_eq_false_iff_ne]; exact this
      simp only [List.lookup, e2]
      exact look_of h1.2 q
theorem look_no : ∀ {N : List (Nat × Nd)} {x}, x ∉ N.map (·.1) → N.lookup x = none
  | [], _, _ => rfl
  | (y, e) :: N, x, h => by
    rw [List.map_cons, List.mem_cons, not_or] at h
    have e2 : (x == y) = false := by rw [beq_eq_false_iff_ne]; exact h.1
    simp only [List.lookup, e2]
    exact look_no h.2
theorem laid_in (h : (N.map (·.1)).Nodup) {d : Nd} (hx : (x, d) ∈ N) : (laidM M k N).nd x = d := by
  show (N.lookup x).getD (M.nd x) = d
  rw [look_of h hx]
  rfl
theorem laid_no (hx : x ∉ N.map (·.1)) : (laidM M k N).nd x = M.nd x := by
  show (N.lookup x).getD (M.nd x) = _
  rw [look_no hx]
  rfl
/-- How far the handles go. -/
theorem PInv.last_le (h : PInv M k pre c N L last) : last ≤ 1 + (M.hs.length + c) := by
  have hn : (List.range' 2 (last - 1)).Nodup := List.nodup_range'
  have := len_sub hn (b := M.hs ++ (N.filter fun p => decide (p.1 ∉ M.hs)).map (·.1)) fun z hz => by
    have hz' := List.mem_range'_1.1 hz
    by_cases e : z ∈ M.hs
    · exact List.mem_append.2 (.inl e)
    · obtain ⟨d, hd⟩ := key_mem ((h.full z hz'.1 (by omega)).resolve_left e)
      exact List.mem_append.2 (.inr (List.mem_map.2 ⟨_, List.mem_filter.2 ⟨hd, by simpa using e⟩, rfl⟩))
  rw [List.length_range', List.length_append, List.length_map] at this
  have f := h.few
  unfold madeN at f
  omega
theorem PInv.laid_len (h : PInv M k pre c N L last) : (laidM M k N).hs.length ≤ M.hs.length + c := by
  have := len_sub (a := (laidM M k N).hs) (List.nodup_range.filter _) (b := M.hs ++ (N.filter fun p => decide (p.1 ∉ M.hs)).map (·.1)) fun z hz => by
    have hz' := (List.mem_filter.1 hz).2
    simp only [decide_eq_true_eq] at hz'
    by_cases e : z ∈ M.hs
    · exact List.mem_append.2 (.inl e)
    · obtain ⟨d, hd⟩ := key_mem (hz'.resolve_left e)
      exact List.mem_append.2 (.inr (List.mem_map.2 ⟨_, List.mem_filter.2 ⟨hd, by simpa using e⟩, rfl⟩))
  rw [List.length_append, List.length_map] at this
  have f := h.few
  unfold madeN at f
  omega
/-- All done: both levels are exchanged. -/
theorem PInv.plan (h : PInv M k (mvB M k M.hs) c N L last) (o : M.Ok) (kn : k + 1 < M.n) (top : ∀ x ∈ M.hs, x < 2 + M.room) (r2 : M.room ≤ 32768) (room : M.hs.length + c ≤ M.room) : Plan M k (laidM M k N) := by
  have hmem : ∀ x, x ∈ (laidM M k N).hs ↔ x ∈ M.hs ∨ x ∈ N.map (·.1) := fun x => by
    show x ∈ (List.range (2 + M.room)).filter _ ↔ _
    rw [List.mem_filter, List.mem_range, decide_eq_true_iff]
    refine ⟨fun e => e.2, fun e => ⟨?_, e⟩⟩
    by_cases i : x ∈ M.hs
    · exact top x i
    · obtain ⟨d, hd⟩ := key_mem (e.resolve_left i)
      have := (h.made x d hd i).2.2.2.2.2
      have := h.last_le
      omega
  have key : ∀ x ∈ M.hs, ((M.nd x).1 = k + 1 ∨ (M.nd x).1 = k) → x ∈ N.map (·.1) := fun x hx hl => by
    by_cases b : bothB M k x = true
    · exact h.done x (mvB_mem.2 ⟨hx, b⟩)
    · exact h.moved x hx (by simpa using b) hl
  have nokey : ∀ x ∈ M.hs, (M.nd x).1 ≠ k → (M.nd x).1 ≠ k + 1 → x ∉ N.map (·.1) := fun x hx a b m => by
    obtain ⟨d, hd⟩ := key_mem m
    rcases h.old x d hd hx with ⟨e, _⟩ | ⟨e, _⟩ | ⟨e, _⟩
    · exact b e
    · exact a e
    · exact a (both_iff.1 (h.sub x e).2).1
  have low : ∀ x ∈ (laidM M k N).hs, ((laidM M k N).nd x).1 = k + 1 → (x, (laidM M k N).nd x) ∈ N := fun x hx e => by
    by_cases m : x ∈ N.map (·.1)
    · obtain ⟨d, hd⟩ := key_mem m
      rw [laid_in h.keys hd]
      exact hd
    · rw [laid_no m] at e
      exact absurd (key x (((hmem x).1 hx).resolve_right m) (.inl e)) m
  have jn : ∀ {x p q : Nat}, JnL L k x p q → Jn (laidM M k N) k x p q := fun {x p q} j => j.imp id fun ⟨a, b⟩ => by
    have := ((h.ln _ _).1 b).1
    exact ⟨a, (hmem x).2 (.inr (mem_key this)), laid_in h.keys this⟩
  refine ⟨kn, rfl, rfl, rfl, List.pairwise_lt_range.filter _, fun x hx => ?_, Nat.le_trans h.laid_len room, fun x hx => (hmem x).2 (.inl hx), fun x hx a b => laid_no (nokey x hx a b), fun x hx e => ?_, fun x hx e a b => ?_, fun x hx e q => ?_, fun x hx hn => ?_, fun x hx y hy e eq => ?_⟩
  · have hl : x < 2 + M.room := List.mem_range.1 (List.mem_filter.1 hx).1
    refine ⟨?_, by omega⟩
    rcases (hmem x).1 hx with i | i
    · exact (o.range x i).1
    · by_cases i' : x ∈ M.hs
      · exact (o.range x i').1
      · obtain ⟨d, hd⟩ := key_mem i
        exact (h.made x d hd i').2.2.2.2.1
  · obtain ⟨d, hd⟩ := key_mem (key x hx (.inl e))
    rw [laid_in h.keys hd]
    rcases h.old x d hd hx with ⟨_, r⟩ | ⟨r, _⟩ | ⟨r, _⟩
    · exact r
    · omega
    · have := (both_iff.1 (h.sub x r).2).1; omega
  · obtain ⟨d, hd⟩ := key_mem (key x hx (.inr e))
    rw [laid_in h.keys hd]
    rcases h.old x d hd hx with ⟨r, _⟩ | ⟨_, _, r⟩ | ⟨r, _⟩
    · omega
    · exact r
    · exact ((both_iff.1 (h.sub x r).2).2.elim a b).elim
  · obtain ⟨d, hd⟩ := key_mem (key x hx (.inr e))
    have b := both_iff.2 ⟨e, q⟩
    rcases h.old x d hd hx with ⟨r, _⟩ | ⟨_, r, _⟩ | ⟨_, s, t, r, j0, j1⟩
    · omega
    · rw [b] at r; cases r
    · exact ⟨s, t, by rw [laid_in h.keys hd, r], jn j0, jn j1⟩
  · obtain ⟨d, hd⟩ := key_mem (((hmem x).1 hx).resolve_left hn)
    rw [laid_in h.keys hd]
    obtain ⟨a1, a2, a3, a4, _⟩ := h.made x d hd hn
    exact ⟨a1, a2, a3, a4⟩
  · have mx := low x hx e
    have my := low y hy (by rw [← eq]; exact e)
    rw [← eq] at my
    have lx := (h.ln _ _).2 ⟨mx, e⟩
    have ly := (h.ln _ _).2 ⟨my, e⟩
    obtain ⟨i, hi⟩ := List.mem_iff_getElem?.1 lx
    obtain ⟨j, hj⟩ := List.mem_iff_getElem?.1 ly
    have e1 : (L.map (·.1))[i]? = some ((laidM M k N).nd x) := by simp [hi]
    have e2 : (L.map (·.1))[j]? = some ((laidM M k N).nd x) := by simp [hj]
    have hij : i = j := (List.getElem?_inj (List.getElem?_eq_some_iff.1 e1).1 h.lkeys).1 (e1.trans e2.symm)
    rw [hij, hj] at hi
    exact ((Prod.mk.inj (Option.some.inj hi)).2).symm
end
end Go.Proofs.YteickckgljlacaaGreat.Sw
