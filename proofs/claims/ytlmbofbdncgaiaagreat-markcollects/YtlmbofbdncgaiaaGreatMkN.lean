/-
  What is reached, by functions: the parts of the roots' functions; how much room the two lowest levels take.
-/
import Derived.Test.YtlmbofbdncgaiaaGreatMkM
namespace Go.Proofs.YtlmbofbdncgaiaaGreat.Mk
open Go Go.RowKit
open Rf (fixAt fixF tab word)

section
variable {M : Mdl} {H : Nat → Nat} {n : Nat} {xs : List Nat} {G : Nat → Bool}
theorem hs_ncst (o : M.Ok) {h : Nat} (hm : h ∈ M.hs) : ¬ Cst (M.tbl h) := fun c => by
  have h2 := (o.range h hm).1
  have ht : ∀ z, z < 2 → ∀ x, M.tbl z x = decide (z = 1) := fun z hz x => Mdl.val_const hz _
  rcases c with c | c
  · have := (Mdl.one_iff o (.inr hm) (.inl (by omega : (0 : Nat) < 2))).1 fun x hx => by rw [c x hx, ht 0 (by omega)]; rfl
    omega
  · have := (Mdl.one_iff o (.inr hm) (.inl (by omega : (1 : Nat) < 2))).1 fun x hx => by rw [c x hx, ht 1 (by omega)]; rfl
    omega
theorem cst_eqt {F G : Nat → Bool} (e : Eqt F G) (c : Cst G) : Cst F := c.imp (fun c x hx => (e x hx).trans (c x hx)) (fun c x hx => (e x hx).trans (c x hx))
/-- The functions of what is reached are the parts of the roots' functions. -/
theorem has_only (o : M.Ok) (r : Rch M H n xs) (up : xs.Pairwise (· < ·)) : Has (only M xs) G ↔ ∃ i, i < n ∧ Prt M (M.tbl (H i)) G := by
  have o' := (r.shut up).ok o
  have g := only_grew r
  constructor
  · rintro ⟨h, hx, e⟩
    have e' : Eqt (M.tbl h) G := fun y hy => by rw [g.tbl o' (.inr hx) y]; exact e y hy
    have hm : h ∈ M.hs := r.inn h hx
    have q := r.only (fun k => k < 2 ∨ ∀ G, Prt M (M.tbl k) G → ∃ i, i < n ∧ Prt M (M.tbl (H i)) G) (fun i hi => .inr fun G p => ⟨i, hi, p⟩) (fun k hk q => by
      have q := q.resolve_left fun z => by have := (o.range k hk).1; omega
      have l1 := o.lo k hk
      have l2 := o.hi k hk
      have dp : Dep M (M.nd k).1 (M.tbl k) := tbl_dep o (.inr hk) (by rw [Mdl.lev_in o hk]; exact Nat.le_refl _)
      exact ⟨.inr fun G p => q G ((Prt.step o (o.lv k hk) dp).2 (.inr (.inl ((Prt.like o (tbl_dep o l1.1 (Nat.zero_le _)) (tbl_lo o hk)).1 p)))), .inr fun G p => q G ((Prt.step o (o.lv k hk) dp).2 (.inr (.inr ((Prt.like o (tbl_dep o l2.1 (Nat.zero_le _)) (tbl_hi o hk)).1 p))))⟩) h hx
    have q := q.resolve_left fun z => by have := (o.range h hm).1; omega
    exact q G ((Prt.step o (o.lv h hm) (tbl_dep o (.inr hm) (by rw [Mdl.lev_in o hm]; exact Nat.le_refl _))).2 (.inl ⟨e', fun c => hs_ncst o hm (cst_eqt e' c)⟩))
  · rintro ⟨i, hi, p⟩
    have hn : (only M xs).isNode (H i) := r.top i hi
    have e : M.tbl (H i) = (only M xs).tbl (H i) := funext fun y => g.tbl o' hn y
    rw [e] at p
    exact Prt.there o' _ hn (Nat.le_refl _) ((Prt.grew_iff g).1 p)
/-- If each function is a part of the roots', nothing goes. -/
theorem all_kept (o : M.Ok) (r : Rch M H n xs) (up : xs.Pairwise (· < ·)) (all : ∀ G, Has M G → ∃ i, i < n ∧ Prt M (M.tbl (H i)) G) : xs = M.hs := by
  have o' := (r.shut up).ok o
  refine rising_same up o.sorted fun x => ⟨r.inn x, fun hx => ?_⟩
  obtain ⟨k, hk, e⟩ := (has_only o r up).2 (all (M.tbl x) ⟨x, hx, Eqt.refl _⟩)
  have : k = x := (Mdl.one_iff o (.inr (r.inn k hk)) (.inr hx)).1 fun y hy => by rw [(only_grew r).tbl o' (.inr hk) y]; exact e y hy
  exact this ▸ hk
/-! ## Room -/
theorem second12 (o : M.Ok) : (M.hs.filter fun h => decide ((M.nd h).1 + 2 = M.n)).length ≤ 12 := by
  have hn := nodup_map_on M.nd _ (o.nodup.filter fun h => decide ((M.nd h).1 + 2 = M.n)) fun x hx y hy e => o.one x (List.mem_filter.1 hx).1 y (List.mem_filter.1 hy).1 e
  have hk : ([0, 1] ++ M.hs.filter fun h => decide ((M.nd h).1 + 1 = M.n)).length ≤ 4 := by
    have := Mdl.at_lowest o
    rw [List.length_append]
    simp
    omega
  obtain ⟨K, hK⟩ : ∃ K, [0, 1] ++ M.hs.filter (fun h => decide ((M.nd h).1 + 1 = M.n)) = K := ⟨_, rfl⟩
  rw [hK] at hk
  have := nodup_le _ (K.flatMap fun a => (K.erase a).map fun b => (M.n - 2, a, b)) hn fun d hd => by
    obtain ⟨h, hh, rfl⟩ := List.mem_map.1 hd
    obtain ⟨hm, hl⟩ := List.mem_filter.1 hh
    have hl := of_decide_eq_true hl
    have c : ∀ z, M.isNode z → (M.nd h).1 < M.lev z → z ∈ K := fun z hz hlz => by
      rw [← hK]
      rcases hz with e | e
      · have : z = 0 ∨ z = 1 := by omega
        rcases this with rfl | rfl <;> simp
      · have := o.lv z e
        rw [Mdl.lev_in o e] at hlz
        refine List.mem_append.2 (.inr (List.mem_filter.2 ⟨e, ?_⟩))
        rw [decide_eq_true_eq]
        omega
    have l1 : (M.nd h).1 = M.n - 2 := by omega
    exact List.mem_flatMap.2 ⟨_, c _ (o.lo h hm).1 (o.lo h hm).2, List.mem_map.2 ⟨_, (List.mem_erase_of_ne (o.ne h hm).symm).2 (c _ (o.hi h hm).1 (o.hi h hm).2), Prod.ext l1.symm rfl⟩⟩
  have hlen : ∀ L : List Nat, (∀ a ∈ L, a ∈ K) → (L.flatMap fun a => (K.erase a).map fun b => (M.n - 2, a, b)).length = L.length * (K.length - 1) := fun L => by
    induction L with
    | nil => intro _; simp
    | cons a L ih =>
      intro hL
      rw [List.flatMap_cons, List.length_append, List.length_map, ih fun b hb => hL b (List.mem_cons_of_mem _ hb), List.length_erase_of_mem (hL a (by simp)), List.length_cons, Nat.succ_mul]
      omega
  rw [hlen K fun _ h => h] at this
  have h12 : K.length * (K.length - 1) ≤ 4 * 3 := Nat.mul_le_mul hk (by omega)
  simp at this
  omega
theorem len14 (o : M.Ok) : M.hs.length ≤ M.up + 14 := by
  have h1 := Mdl.at_lowest o
  have h2 := second12 o
  have key : ∀ l : List Nat, (∀ h ∈ l, (M.nd h).1 < M.n) → l.length ≤ (l.filter fun h => decide ((M.nd h).1 + 2 < M.n)).length + (l.filter fun h => decide ((M.nd h).1 + 2 = M.n)).length + (l.filter fun h => decide ((M.nd h).1 + 1 = M.n)).length := by
    intro l
    induction l with
    | nil => simp
    | cons x l ih =>
      intro hl
      have hx := hl x (by simp)
      have := ih fun h hh => hl h (by simp [hh])
      simp only [List.filter_cons, List.length_cons]
      by_cases c1 : (M.nd x).1 + 2 < M.n
      · rw [if_pos (decide_eq_true c1), if_neg (by simp; omega), if_neg (by simp; omega), List.length_cons]
        omega
      · by_cases c2 : (M.nd x).1 + 2 = M.n
        · rw [if_neg (by simp; omega), if_pos (decide_eq_true c2), if_neg (by simp; omega), List.length_cons]
          omega
        · have c3 : (M.nd x).1 + 1 = M.n := by omega
          rw [if_neg (by simp; omega), if_neg (by simp; omega), if_pos (decide_eq_true c3), List.length_cons]
          omega
  have := key M.hs o.lv
  unfold Mdl.up
  omega
end
/-- Room enough, with none to spare. -/
def Tight (M : Mdl) (k : Nat) (_F : Nat → Bool) : Prop := M.up + (2 ^ (M.n - 2 - k) - 1) + 15 ≤ M.room
theorem Rm.tight : Rm Tight := by
  refine ⟨fun {M k F} o hk d h => ?_, fun {M M1 k a F} o o1 hk d h m => ?_, fun {M M1 M2 k a c F} o o1 o2 hk d nc ne h m1 m2 no => ?_⟩
  · unfold Tight at *
    have pw : (2 : Nat) ^ (M.n - 2 - (k + 1)) ≤ 2 ^ (M.n - 2 - k) := Nat.pow_le_pow_right (by omega) (by omega)
    omega
  · unfold Tight at *
    have := much_two hk m.up (Nat.le_refl _)
    rw [m.grew.n, m.grew.room]
    omega
  · unfold Tight at h
    have u2 := m2.up
    rw [m1.grew.n] at u2
    have := much_two hk m1.up u2
    have := len14 o2
    have r2 := m2.grew.room
    have r1 := m1.grew.room
    omega
end Go.Proofs.YtlmbofbdncgaiaaGreat.Mk
