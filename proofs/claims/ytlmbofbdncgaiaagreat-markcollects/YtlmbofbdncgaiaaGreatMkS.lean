/-
  For MarkCollects: what was kept, by functions; an append with the old slice still in hand; rows over a store's own calls.
-/
import Derived.Test.YtlmbofbdncgaiaaGreatMkR
import Derived.Test.YtlmbofbdncgaiaaGreatMkV
namespace Go.Proofs.YtlmbofbdncgaiaaGreat.Mk
open Go Go.RowKit
open Rf (fixAt fixF tab word IsTab TabsAt)

def tl (ts : List (Nat → Bool)) (i : Nat) : Nat → Bool := ts.getD i fun _ => false
theorem tl_old {ts us : List (Nat → Bool)} {i : Nat} (h : i < ts.length) : tl (ts ++ us) i = tl ts i := by
  unfold tl
  rw [List.getD_eq_getElem?_getD, List.getD_eq_getElem?_getD, List.getElem?_append_left h]
theorem tl_new (ts : List (Nat → Bool)) (F : Nat → Bool) : tl (ts ++ [F]) ts.length = F := by
  unfold tl
  simp [List.getD_eq_getElem?_getD]
/-- The roots are nodes of these functions. -/
structure Roots (M : Mdl) (H : Nat → Nat) (ts : List (Nat → Bool)) : Prop where
  n : M.n = 8
  here : ∀ i, i < ts.length → M.isNode (H i) ∧ Eqt (M.tbl (H i)) (tl ts i)
/-- The functions of the nodes are the parts of these. -/
def Full (M : Mdl) (ts : List (Nat → Bool)) : Prop := ∀ X, Has M X ↔ PrtT M (tl ts) ts.length X
section
variable {M M' M2 : Mdl} {H : Nat → Nat} {ts : List (Nat → Bool)} {xs : List Nat} {K F : Nat → Bool} {x y t : Nat}
theorem Roots.size (q : Roots M H ts) (o : M.Ok) (r : Rch M H ts.length xs) (up : xs.Pairwise (· < ·)) : xs.length = sizeN M (tl ts) ts.length := reached_size o r up (fun _ _ => Dep.all o q.n _) fun i hi => (q.here i hi).2
theorem Roots.kept (q : Roots M H ts) (o : M.Ok) (r : Rch M H ts.length xs) (up : xs.Pairwise (· < ·)) : Roots (only M xs) H ts :=
  ⟨q.n, fun i hi => ⟨r.top i hi, only_tbl r ((r.shut up).ok o) (r.top i hi) (q.here i hi).2⟩⟩
theorem Roots.full (q : Roots M H ts) (o : M.Ok) (r : Rch M H ts.length xs) (up : xs.Pairwise (· < ·)) (m : MadeIs (only M xs) 0 K x M2) : Full M2 (ts ++ [K]) := fun X => by
  have o' := (r.shut up).ok o
  have g := only_grew r
  have gt := m.got o' (Nat.zero_le _) (Dep.all o' q.n K)
  rw [gt.has X, has_only o r up, PrtT.grew_iff gt.grew, ← PrtT.grew_iff g, Prt.grew_iff g |>.symm]
  constructor
  · rintro (⟨i, hi, p⟩ | p)
    · exact ⟨i, by simp; omega, by rw [tl_old hi]; exact (Prt.like o (Dep.all o q.n _) (q.here i hi).2).1 p⟩
    · exact ⟨ts.length, by simp, by rw [tl_new]; exact p⟩
  · rintro ⟨i, hi, p⟩
    rw [List.length_append, List.length_singleton] at hi
    by_cases c : i < ts.length
    · rw [tl_old c] at p
      exact .inl ⟨i, c, (Prt.like o (Dep.all o q.n _) (q.here i c).2).2 p⟩
    · obtain rfl : i = ts.length := by omega
      rw [tl_new] at p
      exact .inr p
theorem Full.len (f : Full M ts) (o : M.Ok) (n8 : M.n = 8) : M.hs.length = sizeN M (tl ts) ts.length := size_len o (fun _ _ => Dep.all o n8 _) f
theorem Full.just (f : Full M ts) (o : M.Ok) (n8 : M.n = 8) (ht : t < ts.length) : Just M 0 (tl ts t) :=
  just_of o (fun _ _ => Dep.all o n8 _) (Dep.all o n8 _) (fun X h => h.elim (f X).1 fun p => ⟨t, ht, p⟩) (by rw [← f.len o n8]; exact o.len) 0
theorem Full.again (f : Full M ts) (o : M.Ok) (n8 : M.n = 8) (ht : t < ts.length) (m : MadeIs M 0 (tl ts t) y M') : Full M' ts := fun X => by
  rw [(m.got o (Nat.zero_le _) (Dep.all o n8 _)).has X, f X, PrtT.grew_iff m.grew]
  exact ⟨fun h => h.elim id fun p => ⟨t, ht, p⟩, .inl⟩
theorem made_same (o : M.Ok) (o' : M'.Ok) (m : MadeIs M 0 F y M') (hx : M.isNode x) (e : Eqt (M.tbl x) F) : y = x :=
  (Mdl.one_iff o' m.node (m.grew.isNode hx)).1 fun z hz => by rw [m.grew.tbl o hx z, e z hz]; exact m.tbl z hz
theorem Roots.grew (q : Roots M H ts) (o : M.Ok) (g : Mdl.Grew M M') : Roots M' H ts :=
  ⟨g.n.trans q.n, fun i hi => ⟨g.isNode (q.here i hi).1, fun z hz => (g.tbl o (q.here i hi).1 z).trans ((q.here i hi).2 z hz)⟩⟩
end

/-! ## Rows over calls that leave them alone -/
section
variable {w w' : World} {ad adk adt : Option Addr} {n bh : Nat} {H : Nat → Nat} {T : Nat → Nat → Bool} {X : Nat → Prop}
theorem at_lt {b off : Nat} {w w' : World} (h : b < w.heap.size) (k : ∀ c, At (some ⟨b, off, none⟩) c → w'.heap[c]? = w.heap[c]?) : b < w'.heap.size ∧ w'.heap[b]? = w.heap[b]? := by
  have e := k b ⟨_, rfl, rfl⟩
  refine ⟨Classical.byContradiction fun q => ?_, e⟩
  rw [Array.getElem?_eq_none (by omega), Array.getElem?_eq_getElem h] at e
  cases e
theorem HsAt.stay (h : HsAt w ad n H) (k : ∀ b, At ad b → w'.heap[b]? = w.heap[b]?) : HsAt w' ad n H := by
  rcases h with h | ⟨b, off, e, hb, hc⟩
  · exact .inl h
  · subst e
    obtain ⟨h1, h2⟩ := at_lt hb k
    exact .inr ⟨b, off, rfl, h1, fun i hi => by rw [World.cell?_of_block h2]; exact hc i hi⟩
theorem tabs_stay (h : TabsAt w ad n T) (k : ∀ b, At ad b → w'.heap[b]? = w.heap[b]?) : TabsAt w' ad n T := by
  rcases h with h | ⟨b, off, e, hb, hc⟩
  · exact .inl h
  · subst e
    obtain ⟨h1, h2⟩ := at_lt hb k
    exact .inr ⟨b, off, rfl, h1, fun i hi j hj => by rw [World.cell?_of_block h2]; exact hc i hi j hj⟩
end
/-- One table more, and the slice as it was still in hand. -/
theorem run_app_k {w : World} {B cap : Nat} {ad : Option Addr} {ts : List (Nat → Bool)} (hown : Rf.Own w B ad ts cap) (F : Nat → Bool) (src : Nat) (hsrc : IsTab w src F) (hn : ts.length ≤ 1000000) (hB : B ≤ w.heap.size) :
    ∃ g cap' w', (Builtin.append_ #[35, 35] 35 #[.slice ad ts.length cap, .slice (some ⟨src, 0, none⟩) 1 1]).run Tryz.prog w = .ok (.slice (some ⟨g, 0, none⟩) (ts.length + 1) cap') w' ∧ Rf.Own w' B (some ⟨g, 0, none⟩) (ts ++ [F]) cap' ∧ TabsAt w' ad ts.length (tl ts) ∧ Went (At ad) w w' ∧ (At ad g ∨ g = w.heap.size) := by
  obtain ⟨g, cap', w', hr, o1, q, hg⟩ := run_app_t hown F src hsrc hn hB
  refine ⟨g, cap', w', hr, o1, ?_, q, hg⟩
  by_cases h0 : ts.length = 0
  · exact .inl h0
  have hown' := hown
  obtain ⟨hl, h2⟩ := hown
  rcases h2 with ⟨_, e⟩ | ⟨b, cap2, cur, hv, hb, hc, h3, h4, h5, h6⟩
  · exact absurd e h0
  have ead : ad = some ⟨b, 0, none⟩ := by injection hv
  have ecap : cap = cap2 := by injection hv
  subst ead ecap
  obtain ⟨i, hi, hzz⟩ := Option.map_eq_some_iff.1 Rf.info24
  simp only [Prod.mk.injEq] at hzz
  obtain ⟨hz, hsz, hby⟩ := hzz
  have hblk' : w.heap[src]? = some (.cells #[.int .u64 (word F 0 : Int), .int .u64 (word F 1 : Int), .int .u64 (word F 2 : Int), .int .u64 (word F 3 : Int)] 24 (0, 0)) := hsrc
  have one : ∀ u ∈ Rf.cells4 F, u.oneCell' = true := fun u hu => by
    simp only [Rf.cells4, List.mem_cons, List.not_mem_nil, or_false] at hu
    rcases hu with rfl | rfl | rfl | rfl <;> rfl
  by_cases hroom : ts.length + 1 ≤ cap
  · have hr2 := run_append_room (P := Tryz.prog) w 35 35 24 i Tryz.underlying35 hi b ts.length cap cur hc ⟨src, 0, none⟩ 1 1 (Rf.cells4 F) (by rw [hsz]; rfl) (World.news_of_block hblk') one hroom (by rw [hsz, h5]; show _ + 4 ≤ _; omega)
    have e := hr.symm.trans hr2
    injection e with e1 e2
    injection e1 with e3 e4 e5
    injection e3 with e6
    injection e6 with e7
    subst e7
    rcases o1.tabs with z | ⟨b', off', e', hb', hc'⟩
    · rw [List.length_append, List.length_singleton] at z
      omega
    · injection e' with e'
      injection e' with e8 e9
      subst e8 e9
      refine .inr ⟨_, 0, rfl, hb', fun i hi j hj => ?_⟩
      have := hc' i (by rw [List.length_append, List.length_singleton]; omega) j hj
      rwa [show (fun i => (ts ++ [F]).getD i fun _ => false) i = tl ts i from tl_old hi] at this
  · have holds : ∀ j u, (Rf.cellsL ts)[j]? = some u → w.cell? ((⟨b, 0, none⟩ : Addr).add j) = some u := World.ownsRow.cells hown' (g := b) rfl
    have hr2 := run_append_grow (P := Tryz.prog) w 35 35 24 i _ Tryz.underlying35 hi hz ⟨b, 0, none⟩ ts.length cap (Rf.cellsL ts) (by rw [hsz]; exact hl) holds ⟨src, 0, none⟩ 1 1 (Rf.cells4 F) (by rw [hsz]; rfl) (World.news_of_block hblk') (by omega) (by omega) (growslice_fits (by omega) (by rw [hby]; omega))
    have e := hr.symm.trans hr2
    injection e with e1 e2
    subst e2
    exact TabsAt.kept hown'.tabs (Rf.below_far (⟨rfl, rfl, rfl, Nat.le_refl _, fun _ _ => rfl⟩ : Below w.heap.size w w.drew) (nb w.drew _))
section
variable {B w w' : World} {S R m n : Nat} {M M' : Mdl} {P : Int → Option Int} {T : Nat → List Int} {X X' : Nat → Prop}
/-- A function is made of which all parts fit. -/
theorem Rfx.remake (h : Rfx B w S R m n M P T X) {F : Nat → Bool} (n8 : M.n = 8) (j : Just M 0 F) :
    Calls Tryz.prog 11 #[.pointer (some ⟨S, 0, none⟩), tab F] w fun e w' => ∃ x M', e = .returned (.tuple #[.int .u32 ((x : Nat) : Int), .bool true]) ∧ MadeIs M 0 F x M' ∧ Rfx B w' S R m n M' P T X ∧ Stay X w w' := by
  obtain ⟨Fs, G, s, r, d, b, f, g, x⟩ := h
  refine (make_any' (F := F) Rm.just s (Dep.all s.ok n8 F) j).mono ?_
  rintro e w' ⟨y, M', rfl, ⟨F', s', q⟩, mk⟩
  exact ⟨y, M', rfl, mk, Rfx.wf r d b f g x s' q⟩
theorem Rfx.len' (h : Rfx B w S R m n M P T X) : Calls Tryz.prog 13 #[.pointer (some ⟨S, 0, none⟩)] w fun e w' => e = .returned (.int .i64 (M.hs.length : Int)) ∧ Below w.heap.size w w' := by
  refine h.len.mono ?_
  rintro e w' ⟨rfl, q, rfl⟩
  exact ⟨rfl, rfl, rfl, rfl, Nat.le_refl _, fun _ _ => rfl⟩
theorem Rfx.order (h : Rfx B w S R m n M P T X) : Calls Tryz.prog 16 #[.pointer (some ⟨S, 0, none⟩)] w fun e w' => ∃ P l, e = .returned (.pointer (some ⟨P, 0, none⟩)) ∧ Od.IsOrd w' P M.n M.v l ∧ Below w.heap.size w w' := by
  obtain ⟨F, s⟩ := h.st
  refine (s_order s).mono ?_
  rintro e w' ⟨P, l, rfl, o, b, _⟩
  exact ⟨P, l, rfl, o, b⟩
theorem ints_of {u : World} {b k : Nat} {V : Nat → Nat} (h : u.rowIs b 3 k (fun i => .int .i64 (V i : Int))) : Rf.IntsAt u (some ⟨b, 0, none⟩) k (fun i => (V i : Int)) :=
  .inr ⟨b, 0, rfl, h.lt, fun i hi => by rw [Nat.zero_add]; exact h.cell hi⟩
end
end Go.Proofs.YtlmbofbdncgaiaaGreat.Mk
