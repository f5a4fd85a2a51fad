/-
  Several functions at once: made for so many variables, in slices of one's own; an array of four.
-/
import Derived.Test.YtancdjjhjfhcbaaGreatCpU
import Derived.Test.YtancdjjhjfhcbaaGreatBaseG
namespace Go.Proofs.YtancdjjhjfhcbaaGreat
open Go Go.RowKit
open Rf (fixAt fixF tab word IsTab TabsAt)

theorem dep_low {M : Mdl} (o : M.Ok) {F : Nat → Bool} (h : ∀ x y, x < 256 → y < 256 → (∀ j, j < M.n → x.testBit j = y.testBit j) → F x = F y) : Dep M 0 F := fun x y hx hy q => h x y hx hy fun j hj => by
  obtain ⟨i, hi, rfl⟩ := surj_of_inj o.vlt o.vinj hj
  exact q i (Nat.zero_le _) hi
theorem trim_low (F : Nat → Bool) {n : Nat} (hn : n ≤ 8) : ∀ x y, x < 256 → y < 256 → (∀ j, j < n → x.testBit j = y.testBit j) → trimF F n (8 - n) x = trimF F n (8 - n) y := fun x y hx hy h => trim_eq F n (8 - n) (by omega) x y hx hy fun i _ q => h i (by omega)
section
variable {W w w' : World} {S n r b : Nat} {l : Kl} {x : Nat} {X : Nat → Bool}
theorem make_n (h : Sx W w S n r l b) (G : Nat → Bool) (low : ∀ x y, x < 256 → y < 256 → (∀ j, j < n → x.testBit j = y.testBit j) → G x = G y) (c : Nat) (hc : 2 ^ (n - 2) ≤ c + 1) (hb : b + c + 19 ≤ r) :
    Calls Tryz.prog 12 #[.pointer (some ⟨S, 0, none⟩), tab G] w fun e w' => ∃ z : Nat, e = .returned (.tuple #[.int .u32 (z : Int), .bool true]) ∧ Sx W w' S n r ((z, G) :: l) (b + c) ∧ Out w w' := by
  obtain ⟨F, M, s, e1, e2, e3, q, B, f⟩ := h
  refine (make_any s (dep_low s.ok (by rw [e1]; exact low)) (by rw [e1, e2]; omega)).mono ?_
  rintro e w' ⟨x, M', rfl, ⟨F', s', g⟩, m⟩
  have u := m.up
  rw [e1, Nat.sub_zero] at u
  exact ⟨x, rfl, ⟨F', M', s', m.grew.n.trans e1, m.grew.room.trans e2, by omega, (q.grew s.ok m.grew).cons m.node m.tbl, Wf.far B g B.size f, g.after B.size f⟩, Out.of s g⟩
/-- Blocks of other kinds may be turned. -/
theorem Sx.kept' (h : Sx W w S n r l b) (B' : Below W.heap.size W w') (k : ∀ b, b < w.heap.size → w'.heap[b]? = w.heap[b]? ∨ ∃ cs t fr, w.heap[b]? = some (Obj.cells cs t fr) ∧ (t ≠ 87 ∧ t ≠ 127 ∧ t ≠ 158 ∧ t ≠ 22)) : Sx W w' S n r l b := by
  obtain ⟨F, M, s, e1, e2, e3, q, B, f⟩ := h
  refine ⟨F, M, s.kept fun x hx => ?_, e1, e2, e3, q, B', f⟩
  rcases k x (s.lt x hx) with e | ⟨cs, t, fr, hk, ht⟩
  · exact e
  · exact absurd hx (s.row hk ht)
theorem St.small {F : Nat → Prop} {M : Mdl} (h : St w S F M) {x : Nat} (hx : M.isNode x) : x < 2 + M.hs.length := by
  obtain ⟨I, h, rfl⟩ := h
  have := h.pu.node_iff.1 hx
  omega
theorem sub_no (h : Sx W w S n r l b) (hx : (x, X) ∈ l) {ad : Option Addr} {k cap : Nat} {H : Nat → Nat} (hH : HdAt w ad k H) (hb : ∀ i, i < k → H i < 4294967296) (hk : k ≤ 1000000) (no : ∃ i, i < k ∧ b + 20 ≤ H i) :
    Calls Tryz.prog 19 #[.pointer (some ⟨S, 0, none⟩), .int .u32 (x : Int), .slice ad k cap] w fun e w' => e = .returned (.tuple #[.int .u32 0, .int .i64 101]) ∧ w' = w := by
  obtain ⟨F, M, s, e1, e2, e3, q, B, f⟩ := h
  obtain ⟨i, hi, hr⟩ := no
  exact subst_nodes s (q _ hx).1 hH hb hk ⟨i, hi, fun hn => by have := s.small hn; have := Mdl.len_le s.ok; omega⟩
theorem is_no (h : Sx W w S n r l b) (hx : x < 4294967296) (no : b + 20 ≤ x) :
    Calls Tryz.prog 20 #[.pointer (some ⟨S, 0, none⟩), .int .u32 (x : Int)] w fun e w' => e = .returned (.bool false) ∧ w' = w := by
  obtain ⟨F, M, s, e1, e2, e3, q, B, f⟩ := h
  have := s_is s x hx
  rwa [Mdl.nodeB_false fun hn => by have := s.small hn; have := Mdl.len_le s.ok; omega] at this
end
/-! ## Slices of one's own beside a store -/
theorem Out.own {w w' : World} (o : Out w w') {e : TypeId} {B n cap : Nat} {ad : Option Addr} {V : Nat → Value} (h : OwnR e w B ad n cap V) (he : e ≠ 87 ∧ e ≠ 127 ∧ e ≠ 158 ∧ e ≠ 22) : OwnR e w' B ad n cap V := h.kept fun b hb => by
  obtain ⟨cur, hc⟩ := h.kind b hb
  rw [o b _ _ _ hc he, hc]
theorem tabs_kind {w : World} {B : Nat} {ad : Option Addr} {ts : List (Nat → Bool)} {cap : Nat} (h : Rf.Own w B ad ts cap) : ∀ k, Rf.blockOf ad = some k → ∃ cur, w.heap[k]? = some (.cells cur 24 (0, 0)) := by
  intro k hk
  obtain ⟨_, h2⟩ := h
  rcases h2 with ⟨h2, _⟩ | ⟨g, cap', cur, hv, hb, hh, _⟩
  · injection h2 with h2
    subst h2
    cases hk
  · injection hv with hv
    subst hv
    obtain rfl : g = k := by simpa [Rf.blockOf] using hk
    exact ⟨cur, hh⟩
theorem Out.tabs {w w' : World} (o : Out w w') {B : Nat} {ad : Option Addr} {ts : List (Nat → Bool)} {cap : Nat} (h : Rf.Own w B ad ts cap) : Rf.Own w' B ad ts cap := h.kept fun a ha => by
  obtain ⟨cur, hc⟩ := tabs_kind h a.block (by rw [ha]; rfl)
  rw [o _ _ _ _ hc (by decide), hc]
/-- A table more: what lies beside is as it was. -/
theorem Rf_grown_sx {W w w' : World} {S n r b B : Nat} {l : Kl} {ad : Option Addr} {ts : List (Nat → Bool)} {cap : Nat} (h : Sx W w S n r l b) (hW : W.heap.size ≤ B) (hB : B ≤ w.heap.size) (own : Rf.Own w B ad ts cap) (g : w.grownBy w' (Rf.blockOf ad)) : Sx W w' S n r l b ∧ Below B w w' := by
  have b1 : Below B w w' := Rf.grown_below g hB fun k hk => (own.blockGe k hk).1
  refine ⟨h.kept' (h.base.trans ⟨b1.os, b1.tape, b1.output, b1.size, fun k hk => b1.block k (by omega)⟩) fun k hk => ?_, b1⟩
  by_cases c : Rf.blockOf ad = some k
  · obtain ⟨cur, hc⟩ := tabs_kind own k c
    exact .inr ⟨_, _, _, hc, by decide⟩
  · exact .inl (g.block k hk (fun e => c (by rw [← e])))
theorem Rf_grown_own {w w' : World} {B : Nat} {ad : Option Addr} {ts : List (Nat → Bool)} {cap : Nat} (own : Rf.Own w B ad ts cap) (g : w.grownBy w' (Rf.blockOf ad)) {e : TypeId} {B' n c2 : Nat} {ad2 : Option Addr} {V : Nat → Value} (h : OwnR e w B' ad2 n c2 V) (he : e ≠ 24) : OwnR e w' B' ad2 n c2 V := h.kept fun k hk => by
  refine g.block k (h.block k hk).2 fun c => ?_
  obtain ⟨cur, hc⟩ := tabs_kind own k c.symm
  exact h.apart hc (Ne.symm he) hk
theorem went_sx {W w w' : World} {S n r b B k cap : Nat} {l : Kl} {e : TypeId} {ad : Option Addr} {V : Nat → Value} (h : Sx W w S n r l b) (hW : W.heap.size ≤ B) (hB : B ≤ w.heap.size) (own : OwnR e w B ad k cap V) (he : e ≠ 87 ∧ e ≠ 127 ∧ e ≠ 158 ∧ e ≠ 22) (g : Went (At ad) w w') : Sx W w' S n r l b ∧ Below B w w' := by
  have b1 : Below B w w' := ⟨g.os, g.tape, g.output, g.size, fun x hx => g.block x (by omega) fun q => by have := (own.block x q).1; omega⟩
  refine ⟨h.kept' (h.base.trans ⟨b1.os, b1.tape, b1.output, b1.size, fun k hk => b1.block k (by omega)⟩) fun k hk => ?_, b1⟩
  by_cases c : At ad k
  · obtain ⟨cur, hc⟩ := own.kind k c
    exact .inr ⟨_, _, _, hc, he⟩
  · exact .inl (g.block k hk c)
theorem went_tabs {w w' : World} {B k cap : Nat} {e : TypeId} {ad : Option Addr} {V : Nat → Value} (own : OwnR e w B ad k cap V) (he : e ≠ 24) (g : Went (At ad) w w') {B' : Nat} {ad2 : Option Addr} {ts : List (Nat → Bool)} {c2 : Nat} (h : Rf.Own w B' ad2 ts c2) : Rf.Own w' B' ad2 ts c2 := h.kept fun a ha => by
  obtain ⟨cur, hc⟩ := tabs_kind h a.block (by rw [ha]; rfl)
  refine g.block _ (Array.getElem?_eq_some_iff.1 hc).1 fun q => own.apart hc (Ne.symm he) q
theorem hd_own {w : World} {B n cap : Nat} {ad : Option Addr} {H : Nat → Nat} (h : OwnR 34 w B ad n cap (fun i => .int .u32 (H i : Int))) : HdAt w ad n H := by
  by_cases c : 0 < n
  · obtain ⟨g, rfl⟩ := h.form c
    exact .inr ⟨g, 0, rfl, (h.block g ⟨_, rfl, rfl⟩).2, fun i hi => by rw [Nat.zero_add]; exact h.cell hi⟩
  · exact .inl (by omega)
/-! ## An array of four functions -/
def tab4 (G : Nat → Nat → Bool) : Value := .agg #[.int .u64 (word (G 0) 0 : Int), .int .u64 (word (G 0) 1 : Int), .int .u64 (word (G 0) 2 : Int), .int .u64 (word (G 0) 3 : Int), .int .u64 (word (G 1) 0 : Int), .int .u64 (word (G 1) 1 : Int), .int .u64 (word (G 1) 2 : Int), .int .u64 (word (G 1) 3 : Int), .int .u64 (word (G 2) 0 : Int), .int .u64 (word (G 2) 1 : Int), .int .u64 (word (G 2) 2 : Int), .int .u64 (word (G 2) 3 : Int), .int .u64 (word (G 3) 0 : Int), .int .u64 (word (G 3) 1 : Int), .int .u64 (word (G 3) 2 : Int), .int .u64 (word (G 3) 3 : Int)]
def IsT4 (w : World) (b : Nat) (G : Nat → Nat → Bool) : Prop := w.heap[b]? = some (.cells #[.int .u64 (word (G 0) 0 : Int), .int .u64 (word (G 0) 1 : Int), .int .u64 (word (G 0) 2 : Int), .int .u64 (word (G 0) 3 : Int), .int .u64 (word (G 1) 0 : Int), .int .u64 (word (G 1) 1 : Int), .int .u64 (word (G 1) 2 : Int), .int .u64 (word (G 1) 3 : Int), .int .u64 (word (G 2) 0 : Int), .int .u64 (word (G 2) 1 : Int), .int .u64 (word (G 2) 2 : Int), .int .u64 (word (G 2) 3 : Int), .int .u64 (word (G 3) 0 : Int), .int .u64 (word (G 3) 1 : Int), .int .u64 (word (G 3) 2 : Int), .int .u64 (word (G 3) 3 : Int)] 46 (0, 0))
theorem IsT4.new (w : World) (G : Nat → Nat → Bool) : IsT4 (w.alloc (.cells #[.int .u64 (word (G 0) 0 : Int), .int .u64 (word (G 0) 1 : Int), .int .u64 (word (G 0) 2 : Int), .int .u64 (word (G 0) 3 : Int), .int .u64 (word (G 1) 0 : Int), .int .u64 (word (G 1) 1 : Int), .int .u64 (word (G 1) 2 : Int), .int .u64 (word (G 1) 3 : Int), .int .u64 (word (G 2) 0 : Int), .int .u64 (word (G 2) 1 : Int), .int .u64 (word (G 2) 2 : Int), .int .u64 (word (G 2) 3 : Int), .int .u64 (word (G 3) 0 : Int), .int .u64 (word (G 3) 1 : Int), .int .u64 (word (G 3) 2 : Int), .int .u64 (word (G 3) 3 : Int)] 46)) w.heap.size G := Go.Deep.blk_alloc_new _ _
theorem IsT4.lt {w : World} {b : Nat} {G : Nat → Nat → Bool} (h : IsT4 w b G) : b < w.heap.size := (Array.getElem?_eq_some_iff.1 h).1
theorem IsT4.cells {w : World} {b : Nat} {G : Nat → Nat → Bool} (h : IsT4 w b G) {i : Nat} (hi : i < 4) : w.cell? ⟨b, i * 4, none⟩ = some (.int .u64 (word (G i) 0 : Int)) ∧ w.cell? ⟨b, i * 4 + 1, none⟩ = some (.int .u64 (word (G i) 1 : Int)) ∧ w.cell? ⟨b, i * 4 + 2, none⟩ = some (.int .u64 (word (G i) 2 : Int)) ∧ w.cell? ⟨b, i * 4 + 3, none⟩ = some (.int .u64 (word (G i) 3 : Int)) := by
  unfold IsT4 at h
  have : i = 0 ∨ i = 1 ∨ i = 2 ∨ i = 3 := by omega
  rw [cell_of_row _ _ _ _ _ _ h, cell_of_row _ _ _ _ _ _ h, cell_of_row _ _ _ _ _ _ h, cell_of_row _ _ _ _ _ _ h]
  rcases this with rfl | rfl | rfl | rfl <;> exact ⟨rfl, rfl, rfl, rfl⟩
end Go.Proofs.YtancdjjhjfhcbaaGreat
