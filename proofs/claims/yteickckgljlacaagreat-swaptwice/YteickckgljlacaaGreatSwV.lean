/-
  Handles known by their functions, over swaps: what an answer that is there already comes to, a swap; slices of bytes.
-/
import Derived.Test.YteickckgljlacaaGreatSwT
namespace Go.Proofs.YteickckgljlacaaGreat.Sw
open Go Go.RowKit
open Rf (tab word IsTab)

/-- The block of a function. -/
def fo (F : Nat → Bool) : Obj := .cells #[.int .u64 (word F 0 : Int), .int .u64 (word F 1 : Int), .int .u64 (word F 2 : Int), .int .u64 (word F 3 : Int)] 24
theorem boxes2 (w : World) (F G : Nat → Bool) : IsTab ((w.alloc (fo F)).alloc (fo G)) w.heap.size F ∧ IsTab ((w.alloc (fo F)).alloc (fo G)) (w.heap.size + 1) G ∧ Below w.heap.size w ((w.alloc (fo F)).alloc (fo G)) := by
  refine ⟨(IsTab.new w F).alloc _, IsTab.newAt (by simp) G, ((Below.refl _ w).alloc (Nat.le_refl _) _).alloc (by simp) _⟩
theorem Out.tab {w w' : World} (o : Out w w') {b : Nat} {F : Nat → Bool} (h : IsTab w b F) : IsTab w' b F := o b _ _ _ h (by decide)
theorem Out.trans {a b c : World} (h : Out a b) (k : Out b c) : Out a c := fun i cs t fr hk ht => k i cs t fr (h i cs t fr hk ht) ht
/-- A slice of bytes in the world. -/
def BtAt (w : World) (ad : Option Addr) (n : Nat) (V : Nat → Nat) : Prop :=
  n = 0 ∨ ∃ b off, ad = some ⟨b, off, none⟩ ∧ b < w.heap.size ∧ ∀ i, i < n → w.cell? ⟨b, off + i, none⟩ = some (.int .u8 (V i : Int))
theorem bytes_of {W : World} {ad : Option Addr} {len : Nat} (h : len = 0 ∨ ∃ (b off : Nat) (Z : Nat → Int), ad = some ⟨b, off, none⟩ ∧ b < W.heap.size ∧ ∀ i, i < len → W.cell? ⟨b, off + i, none⟩ = some (.int .u8 (Z i)) ∧ (Lit.int .u8 (Z i)).wf = true) : ∃ V, BtAt W ad len V ∧ ∀ i, i < len → V i < 256 := by
  rcases h with h | ⟨b, off, Z, e, hb, hc⟩
  · exact ⟨fun _ => 0, .inl h, fun i _ => by show 0 < 256; omega⟩
  · refine ⟨fun i => (Z i).toNat, .inr ⟨b, off, e, hb, fun i hi => ?_⟩, fun i hi => ?_⟩
    · have w := wf_u8 (hc i hi).2
      rw [(hc i hi).1]
      congr 2
      show Z i = (((Z i).toNat : Nat) : Int)
      omega
    · have w := wf_u8 (hc i hi).2
      show (Z i).toNat < 256
      omega
theorem BtAt.kept {w w' : World} {ad : Option Addr} {n : Nat} {V : Nat → Nat} (h : BtAt w ad n V) (k : Below w.heap.size w w') : BtAt w' ad n V := by
  rcases h with h | ⟨b, off, rfl, hb, hc⟩
  · exact .inl h
  · exact .inr ⟨b, off, rfl, Nat.lt_of_lt_of_le hb k.size, fun i hi => by rw [k.cell hb]; exact hc i hi⟩
section
variable {W w w' : World} {S n r b : Nat} {l : Kl} {x y z k : Nat} {X Y Z : Nat → Bool} {M M' : Mdl} {er : Int}
/-- An answer that is there already. -/
theorem told_there (o : M.Ok) (o' : M'.Ok) (nx : M.isNode x) (e : Eqt (M.tbl x) Y) (t : Told M 0 Y y er M') : er = 0 ∧ y = x := by
  rcases t with ⟨rfl, q⟩ | ⟨_, _, q⟩
  · refine ⟨rfl, (Mdl.one_iff o' q.node (q.grew.isNode nx)).1 fun z hz => ?_⟩
    rw [q.grew.tbl o nx z, e z hz]
    exact q.tbl z hz
  · obtain ⟨G, p, no⟩ := q.miss
    exact absurd (Has.grew q.grew o (Prt.there o _ nx (Nat.le_refl _) ((Prt.like o (tbl_dep o nx (Nat.zero_le _)) e).2 p))) no
/-- What a call leaves whose answer is there already. -/
def There (W : World) (S n r : Nat) (l : Kl) (z : Nat) (w : World) (e : Ending) (w' : World) : Prop := e = .returned (.tuple #[.int .u32 (z : Int), .int .i64 0]) ∧ (∃ b', Sx W w' S n r l b') ∧ Out w w'
theorem left_there {F : Nat → Prop} {e : Ending} (s : St w S F M) (e1 : M.n = n) (e2 : M.room = r) (q : Kn M l) (B : Below W.heap.size W w) (f : ∀ k, F k → W.heap.size ≤ k) (hz : (z, Z) ∈ l) (eZ : Eqt Z Y) (h : Left S F w M 0 Y e w') : There W S n r l z w e w' := by
  obtain ⟨y, er, M', F', rfl, t, s', g⟩ := h
  obtain ⟨nz, ez⟩ := q _ hz
  have gr : Mdl.Grew M M' := by rcases t with ⟨_, t⟩ | ⟨_, _, t⟩ <;> exact t.grew
  obtain ⟨rfl, rfl⟩ := told_there s.ok s'.ok nz (ez.trans eZ) t
  exact ⟨rfl, ⟨M'.up, F', M', s', gr.n.trans e1, gr.room.trans e2, Nat.le_refl _, q.grew s.ok gr, Wf.far B g B.size f, g.after B.size f⟩, Out.of s g⟩
theorem and_there (h : Sx W w S n r l b) (hx : (x, X) ∈ l) (hy : (y, Y) ∈ l) (hz : (z, Z) ∈ l) (eZ : Eqt Z (fA X Y)) :
    Calls Tryz.prog 32 #[.pointer (some ⟨S, 0, none⟩), .int .u32 (x : Int), .int .u32 (y : Int)] w (There W S n r l z w) := by
  obtain ⟨F, M, s, e1, e2, e3, q, B, f⟩ := h
  obtain ⟨nx, ex⟩ := q _ hx
  obtain ⟨ny, ey⟩ := q _ hy
  refine (and_op s nx ny).mono fun e w' h => left_there s e1 e2 q B f hz (fun t ht => ?_) h
  rw [eZ t ht]
  unfold ans
  rw [ex t ht, ey t ht]
  rfl
theorem xor_there (h : Sx W w S n r l b) (hx : (x, X) ∈ l) (hy : (y, Y) ∈ l) (hz : (z, Z) ∈ l) (eZ : Eqt Z (fX X Y)) :
    Calls Tryz.prog 33 #[.pointer (some ⟨S, 0, none⟩), .int .u32 (x : Int), .int .u32 (y : Int)] w (There W S n r l z w) := by
  obtain ⟨F, M, s, e1, e2, e3, q, B, f⟩ := h
  obtain ⟨nx, ex⟩ := q _ hx
  obtain ⟨ny, ey⟩ := q _ hy
  refine (xor_op s nx ny).mono fun e w' h => left_there s e1 e2 q B f hz (fun t ht => ?_) h
  rw [eZ t ht]
  unfold ans
  rw [ex t ht, ey t ht]
  rfl
theorem Kn.swapped (p : Kept M M') (h : Kn M l) : Kn M' l := fun q hq => ⟨p.node _ (h q hq).1, by rw [p.tbl (h q hq).1]; exact (h q hq).2⟩
/-- A swap: there is no room, or it is done. -/
theorem swap_x (h : Sx W w S n r l b) (kn : k + 1 < n) :
    Calls Tryz.prog 18 #[.pointer (some ⟨S, 0, none⟩), .int .i64 (k : Int)] w (fun e w' => e = .returned (.int .i64 60) ∧ Below w.heap.size w w') ∨
    Calls Tryz.prog 18 #[.pointer (some ⟨S, 0, none⟩), .int .i64 (k : Int)] w (fun e w' => e = .returned (.int .i64 0) ∧ (∃ b', Sx W w' S n r l b') ∧ Out w w') := by
  obtain ⟨F, M, s, e1, e2, e3, q, B, f⟩ := h
  rcases swap_cases s (by rw [e1]; exact kn) with K | K
  · refine .inl (K.mono ?_)
    rintro e w' ⟨rfl, _, g⟩
    exact ⟨rfl, g⟩
  · refine .inr (K.mono ?_)
    rintro e w' ⟨rfl, F', M', p, _, s', g⟩
    have kp := p.kept s.ok
    exact ⟨rfl, ⟨M'.up, F', M', s', kp.n.trans e1, kp.room.trans e2, Nat.le_refl _, Kn.swapped kp q, Wf.far B g B.size f, g.after B.size f⟩, Out.of s g⟩
end
end Go.Proofs.YteickckgljlacaaGreat.Sw
