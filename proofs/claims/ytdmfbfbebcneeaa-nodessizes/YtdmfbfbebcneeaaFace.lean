/-
  A store by its face alone: what each call tells, what it makes.
-/
import Derived.Test.YtdmfbfbebcneeaaMake
namespace Go.Proofs.Ytdmfbfbebcneeaa
open Go Go.RowKit

/-- A store at S, of the blocks F, that is M. -/
def St (w : World) (S : Nat) (F : Nat → Prop) (M : Mdl) : Prop := ∃ I, StI w S M I ∧ F = Fp S I

section
variable {w w' : World} {S : Nat} {F : Nat → Prop} {M : Mdl}
theorem St.ok (h : St w S F M) : M.Ok := by obtain ⟨I, h, _⟩ := h; exact h.pu.ok
theorem St.room (h : St w S F M) : 1 ≤ M.room ∧ M.room ≤ 32768 := by obtain ⟨I, h, _⟩ := h; exact ⟨h.pu.room1, h.pu.room2⟩
theorem St.lt (h : St w S F M) : ∀ k, F k → k < w.heap.size := by obtain ⟨I, h, rfl⟩ := h; exact h.lt
theorem St.kinds (h : St w S F M) : ∀ k, F k → ∃ o, w.heap[k]? = some o ∧ stKind o := by obtain ⟨I, h, rfl⟩ := h; exact h.kinds
theorem St.kept (h : St w S F M) (k : ∀ b, F b → w'.heap[b]? = w.heap[b]?) : St w' S F M := by obtain ⟨I, h, rfl⟩ := h; exact ⟨I, h.kept k, rfl⟩
theorem St.below (h : St w S F M) (k : Below w.heap.size w w') : St w' S F M := h.kept fun b hb => k.block b (h.lt b hb)
theorem St.new (h : St w S F M) (o : Obj) : St (w.alloc o) S F M := h.kept fun b hb => Below.heap_alloc _ _ _ (h.lt b hb)
theorem St.drew (h : St w S F M) : St w.drew S F M := h.kept fun _ _ => rfl
theorem St.drewN (h : St w S F M) (q : Nat) : St (w.drewN q) S F M := h.kept fun _ _ => rfl
/-- A row of another kind lies apart from a store. -/
theorem St.row (h : St w S F M) {k : Nat} {cs : Array Value} {t : TypeId} {fr : Nat × Nat} (hk : w.heap[k]? = some (.cells cs t fr)) (ht : t ≠ 88 ∧ t ≠ 107 ∧ t ≠ 155 ∧ t ≠ 44) : ¬ F k := fun e => by
  obtain ⟨o, ho, hs⟩ := h.kinds k e
  rw [hk] at ho
  obtain rfl := Option.some.inj ho
  rcases hs with ⟨cs', t', e', q⟩ | ⟨es, ck, e'⟩
  · simp at e'
    obtain ⟨_, rfl, _⟩ := e'
    rcases q with q | q | q | q
    · exact ht.1 q
    · exact ht.2.1 q
    · exact ht.2.2.1 q
    · exact ht.2.2.2 q
  · cases e'
theorem St.own (h : St w S F M) {e : TypeId} {B n cap : Nat} {ad : Option Addr} {V : Nat → Value} (o : OwnR e w B ad n cap V) (ht : e ≠ 88 ∧ e ≠ 107 ∧ e ≠ 155 ∧ e ≠ 44) : ∀ k, At ad k → ¬ F k := fun k hk => by
  obtain ⟨cur, hc⟩ := o.kind k hk
  exact h.row hc ht
theorem Wf.own {F' : Nat → Prop} (g : Wf F F' w w') (h : St w S F M) {e : TypeId} {B n cap : Nat} {ad : Option Addr} {V : Nat → Value} (o : OwnR e w B ad n cap V) (ht : e ≠ 88 ∧ e ≠ 107 ∧ e ≠ 155 ∧ e ≠ 44) : OwnR e w' B ad n cap V :=
  o.kept fun b hb => g.block b (o.block b hb).2 (h.own o ht b hb)
theorem Wf.row {F' : Nat → Prop} (g : Wf F F' w w') (h : St w S F M) {e : TypeId} {b n : Nat} {V : Nat → Value} (o : w.rowIs b e n V) (ht : e ≠ 88 ∧ e ≠ 107 ∧ e ≠ 155 ∧ e ≠ 44) : w'.rowIs b e n V := by
  obtain ⟨cs, hb, _⟩ := id o
  exact o.of_block (g.block b o.lt (h.row hb ht))

theorem s_vars (h : St w S F M) :
    Calls Try.prog 10 #[.pointer (some ⟨S, 0, none⟩)] w fun e w' => e = .returned (.int .i64 (M.n : Int)) ∧ w' = w := by obtain ⟨I, h, rfl⟩ := h; exact vars_any h
theorem s_room (h : St w S F M) :
    Calls Try.prog 11 #[.pointer (some ⟨S, 0, none⟩)] w fun e w' => e = .returned (.int .i64 (M.room : Int)) ∧ w' = w := by obtain ⟨I, h, rfl⟩ := h; exact room_any h
theorem s_len (h : St w S F M) :
    Calls Try.prog 18 #[.pointer (some ⟨S, 0, none⟩)] w fun e w' => e = .returned (.int .i64 (M.hs.length : Int)) ∧ w' = w := by obtain ⟨I, h, rfl⟩ := h; exact slen_any h
theorem s_is (h : St w S F M) (x : Nat) (hx : x < 4294967296) :
    Calls Try.prog 27 #[.pointer (some ⟨S, 0, none⟩), .int .u32 (x : Int)] w fun e w' => e = .returned (.bool (decide (M.isNode x))) ∧ w' = w := by obtain ⟨I, h, rfl⟩ := h; exact is_any h x hx
theorem s_level (h : St w S F M) (x : Nat) (hx : x < 4294967296) :
    Calls Try.prog 15 #[.pointer (some ⟨S, 0, none⟩), .int .u32 (x : Int)] w fun e w' => e = .returned (.int .i64 (M.levI x)) ∧ w' = w := by obtain ⟨I, h, rfl⟩ := h; exact level_any h x hx
theorem s_low (h : St w S F M) (x : Nat) (hx : x < 4294967296) :
    Calls Try.prog 16 #[.pointer (some ⟨S, 0, none⟩), .int .u32 (x : Int)] w fun e w' => e = .returned (.int .u32 (M.lowN x : Int)) ∧ w' = w := by obtain ⟨I, h, rfl⟩ := h; exact low_any h x hx
theorem s_high (h : St w S F M) (x : Nat) (hx : x < 4294967296) :
    Calls Try.prog 17 #[.pointer (some ⟨S, 0, none⟩), .int .u32 (x : Int)] w fun e w' => e = .returned (.int .u32 (M.highN x : Int)) ∧ w' = w := by obtain ⟨I, h, rfl⟩ := h; exact high_any h x hx
theorem s_order (h : St w S F M) :
    Calls Try.prog 21 #[.pointer (some ⟨S, 0, none⟩)] w fun e w' => ∃ P l, e = .returned (.pointer (some ⟨P, 0, none⟩)) ∧ Od.IsOrd w' P M.n M.v l ∧ Below w.heap.size w w' ∧ w.heap.size ≤ P := by
  obtain ⟨I, h, rfl⟩ := h
  refine (order_any h).mono ?_
  rintro e w' ⟨rfl, o, b⟩
  exact ⟨_, _, rfl, o, b, Nat.le_refl _⟩
theorem s_all (h : St w S F M) :
    Calls Try.prog 28 #[.pointer (some ⟨S, 0, none⟩)] w fun e w' => ∃ g, e = .returned (.slice (some ⟨g, 0, none⟩) M.hs.length M.hs.length) ∧ w'.rowIs g 30 M.hs.length (fun i => .int .u32 (M.hs.getD i 0 : Nat)) ∧ Below w.heap.size w w' ∧ w.heap.size ≤ g := by
  obtain ⟨I, h, rfl⟩ := h
  refine (all_any h).mono ?_
  rintro e w' ⟨rfl, o, b⟩
  refine ⟨_, rfl, o.congr fun i hi => ?_, b, Nat.le_refl _⟩
  have e : M.hs.getD i 0 = i + 2 := by
    have := h.pu.hs
    generalize M.hs.length = L at hi this
    rw [this, List.getD_eq_getElem?_getD, List.getElem?_range' hi]
    simp [Nat.add_comm]
  rw [e]
  simp
theorem s_mk_var (h : St w S F M) (l : Int) (x y : Value) (hl : l < 0 ∨ (M.n : Int) ≤ l) :
    Calls Try.prog 13 #[.pointer (some ⟨S, 0, none⟩), .int .i64 l, x, y] w fun e w' => e = .returned (.tuple #[.int .u32 0, .int .i64 40]) ∧ w' = w := by obtain ⟨I, h, rfl⟩ := h; exact mk_var h l x y hl
theorem s_mk_node (h : St w S F M) (l a b : Nat) (hl : l < M.n) (ha : a < 4294967296) (hb : b < 4294967296) (hn : ¬ M.isNode a ∨ ¬ M.isNode b) :
    Calls Try.prog 13 #[.pointer (some ⟨S, 0, none⟩), .int .i64 (l : Int), .int .u32 (a : Int), .int .u32 (b : Int)] w fun e w' => e = .returned (.tuple #[.int .u32 0, .int .i64 101]) ∧ w' = w := by obtain ⟨I, h, rfl⟩ := h; exact mk_node h l a b hl ha hb hn
theorem s_mk_level (h : St w S F M) (l a b : Nat) (hl : l < M.n) (na : M.isNode a) (nb : M.isNode b) (hn : M.lev a ≤ l ∨ M.lev b ≤ l) :
    Calls Try.prog 13 #[.pointer (some ⟨S, 0, none⟩), .int .i64 (l : Int), .int .u32 (a : Int), .int .u32 (b : Int)] w fun e w' => e = .returned (.tuple #[.int .u32 0, .int .i64 100]) ∧ w' = w := by obtain ⟨I, h, rfl⟩ := h; exact mk_level h l a b hl na nb hn
theorem s_mk_same (h : St w S F M) (l a : Nat) (hl : l < M.lev a) (na : M.isNode a) :
    Calls Try.prog 13 #[.pointer (some ⟨S, 0, none⟩), .int .i64 (l : Int), .int .u32 (a : Int), .int .u32 (a : Int)] w fun e w' => e = .returned (.tuple #[.int .u32 (a : Int), .int .i64 0]) ∧ w' = w := by obtain ⟨I, h, rfl⟩ := h; exact mk_same h l a hl na
theorem s_mk_there (h : St w S F M) (l a b : Nat) (f : M.Fits (l, a, b)) (x : Nat) (hx : x ∈ M.hs) (e : M.nd x = (l, a, b)) :
    Calls Try.prog 13 #[.pointer (some ⟨S, 0, none⟩), .int .i64 (l : Int), .int .u32 (a : Int), .int .u32 (b : Int)] w fun e w' => e = .returned (.tuple #[.int .u32 (x : Int), .int .i64 0]) ∧ ∃ F', St w' S F' M ∧ Wf F F' w w' := by
  obtain ⟨I, h, rfl⟩ := h
  obtain ⟨i, rfl⟩ : ∃ i, x = i + 2 := ⟨x - 2, by have := (h.pu.mem_iff.1 hx).1; omega⟩
  refine (mk_there h l a b f i (by have := (h.pu.mem_iff.1 hx).2; omega) e).mono ?_
  rintro e w' ⟨rfl, I', h', b'⟩
  exact ⟨by simp, _, ⟨I', h', rfl⟩, b'⟩
theorem s_mk_full (h : St w S F M) (l a b : Nat) (f : M.Fits (l, a, b)) (no : ∀ k ∈ M.hs, M.nd k ≠ (l, a, b)) (full : M.hs.length = M.room) :
    Calls Try.prog 13 #[.pointer (some ⟨S, 0, none⟩), .int .i64 (l : Int), .int .u32 (a : Int), .int .u32 (b : Int)] w fun e w' => e = .returned (.tuple #[.int .u32 0, .int .i64 60]) ∧ ∃ F', St w' S F' M ∧ Wf F F' w w' := by
  obtain ⟨I, h, rfl⟩ := h
  refine (mk_full h l a b f no full).mono ?_
  rintro e w' ⟨rfl, I', h', b'⟩
  exact ⟨rfl, _, ⟨I', h', rfl⟩, b'⟩
theorem s_mk_new (h : St w S F M) (l a b : Nat) (f : M.Fits (l, a, b)) (no : ∀ k ∈ M.hs, M.nd k ≠ (l, a, b)) (room : M.hs.length < M.room) :
    Calls Try.prog 13 #[.pointer (some ⟨S, 0, none⟩), .int .i64 (l : Int), .int .u32 (a : Int), .int .u32 (b : Int)] w fun e w' => ∃ x : Nat, e = .returned (.tuple #[.int .u32 (x : Int), .int .i64 0]) ∧ ∃ F' M', M.Adds x (l, a, b) M' ∧ St w' S F' M' ∧ Wf F F' w w' ∧ x ≤ M.room + 1 := by
  obtain ⟨I, h, rfl⟩ := h
  have hp := h.pu
  refine (mk_new h l a b f no room).mono ?_
  rintro e w' ⟨rfl, I', h', b'⟩
  exact ⟨M.hs.length + 2, by simp, _, _, hp.adds, ⟨I', h', rfl⟩, b', by omega⟩
end
theorem s_new (n r : Nat) (w : World) (h1 : 1 ≤ n) (h8 : n ≤ 8) (r1 : 1 ≤ r) (r2 : r ≤ 32768) :
    Calls Try.prog 9 #[.int .i64 (n : Int), .int .i64 (r : Int)] w fun e w' => ∃ S F, e = .returned (.tuple #[.pointer (some ⟨S, 0, none⟩), .int .i64 0]) ∧ St w' S F (Mdl.empty n r) ∧ Below w.heap.size w w' ∧ ∀ k, F k → w.heap.size ≤ k := by
  refine (new_ok n r w h1 h8 r1 r2).mono ?_
  rintro e w' ⟨S, I, rfl, h, b, k⟩
  exact ⟨S, _, rfl, ⟨I, h, rfl⟩, b, k⟩

/-- What Mk comes to, whatever is asked. -/
structure MkTold (M : Mdl) (l : Int) (a b : Nat) (x : Nat) (er : Int) (M' : Mdl) : Prop where
  var : (l < 0 ∨ (M.n : Int) ≤ l) → x = 0 ∧ er = 40 ∧ M' = M
  node : 0 ≤ l → l < M.n → (¬ M.isNode a ∨ ¬ M.isNode b) → x = 0 ∧ er = 101 ∧ M' = M
  level : 0 ≤ l → l < M.n → M.isNode a → M.isNode b → ((M.lev a : Int) ≤ l ∨ (M.lev b : Int) ≤ l) → x = 0 ∧ er = 100 ∧ M' = M
  same : 0 ≤ l → M.isNode a → l < M.lev a → a = b → x = a ∧ er = 0 ∧ M' = M
  fits : 0 ≤ l → M.Fits (l.toNat, a, b) → (∃ k ∈ M.hs, M.nd k = (l.toNat, a, b) ∧ x = k ∧ er = 0 ∧ M' = M) ∨ ((∀ k ∈ M.hs, M.nd k ≠ (l.toNat, a, b)) ∧ M.hs.length = M.room ∧ x = 0 ∧ er = 60 ∧ M' = M) ∨ ((∀ k ∈ M.hs, M.nd k ≠ (l.toNat, a, b)) ∧ M.hs.length < M.room ∧ er = 0 ∧ M.Adds x (l.toNat, a, b) M')
end Go.Proofs.Ytdmfbfbebcneeaa
