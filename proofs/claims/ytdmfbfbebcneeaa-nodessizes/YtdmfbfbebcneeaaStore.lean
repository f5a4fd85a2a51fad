/-
  A store in memory: its cells, its words, its names, its table and its cache; what the calls that only look tell.
-/
import Derived.Test.YtdmfbfbebcneeaaMdl
import Derived.Test.YtdmfbfbebcneeaaBit
import Derived.Test.YtdmfbfbebcneeaaDrive
import Derived.Test.YtdmfbfbebcneeaaMap
import Derived.Test.YtdmfbfbebcneeaaOwn
import Derived.Test.YtdmfbfbebcneeaaOdStore
namespace Go.Proofs.Ytdmfbfbebcneeaa
open Go Go.RowKit

/-- What lies where, and what the cells hold. -/
structure Ins where
  P : Nat
  R : Nat
  mp : Nat
  ad : Option Addr
  cap : Nat
  lines : Nat
  c : Nat → Int
  wd : Nat → Int
  nm : Int → Option Int
  l : Nat → Nat
  on : Bool

/-- The cells of a store. -/
def stCell (n : Nat) (v l : Nat → Nat) (room : Nat) (ad : Option Addr) (L cap P mp lines : Nat) (on : Bool) (i : Nat) : Value :=
  if i < 17 then Od.ordCell n v l i
  else if i = 17 then .int .i64 (room : Int)
  else if i = 18 then .slice ad L cap
  else if i = 19 then .pointer (some ⟨P, 0, none⟩)
  else if i = 20 then .int .i64 0
  else if i = 21 then .int .i64 ((2 * room : Nat) : Int)
  else if i = 22 then .map (some mp)
  else if i = 23 then .pointer (some ⟨P, 0, none⟩)
  else if i = 24 then .int .i64 ((2 * room : Nat) : Int)
  else if i = 25 then .int .i64 (lines : Int)
  else .bool on

/-- A node's word. -/
def ndZ (d : Nd) : Int := nodeZ (d.1 : Int) (d.2.1 : Int) (d.2.2 : Int)

/-- What holds of a store's cells, without a memory. -/
structure Pu (M : Mdl) (I : Ins) : Prop where
  ok : M.Ok
  room1 : 1 ≤ M.room
  room2 : M.room ≤ 32768
  lines1 : 1 ≤ I.lines
  lines2 : I.lines ≤ 1024
  hs : M.hs = List.range' 2 M.hs.length
  wd : ∀ i, i < M.hs.length → I.wd i = ndZ (M.nd (i + 2))
  fit : Ch.U64 I.c
  good : Tb.Good (2 * M.room) I.c
  tab : ∀ s, s < 2 * M.room → ¬ I.c s = 0 → ∃ i, i < M.hs.length ∧ I.c s = I.wd i ∧ I.nm (s : Int) = some ((i : Int) + 2)
  all : ∀ i, i < M.hs.length → ∃ s, s < 2 * M.room ∧ I.c s = I.wd i
  cnt : Tb.cnt I.c (2 * M.room) = M.hs.length
  cch : ∀ key, 0 ≤ key → key ≤ 18446744073709551615 → Ch.Hits I.c (Ch.line (2 * M.room) I.lines key) key → ∃ i, i < M.hs.length ∧ key = I.wd i ∧ Ch.jn (Ch.lo (I.c (Ch.line (2 * M.room) I.lines key + 2))) (Ch.lo (I.c (Ch.line (2 * M.room) I.lines key + 3))) = (i : Int) + 2

/-- A store at S. -/
structure StI (w : World) (S : Nat) (M : Mdl) (I : Ins) : Prop where
  blk : w.rowIs S 88 27 (stCell M.n M.v I.l M.room I.ad M.hs.length I.cap I.P I.mp I.lines I.on)
  mem : ∃ o f, IsMem w I.P I.R (2 * M.room + 4 * I.lines) I.c o f
  own : OwnR 44 w 0 I.ad M.hs.length I.cap (fun i => .int .u64 (I.wd i))
  map : IsMap w I.mp I.nm
  pu : Pu M I

/-- The blocks of a store. -/
def Fp (S : Nat) (I : Ins) (k : Nat) : Prop := k = S ∨ k = I.P ∨ k = I.R ∨ k = I.mp ∨ At I.ad k

section
variable {w w' : World} {S : Nat} {M : Mdl} {I : Ins}
theorem Pu.mem_iff (p : Pu M I) {x : Nat} : x ∈ M.hs ↔ 2 ≤ x ∧ x < 2 + M.hs.length := by
  have h := p.hs
  generalize M.hs.length = L at h ⊢
  rw [h, List.mem_range'_1]
theorem Pu.node_iff (p : Pu M I) {x : Nat} : M.isNode x ↔ x < 2 + M.hs.length := by
  unfold Mdl.isNode
  rw [p.mem_iff]
  omega
theorem Pu.len (p : Pu M I) : M.hs.length ≤ 32768 := by have := p.ok.len; have := p.room2; omega

theorem StI.cell (h : StI w S M I) {i : Nat} (hi : i < 27) : w.cell? ⟨S, i, none⟩ = some (stCell M.n M.v I.l M.room I.ad M.hs.length I.cap I.P I.mp I.lines I.on i) := h.blk.cell hi
theorem StI.free (h : StI w S M I) (i : Nat) : w.frozen? ⟨S, i, none⟩ = false := h.blk.frozen i
theorem StI.c0 (h : StI w S M I) : w.cell? ⟨S, 0, none⟩ = some (.int .i64 (M.n : Int)) := h.cell (i := 0) (by omega)
theorem StI.c17 (h : StI w S M I) : w.cell? ⟨S, 17, none⟩ = some (.int .i64 (M.room : Int)) := h.cell (i := 17) (by omega)
theorem StI.c18 (h : StI w S M I) : w.cell? ⟨S, 18, none⟩ = some (.slice I.ad M.hs.length I.cap) := h.cell (i := 18) (by omega)
theorem StI.c22 (h : StI w S M I) : w.cell? ⟨S, 22, none⟩ = some (.map (some I.mp)) := h.cell (i := 22) (by omega)
theorem StI.c26 (h : StI w S M I) : w.cell? ⟨S, 26, none⟩ = some (.bool I.on) := h.cell (i := 26) (by omega)
theorem StI.ordc (h : StI w S M I) {i : Nat} (hi : i < 17) : w.cell? ⟨S, i, none⟩ = some (Od.ordCell M.n M.v I.l i) := by
  rw [h.cell (by omega)]
  unfold stCell
  rw [if_pos hi]
theorem StI.kind (h : StI w S M I) : ∃ cs, w.heap[S]? = some (.cells cs 88 (0, 0)) := by obtain ⟨cs, hb, _⟩ := h.blk; exact ⟨cs, hb⟩
theorem StI.ltS (h : StI w S M I) : S < w.heap.size := h.blk.lt
theorem StI.lt (h : StI w S M I) : ∀ k, Fp S I k → k < w.heap.size := by
  obtain ⟨o, f, m⟩ := h.mem
  rintro k (rfl | rfl | rfl | rfl | e)
  · exact h.ltS
  · exact m.ltP
  · exact m.ltR
  · exact h.map.lt
  · exact (h.own.block k e).2
/-- What a store's blocks are. -/
def stKind (o : Obj) : Prop := (∃ cs t, o = .cells cs t (0, 0) ∧ (t = 88 ∨ t = 107 ∨ t = 155 ∨ t = 44)) ∨ ∃ es ck, o = .map es ck
theorem StI.kinds (h : StI w S M I) : ∀ k, Fp S I k → ∃ o, w.heap[k]? = some o ∧ stKind o := by
  obtain ⟨o, f, m⟩ := h.mem
  rintro k (rfl | rfl | rfl | rfl | e)
  · obtain ⟨cs, hb⟩ := h.kind
    exact ⟨_, hb, .inl ⟨cs, _, rfl, .inl rfl⟩⟩
  · exact ⟨_, m.head, .inl ⟨_, _, rfl, .inr (.inl rfl)⟩⟩
  · obtain ⟨cs, hb, _⟩ := m.row
    exact ⟨_, hb, .inl ⟨cs, _, rfl, .inr (.inr (.inl rfl))⟩⟩
  · obtain ⟨es, ck, l, hb, _⟩ := h.map
    exact ⟨_, hb, .inr ⟨es, ck, rfl⟩⟩
  · obtain ⟨cur, hb⟩ := h.own.kind k e
    exact ⟨_, hb, .inl ⟨cur, _, rfl, .inr (.inr (.inr rfl))⟩⟩
/-- What others did to their own blocks leaves a store alone. -/
theorem StI.kept (h : StI w S M I) (k : ∀ b, Fp S I b → w'.heap[b]? = w.heap[b]?) : StI w' S M I := by
  obtain ⟨o, f, m⟩ := h.mem
  exact ⟨h.blk.of_block (k _ (.inl rfl)), ⟨o, f, m.of_blocks (k _ (.inr (.inl rfl))) (k _ (.inr (.inr (.inl rfl))))⟩, h.own.kept fun b hb => k b (.inr (.inr (.inr (.inr hb)))), h.map.same (k _ (.inr (.inr (.inr (.inl rfl))))), h.pu⟩
theorem StI.below (h : StI w S M I) (k : Below w.heap.size w w') : StI w' S M I := h.kept fun b hb => k.block b (h.lt b hb)
theorem StI.new (h : StI w S M I) (o : Obj) : StI (w.alloc o) S M I := h.kept fun b hb => Below.heap_alloc _ _ _ (h.lt b hb)
theorem StI.drew (h : StI w S M I) : StI w.drew S M I := h.kept fun _ _ => rfl

/-- A store as its table sees it. -/
theorem StI.tb (h : StI w S M I) : ∃ o f, Tb.Sys w I.P I.R (2 * M.room + 4 * I.lines) S 0 (2 * M.room) I.c o f := by
  obtain ⟨o, f, m⟩ := h.mem
  obtain ⟨cs, hb, hs, hc⟩ := h.blk
  have r1 := h.pu.room1
  have r2 := h.pu.room2
  have l2 := h.pu.lines2
  exact ⟨o, f, m, ⟨cs, hb, hc 19 (by omega), hc 20 (by omega), hc 21 (by omega)⟩, by omega, by omega, by omega⟩
/-- A store as its cache sees it. -/
theorem StI.ch (h : StI w S M I) : ∃ o f, Ch.Sys w I.P I.R (2 * M.room + 4 * I.lines) S (2 * M.room) I.lines I.c o f := by
  obtain ⟨o, f, m⟩ := h.mem
  obtain ⟨cs, hb, hs, hc⟩ := h.blk
  have r2 := h.pu.room2
  have l1 := h.pu.lines1
  have l2 := h.pu.lines2
  exact ⟨o, f, m, ⟨cs, hb, hc 23 (by omega), hc 24 (by omega), hc 25 (by omega)⟩, by omega, by omega, by omega, h.pu.fit⟩

theorem vars_any (h : StI w S M I) :
    Calls Try.prog 10 #[.pointer (some ⟨S, 0, none⟩)] w fun e w' => e = .returned (.int .i64 (M.n : Int)) ∧ w' = w := by
  have K := Od.slen_any h.c0
  go_enter Try.func10, Try.ntmps10
  go_wp2_with (first
    | (go_at_call 29; refine K.mono ?_; clear K; rintro e w ⟨rfl, rfl⟩))
  go_ret
  exact ⟨rfl, rfl⟩
theorem room_any (h : StI w S M I) :
    Calls Try.prog 11 #[.pointer (some ⟨S, 0, none⟩)] w fun e w' => e = .returned (.int .i64 (M.room : Int)) ∧ w' = w := by
  have c := h.c17
  go_enter Try.func11, Try.ntmps11
  go_wp2
  go_ret
  exact ⟨rfl, rfl⟩
theorem slen_any (h : StI w S M I) :
    Calls Try.prog 18 #[.pointer (some ⟨S, 0, none⟩)] w fun e w' => e = .returned (.int .i64 (M.hs.length : Int)) ∧ w' = w := by
  have c := h.c18
  go_enter Try.func18, Try.ntmps18
  go_wp2
  go_ret
  exact ⟨rfl, rfl⟩
theorem is_any (h : StI w S M I) (x : Nat) (hx : x < 4294967296) :
    Calls Try.prog 27 #[.pointer (some ⟨S, 0, none⟩), .int .u32 (x : Int)] w fun e w' => e = .returned (.bool (decide (M.isNode x))) ∧ w' = w := by
  have c := h.c18
  have hl := h.pu.len
  by_cases hn : M.isNode x
  · rw [decide_eq_true hn]
    have hi : (x : Int) < 2 + (M.hs.length : Int) := by have := h.pu.node_iff.1 hn; omega
    clear hn
    generalize M.hs.length = L at c hl hi
    go_enter Try.func27, Try.ntmps27
    go_wp2
    go_ret
    exact ⟨rfl, rfl⟩
  · rw [decide_eq_false hn]
    have hi : ¬ (x : Int) < 2 + (M.hs.length : Int) := fun e => hn (h.pu.node_iff.2 (by omega))
    clear hn
    generalize M.hs.length = L at c hl hi
    go_enter Try.func27, Try.ntmps27
    go_wp2
    go_ret
    exact ⟨rfl, rfl⟩
end
end Go.Proofs.Ytdmfbfbebcneeaa
