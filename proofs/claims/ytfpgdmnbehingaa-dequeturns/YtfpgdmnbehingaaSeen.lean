/-
  What is left is there, in its order: the row of what was seen, and the deque behind all turns.
-/
import Derived.Test.YtfpgdmnbehingaaSteals
namespace Go.Proofs.Ytfpgdmnbehingaa
open Go Go.RowKit

/-- Whether x is among the first i numbers of K. -/
def seenF (K : Nat → Int) : Nat → Nat → Bool
  | 0, _ => false
  | i + 1, x => seenF K i x || decide (K i = (x : Int))
theorem seenF_iff (K : Nat → Int) (i x : Nat) : seenF K i x = true ↔ ∃ j, j < i ∧ K j = (x : Int) := by
  induction i with
  | zero => simp [seenF]
  | succ i ih =>
    unfold seenF
    rw [Bool.or_eq_true, ih, decide_eq_true_eq]
    constructor
    · rintro (⟨j, h1, h2⟩ | h)
      · exact ⟨j, by omega, h2⟩
      · exact ⟨i, by omega, h⟩
    · rintro ⟨j, h1, h2⟩
      by_cases d : j = i
      · subst d; exact .inr h2
      · exact .inl ⟨j, by omega, h2⟩
section
variable {F T P L : Nat} {V K : Nat → Int}
theorem Book.unseen (B : Book F T V P K L) {i x : Nat} (hi : i < L) (hx : K i = (x : Int)) : seenF K i x = false := by
  cases e : seenF K i x with
  | false => rfl
  | true =>
    obtain ⟨j, h1, h2⟩ := (seenF_iff K i x).1 e
    exact absurd (h2.trans hx.symm) (B.inj j i h1 hi)
/-- The next one that isn't taken is the first one there. -/
theorem Book.next (B : Book F T V P K L) {v F' : Nat} (hv : 1 ≤ v) (hP : v ≤ P) (h1 : F ≤ F') (hlo : ∀ i, F ≤ i → i < F' → V i < (v : Int)) (hhi : ∀ i, F' ≤ i → i < T → (v : Int) ≤ V i) :
    (seenF K L v = true → ∀ i, F' ≤ i → i < T → (v : Int) + 1 ≤ V i) ∧ (seenF K L v = false → F' < T ∧ V F' = (v : Int) ∧ ∀ i, F' + 1 ≤ i → i < T → (v : Int) + 1 ≤ V i) := by
  constructor
  · intro e i q1 q2
    obtain ⟨j, r1, r2⟩ := (seenF_iff K L v).1 e
    have := (B.live i (by omega) q2).2.2 j r1
    have := hhi i q1 q2
    omega
  · intro e
    rcases B.all (v : Int) (by omega) (by omega) with ⟨j, r1, r2⟩ | ⟨i, r1, r2, r3⟩
    · have := (seenF_iff K L v).2 ⟨j, r1, r2⟩
      rw [e] at this
      cases this
    · have hi : F' ≤ i := by
        rcases Nat.lt_or_ge i F' with d | d
        · have := hlo i r1 d; omega
        · exact d
      have hF : i = F' := by
        rcases Nat.lt_or_ge F' i with d | d
        · have a1 := B.inc F' i h1 d r2
          have a2 := hhi F' (Nat.le_refl _) (by omega)
          omega
        · omega
      subst hF
      exact ⟨r2, r3, fun k q1 q2 => by have := B.inc i k r1 (by omega) q2; omega⟩
end

/-- The deque when nobody is under way, the statement's world, and the row of what was seen. -/
structure SeenI (W w : World) (G R T n F E : Nat) (V : Nat → Int) (tk : Value) (adP : Option Addr) (capP P B : Nat) (f : Nat → Bool) : Prop where
  has : Has W w R (n + 2) T 0 n F E V
  hd : ∃ ptr push stp, IsW w G R T ptr push stp tk (.slice adP P capP)
  seen : w.rowIs B 4 (P + 1) (fun x => .bool (f x))
section
variable {W w w' : World} {G R T n F E capP P B A : Nat} {V : Nat → Int} {tk : Value} {adP : Option Addr} {f : Nat → Bool} {S : Ac}
theorem SeenI.c12 (h : SeenI W w G R T n F E V tk adP capP P B f) : w.cell? ⟨G, 12, none⟩ = some (.slice adP P capP) := by obtain ⟨_, _, _, q⟩ := h.hd; exact q.c12
theorem SeenI.cell (h : SeenI W w G R T n F E V tk adP capP P B f) {x : Nat} (hx : x ≤ P) : w.cell? ⟨B, x, none⟩ = some (.bool (f x)) := h.seen.cell (by omega)
theorem SeenI.begun (h : SeenI W w G R T n F E V tk adP capP P B f) (z : Has W w' R (n + 2) T 0 n F E V) (k : Below w.heap.size w w') : SeenI W w' G R T n F E V tk adP capP P B f := by
  obtain ⟨p, q, r, hd⟩ := h.hd
  exact ⟨z, ⟨p, q, r, hd.of_block (k.block _ hd.lt)⟩, h.seen.of_block (k.block _ h.seen.lt)⟩
theorem SeenI.ran {F' E' : Nat} (h : SeenI W w G R T n F E V tk adP capP P B f) (a : IsAct w A T S) (z : Has W w' R (n + 2) T 0 n F' E' V) (k : Went (Foot (R + 1) R A) w w') : SeenI W w' G R T n F' E' V tk adP capP P B f := by
  obtain ⟨p, q, r, hd⟩ := h.hd
  obtain ⟨c, s, _⟩ := h.has
  obtain ⟨_, _, H⟩ := s.sys
  have hn := H.neG hd
  obtain ⟨cur, hB, _⟩ := h.seen
  refine ⟨z, ⟨p, q, r, hd.of_block (k.block _ hd.lt fun e => ?_)⟩, h.seen.of_block (k.block _ h.seen.lt fun e => ?_)⟩
  · rcases e with e | e | e
    · exact hn.1 e.symm
    · exact hn.2.1 e.symm
    · exact hd.neA a e.symm
  · rcases e with e | e | e
    · have := H.mem.head; rw [← e, hB] at this; simp at this
    · obtain ⟨cs, hb', _⟩ := H.mem.row
      rw [← e, hB] at hb'
      simp at hb'
    · unfold IsAct at a; rw [← e, hB] at a; simp at a
end

section
variable {W w w' : World} {G R T n capK L capP P B : Nat} {c : Nat → Int} {o : Int} {ptr : Nat → Option Nat} {Ss : Nat → Ac} {push : Int} {stp : Nat → Nat} {adK adP : Option Addr} {K : Nat → Int}
/-- What is done to a row of truths is beside it. -/
theorem WorldI.beside {m : Nat} {f : Nat → Value} (h : WorldI W w G R T n c o ptr Ss push stp adK capK L K adP capP P) (hB : w.rowIs B 4 m f) (hWB : W.heap.size ≤ B) (k : Only B w w') : WorldI W w' G R T n c o ptr Ss push stp adK capK L K adP capP P := by
  obtain ⟨f0, H⟩ := h.sys
  obtain ⟨Y, hY⟩ := h.put
  obtain ⟨cur, hb, _⟩ := hB
  obtain ⟨cur2, hc⟩ := h.hd.kind
  refine ⟨⟨f0, H.kept fun b hb' => k.block b ?_ ?_⟩, h.hd.of_block (k.block _ h.hd.lt fun e => ?_), h.took.kept fun b hb' => k.block b (h.took.block b hb').2 fun e => ?_, ⟨Y, hY.kept fun b hb' => k.block b (hY.block b hb').2 fun e => ?_⟩, h.apart, fun q hq A e => ?_, h.inj, h.old.trans (k.below h.size fun i e => by omega), h.hR, h.hG⟩
  · rcases hb' with rfl | rfl | rfl
    · exact H.mem.ltP
    · exact H.mem.ltR
    · exact H.ltT
  · rcases hb' with rfl | rfl | rfl
    · exact fun e => by have := H.mem.head; rw [e, hb] at this; simp at this
    · exact fun e => by
        obtain ⟨cs, hb', _⟩ := H.mem.row
        rw [e, hb] at hb'
        simp at hb'
    · exact fun e => by have := H.tab; rw [e, hb] at this; simp at this
  · rw [e, hb] at hc; simp at hc
  · subst e; exact h.took.apart hb (by decide) hb'
  · subst e; exact hY.apart hb (by decide) hb'
  · obtain ⟨ka, hW⟩ := h.acts q hq A e
    refine ⟨ka.kept (k.block _ ka.lt fun z => ?_), hW⟩
    unfold IsAct at ka
    rw [z, hb] at ka
    simp at ka
end

theorem info4 : (Try.prog.info? 4).map (fun i => (i.zero, i.size, i.bytes)) = some (some (.bool false), 1, 1) := by kernel_rfl
theorem make_bools (m : Nat) (hm : m ≤ 1000000) (w : World) :
    (Instr.makeSlice 47 (.int .i64 (m : Int)) (.int .i64 (m : Int))).run Try.prog w = .ok (.slice (some ⟨w.heap.size, 0, none⟩) m m) (w.alloc (.cells (madeCells #[.bool false] m) 4)) := by
  obtain ⟨i, hi, hzz⟩ := Option.map_eq_some_iff.1 info4
  simp only [Prod.mk.injEq] at hzz
  obtain ⟨hz, hs, hb⟩ := hzz
  have hr := run_make (P := Try.prog) w 47 4 i _ Try.underlying47 hi hz .i64 .i64 m m (by omega) (Int.le_refl _) (by rw [hb]; omega) (by omega)
  have hc : (Value.bool false).cells = #[.bool false] := by kernel_rfl
  rw [hs, Nat.mul_one, hc, Int.toNat_natCast] at hr
  exact hr

/-- The statement's world as it is laid. -/
theorem IsW.made (w : World) (R T : Nat) : IsW (w.alloc (.cells #[.pointer (some ⟨R + 1, 0, none⟩), .pointer (some ⟨T, 0, none⟩), .pointer none, .int .u64 0, .pointer none, .pointer none, .pointer none, .int .i64 0, .int .i64 0, .int .i64 0, .int .i64 0, .slice none 0 0, .slice none 0 0, .bool true] 44)) w.heap.size R T (fun _ => none) 0 (fun _ => 0) (.slice none 0 0) (.slice none 0 0) :=
  World.rowIs_alloc w #[.pointer (some ⟨R + 1, 0, none⟩), .pointer (some ⟨T, 0, none⟩), .pointer none, .int .u64 0, .pointer none, .pointer none, .pointer none, .int .i64 0, .int .i64 0, .int .i64 0, .int .i64 0, .slice none 0 0, .slice none 0 0, .bool true] 44 (wcell R T (fun _ => none) 0 (fun _ => 0) (.slice none 0 0) (.slice none 0 0)) fun i hi => by
    rcases IsW.fourteen (show i < 14 from hi) with e | e | e | e | e | e | e | e | e | e | e | e | e | e <;> subst e <;> rfl
/-- An act that is done and has nothing. -/
def idle : Ac := ⟨0, 0, 0, 0, 0, false⟩
theorem idle_fit : Fit idle := by refine ⟨?_, ?_, ?_, ?_, ?_, ?_⟩ <;> simp [idle]
theorem Turn.start {W w : World} {R T n : Nat} (h : Stand W w R (n + 2) T 0 n (fun _ => 0)) (h0 : ∃ f, Sys w (R + 1) R (n + 2) T 0 n (fun _ => 0) 0 f) : Turn W (w.alloc (.cells #[.pointer (some ⟨R + 1, 0, none⟩), .pointer (some ⟨T, 0, none⟩), .pointer none, .int .u64 0, .pointer none, .pointer none, .pointer none, .int .i64 0, .int .i64 0, .int .i64 0, .int .i64 0, .slice none 0 0, .slice none 0 0, .bool true] 44)) w.heap.size R T n 0 (fun _ => none) (fun _ => idle) := by
  obtain ⟨f, H⟩ := h0
  refine ⟨⟨fun _ => 0, 0, 0, fun _ => 0, none, 0, 0, fun _ => 0, none, 0, 0, Int.le_refl _, Int.le_refl _, Nat.le_refl _, Nat.le_refl _, ⟨⟨f, H.new _⟩, IsW.made w R T, OwnR.nil _ _ _ _, ⟨fun _ => .int .u64 0, OwnR.nil _ _ _ _⟩, ?_, fun q _ A e => (by cases e), fun q r A _ _ e => (by cases e), far h.old ((Below.refl _ _).alloc (Nat.le_refl _) _) h.size, h.hR, h.size⟩, GameI.start n h.pos _ idle rfl idle_fit rfl⟩, fun q _ => ⟨fun _ => rfl, fun _ => rfl⟩⟩
  rintro k ⟨a, e, _⟩
  cases e
/-- When nobody is under way: what was taken and what is there. -/
theorem Turn.over {W w : World} {G R T n j : Nat} {ptr : Nat → Option Nat} {Ss : Nat → Ac} (h : Turn W w G R T n j ptr Ss) (hn : ∀ q, q < 4 → ptr q = none) :
    ∃ (c : Nat → Int) (o push : Int) (stp : Nat → Nat) (adK : Option Addr) (capK L : Nat) (K : Nat → Int) (adP : Option Addr) (capP P F E : Nat) (V : Nat → Int), P ≤ j ∧ L ≤ j ∧ WorldI W w G R T n c o ptr Ss push stp adK capK L K adP capP P ∧ Holds 0 n c F E V ∧ Book F E V P K L := by
  obtain ⟨c, o, push, stp, adK, capK, L, K, adP, capP, P, _, _, hP, hL, H, Gm⟩ := h.ex
  obtain ⟨F, E, V, C, hT, hp, hb⟩ := Gm.conc
  have h0 : (Ss 0).st = 0 := (h.nil 0 (by omega)).1 (hn 0 (by omega))
  exact ⟨c, o, push, stp, adK, capK, L, K, adP, capP, P, F, E, V, hP, hL, H, C.holds h0, hb fun q => by have := q.1; omega⟩
end Go.Proofs.Ytfpgdmnbehingaa
