/-
  Slices of counts: a handle and a number each; what All tells.
-/
import Derived.Test.YtjapmhipbipdbaaTell
import Derived.Laws.MakeOwn
namespace Go.Proofs.Ytjapmhipbipdbaa
open Go Go.RowKit

def cV (p : Int × Int) : List Value := [.int .u32 p.1, .int .i64 p.2]
/-- The slice has these counts: nil, or the head of a block. -/
def OwnC (w : World) (ad : Option Addr) (cap : Nat) (cs : List (Int × Int)) : Prop := w.ownsRow 0 33 2 (.slice ad cs.length cap) cs.length (cs.flatMap cV)
theorem flat_len : ∀ (cs : List (Int × Int)), (cs.flatMap cV).length = cs.length * 2
  | [] => rfl
  | p :: cs => by simp [cV, flat_len cs]; omega
theorem flat_get : ∀ (cs : List (Int × Int)) (i : Nat) (p : Int × Int), cs[i]? = some p → (cs.flatMap cV)[i * 2]? = some (.int .u32 p.1) ∧ (cs.flatMap cV)[i * 2 + 1]? = some (.int .i64 p.2)
  | [], i, p, h => by simp at h
  | q :: cs, 0, p, h => by
    obtain rfl : q = p := by simpa using h
    simp [cV]
  | q :: cs, i + 1, p, h => by
    have := flat_get cs i p (by simpa using h)
    rw [show (i + 1) * 2 = i * 2 + 2 by omega, show i * 2 + 2 + 1 = (i * 2 + 1) + 2 by omega]
    simpa [cV] using this
section
variable {w w' : World} {cap : Nat} {ad : Option Addr} {cs : List (Int × Int)}
theorem OwnC.block (h : OwnC w ad cap cs) : ∀ k, At ad k → k < w.heap.size := by
  rintro k ⟨a, rfl, rfl⟩
  exact (World.ownsRow.lt h a.block rfl).2
theorem OwnC.kept (h : OwnC w ad cap cs) (k : ∀ b, At ad b → w'.heap[b]? = w.heap[b]?) : OwnC w' ad cap cs := by
  obtain ⟨h1, h2⟩ := h
  refine ⟨h1, ?_⟩
  rcases h2 with h2 | ⟨g, cap', cur, hv, hb, hh, r⟩
  · exact .inl h2
  · have had : ad = some ⟨g, 0, none⟩ := by injection hv
    exact .inr ⟨g, cap', cur, hv, hb, (k g ⟨_, had, rfl⟩).trans hh, r⟩
theorem OwnC.kind (h : OwnC w ad cap cs) : ∀ k, At ad k → ∃ cur, w.heap[k]? = some (.cells cur 33 (0, 0)) := by
  rintro k ⟨a, rfl, rfl⟩
  rcases h.2 with ⟨h2, _⟩ | ⟨g, cap', cur, hv, hb, hh, _⟩
  · cases h2
  · injection hv with hv
    injection hv with hv
    subst hv
    exact ⟨cur, hh⟩
theorem OwnC.max (h : OwnC w ad cap cs) : cap ≤ maxLen ∧ cs.length ≤ cap := by
  rcases h.2 with ⟨h2, h3⟩ | ⟨g, cap', cur, hv, hb, hh, r1, r2, r3⟩
  · injection h2 with e1 e2 e3
    subst e3
    exact ⟨Nat.zero_le _, by omega⟩
  · injection hv with e1 e2 e3
    subst e3
    exact ⟨r2, r1⟩
/-- Counts and handles lie in unlike blocks. -/
theorem OwnC.apart {ad2 : Option Addr} {cap2 : Nat} {xs : List Int} (h : OwnC w ad cap cs) (k : OwnH w ad2 cap2 xs) : ∀ b, At ad2 b → ¬ At ad b := fun b h2 h1 => by
  obtain ⟨c1, e1⟩ := h.kind b h1
  obtain ⟨c2, e2⟩ := k.kind b h2
  rw [e1] at e2
  cases e2
theorem OwnC.form (h : OwnC w ad cap cs) (hn : 0 < cs.length) : ∃ g, ad = some ⟨g, 0, none⟩ := by
  obtain ⟨g, cap', hv, hb, hlt⟩ := World.ownsRow.form h hn
  exact ⟨g, by injection hv⟩
theorem OwnC.cells {g : Nat} (h : OwnC w (some ⟨g, 0, none⟩) cap cs) {i : Nat} {p : Int × Int} (hp : cs[i]? = some p) : w.cell? ⟨g, i * 2, none⟩ = some (.int .u32 p.1) ∧ w.cell? ⟨g, i * 2 + 1, none⟩ = some (.int .i64 p.2) := by
  have hl := (List.getElem?_eq_some_iff.1 hp).1
  have := flat_get cs i p hp
  exact ⟨(World.ownsRow.cellAt h (i * 2) (by omega)).trans this.1, (World.ownsRow.cellAt h (i * 2 + 1) (by omega)).trans this.2⟩
theorem OwnC.nil (w : World) : OwnC w none 0 [] := World.ownsRow_nil w 0 33 2
end
theorem info33 : ∃ i : TypeInfo, Try.prog.info? 33 = some i ∧ i.zero = some (.agg #[.int .u32 0, .int .i64 0]) ∧ i.size = 2 ∧ i.bytes = 16 := by
  have h : (Try.prog.info? 33).map (fun i => (i.zero, i.size, i.bytes)) = some (some (.agg #[.int .u32 0, .int .i64 0]), 2, 16) := by kernel_rfl
  obtain ⟨i, hi, hzz⟩ := Option.map_eq_some_iff.1 h
  simp only [Prod.mk.injEq] at hzz
  exact ⟨i, hi, hzz.1, hzz.2.1, hzz.2.2⟩
/-- One count more. -/
theorem append_c {w : World} {cap : Nat} {ad : Option Addr} {cs : List (Int × Int)} (hown : OwnC w ad cap cs) (src : Nat) (p : Int × Int) (hsrc : w.heap[src]? = some (.cells #[.int .u32 p.1, .int .i64 p.2] 33 (0, 0))) (hn : cs.length + 1 ≤ 1000000)
    {ops : Array Oper} {rest : List Oper} {o : Oper} {a : Act} {Q : Exit → Act → World → Prop} (hgd : o.guard = none) (s y : Operand)
    (ho : o.op = .call { callee := .builtin .append, args := #[s, y], argTypes := #[26, 26] }) (hs : a.eval s = .slice ad cs.length cap) (hx : a.eval y = .slice (some ⟨src, 0, none⟩) 1 1)
    (h : ∀ g cap' w', OwnC w' (some ⟨g, 0, none⟩) cap' (cs ++ [p]) → Went (At ad) w w' → (At ad g ∨ g = w.heap.size) → wpList Try.prog ops Q rest (a.put o.dst (.slice (some ⟨g, 0, none⟩) (cs.length + 1) cap')) w') :
    wpList Try.prog ops Q (o :: rest) a w := by
  obtain ⟨i, hi, hz, hsz, hby⟩ := info33
  refine wpList_append_lies (P := Try.prog) w hgd s y 26 ho 0 33 i _ 2 16 Try.underlying26 hi hz hsz hby (by kernel_rfl) (by decide) (.slice ad cs.length cap) cs.length (cs.flatMap cV) hs hown ⟨src, 0, none⟩ 1 1 (cV p) hx rfl (World.news_of_block hsrc) ?_ (by decide) ?_ ?_ (Nat.zero_le _) w.heap.size rfl ?_
  · intro u hu
    simp only [cV, List.mem_cons, List.not_mem_nil, or_false] at hu
    rcases hu with rfl | rfl <;> rfl
  · simp only [maxLen]; omega
  · omega
  · intro g cap' w' o1 o2 o3 o4
    refine h g cap' w' ?_ (went_of_grown o2) ?_
    · unfold OwnC
      simpa using o1
    · rcases o3 with o3 | o3
      · exact .inl (at_of_own o3.symm)
      · exact .inr o3
/-- A slice made for so many. -/
theorem make_c (c : Nat) (hc : c ≤ 1000000) (w : World) : ∃ w', (Instr.makeSlice 26 (.int .i64 0) (.int .i64 (c : Int))).run Try.prog w = .ok (.slice (some ⟨w.heap.size, 0, none⟩) 0 c) w' ∧ OwnC w' (some ⟨w.heap.size, 0, none⟩) c [] ∧ Below w.heap.size w w' := by
  obtain ⟨i, hi, hz, hsz, hby⟩ := info33
  have hr := run_make (P := Try.prog) w 26 33 i _ Try.underlying26 hi hz .i64 .i64 0 (c : Int) (by omega) (by omega) (by rw [hby]; omega) (by omega)
  rw [hsz, Int.toNat_natCast] at hr
  refine ⟨_, hr, ⟨rfl, .inr ⟨w.heap.size, c, _, rfl, Nat.zero_le _, Go.Deep.blk_alloc_new _ _, Nat.zero_le _, by simp only [maxLen]; omega, ?_, rfl⟩⟩, (Below.refl _ w).alloc (Nat.le_refl _) _⟩
  simp [madeCells]
/-- What All tells: in rising order just what is protected, with its count. -/
structure IsAll (P : Int → Option Int) (cs : List (Int × Int)) : Prop where
  up : (cs.map (·.1)).Pairwise (· < ·)
  mem : ∀ k v, (k, v) ∈ cs ↔ P k = some v
section
variable {w : World} {R S n m : Nat} {mb : Option Nat} {A : Nat → Option Addr} {C : Nat → Nat} {T : Nat → List Int} {P : Int → Option Int}
theorem map_size (h : IsR w R mb S n A C T P m) : ∃ c : Nat, c ≤ m ∧ ∀ ty : TypeId, (Builtin.len_ #[50] ty #[.map mb]).run Try.prog w = .ok (.int .i64 (c : Int)) w := by
  cases mb with
  | none => exact ⟨0, Nat.zero_le _, fun ty => map_len_nil w ty⟩
  | some b => exact map_len (show IsMap w b P m from h.map)
set_option maxHeartbeats 1600000 in
theorem all_any (h : IsR w R mb S n A C T P m) (hm : m ≤ 60000) :
    Calls Try.prog 16 #[.pointer (some ⟨R, 0, none⟩)] w fun e w' => ∃ ad cap cs, e = .returned (.slice ad cs.length cap) ∧ IsAll P cs ∧ cs.length ≤ m ∧ OwnC w' ad cap cs ∧ (∀ k, At ad k → w.heap.size ≤ k) ∧ Below w.heap.size w w' := by
  have f0 := h.f0
  obtain ⟨c, hc, hlen⟩ := map_size h
  obtain ⟨w1, hmk, oc1, b1⟩ := make_c c (by omega) w
  have h1 := h.below b1
  have f1 := h1.f0
  have K1 := keys_any mb w1
  have b2 : Below w1.heap.size w1 (w1.alloc (.cells #[.map mb] 50)) := (Below.refl _ _).alloc (Nat.le_refl _) _
  have h2 := h1.below b2
  have K2 := sorted_any w1.heap.size m mb P (w1.alloc (.cells #[.map mb] 50)) hm (by simp) (by simp) h2.map
  have hA : Aside (IsR w R mb S n A C T P m) := h
  have hB1 : Below w.heap.size w (w1.alloc (.cells #[.map mb] 50)) := b1.trans (b2.mono b1.size)
  have oc2 : OwnC (w1.alloc (.cells #[.map mb] 50)) (some ⟨w.heap.size, 0, none⟩) c [] := oc1.kept fun k hk => Below.heap_alloc _ _ _ (oc1.block k hk)
  clear h h1 h2 b1 b2 oc1
  go_enter Try.func16, Try.ntmps16
  go_wp2_with (first
    | (go_at_call 21; refine K1.mono ?_; clear K1; rintro e w2 ⟨rfl, rfl⟩)
    | (go_at_call 26; refine K2.mono ?_; clear K2; rintro e w3 ⟨adk, capk, ks, rfl, hK, hup, hkm, ok, hnew, hB⟩))
  have oc3 : OwnC w3 (some ⟨w.heap.size, 0, none⟩) c [] := oc2.kept fun k hk => hB.block k (oc2.block k hk)
  have hB3 : Below w.heap.size w w3 := hB1.trans (hB.mono hB1.size)
  have hupA : Aside (ks.Pairwise (· < ·)) := hup
  clear hnew hB oc2 hB1 f1 hup
  go_loopg [3, 19] ks.length (fun g s1 s2 wr => ∃ (i : Nat) (ad : Option Addr) (cap : Nat) (cs : List (Int × Int)), s1 = .slice ad cs.length cap ∧ s2 = .int .i64 (i : Int) ∧ i + g = ks.length ∧ Aside (cs = (ks.take i).map fun k => (k, (P k).getD 0)) ∧ Aside (OwnC wr ad cap cs) ∧ Aside (OwnH wr adk capk ks) ∧ Aside (∀ k, At ad k → w.heap.size ≤ k) ∧ Aside (Below w.heap.size w wr))
  case atStart => exact ⟨0, _, c, [], rfl, rfl, by omega, rfl, oc3, ok, (show Aside _ from fun k hk => by obtain ⟨a, ha, rfl⟩ := hk; cases ha; exact Nat.le_refl _), hB3⟩
  case round =>
    clear oc3 ok hB3
    obtain ⟨i, ad, cap, cs, rfl, rfl, hg, hcs, oc, ok, hnew, hB⟩ := hrel
    have hlA : Aside (cs.length = min i ks.length) := by show _ = _; rw [hcs.out]; simp
    by_cases hi : i < ks.length
    · have hiz : (i : Int) < (ks.length : Int) := by omega
      obtain ⟨gq, rfl⟩ := ok.out.form (by omega)
      have c1 := ok.out.cell (i := i) hi
      obtain ⟨x, hx⟩ : ∃ x, x = ks[i]! := ⟨_, rfl⟩
      have hxA : Aside (x = ks[i]!) := hx
      rw [← hx] at c1
      clear hx
      have hR := hA.out.below hB.out
      have fR := hR.f0
      have hl := map_get hR x
      obtain ⟨v, hv⟩ : ∃ v, v = (P x).getD 0 := ⟨_, rfl⟩
      have hvA : Aside (v = (P x).getD 0) := hv
      rw [← hv] at hl
      have oc' : OwnC (wr.alloc (.cells #[.int .u32 x, .int .i64 v] 33)) ad cap cs := oc.out.kept fun k hk => Below.heap_alloc _ _ _ (oc.out.block k hk)
      have ok' : Aside (OwnH (wr.alloc (.cells #[.int .u32 x, .int .i64 v] 33)) (some ⟨gq, 0, none⟩) capk ks) := ok.out.kept fun k hk => Below.heap_alloc _ _ _ (ok.out.block k hk)
      have hbnd : cs.length + 1 ≤ 1000000 := by have := hlA.out; omega
      have hgA : Aside (i + gk = ks.length) := hg
      clear hR hv hg
      go_wp2_with (at_builtin; refine append_c oc' wr.heap.size (x, v) (MapKept.heap_alloc wr _).1 hbnd rfl _ _ rfl rfl rfl ?_; intro g cap' w5 o5 b5 hg5)
      have e : cs.length + 1 = (cs ++ [(x, v)]).length := by simp
      rw [e]
      go_roundg (gk - 1)
      case measure => have := hgA.out; omega
      case rel =>
        refine ⟨i + 1, some ⟨g, 0, none⟩, cap', cs ++ [(x, v)], rfl, by go_num, by have := hgA.out; omega, (show Aside _ from ?_), o5, (show Aside _ from ok'.out.kept fun k hk => b5.block k (ok'.out.block k hk) (oc'.apart ok'.out k hk)), (show Aside _ from fun k hk => ?_), (show Aside _ from ?_)⟩
        · show _ = _
          rw [hcs.out, List.take_add_one, List.getElem?_eq_getElem hi, hvA.out, hxA.out, getElem!_pos ks i hi]
          simp only [Option.toList_some, List.map_append, List.map_cons, List.map_nil]
        · obtain ⟨a, ha, rfl⟩ := hk
          cases ha
          have := hB.out.size
          rcases hg5 with h1 | h1
          · exact hnew.out _ h1
          · show w.heap.size ≤ g
            rw [h1]
            simp
            omega
        · exact (hB.out.trans ((Below.refl _ wr).alloc hB.out.size _)).trans (b5.below (by have := hB.out.size; simp; omega) fun k hk => hnew.out k hk)
    · have hiz : ¬ (i : Int) < (ks.length : Int) := by omega
      have hin : Aside (i = ks.length) := (by omega : i = ks.length)
      go_wp2
      go_ret
      have e1 := hin.out
      have e2 := hcs.out
      rw [e1, List.take_length] at e2
      refine ⟨ad, cap, cs, rfl, ⟨?_, fun k v => ?_⟩, by have := hlA.out; omega, oc.out, hnew.out, hB.out⟩
      · rw [e2, List.map_map]
        have : ((fun p : Int × Int => p.1) ∘ fun k => (k, (P k).getD 0)) = id := rfl
        rw [this, List.map_id]
        exact hupA.out
      · rw [e2, List.mem_map]
        constructor
        · rintro ⟨k', hk', e⟩
          simp only [Prod.mk.injEq] at e
          obtain ⟨rfl, e⟩ := e
          have := (hK.2 k').1 hk'
          obtain ⟨u, hu⟩ := Option.isSome_iff_exists.1 this
          rw [hu] at e ⊢
          simpa using e
        · intro e
          exact ⟨k, (hK.2 k).2 (by rw [e]; rfl), by rw [e]; rfl⟩
end
end Go.Proofs.Ytjapmhipbipdbaa
