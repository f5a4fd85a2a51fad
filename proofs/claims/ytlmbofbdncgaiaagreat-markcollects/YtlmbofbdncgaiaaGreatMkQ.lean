/-
  Two slices grow side by side in a drawn statement: a handle and its function.
-/
import Derived.Test.YtlmbofbdncgaiaaGreatMkP
import Derived.Test.YtlmbofbdncgaiaaGreatBaseG
namespace Go.Proofs.YtlmbofbdncgaiaaGreat.Mk
open Go Go.RowKit
open Rf (tab word IsTab)

theorem _root_.Go.Proofs.YtlmbofbdncgaiaaGreat.Rf.Own.keep {w w' : World} {B cap : Nat} {ad : Option Addr} {ts : List (Nat → Bool)} (h : Rf.Own w B ad ts cap) (k : ∀ b, At ad b → w'.heap[b]? = w.heap[b]?) : Rf.Own w' B ad ts cap := by
  obtain ⟨h1, h2⟩ := h
  refine ⟨h1, ?_⟩
  rcases h2 with h2 | ⟨g, cap', cur, hv, hb, hh, r⟩
  · exact .inl h2
  · have had : ad = some ⟨g, 0, none⟩ := by injection hv
    exact .inr ⟨g, cap', cur, hv, hb, (k g ⟨_, had, rfl⟩).trans hh, r⟩
theorem _root_.Go.Proofs.YtlmbofbdncgaiaaGreat.Rf.Own.lt {w : World} {B cap : Nat} {ad : Option Addr} {ts : List (Nat → Bool)} (h : Rf.Own w B ad ts cap) : ∀ b, At ad b → B ≤ b ∧ b < w.heap.size := by
  rintro k ⟨a, rfl, rfl⟩
  exact h.blockGe a.block rfl
theorem _root_.Go.Proofs.YtlmbofbdncgaiaaGreat.Rf.Own.below' {w w' : World} {B cap : Nat} {ad : Option Addr} {ts : List (Nat → Bool)} (h : Rf.Own w B ad ts cap) (k : Below w.heap.size w w') : Rf.Own w' B ad ts cap := h.keep fun b hb => k.block b (h.lt b hb).2
theorem run_app_t {w : World} {B cap : Nat} {ad : Option Addr} {ts : List (Nat → Bool)} (hown : Rf.Own w B ad ts cap) (F : Nat → Bool) (src : Nat) (hsrc : IsTab w src F) (hn : ts.length ≤ 1000000) (hB : B ≤ w.heap.size) :
    ∃ g cap' w', (Builtin.append_ #[35, 35] 35 #[.slice ad ts.length cap, .slice (some ⟨src, 0, none⟩) 1 1]).run Tryz.prog w = .ok (.slice (some ⟨g, 0, none⟩) (ts.length + 1) cap') w' ∧ Rf.Own w' B (some ⟨g, 0, none⟩) (ts ++ [F]) cap' ∧ Went (At ad) w w' ∧ (At ad g ∨ g = w.heap.size) := by
  have hob : ∀ k, some k = (Value.slice ad ts.length cap).ownBlock → At ad k := by
    intro k hk
    cases ad with
    | none => simp [Value.ownBlock] at hk
    | some a => exact ⟨a, rfl, by simpa [Value.ownBlock] using hk.symm⟩
  obtain ⟨i, hi, hzz⟩ := Option.map_eq_some_iff.1 Rf.info24
  simp only [Prod.mk.injEq] at hzz
  obtain ⟨hz, hsz, hby⟩ := hzz
  have hblk' : w.heap[src]? = some (.cells #[.int .u64 (word F 0 : Int), .int .u64 (word F 1 : Int), .int .u64 (word F 2 : Int), .int .u64 (word F 3 : Int)] 24 (0, 0)) := hsrc
  obtain ⟨g, cap', w', hr, o1, o2, o3, o4⟩ := run_append_lies (P := Tryz.prog) w 35 35 B 24 i _ 4 32 Tryz.underlying35 hi hz hsz hby (by kernel_rfl) (by decide) (.slice ad ts.length cap) ts.length (Rf.cellsL ts) hown ⟨src, 0, none⟩ 1 1 (Rf.cells4 F) rfl (World.news_of_block hblk') (fun u hu => by
    simp only [Rf.cells4, List.mem_cons, List.not_mem_nil, or_false] at hu
    rcases hu with rfl | rfl | rfl | rfl <;> rfl) (by decide) (by simp only [maxLen]; omega) (by omega) hB w.heap.size rfl
  refine ⟨g, cap', w', hr, ?_, ⟨o2.os, o2.tape, o2.output, o2.size, fun k hk hA => o2.block k hk fun e => hA (hob k e)⟩, o3.elim (fun e => .inl (hob g e.symm)) .inr⟩
  unfold Rf.Own
  rw [Rf.cellsL_append, List.length_append]
  exact o1
/-- What holds of the frame: the operations' values from slot 60 on, then the two slices' own slots. -/
structure Gf (val : Nat → Value) (a0 : Act) (listed : Array Bool) (a : Act) : Prop where
  size : a.tmps.size = a0.tmps.size
  defers : a.defers = a0.defers
  other : ∀ s : Nat, (s < 60 ∨ 70 ≤ s) → s ≠ 12 → s ≠ 13 → slot a s = slot a0 s
  vals : ∀ i, i < 10 → listed.getD i false = true → slot a (60 + i) = val i
  o12 : listed.getD 10 false = false → slot a 12 = slot a0 12
  n12 : listed.getD 10 false = true → slot a 12 = val 3
  o13 : listed.getD 11 false = false → slot a 13 = slot a0 13
  n13 : listed.getD 11 false = true → slot a 13 = val 9
section
variable {val : Nat → Value} {a0 a : Act} {listed : Array Bool}
theorem Gf.step (g : Gf val a0 listed a) {i : Nat} (hi : i < 10) (hb : 70 ≤ a0.tmps.size) (v : Value) (h3 : i = 3 → listed.getD 10 false = false) (h9 : i = 9 → listed.getD 11 false = false) : Gf (fun j => if j = i then v else val j) a0 (listed.setIfInBounds i true) (a.put (some (60 + i)) v) := by
  have n1 : ∀ s : Nat, s ≠ 60 + i → slot (a.put (some (60 + i)) v) s = slot a s := fun s hs => slot_put_ne _ (show @Ne Nat (60 + i) s by omega)
  refine ⟨by simp [Act.put, g.size], by simp [Act.put, g.defers], fun s hs h12 h13 => ?_, fun j hj hl => ?_, fun hl => ?_, fun hl => ?_, fun hl => ?_, fun hl => ?_⟩
  · rw [n1 s (by omega)]; exact g.other s hs h12 h13
  · by_cases e : j = i
    · rw [if_pos e, e]
      exact slot_put_eq _ (show @LT.lt Nat _ (60 + i) a.tmps.size by rw [g.size]; omega)
    · rw [if_neg e, n1 _ (by omega)]
      exact g.vals j hj (by rwa [getD_set_ne false (by omega)] at hl)
  · rw [n1 12 (by omega)]; exact g.o12 (by rwa [getD_set_ne false (by omega)] at hl)
  · rw [getD_set_ne false (by omega)] at hl
    rw [n1 12 (by omega), if_neg (fun e => by rw [h3 e.symm] at hl; cases hl)]
    exact g.n12 hl
  · rw [n1 13 (by omega)]; exact g.o13 (by rwa [getD_set_ne false (by omega)] at hl)
  · rw [getD_set_ne false (by omega)] at hl
    rw [n1 13 (by omega), if_neg (fun e => by rw [h9 e.symm] at hl; cases hl)]
    exact g.n13 hl
theorem Gf.set12 (g : Gf val a0 listed a) (hb : 70 ≤ a0.tmps.size) (hs : listed.size = 12) : Gf val a0 (listed.setIfInBounds 10 true) (a.put (some 12) (val 3)) := by
  have n1 : ∀ s : Nat, s ≠ 12 → slot (a.put (some 12) (val 3)) s = slot a s := fun s hs => slot_put_ne _ (show @Ne Nat 12 s by omega)
  refine ⟨by simp [Act.put, g.size], by simp [Act.put, g.defers], fun s hs h12 h13 => ?_, fun j hj hl => ?_, fun hl => ?_, fun hl => ?_, fun hl => ?_, fun hl => ?_⟩
  · rw [n1 s h12]; exact g.other s hs h12 h13
  · rw [n1 _ (by omega)]; exact g.vals j hj (by rwa [getD_set_ne false (by omega)] at hl)
  · simp [hs] at hl
  · exact slot_put_eq _ (show @LT.lt Nat _ 12 a.tmps.size by rw [g.size]; omega)
  · rw [n1 13 (by omega)]; exact g.o13 (by rwa [getD_set_ne false (by omega)] at hl)
  · rw [n1 13 (by omega)]; exact g.n13 (by rwa [getD_set_ne false (by omega)] at hl)
theorem Gf.set13 (g : Gf val a0 listed a) (hb : 70 ≤ a0.tmps.size) (hs : listed.size = 12) : Gf val a0 (listed.setIfInBounds 11 true) (a.put (some 13) (val 9)) := by
  have n1 : ∀ s : Nat, s ≠ 13 → slot (a.put (some 13) (val 9)) s = slot a s := fun s hs => slot_put_ne _ (show @Ne Nat 13 s by omega)
  refine ⟨by simp [Act.put, g.size], by simp [Act.put, g.defers], fun s hs h12 h13 => ?_, fun j hj hl => ?_, fun hl => ?_, fun hl => ?_, fun hl => ?_, fun hl => ?_⟩
  · rw [n1 s h13]; exact g.other s hs h12 h13
  · rw [n1 _ (by omega)]; exact g.vals j hj (by rwa [getD_set_ne false (by omega)] at hl)
  · rw [n1 12 (by omega)]; exact g.o12 (by rwa [getD_set_ne false (by omega)] at hl)
  · rw [n1 12 (by omega)]; exact g.n12 (by rwa [getD_set_ne false (by omega)] at hl)
  · simp [hs] at hl
  · exact slot_put_eq _ (show @LT.lt Nat _ 13 a.tmps.size by rw [g.size]; omega)
end
/-- What holds of the memory. -/
structure Gp (w0 : World) (Bk nk ck ct x : Nat) (adk adt : Option Addr) (Vk : Nat → Value) (ts : List (Nat → Bool)) (F : Nat → Bool) (cst : Nat → Value) (val : Nat → Value) (listed : Array Bool) (w : World) : Prop where
  p0 : ∀ j, j < 10 → j ≠ 2 → j ≠ 3 → j ≠ 8 → j ≠ 9 → listed.getD j false = true → val j = cst j
  p2 : listed.getD 2 false = true → ∃ b, val 2 = .slice (some ⟨b, 0, none⟩) 1 1 ∧ w.heap[b]? = some (.cells #[.int .u32 (x : Int)] 32 (0, 0)) ∧ w0.heap.size ≤ b
  p8 : listed.getD 8 false = true → ∃ b, val 8 = .slice (some ⟨b, 0, none⟩) 1 1 ∧ IsTab w b F ∧ w0.heap.size ≤ b
  k0 : listed.getD 3 false = false → OwnR 32 w Bk adk nk ck Vk
  k1 : listed.getD 3 false = true → ∃ g c, val 3 = .slice (some ⟨g, 0, none⟩) (nk + 1) c ∧ OwnR 32 w Bk (some ⟨g, 0, none⟩) (nk + 1) c (fun i => if i = nk then .int .u32 (x : Int) else Vk i) ∧ (At adk g ∨ w0.heap.size ≤ g)
  t0 : listed.getD 9 false = false → Rf.Own w Bk adt ts ct
  t1 : listed.getD 9 false = true → ∃ g c, val 9 = .slice (some ⟨g, 0, none⟩) (ts.length + 1) c ∧ Rf.Own w Bk (some ⟨g, 0, none⟩) (ts ++ [F]) c ∧ (At adt g ∨ w0.heap.size ≤ g)
  went : Went (fun b => At adk b ∨ At adt b) w0 w
section
variable {w0 w : World} {Bk nk ck ct x : Nat} {adk adt : Option Addr} {Vk : Nat → Value} {ts : List (Nat → Bool)} {F : Nat → Bool} {cst val : Nat → Value} {listed : Array Bool}
theorem Gp.pure (g : Gp w0 Bk nk ck ct x adk adt Vk ts F cst val listed w) {i : Nat} (h2 : i ≠ 2) (h3 : i ≠ 3) (h8 : i ≠ 8) (h9 : i ≠ 9) : Gp w0 Bk nk ck ct x adk adt Vk ts F cst (fun j => if j = i then cst i else val j) (listed.setIfInBounds i true) w := by
  have n : ∀ {j : Nat}, j ≠ i → (listed.setIfInBounds i true).getD j false = listed.getD j false := fun e => getD_set_ne false (fun q => e q.symm)
  refine ⟨fun j hj a b c d hl => ?_, fun hl => ?_, fun hl => ?_, fun hl => ?_, fun hl => ?_, fun hl => ?_, fun hl => ?_, g.went⟩
  · by_cases e : j = i
    · rw [if_pos e, e]
    · rw [if_neg e]; exact g.p0 j hj a b c d (by rwa [n e] at hl)
  · rw [if_neg (fun e => h2 e.symm)]; exact g.p2 (by rwa [n (fun e => h2 e.symm)] at hl)
  · rw [if_neg (fun e => h8 e.symm)]; exact g.p8 (by rwa [n (fun e => h8 e.symm)] at hl)
  · exact g.k0 (by rwa [n (fun e => h3 e.symm)] at hl)
  · rw [if_neg (fun e => h3 e.symm)]; exact g.k1 (by rwa [n (fun e => h3 e.symm)] at hl)
  · exact g.t0 (by rwa [n (fun e => h9 e.symm)] at hl)
  · rw [if_neg (fun e => h9 e.symm)]; exact g.t1 (by rwa [n (fun e => h9 e.symm)] at hl)
/-- What a new block leaves. -/
theorem Gp.keptBy {w' : World} (g : Gp w0 Bk nk ck ct x adk adt Vk ts F cst val listed w) (k : Below w.heap.size w w') : Gp w0 Bk nk ck ct x adk adt Vk ts F cst val listed w' := by
  refine ⟨g.p0, fun hl => ?_, fun hl => ?_, fun hl => (g.k0 hl).below k, fun hl => ?_, fun hl => (g.t0 hl).below' k, fun hl => ?_, g.went.trans ⟨k.os, k.tape, k.output, k.size, fun i hi _ => k.block i hi⟩⟩
  · obtain ⟨b, e1, e2, e3⟩ := g.p2 hl
    exact ⟨b, e1, (k.block b (Array.getElem?_eq_some_iff.1 e2).1).trans e2, e3⟩
  · obtain ⟨b, e1, e2, e3⟩ := g.p8 hl
    exact ⟨b, e1, e2.kept k, e3⟩
  · obtain ⟨b, c, e1, e2, e3⟩ := g.k1 hl
    exact ⟨b, c, e1, e2.below k, e3⟩
  · obtain ⟨b, c, e1, e2, e3⟩ := g.t1 hl
    exact ⟨b, c, e1, e2.below' k, e3⟩
theorem Gp.set2 (g : Gp w0 Bk nk ck ct x adk adt Vk ts F cst val listed w) (v : Value) (hv : ∃ b, v = .slice (some ⟨b, 0, none⟩) 1 1 ∧ w.heap[b]? = some (.cells #[.int .u32 (x : Int)] 32 (0, 0)) ∧ w0.heap.size ≤ b) : Gp w0 Bk nk ck ct x adk adt Vk ts F cst (fun j => if j = 2 then v else val j) (listed.setIfInBounds 2 true) w := by
  have n : ∀ {j : Nat}, j ≠ 2 → (listed.setIfInBounds 2 true).getD j false = listed.getD j false := fun e => getD_set_ne false (fun q => e q.symm)
  refine ⟨fun j hj a b c d hl => ?_, fun hl => ?_, fun hl => ?_, fun hl => ?_, fun hl => ?_, fun hl => ?_, fun hl => ?_, g.went⟩
  · rw [if_neg (by omega)]; exact g.p0 j hj a b c d (by rwa [n (by omega)] at hl)
  · exact hv
  · rw [n (by decide)] at hl; exact g.p8 hl
  · rw [n (by decide)] at hl; exact g.k0 hl
  · rw [n (by decide)] at hl; exact g.k1 hl
  · rw [n (by decide)] at hl; exact g.t0 hl
  · rw [n (by decide)] at hl; exact g.t1 hl
theorem Gp.set8 (g : Gp w0 Bk nk ck ct x adk adt Vk ts F cst val listed w) (v : Value) (hv : ∃ b, v = .slice (some ⟨b, 0, none⟩) 1 1 ∧ IsTab w b F ∧ w0.heap.size ≤ b) : Gp w0 Bk nk ck ct x adk adt Vk ts F cst (fun j => if j = 8 then v else val j) (listed.setIfInBounds 8 true) w := by
  have n : ∀ {j : Nat}, j ≠ 8 → (listed.setIfInBounds 8 true).getD j false = listed.getD j false := fun e => getD_set_ne false (fun q => e q.symm)
  refine ⟨fun j hj a b c d hl => ?_, fun hl => ?_, fun hl => ?_, fun hl => ?_, fun hl => ?_, fun hl => ?_, fun hl => ?_, g.went⟩
  · rw [if_neg (by omega)]; exact g.p0 j hj a b c d (by rwa [n (by omega)] at hl)
  · rw [n (by decide)] at hl; exact g.p2 hl
  · exact hv
  · rw [n (by decide)] at hl; exact g.k0 hl
  · rw [n (by decide)] at hl; exact g.k1 hl
  · rw [n (by decide)] at hl; exact g.t0 hl
  · rw [n (by decide)] at hl; exact g.t1 hl
theorem Gp.app3 {w' : World} {gg c : Nat} (g : Gp w0 Bk nk ck ct x adk adt Vk ts F cst val listed w) (hs : listed.size = 12) (h9 : listed.getD 9 false = false) (q : Went (At adk) w w') (o : OwnR 32 w' Bk (some ⟨gg, 0, none⟩) (nk + 1) c (fun i => if i = nk then .int .u32 (x : Int) else Vk i)) (hg : At adk gg ∨ gg = w.heap.size) (kk : ∀ b, At adk b → b < w0.heap.size) (dis : ∀ b, At adk b → ¬ At adt b) : Gp w0 Bk nk ck ct x adk adt Vk ts F cst (fun j => if j = 3 then .slice (some ⟨gg, 0, none⟩) (nk + 1) c else val j) (listed.setIfInBounds 3 true) w' := by
  have n : ∀ {j : Nat}, j ≠ 3 → (listed.setIfInBounds 3 true).getD j false = listed.getD j false := fun e => getD_set_ne false (fun q => e q.symm)
  have far : ∀ b, w0.heap.size ≤ b → b < w.heap.size → w'.heap[b]? = w.heap[b]? := fun b h1 h2 => q.block b h2 fun e => by have := kk b e; omega
  refine ⟨fun j hj a b c d hl => ?_, fun hl => ?_, fun hl => ?_, fun hl => ?_, fun hl => ?_, fun hl => ?_, fun hl => ?_, g.went.trans (q.wider fun _ e => .inl e)⟩
  · rw [if_neg b]; exact g.p0 j hj a b c d (by rwa [n b] at hl)
  · rw [n (by decide)] at hl
    obtain ⟨b, e1, e2, e3⟩ := g.p2 hl
    exact ⟨b, e1, (far b e3 (Array.getElem?_eq_some_iff.1 e2).1).trans e2, e3⟩
  · rw [n (by decide)] at hl
    obtain ⟨b, e1, e2, e3⟩ := g.p8 hl
    exact ⟨b, e1, (far b e3 e2.lt).trans e2, e3⟩
  · simp [hs] at hl
  · exact ⟨gg, c, rfl, o, hg.imp id fun e => by have := g.went.size; omega⟩
  · rw [n (by decide)] at hl
    exact (g.t0 hl).keep fun b hb => q.block b ((g.t0 hl).lt b hb).2 fun e => dis b e hb
  · rw [n (by decide), h9] at hl; cases hl
theorem Gp.app9 {w' : World} {gg c : Nat} (g : Gp w0 Bk nk ck ct x adk adt Vk ts F cst val listed w) (hs : listed.size = 12) (h3 : listed.getD 3 false = true) (q : Went (At adt) w w') (o : Rf.Own w' Bk (some ⟨gg, 0, none⟩) (ts ++ [F]) c) (hg : At adt gg ∨ gg = w.heap.size) (kt : ∀ b, At adt b → b < w0.heap.size) (dis : ∀ b, At adk b → ¬ At adt b) : Gp w0 Bk nk ck ct x adk adt Vk ts F cst (fun j => if j = 9 then .slice (some ⟨gg, 0, none⟩) (ts.length + 1) c else val j) (listed.setIfInBounds 9 true) w' := by
  have n : ∀ {j : Nat}, j ≠ 9 → (listed.setIfInBounds 9 true).getD j false = listed.getD j false := fun e => getD_set_ne false (fun q => e q.symm)
  have far : ∀ b, w0.heap.size ≤ b → b < w.heap.size → w'.heap[b]? = w.heap[b]? := fun b h1 h2 => q.block b h2 fun e => by have := kt b e; omega
  refine ⟨fun j hj a b c d hl => ?_, fun hl => ?_, fun hl => ?_, fun hl => ?_, fun hl => ?_, fun hl => ?_, fun hl => ?_, g.went.trans (q.wider fun _ e => .inr e)⟩
  · rw [if_neg d]; exact g.p0 j hj a b c d (by rwa [n d] at hl)
  · rw [n (by decide)] at hl
    obtain ⟨b, e1, e2, e3⟩ := g.p2 hl
    exact ⟨b, e1, (far b e3 (Array.getElem?_eq_some_iff.1 e2).1).trans e2, e3⟩
  · rw [n (by decide)] at hl
    obtain ⟨b, e1, e2, e3⟩ := g.p8 hl
    exact ⟨b, e1, (far b e3 e2.lt).trans e2, e3⟩
  · rw [n (by decide), h3] at hl; cases hl
  · rw [n (by decide)] at hl
    obtain ⟨b, c', e1, e2, e3⟩ := g.k1 hl
    refine ⟨b, c', e1, e2.kept fun i hi => ?_, e3⟩
    refine q.block i (e2.block i hi).2 fun e => ?_
    obtain ⟨z, hz, rfl⟩ := hi
    cases hz
    rcases e3 with e3 | e3
    · exact dis _ e3 e
    · have := kt _ e
      change b < _ at this
      omega
  · simp [hs] at hl
  · exact ⟨gg, c, rfl, o, hg.imp id fun e => by have := g.went.size; omega⟩
theorem Gp.pass (g : Gp w0 Bk nk ck ct x adk adt Vk ts F cst val listed w) {i : Nat} (hi : 10 ≤ i) : Gp w0 Bk nk ck ct x adk adt Vk ts F cst val (listed.setIfInBounds i true) w := by
  have n : ∀ {j : Nat}, j < 10 → (listed.setIfInBounds i true).getD j false = listed.getD j false := fun e => getD_set_ne false (by omega)
  exact ⟨fun j hj a b c d hl => g.p0 j hj a b c d (by rwa [n hj] at hl), fun hl => g.p2 (by rwa [n (by decide)] at hl), fun hl => g.p8 (by rwa [n (by decide)] at hl), fun hl => g.k0 (by rwa [n (by decide)] at hl), fun hl => g.k1 (by rwa [n (by decide)] at hl), fun hl => g.t0 (by rwa [n (by decide)] at hl), fun hl => g.t1 (by rwa [n (by decide)] at hl), g.went⟩
end
end Go.Proofs.YtlmbofbdncgaiaaGreat.Mk
