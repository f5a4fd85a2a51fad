/-
  Package count: Size and Levels.
-/
import Derived.Test.YtdmfnhnlilkijaaGreatCtR
namespace Go.Proofs.YtdmfnhnlilkijaaGreat
open Go Go.RowKit

/-- How many of them lie on a level. -/
def lvN (M : Mdl) (ks : List Nat) (i : Nat) : Nat := (ks.filter fun k => decide ((M.nd k).1 = i)).length
theorem lvN_le (M : Mdl) (ks : List Nat) (i : Nat) : lvN M ks i ≤ ks.length := List.length_filter_le _ _
theorem lvN_put (M : Mdl) (ks : List Nat) (k i : Nat) : lvN M (ks ++ [k]) i = if i = (M.nd k).1 then lvN M ks (M.nd k).1 + 1 else lvN M ks i := by
  unfold lvN
  rw [List.filter_append, List.length_append]
  by_cases c : i = (M.nd k).1
  · subst c
    simp
  · rw [if_neg c, List.filter_cons, if_neg (by simp; exact fun e => c e.symm)]
    simp
theorem lvN_perm {M : Mdl} {ks ls : List Nat} (h : ks.Nodup) (g : ls.Nodup) (e : ∀ k, k ∈ ks ↔ k ∈ ls) (i : Nat) : lvN M ks i = lvN M ls i :=
  (((List.perm_ext_iff_of_nodup h g).2 e).filter _).length_eq
theorem rch_len {M : Mdl} {H : Nat → Nat} {n : Nat} {ks : List Nat} (r : Rch M H n ks) (h : ks.Nodup) : ks.length ≤ M.hs.length := nodup_le _ _ h r.inn
section
variable {w w' u : World} {S b h : Nat} {F0 : Nat → Prop} {M : Mdl}
def SizeQ (M : Mdl) (n : Nat) (H : Nat → Nat) (e : Ending) : Prop :=
  ((∀ i, i < n → M.isNode (H i)) ∧ ∃ ks, ks.Nodup ∧ Rch M H n ks ∧ e = .returned (.tuple #[.int .i64 (ks.length : Int), .int .i64 0])) ∨ ((∃ i, i < n ∧ ¬ M.isNode (H i)) ∧ e = .returned (.tuple #[.int .i64 0, .int .i64 101]))
set_option maxRecDepth 100000 in
set_option maxHeartbeats 1000000 in
theorem size_op {ad : Option Addr} {n cap : Nat} {H : Nat → Nat} (s : St w S F0 M) (hl : HsAt w ad n H) (hb : ∀ i, i < n → H i < 4294967296) (hn : n ≤ 1000000) :
    Calls Tryz.prog 14 #[.pointer (some ⟨S, 0, none⟩), .slice ad n cap] w fun e w' => SizeQ M n H e ∧ Below w.heap.size w w' := by
  have K := reach_any (cap := cap) s hl hb hn
  clear hl hb hn
  go_enter Tryz.func14, Tryz.ntmps14
  go_upto_region 1 with fail
  have Kr : Calls Tryz.prog 43 #[.pointer (some ⟨S, 0, none⟩), .slice ad n cap] w fun e w' => ∃ (mv : Value) (er k : Nat), e = .returned (.tuple #[mv, .int .i64 (er : Int)]) ∧ (∀ ty, (Builtin.len_ #[97] ty #[mv]).run Tryz.prog w' = .ok (.int .i64 (k : Int)) w') ∧ Aside (SizeQ M n H (.returned (.tuple #[.int .i64 (k : Int), .int .i64 (er : Int)]))) ∧ Below w.heap.size w w' := by
    refine K.mono ?_
    rintro e w' (⟨hN, b, ks, rfl, m, r, B, _⟩ | ⟨bad, rfl, B⟩)
    · exact ⟨_, 0, ks.length, rfl, fun ty => by simpa using Hm.map_len _ Tryz.underlying97 m ty, .inl ⟨hN, ks, keys_once m, r, rfl⟩, B⟩
    · exact ⟨_, 101, 0, rfl, fun ty => Hm.map_len_nil _ Tryz.underlying97 w' ty, .inr ⟨bad, rfl⟩, B⟩
  clear K
  go_wp2_with (first
    | (go_at_call 43; refine Kr.mono ?_; clear Kr; rintro e w1 ⟨mv, er, k, rfl, hln, hq, B⟩))
  go_ret2
  exact ⟨hq.out, B⟩
def LevelsQ (M : Mdl) (n : Nat) (H : Nat → Nat) (w : World) (e : Ending) (w' : World) : Prop :=
  ((∀ i, i < n → M.isNode (H i)) ∧ ∃ g ks, ks.Nodup ∧ Rch M H n ks ∧ e = .returned (.tuple #[.slice (some ⟨g, 0, none⟩) M.n M.n, .int .i64 0]) ∧ w'.rowIs g 3 M.n (fun i => .int .i64 (lvN M ks i : Int)) ∧ w.heap.size ≤ g) ∨ ((∃ i, i < n ∧ ¬ M.isNode (H i)) ∧ e = .returned (.tuple #[.slice none 0 0, .int .i64 101]))
set_option maxRecDepth 100000 in
set_option maxHeartbeats 2000000 in
theorem levels_op {ad : Option Addr} {n cap : Nat} {H : Nat → Nat} (s : St w S F0 M) (hl : HsAt w ad n H) (hb : ∀ i, i < n → H i < 4294967296) (hn : n ≤ 1000000) :
    Calls Tryz.prog 15 #[.pointer (some ⟨S, 0, none⟩), .slice ad n cap] w fun e w' => LevelsQ M n H w e w' ∧ Below w.heap.size w w' := by
  have K := reach_any (cap := cap) s hl hb hn
  have ok := s.ok
  have rm := s.room
  clear hl hb hn
  by_cases good : ∀ i, i < n → M.isNode (H i)
  · have K1 : Calls Tryz.prog 43 #[.pointer (some ⟨S, 0, none⟩), .slice ad n cap] w fun e w' => ∃ b ks, e = .returned (.tuple #[.map (some b), .int .i64 0]) ∧ Aside (Hm.IsM w' b (ks.map (ent M))) ∧ Aside (Rch M H n ks) ∧ Aside (Below w.heap.size w w') := by
      refine K.mono ?_
      rintro e w' (⟨hN, b, ks, rfl, m, r, B, _⟩ | ⟨⟨i, hi, bad⟩, _⟩)
      · exact ⟨b, ks, rfl, m, r, B⟩
      · exact absurd (good i hi) bad
    clear K
    have KV : Aside (∀ u, St u S F0 M → Calls Tryz.prog 37 #[.pointer (some ⟨S, 0, none⟩)] u fun e w' => e = .returned (.int .i64 (M.n : Int)) ∧ w' = u) := fun u su => s_vars su
    have goodA : Aside (∀ i, i < n → M.isNode (H i)) := good
    have n8 := ok.le8
    clear good
    go_enter Tryz.func15, Tryz.ntmps15
    go_upto_region 5 with (first
      | (go_at_call 43; refine K1.mono ?_; clear K1; rintro e w1 ⟨b, ks, rfl, m1, r1, B1⟩; have K2 := KV.out w1 (s.below B1.out); have hmk := Od.make_ints M.n (by omega) w1)
      | (go_at_call 37; refine K2.mono ?_; clear K2; rintro e w1 ⟨rfl, rfl⟩))
    have row2 := World.rowIs_made w1 (.int .i64 0) M.n 3
    have B2 : Below w.heap.size w (w1.alloc (.cells (madeCells #[.int .i64 0] M.n) 3)) := Rf.below_far B1.out (nb w1 _)
    have m2 := m1.out.below (nb w1 (.cells (madeCells #[.int .i64 0] M.n) 3))
    have lg : Aside (w.heap.size ≤ w1.heap.size) := B1.out.size
    clear hmk KV m1 B1
    generalize w1.alloc (.cells (madeCells #[.int .i64 0] M.n) 3) = w2 at row2 B2 m2 ⊢
    generalize w1.heap.size = g at row2 lg ⊢
    have nd := keys_once m2
    have kl := rch_len r1.out nd
    have hl := ok.len
    obtain ⟨es, clock, hbm, km⟩ := m2
    obtain ⟨hr, hI0⟩ := Hm.Iter.start 97 Tryz.underlying97 hbm km
    have B3 : Below w.heap.size w (w2.alloc (.mapIter (some b) clock #[] clock)) := Rf.below_far B2 (nb w2 _)
    have row3 := row2.of_block ((nb w2 (.mapIter (some b) clock #[] clock)).block g row2.lt)
    have li : Aside (w.heap.size ≤ w2.heap.size) := B2.size
    have gi : Aside (∀ u : World, u.rowIs g 3 M.n (fun _ => .int .i64 0) → True) := fun _ _ => trivial
    clear B2 row2 hbm km gi
    obtain ⟨it, hit⟩ : ∃ it, w2.heap.size = it := ⟨_, rfl⟩
    rw [hit] at hr hI0 li
    generalize w2.alloc (.mapIter (some b) clock #[] clock) = w3 at hr hI0 B3 row3
    have ksl : ks.length ≤ 32768 := by have := rm.2; omega
    have inA : Aside (∀ k ∈ ks, (M.nd k).1 < M.n) := fun k hk => ok.lv k (r1.out.inn k hk)
    have ndA : Aside ks.Nodup := nd
    have B3A : Aside (Below w.heap.size w w3) := B3
    have row3A : Aside (w3.rowIs g 3 M.n (fun _ => .int .i64 0)) := row3
    have hI0A : Aside (Hm.Iter w3 it b (ks.map (ent M)) []) := hI0
    clear kl hl nd hit row3 B3 hI0 rm ok s
    go_wp2_with fail
    clear hr
    go_loopg [10] (ks.length + 1) (fun gg _ wr => ∃ us : List Nat, us.length + gg = ks.length + 1 ∧ Aside us.Nodup ∧ Aside (∀ k ∈ us, k ∈ ks) ∧ Hm.Iter wr it b (ks.map (ent M)) (us.map fun k : Nat => (k : Int)) ∧ Aside (wr.rowIs g 3 M.n (fun i => .int .i64 (lvN M us i : Int))) ∧ Aside (Below w.heap.size w wr))
    case atStart => exact ⟨[], by simp, by simp [Aside], by simp [Aside], hI0A.out, row3A.out, B3A.out⟩
    case round =>
      clear hI0A row3A B3A
      obtain ⟨us, hg, hun, hus, hI, hrow, hB⟩ := hrel
      have hgA : Aside (us.length + gk = ks.length + 1) := hg
      clear hg
      rcases hI.next 0 with ⟨hall, hnx⟩ | ⟨t, v, w4, htl, htv, hnx, hI2, hw2, hs2, hen⟩
      · have fin : Aside (LevelsQ M n H w (.returned (.tuple #[.slice (some ⟨g, 0, none⟩) M.n M.n, .int .i64 0])) wr) := by
          refine .inl ⟨goodA.out, g, ks, ndA.out, r1.out, rfl, hrow.out.congr fun i _ => ?_, lg.out⟩
          rw [lvN_perm hun.out ndA.out fun k => ⟨hus.out k, fun hk => ?_⟩]
          have := hall _ (List.mem_map.2 ⟨k, hk, rfl⟩)
          obtain ⟨k', hk', e⟩ := List.mem_map.1 this
          have e : (k' : Int) = (k : Int) := e
          exact (show k' = k by omega) ▸ hk'
        clear hall
        go_wp2_with fail
        go_ret2
        exact ⟨fin.out, hB.out⟩
      · obtain ⟨k, hk, hkt⟩ := List.mem_map.1 htl
        have e1 : (k : Int) = t := congrArg Prod.fst hkt
        have e2 : ((M.nd k).1 : Int) = v := congrArg Prod.snd hkt
        subst e1 e2
        have ku : k ∉ us := fun q => htv (List.mem_map.2 ⟨k, q, rfl⟩)
        have hlt : us.length < ks.length := by
          have := nodup_le (k :: us) ks (List.nodup_cons.2 ⟨ku, hun.out⟩) fun x hx => by
            rcases List.mem_cons.1 hx with rfl | hx
            · exact hk
            · exact hus.out x hx
          simp at this
          omega
        have hne : g ≠ it := fun e => by
          obtain ⟨_, _, _, _, hi⟩ := hI.blocks
          obtain ⟨cs, hc, _⟩ := hrow.out
          rw [e, hi] at hc
          cases hc
        have hnb : g ≠ b := fun e => by
          obtain ⟨_, _, _, hi, _⟩ := hI.blocks
          obtain ⟨cs, hc, _⟩ := hrow.out
          rw [e, hi] at hc
          cases hc
        have row4 := hrow.out.of_block (hw2.block g hrow.out.lt hne)
        have lv := inA.out k hk
        have hc4 := row4.cell lv
        have hf4 := row4.frozen (M.nd k).1
        have row5 := row4.set (M.nd k).1 (.int .i64 ((lvN M us (M.nd k).1 : Int) + 1))
        have B4 : Below w.heap.size w w4 := below_map hB.out li.out hw2
        have sz : lvN M us (M.nd k).1 ≤ 32768 := by have := lvN_le M us (M.nd k).1; omega
        have fin : Aside (∃ us' : List Nat, us'.length = us.length + 1 ∧ us'.Nodup ∧ (∀ k ∈ us', k ∈ ks) ∧ Hm.Iter (w4.setCell ⟨g, (M.nd k).1, none⟩ (.int .i64 ((lvN M us (M.nd k).1 : Int) + 1))) it b (ks.map (ent M)) (us'.map fun k : Nat => (k : Int)) ∧ (w4.setCell ⟨g, (M.nd k).1, none⟩ (.int .i64 ((lvN M us (M.nd k).1 : Int) + 1))).rowIs g 3 M.n (fun i => .int .i64 (lvN M us' i : Int)) ∧ Below w.heap.size w (w4.setCell ⟨g, (M.nd k).1, none⟩ (.int .i64 ((lvN M us (M.nd k).1 : Int) + 1)))) := by
          refine ⟨us ++ [k], by simp, ?_, fun x hx => ?_, ?_, row5.congr fun i _ => ?_, ?_⟩
          · rw [List.nodup_append]
            exact ⟨hun.out, by simp, fun a ha c hc e => by simp at hc; subst hc; subst e; exact ku ha⟩
          · rcases List.mem_append.1 hx with hx | hx
            · exact hus.out x hx
            · rw [List.mem_singleton] at hx; subst hx; exact hk
          · rw [List.map_append]
            exact hI2.same (Below.heap_setCell _ _ _ _ (fun e => hnb e.symm)) (Below.heap_setCell _ _ _ _ (fun e => hne e.symm))
          · rw [lvN_put]
            by_cases c : i = (M.nd k).1
            · rw [if_pos c, if_pos c]; simp
            · rw [if_neg c, if_neg c]
          · exact B4.trans ⟨rfl, rfl, rfl, by simp [World.setCell], fun i hi => Below.heap_setCell _ _ _ _ (show i ≠ g by have := lg.out; omega)⟩
        have hltA : Aside (us.length < ks.length) := hlt
        clear htl htv hkt hk ku hlt row4 row5 B4 hI hI2 hw2 hs2 hrow hun hus hB inA hne hnb
        generalize lvN M us (M.nd k).1 = x at hc4 sz fin
        generalize (M.nd k).1 = L at hc4 hf4 lv fin hnx hen
        have hL0 : ((L : Int)).toNat = L := by omega
        have hL1 : (L : Int) < (M.n : Int) := by omega
        have hw : IntKind.i64.wrap ((x : Int) + 1) = (x : Int) + 1 := by rw [IntKind.wrap_i64]; omega
        go_wp2_with fail
        go_roundg (gk - 1)
        case measure => have := hgA.out; have := hltA.out; omega
        case rel =>
          obtain ⟨us', q1, q2, q3, q4, q5, q6⟩ := fin.out
          exact ⟨us', by have := hgA.out; have := hltA.out; omega, q2, q3, q4, q5, q6⟩
  · have K1 : Calls Tryz.prog 43 #[.pointer (some ⟨S, 0, none⟩), .slice ad n cap] w fun e w' => e = .returned (.tuple #[.map none, .int .i64 101]) ∧ Aside (∃ i, i < n ∧ ¬ M.isNode (H i)) ∧ Below w.heap.size w w' := by
      refine K.mono ?_
      rintro e w' (⟨hN, _⟩ | ⟨bad, rfl, B⟩)
      · exact absurd hN good
      · exact ⟨rfl, bad, B⟩
    clear K good ok rm
    go_enter Tryz.func15, Tryz.ntmps15
    go_wp2_with (first
      | (go_at_call 43; refine K1.mono ?_; clear K1; rintro e w1 ⟨rfl, bad, B1⟩))
    go_ret2
    exact ⟨.inr ⟨bad.out, rfl⟩, B1⟩
end
end Go.Proofs.YtdmfnhnlilkijaaGreat
