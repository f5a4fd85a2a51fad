/-
  The whole plan, made in memory.
-/
import Derived.Test.YteickckgljlacaaGreatSwH
namespace Go.Proofs.YteickckgljlacaaGreat.Sw
open Go Go.RowKit

section
variable {w0 w w' : World} {E S bn bl k last : Nat} {N : List (Nat × Nd)} {L : List (Nd × Nat)} {M : Mdl} {F : Nat → Prop}
theorem Ex.start (w : World) (S k : Nat) : Ex w (((w.alloc (.map #[] 0)).alloc (.map #[] 0)).alloc (.cells #[.pointer (some ⟨S, 0, none⟩), .int .i64 (k : Int), .map (some w.heap.size), .map (some (w.heap.size + 1)), .int .u32 1] 143)) (w.heap.size + 2) S w.heap.size (w.heap.size + 1) k [] [] 1 := by
  have s1 : (w.alloc (.map #[] 0)).heap.size = w.heap.size + 1 := by simp
  have s2 : ((w.alloc (.map #[] 0)).alloc (.map #[] 0)).heap.size = w.heap.size + 2 := by simp
  have e1 : IsM (w.alloc (.map #[] 0)) w.heap.size [] := IsM.fresh w
  have e2 : IsM ((w.alloc (.map #[] 0)).alloc (.map #[] 0)) (w.heap.size + 1) [] := by rw [← s1]; exact IsM.fresh _
  refine ⟨(((Below.refl _ w).alloc (Nat.le_refl _) _).alloc (by omega) _).alloc (by omega) _, ?_, ?_, ?_, by omega, by omega, Nat.le_refl _, by omega⟩
  · rw [← s2]
    refine ⟨_, Go.Deep.blk_alloc_new _ _, rfl, fun i hi => ?_⟩
    have : i = 0 ∨ i = 1 ∨ i = 2 ∨ i = 3 ∨ i = 4 := by omega
    rcases this with rfl | rfl | rfl | rfl | rfl <;> rfl
  · exact (e1.same (Below.heap_alloc _ _ _ e1.lt)).same (Below.heap_alloc _ _ _ (by rw [s2]; omega))
  · exact e2.same (Below.heap_alloc _ _ _ e2.lt)
theorem take_len (l : List Nat) {j : Nat} (h : j < l.length) : l.getD j 0 ∈ l := by
  rw [List.getD_eq_getElem?_getD, List.getElem?_eq_getElem h]
  exact List.getElem_mem h
theorem mvB_nodup (o : M.Ok) : (mvB M k M.hs).Nodup := by
  have : ∀ l : List Nat, l.Nodup → (mvB M k l).Nodup := fun l => by
    induction l with
    | nil => intro _; exact List.nodup_nil
    | cons a l ih =>
      intro hn
      have h1 := List.nodup_cons.1 hn
      show (mvB1 M k a ++ mvB M k l).Nodup
      unfold mvB1
      split
      · exact List.nodup_cons.2 ⟨fun h => h1.1 (mvB_mem.1 h).1, ih h1.2⟩
      · exact ih h1.2
  exact this _ o.nodup
theorem take_fresh {l : List Nat} (hn : l.Nodup) {j : Nat} (h : j < l.length) : l.getD j 0 ∉ l.take j := by
  rw [List.getD_eq_getElem?_getD, List.getElem?_eq_getElem h]
  intro hm
  obtain ⟨i, hi, e⟩ := List.mem_iff_getElem.1 hm
  rw [List.length_take] at hi
  rw [List.getElem_take] at e
  change l[i] = l[j] at e
  have := (List.getElem_inj hn).1 e
  omega
set_option maxRecDepth 100000 in
set_option maxHeartbeats 4000000 in
theorem exchanged_any (s : St w S F M) (kn : k + 1 < M.n) (room : M.hs.length + 2 * atLev M k ≤ M.room) :
    Calls Tryz.prog 48 #[.pointer (some ⟨S, 0, none⟩), .int .i64 (k : Int)] w fun e w' => ∃ (bn : Nat) (N : List (Nat × Nd)) (L : List (Nd × Nat)) (last c : Nat), e = .returned (.map (some bn)) ∧ IsH w' bn N ∧ PInv M k (mvB M k M.hs) c N L last ∧ c ≤ 2 * atLev M k ∧ Below w.heap.size w w' ∧ w.heap.size ≤ bn := by
  have o := s.ok
  have n8 := o.le8
  have r2 := s.room.2
  have sA : Aside (St w S F M) := s
  have oA : Aside M.Ok := o
  have roomA : Aside (M.hs.length + 2 * atLev M k ≤ M.room) := room
  have h1 := Ex.start w S k
  have hmm := @run_makeMap Tryz.prog
  obtain ⟨A, hA⟩ : ∃ A, w.heap.size = A := ⟨_, rfl⟩
  have hAA : Aside (w.heap.size = A) := hA
  rw [hA] at h1 ⊢
  have K1 := move_any s h1 kn
  have hBl : (mvB M k M.hs).length ≤ atLev M k := mvB_len M.hs
  have ndA : Aside (mvB M k M.hs).Nodup := mvB_nodup o
  have inA : Aside (∀ x ∈ mvB M k M.hs, x ∈ M.hs ∧ bothB M k x = true) := fun x hx => mvB_mem.1 hx
  have p0 : Aside (PInv M k [] 0 (mvN M k M.hs) (mvL M k M.hs) 1) := PInv.start o
  generalize mvN M k M.hs = N0 at K1 p0
  generalize mvL M k M.hs = L0 at K1 p0
  generalize mvB M k M.hs = Bs at K1 hBl ndA inA ⊢
  have ltA : Aside (∀ b, XF (A + 2) A (A + 1) b → b < A + 3) := fun b hb => by rcases hb with e | e | e <;> omega
  obtain ⟨n, hn⟩ : ∃ n, Bs.length = n := ⟨_, rfl⟩
  have hnA : Aside (Bs.length = n) := hn
  rw [hn] at K1 hBl
  have h1A : Aside (Below A w (((w.alloc (.map #[] 0)).alloc (.map #[] 0)).alloc (.cells #[.pointer (some ⟨S, 0, none⟩), .int .i64 (k : Int), .map (some A), .map (some (A + 1)), .int .u32 1] 143))) := hA ▸ h1.base
  have szA : Aside ((((w.alloc (.map #[] 0)).alloc (.map #[] 0)).alloc (.cells #[.pointer (some ⟨S, 0, none⟩), .int .i64 (k : Int), .map (some A), .map (some (A + 1)), .int .u32 1] 143)).heap.size = A + 3) := by show _ = _; simp [hA]
  clear hn o s h1 room
  go_enter Tryz.func48, Tryz.ntmps48
  go_wp2_with (first
    | (go_at_call 71; refine K1.mono ?_; clear K1; rintro e w2 ⟨ad, cap, rfl, o2, h2, g2⟩))
  rw [szA.out] at o2
  have o2A : Aside (OwnR 38 w2 (A + 3) ad n cap (fun i => .int .u32 (Bs.getD i 0 : Nat))) := o2
  have h2A : Aside (Ex w w2 (A + 2) S A (A + 1) k N0 L0 1) := h2
  have n32 : n ≤ 32768 := by have := roomA.out; omega
  clear o2 h2 g2 hA
  go_loopg [15, 7] n (fun g s15 _ wr => ∃ (j : Nat) (N : List (Nat × Nd)) (L : List (Nd × Nat)) (last c : Nat), j + g = n ∧ s15 = .int .i64 (j : Int) ∧ c ≤ 2 * j ∧ Aside (PInv M k (Bs.take j) c N L last) ∧ Aside (Ex w wr (A + 2) S A (A + 1) k N L last) ∧ Aside (Went (XF (A + 2) A (A + 1)) w2 wr))
  case atStart => exact ⟨0, N0, L0, 1, 0, by omega, rfl, by omega, p0.out, h2A.out, Went.refl _ _⟩
  case round =>
    obtain ⟨j, N, L, last, c, hj, rfl, hc, hP, hE, hG⟩ := hrel
    have hJ : Aside (j + gk = n ∧ c ≤ 2 * j) := ⟨hj, hc⟩
    have hjn : j ≤ n := by omega
    have hPA : Aside (PInv M k (Bs.take j) c N L last) := hP
    have hEA : Aside (Ex w wr (A + 2) S A (A + 1) k N L last) := hE
    have hGA : Aside (Went (XF (A + 2) A (A + 1)) w2 wr) := hG
    clear hP hE hG
    by_cases hlt : j < n
    · have hlt' : (j : Int) < (n : Int) := by omega
      have hji : ¬ (n : Int) ≤ (j : Int) := by omega
      have ownr : OwnR 38 wr (A + 3) ad n cap (fun i => .int .u32 (Bs.getD i 0 : Nat)) :=
        o2A.out.kept fun b hb => hGA.out.block b (o2A.out.block b hb).2 fun e => by have := ltA.out b e; have := (o2A.out.block b hb).1; omega
      obtain ⟨g, rfl⟩ := ownr.form (by omega)
      have cw := ownr.cell hlt
      clear ownr
      have hjB : j < Bs.length := by rw [hnA.out]; exact hlt
      have xB := take_len Bs hjB
      have xF := take_fresh ndA.out hjB
      have tkA : Aside (Bs.take (j + 1) = Bs.take j ++ [Bs.getD j 0]) := take_snoc Bs hjB
      generalize Bs.getD j 0 = x at cw xB xF tkA
      obtain ⟨xm, xb⟩ := inA.out x xB
      have xA : Aside (x ∈ M.hs ∧ bothB M k x = true ∧ x ∉ Bs.take j) := ⟨xm, xb, xF⟩
      have hl : last ≤ 1 + M.room := by have := hPA.out.last_le; have := roomA.out; omega
      have bk := (both_iff.1 xb).1
      have dlo : ∀ b, Deep M k (cof M k (M.nd x).2.1 b) := fun b => cof_node oA.out kn (oA.out.lo x xm).1 (by have := (oA.out.lo x xm).2; omega) b
      have dhi : ∀ b, Deep M k (cof M k (M.nd x).2.2 b) := fun b => cof_node oA.out kn (oA.out.hi x xm).1 (by have := (oA.out.hi x xm).2; omega) b
      have dA : Aside ((∀ b, Deep M k (cof M k (M.nd x).2.1 b)) ∧ ∀ b, Deep M k (cof M k (M.nd x).2.2 b)) := ⟨dlo, dhi⟩
      have K1 := half_lo sA.out hEA.out hl kn xm hPA.out.keys_in
      have K2 : Aside (∀ (u : World) (N1 : List (Nat × Nd)) (L1 : List (Nd × Nat)) (last1 : Nat), Ex w u (A + 2) S A (A + 1) k N1 L1 last1 → last1 ≤ 1 + M.room → (∀ y ∈ N1.map (·.1), M.isNode y ∨ y ≤ last1) → Calls Tryz.prog 73 #[.pointer (some ⟨A + 2, 0, none⟩), .int .u32 (x : Int), .func (.func 49) #[.pointer (some ⟨S, 0, none⟩)] #[]] u _) := fun u N1 L1 last1 h h' h'' => half_hi sA.out h h' kn xm h''
      have ltjA : Aside (j < n ∧ n ≤ atLev M k) := ⟨hlt, hBl⟩
      clear xm xb xF xB hjB dlo dhi bk hlt hj hc hl
      go_wp2_with (first
        | (go_at_call 73; refine K1.mono ?_; clear K1; rintro e w3 ⟨y, N1, L1, l1, rfl, j1, h3, g3⟩; obtain ⟨p1, jn1, sub1⟩ := hPA.out.join (dA.out.1 false) (dA.out.2 false) j1; have K3 := K2.out w3 N1 L1 l1 h3 (by have := p1.last_le; have := roomA.out; have := hJ.out; have := ltjA.out; omega) p1.keys_in; have p1A : Aside (PInv M k (Bs.take j) (c + 1) N1 L1 l1) := p1; have jn1A : Aside (JnL L1 k y (cof M k (M.nd x).2.1 false) (cof M k (M.nd x).2.2 false)) := jn1; have g3A : Aside (Went (XF (A + 2) A (A + 1)) w2 w3) := hGA.out.trans g3; clear p1 jn1 sub1 j1 h3 g3)
        | (go_at_call 73; refine K3.mono ?_; clear K3; rintro e w4 ⟨z, N2, L2, l2, rfl, j2, h4, g4⟩; obtain ⟨p2, jn2, sub2⟩ := p1A.out.join (dA.out.1 true) (dA.out.2 true) j2; obtain ⟨p3, nx, nl⟩ := p2.lay xA.out.1 xA.out.2.1 xA.out.2.2 (jn1A.out.mono sub2) jn2; have K4 : Calls _ _ #[_, _, .agg #[.int .i64 (k : Int), .int .u32 (y : Int), .int .u32 (z : Int)]] _ _ := put_any h4 x (k, y, z) nx nl (by omega); rw [if_neg (show ¬ (k, y, z).1 = k + 1 by simp only; omega)] at K4; have p3A : Aside (PInv M k (Bs.take j ++ [x]) (c + 1 + 1) (N2 ++ [(x, (k, y, z))]) L2 l2) := p3; have g4A : Aside (Went (XF (A + 2) A (A + 1)) w2 w4) := g3A.out.trans g4; clear p2 jn2 sub2 p3 nx nl j2 h4 g4)
        | (go_at_call 72; refine K4.mono ?_; clear K4; rintro e w5 ⟨rfl, h5, g5⟩))
      go_roundg (gk - 1)
      case measure => have := hJ.out; have := ltjA.out; omega
      case rel =>
        have := hJ.out
        have := ltjA.out
        exact ⟨j + 1, _, _, _, c + 1 + 1, by omega, by go_num, by omega, tkA.out ▸ p3A.out, h5, g4A.out.trans g5⟩
    · obtain rfl : j = n := by omega
      have c2 := hEA.out.c2
      have tk : Bs.take j = Bs := List.take_of_length_le (by rw [hnA.out]; exact Nat.le_refl _)
      have pA : Aside (PInv M k Bs c N L last) := tk ▸ hPA.out
      go_wp2_with fail
      go_ret
      have bs := hEA.out.base
      rw [hAA.out] at bs
      exact ⟨A, N, L, last, c, rfl, hEA.out.hN, pA.out, by omega, bs, Nat.le_refl _⟩
end
end Go.Proofs.YteickckgljlacaaGreat.Sw
