/-
  BuildPathsUp, walked.
-/
import Derived.Test.YtfaccdnnjkkcfaaGreatDoorPathsW
import Derived.Deep.RegionHeld3
namespace Go.Proofs.YtfaccdnnjkkcfaaGreatDoor
open Go Go.RowKit
open Rf (fixAt fixF tab word same IsTab Cols countUpto)

/-! ## Without a program -/
theorem or_few {M M' M'' : Mdl} (o : M.Ok) (o' : M'.Ok) (o'' : M''.Ok) (g : Mdl.Grew M M') {a : Nat} (an : M.isNode a) (j : Nat) {Y : Nat → Bool} (eY : Eqt Y (sumP ((pathsL M a).take j))) (dY : Dep M' 0 Y) (room : M'.hs.length + 8 ≤ M'.room) {z : Nat} {er : Int} (t : Told M' 0 Y z er M'') :
    er = 0 ∧ Got M' 0 Y z M'' ∧ M''.hs.length ≤ M'.hs.length + 8 := by
  obtain ⟨L, hL, h⟩ := sum_near o M.n an (by omega) j
  have l8 := o.le8
  have fr := fresh_le o' dY L fun G hG => by
    have h1 := (Prt.grew_iff g).1 ((Prt.like o' dY eY).1 hG)
    rcases h G h1 with q | q
    · exact .inl q
    · exact .inr (Has.grew g o (Prt.there o M.n an (by omega) q))
  rcases t with ⟨rfl, t⟩ | ⟨rfl, rfl, t⟩
  · have := t.len o' o'' dY
    exact ⟨rfl, t, by omega⟩
  · have := t.len o' o'' dY
    omega
theorem sum_cnt {F : Nat → Bool} {l : List (Nat × Nat)} (ps : PathsOf F l) {i N : Nat} (hN : N ≤ 256) (hi : i < l.length) : countUpto (sumP (l.take (i + 1))) N = countUpto (sumP (l.take i)) N + countUpto (fun y => onP y (l.getD i (0, 0))) N := by
  have both := cnt_both (sumP (l.take i)) (fun y => onP y (l.getD i (0, 0))) N
  have none : countUpto (fun y => sumP (l.take i) y && onP y (l.getD i (0, 0))) N = 0 := by
    rw [cnt_congr (G := fun _ => false) N fun y hy => ?_, cnt_const]
    · rfl
    · cases c : onP y (l.getD i (0, 0)) with
      | false => exact Bool.and_false _
      | true =>
        have h1 := hits_take y l i hi
        rw [c, if_pos rfl] at h1
        have h2 := hits_le y l (i + 1)
        have h3 := ps.hit y (by omega)
        rw [sum_hits, Bool.and_true]
        refine decide_eq_false ?_
        split at h3 <;> omega
  have or : countUpto (fun y => sumP (l.take i) y || onP y (l.getD i (0, 0))) N = countUpto (sumP (l.take (i + 1))) N := cnt_congr N fun y _ => (sum_take l i hi y).symm
  omega
theorem OwnP.wf {w w' : World} {B S : Nat} {ad : Option Addr} {ps : List (Nat × Nat)} {cap : Nat} {F F' : Nat → Prop} {M : Mdl} (h : OwnP w B ad ps cap) (s : St w S F M) (k : Wf F F' w w') : OwnP w' B ad ps cap := by
  refine h.kept fun a ha => k.block _ (h.block a ha).2 ?_
  obtain ⟨_, h2⟩ := h
  rcases h2 with h2 | ⟨g, cap', cur, hv, _, hh, _⟩
  · subst ha
    have := h2.1
    cases this
  · have had : ad = some ⟨g, 0, none⟩ := by injection hv
    rw [had] at ha
    cases ha
    exact s.row hh (by decide)
theorem OwnP.two {w : World} {B g i p1 p2 cap : Nat} {l : List (Nat × Nat)} (h : OwnP w B (some ⟨g, 0, none⟩) l cap) (hi : i < l.length) (pe : l.getD i (0, 0) = (p1, p2)) : w.cell? ⟨g, i * 2, none⟩ = some (.int .u8 (p1 : Int)) ∧ w.cell? ⟨g, i * 2 + 1, none⟩ = some (.int .u8 (p2 : Int)) := by
  obtain ⟨g', hg, r0, r1⟩ := h.read hi
  cases hg
  rw [pe] at r0 r1
  exact ⟨r0, r1⟩
/-- How often: of the first ones, of each, of all. -/
theorem cnts_of {F : Nat → Bool} {l : List (Nat × Nat)} (ps : PathsOf F l) : ∃ (c d : Nat → Nat) (m : Nat), c 0 = 0 ∧ (∀ i, i < l.length → c (i + 1) = c i + d i ∧ c i ≤ 256 ∧ d i ≤ 256) ∧ c l.length = m ∧
    (∀ (M : Mdl) (x i : Nat), M.n = 8 → i < l.length → Eqt (M.tbl x) (cubeF (l.getD i (0, 0)).1 (l.getD i (0, 0)).2) → tCnt M x = d i) ∧ (∀ (M : Mdl) (x : Nat), M.n = 8 → Eqt (M.tbl x) F → tCnt M x = m) := by
  have key : ∀ N, N = 256 → ∃ (c d : Nat → Nat) (m : Nat), c 0 = 0 ∧ (∀ i, i < l.length → c (i + 1) = c i + d i ∧ c i ≤ 256 ∧ d i ≤ 256) ∧ c l.length = m ∧
    (∀ (M : Mdl) (x i : Nat), M.n = 8 → i < l.length → Eqt (M.tbl x) (cubeF (l.getD i (0, 0)).1 (l.getD i (0, 0)).2) → countUpto (M.tbl x) N = d i) ∧ (∀ (M : Mdl) (x : Nat), M.n = 8 → Eqt (M.tbl x) F → countUpto (M.tbl x) N = m) := fun N hN => by
    refine ⟨fun i => countUpto (sumP (l.take i)) N, fun i => countUpto (fun y => onP y (l.getD i (0, 0))) N, countUpto F N, ?_, fun i hi => ⟨sum_cnt ps (by omega) hi, Nat.le_trans (cnt_le _ N) (by omega), Nat.le_trans (cnt_le _ N) (by omega)⟩, ?_, fun M x i _ hi e => ?_, fun M x _ e => cnt_congr N fun y hy => e y (by omega)⟩
    · show countUpto (sumP (l.take 0)) N = 0
      rw [List.take_zero, show sumP [] = fun _ => false from rfl, cnt_const]; rfl
    · show countUpto (sumP (l.take l.length)) N = _
      rw [List.take_of_length_le (Nat.le_refl _)]
      refine cnt_congr N fun y hy => ?_
      rw [sum_hits, ps.hit y (by omega)]
      cases F y <;> rfl
    · have sb := ps.sub _ (getDP_mem hi)
      exact cnt_congr N fun y hy => (e.trans (path_cube sb.1 sb.2.1)) y (by omega)
  obtain ⟨c, d, m, h1, h2, h3, h4, h5⟩ := key (2 ^ 8) (by decide)
  exact ⟨c, d, m, h1, h2, h3, fun M x i n8 hi e => by unfold tCnt; rw [n8]; exact h4 M x i n8 hi e, fun M x n8 e => by unfold tCnt; rw [n8]; exact h5 M x n8 e⟩
/-- What holds while the paths are summed. -/
structure PuI (W wr : World) (S B : Nat) (ad : Option Addr) (l : List (Nat × Nat)) (cap : Nat) (M : Mdl) (i z : Nat) (Mi : Mdl) (Fi : Nat → Prop) : Prop where
  st : St wr S Fi Mi
  grew : Mdl.Grew M Mi
  node : Mi.isNode z
  tbl : Eqt (Mi.tbl z) (sumP (l.take i))
  len : Mi.hs.length ≤ M.hs.length + 16 * i
  own : OwnP wr B ad l cap
  base : Below W.heap.size W wr
  far : ∀ k, Fi k → W.heap.size ≤ k

set_option maxRecDepth 100000 in
set_option maxHeartbeats 4000000 in
theorem pathsUp_walk (F : Nat → Bool) (W : World) (hC : Cols W) :
    Calls Tryz.prog 7 #[tab F] W fun e w' => e = .returned (.bool true) ∧ Below W.heap.size W w' := by
  have hCA : Aside (Cols W) := hC
  conv in #[tab F] => unfold tab
  have B3 := nb W (.cells #[.int .u64 (word F 0 : Int), .int .u64 (word F 1 : Int), .int .u64 (word F 2 : Int), .int .u64 (word F 3 : Int)] 24)
  have TF := IsTab.new W F
  go_enter Tryz.func7, Tryz.ntmps7
  go_upto_region 1 with fail
  generalize W.alloc (.cells #[.int .u64 (word F 0 : Int), .int .u64 (word F 1 : Int), .int .u64 (word F 2 : Int), .int .u64 (word F 3 : Int)] 24) = v3 at B3 TF ⊢
  have Kk := bknown_any v3 (hC.kept B3)
  have B3A : Aside (Below W.heap.size W v3) := B3
  generalize hbf : W.heap.size = bf at TF ⊢
  have hbA : Aside (W.heap.size = bf) := hbf
  clear hbf B3 hC
  go_upto_region 3 with (first
    | (go_at_call 8; refine Kk.mono ?_; clear Kk; rintro e v4 ⟨rfl, b4⟩))
  have TF4 := kept TF b4
  have Kn : Calls Tryz.prog 9 #[.int .i64 8, .int .i64 4000] v4 _ := s_new 8 4000 v4 (by omega) (by omega) (by omega) (by omega)
  have B4A : Aside (Below W.heap.size W v4) := Rf.below_far B3A.out b4
  clear TF b4 B3A
  go_upto_region 6 with (first
    | (go_at_call 9; refine Kn.mono ?_; clear Kn; rintro e w5 ⟨S, F0, rfl, s5, b5, f5⟩))
  have TF5 := kept TF4 b5
  have B5A : Aside (Below W.heap.size W w5) := Rf.below_far B4A.out b5
  have f5A : Aside (∀ k, F0 k → W.heap.size ≤ k) := fun k hk => Nat.le_trans B4A.out.size (f5 k hk)
  have K1 := from_op s5 (F := F) (hCA.out.kept B5A.out) (fun h0 => by have := f5A.out 0 h0; have := hCA.out.1; omega) (Dep.all s5.ok rfl F) (by unfold Much; show 0 + (2 ^ 6 - 1) + 19 ≤ 4000; omega)
  have KM := fun z w => bmust_x z w
  unfold tab at K1
  obtain ⟨y0, y1, y2, y3⟩ := TF5.copy
  clear TF4 b5 f5 B4A
  go_upto_region 7 with (first
    | (go_at_call 12; refine K1.mono ?_; clear K1; rintro e w6 ⟨a, M, F6, rfl, g6, s6, k6⟩)
    | (go_at_call 25; refine (KM _ _).mono ?_; rintro e wm ⟨rfl, em⟩; subst wm))
  have B6A : Aside (Below W.heap.size W w6) := Wf.far B5A.out k6 B5A.out.size f5A.out
  have f6A : Aside (∀ k, F6 k → W.heap.size ≤ k) := k6.after B5A.out.size f5A.out
  have n8 : M.n = 8 := g6.grew.n
  have r8 : M.room = 4000 := g6.grew.room
  have o6 := s6.ok
  have len6 : M.hs.length ≤ 82 := by
    have u : M.up ≤ 0 + (2 ^ 6 - 1) := g6.up
    have := Mdl.len_le o6
    omega
  have K2 := cubes_op s6 g6.node
  have ps := PathsOf.of o6 n8 g6.node g6.tbl
  have psA : Aside (PathsOf F (pathsL M a)) := ps
  have len := ps.len
  have KP : Aside (∀ u, Below w6.heap.size w6 u → Calls Tryz.prog 33 #[.pointer (some ⟨S, 0, none⟩), .int .u32 (a : Int)] u fun e w' => e = .returned (.int .i64 ((pathsL M a).length : Int)) ∧ w' = u) := fun u k => lpaths_any M.n (by omega) (s6.below k) g6.node (by omega)
  have few : Aside (∀ (M' M'' : Mdl), M'.Ok → M''.Ok → Mdl.Grew M M' → ∀ (j : Nat) (Y : Nat → Bool), Eqt Y (sumP ((pathsL M a).take j)) → Dep M' 0 Y → M'.hs.length + 8 ≤ M'.room → ∀ (z : Nat) (er : Int), Told M' 0 Y z er M'' → er = 0 ∧ Got M' 0 Y z M'' ∧ M''.hs.length ≤ M'.hs.length + 8) := fun M' M'' o' o'' g j Y eY dY room z er t => or_few o6 o' o'' g g6.node j eY dY room t
  have whole : Aside (Eqt (sumP (pathsL M a)) (M.tbl a)) := fun y _ => sum_all o6 g6.node y
  have gA : Aside (Got (Mdl.empty 8 4000) 0 F a M) := g6
  have oA : Aside M.Ok := o6
  have l6A : Aside (M.hs.length ≤ 82 ∧ M.n = 8 ∧ M.room = 4000) := ⟨len6, n8, r8⟩
  have s6A : Aside (St w6 S F6 M) := s6
  generalize pathsL M a = l at K2 psA len KP few whole
  clear y0 y1 y2 y3 TF5 B5A f5A k6 g6 s6 s5 ps o6 n8 r8 len6
  go_upto_region 8 with (first
    | (go_at_call 15; refine K2.mono ?_; clear K2; rintro e w7 ⟨ad, cap, rfl, o7, b7⟩))
  have KP7 := KP.out w7 b7
  go_upto_region 13 with (first
    | (go_at_call 33; refine KP7.mono ?_; clear KP7; rintro e wm ⟨rfl, em⟩; subst wm))
  have I0 : Aside (PuI W w7 S w6.heap.size ad l cap M 0 0 M F6) := ⟨s6A.out.below b7, ⟨rfl, rfl, rfl, fun _ h => ⟨h, rfl⟩⟩, .inl (by omega), tbl_zero M, Nat.le_refl _, o7, Rf.below_far B6A.out b7, f6A.out⟩
  generalize w6.heap.size = B at I0
  clear o7 b7 KP B6A f6A s6A
  obtain ⟨c, d, m, c0E, cstep, cend, cubeC, allC⟩ := cnts_of psA.out
  have cstepA : Aside (∀ i, i < l.length → c (i + 1) = c i + d i ∧ c i ≤ 256 ∧ d i ≤ 256) := cstep
  have cendA : Aside (c l.length = m) := cend
  have c0A : Aside (c 0 = 0) := c0E
  have cubeA : Aside (∀ (M : Mdl) (x i : Nat), M.n = 8 → i < l.length → Eqt (M.tbl x) (cubeF (l.getD i (0, 0)).1 (l.getD i (0, 0)).2) → tCnt M x = d i) := cubeC
  have allA : Aside (∀ (M : Mdl) (x : Nat), M.n = 8 → Eqt (M.tbl x) F → tCnt M x = m) := allC
  clear cstep cend c0E cubeC allC
  go_loopg [7, 8, 9, 10, 11, 12] l.length (fun gg s7 s8 s9 _ _ _ wr => ∃ (i z : Nat) (Mi : Mdl) (Fi : Nat → Prop), i + gg = l.length ∧ s7 = .int .u32 (z : Int) ∧ s8 = .int .u64 (c i : Int) ∧ s9 = .int .i64 (i : Int) ∧ Aside (PuI W wr S B ad l cap M i z Mi Fi))
  case atStart => exact ⟨0, 0, M, F6, by omega, rfl, by rw [c0A.out]; rfl, rfl, I0⟩
  case round =>
    clear I0
    obtain ⟨i, z, Mi, Fi, hi, rfl, rfl, rfl, I⟩ := hrel
    have hI : Aside (i + gk = l.length) := hi
    by_cases hil : i < l.length
    · have hil' : (i : Int) < (l.length : Int) := by omega
      have hilA : Aside (i < l.length) := hil
      obtain ⟨g, hg, _, _⟩ := I.out.own.read hil
      subst hg
      have memp := psA.out.sub _ (getDP_mem hil)
      have cubeI := cubeA.out
      have cs := cstepA.out i hil
      obtain ⟨p1, hp1⟩ : ∃ p, (l.getD i (0, 0)).1 = p := ⟨_, rfl⟩
      obtain ⟨p2, hp2⟩ : ∃ p, (l.getD i (0, 0)).2 = p := ⟨_, rfl⟩
      have pe : l.getD i (0, 0) = (p1, p2) := by rw [← hp1, ← hp2]
      have peA : Aside (l.getD i (0, 0) = (p1, p2)) := pe
      rw [pe] at memp
      simp only at memp
      have nI : Mi.n = 8 := I.out.grew.n.trans l6A.out.2.1
      have rI : Mi.room = 4000 := I.out.grew.room.trans l6A.out.2.2
      have lI := I.out.len
      have C5 := OwnP.two I.out.own.drew hil pe
      have l82 := l6A.out.1
      -- the cube
      have K1 : Calls Tryz.prog 20 #[.pointer (some ⟨S, 0, none⟩), .int .u8 (p1 : Int), .int .u8 (p2 : Int)] wr.drew fun e w' => ∃ x : Nat, e = .returned (.tuple #[.int .u32 (x : Int), .int .i64 0]) ∧ (w'.cell? ⟨g, i * 2, none⟩ = some (.int .u8 (p1 : Int)) ∧ w'.cell? ⟨g, i * 2 + 1, none⟩ = some (.int .u8 (p2 : Int))) ∧ Aside (∃ (M8 : Mdl) (F8 : Nat → Prop), St w' S F8 M8 ∧ Mdl.Grew Mi M8 ∧ M8.isNode x ∧ Eqt (M8.tbl x) (cubeF p1 p2) ∧ M8.hs.length ≤ Mi.hs.length + 8 ∧ OwnP w' B (some ⟨g, 0, none⟩) l cap ∧ Below W.heap.size W w' ∧ ∀ k, F8 k → W.heap.size ≤ k) := by
        have sm : p1 < 2 ^ Mi.n := by rw [nI]; exact memp.2.1
        have base : Below W.heap.size W wr.drew := I.out.base.drew
        refine (cube_op I.out.st.drew memp.2.1 memp.2.2 sm (by omega)).mono ?_
        rintro e w' ⟨x, M8, F8, rfl, c8, s8, k8⟩
        have o8 := (I.out.own.drew).wf I.out.st.drew k8
        have t8 := c8.got.tbl
        rw [cubeL_all I.out.st.ok sm] at t8
        have ln := c8.len
        exact ⟨x, rfl, o8.two hil pe, M8, F8, s8, c8.got.grew, c8.got.node, t8, by omega, o8, Wf.far base k8 base.size I.out.far, k8.after base.size I.out.far⟩
      clear hi hil memp cubeI hp1 hp2 pe lI l82
      go_upto_region 15 with fail
      go_region_held3 (fun u => u.cell? ⟨g, i * 2, none⟩ = some (.int .u8 (p1 : Int)) ∧ u.cell? ⟨g, i * 2 + 1, none⟩ = some (.int .u8 (p2 : Int))) (first | assumption) (first
        | (go_at_call 20; refine K1.mono ?_; clear K1; rintro e w8 ⟨x, rfl, C8, A8⟩; clear C5)
        | (go_at_call 25; refine (KM _ _).mono ?_; rintro e wm ⟨rfl, em⟩; subst wm))
      obtain ⟨M8, F8, s8, gr8, xn8, tx8, len8, o8, B8, far8⟩ := A8.out
      have n8 : M8.n = 8 := gr8.n.trans nI
      have r8 : M8.room = 4000 := gr8.room.trans rI
      have K2 := count_op s8 xn8
      rw [cubeA.out M8 x i n8 hilA.out (by rw [peA.out]; exact tx8)] at K2
      have KO : Aside (∀ u, Below w8.heap.size w8 u → Calls Tryz.prog 34 #[.pointer (some ⟨S, 0, none⟩), .int .u32 (z : Int), .int .u32 (x : Int)] u fun e w' => ∃ z' : Nat, e = .returned (.tuple #[.int .u32 (z' : Int), .int .i64 0]) ∧ Aside (∃ (M9 : Mdl) (F9 : Nat → Prop), PuI W w' S B (some ⟨g, 0, none⟩) l cap M (i + 1) z' M9 F9)) := fun u k => by
        have s := s8.below k
        have zn8 := gr8.isNode I.out.node
        have tz8 : Eqt (M8.tbl z) (sumP (l.take i)) := fun y hy => by rw [gr8.tbl I.out.st.ok I.out.node]; exact I.out.tbl y hy
        have sb := psA.out.sub _ (getDP_mem hilA.out)
        have eY : Eqt (ans M8 oOr z x 0) (sumP (l.take (i + 1))) := fun y hy => by
          have h1 : cubeF (l.getD i (0, 0)).1 (l.getD i (0, 0)).2 y = onP y (l.getD i (0, 0)) := path_cube sb.1 sb.2.1 y hy
          rw [peA.out] at h1
          unfold ans
          rw [tz8 y hy, tx8 y hy, sum_take l i hilA.out y, peA.out, ← h1]
          rfl
        have base : Below W.heap.size W u := Rf.below_far B8 k
        have lI := I.out.len
        have l82 := l6A.out.1
        have hl := hilA.out
        refine (or_op s zn8 xn8).mono ?_
        rintro e w' ⟨z', er, M9, F9, rfl, t, s9, k9⟩
        obtain ⟨rfl, got, len9⟩ := few.out M8 M9 s.ok s9.ok (I.out.grew.trans gr8) (i + 1) _ eY (Dep.all s.ok n8 _) (by omega) z' er t
        exact ⟨z', rfl, M9, F9, s9, (I.out.grew.trans gr8).trans got.grew, got.node, got.tbl.trans eY, by omega, (o8.below k).wf s k9, Wf.far base k9 base.size far8, k9.after base.size far8⟩
      obtain ⟨e1, e2, e3⟩ := cs
      have wr1 : IntKind.u64.wrap ((c i : Int) + (d i : Int)) = (c (i + 1) : Int) := by rw [IntKind.wrap_u64]; omega
      have wr2 : (c i : Int) + (d i : Int) = (c (i + 1) : Int) := by omega
      have bi : (i : Int) ≤ 128 := by omega
      obtain ⟨cn, hcn⟩ : ∃ n, c (i + 1) = n := ⟨_, rfl⟩
      have hcnA : Aside (c (i + 1) = cn) := hcn
      rw [hcn] at wr1 wr2 e1
      generalize c i = ci at wr1 wr2 e1 e2 ⊢
      generalize d i = di at wr1 wr2 e1 e3 K2
      clear s8 gr8 xn8 tx8 len8 o8 B8 far8 n8 r8 nI rI hcn A8 I e1 C8
      go_wp2_with (first
        | (go_at_call 26; refine K2.mono ?_; clear K2; rintro e w9 ⟨rfl, b9⟩; have K3 := KO.out w9 b9)
        | (go_at_call 34; refine K3.mono ?_; clear K3; rintro e w10 ⟨z', rfl, A10⟩)
        | (go_at_call 25; refine (KM _ _).mono ?_; rintro e wm ⟨rfl, em⟩; subst wm))
      go_roundg (gk - 1)
      case measure => have := hI.out; have := hilA.out; omega
      case rel =>
        obtain ⟨M9, F9, I9⟩ := A10.out
        have := hI.out
        have := hilA.out
        exact ⟨i + 1, z', M9, F9, by omega, rfl, by rw [hcnA.out], by go_num, I9⟩
    · obtain rfl : i = l.length := by omega
      have an : Mi.isNode a := I.out.grew.isNode gA.out.node
      have ta : Eqt (Mi.tbl a) (M.tbl a) := fun y hy => by rw [I.out.grew.tbl oA.out gA.out.node]
      have tz := I.out.tbl
      rw [List.take_of_length_le (Nat.le_refl _)] at tz
      have nI : Mi.n = 8 := I.out.grew.n.trans l6A.out.2.1
      have za : z = a := (Mdl.one_iff I.out.st.ok I.out.node an).1 (tz.trans (whole.out.trans ta.symm))
      have K2 := count_op I.out.st an
      rw [allA.out Mi a nI (ta.trans gA.out.tbl)] at K2
      rw [cendA.out]
      have bA : Aside (Below W.heap.size W wr) := I.out.base
      subst z
      have nlt : ¬ (l.length : Int) < (l.length : Int) := by omega
      clear hi hil I an ta tz nI
      go_wp2_with (first
        | (go_at_call 26; refine K2.mono ?_; clear K2; rintro e w9 ⟨rfl, b9⟩))
      go_ret
      exact ⟨by simp, Rf.below_far bA.out b9⟩
end Go.Proofs.YtfaccdnnjkkcfaaGreatDoor
