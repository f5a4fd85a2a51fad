/-
  A store that keeps some of its nodes alone (Retain).
-/
import Derived.Test.YtlmbofbdncgaiaaGreatMkE
import Derived.Test.YtlmbofbdncgaiaaGreatMkB
import Derived.Test.YtlmbofbdncgaiaaGreatMkC
namespace Go.Proofs.YtlmbofbdncgaiaaGreat.Mk
open Go Go.RowKit

/-- The store with those nodes alone. -/
def only (M : Mdl) (ks : List Nat) : Mdl := ⟨M.n, M.v, M.room, ks, M.nd⟩
/-- Nodes that name all that they reach. -/
structure Shut (M : Mdl) (ks : List Nat) : Prop where
  sub : ∀ k ∈ ks, k ∈ M.hs
  closed : ∀ k ∈ ks, ((M.nd k).2.1 < 2 ∨ (M.nd k).2.1 ∈ ks) ∧ ((M.nd k).2.2 < 2 ∨ (M.nd k).2.2 ∈ ks)
  up : ks.Pairwise (· < ·)
section
variable {M : Mdl} {I : Ins} {ks : List Nat}
theorem Shut.few (h : Shut M ks) : ks.length ≤ M.hs.length := nodup_lenN ks M.hs (h.up.imp fun h => Nat.ne_of_lt h) h.sub
theorem Shut.ok (o : M.Ok) (h : Shut M ks) : (only M ks).Ok where
  pos := o.pos
  le8 := o.le8
  vlt := o.vlt
  vinj := o.vinj
  sorted := h.up
  range := fun x hx => o.range x (h.sub x hx)
  len := Nat.le_trans h.few o.len
  lv := fun x hx => o.lv x (h.sub x hx)
  ne := fun x hx => o.ne x (h.sub x hx)
  lo := fun x hx => ⟨(h.closed x hx).1, (o.lo x (h.sub x hx)).2⟩
  hi := fun x hx => ⟨(h.closed x hx).2, (o.hi x (h.sub x hx)).2⟩
  one := fun x hx y hy e => o.one x (h.sub x hx) y (h.sub y hy) e
theorem Shut.wz (h : Shut M ks) {x : Nat} (hx : x ∈ ks) : (only M ks).wz x = M.wz x := by
  rw [Mdl.wz_in (h.sub x hx)]
  exact Mdl.wz_in (M := only M ks) hx
theorem Shut.wds (p : Pu M I) (h : Shut M ks) : Wds I.W (fun i => (only M ks).wz (i + 2)) := by
  have inn : ∀ i, ¬ (only M ks).wz (i + 2) = 0 → i + 2 ∈ ks := fun i e => Classical.byContradiction fun q => e (Mdl.wz_no (M := only M ks) q)
  refine ⟨fun i _ => ?_, fun i j _ _ hz e => ?_⟩
  · by_cases q : i + 2 ∈ ks
    · show 0 ≤ (only M ks).wz (i + 2) ∧ (only M ks).wz (i + 2) ≤ _
      rw [h.wz q]; exact p.wz_bd _
    · show 0 ≤ (only M ks).wz (i + 2) ∧ (only M ks).wz (i + 2) ≤ _
      rw [Mdl.wz_no (M := only M ks) q]; omega
  · have hi := inn i hz
    have hj := inn j (by rw [← e]; exact hz)
    change (only M ks).wz (i + 2) = (only M ks).wz (j + 2) at e
    rw [h.wz hi, h.wz hj, Mdl.wz_in (h.sub _ hi), Mdl.wz_in (h.sub _ hj)] at e
    have o := p.ok
    have a1 := h.sub _ hi
    have a2 := h.sub _ hj
    obtain ⟨e1, e2, e3⟩ := nodeZ_inj (Mdl.isNode_lt o (o.lo _ a1).1) (Mdl.isNode_lt o (o.hi _ a1).1) (Mdl.isNode_lt o (o.lo _ a2).1) (Mdl.isNode_lt o (o.hi _ a2).1) e
    have := o.one _ a1 _ a2 (Prod.ext e1 (Prod.ext e2 e3))
    omega
end
theorem infoW : (Tryz.prog.info? 22).map (fun i => (i.zero, i.size, i.bytes)) = some (some (.int .u64 0), 1, 8) := by kernel_rfl
theorem make_words (n : Nat) (hn : n ≤ 32768) (w : World) :
    (Instr.makeSlice 87 (.int .i64 (n : Int)) (.int .i64 (n : Int))).run Tryz.prog w = .ok (.slice (some ⟨w.heap.size, 0, none⟩) n n) (w.alloc (.cells (madeCells #[.int .u64 0] n) 22)) := by
  obtain ⟨i, hi, hz, hs, hb⟩ := info_parts infoW
  have hr := run_make (P := Tryz.prog) w 87 22 i _ Tryz.underlying87 hi hz .i64 .i64 (n : Int) (n : Int) (by omega) (by omega) (by rw [hb]; omega) (by omega)
  simp only [Int.toNat_natCast, hs, Nat.mul_one] at hr
  exact hr
theorem own_words (n : Nat) (hn : n ≤ 32768) (w : World) : OwnR 22 (w.alloc (.cells (madeCells #[.int .u64 0] n) 22)) 0 (some ⟨w.heap.size, 0, none⟩) n n (fun _ => .int .u64 0) := by
  have := World.ownsRow_lit (base := 0) (e := 22) (size := 1) w (madeCells #[.int .u64 0] n) n (Nat.zero_le _) (by simp only [maxLen]; omega) (by rw [size_madeCells]; omega)
  rw [toList_madeCells_one] at this
  unfold OwnR
  rw [show rowL n (fun _ => Value.int .u64 0) = List.replicate n (Value.int .u64 0) by simp [rowL, List.map_const']]
  exact this
theorem below_set {w u : World} {b o : Nat} (k : Below w.heap.size w u) (hb : w.heap.size ≤ b) (v : Value) : Below w.heap.size w (u.setCell ⟨b, o, none⟩ v) :=
  ⟨k.os, k.tape, k.output, Nat.le_trans k.size (by simp [World.setCell]), fun i hi => (Below.heap_setCell _ _ _ _ (show i ≠ b by omega)).trans (k.block i hi)⟩
/-- The words, when so many have been written. -/
def wsN (M : Mdl) (ks : List Nat) (j i : Nat) : Int := if i + 2 ∈ ks.take j then M.wz (i + 2) else 0
section
variable {w w' : World} {S : Nat} {M : Mdl} {I : Ins} {ks : List Nat}
theorem wsN_step {j i : Nat} (hj : j < ks.length) (h2 : 2 ≤ ks.getD j 0) : (if i = ks.getD j 0 - 2 then M.wz (ks.getD j 0) else wsN M ks j i) = wsN M ks (j + 1) i := by
  have et : ks.take (j + 1) = ks.take j ++ [ks.getD j 0] := by
    rw [List.take_add_one, List.getD_eq_getElem?_getD, List.getElem?_eq_getElem hj]
    rfl
  generalize ks.getD j 0 = y at h2 et ⊢
  unfold wsN
  rw [et]
  by_cases e : i = y - 2
  · rw [if_pos e, if_pos (List.mem_append.2 (.inr (by simp; omega)))]
    congr 1
    omega
  · rw [if_neg e]
    by_cases q : i + 2 ∈ ks.take j
    · rw [if_pos q, if_pos (List.mem_append.2 (.inl q))]
    · rw [if_neg q, if_neg fun z => (List.mem_append.1 z).elim q fun z => e (by simp at z; omega)]
theorem wsN_all (sh : Shut M ks) (i : Nat) : wsN M ks ks.length i = (only M ks).wz (i + 2) := by
  unfold wsN
  rw [List.take_length]
  by_cases q : i + 2 ∈ ks
  · rw [if_pos q, sh.wz q]
  · rw [if_neg q, Mdl.wz_no (M := only M ks) q]
/-- The store's blocks with other words. -/
def fxOf (S : Nat) (M : Mdl) (I : Ins) (ks : List Nat) (b : Nat) : Fx := ⟨S, M.n, M.room, I.W, I.W, I.P, I.R, I.mp, I.lines, M.v, I.l, some ⟨b, 0, none⟩, I.on, fun i => (only M ks).wz (i + 2)⟩
def insOf (M : Mdl) (I : Ins) (ks : List Nat) (b : Nat) (fa : Option Addr) (fc : Nat) (fr : List Nat) (c : Nat → Int) (nm : Int → Option Int) : Ins := ⟨I.P, I.R, I.mp, some ⟨b, 0, none⟩, I.W, I.W, fa, fc, fr, I.lines, c, fun i => (only M ks).wz (i + 2), nm, I.l, I.on⟩
theorem raw_of (h : StI w S M I) (sh : Shut M ks) {b : Nat} (hb : ∀ k, Fp S I k → k ≠ b) (o : OwnR 22 w 0 (some ⟨b, 0, none⟩) I.W I.W (fun i => .int .u64 (wsN M ks ks.length i))) :
    Raw (w.setCell ⟨S, 18, none⟩ (.slice (some ⟨b, 0, none⟩) I.W I.W)) (fxOf S M I ks b) I.c I.fa I.fr.length I.fc (fun i => .int .u32 (I.fr.getD i 0 : Nat)) I.nm := by
  obtain ⟨p1, p2, p3, p4, p5, p6, p7, p8, p9⟩ := h.apart
  obtain ⟨f1, f2, f3, f4, f5⟩ := h.apartF
  obtain ⟨oo, ff, m⟩ := h.mem
  have kp : ∀ k, k ≠ S → (w.setCell ⟨S, 18, none⟩ (.slice (some ⟨b, 0, none⟩) I.W I.W)).heap[k]? = w.heap[k]? := fun k e => Below.heap_setCell _ _ _ _ e
  refine ⟨(h.blk.set 18 _).congr fun i _ => stCell_18 M.n M.v I.l M.room I.ad (some ⟨b, 0, none⟩) I.W I.W I.cap I.W I.fa I.fr.length I.fc I.P I.mp I.lines I.on i, ⟨oo, ff, m.of_blocks (kp _ p1.symm) (kp _ p2.symm)⟩, (o.congr fun i _ => by rw [wsN_all sh]; rfl).kept fun k hk => kp k fun e => ?_, h.fre.kept fun k hk => kp k fun e => f1 (e ▸ hk), h.map.same (kp _ p3.symm)⟩
  obtain ⟨a, ha, rfl⟩ := hk
  cases ha
  exact hb S (.inl rfl) e.symm
theorem bd_of (p : Pu M I) (sh : Shut M ks) (b : Nat) : Bd (fxOf S M I ks b) := ⟨p.room1, p.room2, p.lines1, p.lines2, p.wide, sh.wds p⟩
theorem relay_of {u : World} {b : Nat} {c : Nat → Int} {fa : Option Addr} {k fc : Nat} {V : Nat → Value} {nm : Int → Option Int} (r : Raw u (fxOf S M I ks b) c fa k fc V nm) (bd : Bd (fxOf S M I ks b)) (fit : Ch.U64 c) :
    Calls Tryz.prog 68 #[.pointer (some ⟨S, 0, none⟩)] u fun e w' => e = .returned (.tuple #[]) ∧ ∃ c' fa' fc' fr' nm', Raw w' (fxOf S M I ks b) c' fa' fr'.length fc' (fun i => .int .u32 (fr'.getD i 0 : Nat)) nm' ∧ RpP I.W M.room I.lines (fun i => (only M ks).wz (i + 2)) (downL I.W I.W) c' fr' nm' ∧ (∀ i, At fa' i → At fa i ∨ u.heap.size ≤ i) ∧ Went (FS (fxOf S M I ks b) fa) u w' := by
  obtain ⟨X, hX⟩ : ∃ X, fxOf S M I ks b = X := ⟨_, rfl⟩
  have e1 : X.S = S := by rw [← hX]; rfl
  have e2 : X.W = I.W := by rw [← hX]; rfl
  have e3 : X.room = M.room := by rw [← hX]; rfl
  have e4 : X.lines = I.lines := by rw [← hX]; rfl
  have e5 : X.wd = fun i => (only M ks).wz (i + 2) := by rw [← hX]; rfl
  rw [hX] at r bd ⊢
  have K := relay_any r bd fit
  rw [e1, e2, e3, e4, e5] at K
  exact K
theorem sti_of {u' : World} (p : Pu M I) (sh : Shut M ks) {b : Nat} {c' : Nat → Int} {fa' : Option Addr} {fc' : Nat} {fr' : List Nat} {nm' : Int → Option Int} (r : Raw u' (fxOf S M I ks b) c' fa' fr'.length fc' (fun i => .int .u32 (fr'.getD i 0 : Nat)) nm') (q : RpP I.W M.room I.lines (fun i => (only M ks).wz (i + 2)) (downL I.W I.W) c' fr' nm') : StI u' S (only M ks) (insOf M I ks b fa' fc' fr' c' nm') :=
  ⟨r.blk, r.mem, r.own, r.fre, r.map, RpP.full (M := only M ks) (I := insOf M I ks b fa' fc' fr' c' nm') (sh.ok p.ok) p.inv p.room1 p.room2 p.lines1 p.lines2 p.wide (fun x hx => p.top x (sh.sub x hx)) (fun _ _ => rfl) rfl rfl rfl q⟩
theorem wf_keep {wr u : World} {b : Nat} {v : Value} {c' : Nat → Int} {fa' : Option Addr} {fc' : Nat} {fr' : List Nat} {nm' : Int → Option Int} (B : Below w.heap.size w wr) (hb : w.heap.size ≤ b) (g : Went (FS (fxOf S M I ks b) I.fa) (wr.setCell ⟨S, 18, none⟩ v) u) (hn : ∀ i, At fa' i → At I.fa i ∨ (wr.setCell ⟨S, 18, none⟩ v).heap.size ≤ i) : Wf (Fp S I) (Fp S (insOf M I ks b fa' fc' fr' c' nm')) w u := by
  have sz : (wr.setCell ⟨S, 18, none⟩ v).heap.size = wr.heap.size := by simp [World.setCell]
  refine ⟨g.os.trans B.os, g.tape.trans B.tape, g.output.trans B.output, by have := g.size; have := B.size; omega, fun k hk hf => ?_, fun k hk => ?_⟩
  · refine (g.block k (by have := B.size; omega) fun e => hf ?_).trans ((Below.heap_setCell _ _ _ _ fun e => hf (.inl e)).trans (B.block k hk))
    rcases e with e | e | e | e | e
    · exact .inl e
    · exact .inr (.inl e)
    · exact .inr (.inr (.inl e))
    · exact .inr (.inr (.inr (.inl e)))
    · exact .inr (.inr (.inr (.inr (.inr e))))
  · rcases hk with e | e | e | e | e | e
    · exact .inl (.inl e)
    · exact .inl (.inr (.inl e))
    · exact .inl (.inr (.inr (.inl e)))
    · exact .inl (.inr (.inr (.inr (.inl e))))
    · obtain ⟨a, ha, rfl⟩ := e
      cases ha
      exact .inr hb
    · rcases hn k e with e | e
      · exact .inl (.inr (.inr (.inr (.inr (.inr e)))))
      · exact .inr (by have := B.size; omega)
set_option maxRecDepth 100000 in
set_option maxHeartbeats 4000000 in
theorem retain_any (h : StI w S M I) (sh : Shut M ks) {ad : Option Addr} {cap : Nat} (hl : HsAt w ad ks.length (fun i => ks.getD i 0)) :
    Calls Tryz.prog 42 #[.pointer (some ⟨S, 0, none⟩), .slice ad ks.length cap] w fun e w' => e = .returned (.int .i64 ((M.hs.length : Int) - (ks.length : Int))) ∧ ∃ I', StI w' S (only M ks) I' ∧ Wf (Fp S I) (Fp S I') w w' := by
  have K1 := slen_any h
  have hW := h.pu.lenW
  have hlen := h.pu.len
  have hfew := sh.few
  obtain ⟨n, hn⟩ : ∃ n, ks.length = n := ⟨_, rfl⟩
  rw [hn] at hl hfew ⊢
  have hnA : Aside (ks.length = n) := hn
  have hwn : IntKind.i64.wrap ((M.hs.length : Int) - (n : Int)) = (M.hs.length : Int) - (n : Int) := by rw [IntKind.wrap_i64]; omega
  obtain ⟨m, hm⟩ : ∃ m, M.hs.length = m := ⟨_, rfl⟩
  rw [hm] at hlen hfew hwn K1 ⊢
  clear hn hm
  obtain ⟨W, hWW⟩ : ∃ W, I.W = W := ⟨_, rfl⟩
  have hWA : Aside (I.W = W) := hWW
  rw [hWW] at hW
  clear hWW
  have shA : Aside (Shut M ks) := sh
  obtain ⟨b, hbe⟩ : ∃ b, w.heap.size = b := ⟨_, rfl⟩
  have hbA : Aside (w.heap.size = b) := hbe
  go_enter Tryz.func42, Tryz.ntmps42
  go_wp2_with (first
    | (go_at_call 13; refine K1.mono ?_; clear K1; rintro e w1 ⟨rfl, q, rfl⟩; have h1 := h.drewN q; have c18 := h1.c18; rw [hWA.out] at c18; have hmk := make_words W hW (w.drewN q)))
  have B2 : Below w.heap.size w ((w.drewN q).alloc (.cells (madeCells #[.int .u64 0] W) 22)) := by
    have : Below w.heap.size w (w.drewN q) := ⟨rfl, rfl, rfl, Nat.le_refl _, fun _ _ => rfl⟩
    exact this.alloc (Nat.le_refl _) _
  have o2 : OwnR 22 ((w.drewN q).alloc (.cells (madeCells #[.int .u64 0] W) 22)) 0 (some ⟨b, 0, none⟩) W W (fun i => .int .u64 (wsN M ks 0 i)) := by
    rw [← hbe]
    exact (own_words W hW (w.drewN q)).congr fun i _ => by simp [wsN]
  have sA : Aside (∀ u, Below w.heap.size w u → StI u S M I) := fun u k => h.below k
  have lA : Aside (HsAt w ad n (fun i => ks.getD i 0)) := hl
  clear h1 c18 hmk hl sh
  generalize (w.drewN q).alloc (.cells (madeCells #[.int .u64 0] W) 22) = w2 at B2 o2 ⊢
  have B2A : Aside (Below w.heap.size w w2) := B2
  clear B2
  go_loopg [20, 8, 9] n (fun g si _sh _sw wr => ∃ (j : Nat), j + g = n ∧ si = .int .i64 (j : Int) ∧ Aside (Below w.heap.size w wr) ∧ Aside (OwnR 22 wr 0 (some ⟨b, 0, none⟩) W W (fun i => .int .u64 (wsN M ks j i))))
  case atStart => exact ⟨0, by omega, rfl, B2A, o2⟩
  case round =>
    obtain ⟨j, hj, rfl, hB, hO⟩ := hrel
    have hJ : Aside (j + gk = n) := hj
    have hjn : j ≤ n := by omega
    clear hj
    have sr := sA.out wr hB.out
    by_cases hlt : j < n
    · have hlt' : (j : Int) < (n : Int) := by omega
      obtain ⟨bl, off, rfl, hbl⟩ := lA.out.some (by omega)
      have hc : wr.cell? ⟨bl, off + j, none⟩ = some (.int .u32 (ks.getD j 0 : Int)) := (lA.out.kept hB.out).get hlt
      have hjl : j < ks.length := by rw [hnA.out]; exact hlt
      have hm : ks.getD j 0 ∈ M.hs := by
        rw [List.getD_eq_getElem?_getD, List.getElem?_eq_getElem hjl]
        exact shA.out.sub _ (List.getElem_mem hjl)
      obtain ⟨x2, xW⟩ := sr.pu.hs_lt hm
      rw [hWA.out] at xW
      have hwz := sr.pu.word_bd hm
      have KW := word_any sr (ks.getD j 0) (by omega)
      rw [Mdl.wz_in hm] at KW
      have own1 := hO.out.set (k := ks.getD j 0 - 2) (.int .u64 (ndZ (M.nd (ks.getD j 0))))
      have own2 : Aside (OwnR 22 (wr.setCell ⟨b, ks.getD j 0 - 2, none⟩ (.int .u64 (ndZ (M.nd (ks.getD j 0))))) 0 (some ⟨b, 0, none⟩) W W (fun i => .int .u64 (wsN M ks (j + 1) i))) := own1.congr fun i _ => by
        rw [← wsN_step hjl x2, Mdl.wz_in hm]
        split <;> rfl
      have cf := hO.out.frozen (ks.getD j 0 - 2)
      have cw := hO.out.cell (i := ks.getD j 0 - 2) (by omega)
      have B3 : Aside (Below w.heap.size w (wr.setCell ⟨b, ks.getD j 0 - 2, none⟩ (.int .u64 (ndZ (M.nd (ks.getD j 0)))))) := below_set hB.out (Nat.le_of_eq hbA.out) _
      have hltA : Aside (j < n) := hlt
      clear own1 hm hjl
      generalize ndZ (M.nd (ks.getD j 0)) = z at KW own2 B3 hwz
      generalize ks.getD j 0 = x at hc x2 xW KW own2 cf cw B3
      have hz : ¬ z = 0 := by omega
      have hsub : IntKind.u32.wrap ((x : Int) - 2) = ((x - 2 : Nat) : Int) := by rw [IntKind.wrap_u32]; omega
      have hjw : IntKind.i64.wrap ((j : Int) + 1) = (j : Int) + 1 := by rw [IntKind.wrap_i64]; omega
      have hix : ¬ (W : Int) ≤ ((x - 2 : Nat) : Int) := by omega
      have hx2 : ((x : Int) - 2) = ((x - 2 : Nat) : Int) := by omega
      have hix2 : x - 2 < W := by omega
      clear hwz sr hlt
      generalize hy : x - 2 = y at own2 cf cw B3 hsub hix hix2 hx2
      generalize wsN M ks j y = z0 at cw
      clear hy
      go_wp2_with (first
        | (go_at_call 49; refine KW.mono ?_; clear KW; rintro e wr ⟨rfl, rfl⟩))
      go_roundg (gk - 1)
      case measure => have := hJ.out; have := hltA.out; omega
      case rel =>
        have := hJ.out
        have := hltA.out
        exact ⟨j + 1, by omega, by go_num, B3, own2⟩
    · obtain rfl : j = n := by omega
      have sr := sA.out wr hB.out
      have hO2 := hO.out
      rw [← hnA.out, ← hWA.out] at hO2
      have ltA := h.lt
      have rawA := raw_of sr shA.out (fun k hk e => by have := ltA k hk; have := hbA.out; omega) hO2
      rw [hWA.out] at rawA
      have KR := relay_of rawA (bd_of sr.pu shA.out b) sr.pu.fit
      have puA : Aside (Pu M I) := sr.pu
      have cf := sr.free 18
      have c18 := sr.c18
      have BA : Aside (Below w.heap.size w wr) := hB.out
      clear hO2 rawA hO hB hlt hjn hJ ltA sr
      go_wp2_with (first
        | (go_at_call 68; refine KR.mono ?_; clear KR; rintro e w4 ⟨rfl, c', fa', fc', fr', nm', r4, q4, n4, g4⟩; have s4 := sti_of puA.out shA.out r4 q4; have K2 := slen_any s4; rw [show (only M ks).hs.length = j from hnA.out] at K2; have gA : Aside (Wf (Fp S I) (Fp S (insOf M I ks b fa' fc' fr' c' nm')) w w4) := wf_keep BA.out (Nat.le_of_eq hbA.out) g4 n4; clear r4 q4 n4 g4)
        | (go_at_call 13; refine K2.mono ?_; clear K2; rintro e w5 ⟨rfl, q5, rfl⟩))
      go_ret
      exact ⟨rfl, _, s4.drewN q5, gA.out.drewN q5⟩
end
end Go.Proofs.YtlmbofbdncgaiaaGreat.Mk
