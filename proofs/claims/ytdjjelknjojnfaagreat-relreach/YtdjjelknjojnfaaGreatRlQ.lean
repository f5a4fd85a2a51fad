/-
  How many nodes a function takes where it is small: a constant none, a product of literals eight at most; packages logic, quant, compose over a store with known handles, with what they take.
-/
import Derived.Test.YtdjjelknjojnfaaGreatRlP
import Derived.Test.YtdjjelknjojnfaaGreatCpc
import Derived.Test.YtdjjelknjojnfaaGreatQtc
import Derived.Test.YtdjjelknjojnfaaGreatCtc
namespace Go.Proofs.YtdjjelknjojnfaaGreat
open Go Go.RowKit
open Rf (fixAt fixF IntsAt)

/-! ## Products of literals -/
def cubeF (m q : Nat) : Nat → Bool := fun x => (List.range 8).all fun v => !m.testBit v || (x.testBit v == q.testBit v)
theorem cubeF_iff {m q x : Nat} : cubeF m q x = true ↔ ∀ v, v < 8 → m.testBit v = true → x.testBit v = q.testBit v := by
  unfold cubeF
  rw [List.all_eq_true]
  constructor
  · intro h v hv hm
    have := h v (List.mem_range.2 hv)
    rw [hm, Bool.not_true, Bool.false_or, beq_iff_eq] at this
    exact this
  · intro h v hv
    cases hm : m.testBit v with
    | false => rfl
    | true => rw [Bool.not_true, Bool.false_or, beq_iff_eq]; exact h v (List.mem_range.1 hv) hm
def Cub (F : Nat → Bool) : Prop := Eqt F (fun _ => false) ∨ ∃ m q, Eqt F (cubeF m q)
theorem Cub.congr {F G : Nat → Bool} (c : Cub F) (e : Eqt F G) : Cub G := by
  rcases c with c | ⟨m, q, c⟩
  · exact .inl (e.symm.trans c)
  · exact .inr ⟨m, q, e.symm.trans c⟩
theorem fixq {F G : Nat → Bool} {v : Nat} (hv : v < 8) (e : Eqt F G) (b : Bool) : Eqt (fixF F v b) (fixF G v b) := fun _ hx => e _ (fixAt_bits hx hv b).1
theorem cub_half {F : Nat → Bool} (c : Cub F) {u : Nat} (hu : u < 8) : (Eqt (fixF F u false) (fixF F u true) ∧ Cub (fixF F u false)) ∨ (Eqt (fixF F u false) (fun _ => false) ∧ Cub (fixF F u true)) ∨ (Eqt (fixF F u true) (fun _ => false) ∧ Cub (fixF F u false)) := by
  rcases c with c | ⟨m, q, c⟩
  · exact .inl ⟨(fixq hu c false).trans (fixq hu c true).symm, .inl (fixq hu c false)⟩
  · cases hm : m.testBit u with
    | false =>
      have key : ∀ b, Eqt (fixF F u b) (cubeF m q) := fun b => (fixq hu c b).trans fun x hx => by
        show cubeF m q (fixAt u b x) = _
        rw [Bool.eq_iff_iff, cubeF_iff, cubeF_iff]
        constructor
        · intro h v hv hmv
          rw [← h v hv hmv, fix_bit hx hu, if_neg]
          rintro rfl
          rw [hm] at hmv
          cases hmv
        · intro h v hv hmv
          rw [← h v hv hmv, fix_bit hx hu, if_neg]
          rintro rfl
          rw [hm] at hmv
          cases hmv
      exact .inl ⟨(key false).trans (key true).symm, .inr ⟨m, q, key false⟩⟩
    | true =>
      have off : ∀ b, b ≠ q.testBit u → Eqt (fixF F u b) (fun _ => false) := fun b hb => (fixq hu c b).trans fun x hx => by
        show cubeF m q (fixAt u b x) = false
        cases h : cubeF m q (fixAt u b x) with
        | false => rfl
        | true =>
          have := cubeF_iff.1 h u hu hm
          rw [fix_bit hx hu, if_pos rfl] at this
          exact absurd this hb
      have on : Cub (fixF F u (q.testBit u)) := .inr ⟨mixA (2 ^ u) 0 m, q, (fixq hu c _).trans fun x hx => by
        show cubeF m q (fixAt u _ x) = _
        rw [Bool.eq_iff_iff, cubeF_iff, cubeF_iff]
        constructor
        · intro h v hv hmv
          rw [mix_bit, Nat.testBit_two_pow] at hmv
          by_cases e : u = v
          · rw [decide_eq_true e, if_pos rfl, Nat.zero_testBit] at hmv; cases hmv
          · rw [decide_eq_false e, if_neg Bool.false_ne_true] at hmv
            rw [← h v hv hmv, fix_bit hx hu, if_neg fun q => e q.symm]
        · intro h v hv hmv
          rw [fix_bit hx hu]
          by_cases e : v = u
          · rw [if_pos e, e]
          · rw [if_neg e]
            refine h v hv ?_
            rw [mix_bit, Nat.testBit_two_pow, decide_eq_false fun q => e q.symm, if_neg Bool.false_ne_true]
            exact hmv⟩
      cases hq : q.testBit u with
      | false => rw [hq] at on; exact .inr (.inr ⟨off true (by rw [hq]; exact Bool.noConfusion), on⟩)
      | true => rw [hq] at on; exact .inr (.inl ⟨off false (by rw [hq]; exact Bool.noConfusion), on⟩)
section
variable {M M' : Mdl} {F G : Nat → Bool} {k x : Nat}
theorem cub_prts (o : M.Ok) : ∀ (d k : Nat), M.n - k ≤ d → k ≤ M.n → ∀ F, Dep M k F → Cub F → ∃ L : List (Nat → Bool), L.length ≤ d ∧ ∀ G, Prt M F G → ∃ H ∈ L, Eqt H G
  | 0, k, hd, hk, F, dp, _ => ⟨[], Nat.le_refl _, fun G h => by
    have h := (subs_up o k hk dp).2 h
    rw [show M.n - k = 0 by omega] at h
    exact h.elim⟩
  | d + 1, k, hd, hk, F, dp, c => by
    by_cases kn : k < M.n
    · have hv := v8 o kn
      have stp := fun G => Prt.step (G := G) o kn dp
      have d0 := dp.fix o kn false
      have d1 := dp.fix o kn true
      rcases cub_half c hv with ⟨e, cc⟩ | ⟨e, cc⟩ | ⟨e, cc⟩
      · obtain ⟨L, h1, h2⟩ := cub_prts o d (k + 1) (by omega) (by omega) _ d0 cc
        refine ⟨F :: L, by rw [List.length_cons]; omega, fun G h => ?_⟩
        rcases (stp G).1 h with ⟨q, _⟩ | q | q
        · exact ⟨F, List.mem_cons_self .., q⟩
        · obtain ⟨H, m, q⟩ := h2 G q; exact ⟨H, List.mem_cons_of_mem _ m, q⟩
        · obtain ⟨H, m, q⟩ := h2 G ((Prt.like o (d1.mono (Nat.zero_le _)) e.symm).1 q); exact ⟨H, List.mem_cons_of_mem _ m, q⟩
      · obtain ⟨L, h1, h2⟩ := cub_prts o d (k + 1) (by omega) (by omega) _ d1 cc
        refine ⟨F :: L, by rw [List.length_cons]; omega, fun G h => ?_⟩
        rcases (stp G).1 h with ⟨q, _⟩ | q | q
        · exact ⟨F, List.mem_cons_self .., q⟩
        · exact absurd q (Prt.not_cst o (d0.mono (Nat.zero_le _)) (.inl e))
        · obtain ⟨H, m, q⟩ := h2 G q; exact ⟨H, List.mem_cons_of_mem _ m, q⟩
      · obtain ⟨L, h1, h2⟩ := cub_prts o d (k + 1) (by omega) (by omega) _ d0 cc
        refine ⟨F :: L, by rw [List.length_cons]; omega, fun G h => ?_⟩
        rcases (stp G).1 h with ⟨q, _⟩ | q | q
        · exact ⟨F, List.mem_cons_self .., q⟩
        · obtain ⟨H, m, q⟩ := h2 G q; exact ⟨H, List.mem_cons_of_mem _ m, q⟩
        · exact absurd q (Prt.not_cst o (d1.mono (Nat.zero_le _)) (.inl e))
    · exact ⟨[], Nat.zero_le _, fun G h => by
        have h := (subs_up o k hk dp).2 h
        rw [show M.n - k = 0 by omega] at h
        exact h.elim⟩
/-- How many nodes are new, where all parts are among these. -/
theorem fresh_all (o : M.Ok) (d : Dep M 0 F) (L : List (Nat → Bool)) (h : ∀ G, Prt M F G → ∃ H ∈ L, Eqt H G) : (prts M F).length - both M F ≤ L.length := by
  have e := join_len o F
  have nd := join_nodup o F
  rw [List.length_append, encs_len] at e
  have : (rest (encs M) ((prts M F).map encT)).length ≤ (L.map encT).length := nodup_le _ _ (List.nodup_append.1 nd).2.1 fun z hz => by
    obtain ⟨h1, h2⟩ := mem_rest.1 hz
    obtain ⟨G, _, rfl⟩ := List.mem_map.1 h1
    obtain ⟨H, hH, e⟩ := h G ((prts_enc o d G).1 h1)
    exact List.mem_map.2 ⟨H, hH, (encT_iff _ _).2 e⟩
  rw [List.length_map] at this
  omega
theorem two_parts (p : Nat → Bool) : ∀ l : List Nat, l.length = (l.filter p).length + (l.filter fun x => !p x).length
  | [] => rfl
  | a :: t => by
    have := two_parts p t
    rw [List.filter_cons, List.filter_cons]
    cases p a with
    | true => rw [if_pos rfl, if_neg (by decide), List.length_cons, List.length_cons]; omega
    | false => rw [if_neg (by decide), if_pos (by decide), List.length_cons, List.length_cons]; omega
theorem Mdl.Grew.up_len (o : M.Ok) (g : Mdl.Grew M M') : M'.up + M.hs.length ≤ M.up + M'.hs.length := by
  have h1 := two_parts (fun h => decide ((M.nd h).1 + 2 < M.n)) M.hs
  have h2 := two_parts (fun h => decide ((M'.nd h).1 + 2 < M'.n)) M'.hs
  have h3 : (M.hs.filter fun h => !decide ((M.nd h).1 + 2 < M.n)).length ≤ (M'.hs.filter fun h => !decide ((M'.nd h).1 + 2 < M'.n)).length := nodup_le _ _ (o.nodup.filter _) fun z hz => by
    obtain ⟨a, b⟩ := List.mem_filter.1 hz
    obtain ⟨k1, k2⟩ := g.keep z a
    exact List.mem_filter.2 ⟨k1, by rw [k2, g.n]; exact b⟩
  unfold Mdl.up
  omega
end
/-- As many nodes as are set aside for a function. -/
def Small (n : Nat) (X : Nat → Bool) (c : Nat) : Prop := 2 ^ (n - 2) ≤ c + 1 ∨ Cst X ∨ (8 ≤ c ∧ Cub X)
theorem small63 {n : Nat} (h : n ≤ 8) (X : Nat → Bool) : Small n X 63 := .inl (by have := pow63 h; omega)
theorem small_prts {M : Mdl} (o : M.Ok) {X Y : Nat → Bool} {c : Nat} (d : Dep M 0 Y) (e : Eqt Y X) (h : Cst X ∨ (8 ≤ c ∧ Cub X)) : (prts M Y).length - both M Y ≤ c := by
  rcases h with h | ⟨h8, h⟩
  · have := fresh_all o d [] fun G q => absurd q (Prt.not_cst o d (by
      rcases h with h | h
      · exact .inl (e.trans h)
      · exact .inr (e.trans h)))
    exact Nat.le_trans this (Nat.zero_le _)
  · obtain ⟨L, h1, h2⟩ := cub_prts o 8 0 (by have := o.le8; omega) (Nat.zero_le _) Y d (h.congr e.symm)
    exact Nat.le_trans (fresh_all o d L h2) (by omega)
/-- Functions of a store's variables. -/
theorem Tri.dep {M : Mdl} (o : M.Ok) {X : Nat → Bool} (h : Tri M.n X) : Dep M 0 X := fun x y hx hy q => h x y hx hy fun j hj => by
  obtain ⟨i, hi, e⟩ := surj_of_inj o.vlt o.vinj hj
  rw [← e]
  exact q i (Nat.zero_le _) hi
theorem Tri.of {M : Mdl} (o : M.Ok) {X : Nat → Bool} (h : Dep M 0 X) : Tri M.n X := fun x y hx hy q => h x y hx hy fun j _ hj => q _ (o.vlt j hj)
theorem Tri.congr {n : Nat} {X Y : Nat → Bool} (h : Tri n X) (e : Eqt X Y) : Tri n Y := fun x y hx hy q => by rw [← e x hx, ← e y hy]; exact h x y hx hy q
section
variable {W w w' : World} {S n r b : Nat} {l : Kl} {x y z : Nat} {X Y Z : Nat → Bool}
theorem Sx.tri (h : Sx W w S n r l b) (hx : (x, X) ∈ l) : Tri n X := by
  obtain ⟨F, M, s, e1, _, _, k, _⟩ := h
  obtain ⟨n1, e⟩ := k _ hx
  rw [← e1]
  exact Tri.congr (Tri.of s.ok (tbl_dep s.ok n1 (Nat.zero_le _))) e
theorem Sx.n8 (h : Sx W w S n r l b) : n ≤ 8 := by
  obtain ⟨F, M, s, e1, _⟩ := h
  rw [← e1]
  exact s.ok.le8
theorem Sx.pos (h : Sx W w S n r l b) : 1 ≤ n := by
  obtain ⟨F, M, s, e1, _⟩ := h
  rw [← e1]
  exact s.ok.pos
theorem Sx.more {b' : Nat} (h : Sx W w S n r l b) (k : b ≤ b') : Sx W w S n r l b' := by
  obtain ⟨F, M, s, e1, e2, e3, q, B, f⟩ := h
  exact ⟨F, M, s, e1, e2, Nat.le_trans e3 k, q, B, f⟩
theorem Sx.like (h : Sx W w S n r ((x, X) :: l) b) (e : Eqt X Y) : Sx W w S n r ((x, Y) :: l) b := by
  obtain ⟨F, M, s, e1, e2, e3, q, B, f⟩ := h
  refine ⟨F, M, s, e1, e2, e3, fun p hp => ?_, B, f⟩
  rcases List.mem_cons.1 hp with rfl | hp
  · obtain ⟨a, c⟩ := q _ (List.mem_cons_self ..)
    exact ⟨a, c.trans e⟩
  · exact q p (List.mem_cons_of_mem _ hp)
theorem Sx.cst (h : Sx W w S n r l b) (hx : (x, X) ∈ l) (c : Cst X) : x < 2 := by
  have h := h.consts
  rcases c with c | c
  · rw [h.same (x := x) (y := 0) (X := X) (Y := c0) (by simp [hx]) (by simp) c]; omega
  · rw [h.same (x := x) (y := 1) (X := X) (Y := c1) (by simp [hx]) (by simp) c]; omega
theorem Out.trans {w0 w1 w2 : World} (h : Out w0 w1) (k : Out w1 w2) : Out w0 w2 := fun b cs t fr hb ht => k b cs t fr (h b cs t fr hb ht) ht
theorem tri_or (h : Tri n X) (k : Tri n Y) : Tri n (fO X Y) := fun x y hx hy q => by
  show (X x || Y x) = (X y || Y y)
  rw [h x y hx hy q, k x y hx hy q]
theorem tri_and (h : Tri n X) (k : Tri n Y) : Tri n (fA X Y) := fun x y hx hy q => by
  show (X x && Y x) = (X y && Y y)
  rw [h x y hx hy q, k x y hx hy q]
theorem tri_ite (h : Tri n X) (k : Tri n Y) (m : Tri n Z) : Tri n (fI X Y Z) := fun x y hx hy q => by
  show (if X x then Y x else Z x) = (if X y then Y y else Z y)
  rw [h x y hx hy q, k x y hx hy q, m x y hx hy q]
theorem tri_var {v : Nat} (hv : v < n) : Tri n (Rf.M v) := fun x y _ _ q => by
  rw [← Rf.M_bit, ← Rf.M_bit]
  exact q v hv
theorem tri_ex {m : Nat} (h : Tri n X) : Tri n (exQ m X) := fun x y hx hy q => by
  have key : ∀ x y, x < 256 → y < 256 → (∀ j, j < n → x.testBit j = y.testBit j) → ∀ z, z < 256 → Agr m x z → X z = true → ∃ t, t < 256 ∧ Agr m y t ∧ X t = true := fun x y hx hy q z hz a f => by
    have zl := mix_lt (m := 2 ^ n - 1) hz hy
    refine ⟨mixA (2 ^ n - 1) z y, zl, fun j hj hm => ?_, ?_⟩
    · rw [mix_bit, Nat.testBit_two_pow_sub_one]
      by_cases c : j < n
      · rw [decide_eq_true c, if_pos rfl, ← a j hj hm, q j c]
      · rw [decide_eq_false c, if_neg Bool.false_ne_true]
    · rw [← f]
      refine h _ _ zl hz fun j hj => ?_
      rw [mix_bit, Nat.testBit_two_pow_sub_one, decide_eq_true hj, if_pos rfl]
  exact exQ_ext (fun z hz a f => key x y hx hy q z hz a f) (fun z hz a f => key y x hy hx (fun j hj => (q j hj).symm) z hz a f)
theorem tri_sw (hn : n ≤ 8) (h2 : n % 2 = 0) (h : Tri n X) : Tri n (sbF n swG X) := fun x y hx hy q => by
  refine h _ _ (sw_lt hn hx) (sw_lt hn hy) fun j hj => ?_
  show (swN n x).testBit j = (swN n y).testBit j
  rcases even_of (show j < 8 by omega) with ⟨i, hi, rfl⟩ | ⟨i, hi, rfl⟩
  · rw [sw_even hn hx, sw_even hn hy, if_pos hj, if_pos hj, q _ (by omega)]
  · rw [sw_odd hn hx, sw_odd hn hy, if_pos hj, if_pos hj, q _ (by omega)]
/-- What an operation leaves where there is room for what its function takes. -/
theorem left_c {F : Nat → Prop} {M : Mdl} {e : Ending} (s : St w S F M) (e1 : M.n = n) (e2 : M.room = r) (e3 : M.up ≤ b) (q : Kn M l) (B : Below W.heap.size W w) (f : ∀ k, F k → W.heap.size ≤ k) (c : Nat) (hc : Small n X c) (hb : b + c + 19 ≤ r) (tX : Tri n X) (eX : Eqt Y X) (h : Left S F w M 0 Y e w') : LeftX W S n r l (b + c) X w e w' := by
  rcases hc with hc | hc
  · exact left_x s e1 e2 e3 q B f c hc hb eX h
  · obtain ⟨z, er, M', F', rfl, t, s', g⟩ := h
    have o := s.ok
    have d : Dep M 0 Y := Dep.congr (Tri.dep o (by rw [e1]; exact tX)) eX.symm
    have few := small_prts o d eX hc
    rcases t with ⟨rfl, t⟩ | ⟨rfl, rfl, t⟩
    · have len := t.len o s'.ok d
      have up := t.grew.up_len o
      exact ⟨z, rfl, ⟨F', M', s', by rw [t.grew.n, e1], by rw [t.grew.room, e2], by omega, (q.grew s.ok t.grew).cons t.node (t.tbl.trans eX), Wf.far B g B.size f, g.after B.size f⟩, Out.of s g⟩
    · have len := t.len o s'.ok d
      have := Mdl.len_le o
      omega
theorem and_c (h : Sx W w S n r l b) (hx : (x, X) ∈ l) (hy : (y, Y) ∈ l) (c : Nat) (hc : Small n (fA X Y) c) (hb : b + c + 19 ≤ r) :
    Calls Tryz.prog 33 #[.pointer (some ⟨S, 0, none⟩), .int .u32 (x : Int), .int .u32 (y : Int)] w (LeftX W S n r l (b + c) (fA X Y) w) := by
  have tX := tri_and (h.tri hx) (h.tri hy)
  obtain ⟨F, M, s, e1, e2, e3, q, B, f⟩ := h
  obtain ⟨nx, ex⟩ := q _ hx
  obtain ⟨ny, ey⟩ := q _ hy
  refine (and_op s nx ny).mono fun e w' h => left_c s e1 e2 e3 q B f c hc hb tX (fun y hy => ?_) h
  unfold ans
  rw [ex y hy, ey y hy]
  rfl
theorem or_c (h : Sx W w S n r l b) (hx : (x, X) ∈ l) (hy : (y, Y) ∈ l) (c : Nat) (hc : Small n (fO X Y) c) (hb : b + c + 19 ≤ r) :
    Calls Tryz.prog 13 #[.pointer (some ⟨S, 0, none⟩), .int .u32 (x : Int), .int .u32 (y : Int)] w (LeftX W S n r l (b + c) (fO X Y) w) := by
  have tX := tri_or (h.tri hx) (h.tri hy)
  obtain ⟨F, M, s, e1, e2, e3, q, B, f⟩ := h
  obtain ⟨nx, ex⟩ := q _ hx
  obtain ⟨ny, ey⟩ := q _ hy
  refine (or_op s nx ny).mono fun e w' h => left_c s e1 e2 e3 q B f c hc hb tX (fun y hy => ?_) h
  unfold ans
  rw [ex y hy, ey y hy]
  rfl
theorem ite_c (h : Sx W w S n r l b) (hx : (x, X) ∈ l) (hy : (y, Y) ∈ l) (hz : (z, Z) ∈ l) (c : Nat) (hc : Small n (fI X Y Z) c) (hb : b + c + 19 ≤ r) :
    Calls Tryz.prog 73 #[.pointer (some ⟨S, 0, none⟩), .int .u32 (x : Int), .int .u32 (y : Int), .int .u32 (z : Int)] w (LeftX W S n r l (b + c) (fI X Y Z) w) := by
  have tX := tri_ite (h.tri hx) (h.tri hy) (h.tri hz)
  obtain ⟨F, M, s, e1, e2, e3, q, B, f⟩ := h
  obtain ⟨nx, ex⟩ := q _ hx
  obtain ⟨ny, ey⟩ := q _ hy
  obtain ⟨nz, ez⟩ := q _ hz
  refine (ite_op s nx ny nz).mono fun e w' h => left_c s e1 e2 e3 q B f c hc hb tX (fun y hy => ?_) h
  unfold ans
  rw [ex y hy, ey y hy, ez y hy]
  rfl
theorem var_c {v : Nat} (h : Sx W w S n r l b) (hv : v < n) (c : Nat) (hc : Small n (Rf.M v) c) (hb : b + c + 19 ≤ r) :
    Calls Tryz.prog 72 #[.pointer (some ⟨S, 0, none⟩), .int .i64 (v : Int)] w (LeftX W S n r l (b + c) (Rf.M v) w) := by
  obtain ⟨F, M, s, e1, e2, e3, q, B, f⟩ := h
  obtain ⟨i, hi, hvi⟩ := surj_of_inj s.ok.vlt s.ok.vinj (u := v) (by rw [e1]; exact hv)
  have := var_op s hi
  rw [hvi] at this
  exact this.mono fun e w' h => left_c s e1 e2 e3 q B f c hc hb (tri_var hv) (Eqt.refl _) h
theorem ex_c {m : Nat} (h : Sx W w S n r l b) (hx : (x, X) ∈ l) (hm : m < 2 ^ n) (c : Nat) (hc : uq (n - 2) ≤ c ∨ Cst X) (hb : b + c + 19 ≤ r) :
    Calls Tryz.prog 96 #[.pointer (some ⟨S, 0, none⟩), .int .u32 (x : Int), .int .u8 (m : Int)] w (LeftX W S n r l (b + c) (exQ m X) w) := by
  rcases hc with hc | hc
  · exact ex_x h hx hm c hc hb
  · have x2 := h.cst hx hc
    obtain ⟨F, M, s, e1, e2, e3, q, B, f⟩ := h
    obtain ⟨nx, ex⟩ := q _ hx
    refine (exq_opL (L := M.n) s nx (by rw [e1]; exact hm) (by rw [Mdl.lev_const x2]; exact Nat.le_refl _)).mono fun e w' h => ?_
    obtain ⟨z, er, M', F', rfl, t, c2, s', g⟩ := h
    have k0 : uq (M.n - 2 - M.n) = 0 := by rw [show M.n - 2 - M.n = 0 by omega]; rfl
    rcases t with ⟨rfl, t⟩ | ⟨rfl, rfl, t⟩
    · have u := t.up
      rw [k0] at u
      exact ⟨z, rfl, ⟨F', M', s', by rw [t.grew.n, e1], by rw [t.grew.room, e2], by omega, (q.grew s.ok t.grew).cons t.node (t.tbl.trans ((ex_is m).congr _ _ ex)), Wf.far B g B.size f, g.after B.size f⟩, Out.of s g⟩
    · exact absurd (c2 x2).2 (by decide)
theorem ren_c (h : Sx W w S n r l b) (h2 : n % 2 = 0) (hx : (x, X) ∈ l) {ad : Option Addr} {cap : Nat} (hZ : IntsAt w ad n (fun u => ((u ^^^ 1 : Nat) : Int))) (c : Nat) (hc : Small n (sbF n swG X) c) (hb : b + c + 19 ≤ r) :
    Calls Tryz.prog 97 #[.pointer (some ⟨S, 0, none⟩), .int .u32 (x : Int), .slice ad n cap] w (LeftX W S n r l (b + c) (sbF n swG X) w) := by
  have tX := tri_sw h.n8 h2 (h.tri hx)
  obtain ⟨F, M, s, e1, e2, e3, q, B, f⟩ := h
  obtain ⟨nx, ex⟩ := q _ hx
  subst n
  refine (rename_any s nx hZ).mono fun e w' h => ?_
  rcases h with ⟨⟨u, hu, hb⟩, _⟩ | ⟨_, h⟩
  · have h8 := s.ok.le8
    rcases even_of (show u < 8 by omega) with ⟨i, hi, rfl⟩ | ⟨i, hi, rfl⟩
    · have hb : (((2 * i) ^^^ 1 : Nat) : Int) < 0 ∨ (M.n : Int) ≤ (((2 * i) ^^^ 1 : Nat) : Int) := hb
      rw [xor_even] at hb
      omega
    · have hb : (((2 * i + 1) ^^^ 1 : Nat) : Int) < 0 ∨ (M.n : Int) ≤ (((2 * i + 1) ^^^ 1 : Nat) : Int) := hb
      rw [xor_odd] at hb
      omega
  · exact left_c s rfl e2 e3 q B f c hc hb tX (fun y hy => ex _ (sw_lt s.ok.le8 hy)) h
theorem sup_c (h : Sx W w S n r l b) (hx : (x, X) ∈ l) :
    Calls Tryz.prog 61 #[.pointer (some ⟨S, 0, none⟩), .int .u32 (x : Int)] w fun e w' => e = .returned (.tuple #[.int .u8 (Rf.supUpto X 8 : Int), .int .i64 0]) ∧ Below w.heap.size w w' := by
  obtain ⟨F, M, s, e1, e2, e3, q, B, f⟩ := h
  obtain ⟨nx, ex⟩ := q _ hx
  have := support_op s nx
  unfold tSup at this
  rwa [sup_congr ex] at this
end
end Go.Proofs.YtdjjelknjojnfaaGreat
