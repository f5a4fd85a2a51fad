/-
  A store brought into an order (To).
-/
import Derived.Test.YteickckgljlacaaGreatSwO
namespace Go.Proofs.YteickckgljlacaaGreat.Sw
open Go Go.RowKit

section
variable {w w' : World} {S k : Nat} {M : Mdl} {F : Nat → Prop}
theorem to_no (s : St w S F M) {ad : Option Addr} {len c : Nat} {Z : Nat → Int} (hz : Od.IntsAt w ad len Z) (hp : Od.permB len Z M.n = false) :
    Calls Tryz.prog 24 #[.pointer (some ⟨S, 0, none⟩), .slice ad len c] w fun e w' => e = .returned (.tuple #[.int .i64 0, .int .i64 40]) ∧ Below w.heap.size w w' := by
  have n8 := s.ok.le8
  have K1 := s_order' s
  have hpA : Aside (Od.permB len Z M.n = false) := hp
  clear hp s
  go_enter Tryz.func24, Tryz.ntmps24
  go_wp2_with (first
    | (go_at_call 10; refine K1.mono ?_; clear K1; rintro e w1 ⟨P, l, rfl, o1, inv, b1, hP⟩; have K2 := Od.set_no o1 (hz.below b1) n8 hpA.out (c := c))
    | (go_at_call 52; refine K2.mono ?_; clear K2; rintro e w2 ⟨rfl, b2⟩))
  go_ret2
  exact ⟨rfl, b1.trans (b2.mono b1.size)⟩
/-- What a swap comes to: there is no room, or it is done. -/
theorem swap_cases (s : St w S F M) (kn : k + 1 < M.n) :
    Calls Tryz.prog 18 #[.pointer (some ⟨S, 0, none⟩), .int .i64 (k : Int)] w (fun e w' => e = .returned (.int .i64 60) ∧ M.room < 3 * M.hs.length ∧ Below w.heap.size w w') ∨
    Calls Tryz.prog 18 #[.pointer (some ⟨S, 0, none⟩), .int .i64 (k : Int)] w (fun e w' => e = .returned (.int .i64 0) ∧ ∃ F' M', Plan M k M' ∧ M'.hs.length ≤ 3 * M.hs.length ∧ St w' S F' M' ∧ Wf F F' w w') := by
  have ha : atLev M k ≤ M.hs.length := by unfold atLev; exact List.length_filter_le _ _
  rcases Nat.lt_or_ge M.room (M.hs.length + 2 * atLev M k) with c | c
  · refine .inl ((swap_full s kn c).mono ?_)
    rintro e w' ⟨rfl, b⟩
    exact ⟨rfl, by omega, b⟩
  · refine .inr ((swap_ok s kn c).mono ?_)
    rintro e w' ⟨rfl, F', M', p, l, s', g⟩
    exact ⟨rfl, F', M', p, by omega, s', g⟩
/-- What To leaves. -/
def ToP (S : Nat) (M : Mdl) (F : Nat → Prop) (Z : Nat → Int) (w : World) (e : Ending) (w' : World) : Prop := ∃ (k : Nat) (er : Int) (F' : Nat → Prop) (M' : Mdl), e = .returned (.tuple #[.int .i64 (k : Int), .int .i64 er]) ∧ Kept M M' ∧ M'.hs.length ≤ 3 ^ k * M.hs.length ∧ St w' S F' M' ∧ Wf F F' w w' ∧ ((er = 0 ∧ k = toC M.v Z M.n M.n ∧ M'.v = toV M.v Z M.n M.n) ∨ (er = 60 ∧ k < toC M.v Z M.n M.n ∧ M'.room < 3 * M'.hs.length))
/-- How far it is, so many swaps done. -/
structure ToR (S : Nat) (M : Mdl) (F : Nat → Prop) (v : Nat → Nat) (c : Nat) (w wr : World) (Fr : Nat → Prop) (Mr : Mdl) : Prop where
  kept : Kept M Mr
  len : Mr.hs.length ≤ 3 ^ c * M.hs.length
  st : St wr S Fr Mr
  wf : Wf F Fr w wr
  v : Mr.v = v
theorem ToR.below {v : Nat → Nat} {c : Nat} {wr wq : World} {Fr : Nat → Prop} {Mr : Mdl} (r : ToR S M F v c w wr Fr Mr) (b : Below wr.heap.size wr wq) : ToR S M F v c w wq Fr Mr :=
  ⟨r.kept, r.len, r.st.below b, r.wf.trans (Wf.of_below b Fr), r.v⟩
theorem ToR.swap {v : Nat → Nat} {c k : Nat} {wr wq : World} {Fr Fq : Nat → Prop} {Mr Mq : Mdl} (r : ToR S M F v c w wr Fr Mr) (p : Plan Mr k Mq) (hl : Mq.hs.length ≤ 3 * Mr.hs.length) (s : St wq S Fq Mq) (g : Wf Fr Fq wr wq) : ToR S M F (swv v k) (c + 1) w wq Fq Mq := by
  refine ⟨r.kept.trans (p.kept r.st.ok), Nat.le_trans hl ?_, s, r.wf.trans g, by rw [p.v, r.v]⟩
  have := Nat.mul_le_mul_left 3 r.len
  rw [Nat.pow_succ, Nat.mul_comm (3 ^ c) 3, Nat.mul_assoc]
  exact this
set_option maxRecDepth 100000 in
set_option maxHeartbeats 1000000 in
theorem to_any (s : St w S F M) {ad : Option Addr} {len c : Nat} {Z : Nat → Int} (hz : Od.IntsAt w ad len Z) (hF : ∀ a, ad = some a → ¬ F a.block) (hp : Od.permB len Z M.n = true) :
    Calls Tryz.prog 24 #[.pointer (some ⟨S, 0, none⟩), .slice ad len c] w fun e w' => ToP S M F Z w e w' := by
  have o := s.ok
  have n8 := o.le8
  have n1 := o.pos
  obtain ⟨hlen, hZ, hd⟩ := Od.permB_spec hp
  subst hlen
  obtain ⟨n, hn⟩ : ∃ n, M.n = n := ⟨_, rfl⟩
  rw [hn] at hz hp hZ hd n8 n1 ⊢
  have hnA : Aside (M.n = n) := hn
  have ordA : Aside (∀ {j}, j ≤ n → (∀ i, i < n → toV M.v Z n j i < n) ∧ (∀ a b, a < n → b < n → toV M.v Z n j a = toV M.v Z n j b → a = b) ∧ ∀ i, i < j → ((toV M.v Z n j i : Nat) : Int) = Z i) := toV_ord (fun i hi => hn ▸ o.vlt i (hn ▸ hi)) (fun a b ha hb => o.vinj a b (hn ▸ ha) (hn ▸ hb)) hZ hd
  have hZA : Aside ((∀ i, i < n → 0 ≤ Z i ∧ Z i < (n : Int)) ∧ ∀ i j, i < n → j < i → Z j ≠ Z i) := ⟨hZ, hd⟩
  have K1 := s_order' s
  rw [hn] at K1
  obtain ⟨bz, oz, rfl, hbz, hcz⟩ := hz.resolve_left (by omega)
  have hFz := hF _ rfl
  have czA : Aside (∀ {Fr wr}, Wf F Fr w wr → ∀ i, i < n → wr.cell? ⟨bz, oz + i, none⟩ = some (.int .i64 (Z i))) := fun g i hi => (World.cell?_of_block (a := ⟨bz, oz + i, none⟩) (g.block _ hbz hFz)).trans (hcz i hi)
  have hpA : Aside (Od.permB n Z n = true) := hp
  have sA : Aside (St w S F M) := s
  have hbA : Aside (bz < w.heap.size) := hbz
  have hC : toC M.v Z n n ≤ n * n := by
    have : ∀ j, j ≤ n → toC M.v Z n j ≤ j * n := fun j => by
      induction j with
      | zero => intro _; rw [toC]; omega
      | succ j ih =>
        intro hj
        have h := ih (by omega)
        have q := ordA.out (j := j) (by omega)
        have := (to_at q.1 q.2.1 (by omega) hZ hd q.2.2).1
        rw [toC, Nat.succ_mul]
        omega
    exact this n (Nat.le_refl n)
  have hnn : n * n ≤ 64 := Nat.mul_le_mul n8 n8
  have hCA : Aside (toC M.v Z n n ≤ 64) := Nat.le_trans hC hnn
  clear hp hZ hd hz hcz hF hFz o s hn hC hnn
  unfold ToP
  rw [hnA.out]
  go_enter Tryz.func24, Tryz.ntmps24
  go_wp2_with (first
    | (go_at_call 10; refine K1.mono ?_; clear K1; rintro e w1 ⟨P, l, rfl, o1, inv, b1, hP⟩; have K2 := Od.set_ok o1 (ad := some ⟨bz, oz, none⟩) (c := c) (.inr ⟨bz, oz, rfl, Nat.lt_of_lt_of_le hbA.out b1.size, fun i hi => czA.out (Wf.of_below b1 F) i hi⟩) n8 (by intro a e; cases e; have := hbA.out; show bz ≠ P; omega) hpA.out)
    | (go_at_call 52; refine K2.mono ?_; clear K2; rintro e w2 ⟨rfl, _, m2⟩; have b2A : Aside (Below w.heap.size w w2) := b1.trans (m2.below b1.size hP); clear m2 b1 o1 inv hP))
  go_loopg [21, 7] n (fun g s21 s7 wr => ∃ j : Nat, j + g = n ∧ s21 = .int .i64 (j : Int) ∧ s7 = .int .i64 (toC M.v Z n j : Int) ∧ Aside (∃ Fr Mr, ToR S M F (toV M.v Z n j) (toC M.v Z n j) w wr Fr Mr))
  case atStart => exact ⟨0, by omega, rfl, rfl, F, M, Kept.refl M, by rw [toC]; omega, sA.out.below b2A.out, Wf.of_below b2A.out F, rfl⟩
  case round =>
    obtain ⟨j, hj, rfl, rfl, hr⟩ := hrel
    have hJ : Aside (j + gk = n) := hj
    by_cases hlt : j < n
    · obtain ⟨Fr, Mr, rr⟩ := hr.out
      have rrA : Aside (ToR S M F (toV M.v Z n j) (toC M.v Z n j) w wr Fr Mr) := rr
      have hlt' : (j : Int) < (n : Int) := by omega
      have k1 := czA.out rr.wf j hlt
      obtain ⟨z, hz⟩ : ∃ z : Nat, Z j = (z : Int) := ⟨(Z j).toNat, by have := (hZA.out.1 j hlt).1; omega⟩
      have hz' : z < n := by have := (hZA.out.1 j hlt).2; omega
      have q := ordA.out (j := j) (by omega)
      obtain ⟨p1, p2, p3, p4⟩ := to_at q.1 q.2.1 hlt hZA.out.1 hZA.out.2 q.2.2
      have hC1 : Aside (toC M.v Z n (j + 1) = toC M.v Z n j + (toP (toV M.v Z n j) Z n j - j)) := rfl
      have hV1 : Aside (toV M.v Z n (j + 1) = downV (toV M.v Z n j) (toP (toV M.v Z n j) Z n j) (toP (toV M.v Z n j) Z n j - j)) := rfl
      have hCj : Aside (toC M.v Z n (j + 1) ≤ toC M.v Z n n) := toC_mono hlt
      have hC64 := hCA.out
      have hCle := hCj.out
      rw [hC1.out] at hCle
      generalize toP (toV M.v Z n j) Z n j = p at p1 p2 p3 p4 hC1 hV1 hCle
      generalize toC M.v Z n j = C at hC1 hCle rrA hr rr ⊢
      generalize toV M.v Z n j = v at hV1 p3 p4 rrA hr rr q
      have mn : Mr.n = n := rr.kept.n.trans hnA.out
      have KO := s_order' rr.st
      rw [mn, rr.v] at KO
      have hzp : z = v p := by omega
      have pA : Aside (p < n ∧ j ≤ p ∧ z = v p) := ⟨p1, p2, hzp⟩
      rw [hz] at k1
      have ltA : Aside (j < n) := hlt
      clear hj hz p3 p4 hzp rr hr q hlt
      go_wp2_with (first
        | (go_at_call 10; refine KO.mono ?_; clear KO; rintro e w3 ⟨P3, l3, rfl, o3, inv3, b3, hP3⟩; have K4 := Od.level_in o3 n8 z hz'; have hl : l3 z = p := (by rw [pA.out.2.2]; exact inv3 p pA.out.1); rw [hl] at K4; have b3A : Aside (Below wr.heap.size wr w3) := b3; clear b3 hl inv3 hP3)
        | (go_at_call 53; refine K4.mono ?_; clear K4; rintro e w4 ⟨rfl, e4⟩; subst w4))
      clear hlt' k1 o3
      obtain ⟨gj, hgj⟩ : ∃ gj, gj + 1 = gk := ⟨gk - 1, by have := hJ.out; have := ltA.out; omega⟩
      have hgjA : Aside (gj + 1 = gk) := hgj
      clear hgj
      have hp8 : p < 8 := by have := pA.out; omega
      have hjp : j ≤ p := p2
      have hCp : C + (p - j) ≤ 64 := by omega
      clear p1 p2 hCle hC64
      go_loopg [10, 7] (p - j) (fun g s10 s7 wr' => ∃ d : Nat, d + g = p - j ∧ s10 = .int .i64 ((p - d : Nat) : Int) ∧ s7 = .int .i64 ((C + d : Nat) : Int) ∧ Aside (∃ Fr Mr, ToR S M F (downV v p d) (C + d) w wr' Fr Mr))
      case atStart => exact ⟨0, by omega, rfl, rfl, Fr, Mr, rrA.out.below b3A.out⟩
      case round =>
        obtain ⟨d, hd, rfl, rfl, hr⟩ := hrel
        have hDA : Aside (d + gk = p - j) := hd
        have hdp : d ≤ p - j := by omega
        obtain ⟨Fq, Mq, rq⟩ := hr.out
        have rqA : Aside (ToR S M F (downV v p d) (C + d) w wr Fq Mq) := rq
        have mn : Mq.n = n := rq.kept.n.trans hnA.out
        obtain ⟨c, hc⟩ : ∃ c, C + d = c := ⟨_, rfl⟩
        have hcA : Aside (C + d = c) := hc
        rw [hc] at rqA ⊢
        have hc64 : c ≤ 64 := by omega
        obtain ⟨q, hq⟩ : ∃ q, p - d = q := ⟨_, rfl⟩
        have hqA : Aside (p - d = q) := hq
        rw [hq]
        by_cases hlt : j < q
        · obtain ⟨r, rfl⟩ : ∃ r, q = r + 1 := ⟨q - 1, by omega⟩
          have hlt' : (j : Int) < ((r + 1 : Nat) : Int) := by omega
          have hr1 : IntKind.i64.wrap (((r + 1 : Nat) : Int) - 1) = (r : Int) := by rw [IntKind.wrap_i64]; omega
          have hr2 : wrap64 (((r + 1 : Nat) : Int) - 1) = (r : Int) := by unfold wrap64; omega
          have rk : r + 1 < Mq.n := by have := pA.out; omega
          have hrA : Aside (r + 1 < 9) := by show r + 1 < 9; omega
          have hltA : Aside (j < r + 1) := hlt
          have KSS := swap_cases rq.st rk
          obtain ⟨z, hz⟩ : ∃ z, (r : Int) = z := ⟨_, rfl⟩
          have hzA : Aside ((r : Int) = z) := hz
          rw [hz] at hr1 hr2 KSS
          clear hz
          generalize hy : ((r + 1 : Nat) : Int) = y at hlt' hr1 hr2 ⊢
          have hyA : Aside (((r + 1 : Nat) : Int) = y) := hy
          clear hy
          rcases KSS with KS | KS
          · clear hd hdp hq hc rq hr hlt mn rk hjp hCp hp8
            go_wp2_with (first
              | (go_at_call 18; refine KS.mono ?_; clear KS; rintro e w5 ⟨rfl, hfull, b5⟩))
            go_ret2
            have r5 := rqA.out.below b5
            refine ⟨c, 60, Fq, Mq, rfl, r5.kept, r5.len, r5.st, r5.wf, .inr ⟨rfl, ?_, by rw [r5.kept.room, ← rqA.out.kept.room]; exact hfull⟩⟩
            have h1 := hC1.out
            have h2 := hCj.out
            have h3 := hcA.out
            have h4 := hDA.out
            have h5 := hqA.out
            have h6 := hltA.out
            omega
          · clear hd hdp hq hc rq hr hlt mn rk hjp hCp hp8
            go_wp2_with (first
              | (go_at_call 18; refine KS.mono ?_; clear KS; rintro e w5 ⟨rfl, F5, M5, p5, l5, s5, g5⟩; have r5A : Aside (ToR S M F (swv (downV v p d) r) (c + 1) w w5 F5 M5) := rqA.out.swap p5 l5 s5 g5; clear p5 l5 s5 g5))
            go_roundg (gk - 1)
            case measure => have h4 := hDA.out; have h5 := hqA.out; have h6 := hltA.out; omega
            case rel =>
              have h3 := hcA.out
              have h4 := hDA.out
              have h5 := hqA.out
              have h6 := hltA.out
              refine ⟨d + 1, by omega, ?_, ?_, F5, M5, ?_⟩
              · rw [show p - (d + 1) = r by omega, hzA.out]
              · rw [show C + (d + 1) = c + 1 by omega]
                go_num
              · rw [downV, show p - d - 1 = r by omega, show C + (d + 1) = c + 1 by omega]
                exact r5A.out
        · have hlt' : ¬ (j : Int) < (q : Int) := by omega
          clear hd hdp hq hc rq hr mn hjp hCp hp8
          have hltA : Aside (¬ j < q) := hlt
          clear hlt
          go_wp2_with fail
          go_roundg gj
          case measure => have h1 := hgjA.out; omega
          case rel =>
            have h1 := hgjA.out
            have h2 := hJ.out
            have h3 := hcA.out
            have h4 := hDA.out
            have h5 := hqA.out
            have h6 := hltA.out
            have h7 := pA.out.2.1
            have hd : d = p - j := by omega
            have r := rqA.out
            rw [hd] at r h3
            have hw : wrap64 ((j : Int) + 1) = ((j + 1 : Nat) : Int) := by unfold wrap64; omega
            refine ⟨j + 1, by omega, by rw [hw], ?_, Fq, Mq, ?_⟩
            · rw [hC1.out, h3]
            · rw [hC1.out, hV1.out, h3]
              exact r
    · obtain rfl : j = n := by omega
      obtain ⟨Fr, Mr, r⟩ := hr.out
      have rA : Aside (ToR S M F (toV M.v Z j j) (toC M.v Z j j) w wr Fr Mr) := r
      clear hr r hj
      go_wp2_with fail
      go_ret2
      have r := rA.out
      exact ⟨_, 0, Fr, Mr, rfl, r.kept, r.len, r.st, r.wf, .inl ⟨rfl, rfl, r.v⟩⟩
end
end Go.Proofs.YteickckgljlacaaGreat.Sw
