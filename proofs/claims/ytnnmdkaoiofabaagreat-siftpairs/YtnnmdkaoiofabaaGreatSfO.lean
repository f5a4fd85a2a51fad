/-
  Sifting: the size at a level; the level where the fewest nodes are reached.
-/
import Derived.Test.YtnnmdkaoiofabaaGreatSfN
namespace Go.Proofs.YtnnmdkaoiofabaaGreat.Sf
open Go Go.RowKit
open Mk (HsAt)
open Sw (swv)
section
variable {w w' w0:World} {S L n r k p q q0 x cap:Nat} {M:Mdl} {F F' F0:Nat→Prop} {H:Nat→Nat} {T:Nat→Nat→Bool} {v:Nat→Nat} {ad:Option Addr}
set_option maxRecDepth 100000 in
set_option maxHeartbeats 4000000 in
theorem at_any (s:St w S F M) (rt:Rts H L T n r (mv v p q0) M) (pl:Pl w F ad L H) (hq0:q0<n) (hq:q<n) (hr:200 * L≤r) (hL:L≤1000) (ev:v p=x) :
  Calls Tryz.prog 57 #[moV S ad L cap x,.int .i64 (q:Int)] w fun e w'=>e = .returned (.int .i64 (szF n v T L p q:Int))∧∃ F' M',St w' S F' M'∧Rts H L T n r (mv v p q) M'∧Wf F F' w w':=by
 have nb0:¬ F w.heap.size:=fun z=>Nat.lt_irrefl _ (s.lt _ z)
 have B0:Below w.heap.size w (w.alloc (moC S ad L cap x)):=nb w _
 have s0:=s.below B0
 have pl0:=pl.below B0
 have mo0:=IsMo.new (S:=S) (ad:=ad) (L:=L) (cap:=cap) w x
 have K1:=put_any (cap:=cap) s0 rt pl0 hq0 hq hr hL ev
 obtain ⟨c0,c1,c2⟩:=mo0.cells
 have B0A:Aside (Below w.heap.size w (w.alloc (moC S ad L cap x))):=B0
 have baseA:Aside (Pl (w.alloc (moC S ad L cap x)) F ad L H∧IsMo (w.alloc (moC S ad L cap x)) w.heap.size S ad L cap x∧¬ F w.heap.size):=⟨pl0,mo0,nb0⟩
 clear s rt pl B0 s0 pl0 mo0 nb0 ev
 go_enter Tryz.func57,Tryz.ntmps57
 go_upto_region 1 with fail
 generalize (w.alloc (moC S ad L cap x))=w1 at K1 B0A baseA c0 c1 c2 ⊢
 generalize w.heap.size=b at baseA c0 c1 c2 ⊢
 go_upto_region 2 with (first
  | (go_at_call 54;refine K1.mono ?_;clear K1;rintro e w2 ⟨rfl,F2,M2,s2,r2,g2⟩))
 clear c0 c1 c2
 have pr:=baseA.out.1.wf g2
 obtain ⟨c0,c1,c2⟩:=(baseA.out.2.1.wf baseA.out.2.2 g2).cells
 have K2:=size_is (cap:=cap) s2 r2 pr hL
 have fA:Aside (St w2 S F2 M2∧Rts H L T n r (mv v p q) M2∧Wf F F2 w1 w2):=⟨s2,r2,g2⟩
 clear s2 r2 g2 pr baseA
 go_wp2_with (first
  | (go_at_call 53;refine K2.mono ?_;clear K2;rintro e w3 ⟨rfl,b3⟩))
 go_ret
 obtain ⟨s2,r2,g2⟩:=fA.out
 exact ⟨rfl,F2,M2,s2.below b3,r2,((Wf.of_below B0A.out F).trans g2).trans (Wf.of_below b3 F2)⟩
abbrev costV (S:Nat) (ad:Option Addr) (L cap x:Nat):Value:=.func (.func 57) #[moV S ad L cap x] #[]
set_option maxRecDepth 100000 in
set_option maxHeartbeats 4000000 in
theorem least_any (s:St w S F M) (rt:Rts H L T n r (mv v p q0) M) (pl:Pl w F ad L H) (hq0:q0<n) (hr:200 * L≤r) (hL:L≤1000) (ev:v p=x) :
  Calls Tryz.prog 55 #[.int .i64 (n:Int),costV S ad L cap x] w fun e w'=>e = .returned (.int .i64 (bst (szF n v T L p) n:Int))∧∃ F' M' q',q'<n∧St w' S F' M'∧Rts H L T n r (mv v p q') M'∧Wf F F' w w':=by
 have n8:n≤8:=by rw [← rt.n];exact s.ok.le8
 have K1:=at_any (cap:=cap) s rt pl hq0 (show 0<n by omega) hr hL ev
 have pA:Aside (Pl w F ad L H):=pl
 have evA:Aside (v p=x):=ev
 obtain ⟨f,hf⟩:∃ f,szF n v T L p=f:=⟨_,rfl⟩
 have hfA:Aside (∀ q,szF n v T L p q=f q):=fun q=>congrFun hf q
 rw [hf] at K1 ⊢
 clear s rt pl ev hf
 go_enter Tryz.func55,Tryz.ntmps55
 go_wp2_with (first
  | (go_at_call 57;refine K1.mono ?_;clear K1;rintro e w1 ⟨rfl,F1,M1,s1,r1,g1⟩;have fA:Aside (∃ F' M',St w1 S F' M'∧Rts H L T n r (mv v p 0) M'∧Wf F F' w w1):=⟨F1,M1,s1,r1,g1⟩;clear s1 r1 g1))
 go_loopg [7,5,6] (n - 1) (fun g s7 s5 s6 wr=>∃ j:Nat,j+g=n∧1≤j∧s7 = .int .i64 (j:Int)∧s5 = .int .i64 (bst f j:Int)∧s6 = .int .i64 (f (bst f j):Int)∧Aside (∃ F' M',St wr S F' M'∧Rts H L T n r (mv v p (j - 1)) M'∧Wf F F' w wr))
 case atStart=>exact ⟨1,by omega,by omega,rfl,by rw [bst_one];rfl,by rw [bst_one],fA⟩
 case round =>
  clear fA
  obtain ⟨j,hg,hj1,rfl,rfl,rfl,hs⟩:=hrel
  have hgA:Aside (j+gk=n):=by show j+gk=n;omega
  clear hg
  by_cases hlt:j<n
  ·obtain ⟨Fr,Mr,sr,rr,gr⟩:=hs.out
   have K2:=at_any (cap:=cap) sr rr (pA.out.wf gr) (by omega) hlt hr hL evA.out
   rw [hfA.out j] at K2
   have hlt':(j:Int)<(n:Int):=by omega
   have hw:IntKind.i64.wrap ((j:Int)+1)=((j+1:Nat):Int):=by rw [IntKind.wrap_i64];omega
   have grA:Aside (Wf F Fr w wr):=gr
   have hltA:Aside (j<n∧1≤j):=⟨hlt,hj1⟩
   have hb:Aside (bst f (j+1)=if f j<f (bst f j) then j else bst f j):=rfl
   clear hs sr rr gr hlt hj1
   by_cases c:f j<f (bst f j)
   ·rw [if_pos c] at hb
    have c':(f j:Int)<(f (bst f j):Int):=by omega
    generalize f (bst f j)=fb at c' ⊢
    generalize bst f j=bb at hb ⊢
    clear c
    go_wp2_with (first
     | (go_at_call 57;refine K2.mono ?_;clear K2;rintro e w5 ⟨rfl,F5,M5,s5,r5,g5⟩;have fA:Aside (St w5 S F5 M5∧Rts H L T n r (mv v p j) M5∧Wf F F5 w w5):=⟨s5,r5,grA.out.trans g5⟩;clear s5 r5 g5))
    go_roundg (gk - 1)
    case measure=>have:=hgA.out;have:=hltA.out;omega
    case rel =>
     have:=hgA.out
     have:=hltA.out
     exact ⟨j+1,by omega,by omega,rfl,by rw [hb.out],by rw [hb.out],F5,M5,fA.out⟩
   ·rw [if_neg c] at hb
    have c':¬ (f j:Int)<(f (bst f j):Int):=by omega
    generalize hfb:f (bst f j)=fb at c' ⊢
    have hfbA:Aside (f (bst f j)=fb):=hfb
    clear hfb
    generalize bst f j=bb at hb hfbA ⊢
    clear c
    go_wp2_with (first
     | (go_at_call 57;refine K2.mono ?_;clear K2;rintro e w5 ⟨rfl,F5,M5,s5,r5,g5⟩;have fA:Aside (St w5 S F5 M5∧Rts H L T n r (mv v p j) M5∧Wf F F5 w w5):=⟨s5,r5,grA.out.trans g5⟩;clear s5 r5 g5))
    go_roundg (gk - 1)
    case measure=>have:=hgA.out;have:=hltA.out;omega
    case rel =>
     have:=hgA.out
     have:=hltA.out
     exact ⟨j+1,by omega,by omega,rfl,by rw [hb.out],by rw [hb.out,hfbA.out],F5,M5,fA.out⟩
  ·have hlt':¬ (j:Int)<(n:Int):=by omega
   have ej:j=n:=by have:=hgA.out;omega
   rw [ej] at hs ⊢
   clear hlt ej hj1
   go_wp2_with fail
   go_ret
   obtain ⟨F',M',s',r',g'⟩:=hs.out
   exact ⟨rfl,F',M',n - 1,by omega,s',r',g'⟩
end
end Go.Proofs.YtnnmdkaoiofabaaGreat.Sf
