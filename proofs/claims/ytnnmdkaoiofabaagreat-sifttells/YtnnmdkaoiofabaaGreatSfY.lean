/-
  Sifting: a variable put at a level; the level where the fewest nodes are reached.
  Sifting: the size at a level; the level where the fewest nodes are reached.
-/
import Derived.Test.YtnnmdkaoiofabaaGreatSfK
namespace Go.Proofs.YtnnmdkaoiofabaaGreat.Sf
open Go Go.RowKit
open Mk (HsAt)
open Sw (swv)
def szF (n:Nat) (v:Nat→Nat) (T:Nat→Nat→Bool) (L p q:Nat):Nat:=szN n (mv v p q) T L
section
variable {w w' w0:World}{S L n r k p q q0 x cap:Nat}{M:Mdl}{F F' F0:Nat→Prop}{H:Nat→Nat}{T:Nat→Nat→Bool}{v:Nat→Nat}{ad:Option Addr}
set_option maxRecDepth 100000 in
set_option maxHeartbeats 4000000 in
theorem put_any (s:St w S F M) (rt:Rts H L T n r (mv v p q0) M) (pl:Pl w F ad L H) (hq0:q0<n) (hq:q<n) (hr:200*L≤r) (hL:L≤1000) (ev:v p=x) :
  Calls Tryz.prog 54 #[moV S ad L cap x,.int .i64 (q:Int)] w fun e w'=>e = .returned (.tuple #[])∧∃F' M',St w' S F' M'∧Rts H L T n r (mv v p q) M'∧Wf F F' w w':=by
 have o:=s.ok;have n8:n≤8:=by rw[← rt.n];exact o.le8
 have ex:M.v q0=x:=by rw[rt.v,mv_at];exact ev
 have xn:x<n:=by rw[← ex,← rt.n];exact o.vlt q0 (by rw[rt.n];exact hq0)
 have nb0:¬F w.heap.size:=fun z=>Nat.lt_irrefl _ (s.lt _ z)
 have B0:Below w.heap.size w (w.alloc (moC S ad L cap x)):=nb w _;have s0:=s.below B0;have pl0:=pl.below B0;have mo0:=IsMo.new (S:=S) (ad:=ad) (L:=L) (cap:=cap) w x;have KO:Aside (∀u,Below (w.alloc (moC S ad L cap x)).heap.size (w.alloc (moC S ad L cap x)) u→Calls Tryz.prog 14 #[.pointer (some ⟨S,0,none⟩)] u fun e w'=>∃P l,e = .returned (.pointer (some ⟨P,0,none⟩))∧Aside (Od.IsOrd w' P n M.v l∧l x=q0)∧Below u.heap.size u w'):=fun u b=>by
  refine(s_order' (s0.below b)).mono ?_;rintro e w' ⟨P,l,rfl,o1,inv,b1,_⟩;rw[rt.n]at o1;exact⟨P,l,rfl,⟨o1,by rw[← ex];exact inv q0 (by rw[rt.n];exact hq0)⟩,b1⟩
 have B0A:Aside (Below w.heap.size w (w.alloc (moC S ad L cap x))):=B0;have stA:Aside (St (w.alloc (moC S ad L cap x)) S F M∧Rts H L T n r (mv v p q0) M∧Pl (w.alloc (moC S ad L cap x)) F ad L H∧IsMo (w.alloc (moC S ad L cap x)) w.heap.size S ad L cap x∧¬F w.heap.size):=⟨s0,rt,pl0,mo0,nb0⟩
 have C0:=mo0.cells;clear s rt pl o ex B0 s0 pl0 mo0 nb0 ev;go_enter Tryz.func54,Tryz.ntmps54
 go_upto_region 1 with fail
 generalize (w.alloc (moC S ad L cap x))=w1 at KO B0A stA C0 ⊢;generalize w.heap.size=b at stA C0 ⊢;have Bd:Below w1.heap.size w1 w1.drew:=⟨rfl,rfl,rfl,Nat.le_refl _,fun _ _=>rfl⟩
 have KO1:=KO.out w1.drew Bd;have blt:b<w1.heap.size:=(Array.getElem?_eq_some_iff.1 stA.out.2.2.2.1).1;have CB:∀u,Below w1.drew.heap.size w1.drew u→(u.cell? ⟨b,0,none⟩=some (.pointer (some ⟨S,0,none⟩))∧u.cell? ⟨b,1,none⟩=some (.slice ad L cap)∧u.cell? ⟨b,2,none⟩=some (.int .i64 (x:Int))):=fun u h=>by
  have e:∀k,u.cell? ⟨b,k,none⟩=w1.cell? ⟨b,k,none⟩:=fun k=>h.cell (p:=⟨b,k,none⟩) blt
  rw[e,e,e];exact C0
 clear KO
 go_region_held3 (fun u=>u.cell? ⟨b,0,none⟩=some (.pointer (some ⟨S,0,none⟩))∧u.cell? ⟨b,1,none⟩=some (.slice ad L cap)∧u.cell? ⟨b,2,none⟩=some (.int .i64 (x:Int))) (first|assumption|exact C0|exact CB _ (by assumption)) (first
  | (go_at_call 14;refine KO1.mono ?_;rintro e w3 ⟨P,l,rfl,oA,b3⟩;have K4:=Od.level_in oA.out.1 n8 x xn;rw[oA.out.2]at K4)
  | (go_at_call 43;refine K4.mono ?_;rintro e w4 ⟨rfl,rfl⟩))
 have stq:Aside (∃F' M',St w4 S F' M'∧Rts H L T n r (mv v p q0) M'∧Wf F F' w1 w4):=by
  have b4:Below w1.heap.size w1 w4:=Bd.trans ⟨b3.os,b3.tape,b3.output,b3.size,b3.block⟩;exact⟨F,M,stA.out.1.below b4,stA.out.2.1,Wf.of_below b4 F⟩
 have baseA:Aside (Pl w1 F ad L H∧IsMo w1 b S ad L cap x∧¬F b):=stA.out.2.2;clear stA KO1 CB K4 C0 Bd oA b3;rename_i hHeld;clear hHeld
 go_wp2_with fail
 go_loopg [4] (q0-q) (fun g s4 wr=>∃j:Nat,g=j-q∧j<n∧s4 = .int .i64 (j:Int)∧Aside (∃F' M',St wr S F' M'∧Rts H L T n r (mv v p j) M'∧Wf F F' w1 wr))
 case atStart=>exact⟨q0,rfl,hq0,rfl,stq⟩
 case round =>
  clear stq;obtain⟨j,hg,hjn,rfl,hs⟩:=hrel;have hgA:Aside (gk=j-q):=hg;clear hg;by_cases hlt:q<j
  ·obtain⟨i,hi⟩:∃i,j=i+1:=⟨j-1,by omega⟩
   obtain⟨Fr,Mr,sr,rr,gr⟩:=hs.out;have pr:=baseA.out.1.wf gr;obtain⟨c0,c1,c2⟩:=(baseA.out.2.1.wf baseA.out.2.2 gr).cells;have KE:=exch_any (cap:=cap) sr rr pr (k:=i) (by omega) hr hL x;have hlt':(q:Int)<(j:Int):=by omega
   have hw:IntKind.i64.wrap ((j:Int)-1)=(i:Int):=by rw[IntKind.wrap_i64];omega
   rw[hi,swv_mv']at KE;have grA:Aside (Wf F Fr w1 wr):=gr;have hltA:Aside (q<j∧j=i+1∧i<n):=⟨hlt,hi,by omega⟩
   clear hs sr rr pr gr hlt hi hjn
   go_wp2_with (first
    | (go_at_call 89;refine KE.mono ?_;clear KE;rintro e w5 ⟨rfl,F5,M5,s5,r5,g5⟩;have fA:Aside (St w5 S F5 M5∧Rts H L T n r (mv v p i) M5∧Wf F F5 w1 w5):=⟨s5,r5,grA.out.trans g5⟩;clear s5 r5 g5))
   go_roundg (gk-1)
   case measure=>have:=hgA.out;have:=hltA.out;omega
   case rel =>
    have:=hgA.out;have:=hltA.out;exact⟨i,by omega,by omega,rfl,F5,M5,fA.out⟩
  ·have hlt':¬(q:Int)<(j:Int):=by omega
   have hjq:j≤q:=by omega
   clear hlt
   go_wp2_with fail
   go_loopg [4] (q-j) (fun g s4 wr=>∃j:Nat,g=q-j∧j≤q∧s4 = .int .i64 (j:Int)∧Aside (∃F' M',St wr S F' M'∧Rts H L T n r (mv v p j) M'∧Wf F F' w1 wr))
   case atStart=>exact⟨j,rfl,hjq,rfl,hs⟩
   case round =>
    clear hs hgA hjn hlt' hjq;obtain⟨j,hg,hjq,rfl,hs⟩:=hrel;have hgA:Aside (gk=q-j):=hg;clear hg;by_cases hlt:j<q
    ·obtain⟨Fr,Mr,sr,rr,gr⟩:=hs.out;have pr:=baseA.out.1.wf gr;obtain⟨c0,c1,c2⟩:=(baseA.out.2.1.wf baseA.out.2.2 gr).cells;have KE:=exch_any (cap:=cap) sr rr pr (k:=j) (by omega) hr hL x;have hlt':(j:Int)<(q:Int):=by omega
     have hw:IntKind.i64.wrap ((j:Int)+1)=((j+1:Nat):Int):=by rw[IntKind.wrap_i64];omega
     rw[swv_mv]at KE;have grA:Aside (Wf F Fr w1 wr):=gr;have hltA:Aside (j<q):=hlt;clear hs sr rr pr gr hlt
     go_wp2_with (first
      | (go_at_call 89;refine KE.mono ?_;clear KE;rintro e w5 ⟨rfl,F5,M5,s5,r5,g5⟩;have fA:Aside (St w5 S F5 M5∧Rts H L T n r (mv v p (j+1)) M5∧Wf F F5 w1 w5):=⟨s5,r5,grA.out.trans g5⟩;clear s5 r5 g5))
     go_roundg (gk-1)
     case measure=>have:=hgA.out;have:=hltA.out;omega
     case rel =>
      have:=hgA.out;have:=hltA.out;exact⟨j+1,by omega,by omega,rfl,F5,M5,fA.out⟩
    ·have hlt':¬(j:Int)<(q:Int):=by omega
     have ej:j=q:=by omega
     rw[ej]at hs;clear hlt ej
     go_wp2_with fail
     go_end0
     obtain⟨F',M',s',r',g'⟩:=hs.out;exact⟨rfl,F',M',s',r',(Wf.of_below B0A.out F).trans g'⟩
end
end Go.Proofs.YtnnmdkaoiofabaaGreat.Sf

namespace Go.Proofs.YtnnmdkaoiofabaaGreat.Sf
open Go Go.RowKit
open Mk (HsAt)
open Sw (swv)
section
variable {w w' w0:World}{S L n r k p q q0 x cap:Nat}{M:Mdl}{F F' F0:Nat→Prop}{H:Nat→Nat}{T:Nat→Nat→Bool}{v:Nat→Nat}{ad:Option Addr}
set_option maxRecDepth 100000 in
set_option maxHeartbeats 4000000 in
theorem at_any (s:St w S F M) (rt:Rts H L T n r (mv v p q0) M) (pl:Pl w F ad L H) (hq0:q0<n) (hq:q<n) (hr:200*L≤r) (hL:L≤1000) (ev:v p=x) :
  Calls Tryz.prog 57 #[moV S ad L cap x,.int .i64 (q:Int)] w fun e w'=>e = .returned (.int .i64 (szF n v T L p q:Int))∧∃F' M',St w' S F' M'∧Rts H L T n r (mv v p q) M'∧Wf F F' w w':=by
 have nb0:¬F w.heap.size:=fun z=>Nat.lt_irrefl _ (s.lt _ z)
 have B0:Below w.heap.size w (w.alloc (moC S ad L cap x)):=nb w _;have s0:=s.below B0;have pl0:=pl.below B0;have mo0:=IsMo.new (S:=S) (ad:=ad) (L:=L) (cap:=cap) w x;have K1:=put_any (cap:=cap) s0 rt pl0 hq0 hq hr hL ev;obtain⟨c0,c1,c2⟩:=mo0.cells;have B0A:Aside (Below w.heap.size w (w.alloc (moC S ad L cap x))):=B0;have baseA:Aside (Pl (w.alloc (moC S ad L cap x)) F ad L H∧IsMo (w.alloc (moC S ad L cap x)) w.heap.size S ad L cap x∧¬F w.heap.size):=⟨pl0,mo0,nb0⟩
 clear s rt pl B0 s0 pl0 mo0 nb0 ev;go_enter Tryz.func57,Tryz.ntmps57
 go_upto_region 1 with fail
 generalize (w.alloc (moC S ad L cap x))=w1 at K1 B0A baseA c0 c1 c2 ⊢;generalize w.heap.size=b at baseA c0 c1 c2 ⊢
 go_upto_region 2 with (first
  | (go_at_call 54;refine K1.mono ?_;clear K1;rintro e w2 ⟨rfl,F2,M2,s2,r2,g2⟩))
 clear c0 c1 c2;have pr:=baseA.out.1.wf g2;obtain⟨c0,c1,c2⟩:=(baseA.out.2.1.wf baseA.out.2.2 g2).cells;have K2:=size_is (cap:=cap) s2 r2 pr hL;have fA:Aside (St w2 S F2 M2∧Rts H L T n r (mv v p q) M2∧Wf F F2 w1 w2):=⟨s2,r2,g2⟩
 clear s2 r2 g2 pr baseA
 go_wp2_with (first
  | (go_at_call 53;refine K2.mono ?_;clear K2;rintro e w3 ⟨rfl,b3⟩))
 go_ret
 obtain⟨s2,r2,g2⟩:=fA.out;exact⟨rfl,F2,M2,s2.below b3,r2,((Wf.of_below B0A.out F).trans g2).trans (Wf.of_below b3 F2)⟩
abbrev costV (S:Nat) (ad:Option Addr) (L cap x:Nat):Value:=.func (.func 57) #[moV S ad L cap x] #[]
set_option maxRecDepth 100000 in
set_option maxHeartbeats 4000000 in
theorem least_any (s:St w S F M) (rt:Rts H L T n r (mv v p q0) M) (pl:Pl w F ad L H) (hq0:q0<n) (hr:200*L≤r) (hL:L≤1000) (ev:v p=x) :
  Calls Tryz.prog 55 #[.int .i64 (n:Int),costV S ad L cap x] w fun e w'=>e = .returned (.int .i64 (bst (szF n v T L p) n:Int))∧∃F' M' q',q'<n∧St w' S F' M'∧Rts H L T n r (mv v p q') M'∧Wf F F' w w':=by
 have n8:n≤8:=by rw[← rt.n];exact s.ok.le8
 have K1:=at_any (cap:=cap) s rt pl hq0 (show 0<n by omega) hr hL ev;have pA:Aside (Pl w F ad L H):=pl;have evA:Aside (v p=x):=ev;obtain⟨f,hf⟩:∃f,szF n v T L p=f:=⟨_,rfl⟩
 have hfA:Aside (∀q,szF n v T L p q=f q):=fun q=>congrFun hf q
 rw[hf]at K1 ⊢;clear s rt pl ev hf;go_enter Tryz.func55,Tryz.ntmps55
 go_wp2_with (first
  | (go_at_call 57;refine K1.mono ?_;clear K1;rintro e w1 ⟨rfl,F1,M1,s1,r1,g1⟩;have fA:Aside (∃F' M',St w1 S F' M'∧Rts H L T n r (mv v p 0) M'∧Wf F F' w w1):=⟨F1,M1,s1,r1,g1⟩;clear s1 r1 g1))
 go_loopg [7,5,6] (n-1) (fun g s7 s5 s6 wr=>∃j:Nat,j+g=n∧1≤j∧s7 = .int .i64 (j:Int)∧s5 = .int .i64 (bst f j:Int)∧s6 = .int .i64 (f (bst f j):Int)∧Aside (∃F' M',St wr S F' M'∧Rts H L T n r (mv v p (j-1)) M'∧Wf F F' w wr))
 case atStart=>exact⟨1,by omega,by omega,rfl,by rw[bst_one];rfl,by rw[bst_one],fA⟩
 case round =>
  clear fA;obtain⟨j,hg,hj1,rfl,rfl,rfl,hs⟩:=hrel;have hgA:Aside (j+gk=n):=by show j+gk=n;omega
  clear hg;by_cases hlt:j<n
  ·obtain⟨Fr,Mr,sr,rr,gr⟩:=hs.out;have K2:=at_any (cap:=cap) sr rr (pA.out.wf gr) (by omega) hlt hr hL evA.out;rw[hfA.out j]at K2;have hlt':(j:Int)<(n:Int):=by omega
   have hw:IntKind.i64.wrap ((j:Int)+1)=((j+1:Nat):Int):=by rw[IntKind.wrap_i64];omega
   have grA:Aside (Wf F Fr w wr):=gr;have hltA:Aside (j<n∧1≤j):=⟨hlt,hj1⟩
   have hb:Aside (bst f (j+1)=if f j<f (bst f j)then j else bst f j):=rfl;clear hs sr rr gr hlt hj1;by_cases c:f j<f (bst f j)
   ·rw[if_pos c]at hb;have c':(f j:Int)<(f (bst f j):Int):=by omega
    generalize f (bst f j)=fb at c' ⊢;generalize bst f j=bb at hb ⊢;clear c
    go_wp2_with (first
     | (go_at_call 57;refine K2.mono ?_;clear K2;rintro e w5 ⟨rfl,F5,M5,s5,r5,g5⟩;have fA:Aside (St w5 S F5 M5∧Rts H L T n r (mv v p j) M5∧Wf F F5 w w5):=⟨s5,r5,grA.out.trans g5⟩;clear s5 r5 g5))
    go_roundg (gk-1)
    case measure=>have:=hgA.out;have:=hltA.out;omega
    case rel =>
     have:=hgA.out;have:=hltA.out;exact⟨j+1,by omega,by omega,rfl,by rw[hb.out],by rw[hb.out],F5,M5,fA.out⟩
   ·rw[if_neg c]at hb;have c':¬(f j:Int)<(f (bst f j):Int):=by omega
    generalize hfb:f (bst f j)=fb at c' ⊢;have hfbA:Aside (f (bst f j)=fb):=hfb;clear hfb;generalize bst f j=bb at hb hfbA ⊢;clear c
    go_wp2_with (first
     | (go_at_call 57;refine K2.mono ?_;clear K2;rintro e w5 ⟨rfl,F5,M5,s5,r5,g5⟩;have fA:Aside (St w5 S F5 M5∧Rts H L T n r (mv v p j) M5∧Wf F F5 w w5):=⟨s5,r5,grA.out.trans g5⟩;clear s5 r5 g5))
    go_roundg (gk-1)
    case measure=>have:=hgA.out;have:=hltA.out;omega
    case rel =>
     have:=hgA.out;have:=hltA.out;exact⟨j+1,by omega,by omega,rfl,by rw[hb.out],by rw[hb.out,hfbA.out],F5,M5,fA.out⟩
  ·have hlt':¬(j:Int)<(n:Int):=by omega
   have ej:j=n:=by have:=hgA.out;omega
   rw[ej]at hs ⊢;clear hlt ej hj1
   go_wp2_with fail
   go_ret
   obtain⟨F',M',s',r',g'⟩:=hs.out;exact⟨rfl,F',M',n-1,by omega,s',r',g'⟩
end
end Go.Proofs.YtnnmdkaoiofabaaGreat.Sf
