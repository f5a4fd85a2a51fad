/-
  The reference of sifting, walked: the order that functions end with.
-/
import Derived.Test.YtnnmdkaoiofabaaGreatSrE
import Derived.Test.YtnnmdkaoiofabaaGreatSrX
import Derived.Test.YtnnmdkaoiofabaaGreatSfS
namespace Go.Proofs.YtnnmdkaoiofabaaGreat.Sr
open Go Go.RowKit
open Sw (posN posN_of surj_of_inj)
open Od (IntsAt)
open Sf (mv rem bst bst_lt bst_one szN sfI nxV PlanIs plK)
def mvx (p q i:Nat):Nat:=if i<q then (if i<p then i else i+1)else if i=q then p else (if i-1<p then i-1 else i-1+1)
theorem mv_ix (v:Nat→Nat) (p q i:Nat):mv v p q i=v (mvx p q i):=by
 unfold mv mvx rem;split
 ·split <;> rfl
 ·split
  ·rfl
  ·split <;> rfl
theorem PermN.mv {n:Nat}{v:Nat→Nat}(h:PermN n v){p q:Nat}(hp:p<n) (hq:q<n):PermN n (mv v p q):=by
 have lt:∀i,i<n→mvx p q i<n:=fun i hi=>by
  unfold mvx;split
  ·split <;> omega
  ·split
   ·exact hp
   ·split <;> omega
 refine⟨fun i hi=>by rw[mv_ix];exact h.lt _ (lt i hi),fun i j hi hj e=>?_⟩;rw[mv_ix,mv_ix]at e;have:=h.inj _ _ (lt i hi) (lt j hj) e;unfold mvx at this;revert this;split <;> split <;> (try split) <;> (try split) <;> (try split) <;> (try split) <;> omega
theorem posN_at {n x:Nat}{v:Nat→Nat}(h:PermN n v) (hx:x<n):posN v x n<n∧v (posN v x n)=x:=by
 obtain⟨i,hi,e⟩:=surj_of_inj h.lt h.inj hx;have:=posN_of (v:=v) h.inj hi;rw[e]at this;rw[this];exact⟨hi,e⟩
theorem own_ints {w:World}{B n cap:Nat}{ad:Option Addr}{U:Nat→Nat}(o:OwnR 3 w B ad n cap (fun i=>.int .i64 (U i:Int))) (h:1≤n):IntsAt w ad n (fun i=>(U i:Int)):=by
 obtain⟨g,rfl⟩:=o.form (by omega);exact .inr ⟨g,0,rfl,(o.block g ⟨_,rfl,rfl⟩).2,fun i hi=>by rw[Nat.zero_add];exact o.cell hi⟩
set_option maxRecDepth 100000 in
set_option maxHeartbeats 8000000 in
theorem rsift_far {w:World}{adl adv:Option Addr}{L capl capv n:Nat}{v:Nat→Nat}{T:Nat→Nat→Bool}(hl:Rf.TabsAt w adl L T) (hv:IntsAt w adv n (fun i=>(v i:Int))) (pv:PermN n v) (h1:1≤n) (hn:n≤8) (hL:L≤1000) (ts:List (Nat→Bool)) (hts:(Rf.prt (fun i=>(v i:Int)) n (Rf.dedup T L) (min n 8+1)).1=ts) (htl:ts.length≤1000000){xs:List Nat}(xp:PlanIs (plK v (fsN v n ts) n) n xs) :
  Calls Tryz.prog 17 #[.slice adl L capl,.slice adv n capv] w fun e w'=>∃ad' cap',e = .returned (.slice ad' n cap')∧IntsAt w' ad' n (fun i=>(sfI n (fun u=>szN n u T L) v xs n i:Int))∧Below w.heap.size w w'∧∀a,ad'=some a→w.heap.size≤a.block:=by
 have K1:=rplan_any (capl:=capl) (capv:=capv) hl hv pv h1 hn hL ts hts htl (XsP.of pv xp);have xlt:∀i,i<n→xs.getD i 0<n:=fun i hi=>by
  have hl':=xp.len;rw[getD_at (by omega)];exact xp.lt _ (List.getElem_mem _)
 obtain⟨sz,hsz⟩:∃sz:(Nat→Nat)→Nat,(fun u=>szN n u T L)=sz:=⟨_,rfl⟩
 have szA:Aside (∀u,szN n u T L=sz u):=fun u=>by rw[← hsz]
 rw[hsz];clear hsz;have xA:Aside (∀i,i<n→xs.getD i 0<n):=xlt;have pA:Aside (PermN n v):=pv;have vA:Aside (IntsAt w adv n (fun i=>(v i:Int))∧Rf.TabsAt w adl L T):=⟨hv,hl⟩
 have h1A:Aside (1≤n):=h1;clear hts htl xp xlt pv hv hl h1;go_enter Tryz.func17,Tryz.ntmps17
 go_upto_region 2 with (first
  | (go_at_call 20;refine K1.mono ?_;clear K1;rintro e w1 ⟨adp,capp,rfl,o1,b1⟩))
 have plA:Aside (∀u,Below w1.heap.size w1 u→IntsAt u adp n (fun i=>(xs.getD i 0:Int))∧Rf.TabsAt u adl L T):=fun u hu=>⟨(own_ints o1 h1A.out).below hu,(vA.out.2.kept b1).kept hu⟩
 have b1A:Aside (Below w.heap.size w w1):=b1;have v1A:Aside (IntsAt w1 adv n (fun i=>(sfI n sz v xs 0 i:Int))∧PermN n (sfI n sz v xs 0)∧Below w1.heap.size w1 w1):=⟨vA.out.1.below b1,pA.out,Below.refl _ _⟩
 clear o1 b1 vA
 go_wp2_with fail
 go_loopg [1,6] n (fun gg s1 s6 wr=>∃(i ci:Nat) (adi:Option Addr),i+gg=n∧s1 = .slice adi n ci∧s6 = .int .i64 (i:Int)∧Aside (IntsAt wr adi n (fun j=>(sfI n sz v xs i j:Int))∧PermN n (sfI n sz v xs i)∧Below w1.heap.size w1 wr∧(i=0∨∀a,adi=some a→w.heap.size≤a.block)))
 case atStart=>exact⟨0,capv,adv,by omega,rfl,rfl,v1A.out.1,v1A.out.2.1,v1A.out.2.2,.inl rfl⟩
 case round =>
  clear v1A;obtain⟨i,ci,adi,hi,rfl,rfl,hS⟩:=hrel;have hiA:Aside (i+gk=n):=hi;have hin:i≤n:=by omega
  clear hi;obtain⟨go,hgo⟩:∃go,gk=go:=⟨_,rfl⟩
  have goA:Aside (gk=go):=hgo;clear hgo;obtain⟨V,hV⟩:∃V,sfI n sz v xs i=V:=⟨_,rfl⟩
  have hVA:Aside (sfI n sz v xs i=V):=hV;rw[hV]at hS;by_cases hlt:i<n
  ·have hlt':(i:Int)<(n:Int):=by omega
   have hltA:Aside (i<n):=hlt;have hw:IntKind.i64.wrap ((i:Int)+1)=((i+1:Nat):Int):=by rw[IntKind.wrap_i64];omega
   obtain⟨x,hx⟩:∃x,xs.getD i 0=x:=⟨_,rfl⟩
   have hxA:Aside (xs.getD i 0=x):=hx;obtain⟨p,hp⟩:∃p,posN V x n=p:=⟨_,rfl⟩
   have pxA:Aside (p<n∧V p=x):=by
    have:=posN_at hS.out.2.1 (x:=x) (by rw[← hx];exact xA.out i hlt);rw[hp]at this;exact this
   obtain⟨f,hf⟩:∃f:Nat→Nat,(fun q=>sz (mv V p q))=f:=⟨_,rfl⟩
   have fA:Aside (∀q,szN n (mv V p q) T L=f q):=fun q=>by rw[szA.out,← hf]
   have nxA:Aside (sfI n sz v xs (i+1)=mv V p (bst f n)):=by
    show nxV n sz (sfI n sz v xs i) (xs.getD i 0)=_;rw[hV,hx,nxV,hp,hf]
   clear hx hp hf hV hlt;obtain⟨wr0,hwr0⟩:∃wr0,wr=wr0:=⟨_,rfl⟩
   have wr0A:Aside (wr=wr0):=hwr0;rw[hwr0]at hS;clear hwr0
   go_wp2_with fail
   go_loopg [7,8,9] n (fun gg s7 s8 s9 wq=>∃(k cb:Nat) (adb:Option Addr) (z:Int),k+gg=n∧s7 = .slice adb n cb∧s8 = .int .i64 z∧s9 = .int .i64 (k:Int)∧Aside ((k=0∧z = -1∨1≤k∧z=(f (bst f k):Int)∧IntsAt wq adb n (fun j=>(mv V p (bst f k) j:Int))∧∀a,adb=some a→w.heap.size≤a.block)∧Below wr0.heap.size wr0 wq))
   case atStart=>exact⟨0,ci,adi,-1,by omega,rfl,rfl,rfl,.inl ⟨rfl,rfl⟩,by rw[wr0A.out];exact Below.refl _ _⟩
   case round =>
    obtain⟨k,cb,adb,z,hk,rfl,rfl,rfl,hB0⟩:=hrel;have hKA:Aside (k+gk=n):=hk;have hkn:k≤n:=by omega
    clear hk;obtain⟨hZ,hB⟩:=hB0.out;clear hB0;by_cases klt:k<n
    ·have klt':(k:Int)<(n:Int):=by omega
     have kltA:Aside (k<n):=klt;have hwk:IntKind.i64.wrap ((k:Int)+1)=((k+1:Nat):Int):=by rw[IntKind.wrap_i64];omega
     have hBw:Below w1.heap.size w1 wr:=Rf.below_far hS.out.2.2.1 hB;have KM:=moved_any (cv:=ci) (hS.out.1.below hB) hn hS.out.2.1.inj pxA.out.1 pxA.out.2 klt;have KS:Aside (∀(w5:World) (ad5:Option Addr) (cap5:Nat),OwnR 3 w5 wr.heap.size ad5 n cap5 (fun j=>.int .i64 (mv V p k j:Int))→Below wr.heap.size wr w5→Calls Tryz.prog 21 #[.slice adl L capl,.slice ad5 n cap5] w5 fun e w'=>e = .returned (.int .i64 (f k:Int))∧Below w5.heap.size w5 w'):=fun w5 ad5 cap5 o5 b5=>by
      have:=Go.Proofs.YtnnmdkaoiofabaaGreat.size_any adl L capl T ad5 n cap5 (fun j=>(mv V p k j:Int)) w5 hL hn (plA.out w5 (Rf.below_far hBw b5)).2 (own_ints o5 h1A.out);rw[← fA.out k];exact this
     obtain⟨bP,fP,eP,hbP,hcP⟩:=(plA.out wr hBw).1.resolve_left (by have:=h1A.out;omega);have cP:wr.cell? ⟨bP,fP+i,none⟩=some (.int .i64 (x:Int)):=by
      rw[← hxA.out];exact hcP i hltA.out
     have bk:bst f (k+1)=if f k<f (bst f k)then k else bst f k:=rfl
     subst eP;have hBA:Aside (Below wr0.heap.size wr0 wr):=hB;have wlA:Aside (w.heap.size≤wr.heap.size):=Nat.le_trans b1A.out.size hBw.size;clear hBw hcP klt hB hbP;by_cases k0:k=0
     ·have bkA:Aside (bst f (k+1)=k):=by
       rw[k0];exact bst_one f
      have hz:z = -1:=by
       rcases hZ with h|h
       ·exact h.2
       ·exact absurd h.1 (by rw[k0];decide)
      subst z;clear hZ bk k0
      go_wp2_with (first
       | (go_at_call 50;refine KM.mono ?_;rintro e w5 ⟨ad5,cap5,rfl,o5,b5⟩;have KZ:=KS.out w5 ad5 cap5 o5 b5;have oA:Aside (OwnR 3 w5 wr.heap.size ad5 n cap5 (fun j=>.int .i64 (mv V p k j:Int))∧Below wr.heap.size wr w5):=⟨o5,b5⟩;clear o5 b5 KM KS)
       | (go_at_call 21;refine KZ.mono ?_;clear KZ;rintro e w6 ⟨rfl,b6⟩))
      go_roundg (gk-1)
      case measure=>have:=hKA.out;have:=kltA.out;omega
      case rel =>
       have:=hKA.out;have:=kltA.out;exact⟨k+1,cap5,ad5,(f k:Int),by omega,rfl,rfl,rfl,.inr ⟨by omega,by rw[bkA.out],by rw[bkA.out];exact(own_ints oA.out.1 h1A.out).below b6,fun a e=>Nat.le_trans wlA.out (oA.out.1.block _ ⟨a,e,rfl⟩).1⟩,Rf.below_far hBA.out (Rf.below_far oA.out.2 b6)⟩
     ·obtain⟨hk1,rfl,hI,hIf⟩:1≤k∧z=(f (bst f k):Int)∧IntsAt wr adb n (fun j=>(mv V p (bst f k) j:Int))∧∀a,adb=some a→w.heap.size≤a.block:=by
       rcases hZ with h|h
       ·exact absurd h.1 k0
       ·exact h
      have hz:¬(f (bst f k):Int)<0:=by omega
      by_cases c:f k<f (bst f k)
      ·have bkA:Aside (bst f (k+1)=k):=(by rw[bk,if_pos c]:bst f (k+1)=k)
       have c':(f k:Int)<(f (bst f k):Int):=by omega
       generalize f (bst f k)=fb at c' hz ⊢;clear hZ bk k0 c hI hk1 hIf
       go_wp2_with (first
        | (go_at_call 50;refine KM.mono ?_;rintro e w5 ⟨ad5,cap5,rfl,o5,b5⟩;have KZ:=KS.out w5 ad5 cap5 o5 b5;have oA:Aside (OwnR 3 w5 wr.heap.size ad5 n cap5 (fun j=>.int .i64 (mv V p k j:Int))∧Below wr.heap.size wr w5):=⟨o5,b5⟩;clear o5 b5 KM KS)
        | (go_at_call 21;refine KZ.mono ?_;clear KZ;rintro e w6 ⟨rfl,b6⟩))
       go_roundg (gk-1)
       case measure=>have:=hKA.out;have:=kltA.out;omega
       case rel =>
        have:=hKA.out;have:=kltA.out;exact⟨k+1,cap5,ad5,(f k:Int),by omega,rfl,rfl,rfl,.inr ⟨by omega,by rw[bkA.out],by rw[bkA.out];exact(own_ints oA.out.1 h1A.out).below b6,fun a e=>Nat.le_trans wlA.out (oA.out.1.block _ ⟨a,e,rfl⟩).1⟩,Rf.below_far hBA.out (Rf.below_far oA.out.2 b6)⟩
      ·have bkA:Aside (bst f (k+1)=bst f k):=(by rw[bk,if_neg c]:bst f (k+1)=bst f k)
       have c':¬(f k:Int)<(f (bst f k):Int):=by omega
       have hIA:Aside (∀u,Below wr.heap.size wr u→IntsAt u adb n (fun j=>(mv V p (bst f k) j:Int))):=fun u hu=>hI.below hu
       have hIfA:Aside (∀a,adb=some a→w.heap.size≤a.block):=hIf;generalize hfb:f (bst f k)=fb at c' hz ⊢;have fbA:Aside (f (bst f k)=fb):=hfb;clear hZ bk k0 c hI hk1 hfb hIf
       go_wp2_with (first
        | (go_at_call 50;refine KM.mono ?_;rintro e w5 ⟨ad5,cap5,rfl,o5,b5⟩;have KZ:=KS.out w5 ad5 cap5 o5 b5;have oA:Aside (Below wr.heap.size wr w5):=b5;clear o5 b5 KM KS)
        | (go_at_call 21;refine KZ.mono ?_;clear KZ;rintro e w6 ⟨rfl,b6⟩))
       go_roundg (gk-1)
       case measure=>have:=hKA.out;have:=kltA.out;omega
       case rel =>
        have:=hKA.out;have:=kltA.out;exact⟨k+1,cb,adb,(fb:Int),by omega,rfl,rfl,rfl,.inr ⟨by omega,by rw[bkA.out,fbA.out],by rw[bkA.out];exact hIA.out _ (Rf.below_far oA.out b6),hIfA.out⟩,Rf.below_far hBA.out (Rf.below_far oA.out b6)⟩
    ·have klt':¬(k:Int)<(n:Int):=by omega
     have ek:k=n:=by omega
     have hI:IntsAt wr adb n (fun j=>(mv V p (bst f n) j:Int))∧∀a,adb=some a→w.heap.size≤a.block:=by
      rcases hZ with h|h
      ·have:=h1A.out;omega
      ·rw[← ek]at h ⊢;exact h.2.2
     have nN:Aside (IntsAt wr adb n (fun j=>(sfI n sz v xs (i+1) j:Int))∧PermN n (sfI n sz v xs (i+1))∧Below w1.heap.size w1 wr∧(i+1=0∨∀a,adb=some a→w.heap.size≤a.block)):=by
      rw[nxA.out];exact⟨hI.1,hS.out.2.1.mv pxA.out.1 (bst_lt f (by have:=h1A.out;omega)),Rf.below_far hS.out.2.2.1 hB,.inr hI.2⟩
     clear ek hB hI hS hZ
     go_wp2_with fail
     go_roundg (go-1)
     case measure=>have:=hiA.out;have:=goA.out;have:=hltA.out;omega
     case rel=>exact⟨i+1,cb,adb,by have:=hiA.out;have:=goA.out;have:=hltA.out;omega,rfl,rfl,nN⟩
  ·have hlt':¬(i:Int)<(n:Int):=by omega
   have ei:i=n:=by omega
   rw[ei]at hVA;have eiA:Aside (i=n):=ei;clear hlt ei hin hiA
   go_wp2_with fail
   go_ret
   obtain⟨sl,ow,bl,fr⟩:=hS.out;refine⟨_,⟨ci,rfl⟩,?_,Rf.below_far b1A.out bl,fr.resolve_left fun q=>by have:=h1A.out;have:=eiA.out;omega⟩;rw[hVA.out];exact sl
end Go.Proofs.YtnnmdkaoiofabaaGreat.Sr
