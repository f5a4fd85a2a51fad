/-
  The reference of sifting: the plan, by selection, walked.
-/
import Derived.Test.YtnnmdkaoiofabaaGreatSrX
import Derived.Deep.QuietTactic
import Derived.BigQuiet
namespace Go.Proofs.YtnnmdkaoiofabaaGreat.Sr
open Go Go.RowKit
open Sw (posN posN_of surj_of_inj)
open Od (IntsAt)
section
variable {v c:Nat→Nat}{n:Nat}
theorem key_any {w:World}{adv adc:Option Addr}{cv cc x:Nat}(pv:PermN n v) (hv:IntsAt w adv n (fun i=>(v i:Int))) (hc:IntsAt w adc n (fun i=>(c i:Int))) (hn:n≤8) (hx:x<n) :
  Calls Tryz.prog 59 #[.slice adv n cv,.slice adc n cc,.int .i64 (x:Int)] w fun e w'=>e = .returned (.int .i64 (kx v c n x:Int))∧w'=w:=by
 obtain⟨i,hi,e⟩:=surj_of_inj pv.lt pv.inj hx;have:=at_any (cv:=cv) (cc:=cc) hv hc (by omega) hi (x:=(x:Int)) (by rw[← e]) fun j hj q=>by
  have:=pv.inj j i (by omega) hi (by omega);omega
 have ek:kx v c n x=c i:=by unfold kx;rw[← e,posN_of pv.inj hi]
 rw[ek];exact this
set_option maxRecDepth 100000 in
set_option maxHeartbeats 8000000 in
theorem rplan_any {w:World}{adl adv:Option Addr}{L capl capv:Nat}{T:Nat→Nat→Bool}(hl:Rf.TabsAt w adl L T) (hv:IntsAt w adv n (fun i=>(v i:Int))) (pv:PermN n v) (h1:1≤n) (hn:n≤8) (hL:L≤1000) (ts:List (Nat→Bool)) (hts:(Rf.prt (fun i=>(v i:Int)) n (Rf.dedup T L) (min n 8+1)).1=ts) (htl:ts.length≤1000000){X:Nat→Nat}(xp:XsP v (fsN v n ts) n X) :
  Calls Tryz.prog 20 #[.slice adl L capl,.slice adv n capv] w fun e w'=>∃ad' cap',e = .returned (.slice ad' n cap')∧OwnR 3 w' w.heap.size ad' n cap' (fun i=>.int .i64 (X i:Int))∧Below w.heap.size w w':=by
 have K1:=rlevels_any adl L capl T adv n capv v w hL hn (fun i hi=>by have:=pv.lt i hi;omega) hl hv ts hts htl;obtain⟨c,hc⟩:∃c,fsN v n ts=c:=⟨_,rfl⟩
 rw[hc]at K1 xp;have xA:Aside (XsP v c n X):=xp;have pA:Aside (PermN n v):=pv;have hvA:Aside (IntsAt w adv n (fun i=>(v i:Int))):=hv;clear hl hts htl xp hc pv hv;go_enter Tryz.func20,Tryz.ntmps20
 go_upto_region 2 with (first
  | (go_at_call 58;refine K1.mono ?_;clear K1;rintro e w1 ⟨g,rfl,row,b1,hg⟩))
 have z1:IntsAt w1 adv n (fun i=>(v i:Int)):=hvA.out.below b1;have rg:IntsAt w1 (some ⟨g,0,none⟩) n (fun i=>(c i:Int)):=IntsAt.row row;have src:SrcAt w1 adv n (fun i=>(v i:Int)):=by
  obtain⟨b,off,e,_,hcc⟩:=z1.resolve_left (by omega);exact .inr ⟨b,off,e,hcc⟩
 have hr1:=run_app (n:=0) (cap:=0) (V:=fun _=>.int .i64 0) (OwnR.nil 3 w1 w1.heap.size _) (c:=capv) src (fun e=>by obtain⟨b,off,e2,_⟩:=z1.resolve_left (by omega);rw[e]at e2;cases e2) (by omega) (Nat.le_refl _) 42;obtain⟨ad1,cap1,w2,hr1,o1,wt1,at1⟩:=hr1;rw[Nat.zero_add]at hr1 o1
 go_upto_region 3 with (first
  | (at_builtin;refine app_wp rfl _ _ rfl _ _ _ rfl rfl hr1 ?_))
 obtain⟨g1,rfl⟩:=o1.form (by omega);have B2:Below w1.heap.size w1 w2:=⟨wt1.os,wt1.tape,wt1.output,wt1.size,fun k hk=>wt1.block k hk fun⟨_,e,_⟩=>by cases e⟩
 obtain⟨Bs,hBs⟩:∃Bs,w1.heap.size=Bs:=⟨_,rfl⟩
 have BsA:Aside (w1.heap.size=Bs):=hBs;have stA:Aside (SelP X n 0 v∧OwnR 3 w2 Bs (some ⟨g1,0,none⟩) n cap1 (fun j=>.int .i64 (v j:Int))∧Below Bs w1 w2):=⟨⟨pA.out,fun j hj=>absurd hj (Nat.not_lt_zero _)⟩,by rw[← hBs];exact o1.congr fun i hi=>by rw[if_neg (by omega),Nat.sub_zero],by rw[← hBs];exact B2⟩
 have zA:Aside (IntsAt w1 adv n (fun i=>(v i:Int))∧IntsAt w1 (some ⟨g,0,none⟩) n (fun i=>(c i:Int))):=⟨z1,rg⟩
 have b1A:Aside (Below w.heap.size w w1):=b1;clear row b1 hg z1 rg src hr1 o1 wt1 at1 B2 hBs hvA
 go_wp2_with fail
 go_loopg [7] n (fun gg s7 wr=>∃(i:Nat) (O:Nat→Nat),i+gg=n∧s7 = .int .i64 (i:Int)∧Aside (SelP X n i O∧OwnR 3 wr Bs (some ⟨g1,0,none⟩) n cap1 (fun j=>.int .i64 (O j:Int))∧Below Bs w1 wr))
 case atStart=>exact⟨0,v,by omega,rfl,stA⟩
 case round =>
  clear stA;obtain⟨i,O,hi,rfl,hS⟩:=hrel;have hiA:Aside (i+gk=n):=hi;have hin:i≤n:=by omega
  clear hi;by_cases hlt:i<n
  ·have hlt':(i:Int)<(n:Int):=by omega
   have hltA:Aside (i<n):=hlt;have hw:IntKind.i64.wrap ((i:Int)+1)=((i+1:Nat):Int):=by rw[IntKind.wrap_i64];omega
   obtain⟨go,hgo⟩:∃go,gk=go:=⟨_,rfl⟩
   have goA:Aside (gk=go):=hgo;clear hgo
   go_wp2_with fail
   go_loopg [9,8] (n-(i+1)) (fun gg s9 s8 wq=>∃(k b:Nat),k+gg=n∧s9 = .int .i64 (k:Int)∧s8 = .int .i64 (b:Int)∧Aside (i≤b∧b<k∧b<n∧(∀j,i≤j→j<k→j=b∨Les v c n (O b) (O j))∧OwnR 3 wq Bs (some ⟨g1,0,none⟩) n cap1 (fun j=>.int .i64 (O j:Int))∧Below Bs w1 wq))
   case atStart =>
    refine⟨i+1,i,by omega,rfl,rfl,Nat.le_refl _,by omega,hlt,fun j h2 h3=>.inl (by omega),hS.out.2.1,hS.out.2.2⟩
   case round =>
    obtain⟨k,b,hk,rfl,rfl,hB⟩:=hrel;have hKA:Aside (k+gk=n):=hk;have hkn:k≤n:=by omega
    clear hk;by_cases klt:k<n
    ·have klt':(k:Int)<(n:Int):=by omega
     have kltA:Aside (k<n):=klt;have hwk:IntKind.i64.wrap ((k:Int)+1)=((k+1:Nat):Int):=by rw[IntKind.wrap_i64];omega
     have blt':(b:Int)<(n:Int):=by have:=hB.out.2.2.1;omega
     have ck:wr.cell? ⟨g1,k,none⟩=some (.int .i64 (O k:Int)):=hB.out.2.2.2.2.1.cell klt;have cb:wr.cell? ⟨g1,b,none⟩=some (.int .i64 (O b:Int)):=hB.out.2.2.2.2.1.cell hB.out.2.2.1;have hB':Below w1.heap.size w1 wr:=by rw[BsA.out];exact hB.out.2.2.2.2.2
     have zv:=zA.out.1.below hB';have zc:=zA.out.2.below hB';obtain⟨P,hP⟩:∃P:Nat→Int,(fun j=>(kx v c n (O j):Int))=P:=⟨_,rfl⟩
     have KA:∀(q j:Nat),j<n→Calls Tryz.prog 59 #[.slice adv n capv,.slice (some ⟨g,0,none⟩) n n,.int .i64 (O j:Int)] (wr.drewN q) (fun e w'=>e = .returned (.int .i64 (P j))∧w'=wr.drewN q):=fun q j hj=>by
      rw[← hP];exact key_any (cv:=capv) (cc:=n) (w:=wr.drewN q) pA.out zv zc hn (hS.out.1.perm.lt j hj)
     have bltA:Aside (b<n):=hB.out.2.2.1;have neA:Aside (O k≠O b):=fun e=>by have:=hS.out.1.perm.inj k b klt hB.out.2.2.1 e;have:=hB.out.2.1;omega
     have pqA:Aside ((fun j=>(kx v c n (O j):Int))=P):=hP;clear hP zv zc hB' klt;have nextK:∀u:World,Below wr.heap.size wr u→OwnR 3 u Bs (some ⟨g1,0,none⟩) n cap1 (fun j=>.int .i64 (O j:Int))∧Below Bs w1 u:=fun u hu=>⟨hB.out.2.2.2.2.1.below hu,Rf.below_far (by rw[BsA.out];exact hB.out.2.2.2.2.2) hu |> fun h=>by rw[BsA.out]at h;exact h⟩
     have takeK:Aside (∀u:World,Below wr.heap.size wr u→Les v c n (O k) (O b)→i≤k∧k<k+1∧k<n∧(∀j,i≤j→j<k+1→j=k∨Les v c n (O k) (O j))∧OwnR 3 u Bs (some ⟨g1,0,none⟩) n cap1 (fun j=>.int .i64 (O j:Int))∧Below Bs w1 u):=fun u hu le=>by
      obtain⟨q1,q2,q3,q4,_⟩:=hB.out;refine⟨by omega,by omega,kltA.out,fun j hj hjk=>?_,nextK u hu⟩;by_cases e:j=k
      ·exact .inl e
      ·rcases q4 j hj (by omega)with h|h
       ·rw[h];exact .inr le
       ·exact .inr (le.trans h)
     have stayK:Aside (∀u:World,Below wr.heap.size wr u→¬Les v c n (O k) (O b)→i≤b∧b<k+1∧b<n∧(∀j,i≤j→j<k+1→j=b∨Les v c n (O b) (O j))∧OwnR 3 u Bs (some ⟨g1,0,none⟩) n cap1 (fun j=>.int .i64 (O j:Int))∧Below Bs w1 u):=fun u hu le=>by
      obtain⟨q1,q2,q3,q4,_⟩:=hB.out;refine⟨q1,by omega,q3,fun j hj hjk=>?_,nextK u hu⟩;by_cases e:j=k
      ·rw[e];exact .inr (les_or le neA.out)
      ·exact q4 j hj (by omega)
     have lesA:Aside (Les v c n (O k) (O b)↔P b<P k∨(P k=P b∧(O k:Int)<(O b:Int))):=by
      have h1:P k=(kx v c n (O k):Int):=by rw[← pqA.out]
      have h2:P b=(kx v c n (O b):Int):=by rw[← pqA.out]
      rw[h1,h2];show _↔_;unfold Les;omega
     clear nextK hB neA hS;go_upto_region 10 with fail
     go_quiet ((go_at_call 59;exact Calls.quiet_of_same (KA _ _ (by first|exact kltA.out|exact bltA.out))))
     clear KA;generalize hp:P k=p at lesA ⊢;generalize hq:P b=q at lesA ⊢;generalize hx:(O k:Int)=x at lesA ck ⊢;generalize hy:(O b:Int)=y at lesA cb ⊢;clear hp hq hx hy pqA;obtain⟨lesA2⟩:Nonempty (Aside (Les v c n (O k) (O b)↔q<p∨(p=q∧x<y))):=⟨lesA⟩
     clear lesA;by_cases hpq:q<p
     ·have leA:Aside (Les v c n (O k) (O b)):=lesA2.out.mpr (.inl hpq);have f1:p > q:=hpq;clear lesA2 hpq;go_upto_region 11 with fail
      go_quiet (fail)
      go_wp2_with fail
      go_roundg (gk-1)
      case measure=>have:=hKA.out;have:=kltA.out;omega
      case rel=>exact⟨k+1,k,by have:=hKA.out;have:=kltA.out;omega,rfl,rfl,takeK.out _ ⟨rfl,rfl,rfl,Nat.le_refl _,fun _ _=>rfl⟩ leA.out⟩
     ·by_cases epq:p=q
      ·by_cases hxy:x<y
       ·have leA:Aside (Les v c n (O k) (O b)):=lesA2.out.mpr (.inr ⟨epq,hxy⟩);have f1:¬p > q:=hpq;clear lesA2 hpq;go_upto_region 11 with fail
        go_quiet (fail)
        go_wp2_with fail
        go_roundg (gk-1)
        case measure=>have:=hKA.out;have:=kltA.out;omega
        case rel=>exact⟨k+1,k,by have:=hKA.out;have:=kltA.out;omega,rfl,rfl,takeK.out _ ⟨rfl,rfl,rfl,Nat.le_refl _,fun _ _=>rfl⟩ leA.out⟩
       ·have leA:Aside (¬Les v c n (O k) (O b)):=fun h=>by rcases lesA2.out.mp h with h|h <;> omega
        have f1:¬p > q:=hpq;clear lesA2 hpq;go_upto_region 11 with fail
        go_quiet (fail)
        go_wp2_with fail
        go_roundg (gk-1)
        case measure=>have:=hKA.out;have:=kltA.out;omega
        case rel=>exact⟨k+1,b,by have:=hKA.out;have:=kltA.out;omega,rfl,rfl,stayK.out _ ⟨rfl,rfl,rfl,Nat.le_refl _,fun _ _=>rfl⟩ leA.out⟩
      ·have leA:Aside (¬Les v c n (O k) (O b)):=fun h=>by rcases lesA2.out.mp h with h|h <;> omega
       have f1:¬p > q:=hpq;clear lesA2 hpq;go_upto_region 11 with fail
       go_quiet (fail)
       go_wp2_with fail
       go_roundg (gk-1)
       case measure=>have:=hKA.out;have:=kltA.out;omega
       case rel=>exact⟨k+1,b,by have:=hKA.out;have:=kltA.out;omega,rfl,rfl,stayK.out _ ⟨rfl,rfl,rfl,Nat.le_refl _,fun _ _=>rfl⟩ leA.out⟩
    ·have klt':¬(k:Int)<(n:Int):=by omega
     have ek:k=n:=by omega
     obtain⟨q1,_,q3,q4,ow,bl⟩:=hB.out;have xB:O b=X i:=SelP.best xA.out hS.out.1 hltA.out ⟨q1,q3⟩ fun j h2 h3=>q4 j h2 (by omega)
     have sN:=hS.out.1.step hltA.out ⟨q1,q3⟩ xB;have blt':(b:Int)<(n:Int):=by omega
     have cI:=ow.cell hltA.out;have cJ:=ow.cell q3;have fI:=ow.frozen i;have fJ:=ow.frozen b;have ow1:=ow.set (k:=i) (.int .i64 (O b:Int));have cU:=ow1.cell q3;have ow2:=(ow1.set (k:=b) (.int .i64 (O i:Int))).drew;have nN:Aside (SelP X n (i+1) (swpF O i b)∧OwnR 3 ((wr.setCell ⟨g1,i,none⟩ (.int .i64 (O b:Int))).setCell ⟨g1,b,none⟩ (.int .i64 (O i:Int))).drew Bs (some ⟨g1,0,none⟩) n cap1 (fun j=>.int .i64 (swpF O i b j:Int))∧Below Bs w1 ((wr.setCell ⟨g1,i,none⟩ (.int .i64 (O b:Int))).setCell ⟨g1,b,none⟩ (.int .i64 (O i:Int))).drew):=by
      refine⟨sN,ow2.congr fun j hj=>?_,?_⟩
      ·unfold swpF;by_cases e:j=b
       ·rw[if_pos e,if_pos e]
       ·rw[if_neg e,if_neg e];by_cases e2:j=i
        ·rw[if_pos e2,if_pos e2]
        ·rw[if_neg e2,if_neg e2]
      ·have hg:=(ow.block g1 ⟨_,rfl,rfl⟩).1;exact((bl.setCell hg _).setCell hg _).drew
     generalize (O i:Int)=x at cI nN;generalize (O b:Int)=y at cJ cU nN;clear ek hB ow ow1 ow2 sN xB q1 q3 q4 bl hS
     go_wp2_with fail
     go_region
     generalize ((wr.setCell ⟨g1,i,none⟩ (.int .i64 y)).setCell ⟨g1,b,none⟩ (.int .i64 x)).drew=wrs at nN ⊢;clear cI cJ fI fJ cU
     go_wp2_with fail
     go_roundg (go-1)
     case measure=>have:=hiA.out;have:=goA.out;have:=hltA.out;omega
     case rel=>exact⟨i+1,swpF O i b,by have:=hiA.out;have:=goA.out;have:=hltA.out;omega,rfl,nN⟩
  ·have hlt':¬(i:Int)<(n:Int):=by omega
   have ei:i=n:=by omega
   rw[ei]at hS;clear hlt ei hin hiA
   go_wp2_with fail
   go_ret
   obtain⟨sl,ow,bl⟩:=hS.out;have hBw:w.heap.size≤Bs:=by have:=b1A.out.size;have:=BsA.out;omega
   exact⟨_,cap1,rfl,(ow.congr fun j hj=>by rw[sl.done j hj]).lower hBw,b1A.out.trans ⟨bl.os,bl.tape,bl.output,bl.size,fun k hk=>bl.block k (by omega)⟩⟩
end
end Go.Proofs.YtnnmdkaoiofabaaGreat.Sr
