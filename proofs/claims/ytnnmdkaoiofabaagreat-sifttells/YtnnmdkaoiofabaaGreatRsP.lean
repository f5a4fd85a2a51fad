/-
  The library's partitions of a part of a row.
-/
import Derived.Test.YtnnmdkaoiofabaaGreatRsA
import Derived.Deep.CutRange
namespace Go.Proofs.YtnnmdkaoiofabaaGreat.Rs
open Go Go.RowKit
structure Pt (a b i j:Nat) (d D:Array Int) (p:Int) (q:Int→Bool):Prop where
 perm:Pm a b d D
 pa:D[a]! = p
 lo:∀k,a<k→k<i→q D[k]! = true
 hi:∀k,j<k→k<b→q D[k]! = false
 ai:a<i
 ij:i≤j+1
 jb:j<b
section
variable {a b i j:Nat}{d D:Array Int}{p:Int}{q:Int→Bool}
theorem Pt.up (h:Pt a b i j d D p q) (h1:i≤j) (h2:q D[i]! = true):Pt a b (i+1) j d D p q:=
 ⟨h.perm,h.pa,fun k k1 k2=>(Nat.lt_or_ge k i).elim (fun e=>h.lo k k1 e) (fun e=>by rw[show k=i by omega];exact h2),h.hi,by have:=h.ai;omega,by omega,h.jb⟩
theorem Pt.down (h:Pt a b i j d D p q) (h1:i≤j) (h2:q D[j]! = false):Pt a b i (j-1) d D p q:=
 ⟨h.perm,h.pa,h.lo,fun k k1 k2=>(Nat.lt_or_ge j k).elim (fun e=>h.hi k e k2) (fun e=>by rw[show k=j by omega];exact h2),h.ai,by have:=h.ai;omega,by have:=h.jb;omega⟩
theorem Pt.swap (h:Pt a b i j d D p q) (hb:b≤D.size) (h1:i≤j) (h2:q D[i]! = false) (h3:q D[j]! = true):Pt a b (i+1) (j-1) d (Sort.swp D i j) p q:=by
 have hne:i≠j:=fun e=>by rw[e,h3]at h2;cases h2
 have h4:=h.ai;have h5:=h.jb;have hi:i<D.size:=by omega
 have hj:j<D.size:=by omega
 refine⟨h.perm.swp (by omega) (by omega) (by omega) (by omega) hb,?_,?_,?_,by omega,by omega,by omega⟩
 ·rw[Sort.swp_other D i j a (by omega) (by omega)];exact h.pa
 ·intro k k1 k2;by_cases e:k=i
  ·rw[e,Sort.swp_left D i j hi hne];exact h3
  ·rw[Sort.swp_other D i j k e (by omega)];exact h.lo k k1 (by omega)
 ·intro k k1 k2;by_cases e:k=j
  ·rw[e,Sort.swp_right D i j hj];exact h2
  ·rw[Sort.swp_other D i j k (by omega) e];exact h.hi k (by omega) k2
end
structure Parted (a b m:Nat) (d D:Array Int):Prop where
 perm:Pm a b d D
 am:a≤m
 mb:m<b
 lo:∀k,a≤k→k<m→lt D[k]! D[m]! = true
 hi:∀k,m<k→k<b→lt D[k]! D[m]! = false
theorem Pt.fin {a b i j:Nat}{d D:Array Int}{p:Int}{q:Int→Bool}(hq:∀x,q x=lt x p) (h:Pt a b i j d D p q) (hb:b≤D.size) (h1:¬i≤j):Parted a b j d (Sort.swp D j a):=by
 have h4:=h.ai;have h5:=h.jb;have h6:=h.ij;have hj:j<D.size:=by omega
 have hpj:(Sort.swp D j a)[j]! = p:=by
  by_cases e:j=a
  ·rw[e,Sort.swp_right D a a (by omega)];exact h.pa
  ·rw[Sort.swp_left D j a hj e];exact h.pa
 refine⟨h.perm.swp (by omega) (by omega) (by omega) (by omega) hb,by omega,h5,?_,?_⟩
 ·intro k k1 k2;rw[hpj];by_cases e:k=a
  ·rw[e,Sort.swp_right D j a (by omega),← hq];exact h.lo j (by omega) (by omega)
  ·rw[Sort.swp_other D j a k (by omega) e,← hq];exact h.lo k (by omega) (by omega)
 ·intro k k1 k2;rw[hpj,Sort.swp_other D j a k (by omega) (by omega),← hq];exact h.hi k k1 k2
structure Even (a b m:Nat) (p:Int) (d D:Array Int):Prop where
 perm:Pm a b d D
 am:a<m
 mb:m≤b
 lo:∀k,a≤k→k<m→lt p D[k]! = false
 hi:∀k,m≤k→k<b→lt p D[k]! = true
theorem Pt.even {a b i j:Nat}{d D:Array Int}{p:Int}{q:Int→Bool}(hq:∀x,q x = !lt p x) (h:Pt a b i j d D p q) (h1:¬i≤j):Even a b i p d D:=by
 have h4:=h.ai;have h5:=h.jb;have h6:=h.ij;refine⟨h.perm,h4,by omega,?_,?_⟩
 ·intro k k1 k2;by_cases e:k=a
  ·rw[e,h.pa];exact Sort.swo_ltInt.irrefl p
  ·have:=h.lo k (by omega) k2;rw[hq]at this;simpa using this
 ·intro k k1 k2;have:=h.hi k (by omega) k2;rw[hq]at this;simpa using this
theorem Pt.start (a b x:Nat) (d:Array Int) (q:Int→Bool) (h1:a≤x) (h2:x<b) (h3:b≤d.size):Pt a b (a+1) (b-1) d (Sort.swp d a x) d[x]! q:=by
 refine⟨(Pm.refl a b d).swp (by omega) (by omega) h1 h2 h3,?_,fun k k1 k2=>by omega,fun k k1 k2=>by omega,by omega,by omega,by omega⟩;by_cases e:a=x
 ·rw[e,Sort.swp_right d x x (by omega)]
 ·rw[Sort.swp_left d a x (by omega) e]
set_option maxHeartbeats 16000000 in
set_option maxRecDepth 100000 in
theorem part_any {w0 w:World}{blk cap n:Nat}{U:Nat→Value}{d:Array Int}(h:Rw w0 blk cap U d w) (hn:d.size=n) (hsz:n<4611686018427387904) (a b piv:Nat) (hap:a≤piv) (hpb:piv<b) (hb:b≤n) :
  Calls Tryz.prog 135 #[.slice (some ⟨blk,0,none⟩) n cap,.int .i64 (a:Int),.int .i64 (b:Int),.int .i64 (piv:Int)] w fun e w'=>∃(m:Nat) (t:Bool) (D:Array Int),e = .returned (.tuple #[.int .i64 (m:Int),.bool t])∧Parted a b m d D∧Rw w0 blk cap U D w':=by
 have hs0:Aside (d.size=n):=hn;have hP0:Aside (Pt a b (a+1) (b-1) d (Sort.swp d a piv) d[piv]! (fun x=>lt x d[piv]!)):=Pt.start a b piv d _ hap hpb (by omega);have hR:=h;clear h hn;go_enter Tryz.func135,Tryz.ntmps135
 go_wp2_with fail
 have bI:(a:Int)<(n:Int):=by omega
 have bJ:(piv:Int)<(n:Int):=by omega
 have cI:=hR.cell (i:=a) (by have:=hs0.out;omega);have cJ:=hR.cell (i:=piv) (by have:=hs0.out;omega);have fI:=hR.free a;have fJ:=hR.free piv;have hRs:=(hR.swp a piv (by have:=hs0.out;omega) (by have:=hs0.out;omega)).drew;obtain⟨u,cU⟩:=hR.cell2 a piv (by have:=hs0.out;omega) (by have:=hs0.out;omega) d[piv]!;generalize d[a]! = x at cI hRs;generalize d[piv]! = y at cJ cU hRs
 go_wp2_with fail
 go_region
 generalize ((w.setCell ⟨blk,a,none⟩ (.int .u32 y)).setCell ⟨blk,piv,none⟩ (.int .u32 x)).drew=ws at hRs ⊢;clear cI cJ fI fJ cU hR;obtain⟨p,hpd⟩:∃p,p=d[piv]!:=⟨_,rfl⟩
 obtain⟨q,hqd⟩:∃q:Int→Bool,q=fun x=>lt x p:=⟨_,rfl⟩
 have hQ:Aside (∀x,q x=lt x p):=fun x=>by rw[hqd]
 rw[← hpd,← hqd]at hP0;have hs1:Aside ((Sort.swp d a piv).size=n):=by rw[size_swp];exact hs0.out
 generalize Sort.swp d a piv=D at hP0 hs1 hRs;obtain⟨i,hi⟩:∃i:Nat,(a:Int)+1=(i:Int):=⟨a+1,by omega⟩
 obtain⟨j,hj⟩:∃j:Nat,(b:Int)-1=(j:Int):=⟨b-1,by omega⟩
 have hP:Aside (Pt a b i j d D p q):=by rw[show i=a+1 by omega,show j=b-1 by omega];exact hP0
 have hs:=hs1;have hR:=hRs;have hb0:Aside (b≤n):=hb;clear hP0 hs1 hRs hpd hqd
 go_wp2
 clear hi hj;go_loopg [10] (j+1) (fun g s wr=>∃(i:Nat),s = .int .i64 (i:Int)∧j+1-i≤g∧Aside (Pt a b i j d D p q)∧Rw w0 blk cap U D wr)
 case atStart=>exact⟨i,rfl,by omega,hP,hR⟩
 case round =>
  clear hR hP;obtain⟨i,rfl,hg,hP,hR⟩:=hrel;have hjb:=hP.out.jb;have hai:=hP.out.ai;have hij:=hP.out.ij;have hp:Aside (p=D[a]!):=hP.out.pa.symm;go_upto_region 3 with fail
  go_cut [43]from 30 to 43 (fun sb w=>∃b:Bool,sb = .bool b∧Aside (b=true↔(i≤j∧q D[i]! = true))∧Rw w0 blk cap U D w)
  case first =>
   by_cases hle:i≤j
   ·have hd:decide ((i:Int)≤(j:Int))=true:=decide_eq_true (by omega);have hdz:(i:Int)≤(j:Int):=by omega
    have bI:(i:Int)<(n:Int):=by omega
    have bJ:(a:Int)<(n:Int):=by omega
    have cI:=hR.cell (i:=i) (by have:=hs.out;omega);have cJ:=hR.cell (i:=a) (by have:=hs.out;omega);obtain⟨x,hx⟩:∃x,x=D[i]!:=⟨_,rfl⟩
    obtain⟨y,hy⟩:∃y,y=D[a]!:=⟨_,rfl⟩
    have hxA:Aside (x=D[i]!):=hx;have hyA:Aside (y=D[a]!):=hy;rw[← hx]at cI;rw[← hy]at cJ;have K:=fun w=>less_any x y w
    clear hx hy;cases hl:lt x y with
    | true =>
     rw[show Sort.ltInt x y=true from hl]at K;have hlA:Aside (lt D[i]! D[a]! = true):=by rw[← hxA.out,← hyA.out];exact hl
     clear hl hxA hyA
     go_wp2_with fail
     go_quiet (first | (go_at_call 133;exact Calls.quiet_of_same (K _)))
     have hRq:=hR.drewN nq;generalize wr.drewN nq=wrq at hRq ⊢;clear nq cI cJ K hR
     go_wp2_with fail
     go_meet
     case rel=>exact⟨_,rfl,(show Aside _ from⟨fun _=>⟨hle,(by rw[hQ.out,hp.out];simp[hlA.out])⟩,fun _=>rfl⟩),hRq⟩
    | false =>
     rw[show Sort.ltInt x y=false from hl]at K;have hlA:Aside (lt D[i]! D[a]! = false):=by rw[← hxA.out,← hyA.out];exact hl
     clear hl hxA hyA
     go_wp2_with fail
     go_quiet (first | (go_at_call 133;exact Calls.quiet_of_same (K _)))
     have hRq:=hR.drewN nq;generalize wr.drewN nq=wrq at hRq ⊢;clear nq cI cJ K hR
     go_wp2_with fail
     go_meet
     case rel=>exact⟨_,rfl,(show Aside _ from⟨fun e=>(by cases e),fun e=>absurd e.2 (by rw[hQ.out,hp.out];simp[hlA.out])⟩),hRq⟩
   ·have hd:decide ((i:Int)≤(j:Int))=false:=decide_eq_false (by omega);have hdz:¬(i:Int)≤(j:Int):=by omega
    go_wp2_with fail
    go_region
    go_wp2_with fail
    go_meet
    case rel=>exact⟨_,rfl,(show Aside _ from⟨fun e=>(by cases e),fun e=>absurd e.1 hle⟩),hR.drew⟩
  case rest =>
   clear hR;obtain⟨bb,rfl,hb,hR⟩:=hcut;cases bb with
   | true =>
    have hb1:=hb.out.1 rfl
    go_wp2
    go_roundg (j+1-(i+1))
    case measure=>have:=hb1.1;omega
    case rel=>exact⟨i+1,by go_num,Nat.le_refl _,hP.out.up hb1.1 hb1.2,hR⟩
   | false =>
    have hup:Aside (i≤j→q D[i]! = false):=fun e=>(by cases hh:q D[i]! with|false=>rfl|true=>exact absurd (hb.out.2 ⟨e,hh⟩) (by simp))
    clear hb hg
    go_wp2
    go_loopg [11] (j+1) (fun g s wr=>∃(j:Nat),s = .int .i64 (j:Int)∧j+1≤g∧Aside (Pt a b i j d D p q)∧Aside (i≤j→q D[i]! = false)∧Rw w0 blk cap U D wr)
    case atStart=>exact⟨j,rfl,Nat.le_refl _,hP,hup,hR⟩
    case round =>
     clear hR hP hup hij hjb hai hp;obtain⟨j,rfl,hg,hP,hup,hR⟩:=hrel;have hjb:=hP.out.jb;have hai:=hP.out.ai;have hij:=hP.out.ij;have hp:Aside (p=D[a]!):=hP.out.pa.symm;go_upto_region 5 with fail
     go_cut [60]from 46 to 60 (fun sb w=>∃b:Bool,sb = .bool b∧Aside (b=true↔(i≤j∧q D[j]! = false))∧Rw w0 blk cap U D w)
     case first =>
      by_cases hle:i≤j
      ·have hd:decide ((i:Int)≤(j:Int))=true:=decide_eq_true (by omega);have hdz:(i:Int)≤(j:Int):=by omega
       have bI:(j:Int)<(n:Int):=by omega
       have bJ:(a:Int)<(n:Int):=by omega
       have cI:=hR.cell (i:=j) (by have:=hs.out;omega);have cJ:=hR.cell (i:=a) (by have:=hs.out;omega);obtain⟨x,hx⟩:∃x,x=D[j]!:=⟨_,rfl⟩
       obtain⟨y,hy⟩:∃y,y=D[a]!:=⟨_,rfl⟩
       have hxA:Aside (x=D[j]!):=hx;have hyA:Aside (y=D[a]!):=hy;rw[← hx]at cI;rw[← hy]at cJ;have K:=fun w=>less_any x y w
       clear hx hy;cases hl:lt x y with
       | true =>
        rw[show Sort.ltInt x y=true from hl]at K;have hlA:Aside (lt D[j]! D[a]! = true):=by rw[← hxA.out,← hyA.out];exact hl
        clear hl hxA hyA
        go_wp2_with fail
        go_quiet (first | (go_at_call 133;exact Calls.quiet_of_same (K _)))
        have hRq:=hR.drewN nq;generalize wr.drewN nq=wrq at hRq ⊢;clear nq cI cJ K hR
        go_wp2_with fail
        go_meet
        case rel=>exact⟨_,rfl,(show Aside _ from⟨fun e=>(by cases e),fun e=>absurd e.2 (by rw[hQ.out,hp.out];simp[hlA.out])⟩),hRq⟩
       | false =>
        rw[show Sort.ltInt x y=false from hl]at K;have hlA:Aside (lt D[j]! D[a]! = false):=by rw[← hxA.out,← hyA.out];exact hl
        clear hl hxA hyA
        go_wp2_with fail
        go_quiet (first | (go_at_call 133;exact Calls.quiet_of_same (K _)))
        have hRq:=hR.drewN nq;generalize wr.drewN nq=wrq at hRq ⊢;clear nq cI cJ K hR
        go_wp2_with fail
        go_meet
        case rel=>exact⟨_,rfl,(show Aside _ from⟨fun _=>⟨hle,(by rw[hQ.out,hp.out];simp[hlA.out])⟩,fun _=>rfl⟩),hRq⟩
      ·have hd:decide ((i:Int)≤(j:Int))=false:=decide_eq_false (by omega);have hdz:¬(i:Int)≤(j:Int):=by omega
       go_wp2_with fail
       go_region
       go_wp2_with fail
       go_meet
       case rel=>exact⟨_,rfl,(show Aside _ from⟨fun e=>(by cases e),fun e=>absurd e.1 hle⟩),hR.drew⟩
     case rest =>
      clear hR;obtain⟨bb,rfl,hb,hR⟩:=hcut;cases bb with
      | true =>
       have hb1:=hb.out.1 rfl
       go_wp2
       go_roundg (j-1+1)
       case measure=>have:=hb1.1;omega
       case rel=>exact⟨j-1,by go_num,Nat.le_refl _,hP.out.down hb1.1 hb1.2,(show Aside _ from fun e=>hup.out (by omega)),hR⟩
      | false =>
       have hdn:Aside (i≤j→q D[j]! = true):=fun e=>(by cases hh:q D[j]! with|true=>rfl|false=>exact absurd (hb.out.2 ⟨e,hh⟩) (by simp))
       clear hb hg;by_cases hlt:i≤j
       ·have hlz:¬(j:Int)<(i:Int):=by omega
        have hPs0:=hP.out.swap (by have:=hs.out;have:=hb0.out;omega) hlt (hup.out hlt) (hdn.out hlt)
        go_wp2_with fail
        have bI1:(i:Int)<(n:Int):=by omega
        have bJ1:(j:Int)<(n:Int):=by omega
        have cI1:=hR.cell (i:=i) (by have:=hs.out;omega);have cJ1:=hR.cell (i:=j) (by have:=hs.out;omega);have fI1:=hR.free i;have fJ1:=hR.free j;have hRs:=(hR.swp i j (by have:=hs.out;omega) (by have:=hs.out;omega)).drew;obtain⟨u1,cU1⟩:=hR.cell2 i j (by have:=hs.out;omega) (by have:=hs.out;omega) D[j]!;generalize D[i]! = x1 at cI1 hRs;generalize D[j]! = y1 at cJ1 cU1 hRs
        go_wp2_with fail
        go_region
        generalize ((wc.setCell ⟨blk,i,none⟩ (.int .u32 y1)).setCell ⟨blk,j,none⟩ (.int .u32 x1)).drew=wcs at hRs ⊢;clear cI1 cJ1 fI1 fJ1 cU1 hR;have hss:Aside ((Sort.swp D i j).size=n):=by rw[size_swp];exact hs.out
        have hPs:Aside (Pt a b (i+1) (j-1) d (Sort.swp D i j) p q):=hPs0;clear hPs0;generalize Sort.swp D i j=D1 at hPs hss hRs
        go_wp2
        go_loopg [10,11] (j+1) (fun g s1 s2 wr=>∃(i j:Nat) (D:Array Int),s1 = .int .i64 (i:Int)∧s2 = .int .i64 (j:Int)∧j+1-i≤g∧Aside (D.size=n)∧Aside (Pt a b i j d D p q)∧Rw w0 blk cap U D wr)
        case atStart=>exact⟨i+1,j-1,D1,by go_num,by go_num,by omega,hss,hPs,hRs⟩
        case round =>
         clear hRs hPs hss hs hP hup hdn hij hjb hai hp hlt hlz;obtain⟨i,j,D,rfl,rfl,hg0,hs,hP,hR⟩:=hrel;obtain⟨go,hgo⟩:∃go,go=gk:=⟨_,rfl⟩
         have hgA:Aside (j+1-i≤go):=(by omega:j+1-i≤go)
         obtain⟨j0,hj0⟩:∃j0,j0=j:=⟨_,rfl⟩
         have hiA:Aside (go=gk):=hgo;clear hg0 hgo
         go_wp2
         go_loopg [10] (j+1) (fun g s wr=>∃(i:Nat),s = .int .i64 (i:Int)∧j+1-i≤g∧Aside (j+1-i≤go)∧Aside (Pt a b i j d D p q)∧Rw w0 blk cap U D wr)
         case atStart=>exact⟨i,rfl,by omega,hgA,hP,hR⟩
         case round =>
          clear hR hP hgA;obtain⟨i,rfl,hg,hgA,hP,hR⟩:=hrel;have hjb:=hP.out.jb;have hai:=hP.out.ai;have hij:=hP.out.ij;have hp:Aside (p=D[a]!):=hP.out.pa.symm;go_upto_region 13 with fail
          go_cut [112]from 99 to 112 (fun sb w=>∃b:Bool,sb = .bool b∧Aside (b=true↔(i≤j∧q D[i]! = true))∧Rw w0 blk cap U D w)
          case first =>
           by_cases hle:i≤j
           ·have hd:decide ((i:Int)≤(j:Int))=true:=decide_eq_true (by omega);have hdz:(i:Int)≤(j:Int):=by omega
            have bI:(i:Int)<(n:Int):=by omega
            have bJ:(a:Int)<(n:Int):=by omega
            have cI:=hR.cell (i:=i) (by have:=hs.out;omega);have cJ:=hR.cell (i:=a) (by have:=hs.out;omega);obtain⟨x,hx⟩:∃x,x=D[i]!:=⟨_,rfl⟩
            obtain⟨y,hy⟩:∃y,y=D[a]!:=⟨_,rfl⟩
            have hxA:Aside (x=D[i]!):=hx;have hyA:Aside (y=D[a]!):=hy;rw[← hx]at cI;rw[← hy]at cJ;have K:=fun w=>less_any x y w
            clear hx hy;cases hl:lt x y with
            | true =>
             rw[show Sort.ltInt x y=true from hl]at K;have hlA:Aside (lt D[i]! D[a]! = true):=by rw[← hxA.out,← hyA.out];exact hl
             clear hl hxA hyA
             go_wp2_with fail
             go_quiet (first | (go_at_call 133;exact Calls.quiet_of_same (K _)))
             have hRq:=hR.drewN nq;generalize wr.drewN nq=wrq at hRq ⊢;clear nq cI cJ K hR
             go_wp2_with fail
             go_meet
             case rel=>exact⟨_,rfl,(show Aside _ from⟨fun _=>⟨hle,(by rw[hQ.out,hp.out];simp[hlA.out])⟩,fun _=>rfl⟩),hRq⟩
            | false =>
             rw[show Sort.ltInt x y=false from hl]at K;have hlA:Aside (lt D[i]! D[a]! = false):=by rw[← hxA.out,← hyA.out];exact hl
             clear hl hxA hyA
             go_wp2_with fail
             go_quiet (first | (go_at_call 133;exact Calls.quiet_of_same (K _)))
             have hRq:=hR.drewN nq;generalize wr.drewN nq=wrq at hRq ⊢;clear nq cI cJ K hR
             go_wp2_with fail
             go_meet
             case rel=>exact⟨_,rfl,(show Aside _ from⟨fun e=>(by cases e),fun e=>absurd e.2 (by rw[hQ.out,hp.out];simp[hlA.out])⟩),hRq⟩
           ·have hd:decide ((i:Int)≤(j:Int))=false:=decide_eq_false (by omega);have hdz:¬(i:Int)≤(j:Int):=by omega
            go_wp2_with fail
            go_region
            go_wp2_with fail
            go_meet
            case rel=>exact⟨_,rfl,(show Aside _ from⟨fun e=>(by cases e),fun e=>absurd e.1 hle⟩),hR.drew⟩
          case rest =>
           clear hR;obtain⟨bb,rfl,hb,hR⟩:=hcut;cases bb with
           | true =>
            have hb1:=hb.out.1 rfl
            go_wp2
            go_roundg (j+1-(i+1))
            case measure=>have:=hb1.1;omega
            case rel=>exact⟨i+1,by go_num,Nat.le_refl _,(show Aside _ from by have:=hgA.out;simp only[Aside];omega),hP.out.up hb1.1 hb1.2,hR⟩
           | false =>
            have hup:Aside (i≤j→q D[i]! = false):=fun e=>(by cases hh:q D[i]! with|false=>rfl|true=>exact absurd (hb.out.2 ⟨e,hh⟩) (by simp))
            clear hb hg
            go_wp2
            go_loopg [11] (j+1) (fun g s wr=>∃(j:Nat),s = .int .i64 (j:Int)∧j+1≤g∧Aside (j+1-i≤go)∧Aside (Pt a b i j d D p q)∧Aside (i≤j→q D[i]! = false)∧Rw w0 blk cap U D wr)
            case atStart=>exact⟨j,rfl,Nat.le_refl _,hgA,hP,hup,hR⟩
            case round =>
             clear hR hP hup hij hjb hai hp hgA;obtain⟨j,rfl,hg,hgA,hP,hup,hR⟩:=hrel;have hjb:=hP.out.jb;have hai:=hP.out.ai;have hij:=hP.out.ij;have hp:Aside (p=D[a]!):=hP.out.pa.symm;go_upto_region 15 with fail
             go_cut [129]from 115 to 129 (fun sb w=>∃b:Bool,sb = .bool b∧Aside (b=true↔(i≤j∧q D[j]! = false))∧Rw w0 blk cap U D w)
             case first =>
              by_cases hle:i≤j
              ·have hd:decide ((i:Int)≤(j:Int))=true:=decide_eq_true (by omega);have hdz:(i:Int)≤(j:Int):=by omega
               have bI:(j:Int)<(n:Int):=by omega
               have bJ:(a:Int)<(n:Int):=by omega
               have cI:=hR.cell (i:=j) (by have:=hs.out;omega);have cJ:=hR.cell (i:=a) (by have:=hs.out;omega);obtain⟨x,hx⟩:∃x,x=D[j]!:=⟨_,rfl⟩
               obtain⟨y,hy⟩:∃y,y=D[a]!:=⟨_,rfl⟩
               have hxA:Aside (x=D[j]!):=hx;have hyA:Aside (y=D[a]!):=hy;rw[← hx]at cI;rw[← hy]at cJ;have K:=fun w=>less_any x y w
               clear hx hy;cases hl:lt x y with
               | true =>
                rw[show Sort.ltInt x y=true from hl]at K;have hlA:Aside (lt D[j]! D[a]! = true):=by rw[← hxA.out,← hyA.out];exact hl
                clear hl hxA hyA
                go_wp2_with fail
                go_quiet (first | (go_at_call 133;exact Calls.quiet_of_same (K _)))
                have hRq:=hR.drewN nq;generalize wr.drewN nq=wrq at hRq ⊢;clear nq cI cJ K hR
                go_wp2_with fail
                go_meet
                case rel=>exact⟨_,rfl,(show Aside _ from⟨fun e=>(by cases e),fun e=>absurd e.2 (by rw[hQ.out,hp.out];simp[hlA.out])⟩),hRq⟩
               | false =>
                rw[show Sort.ltInt x y=false from hl]at K;have hlA:Aside (lt D[j]! D[a]! = false):=by rw[← hxA.out,← hyA.out];exact hl
                clear hl hxA hyA
                go_wp2_with fail
                go_quiet (first | (go_at_call 133;exact Calls.quiet_of_same (K _)))
                have hRq:=hR.drewN nq;generalize wr.drewN nq=wrq at hRq ⊢;clear nq cI cJ K hR
                go_wp2_with fail
                go_meet
                case rel=>exact⟨_,rfl,(show Aside _ from⟨fun _=>⟨hle,(by rw[hQ.out,hp.out];simp[hlA.out])⟩,fun _=>rfl⟩),hRq⟩
              ·have hd:decide ((i:Int)≤(j:Int))=false:=decide_eq_false (by omega);have hdz:¬(i:Int)≤(j:Int):=by omega
               go_wp2_with fail
               go_region
               go_wp2_with fail
               go_meet
               case rel=>exact⟨_,rfl,(show Aside _ from⟨fun e=>(by cases e),fun e=>absurd e.1 hle⟩),hR.drew⟩
             case rest =>
              clear hR;obtain⟨bb,rfl,hb,hR⟩:=hcut;cases bb with
              | true =>
               have hb1:=hb.out.1 rfl
               go_wp2
               go_roundg (j-1+1)
               case measure=>have:=hb1.1;omega
               case rel=>exact⟨j-1,by go_num,Nat.le_refl _,(show Aside _ from by have:=hgA.out;simp only[Aside];omega),hP.out.down hb1.1 hb1.2,(show Aside _ from fun e=>hup.out (by omega)),hR⟩
              | false =>
               have hdn:Aside (i≤j→q D[j]! = true):=fun e=>(by cases hh:q D[j]! with|true=>rfl|false=>exact absurd (hb.out.2 ⟨e,hh⟩) (by simp))
               clear hb hg;by_cases hlt:i≤j
               ·have hlz:¬(j:Int)<(i:Int):=by omega
                have hPs:=hP.out.swap (by have:=hs.out;have:=hb0.out;omega) hlt (hup.out hlt) (hdn.out hlt)
                go_wp2_with fail
                have bI2:(i:Int)<(n:Int):=by omega
                have bJ2:(j:Int)<(n:Int):=by omega
                have cI2:=hR.cell (i:=i) (by have:=hs.out;omega);have cJ2:=hR.cell (i:=j) (by have:=hs.out;omega);have fI2:=hR.free i;have fJ2:=hR.free j;have hRs:=(hR.swp i j (by have:=hs.out;omega) (by have:=hs.out;omega)).drew;obtain⟨u2,cU2⟩:=hR.cell2 i j (by have:=hs.out;omega) (by have:=hs.out;omega) D[j]!;generalize D[i]! = x2 at cI2 hRs;generalize D[j]! = y2 at cJ2 cU2 hRs
                go_wp2_with fail
                go_region
                generalize ((wc.setCell ⟨blk,i,none⟩ (.int .u32 y2)).setCell ⟨blk,j,none⟩ (.int .u32 x2)).drew=wcs at hRs ⊢;clear cI2 cJ2 fI2 fJ2 cU2 hR
                go_wp2
                go_roundg (j-1+1-(i+1))
                case measure=>have:=hgA.out;have:=hiA.out;omega
                case rel=>exact⟨i+1,j-1,_,by go_num,by go_num,Nat.le_refl _,(show Aside _ from by rw[size_swp];exact hs.out),hPs,hRs⟩
               ·have hlz:(j:Int)<(i:Int):=by omega
                have hF:=hP.out.fin hQ.out (by have:=hs.out;have:=hb0.out;omega) hlt
                go_wp2_with fail
                have bI2:(j:Int)<(n:Int):=by omega
                have bJ2:(a:Int)<(n:Int):=by omega
                have cI2:=hR.cell (i:=j) (by have:=hs.out;omega);have cJ2:=hR.cell (i:=a) (by have:=hs.out;omega);have fI2:=hR.free j;have fJ2:=hR.free a;have hRs:=(hR.swp j a (by have:=hs.out;omega) (by have:=hs.out;omega)).drew;obtain⟨u2,cU2⟩:=hR.cell2 j a (by have:=hs.out;omega) (by have:=hs.out;omega) D[a]!;generalize D[j]! = x2 at cI2 hRs;generalize D[a]! = y2 at cJ2 cU2 hRs
                go_wp2_with fail
                go_region
                generalize ((wc.setCell ⟨blk,j,none⟩ (.int .u32 y2)).setCell ⟨blk,a,none⟩ (.int .u32 x2)).drew=wcs at hRs ⊢;clear cI2 cJ2 fI2 fJ2 cU2 hR
                go_wp2
                go_ret2
                exact⟨j,false,_,rfl,hF,hRs⟩
       ·have hlz:(j:Int)<(i:Int):=by omega
        have hF:=hP.out.fin hQ.out (by have:=hs.out;have:=hb0.out;omega) hlt
        go_wp2_with fail
        have bI1:(j:Int)<(n:Int):=by omega
        have bJ1:(a:Int)<(n:Int):=by omega
        have cI1:=hR.cell (i:=j) (by have:=hs.out;omega);have cJ1:=hR.cell (i:=a) (by have:=hs.out;omega);have fI1:=hR.free j;have fJ1:=hR.free a;have hRs:=(hR.swp j a (by have:=hs.out;omega) (by have:=hs.out;omega)).drew;obtain⟨u1,cU1⟩:=hR.cell2 j a (by have:=hs.out;omega) (by have:=hs.out;omega) D[a]!;generalize D[j]! = x1 at cI1 hRs;generalize D[a]! = y1 at cJ1 cU1 hRs
        go_wp2_with fail
        go_region
        generalize ((wc.setCell ⟨blk,j,none⟩ (.int .u32 y1)).setCell ⟨blk,a,none⟩ (.int .u32 x1)).drew=wcs at hRs ⊢;clear cI1 cJ1 fI1 fJ1 cU1 hR
        go_wp2
        go_ret2
        exact⟨j,true,_,rfl,hF,hRs⟩
set_option maxHeartbeats 16000000 in
set_option maxRecDepth 100000 in
theorem parteq_any {w0 w:World}{blk cap n:Nat}{U:Nat→Value}{d:Array Int}(h:Rw w0 blk cap U d w) (hn:d.size=n) (hsz:n<4611686018427387904) (a b piv:Nat) (hap:a≤piv) (hpb:piv<b) (hb:b≤n) :
  Calls Tryz.prog 134 #[.slice (some ⟨blk,0,none⟩) n cap,.int .i64 (a:Int),.int .i64 (b:Int),.int .i64 (piv:Int)] w fun e w'=>∃(m:Nat) (D:Array Int),e = .returned (.int .i64 (m:Int))∧Even a b m d[piv]! d D∧Rw w0 blk cap U D w':=by
 have hs0:Aside (d.size=n):=hn;have hP0:Aside (Pt a b (a+1) (b-1) d (Sort.swp d a piv) d[piv]! (fun x=>!lt d[piv]! x)):=Pt.start a b piv d _ hap hpb (by omega);have hR:=h;clear h hn;go_enter Tryz.func134,Tryz.ntmps134
 go_wp2_with fail
 have bI:(a:Int)<(n:Int):=by omega
 have bJ:(piv:Int)<(n:Int):=by omega
 have cI:=hR.cell (i:=a) (by have:=hs0.out;omega);have cJ:=hR.cell (i:=piv) (by have:=hs0.out;omega);have fI:=hR.free a;have fJ:=hR.free piv;have hRs:=(hR.swp a piv (by have:=hs0.out;omega) (by have:=hs0.out;omega)).drew;obtain⟨u,cU⟩:=hR.cell2 a piv (by have:=hs0.out;omega) (by have:=hs0.out;omega) d[piv]!;generalize d[a]! = x at cI hRs;generalize d[piv]! = y at cJ cU hRs
 go_wp2_with fail
 go_region
 generalize ((w.setCell ⟨blk,a,none⟩ (.int .u32 y)).setCell ⟨blk,piv,none⟩ (.int .u32 x)).drew=ws at hRs ⊢;clear cI cJ fI fJ cU hR;obtain⟨p,hpd⟩:∃p,p=d[piv]!:=⟨_,rfl⟩
 obtain⟨q,hqd⟩:∃q:Int→Bool,q=fun x=>!lt p x:=⟨_,rfl⟩
 have hQ:Aside (∀x,q x = !lt p x):=fun x=>by rw[hqd]
 rw[← hpd,← hqd]at hP0;have hpA:Aside (p=d[piv]!):=hpd;have hs1:Aside ((Sort.swp d a piv).size=n):=by rw[size_swp];exact hs0.out
 generalize Sort.swp d a piv=D1 at hP0 hs1 hRs;have hb0:Aside (b≤n):=hb;clear hpd hqd
 go_wp2
 go_loopg [9,10] (b+1) (fun g s1 s2 wr=>∃(i j:Nat) (D:Array Int),s1 = .int .i64 (i:Int)∧s2 = .int .i64 (j:Int)∧j+1-i≤g∧Aside (D.size=n)∧Aside (Pt a b i j d D p q)∧Rw w0 blk cap U D wr)
 case atStart=>exact⟨a+1,b-1,D1,by go_num,by go_num,by omega,hs1,hP0,hRs⟩
 case round =>
  clear hRs hP0 hs1;obtain⟨i,j,D,rfl,rfl,hg0,hs,hP,hR⟩:=hrel;obtain⟨go,hgo⟩:∃go,go=gk:=⟨_,rfl⟩
  have hgA:Aside (j+1-i≤go):=(by omega:j+1-i≤go)
  have hiA:Aside (go=gk):=hgo;clear hg0 hgo
  go_wp2
  go_loopg [9] (j+1) (fun g s wr=>∃(i:Nat),s = .int .i64 (i:Int)∧j+1-i≤g∧Aside (j+1-i≤go)∧Aside (Pt a b i j d D p q)∧Rw w0 blk cap U D wr)
  case atStart=>exact⟨i,rfl,by omega,hgA,hP,hR⟩
  case round =>
   clear hR hP hgA;obtain⟨i,rfl,hg,hgA,hP,hR⟩:=hrel;have hjb:=hP.out.jb;have hai:=hP.out.ai;have hij:=hP.out.ij;have hp:Aside (p=D[a]!):=hP.out.pa.symm;go_upto_region 3 with fail
   go_cut [43]from 29 to 43 (fun sb w=>∃b:Bool,sb = .bool b∧Aside (b=true↔(i≤j∧q D[i]! = true))∧Rw w0 blk cap U D w)
   case first =>
    by_cases hle:i≤j
    ·have hd:decide ((i:Int)≤(j:Int))=true:=decide_eq_true (by omega);have hdz:(i:Int)≤(j:Int):=by omega
     have bI:(a:Int)<(n:Int):=by omega
     have bJ:(i:Int)<(n:Int):=by omega
     have cI:=hR.cell (i:=a) (by have:=hs.out;omega);have cJ:=hR.cell (i:=i) (by have:=hs.out;omega);obtain⟨x,hx⟩:∃x,x=D[a]!:=⟨_,rfl⟩
     obtain⟨y,hy⟩:∃y,y=D[i]!:=⟨_,rfl⟩
     have hxA:Aside (x=D[a]!):=hx;have hyA:Aside (y=D[i]!):=hy;rw[← hx]at cI;rw[← hy]at cJ;have K:=fun w=>less_any x y w
     clear hx hy;cases hl:lt x y with
     | true =>
      rw[show Sort.ltInt x y=true from hl]at K;have hlA:Aside (lt D[a]! D[i]! = true):=by rw[← hxA.out,← hyA.out];exact hl
      clear hl hxA hyA
      go_wp2_with fail
      go_quiet (first | (go_at_call 133;exact Calls.quiet_of_same (K _)))
      have hRq:=hR.drewN nq;generalize wr.drewN nq=wrq at hRq ⊢;clear nq cI cJ K hR
      go_wp2_with fail
      go_meet
      case rel=>exact⟨_,rfl,(show Aside _ from⟨fun e=>(by cases e),fun e=>absurd e.2 (by rw[hQ.out,hp.out];simp[hlA.out])⟩),hRq⟩
     | false =>
      rw[show Sort.ltInt x y=false from hl]at K;have hlA:Aside (lt D[a]! D[i]! = false):=by rw[← hxA.out,← hyA.out];exact hl
      clear hl hxA hyA
      go_wp2_with fail
      go_quiet (first | (go_at_call 133;exact Calls.quiet_of_same (K _)))
      have hRq:=hR.drewN nq;generalize wr.drewN nq=wrq at hRq ⊢;clear nq cI cJ K hR
      go_wp2_with fail
      go_meet
      case rel=>exact⟨_,rfl,(show Aside _ from⟨fun _=>⟨hle,(by rw[hQ.out,hp.out];simp[hlA.out])⟩,fun _=>rfl⟩),hRq⟩
    ·have hd:decide ((i:Int)≤(j:Int))=false:=decide_eq_false (by omega);have hdz:¬(i:Int)≤(j:Int):=by omega
     go_wp2_with fail
     go_region
     go_wp2_with fail
     go_meet
     case rel=>exact⟨_,rfl,(show Aside _ from⟨fun e=>(by cases e),fun e=>absurd e.1 hle⟩),hR.drew⟩
   case rest =>
    clear hR;obtain⟨bb,rfl,hb,hR⟩:=hcut;cases bb with
    | true =>
     have hb1:=hb.out.1 rfl
     go_wp2
     go_roundg (j+1-(i+1))
     case measure=>have:=hb1.1;omega
     case rel=>exact⟨i+1,by go_num,Nat.le_refl _,(show Aside _ from by have:=hgA.out;simp only[Aside];omega),hP.out.up hb1.1 hb1.2,hR⟩
    | false =>
     have hup:Aside (i≤j→q D[i]! = false):=fun e=>(by cases hh:q D[i]! with|false=>rfl|true=>exact absurd (hb.out.2 ⟨e,hh⟩) (by simp))
     clear hb hg
     go_wp2
     go_loopg [10] (j+1) (fun g s wr=>∃(j:Nat),s = .int .i64 (j:Int)∧j+1≤g∧Aside (j+1-i≤go)∧Aside (Pt a b i j d D p q)∧Aside (i≤j→q D[i]! = false)∧Rw w0 blk cap U D wr)
     case atStart=>exact⟨j,rfl,Nat.le_refl _,hgA,hP,hup,hR⟩
     case round =>
      clear hR hP hup hij hjb hai hp hgA;obtain⟨j,rfl,hg,hgA,hP,hup,hR⟩:=hrel;have hjb:=hP.out.jb;have hai:=hP.out.ai;have hij:=hP.out.ij;have hp:Aside (p=D[a]!):=hP.out.pa.symm;go_upto_region 5 with fail
      go_cut [59]from 46 to 59 (fun sb w=>∃b:Bool,sb = .bool b∧Aside (b=true↔(i≤j∧q D[j]! = false))∧Rw w0 blk cap U D w)
      case first =>
       by_cases hle:i≤j
       ·have hd:decide ((i:Int)≤(j:Int))=true:=decide_eq_true (by omega);have hdz:(i:Int)≤(j:Int):=by omega
        have bI:(a:Int)<(n:Int):=by omega
        have bJ:(j:Int)<(n:Int):=by omega
        have cI:=hR.cell (i:=a) (by have:=hs.out;omega);have cJ:=hR.cell (i:=j) (by have:=hs.out;omega);obtain⟨x,hx⟩:∃x,x=D[a]!:=⟨_,rfl⟩
        obtain⟨y,hy⟩:∃y,y=D[j]!:=⟨_,rfl⟩
        have hxA:Aside (x=D[a]!):=hx;have hyA:Aside (y=D[j]!):=hy;rw[← hx]at cI;rw[← hy]at cJ;have K:=fun w=>less_any x y w
        clear hx hy;cases hl:lt x y with
        | true =>
         rw[show Sort.ltInt x y=true from hl]at K;have hlA:Aside (lt D[a]! D[j]! = true):=by rw[← hxA.out,← hyA.out];exact hl
         clear hl hxA hyA
         go_wp2_with fail
         go_quiet (first | (go_at_call 133;exact Calls.quiet_of_same (K _)))
         have hRq:=hR.drewN nq;generalize wr.drewN nq=wrq at hRq ⊢;clear nq cI cJ K hR
         go_wp2_with fail
         go_meet
         case rel=>exact⟨_,rfl,(show Aside _ from⟨fun _=>⟨hle,(by rw[hQ.out,hp.out];simp[hlA.out])⟩,fun _=>rfl⟩),hRq⟩
        | false =>
         rw[show Sort.ltInt x y=false from hl]at K;have hlA:Aside (lt D[a]! D[j]! = false):=by rw[← hxA.out,← hyA.out];exact hl
         clear hl hxA hyA
         go_wp2_with fail
         go_quiet (first | (go_at_call 133;exact Calls.quiet_of_same (K _)))
         have hRq:=hR.drewN nq;generalize wr.drewN nq=wrq at hRq ⊢;clear nq cI cJ K hR
         go_wp2_with fail
         go_meet
         case rel=>exact⟨_,rfl,(show Aside _ from⟨fun e=>(by cases e),fun e=>absurd e.2 (by rw[hQ.out,hp.out];simp[hlA.out])⟩),hRq⟩
       ·have hd:decide ((i:Int)≤(j:Int))=false:=decide_eq_false (by omega);have hdz:¬(i:Int)≤(j:Int):=by omega
        go_wp2_with fail
        go_region
        go_wp2_with fail
        go_meet
        case rel=>exact⟨_,rfl,(show Aside _ from⟨fun e=>(by cases e),fun e=>absurd e.1 hle⟩),hR.drew⟩
      case rest =>
       clear hR;obtain⟨bb,rfl,hb,hR⟩:=hcut;cases bb with
       | true =>
        have hb1:=hb.out.1 rfl
        go_wp2
        go_roundg (j-1+1)
        case measure=>have:=hb1.1;omega
        case rel=>exact⟨j-1,by go_num,Nat.le_refl _,(show Aside _ from by have:=hgA.out;simp only[Aside];omega),hP.out.down hb1.1 hb1.2,(show Aside _ from fun e=>hup.out (by omega)),hR⟩
       | false =>
        have hdn:Aside (i≤j→q D[j]! = true):=fun e=>(by cases hh:q D[j]! with|true=>rfl|false=>exact absurd (hb.out.2 ⟨e,hh⟩) (by simp))
        clear hb hg;by_cases hlt:i≤j
        ·have hlz:¬(j:Int)<(i:Int):=by omega
         have hPs:=hP.out.swap (by have:=hs.out;have:=hb0.out;omega) hlt (hup.out hlt) (hdn.out hlt)
         go_wp2_with fail
         have bI2:(i:Int)<(n:Int):=by omega
         have bJ2:(j:Int)<(n:Int):=by omega
         have cI2:=hR.cell (i:=i) (by have:=hs.out;omega);have cJ2:=hR.cell (i:=j) (by have:=hs.out;omega);have fI2:=hR.free i;have fJ2:=hR.free j;have hRs:=(hR.swp i j (by have:=hs.out;omega) (by have:=hs.out;omega)).drew;obtain⟨u2,cU2⟩:=hR.cell2 i j (by have:=hs.out;omega) (by have:=hs.out;omega) D[j]!;generalize D[i]! = x2 at cI2 hRs;generalize D[j]! = y2 at cJ2 cU2 hRs
         go_wp2_with fail
         go_region
         generalize ((wc.setCell ⟨blk,i,none⟩ (.int .u32 y2)).setCell ⟨blk,j,none⟩ (.int .u32 x2)).drew=wcs at hRs ⊢;clear cI2 cJ2 fI2 fJ2 cU2 hR
         go_wp2
         go_roundg (j-1+1-(i+1))
         case measure=>have:=hgA.out;have:=hiA.out;omega
         case rel=>exact⟨i+1,j-1,_,by go_num,by go_num,Nat.le_refl _,(show Aside _ from by rw[size_swp];exact hs.out),hPs,hRs⟩
        ·have hlz:(j:Int)<(i:Int):=by omega
         go_wp2
         go_ret
         exact⟨i,D,rfl,(by rw[← hpA.out];exact hP.out.even hQ.out hlt),hR⟩
end Go.Proofs.YtnnmdkaoiofabaaGreat.Rs
