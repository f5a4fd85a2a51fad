/-
  The library's heap sort over a part of a row. The library's insertion sort that gives up early, over a part of a row. The library's breaking of patterns in a part of a row: some exchanges within it.
-/
import Derived.Test.YtnnmdkaoiofabaaGreatRsA
import Derived.Deep.CutRange
import Derived.Test.YtnnmdkaoiofabaaGreatRsLen
import Derived.Laws.Bits64b
namespace Go.Proofs.YtnnmdkaoiofabaaGreat.Rs
open Go Go.RowKit
theorem sift_end (hi first root:Nat) (D:Array Int) (h:hi≤2*root+1):Sort.siftDown lt hi first root D=D:=by
 rw[Sort.siftDown,dif_pos h]
def kid (hi first root:Nat) (D:Array Int):Nat:=if 2*root+2<hi∧lt D[first+(2*root+1)]! D[first+(2*root+2)]! = true then 2*root+2 else 2*root+1
theorem sift_go (hi first root:Nat) (D:Array Int) (h:¬hi≤2*root+1) :
  Sort.siftDown lt hi first root D=if lt D[first+root]! D[first+kid hi first root D]! = true then Sort.siftDown lt hi first (kid hi first root D) (Sort.swp D (first+root) (first+kid hi first root D))else D:=by
 rw[Sort.siftDown,dif_neg h];unfold kid;by_cases c:2*root+2<hi∧lt D[first+(2*root+1)]! D[first+(2*root+2)]! = true
 ·rw[if_pos c,if_pos]
  ·cases hl:lt D[first+root]! D[first+(2*root+2)]! with
   | true=>simp[c.1]
   | false=>simp
  ·have c2:=c.2;rw[show first+(2*root+2)=first+(2*root+1)+1 by omega]at c2;simp only[Bool.and_eq_true,decide_eq_true_eq];exact⟨by omega,c2⟩
 ·rw[if_neg c,if_neg]
  ·cases hl:lt D[first+root]! D[first+(2*root+1)]! with
   | true=>simp
   | false=>simp
  ·simp only[Bool.and_eq_true,decide_eq_true_eq];intro e;exact c ⟨by omega,by rw[show first+(2*root+2)=first+(2*root+1)+1 by omega];exact e.2⟩
set_option maxHeartbeats 16000000 in
set_option maxRecDepth 100000 in
theorem sift_any {w0 w:World}{blk cap n:Nat}{U:Nat→Value}{d:Array Int}(h:Rw w0 blk cap U d w) (hn:d.size=n) (hsz:n<4611686018427387904) (lo hi first:Nat) (hb:first+hi≤n) (hlo:lo≤n) :
  Calls Tryz.prog 154 #[.slice (some ⟨blk,0,none⟩) n cap,.int .i64 (lo:Int),.int .i64 (hi:Int),.int .i64 (first:Int)] w fun e w'=>e = .returned (.tuple #[])∧Rw w0 blk cap U (Sort.siftDown lt hi first lo d) w':=by
 have hb0:Aside (first+hi≤n):=hb;have hs0:Aside (d.size=n):=hn;have hR0:=h;clear h hn;go_enter Tryz.func154,Tryz.ntmps154
 go_wp2
 go_loopg [8] (hi+n+1) (fun g s wr=>∃(root:Nat) (D:Array Int),s = .int .i64 (root:Int)∧hi+n+1-root≤g∧root≤n∧Aside (D.size=n)∧Aside (Sort.siftDown lt hi first lo d=Sort.siftDown lt hi first root D)∧Rw w0 blk cap U D wr)
 case atStart=>exact⟨lo,d,rfl,by omega,hlo,hs0,rfl,hR0⟩
 case round =>
  clear hR0;obtain⟨root,D,rfl,hg,hrn,hs,hE,hR⟩:=hrel;obtain⟨c,hc⟩:∃c:Nat,2*(root:Int)+1=(c:Int):=⟨2*root+1,by omega⟩
  have hcA:Aside (c=2*root+1):=(by omega:c=2*root+1)
  by_cases hch:c<hi
  ·have hcz:¬(hi:Int)≤(c:Int):=by omega
   have hcz':(c:Int)<(hi:Int):=by omega
   obtain⟨c1,hc1⟩:∃c1:Nat,(c:Int)+1=(c1:Int):=⟨c+1,by omega⟩
   have hc1A:Aside (c1=2*root+2):=(by omega:c1=2*root+2)
   obtain⟨pc,hpc⟩:∃pc:Nat,(first:Int)+(c:Int)=(pc:Int):=⟨first+c,by omega⟩
   obtain⟨pd,hpd⟩:∃pd:Nat,(pc:Int)+1=(pd:Int):=⟨pc+1,by omega⟩
   have hpA:Aside (pc=first+(2*root+1)∧pd=first+(2*root+2)):=(by omega:pc=first+(2*root+1)∧pd=first+(2*root+2))
   have hgA:Aside (hi+n+1-root≤gk):=hg;have hcut2:True:=trivial;go_upto_region 3 with fail
   go_cut [36]from 17 to 36 (fun sb w=>∃b:Bool,sb = .bool b∧Aside ((if b=true then c1 else c)=kid hi first root D)∧Rw w0 blk cap U D w)
   case first =>
    by_cases hlt:c1<hi
    ·have hltz:(c1:Int)<(hi:Int):=by omega
     have hd:decide ((c1:Int)<(hi:Int))=true:=decide_eq_true hltz;have bI:(pc:Int)<(n:Int):=by omega
     have bJ:(pd:Int)<(n:Int):=by omega
     have cI:=hR.cell (i:=pc) (by have:=hs.out;omega);have cJ:=hR.cell (i:=pd) (by have:=hs.out;omega);obtain⟨x,hx⟩:∃x,x=D[pc]!:=⟨_,rfl⟩
     obtain⟨y,hy⟩:∃y,y=D[pd]!:=⟨_,rfl⟩
     have hxA:Aside (x=D[pc]!):=hx;have hyA:Aside (y=D[pd]!):=hy;rw[← hx]at cI;rw[← hy]at cJ;have K:=fun w=>less_any x y w
     clear hx hy;cases hl:lt x y with
     | true =>
      rw[show Sort.ltInt x y=true from hl]at K;have hlA:Aside (lt D[pc]! D[pd]! = true):=by rw[← hxA.out,← hyA.out];exact hl
      clear hl hxA hyA
      go_wp2_with fail
      go_quiet (first | (go_at_call 133;exact Calls.quiet_of_same (K _)))
      have hRq:=hR.drewN nq;generalize wr.drewN nq=wrq at hRq ⊢;clear nq cI cJ K hR
      go_wp2_with fail
      go_meet
      case rel=>exact⟨true,rfl,(show Aside _ from by show _=_;have h1:=hc1A.out;have h2:=hpA.out;rw[kid,if_pos rfl,if_pos ⟨by omega,by rw[← h2.1,← h2.2];exact hlA.out⟩,h1]),hRq⟩
     | false =>
      rw[show Sort.ltInt x y=false from hl]at K;have hlA:Aside (lt D[pc]! D[pd]! = false):=by rw[← hxA.out,← hyA.out];exact hl
      clear hl hxA hyA
      go_wp2_with fail
      go_quiet (first | (go_at_call 133;exact Calls.quiet_of_same (K _)))
      have hRq:=hR.drewN nq;generalize wr.drewN nq=wrq at hRq ⊢;clear nq cI cJ K hR
      go_wp2_with fail
      go_meet
      case rel=>exact⟨false,rfl,(show Aside _ from by show _=_;have h1:=hcA.out;have h2:=hpA.out;rw[kid,if_neg (by simp),if_neg (fun e=>by have:=e.2;rw[← h2.1,← h2.2,hlA.out]at this;cases this),h1]),hRq⟩
    ·have hltz:¬(c1:Int)<(hi:Int):=by omega
     have hd:decide ((c1:Int)<(hi:Int))=false:=decide_eq_false hltz
     go_wp2_with fail
     go_region
     go_wp2_with fail
     go_meet
     case rel=>exact⟨false,rfl,(show Aside _ from by show _=_;have h1:=hcA.out;have h2:=hc1A.out;rw[kid,if_neg (by simp),if_neg (fun e=>by have:=e.1;omega),h1]),hR.drew⟩
   case rest =>
    clear hR;obtain⟨bb,rfl,hk,hR⟩:=hcut;obtain⟨pr,hpr⟩:∃pr:Nat,(first:Int)+(root:Int)=(pr:Int):=⟨first+root,by omega⟩
    have hprA:Aside (pr=first+root):=(by omega:pr=first+root)
    cases bb with
    | true =>
     have hk':Aside (c1=kid hi first root D):=by have:=hk.out;rw[if_pos rfl]at this;exact this
     have hvA:Aside (root<c1∧c1≤n∧c1<hi∧pd=first+c1):=by
      have h1:=hk'.out;have h2:=hcA.out;have h3:=hc1A.out;have h4:=hpA.out;have h5:=hb0.out;have h6:kid hi first root D<hi:=by unfold kid;split <;> omega
      simp only[Aside];omega
     clear hk;have:=hvA.out;have hpz:(first:Int)+(c1:Int)=(pd:Int):=by omega
     clear this;have hlo1:(pd:Int)<(n:Int):=by have:=hvA.out;have:=hb0.out;omega
     have hlo2:(pr:Int)<(n:Int):=by have:=hvA.out;have:=hb0.out;have:=hprA.out;omega
     have bI:(pr:Int)<(n:Int):=by omega
     have bJ:(pd:Int)<(n:Int):=by omega
     have cI:=hR.cell (i:=pr) (by have:=hs.out;omega);have cJ:=hR.cell (i:=pd) (by have:=hs.out;omega);obtain⟨x,hx⟩:∃x,x=D[pr]!:=⟨_,rfl⟩
     obtain⟨y,hy⟩:∃y,y=D[pd]!:=⟨_,rfl⟩
     have hxA:Aside (x=D[pr]!):=hx;have hyA:Aside (y=D[pd]!):=hy;rw[← hx]at cI;rw[← hy]at cJ;have K:=fun w=>less_any x y w
     clear hx hy;cases hl:lt x y with
     | true =>
      rw[show Sort.ltInt x y=true from hl]at K;have hlA:Aside (lt D[pr]! D[pd]! = true):=by rw[← hxA.out,← hyA.out];exact hl
      clear hl hxA hyA
      go_wp2_with fail
      go_quiet (first | (go_at_call 133;exact Calls.quiet_of_same (K _)))
      have hRq:=hR.drewN nq;generalize wc.drewN nq=wcq at hRq ⊢;clear nq cI cJ K hR
      go_wp2_with fail
      have bI2:(pr:Int)<(n:Int):=by omega
      have bJ2:(pd:Int)<(n:Int):=by omega
      have cI2:=hRq.cell (i:=pr) (by have:=hs.out;omega);have cJ2:=hRq.cell (i:=pd) (by have:=hs.out;omega);have fI2:=hRq.free pr;have fJ2:=hRq.free pd;have hRqs:=(hRq.swp pr pd (by have:=hs.out;omega) (by have:=hs.out;omega)).drew;obtain⟨u2,cU2⟩:=hRq.cell2 pr pd (by have:=hs.out;omega) (by have:=hs.out;omega) D[pd]!;generalize D[pr]! = x2 at cI2 hRqs;generalize D[pd]! = y2 at cJ2 cU2 hRqs
      go_wp2_with fail
      go_region
      generalize ((wcq.setCell ⟨blk,pr,none⟩ (.int .u32 y2)).setCell ⟨blk,pd,none⟩ (.int .u32 x2)).drew=wcqs at hRqs ⊢;clear cI2 cJ2 fI2 fJ2 cU2 hRq
      go_wp2
      go_roundg (hi+n+1-c1)
      case measure=>have:=hgA.out;have:=hvA.out;omega
      case rel =>
       refine⟨c1,_,rfl,Nat.le_refl _,hvA.out.2.1,(show Aside _ from by rw[size_swp];exact hs.out),(show Aside _ from ?_),hRqs⟩;show _=_;have h1:=hprA.out;have h2:=hvA.out;have h3:=hlA.out;have h4:=hcA.out;rw[hE.out,sift_go hi first root D (by omega),← hk'.out,← h1,← h2.2.2.2,if_pos h3]
     | false =>
      rw[show Sort.ltInt x y=false from hl]at K;have hlA:Aside (lt D[pr]! D[pd]! = false):=by rw[← hxA.out,← hyA.out];exact hl
      clear hl hxA hyA
      go_wp2_with fail
      go_quiet (first | (go_at_call 133;exact Calls.quiet_of_same (K _)))
      have hRq:=hR.drewN nq;generalize wc.drewN nq=wcq at hRq ⊢;clear nq cI cJ K hR
      go_wp2
      refine bodyPost_ret (results_none rfl _ _ _) rfl ?_;refine⟨rfl,?_⟩;have h1:=hprA.out;have h2:=hvA.out;have h3:=hlA.out;have h4:=hcA.out;rw[hE.out,sift_go hi first root D (by omega),← hk'.out,← h1,← h2.2.2.2,h3];simpa using hRq
    | false =>
     have hk':Aside (c=kid hi first root D):=by have:=hk.out;rw[if_neg (by simp)]at this;exact this
     have hvA:Aside (root<c∧c≤n∧c<hi∧pc=first+c):=by
      have h1:=hk'.out;have h2:=hcA.out;have h3:=hc1A.out;have h4:=hpA.out;have h5:=hb0.out;have h6:kid hi first root D<hi:=by unfold kid;split <;> omega
      simp only[Aside];omega
     clear hk;have:=hvA.out;have hpz:(first:Int)+(c:Int)=(pc:Int):=by omega
     clear this;have hlo1:(pc:Int)<(n:Int):=by have:=hvA.out;have:=hb0.out;omega
     have hlo2:(pr:Int)<(n:Int):=by have:=hvA.out;have:=hb0.out;have:=hprA.out;omega
     have bI:(pr:Int)<(n:Int):=by omega
     have bJ:(pc:Int)<(n:Int):=by omega
     have cI:=hR.cell (i:=pr) (by have:=hs.out;omega);have cJ:=hR.cell (i:=pc) (by have:=hs.out;omega);obtain⟨x,hx⟩:∃x,x=D[pr]!:=⟨_,rfl⟩
     obtain⟨y,hy⟩:∃y,y=D[pc]!:=⟨_,rfl⟩
     have hxA:Aside (x=D[pr]!):=hx;have hyA:Aside (y=D[pc]!):=hy;rw[← hx]at cI;rw[← hy]at cJ;have K:=fun w=>less_any x y w
     clear hx hy;cases hl:lt x y with
     | true =>
      rw[show Sort.ltInt x y=true from hl]at K;have hlA:Aside (lt D[pr]! D[pc]! = true):=by rw[← hxA.out,← hyA.out];exact hl
      clear hl hxA hyA
      go_wp2_with fail
      go_quiet (first | (go_at_call 133;exact Calls.quiet_of_same (K _)))
      have hRq:=hR.drewN nq;generalize wc.drewN nq=wcq at hRq ⊢;clear nq cI cJ K hR
      go_wp2_with fail
      have bI2:(pr:Int)<(n:Int):=by omega
      have bJ2:(pc:Int)<(n:Int):=by omega
      have cI2:=hRq.cell (i:=pr) (by have:=hs.out;omega);have cJ2:=hRq.cell (i:=pc) (by have:=hs.out;omega);have fI2:=hRq.free pr;have fJ2:=hRq.free pc;have hRqs:=(hRq.swp pr pc (by have:=hs.out;omega) (by have:=hs.out;omega)).drew;obtain⟨u2,cU2⟩:=hRq.cell2 pr pc (by have:=hs.out;omega) (by have:=hs.out;omega) D[pc]!;generalize D[pr]! = x2 at cI2 hRqs;generalize D[pc]! = y2 at cJ2 cU2 hRqs
      go_wp2_with fail
      go_region
      generalize ((wcq.setCell ⟨blk,pr,none⟩ (.int .u32 y2)).setCell ⟨blk,pc,none⟩ (.int .u32 x2)).drew=wcqs at hRqs ⊢;clear cI2 cJ2 fI2 fJ2 cU2 hRq
      go_wp2
      go_roundg (hi+n+1-c)
      case measure=>have:=hgA.out;have:=hvA.out;omega
      case rel =>
       refine⟨c,_,rfl,Nat.le_refl _,hvA.out.2.1,(show Aside _ from by rw[size_swp];exact hs.out),(show Aside _ from ?_),hRqs⟩;show _=_;have h1:=hprA.out;have h2:=hvA.out;have h3:=hlA.out;have h4:=hcA.out;rw[hE.out,sift_go hi first root D (by omega),← hk'.out,← h1,← h2.2.2.2,if_pos h3]
     | false =>
      rw[show Sort.ltInt x y=false from hl]at K;have hlA:Aside (lt D[pr]! D[pc]! = false):=by rw[← hxA.out,← hyA.out];exact hl
      clear hl hxA hyA
      go_wp2_with fail
      go_quiet (first | (go_at_call 133;exact Calls.quiet_of_same (K _)))
      have hRq:=hR.drewN nq;generalize wc.drewN nq=wcq at hRq ⊢;clear nq cI cJ K hR
      go_wp2
      refine bodyPost_ret (results_none rfl _ _ _) rfl ?_;refine⟨rfl,?_⟩;have h1:=hprA.out;have h2:=hvA.out;have h3:=hlA.out;have h4:=hcA.out;rw[hE.out,sift_go hi first root D (by omega),← hk'.out,← h1,← h2.2.2.2,h3];simpa using hRq
  ·have hcz:(hi:Int)≤(c:Int):=by omega
   go_wp2
   go_end0
   refine⟨rfl,?_⟩;rw[hE.out,sift_end hi first root D (by have:=hcA.out;omega)];exact hR
theorem size_sift (hi first:Nat):∀(m root:Nat) (D:Array Int),hi-root≤m→(Sort.siftDown lt hi first root D).size=D.size:=by
 intro m;induction m with
 | zero=>intro root D h;rw[sift_end hi first root D (by omega)]
 | succ m ih =>
  intro root D h;by_cases c:hi≤2*root+1
  ·rw[sift_end hi first root D c]
  ·rw[sift_go hi first root D c];split
   ·rw[ih _ _ (by unfold kid;split <;> omega),size_swp]
   ·rfl
set_option maxHeartbeats 16000000 in
set_option maxRecDepth 100000 in
theorem heap_any {w0 w:World}{blk cap n:Nat}{U:Nat→Value}{d:Array Int}(h:Rw w0 blk cap U d w) (hn:d.size=n) (hsz:n<4611686018427387904) (a b:Nat) (hab:a<b) (hb:b≤n) :
  Calls Tryz.prog 128 #[.slice (some ⟨blk,0,none⟩) n cap,.int .i64 (a:Int),.int .i64 (b:Int)] w fun e w'=>e = .returned (.tuple #[])∧Rw w0 blk cap U (Sort.heapSort lt d a b) w':=by
 have hs0:Aside (d.size=n):=hn;have hR0:=h;clear h hn;obtain⟨hi,hhi⟩:∃hi:Nat,(b:Int)-(a:Int)=(hi:Int):=⟨b-a,by omega⟩
 have hhA:Aside (hi=b-a):=(by omega:hi=b-a)
 obtain⟨i0,hi0⟩:∃i0:Nat,((hi:Int)-1) / 2=(i0:Int):=⟨(hi-1) / 2,by omega⟩
 have hiA:Aside (i0=(hi-1) / 2):=(by omega:i0=(hi-1) / 2)
 have hi1:((hi:Int)-1).tdiv 2=(i0:Int):=by rw[Int.tdiv_eq_ediv_of_nonneg (by omega)];exact hi0
 have hpos:0<hi:=by omega
 have hbn:Aside (a+hi≤n):=(by omega:a+hi≤n)
 go_enter Tryz.func128,Tryz.ntmps128
 go_wp2
 go_loopg [9] (i0+1) (fun g s wr=>∃(D:Array Int),s = .int .i64 ((g:Int)-1)∧g≤n∧Aside (D.size=n)∧Aside (Sort.heapBuild lt hi a ((hi-1) / 2+1) d=Sort.heapBuild lt hi a g D)∧Rw w0 blk cap U D wr)
 case atStart=>exact⟨d,by go_num,by have:=hbn.out;have:=hiA.out;omega,hs0,by rw[hiA.out];exact rfl,hR0⟩
 case round =>
  clear hR0;obtain⟨D,rfl,hgn,hs,hE,hR⟩:=hrel;cases gk with
  | zero =>
   have hz:¬(0:Int)≤((0:Nat):Int)-1:=by omega
   have hE1:Aside (Sort.heapBuild lt hi a ((hi-1) / 2+1) d=D):=hE;clear hE
   go_wp2
   go_loopg [10] hi (fun g s wr=>∃(D':Array Int),s = .int .i64 ((g:Int)-1)∧g≤hi∧Aside (D'.size=n)∧Aside (Sort.heapPop lt a hi D=Sort.heapPop lt a g D')∧Rw w0 blk cap U D' wr)
   case atStart=>exact⟨D,by go_num,Nat.le_refl _,hs,rfl,hR⟩
   case round =>
    clear hR;obtain⟨D',rfl,hgn,hs',hE',hR⟩:=hrel;cases gk with
    | zero =>
     have hz:¬(0:Int)≤((0:Nat):Int)-1:=by omega
     go_wp2
     go_end0
     refine⟨rfl,?_⟩;have e1:=hE'.out;rw[Sort.heapSort,← hhA.out,hE1.out,e1];exact hR
    | succ k =>
     have hz:(0:Int)≤((k+1:Nat):Int)-1:=by omega
     have hk:((k+1:Nat):Int)-1=(k:Int):=by omega
     have hk0:(0:Int)≤(k:Int):=by omega
     rw[hk];obtain⟨pk,hpk⟩:∃pk:Nat,(a:Int)+(k:Int)=(pk:Int):=⟨a+k,by omega⟩
     have hpA:Aside (pk=a+k):=(by omega:pk=a+k)
     have hpn:pk<n:=by have:=hbn.out;omega
     go_wp2_with fail
     have bI:(a:Int)<(n:Int):=by omega
     have bJ:(pk:Int)<(n:Int):=by omega
     have cI:=hR.cell (i:=a) (by have:=hs'.out;omega);have cJ:=hR.cell (i:=pk) (by have:=hs'.out;omega);have fI:=hR.free a;have fJ:=hR.free pk;have hRs:=(hR.swp a pk (by have:=hs'.out;omega) (by have:=hs'.out;omega)).drew;obtain⟨u,cU⟩:=hR.cell2 a pk (by have:=hs'.out;omega) (by have:=hs'.out;omega) D'[pk]!;generalize D'[a]! = x at cI hRs;generalize D'[pk]! = y at cJ cU hRs
     go_wp2_with fail
     go_region
     generalize ((wr.setCell ⟨blk,a,none⟩ (.int .u32 y)).setCell ⟨blk,pk,none⟩ (.int .u32 x)).drew=wrs at hRs ⊢;clear cI cJ fI fJ cU hR;have K:=sift_any hRs (by rw[size_swp];exact hs'.out) hsz 0 k a (by have:=hbn.out;omega) (by omega)
     go_wp2_with (go_at_call 154;refine K.mono ?_;clear K;rintro e w3 ⟨rfl,hR3⟩)
     go_roundg k
     case measure=>omega
     case rel=>exact⟨_,rfl,by omega,(show Aside _ from by rw[size_sift k a k 0 _ (by omega),size_swp];exact hs'.out),(show Aside _ from by show _=_;rw[hE'.out,Sort.heapPop,hpA.out]),hR3⟩
  | succ k =>
   have hz:(0:Int)≤((k+1:Nat):Int)-1:=by omega
   have hk:((k+1:Nat):Int)-1=(k:Int):=by omega
   have hk0:(0:Int)≤(k:Int):=by omega
   rw[hk];have K:=sift_any hR hs.out hsz k hi a hbn.out (by omega)
   go_wp2_with (go_at_call 154;refine K.mono ?_;clear K;rintro e w3 ⟨rfl,hR3⟩)
   go_roundg k
   case measure=>omega
   case rel=>exact⟨_,rfl,by omega,(show Aside _ from by rw[size_sift hi a hi k _ (by omega)];exact hs.out),(show Aside _ from by show _=_;rw[hE.out,Sort.heapBuild]),hR3⟩
end Go.Proofs.YtnnmdkaoiofabaaGreat.Rs
namespace Go.Proofs.YtnnmdkaoiofabaaGreat.Rs
open Go Go.RowKit
theorem scan_go (D:Array Int) (b i:Nat) (h:i<b) (hl:lt D[i]! D[i-1]! = false):Sort.scanSorted lt D b i=Sort.scanSorted lt D b (i+1):=by
 rw[Sort.scanSorted,if_pos];simp[h,hl]
theorem scan_end (D:Array Int) (b i:Nat) (h:i<b→lt D[i]! D[i-1]! = true):Sort.scanSorted lt D b i=i:=by
 rw[Sort.scanSorted,if_neg];by_cases c:i<b
 ·simp[h c]
 ·simp[c]
theorem down_go (D:Array Int) (j:Nat) (hl:lt D[j+1]! D[j]! = true):Sort.shiftDown lt (j+1) D=Sort.shiftDown lt j (Sort.swp D (j+1) j):=by
 rw[Sort.shiftDown,if_neg (by simp[hl])]
theorem down_end (D:Array Int) (j:Nat) (hl:lt D[j+1]! D[j]! = false):Sort.shiftDown lt (j+1) D=D:=by
 rw[Sort.shiftDown,if_pos (by simp[hl])]
theorem up_go (D:Array Int) (b j:Nat) (h:j<b) (hl:lt D[j]! D[j-1]! = true):Sort.shiftUp lt b j D=Sort.shiftUp lt b (j+1) (Sort.swp D j (j-1)):=by
 rw[Sort.shiftUp,if_pos h,if_neg (by simp[hl])]
theorem up_end (D:Array Int) (b j:Nat) (h:j<b→lt D[j]! D[j-1]! = false):Sort.shiftUp lt b j D=D:=by
 rw[Sort.shiftUp];by_cases c:j<b
 ·rw[if_pos c,if_pos (by simp[h c])]
 ·rw[if_neg c]
set_option maxHeartbeats 32000000 in
set_option maxRecDepth 100000 in
theorem pins_any {w0 w:World}{blk cap n:Nat}{U:Nat→Value}{d:Array Int}(h:Rw w0 blk cap U d w) (hn:d.size=n) (hsz:n<4611686018427387904) (a b:Nat) (hab:a<b) (hb:b≤n) :
  Calls Tryz.prog 132 #[.slice (some ⟨blk,0,none⟩) n cap,.int .i64 (a:Int),.int .i64 (b:Int)] w fun e w'=>e = .returned (.bool (Sort.partialInsertionSort lt d a b).2)∧Rw w0 blk cap U (Sort.partialInsertionSort lt d a b).1 w':=by
 have hs0:Aside (d.size=n):=hn;have hR0:=h;obtain⟨R,hRd⟩:∃R,R=Sort.partialInsertionSort lt d a b:=⟨_,rfl⟩
 rw[← hRd];have hRA:Aside (R=Sort.partialIns lt a b 5 (a+1) d):=hRd;clear h hn hRd;go_enter Tryz.func132,Tryz.ntmps132
 go_wp2
 go_loopg [7,8] 5 (fun g s1 s2 wr=>∃(i t:Nat) (D:Array Int),s1 = .int .i64 (i:Int)∧s2 = .int .i64 (t:Int)∧t+g=5∧a<i∧i≤b∧Aside (D.size=n)∧Aside (R=Sort.partialIns lt a b g i D)∧Rw w0 blk cap U D wr)
 case atStart=>exact⟨a+1,0,d,by go_num,rfl,rfl,by omega,by omega,hs0,hRA,hR0⟩
 case round =>
  clear hR0 hRA;obtain⟨i,t,D,rfl,rfl,ht,hai,hib,hs,hE,hR⟩:=hrel;cases gk with
  | zero =>
   have htz:¬(t:Int)<5:=by omega
   go_wp2
   go_ret
   have e:R=(D,false):=hE.out;rw[e];exact⟨rfl,hR⟩
  | succ g =>
   have htz:(t:Int)<5:=by omega
   have hgA:Aside (t+(g+1)=5):=ht
   go_wp2
   go_loopg [7] (b+1) (fun g' s wr=>∃(i':Nat),s = .int .i64 (i':Int)∧a<i'∧i'≤b∧b+1-i'≤g'∧Aside (Sort.scanSorted lt D b i=Sort.scanSorted lt D b i')∧Rw w0 blk cap U D wr)
   case atStart=>exact⟨i,rfl,hai,hib,by omega,rfl,hR⟩
   case round =>
    clear hR;obtain⟨x,rfl,hax,hxb,hg',hsc,hR⟩:=hrel;obtain⟨xm,hxm⟩:∃xm:Nat,(x:Int)-1=(xm:Int):=⟨x-1,by omega⟩
    have hxA:Aside (xm=x-1):=(by omega:xm=x-1)
    go_upto_region 5 with fail
    go_cut [32]from 17 to 32 (fun sb w=>∃bb:Bool,sb = .bool bb∧Aside (bb=true↔(x<b∧lt D[x]! D[x-1]! = false))∧Rw w0 blk cap U D w)
    case first =>
     by_cases hle:x<b
     ·have hdz:(x:Int)<(b:Int):=by omega
      have hd:decide ((x:Int)<(b:Int))=true:=decide_eq_true hdz;have bI:(x:Int)<(n:Int):=by omega
      have bJ:(xm:Int)<(n:Int):=by omega
      have cI:=hR.cell (i:=x) (by have:=hs.out;omega);have cJ:=hR.cell (i:=xm) (by have:=hs.out;omega);obtain⟨vx,hvx⟩:∃v,v=D[x]!:=⟨_,rfl⟩
      obtain⟨vy,hvy⟩:∃v,v=D[xm]!:=⟨_,rfl⟩
      have hvxA:Aside (vx=D[x]!):=hvx;have hvyA:Aside (vy=D[xm]!):=hvy;rw[← hvx]at cI;rw[← hvy]at cJ;have K:=fun w=>less_any vx vy w
      clear hvx hvy;cases hl:lt vx vy with
      | true =>
       rw[show Sort.ltInt vx vy=true from hl]at K;have hlA:Aside (lt D[x]! D[xm]! = true):=by rw[← hvxA.out,← hvyA.out];exact hl
       clear hl hvxA hvyA
       go_wp2_with fail
       go_quiet (first | (go_at_call 133;exact Calls.quiet_of_same (K _)))
       have hRq:=hR.drewN nq;generalize wr.drewN nq=wrq at hRq ⊢;clear nq cI cJ K hR
       go_wp2_with fail
       go_meet
       case rel=>exact⟨_,rfl,(show Aside _ from⟨fun e=>(by cases e),fun e=>absurd e.2 (by rw[← hxA.out,hlA.out];simp)⟩),hRq⟩
      | false =>
       rw[show Sort.ltInt vx vy=false from hl]at K;have hlA:Aside (lt D[x]! D[xm]! = false):=by rw[← hvxA.out,← hvyA.out];exact hl
       clear hl hvxA hvyA
       go_wp2_with fail
       go_quiet (first | (go_at_call 133;exact Calls.quiet_of_same (K _)))
       have hRq:=hR.drewN nq;generalize wr.drewN nq=wrq at hRq ⊢;clear nq cI cJ K hR
       go_wp2_with fail
       go_meet
       case rel=>exact⟨_,rfl,(show Aside _ from⟨fun _=>⟨hle,by rw[← hxA.out];exact hlA.out⟩,fun _=>rfl⟩),hRq⟩
     ·have hdz:¬(x:Int)<(b:Int):=by omega
      have hd:decide ((x:Int)<(b:Int))=false:=decide_eq_false hdz
      go_wp2_with fail
      go_region
      go_wp2_with fail
      go_meet
      case rel=>exact⟨_,rfl,(show Aside _ from⟨fun e=>(by cases e),fun e=>absurd e.1 hle⟩),hR.drew⟩
    case rest =>
     clear hR;obtain⟨bb,rfl,hbb,hR⟩:=hcut;cases bb with
     | true =>
      have hb1:=hbb.out.1 rfl
      go_wp2
      go_roundg (b+1-(x+1))
      case measure=>have:=hb1.1;omega
      case rel=>exact⟨x+1,by go_num,by omega,by have:=hb1.1;omega,Nat.le_refl _,(show Aside _ from by show _=_;rw[hsc.out,scan_go D b x hb1.1 hb1.2]),hR⟩
     | false =>
      have hx:Aside (Sort.scanSorted lt D b i=x):=by
       show _=_;rw[hsc.out,scan_end];intro e;cases hh:lt D[x]! D[x-1]! with
       | true=>rfl
       | false=>exact absurd (hbb.out.2 ⟨e,hh⟩) (by simp)
      have hST:Aside (R=if x=b then (D,true)else if b-a<50 then (D,false)else Sort.partialIns lt a b g x (Sort.fixUp lt b x (Sort.fixDown lt a x (Sort.swp D x (x-1))))):=by
       show _=_;rw[hE.out,Sort.partialIns_succ,hx.out]
      clear hbb hsc hE hx hg';by_cases hxe:x=b
      ·have hxz:(x:Int)=(b:Int):=by omega
       have e:Aside (R=(D,true)):=by have:=hST.out;rw[if_pos hxe]at this;exact this
       clear hST
       go_wp2
       go_ret
       rw[e.out];exact⟨rfl,hR⟩
      ·have hxz:¬(x:Int)=(b:Int):=by omega
       by_cases h50:b-a<50
       ·have h5z:(b:Int)-(a:Int)<50:=by omega
        have e:Aside (R=(D,false)):=by have:=hST.out;rw[if_neg hxe,if_pos h50]at this;exact this
        clear hST
        go_wp2
        go_ret
        rw[e.out];exact⟨rfl,hR⟩
       ·have h5z:¬(b:Int)-(a:Int)<50:=by omega
        have hST:Aside (R=Sort.partialIns lt a b g x (Sort.fixUp lt b x (Sort.fixDown lt a x (Sort.swp D x xm)))):=by have:=hST.out;rw[if_neg hxe,if_neg h50,← hxA.out]at this;exact this
        have hxb':x<b:=by omega
        go_wp2_with fail
        have bI:(x:Int)<(n:Int):=by omega
        have bJ:(xm:Int)<(n:Int):=by omega
        have cI:=hR.cell (i:=x) (by have:=hs.out;omega);have cJ:=hR.cell (i:=xm) (by have:=hs.out;omega);have fI:=hR.free x;have fJ:=hR.free xm;have hRs:=(hR.swp x xm (by have:=hs.out;omega) (by have:=hs.out;omega)).drew;obtain⟨u,cU⟩:=hR.cell2 x xm (by have:=hs.out;omega) (by have:=hs.out;omega) D[xm]!;generalize D[x]! = vx at cI hRs;generalize D[xm]! = vy at cJ cU hRs
        go_wp2_with fail
        go_region
        generalize ((wc.setCell ⟨blk,x,none⟩ (.int .u32 vy)).setCell ⟨blk,xm,none⟩ (.int .u32 vx)).drew=wcs at hRs ⊢;clear cI cJ fI fJ cU hR;have hs1:Aside ((Sort.swp D x xm).size=n):=by rw[size_swp];exact hs.out
        generalize Sort.swp D x xm=D1 at hST hs1 hRs;clear bI bJ;go_upto_if 61 with fail
        go_cut []from 58 to 94 (fun w=>∃D2:Array Int,Aside (D2=Sort.fixDown lt a x D1)∧Aside (D2.size=n)∧Rw w0 blk cap U D2 w)
        case first =>
         by_cases h2:x-a≥2
         ·have h2z:(2:Int)≤(x:Int)-(a:Int):=by omega
          have hfd:Aside (Sort.fixDown lt a x D1=Sort.shiftDown lt xm D1):=by show _=_;rw[Sort.fixDown,if_pos h2,← hxA.out]
          go_wp2
          go_loopg [9] xm (fun j s wr=>∃(D2:Array Int),s = .int .i64 (j:Int)∧j≤xm∧Aside (D2.size=n)∧Aside (Sort.shiftDown lt xm D1=Sort.shiftDown lt j D2)∧Rw w0 blk cap U D2 wr)
          case atStart=>exact⟨D1,rfl,Nat.le_refl _,hs1,rfl,hRs⟩
          case round =>
           clear hRs;obtain⟨D2,rfl,hjx,hs2,hE2,hR⟩:=hrel;cases gk with
           | zero =>
            have hz:¬(1:Int)≤((0:Nat):Int):=by omega
            go_wp2
            go_meet
            case rel=>exact⟨D2,(show Aside _ from by show _=_;rw[hfd.out,hE2.out];rfl),hs2,hR⟩
           | succ j =>
            have hz:(1:Int)≤((j+1:Nat):Int):=by omega
            obtain⟨k,hk⟩:∃k,k=j+1:=⟨_,rfl⟩
            have hkA:Aside (k=j+1):=hk;have hkz:(k:Int)-1=(j:Int):=by omega
            have hkn:k<n:=by omega
            rw[← hk]at hz;rw[← hk];clear hk
            go_wp2_with fail
            have bI:(k:Int)<(n:Int):=by omega
            have bJ:(j:Int)<(n:Int):=by omega
            have cI:=hR.cell (i:=k) (by have:=hs2.out;omega);have cJ:=hR.cell (i:=j) (by have:=hs2.out;omega);obtain⟨vx,hvx⟩:∃v,v=D2[k]!:=⟨_,rfl⟩
            obtain⟨vy,hvy⟩:∃v,v=D2[j]!:=⟨_,rfl⟩
            have hvxA:Aside (vx=D2[k]!):=hvx;have hvyA:Aside (vy=D2[j]!):=hvy;rw[← hvx]at cI;rw[← hvy]at cJ;have K:=fun w=>less_any vx vy w
            clear hvx hvy;cases hl:lt vx vy with
            | true =>
             rw[show Sort.ltInt vx vy=true from hl]at K;have hlA:Aside (lt D2[k]! D2[j]! = true):=by rw[← hvxA.out,← hvyA.out];exact hl
             clear hl hvxA hvyA
             go_wp2_with fail
             go_quiet (first | (go_at_call 133;exact Calls.quiet_of_same (K _)))
             have hRq:=hR.drewN nq;generalize wr.drewN nq=wrq at hRq ⊢;clear nq cI cJ K hR
             go_wp2_with fail
             have bI3:(k:Int)<(n:Int):=by omega
             have bJ3:(j:Int)<(n:Int):=by omega
             have cI3:=hRq.cell (i:=k) (by have:=hs2.out;omega);have cJ3:=hRq.cell (i:=j) (by have:=hs2.out;omega);have fI3:=hRq.free k;have fJ3:=hRq.free j;have hRqs:=(hRq.swp k j (by have:=hs2.out;omega) (by have:=hs2.out;omega)).drew;obtain⟨u3,cU3⟩:=hRq.cell2 k j (by have:=hs2.out;omega) (by have:=hs2.out;omega) D2[j]!;generalize D2[k]! = vx3 at cI3 hRqs;generalize D2[j]! = vy3 at cJ3 cU3 hRqs
             go_wp2_with fail
             go_region
             generalize ((wrq.setCell ⟨blk,k,none⟩ (.int .u32 vy3)).setCell ⟨blk,j,none⟩ (.int .u32 vx3)).drew=wrqs at hRqs ⊢;clear cI3 cJ3 fI3 fJ3 cU3 hRq
             go_wp2
             go_roundg j
             case measure=>have:=hkA.out;omega
             case rel =>
              have e:=hkA.out;subst e;exact⟨_,rfl,by omega,(show Aside _ from by rw[size_swp];exact hs2.out),(show Aside _ from by show _=_;rw[hE2.out,down_go D2 j hlA.out]),hRqs⟩
            | false =>
             rw[show Sort.ltInt vx vy=false from hl]at K;have hlA:Aside (lt D2[k]! D2[j]! = false):=by rw[← hvxA.out,← hvyA.out];exact hl
             clear hl hvxA hvyA
             go_wp2_with fail
             go_quiet (first | (go_at_call 133;exact Calls.quiet_of_same (K _)))
             have hRq:=hR.drewN nq;generalize wr.drewN nq=wrq at hRq ⊢;clear nq cI cJ K hR
             go_wp2
             go_meet
             case rel =>
              have e:=hkA.out;subst e;exact⟨D2,(show Aside _ from by show _=_;rw[hfd.out,hE2.out,down_end D2 j hlA.out]),hs2,hRq⟩
         ·have h2z:¬(2:Int)≤(x:Int)-(a:Int):=by omega
          go_wp2
          go_meet
          case rel=>exact⟨D1,(show Aside _ from by show _=_;rw[Sort.fixDown,if_neg h2]),hs1,hRs⟩
        case rest =>
         clear hRs;obtain⟨D2,hD2,hs2,hR⟩:=hcut;have hST:Aside (R=Sort.partialIns lt a b g x (Sort.fixUp lt b x D2)):=by show _=_;rw[hST.out,hD2.out]
         clear hD2
         have fin:Aside (∀(D3:Array Int) (w':World),D3=Sort.fixUp lt b x D2→D3.size=n→Rw w0 blk cap U D3 w'→∃(i t':Nat) (D:Array Int),Value.int .i64 (x:Int) = .int .i64 (i:Int)∧Value.int .i64 ((t:Int)+1) = .int .i64 (t':Int)∧t'+g=5∧a<i∧i≤b∧Aside (D.size=n)∧Aside (R=Sort.partialIns lt a b g i D)∧Rw w0 blk cap U D w'):=
          fun D3 w' h1 h2 h3=>⟨x,t+1,D3,rfl,by go_num,by have:=hgA.out;omega,hax,hxb,h2,(show Aside _ from by show _=_;rw[hST.out,h1]),h3⟩
         have hgA2:Aside (g<g+1):=Nat.lt_succ_self g;have htz2:(t:Int)+1≤5:=by omega
         clear hST;by_cases h2:b-x≥2
         ·have h2z:(2:Int)≤(b:Int)-(x:Int):=by omega
          have hfu:Aside (Sort.fixUp lt b x D2=Sort.shiftUp lt b (x+1) D2):=by show _=_;rw[Sort.fixUp,if_pos h2]
          go_wp2
          go_loopg [10] (b+1) (fun g' s wr=>∃(k:Nat) (D3:Array Int),s = .int .i64 (k:Int)∧0<k∧k≤b∧b+1-k≤g'∧Aside (D3.size=n)∧Aside (Sort.shiftUp lt b (x+1) D2=Sort.shiftUp lt b k D3)∧Rw w0 blk cap U D3 wr)
          case atStart=>exact⟨x+1,D2,by go_num,by omega,by omega,by omega,hs2,rfl,hR⟩
          case round =>
           clear hR;obtain⟨k,D3,rfl,hk0,hkb,hg',hs3,hE3,hR⟩:=hrel;by_cases hkb':k<b
           ·have hz:(k:Int)<(b:Int):=by omega
            obtain⟨j,hkz⟩:∃j:Nat,(k:Int)-1=(j:Int):=⟨k-1,by omega⟩
            have hjA:Aside (j=k-1):=(by omega:j=k-1)
            have hgA':Aside (b+1-k≤gk):=hg'
            go_wp2_with fail
            have bI:(k:Int)<(n:Int):=by omega
            have bJ:(j:Int)<(n:Int):=by omega
            have cI:=hR.cell (i:=k) (by have:=hs3.out;omega);have cJ:=hR.cell (i:=j) (by have:=hs3.out;omega);obtain⟨vx,hvx⟩:∃v,v=D3[k]!:=⟨_,rfl⟩
            obtain⟨vy,hvy⟩:∃v,v=D3[j]!:=⟨_,rfl⟩
            have hvxA:Aside (vx=D3[k]!):=hvx;have hvyA:Aside (vy=D3[j]!):=hvy;rw[← hvx]at cI;rw[← hvy]at cJ;have K:=fun w=>less_any vx vy w
            clear hvx hvy;cases hl:lt vx vy with
            | true =>
             rw[show Sort.ltInt vx vy=true from hl]at K;have hlA:Aside (lt D3[k]! D3[j]! = true):=by rw[← hvxA.out,← hvyA.out];exact hl
             clear hl hvxA hvyA
             go_wp2_with fail
             go_quiet (first | (go_at_call 133;exact Calls.quiet_of_same (K _)))
             have hRq:=hR.drewN nq;generalize wr.drewN nq=wrq at hRq ⊢;clear nq cI cJ K hR
             go_wp2_with fail
             have bI4:(k:Int)<(n:Int):=by omega
             have bJ4:(j:Int)<(n:Int):=by omega
             have cI4:=hRq.cell (i:=k) (by have:=hs3.out;omega);have cJ4:=hRq.cell (i:=j) (by have:=hs3.out;omega);have fI4:=hRq.free k;have fJ4:=hRq.free j;have hRqs:=(hRq.swp k j (by have:=hs3.out;omega) (by have:=hs3.out;omega)).drew;obtain⟨u4,cU4⟩:=hRq.cell2 k j (by have:=hs3.out;omega) (by have:=hs3.out;omega) D3[j]!;generalize D3[k]! = vx4 at cI4 hRqs;generalize D3[j]! = vy4 at cJ4 cU4 hRqs
             go_wp2_with fail
             go_region
             generalize ((wrq.setCell ⟨blk,k,none⟩ (.int .u32 vy4)).setCell ⟨blk,j,none⟩ (.int .u32 vx4)).drew=wrqs at hRqs ⊢;clear cI4 cJ4 fI4 fJ4 cU4 hRq
             go_wp2
             go_roundg (b+1-(k+1))
             case measure=>have:=hgA'.out;omega
             case rel=>exact⟨k+1,_,by go_num,by omega,by omega,Nat.le_refl _,(show Aside _ from by rw[size_swp];exact hs3.out),(show Aside _ from by show _=_;rw[hE3.out,up_go D3 b k hkb' (by rw[← hjA.out];exact hlA.out),← hjA.out]),hRqs⟩
            | false =>
             rw[show Sort.ltInt vx vy=false from hl]at K;have hlA:Aside (lt D3[k]! D3[j]! = false):=by rw[← hvxA.out,← hvyA.out];exact hl
             clear hl hvxA hvyA
             go_wp2_with fail
             go_quiet (first | (go_at_call 133;exact Calls.quiet_of_same (K _)))
             have hRq:=hR.drewN nq;generalize wr.drewN nq=wrq at hRq ⊢;clear nq cI cJ K hR
             go_wp2
             go_roundg g
             case measure=>omega
             case rel=>exact fin.out D3 _ (by rw[hfu.out,hE3.out,up_end D3 b k (fun _=>by rw[← hjA.out];exact hlA.out)]) hs3.out hRq
           ·have hz:¬(k:Int)<(b:Int):=by omega
            go_wp2
            go_roundg g
            case measure=>omega
            case rel=>exact fin.out D3 _ (by rw[hfu.out,hE3.out,up_end D3 b k (fun e=>absurd e hkb')]) hs3.out hR
         ·have h2z:¬(2:Int)≤(b:Int)-(x:Int):=by omega
          go_wp2
          go_roundg g
          case measure=>omega
          case rel=>exact fin.out D2 _ (by rw[Sort.fixUp,if_neg h2]) hs2.out hR
end Go.Proofs.YtnnmdkaoiofabaaGreat.Rs
namespace Go.Proofs.YtnnmdkaoiofabaaGreat.Rs
open Go Go.RowKit
set_option maxHeartbeats 4000000 in
theorem pow2_any (x:Nat) (hx:x<65536) (w:World) :
  Calls Tryz.prog 155 #[.int .i64 (x:Int)] w fun e w'=>e = .returned (.int .u64 ((2^Lib.bitLen x:Nat):Int))∧w'=w:=by
 have K:=len_any x hx w;have hb:=Lib.bitLen_le x 16 (by omega) (by omega);have hp:(2:Nat)^Lib.bitLen x≤2^16:=Nat.pow_le_pow_right (by decide) hb;have hw:IntKind.u64.wrap ((2:Int)^Lib.bitLen x)=((2^Lib.bitLen x:Nat):Int):=by
  rw[IntKind.wrap_u64,show ((2:Int)^Lib.bitLen x)=((2^Lib.bitLen x:Nat):Int) by push_cast;rfl];generalize (2:Nat)^Lib.bitLen x=p at hp;omega
 generalize Lib.bitLen x=k at K hb hp hw;go_enter Tryz.func155,Tryz.ntmps155
 go_wp2_with (go_at_call 115;refine K.mono ?_;clear K;rintro e w' ⟨rfl,rfl⟩)
 go_ret
 exact⟨rfl,rfl⟩
structure Rn (w0:World) (blk cap:Nat) (U:Nat→Value) (d:Array Int) (c:Nat) (w:World):Prop where
 row:Rw w0 blk cap U d w
 num:∃s:Nat,s<18446744073709551616∧w.cell? ⟨c,0,none⟩=some (.int .u64 (s:Int))
 nfree:w.frozen? ⟨c,0,none⟩=false
 new:w0.heap.size≤c
section
variable {w0 w:World}{blk cap n c:Nat}{U:Nat→Value}{d:Array Int}
theorem Rn.bump (h:Rn w0 blk cap U d c w) (t:Nat) (ht:t<18446744073709551616):Rn w0 blk cap U d c (w.setCell ⟨c,0,none⟩ (.int .u64 (t:Int))):=
 ⟨h.row.setNew h.new 0 _,⟨t,ht,by obtain⟨s,_,hs⟩:=h.num;exact World.cell?_setCell_same' _ _ _ (by rw[hs];rfl)⟩,by rw[World.frozen?_setCell];exact h.nfree,h.new⟩
theorem Rn.drew (h:Rn w0 blk cap U d c w):Rn w0 blk cap U d c w.drew:=⟨h.row.drew,h.num,h.nfree,h.new⟩
theorem Rn.cellOf (h:Rn w0 blk cap U d c w) (t:Nat):(w.setCell ⟨c,0,none⟩ (.int .u64 (t:Int))).drew.cell? ⟨c,0,none⟩=some (.int .u64 (t:Int)):=by
 obtain⟨s,_,hs⟩:=h.num;exact World.cell?_setCell_same' _ _ _ (by rw[hs];rfl)
theorem Rn.cell (h:Rn w0 blk cap U d c w){i:Nat}(hi:i<d.size):w.cell? ⟨blk,i,none⟩=some (.int .u32 d[i]!):=h.row.cell hi
theorem Rn.free (h:Rn w0 blk cap U d c w) (i:Nat):w.frozen? ⟨blk,i,none⟩=false:=h.row.free i
theorem Rn.cell2 (h:Rn w0 blk cap U d c w) (i j:Nat) (hi:i<d.size) (hj:j<d.size) (v:Int):∃u,(w.setCell ⟨blk,i,none⟩ (.int .u32 v)).cell? ⟨blk,j,none⟩=some u:=h.row.cell2 i j hi hj v
theorem Rn.swp (h:Rn w0 blk cap U d c w) (i j:Nat) (hi:i<d.size) (hj:j<d.size) :
  Rn w0 blk cap U (Sort.swp d i j) c ((w.setCell ⟨blk,i,none⟩ (.int .u32 d[j]!)).setCell ⟨blk,j,none⟩ (.int .u32 d[i]!)):=by
 have hne:blk≠c:=by have:=h.new;have:=h.row.old;omega
 refine⟨h.row.swp i j hi hj,?_,?_,h.new⟩
 ·obtain⟨s,h1,hs⟩:=h.num;refine⟨s,h1,?_⟩;rw[World.cell?_setCell_other _ _ _ _ (by intro e;simp only[Addr.mk.injEq]at e;exact hne e.1),World.cell?_setCell_other _ _ _ _ (by intro e;simp only[Addr.mk.injEq]at e;exact hne e.1)];exact hs
 ·rw[World.frozen?_setCell,World.frozen?_setCell];exact h.nfree
set_option maxHeartbeats 4000000 in
theorem next_any (h:Rn w0 blk cap U d c w) :
  Calls Tryz.prog 156 #[.pointer (some ⟨c,0,none⟩)] w fun e w'=>∃t:Nat,t<18446744073709551616∧e = .returned (.int .u64 (t:Int))∧Rn w0 blk cap U d c w':=by
 obtain⟨s,hs,hc⟩:=h.num;have hf:=h.nfree;obtain⟨A,hA⟩:∃A:Nat,A=s ^^^ (s*8192 % 18446744073709551616):=⟨_,rfl⟩
 have lA:A<18446744073709551616:=by rw[hA];exact Nat.xor_lt_two_pow (n:=64) (by omega) (by omega)
 obtain⟨B,hB⟩:∃B:Nat,B=A ^^^ (A / 128):=⟨_,rfl⟩
 have lB:B<18446744073709551616:=by rw[hB];exact Nat.xor_lt_two_pow (n:=64) (by omega) (by omega)
 obtain⟨C,hC⟩:∃C:Nat,C=B ^^^ (B*131072 % 18446744073709551616):=⟨_,rfl⟩
 have lC:C<18446744073709551616:=by rw[hC];exact Nat.xor_lt_two_pow (n:=64) (by omega) (by omega)
 have e1:bits .xor .u64 (s:Int) (IntKind.u64.wrap ((s:Int)*8192))=(A:Int):=by
  rw[IntKind.wrap_u64,show ((s:Int)*8192 % 18446744073709551616)=((s*8192 % 18446744073709551616:Nat):Int) by omega,bits_xor_u64_nat _ _ hs (by omega),hA]
 have e2:bits .xor .u64 (A:Int) ((A:Int) / 128)=(B:Int):=by
  rw[show ((A:Int) / 128)=((A / 128:Nat):Int) by omega,bits_xor_u64_nat _ _ lA (by omega),hB]
 have e3:bits .xor .u64 (B:Int) (IntKind.u64.wrap ((B:Int)*131072))=(C:Int):=by
  rw[IntKind.wrap_u64,show ((B:Int)*131072 % 18446744073709551616)=((B*131072 % 18446744073709551616:Nat):Int) by omega,bits_xor_u64_nat _ _ lB (by omega),hC]
 clear hA hB hC;have h1:=(h.bump A lA).drew;have c1:=h.cellOf A;go_enter Tryz.func156,Tryz.ntmps156
 go_wp2_with fail
 go_region
 generalize (w.setCell ⟨c,0,none⟩ (.int .u64 (A:Int))).drew=w1 at h1 c1 ⊢;have f1:=h1.nfree;have h2:=(h1.bump B lB).drew;have c2:=h1.cellOf B
 go_wp2_with fail
 go_region
 generalize (w1.setCell ⟨c,0,none⟩ (.int .u64 (B:Int))).drew=w2 at h2 c2 ⊢;have f2:=h2.nfree;have h3:=(h2.bump C lC).drew;have c3:=h2.cellOf C
 go_wp2_with fail
 go_region
 generalize (w2.setCell ⟨c,0,none⟩ (.int .u64 (C:Int))).drew=w3 at h3 c3 ⊢
 go_wp2
 go_ret
 exact⟨C,lC,rfl,h3⟩
end
theorem and_fact (X M1:Nat) (hX:X<18446744073709551616) (hM:M1<131072):∃o:Nat,bits .and .u64 (X:Int) (M1:Int)=(o:Int)∧o≤M1:=
 ⟨X &&& M1,bits_and_u64_nat X M1 hX (by omega),Nat.and_le_right⟩
set_option maxHeartbeats 8000000 in
set_option maxRecDepth 100000 in
theorem brk_any {w0 w:World}{blk cap n:Nat}{U:Nat→Value}{d:Array Int}(h:Rw w0 blk cap U d w) (hn:d.size=n) (hsz:n<65536) (a b:Nat) (hab:a+12<b) (hb:b≤n) :
  Calls Tryz.prog 129 #[.slice (some ⟨blk,0,none⟩) n cap,.int .i64 (a:Int),.int .i64 (b:Int)] w fun e w'=>e = .returned (.tuple #[])∧∃d',Pm a b d d'∧Rw w0 blk cap U d' w':=by
 obtain⟨l,hl⟩:∃l:Nat,(b:Int)-(a:Int)=(l:Int):=⟨b-a,by omega⟩
 have hlA:Aside (a+l=b∧12<l):=(by omega:a+l=b∧12<l)
 obtain⟨q,hq⟩:∃q:Nat,(l:Int) / 4=(q:Int):=⟨l / 4,by omega⟩
 have hq':(l:Int).tdiv 4=(q:Int):=by rw[Int.tdiv_eq_ediv_of_nonneg (by omega)];exact hq
 obtain⟨m,hm⟩:∃m:Nat,(a:Int)+(q:Int)*2=(m:Int):=⟨a+q*2,by omega⟩
 have hmA:Aside (a<m∧m+1<b):=(by omega:a<m∧m+1<b)
 have h8:(8:Int)≤(l:Int):=by omega
 have hlw:IntKind.u64.wrap (l:Int)=(l:Int):=by rw[IntKind.wrap_u64];omega
 have hs0:Aside (d.size=n):=hn;obtain⟨M,hM⟩:∃M,M=2^Lib.bitLen l:=⟨_,rfl⟩
 have hMA:Aside (0<M∧M≤2*l∧M≤131072):=by
  have h1:=bl_spec l l (Nat.le_refl _) (by omega);have h2:=h1.2 (by omega);have h3:=Nat.two_pow_pos (Lib.bitLen l);rw[← hM]at h2 h3;exact⟨h3,h2,by omega⟩
 have hR:=h.alloc (.cells #[.int .u64 (l:Int)] 233);have hc:(w.alloc (.cells #[.int .u64 (l:Int)] 233)).cell? ⟨w.heap.size,0,none⟩=some (.int .u64 (l:Int)):=by simp
 have hN0:Rn w0 blk cap U d w.heap.size (w.alloc (.cells #[.int .u64 (l:Int)] 233)):=⟨hR,⟨l,by omega,hc⟩,by simp,h.size_le⟩
 have K:=fun w=>pow2_any l (by omega) w
 rw[← hM]at K;have hn2:Aside (b≤n):=hb;clear h hn hR hc hM;go_enter Tryz.func129,Tryz.ntmps129
 go_wp2_with (go_at_call 155;refine(K _).mono ?_;rintro e w' ⟨rfl,rfl⟩)
 obtain⟨w1,hw1⟩:∃w1,w1=w.alloc (.cells #[.int .u64 (l:Int)] 233):=⟨_,rfl⟩
 rw[← hw1]at hN0 ⊢;generalize w.heap.size=c at hN0 ⊢;clear hw1 K;go_loopg [9] 3 (fun g s wr=>∃(t:Nat) (D:Array Int),s = .int .i64 (t:Int)∧t+g=m+2∧g≤3∧Aside (D.size=n)∧Aside (Pm a b d D)∧Rn w0 blk cap U D c wr)
 case atStart=>exact⟨m-1,d,by have:=hmA.out;go_num,by have:=hmA.out;omega,Nat.le_refl _,hs0,Pm.refl _ _ _,hN0⟩
 case round =>
  clear hN0;obtain⟨t,D,rfl,htg,hg3,hs,hP,hN⟩:=hrel;have htA:Aside (t+gk=m+2):=htg;by_cases ht:t≤m+1
  ·have htz:(t:Int)≤(m:Int)+1:=by omega
   have K:=next_any hN;have hMz:(M:Int)-1=((M-1:Nat):Int):=by have:=hMA.out;omega
   have hMw:IntKind.u64.wrap ((M:Int)-1)=((M-1:Nat):Int):=by rw[hMz,IntKind.wrap_u64];have:=hMA.out;omega
   obtain⟨M1,hM1⟩:∃M1,M1=M-1:=⟨_,rfl⟩
   rw[← hM1]at hMz hMw;have hM1A:Aside (M1<2*l∧M1<131072):=(by have:=hMA.out;omega:M1<2*l∧M1<131072)
   have hM1w:IntKind.u64.wrap (M1:Int)=(M1:Int):=by rw[IntKind.wrap_u64];have:=hM1A.out;omega
   have hM1b:M1<131072:=hM1A.out.2;clear hM1;go_upto_if 43 with (go_at_call 156;refine K.mono ?_;clear K;rintro e w2 ⟨X,hX,rfl,hN2⟩;obtain⟨o,hand,hob⟩:=and_fact X M1 hX hM1b)
   go_cut [10]from 41 to 46 (fun so w=>∃o:Nat,so = .int .i64 (o:Int)∧o<l∧w=w2)
   case first =>
    by_cases hol:o<l
    ·have hz:¬(l:Int)≤(o:Int):=by omega
     go_wp2
     go_meet
     case rel=>exact⟨o,rfl,hol,rfl⟩
    ·have hz:(l:Int)≤(o:Int):=by omega
     go_wp2
     go_meet
     case rel=>exact⟨o-l,by first|go_num | (congr 1;omega),by have:=hM1A.out;omega,rfl⟩
   case rest =>
    obtain⟨oo,rfl,hoo,rfl⟩:=hcut;obtain⟨pk,hpk⟩:∃pk:Nat,(a:Int)+(oo:Int)=(pk:Int):=⟨a+oo,by omega⟩
    have hpA:Aside (a≤pk∧pk<b):=(by have:=hlA.out;omega:a≤pk∧pk<b)
    have hmm:=hmA.out;have hnn:=hn2.out;have hpp:=hpA.out;have hgk:Aside (0<gk):=(by omega:0<gk)
    have hgk3:Aside (m≤t+1):=(by simp only[Aside];have:=htA.out;omega)
    have bI:(t:Int)<(n:Int):=by omega
    have bJ:(pk:Int)<(n:Int):=by omega
    have cI:=hN2.cell (i:=t) (by have:=hs.out;omega);have cJ:=hN2.cell (i:=pk) (by have:=hs.out;omega);have fI:=hN2.free t;have fJ:=hN2.free pk;have hN2s:=(hN2.swp t pk (by have:=hs.out;omega) (by have:=hs.out;omega)).drew;obtain⟨u,cU⟩:=hN2.cell2 t pk (by have:=hs.out;omega) (by have:=hs.out;omega) D[pk]!;generalize D[t]! = vx at cI hN2s;generalize D[pk]! = vy at cJ cU hN2s
    go_wp2_with fail
    go_region
    generalize ((wc.setCell ⟨blk,t,none⟩ (.int .u32 vy)).setCell ⟨blk,pk,none⟩ (.int .u32 vx)).drew=wcs at hN2s ⊢;clear cI cJ fI fJ cU hN2
    go_wp2
    go_roundg (gk-1)
    case measure=>have:=hgk.out;omega
    case rel=>exact⟨t+1,_,by go_num,by have:=hgk.out;have:=htA.out;omega,by omega,(show Aside _ from by rw[size_swp];exact hs.out),hP.out.swp (by have:=hgk3.out;omega) (by omega) (by omega) (by omega) (by have:=hs.out;omega),hN2s⟩
  ·have htz:¬(t:Int)≤(m:Int)+1:=by omega
   go_wp2
   go_end0
   exact⟨rfl,D,hP.out,hN.row⟩
end Go.Proofs.YtnnmdkaoiofabaaGreat.Rs
