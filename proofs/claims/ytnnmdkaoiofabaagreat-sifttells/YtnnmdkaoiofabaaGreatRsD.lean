/-
  The library's sort of a row: what comes out is what went in, in rising order. The library's sort of no handles at all.
-/
import Derived.Test.YtnnmdkaoiofabaaGreatRsP
import Derived.Test.YtnnmdkaoiofabaaGreatRsC
namespace Go.Proofs.YtnnmdkaoiofabaaGreat.Rs
open Go Go.RowKit
def Srt (a b:Nat) (d R:Array Int):Prop:=Pm a b d R∧Sort.SortedIn lt a b R
abbrev Abv (a b:Nat) (d:Array Int):Prop:=Sort.Below lt a b d
abbrev swo := Sort.swo_ltInt
theorem Pm.all {a b:Nat}{d d':Array Int}(h:Pm a b d d') (hb:b≤d.size) (p:Int→Prop) (k:∀i,a≤i→i<b→p d[i]!):∀i,a≤i→i<b→p d'[i]!:=Sort.permIn_all d d' a b p hb h k
theorem Pm.wide {a b a' b':Nat}{d d':Array Int}(h:Pm a b d d') (h1:a'≤a) (h2:b≤b') (h3:b'≤d.size):Pm a' b' d d':=Sort.permIn_mono d d' a b a' b' h1 h2 h3 h
theorem Pm.out {a b:Nat}{d d':Array Int}(h:Pm a b d d'){i:Nat}(hi:i<a∨b≤i):d'[i]! = d[i]!:=h.2.1 i hi
theorem Even.round {a b m pv:Nat}{d D:Array Int}(h:Even a b m d[pv]! d D) (hb:b≤d.size) (ha:0<a) (hB:Abv a b d) (hl:lt d[a-1]! d[pv]! = false) :
  Abv m b D∧∀R,Srt m b D R→Srt a b d R:=by
 have hge:∀i,a≤i→i<b→lt d[i]! d[pv]! = false:=fun i h1 h2=>by
  rcases hB with e|hB
  ·omega
  ·exact swo.ntrans _ _ _ (hB i h1 h2) hl
 have hge4:=h.perm.all hb (fun x=>lt x d[pv]! = false) hge;have hbD:b≤D.size:=by rw[h.perm.size];exact hb
 have am:=h.am;have mb:=h.mb;refine⟨.inr fun i h1 h2=>?_,fun R hR=>⟨h.perm.trans (hR.1.wide (by omega) (Nat.le_refl _) hbD),?_⟩⟩
 ·have q1:=h.hi i h1 h2;have q2:=h.lo (m-1) (by omega) (by omega);cases hc:lt D[i]! D[m-1]! with
  | false=>rfl
  | true =>
   have this:lt d[pv]! D[m-1]! = true:=swo.trans _ _ _ q1 hc;rw[q2]at this;cases this
 ·refine Sort.sorted_glue_eq swo d[pv]! hR.2 (fun i h1 h2=>?_) (fun i h1 h2=>?_) (hR.1.all hbD (fun x=>lt d[pv]! x=true) h.hi)
  ·rw[hR.1.out (.inl h2)];exact h.lo i h1 h2
  ·rw[hR.1.out (.inl h2)];exact hge4 i h1 (by omega)
theorem Parted.round {a b m:Nat}{d D:Array Int}(h:Parted a b m d D) (hb:b≤d.size) (hB:Abv a b d) :
  Abv a m D∧Abv (m+1) b D∧(∀L,Srt a m D L→Abv (m+1) b L∧∀R,Srt (m+1) b L R→Srt a b d R)∧(∀L,Srt (m+1) b D L→Abv a m L∧∀R,Srt a m L R→Srt a b d R):=by
 have am:=h.am;have mb:=h.mb;have hbD:b≤D.size:=by rw[h.perm.size];exact hb
 have hBD:Abv a b D:=hB.perm hb h.perm;have hBa:Abv a m D:=hBD.mono (by omega);refine⟨hBa,.inr fun i h1 h2=>by rw[Nat.add_sub_cancel];exact h.hi i (by omega) h2,fun L hL=>?_,fun L hL=>?_⟩
 ·have hbL:b≤L.size:=by rw[hL.1.size];exact hbD
  have eL:∀i,m≤i→L[i]! = D[i]!:=fun i hi=>hL.1.out (.inr hi)
  refine⟨.inr fun i h1 h2=>by rw[Nat.add_sub_cancel,eL i (by omega),eL m (Nat.le_refl _)];exact h.hi i (by omega) h2,fun R hR=>?_⟩;have eR:∀i,i≤m→R[i]! = L[i]!:=fun i hi=>hR.1.out (.inl (by omega))
  refine⟨h.perm.trans ((hL.1.wide (Nat.le_refl _) (by omega) hbD).trans (hR.1.wide (by omega) (Nat.le_refl _) hbL)),?_⟩;refine Sort.sorted_glue swo (hL.2.congr fun i _ hi=>eR i (by omega)) hR.2 (fun i h1 h2=>?_) (fun i h1 h2=>?_)
  ·rw[eR i (by omega),eR m (Nat.le_refl _),eL m (Nat.le_refl _)];exact hL.1.all (by omega) (fun x=>lt x D[m]! = true) h.lo i h1 h2
  ·rw[eR m (Nat.le_refl _),eL m (Nat.le_refl _)];exact hR.1.all hbL (fun x=>lt x D[m]! = false) (fun k k1 k2=>by rw[eL k (by omega)];exact h.hi k (by omega) k2) i (by omega) h2
 ·have hbL:b≤L.size:=by rw[hL.1.size];exact hbD
  have eL:∀i,i≤m→L[i]! = D[i]!:=fun i hi=>hL.1.out (.inl (by omega))
  refine⟨?_,fun R hR=>?_⟩
  ·rcases hBa with e|hBa
   ·exact .inl e
   ·exact .inr fun i h1 h2=>by rw[eL i (by omega),eL (a-1) (by omega)];exact hBa i h1 h2
  ·have eR:∀i,m≤i→R[i]! = L[i]!:=fun i hi=>hR.1.out (.inr hi)
   refine⟨h.perm.trans ((hL.1.wide (by omega) (Nat.le_refl _) hbD).trans (hR.1.wide (Nat.le_refl _) (by omega) hbL)),?_⟩;refine Sort.sorted_glue swo hR.2 (hL.2.congr fun i h1 _=>eR i (by omega)) (fun i h1 h2=>?_) (fun i h1 h2=>?_)
   ·rw[eR m (Nat.le_refl _),eL m (Nat.le_refl _)];exact hR.1.all (by omega) (fun x=>lt x D[m]! = true) (fun k k1 k2=>by rw[eL k (by omega)];exact h.lo k k1 k2) i h1 h2
   ·rw[eR i (by omega),eR m (Nat.le_refl _),eL m (Nat.le_refl _)];exact hL.1.all hbD (fun x=>lt x D[m]! = false) (fun k k1 k2=>h.hi k (by omega) k2) i (by omega) h2
theorem Srt.of_perm {a b:Nat}{d D R:Array Int}(h:Pm a b d D) (k:Srt a b D R):Srt a b d R:=⟨h.trans k.1,k.2⟩
def Sorts30 (k:Nat):Prop:=∀(w0 w:World) (blk cap n:Nat) (U:Nat→Value) (d:Array Int) (a b l:Nat),Rw w0 blk cap U d w→d.size=n→n<65536→a≤b→b≤n→l≤64→Abv a b d→b-a<k →
 Calls Tryz.prog 114 #[.slice (some ⟨blk,0,none⟩) n cap,.int .i64 (a:Int),.int .i64 (b:Int),.int .i64 (l:Int)] w fun e w'=>e = .returned (.tuple #[])∧∃R,Srt a b d R∧Rw w0 blk cap U R w'
set_option maxHeartbeats 32000000 in
set_option maxRecDepth 100000 in
theorem pdq_step (k:Nat) (ih:Aside (Sorts30 k)):Sorts30 (k+1):=by
 intro w0 w blk cap n U d a0 b0 l0 h hn hsz hab0 hb0 hl0 hB0 hk0;have hs0:Aside (d.size=n):=hn;have hk:Aside (b0-a0<k+1):=hk0;have hR0:=h;have hB0:Aside (Abv a0 b0 d):=hB0;clear h hn hk0;go_enter Tryz.func114,Tryz.ntmps114
 go_wp2
 go_loopg [1,2,3,8,9] k (fun g s1 s2 s3 s8 s9 wr=>∃(a b l:Nat) (bal prt:Bool) (D:Array Int),s1 = .int .i64 (a:Int)∧s2 = .int .i64 (b:Int)∧s3 = .int .i64 (l:Int)∧s8 = .bool bal∧s9 = .bool prt∧a≤b∧b≤n∧l≤64∧Aside (b-a≤g∧b-a≤k)∧Aside (D.size=n)∧Aside (Abv a b D)∧Aside (∀R,Srt a b D R→Srt a0 b0 d R)∧Rw w0 blk cap U D wr)
 case atStart=>exact⟨a0,b0,l0,true,true,d,rfl,rfl,rfl,rfl,rfl,hab0,hb0,hl0,(show Aside _ from by have:=hk.out;exact⟨by omega,by omega⟩),hs0,hB0,(show Aside _ from fun R hR=>hR),hR0⟩
 case round =>
  clear hR0 hB0 hs0;obtain⟨a,b,l,bal,prt,D,rfl,rfl,rfl,rfl,rfl,hab,hb,hl,hg,hs,hB,hT,hR⟩:=hrel;obtain⟨len,hlen⟩:∃len:Nat,(b:Int)-(a:Int)=(len:Int):=⟨b-a,by omega⟩
  have hlenA:Aside (a+len=b):=(by omega:a+len=b)
  by_cases h12:len≤12
  ·have h12z:(len:Int)≤12:=by omega
   have K:=ins_any hR hs.out (by omega) a b hab hb
   go_wp2_with (go_at_call 127;refine K.mono ?_;clear K;rintro e w1 ⟨rfl,hR1⟩)
   refine bodyPost_ret (results_none rfl _ _ _) rfl ?_;have:=Sort.insertionSort_holds (lt:=lt) swo D a b hab (by have:=hs.out;omega);exact⟨rfl,_,hT.out _ ⟨this.1,this.2⟩,hR1⟩
  ·have h12z:¬(len:Int)≤12:=by omega
   have hab':a<b:=by omega
   have hab12:Aside (a+12<b):=(by omega:a+12<b)
   by_cases hl0:l=0
   ·have hl0z:(l:Int)=0:=by omega
    have K:=heap_any hR hs.out (by omega) a b hab' hb
    go_wp2_with (go_at_call 128;refine K.mono ?_;clear K;rintro e w1 ⟨rfl,hR1⟩)
    refine bodyPost_ret (results_none rfl _ _ _) rfl ?_;have:=Sort.heapSort_holds (lt:=lt) swo D a b hab (by have:=hs.out;omega);exact⟨rfl,_,hT.out _ ⟨this.1,this.2⟩,hR1⟩
   ·have hl0z:¬(l:Int)=0:=by omega
    have hl0b:((l:Int) == 0)=false:=by simpa using hl0z
    go_upto_if 35 with fail
    go_cut [3]from 34 to 41 (fun s w=>∃(l':Nat) (D':Array Int),s = .int .i64 (l':Int)∧l'≤64∧Aside (Pm a b D D')∧Rw w0 blk cap U D' w)
    case first =>
     cases bal with
     | true =>
      go_wp2
      go_meet
      case rel=>exact⟨l,D,rfl,hl,(show Aside _ from Pm.refl _ _ _),hR⟩
     | false =>
      have K:=brk_any hR hs.out hsz a b hab12.out hb
      go_wp2_with (go_at_call 129;refine K.mono ?_;clear K;rintro e w1 ⟨rfl,D1,hP1,hR1⟩)
      go_meet
      case rel=>exact⟨l-1,D1,by go_num,by omega,hP1,hR1⟩
    case rest =>
     clear hR;obtain⟨l1,D1,rfl,hl1,hP1,hR⟩:=hcut;have hs1:Aside (D1.size=n):=by show _=_;rw[hP1.out.size];exact hs.out
     have K:=pivot_any hR hs1.out (by omega) a b hab12.out hb;go_upto_if 50 with (go_at_call 130;refine K.mono ?_;clear K;rintro e w2 ⟨p,t,rfl,hap,hpb,ht,hR2⟩)
     go_cut [11,12]from 49 to 60 (fun sp st w=>∃(p':Nat) (t':Int) (D':Array Int),sp = .int .i64 (p':Int)∧st = .int .i64 t'∧a≤p'∧p'<b∧Aside (Pm a b D D')∧Rw w0 blk cap U D' w)
     case first =>
      by_cases ht2:t=2
      ·subst ht2;have K:=rev_any hR2 hs1.out (by omega) a b hab' hb
       go_wp2_with (go_at_call 131;refine K.mono ?_;clear K;rintro e w3 ⟨rfl,D2,hP2,hR3⟩)
       go_meet
       case rel=>exact⟨b-1-(p-a),1,D2,by first|go_num | (congr 1;omega),rfl,by omega,by omega,hP1.out.trans hP2,hR3⟩
      ·go_wp2
       go_meet
       case rel=>exact⟨p,t,D1,rfl,rfl,hap,hpb,hP1,hR2⟩
     case rest =>
      clear hR hR2 hap hpb hs1 hP1 ht;obtain⟨p,t,D2,rfl,rfl,hap,hpb,hP2,hR⟩:=hcut;have hs2:Aside (D2.size=n):=by show _=_;rw[hP2.out.size];exact hs.out
      go_upto_region 15 with fail
      go_cut [68]from 61 to 68 (fun sb w=>∃bb:Bool,sb = .bool bb∧Rw w0 blk cap U D2 w)
      case first =>
       have hR':=hR;clear hR;cases bal <;> cases prt
       case true.true =>
        by_cases ht1:t=1
        ·have ht1b:(t == 1)=true:=by simpa using ht1
         go_wp2
         go_meet
         case rel=>exact⟨_,rfl,hR'⟩
        ·have ht1b:(t == 1)=false:=by simpa using ht1
         go_wp2
         go_meet
         case rel=>exact⟨_,rfl,hR'⟩
       all_goals (go_wp2;go_meet;exact⟨_,rfl,hR'⟩)
      case rest =>
       clear hR;obtain⟨bb,rfl,hR⟩:=hcut;have hPB:Aside (Abv a b D2):=hB.out.perm (by have:=hs.out;omega) hP2.out;go_upto_if 68 with fail
       go_cut []from 68 to 72 (fun w=>∃(D':Array Int),Aside (Pm a b D D')∧Rw w0 blk cap U D' w)
       case first =>
        cases bb with
        | false =>
         go_wp2
         go_meet
         case rel=>exact⟨D2,hP2,hR⟩
        | true =>
         have K:=pins_any hR hs2.out (by omega) a b hab' hb;have hI:=Sort.partialInsertionSort_holds (lt:=lt) swo D2 a b hab' (by have:=hs2.out;omega) hPB.out;generalize Sort.partialInsertionSort lt D2 a b=pi at K hI;obtain⟨D3,ok⟩:=pi;have hIA:Aside (Pm a b D2 D3∧(ok=true→Sort.SortedIn lt a b D3)):=hI;clear hI;have K:Calls Tryz.prog 132 _ _ fun e w'=>e = .returned (.bool ok)∧Rw w0 blk cap U D3 w':=K
         cases ok with
         | true =>
          go_wp2_with (go_at_call 132;refine K.mono ?_;clear K;rintro e w3 ⟨rfl,hR3⟩)
          refine bodyPost_ret (results_none rfl _ _ _) rfl ?_;have hI:=hIA.out;exact⟨rfl,D3,hT.out _ ⟨hP2.out.trans hI.1,hI.2 (by simp)⟩,hR3⟩
         | false =>
          go_wp2_with (go_at_call 132;refine K.mono ?_;clear K;rintro e w3 ⟨rfl,hR3⟩)
          go_meet
          case rel=>exact⟨D3,hP2.out.trans hIA.out.1,hR3⟩
       case rest =>
        clear hR hP2 hs2 hPB;obtain⟨D3,hP3,hR⟩:=hcut;have hs3:Aside (D3.size=n):=by show _=_;rw[hP3.out.size];exact hs.out
        have hB3:Aside (Abv a b D3):=hB.out.perm (by have:=hs.out;omega) hP3.out;have hT3:Aside (∀R,Srt a b D3 R→Srt a0 b0 d R):=fun R hR=>hT.out R (Srt.of_perm hP3.out hR)
        go_upto_region 17 with fail
        go_cut [87]from 73 to 87 (fun sb w=>∃bb:Bool,sb = .bool bb∧Aside (bb=true→0<a∧lt D3[a-1]! D3[p]! = false)∧Rw w0 blk cap U D3 w)
        case first =>
         by_cases ha:0<a
         ·obtain⟨am,ham⟩:∃am:Nat,(a:Int)-1=(am:Int):=⟨a-1,by omega⟩
          have hamA:Aside (am=a-1):=(by omega:am=a-1)
          have hdz:(0:Int)<(a:Int):=by omega
          have hd:decide ((a:Int) > 0)=true:=decide_eq_true hdz;have hd2:decide ((0:Int)<(a:Int))=true:=decide_eq_true hdz;have bI:(am:Int)<(n:Int):=by omega
          have bJ:(p:Int)<(n:Int):=by omega
          have cI:=hR.cell (i:=am) (by have:=hs3.out;omega);have cJ:=hR.cell (i:=p) (by have:=hs3.out;omega);obtain⟨vx,hvx⟩:∃v,v=D3[am]!:=⟨_,rfl⟩
          obtain⟨vy,hvy⟩:∃v,v=D3[p]!:=⟨_,rfl⟩
          have hvxA:Aside (vx=D3[am]!):=hvx;have hvyA:Aside (vy=D3[p]!):=hvy;rw[← hvx]at cI;rw[← hvy]at cJ;have K:=fun w=>less_any vx vy w
          clear hvx hvy;cases hl:lt vx vy with
          | true =>
           rw[show Sort.ltInt vx vy=true from hl]at K;have hlA:Aside (lt D3[am]! D3[p]! = true):=by rw[← hvxA.out,← hvyA.out];exact hl
           clear hl hvxA hvyA
           go_wp2_with fail
           go_quiet (first | (go_at_call 133;exact Calls.quiet_of_same (K _)))
           have hRq:=hR.drewN nq;generalize wc.drewN nq=wcq at hRq ⊢;clear nq cI cJ K hR
           go_wp2_with fail
           go_meet
           case rel=>exact⟨_,rfl,(show Aside _ from fun e=>by cases e),hRq⟩
          | false =>
           rw[show Sort.ltInt vx vy=false from hl]at K;have hlA:Aside (lt D3[am]! D3[p]! = false):=by rw[← hvxA.out,← hvyA.out];exact hl
           clear hl hvxA hvyA
           go_wp2_with fail
           go_quiet (first | (go_at_call 133;exact Calls.quiet_of_same (K _)))
           have hRq:=hR.drewN nq;generalize wc.drewN nq=wcq at hRq ⊢;clear nq cI cJ K hR
           go_wp2_with fail
           go_meet
           case rel=>exact⟨_,rfl,(show Aside _ from fun _=>⟨ha,by rw[← hamA.out];exact hlA.out⟩),hRq⟩
         ·have hdz:¬(0:Int)<(a:Int):=by omega
          have hd:decide ((a:Int) > 0)=false:=decide_eq_false hdz;have hd2:decide ((0:Int)<(a:Int))=false:=decide_eq_false hdz
          go_wp2_with fail
          go_region
          go_wp2_with fail
          go_meet
          case rel=>exact⟨_,rfl,(show Aside _ from fun e=>by cases e),hR.drew⟩
        case rest =>
         clear hR;obtain⟨bb,rfl,hbb,hR⟩:=hcut;cases bb with
         | true =>
          have K:=parteq_any hR hs3.out (by omega) a b p hap hpb hb
          go_wp2_with (go_at_call 134;refine K.mono ?_;clear K;rintro e w3 ⟨m,D4,rfl,hE,hR4⟩;have hm1:=hE.am;have hm2:=hE.mb)
          have hEr:=hE.round (by have:=hs3.out;omega) (hbb.out (by simp)).1 hB3.out (hbb.out (by simp)).2;go_roundg (b-m)
          case measure=>have:=hg.out;omega
          case rel=>exact⟨m,b,l1,bal,prt,D4,rfl,rfl,rfl,rfl,rfl,by omega,hb,hl1,(show Aside _ from by have:=hg.out;exact⟨Nat.le_refl _,by omega⟩),(show Aside _ from by show _=_;rw[hE.perm.size];exact hs3.out),hEr.1,(show Aside _ from fun R hR=>hT3.out R (hEr.2 R hR)),hR4⟩
         | false =>
          have K:=part_any hR hs3.out (by omega) a b p hap hpb hb;have hlen8:(len:Int).tdiv 8=(len:Int) / 8:=Int.tdiv_eq_ediv_of_nonneg (by omega);go_upto_if 113 with (go_at_call 135;refine K.mono ?_;clear K;rintro e w3 ⟨m,ap,D4,rfl,hE,hR4⟩;have hm1:=hE.am;have hm2:=hE.mb)
          have hEr:=hE.round (by have:=hs3.out;omega) hB3.out;have hs4:Aside (D4.size=n):=by show _=_;rw[hE.perm.size];exact hs3.out
          have hErA:Aside (Abv a m D4∧Abv (m+1) b D4∧(∀L,Srt a m D4 L→Abv (m+1) b L∧∀R,Srt (m+1) b L R→Srt a b D3 R)∧(∀L,Srt (m+1) b D4 L→Abv a m L∧∀R,Srt a m L R→Srt a b D3 R)):=hEr;clear hEr hE;by_cases hsd:(m:Int)-(a:Int)<(b:Int)-(m:Int)
          ·have K:=ih.out w0 w3 blk cap n U D4 a m l1 hR4 hs4.out hsz hm1 (by omega) hl1 hErA.out.1 (by have:=hg.out;omega)
           go_wp2_with (go_at_call 114;refine K.mono ?_;clear K;rintro e w5 ⟨rfl,L,hL,hR5⟩)
           have hLr:=hErA.out.2.2.1 L hL;go_roundg (b-(m+1))
           case measure=>have:=hg.out;omega
           case rel=>exact⟨m+1,b,l1,_,ap,L,by go_num,rfl,rfl,rfl,rfl,by omega,hb,hl1,(show Aside _ from by have:=hg.out;exact⟨Nat.le_refl _,by omega⟩),(show Aside _ from by show _=_;rw[hL.1.size];exact hs4.out),hLr.1,(show Aside _ from fun R hR=>hT3.out R (hLr.2 R hR)),hR5⟩
          ·obtain⟨m1,hm1z⟩:∃m1:Nat,(m:Int)+1=(m1:Int):=⟨m+1,by omega⟩
           have hm1A:Aside (m1=m+1):=(by omega:m1=m+1)
           have K:=ih.out w0 w3 blk cap n U D4 m1 b l1 hR4 hs4.out hsz (by omega) hb hl1 (by rw[hm1A.out];exact hErA.out.2.1) (by have:=hg.out;omega)
           go_wp2_with (go_at_call 114;refine K.mono ?_;clear K;rintro e w5 ⟨rfl,L,hL,hR5⟩)
           rw[hm1A.out]at hL;have hLr:=hErA.out.2.2.2 L hL;go_roundg (m-a)
           case measure=>have:=hg.out;omega
           case rel=>exact⟨a,m,l1,_,ap,L,rfl,rfl,rfl,rfl,rfl,hm1,by omega,hl1,(show Aside _ from by have:=hg.out;exact⟨Nat.le_refl _,by omega⟩),(show Aside _ from by show _=_;rw[hL.1.size];exact hs4.out),hLr.1,(show Aside _ from fun R hR=>hT3.out R (hLr.2 R hR)),hR5⟩
theorem pdq_any (k:Nat):Sorts30 k:=by
 induction k with
 | zero=>intro w0 w blk cap n U d a b l _ _ _ _ _ _ _ h;omega
 | succ k ih=>exact pdq_step k ih
set_option maxHeartbeats 4000000 in
theorem sort_any {w0 w:World}{blk cap n:Nat}{U:Nat→Value}{d:Array Int}(h:Rw w0 blk cap U d w) (hn:d.size=n) (hsz:n<65536) :
  Calls Tryz.prog 96 #[.slice (some ⟨blk,0,none⟩) n cap] w fun e w'=>e = .returned (.tuple #[])∧∃R,Srt 0 n d R∧Rw w0 blk cap U R w':=by
 have K:=len_any n hsz w;have hl:=Lib.bitLen_le n 16 (by omega) (by omega);have hw:IntKind.u64.wrap (n:Int)=(n:Int):=by rw[IntKind.wrap_u64];omega
 generalize Lib.bitLen n=l at K hl;have K2:=pdq_any (n+1) w0 w blk cap n U d 0 n l h hn hsz (Nat.zero_le _) (Nat.le_refl _) (by omega) (.inl rfl) (by omega);go_enter Tryz.func96,Tryz.ntmps96
 go_wp2_with (first
  | (go_at_call 115;refine K.mono ?_;clear K;rintro e w ⟨rfl,rfl⟩)
  | (go_at_call 114;refine K2.mono ?_;clear K2;rintro e w2 ⟨rfl,R,hR,h2⟩))
 go_end0
 exact⟨rfl,R,hR,h2⟩
end Go.Proofs.YtnnmdkaoiofabaaGreat.Rs
namespace Go.Proofs.YtnnmdkaoiofabaaGreat.Rs
open Go Go.RowKit
set_option maxHeartbeats 4000000 in
theorem ins_none (v:Option Addr) (cap:Nat) (w:World):Calls Tryz.prog 127 #[.slice v 0 cap,.int .i64 0,.int .i64 0] w fun e w'=>e = .returned (.tuple #[])∧w'=w:=by
 go_enter Tryz.func127,Tryz.ntmps127
 go_wp2
 go_loopg [6] 1 (fun _ s wr=>s = .int .i64 1∧wr=w)
 case atStart=>exact⟨rfl,rfl⟩
 case round =>
  obtain⟨rfl,rfl⟩:=hrel
  go_wp2
  go_end0
  exact⟨rfl,rfl⟩
set_option maxHeartbeats 4000000 in
set_option maxRecDepth 100000 in
theorem pdq_none (v:Option Addr) (cap:Nat) (w:World):Calls Tryz.prog 114 #[.slice v 0 cap,.int .i64 0,.int .i64 0,.int .i64 0] w fun e w'=>e = .returned (.tuple #[])∧w'=w:=by
 have K:=ins_none v cap w;go_enter Tryz.func114,Tryz.ntmps114
 go_wp2
 go_loopg [1,2,3,8,9] 1 (fun _ s1 s2 s3 s8 s9 wr=>s1 = .int .i64 0∧s2 = .int .i64 0∧s3 = .int .i64 0∧s8 = .bool true∧s9 = .bool true∧wr=w)
 case atStart=>exact⟨rfl,rfl,rfl,rfl,rfl,rfl⟩
 case round =>
  obtain⟨rfl,rfl,rfl,rfl,rfl,rfl⟩:=hrel
  go_wp2_with (go_at_call 127;refine K.mono ?_;clear K;rintro e w1 ⟨rfl,rfl⟩)
  refine bodyPost_ret (results_none rfl _ _ _) rfl ?_;exact⟨rfl,rfl⟩
set_option maxHeartbeats 4000000 in
theorem sort_none (v:Option Addr) (cap:Nat) (w:World):Calls Tryz.prog 96 #[.slice v 0 cap] w fun e w'=>e = .returned (.tuple #[])∧w'=w:=by
 have K:Calls Tryz.prog 115 #[.int .u64 0] w fun e w'=>e = .returned (.int .i64 0)∧w'=w:=len_any 0 (by omega) w
 have K2:=pdq_none v cap w;go_enter Tryz.func96,Tryz.ntmps96
 go_wp2_with (first
  | (go_at_call 115;refine K.mono ?_;clear K;rintro e w1 ⟨rfl,rfl⟩)
  | (go_at_call 114;refine K2.mono ?_;clear K2;rintro e w2 ⟨rfl,rfl⟩))
 go_end0
 exact⟨rfl,rfl⟩
end Go.Proofs.YtnnmdkaoiofabaaGreat.Rs
