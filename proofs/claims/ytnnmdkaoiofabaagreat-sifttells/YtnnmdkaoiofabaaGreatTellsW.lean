/-
  SiftTells, walked.
-/
import Derived.Test.YtnnmdkaoiofabaaGreatSkH
import Derived.Test.YtnnmdkaoiofabaaGreatSwV
namespace Go.Proofs.YtnnmdkaoiofabaaGreat.Sf
open Go Go.RowKit
open Rf (tab word same IsTab TabsAt does_val does_call vok_plain x_move x_load x_bin x_un x_index x_call wp_region_vals)
open Mk (HsAt)
open Sk (Tn PlP fnL grow_region)
open Sw (tab3 IsT3 BtAt)
theorem unl_le {H:Nat→Nat}{n:Nat}{zs:List Nat}(u:Unl H n zs):zs.length≤n:=by
 have:=nodup_le zs ((List.range n).map H) (u.up.imp fun h=>Nat.ne_of_lt h) fun x hx=>by
  obtain⟨_,i,hi,e⟩:=(u.mem x).1 hx;exact List.mem_map.2 ⟨i,List.mem_range.2 hi,e⟩
 rwa [List.length_map,List.length_range]at this
set_option maxRecDepth 100000 in
set_option maxHeartbeats 8000000 in
theorem tells_walk (z:Int) (T:Nat→Nat→Bool) (y:Int) (ad:Option Addr) (len cap:Nat) (V:Nat→Nat) (W:World) (z0:0≤z) (hV:BtAt W ad len V) (hb:∀i,i<len→V i<256) :
  Calls Tryz.prog 3 #[.int .u8 z,tab3 T,.int .u8 y,.slice ad len cap] W fun e w'=>e = .returned (.bool true)∧Below W.heap.size W w':=by
 conv in #[Value.int .u8 z, tab3 T, Value.int .u8 y, Value.slice ad len cap] => unfold tab3
 obtain⟨t,ht⟩:∃t:Nat,Int.tmod z 8=(t:Int):=⟨(z % 8).toNat,by rw[Int.tmod_eq_emod_of_nonneg z0];omega⟩
 have t8:t<8:=by have:=Int.tmod_lt_of_pos z (show (0:Int)<8 by omega);omega
 have wt1:IntKind.u8.wrap (t:Int)=(t:Int):=by rw[IntKind.wrap_u8];omega
 have wt2:IntKind.i64.wrap (t:Int)=(t:Int):=by rw[IntKind.wrap_i64];omega
 obtain⟨n,hn⟩:∃n,t+1=n:=⟨_,rfl⟩
 have wt3:IntKind.i64.wrap ((t:Int)+1)=(n:Int):=by rw[IntKind.wrap_i64];omega
 have n1:1≤n:=by omega
 have n8:n≤8:=by omega
 have VA:Aside (BtAt W ad len V∧∀i,i<len→V i<256):=⟨hV,hb⟩
 clear hn t8 z0 hV hb;go_enter Tryz.func3,Tryz.ntmps3
 go_upto_region 1 with fail
 have T1:=IsT3.new W T;have B1:=nb W (.cells #[.int .u64 (word (T 0) 0:Int),.int .u64 (word (T 0) 1:Int),.int .u64 (word (T 0) 2:Int),.int .u64 (word (T 0) 3:Int),.int .u64 (word (T 1) 0:Int),.int .u64 (word (T 1) 1:Int),.int .u64 (word (T 1) 2:Int),.int .u64 (word (T 1) 3:Int),.int .u64 (word (T 2) 0:Int),.int .u64 (word (T 2) 1:Int),.int .u64 (word (T 2) 2:Int),.int .u64 (word (T 2) 3:Int)] 25)
 generalize W.alloc (.cells #[.int .u64 (word (T 0) 0:Int),.int .u64 (word (T 0) 1:Int),.int .u64 (word (T 0) 2:Int),.int .u64 (word (T 0) 3:Int),.int .u64 (word (T 1) 0:Int),.int .u64 (word (T 1) 1:Int),.int .u64 (word (T 1) 2:Int),.int .u64 (word (T 1) 3:Int),.int .u64 (word (T 2) 0:Int),.int .u64 (word (T 2) 1:Int),.int .u64 (word (T 2) 2:Int),.int .u64 (word (T 2) 3:Int)] 25)=w1 at T1 B1 ⊢
 have vt:∃v:Value,v = .agg #[.int .u64 (word (T 0) 0:Int),.int .u64 (word (T 0) 1:Int),.int .u64 (word (T 0) 2:Int),.int .u64 (word (T 0) 3:Int),.int .u64 (word (T 1) 0:Int),.int .u64 (word (T 1) 1:Int),.int .u64 (word (T 1) 2:Int),.int .u64 (word (T 1) 3:Int),.int .u64 (word (T 2) 0:Int),.int .u64 (word (T 2) 1:Int),.int .u64 (word (T 2) 2:Int),.int .u64 (word (T 2) 3:Int)]:=⟨_,rfl⟩
 obtain⟨vt,hvt⟩:=vt;rw[← hvt];clear hvt;obtain⟨bt,hbt⟩:∃bt,W.heap.size=bt:=⟨_,rfl⟩
 rw[hbt]at T1;have B1A:Aside (Below W.heap.size W w1):=B1;rw[hbt];clear hbt B1;have Kk:=known_any w1
 go_upto_region 3 with (first
  | (go_at_call 8;refine Kk.mono ?_;clear Kk;rintro e w2 ⟨rfl,b2⟩))
 have B2:Below W.heap.size W w2:=Rf.below_far B1A.out b2;have T2:=T1.kept b2;clear T1 b2 B1A;by_cases n30:len≤8
 ·have ni:¬(8:Int)<(len:Int):=by omega
  clear n30;have K1:Calls Tryz.prog 9 #[.int .i64 (n:Int),.int .i64 4000] w2 _:=s_new n 4000 w2 n1 n8 (by omega) (by omega)
  go_upto_region 9 with (first
   | (go_at_call 9;refine K1.mono ?_;clear K1;rintro e w3 ⟨S,F,rfl,s3,b3,f3⟩))
  have q3A:Aside (Tn W w3 S n bt T none none 0 0 (fun _=>0) [] F (Mdl.empty n 4000)):=by
   have fA:∀k,F k→W.heap.size≤k:=fun k hk=>Nat.le_trans B2.size (f3 k hk)
   exact⟨s3,rfl,rfl,Rf.below_far B2 b3,fA,T2.kept b3,OwnR.nil _ _ _ _,Rf.Own.nil _ _,fun b hb=>(by obtain⟨a,e,_⟩:=hb;cases e),fun i hi=>absurd hi (Nat.not_lt_zero i)⟩
  clear T2 b3 f3 B2 ni ht wt1 wt2 wt3 s3
  go_wp2_with fail
  go_loopg [14,12,13] 3 (fun g s14 s12 s13 wr=>∃(j ck ct:Nat) (adk adt:Option Addr) (H:Nat→Nat) (ts:List (Nat→Bool)) (Fr:Nat→Prop) (Mr:Mdl),j+g=3∧s14 = .int .i64 (j:Int)∧s12 = .slice adk ts.length ck∧s13 = .slice adt ts.length ct∧Aside (Tn W wr S n bt T adk adt ck ct H ts Fr Mr∧ts.length≤j∧Mr.v=Od.idn n∧Mr.up≤63*j))
  case atStart=>exact⟨0,0,0,none,none,fun _=>0,[],F,Mdl.empty n 4000,by omega,rfl,rfl,rfl,q3A.out,Nat.le_refl 0,rfl,Nat.le_refl _⟩
  case round =>
   clear q3A;obtain⟨j,ck,ct,adk,adt,H,ts,Fr,Mr,hj,rfl,rfl,rfl,hq⟩:=hrel;have hJ:Aside (j+gk=3):=hj;have hj3:j≤3:=by omega
   clear hj;by_cases hlt:j<3
   ·have hlt':(j:Int)<3:=by omega
    have wj1:IntKind.i64.wrap ((j:Int)+1)=((j+1:Nat):Int):=by rw[IntKind.wrap_i64];omega
    have wj2:IntKind.u64.wrap (j:Int)=(j:Int):=by rw[IntKind.wrap_u64];omega
    have q:=hq.out.1;obtain⟨c0,c1,c2,c3⟩:=q.t3.cells hlt;obtain⟨G,hG⟩:∃G,trimF (T j) n (8-n)=G:=⟨_,rfl⟩
    have KT:=trim_any (T j) n n8 wr;rw[hG]at KT;unfold tab at KT;have hGA:Aside (trimF (T j) n (8-n)=G):=hG;have hltA:Aside (j<3):=hlt;clear hG hlt q
    go_upto_region 15 with (first
     | (go_at_call 10;refine KT.mono ?_;clear KT;rintro e w7 ⟨rfl,b7⟩))
    have q7:=hq.out.1.below b7
    have q8A:Aside (Tn W (w7.alloc (.cells #[.int .u64 (word G 0:Int),.int .u64 (word G 1:Int),.int .u64 (word G 2:Int),.int .u64 (word G 3:Int)] 24)) S n bt T adk adt ck ct H ts Fr Mr∧IsTab (w7.alloc (.cells #[.int .u64 (word G 0:Int),.int .u64 (word G 1:Int),.int .u64 (word G 2:Int),.int .u64 (word G 3:Int)] 24)) w7.heap.size G∧∀b,At adk b∨At adt b→b<w7.heap.size):=
     ⟨q7.below (nb w7 _),Rf.IsTab.new w7 G,fun b hb=>(q7.lt b hb).2⟩
    clear c0 c1 c2 c3 b7 q7;generalize (w7.alloc (.cells #[.int .u64 (word G 0:Int),.int .u64 (word G 1:Int),.int .u64 (word G 2:Int),.int .u64 (word G 3:Int)] 24))=w8 at q8A ⊢;generalize w7.heap.size=bq at q8A ⊢;obtain⟨c0,c1,c2,c3⟩:=q8A.out.2.1.copy;have KM:=make_any (F:=G) q8A.out.1.st (by
     have o:=q8A.out.1.st.ok;have d:=Dep.trim o (T j) (fun i hi=>by rw[hq.out.2.2.1];rw[q8A.out.1.en]at hi;exact if_pos hi);rw[q8A.out.1.en,hGA.out]at d;exact d) (by
     rw[q8A.out.1.en,q8A.out.1.er];have h1:=hq.out.2.2.2;have h2:=pow63' n8;have h3:=hltA.out;omega)
    unfold tab at KM
    go_upto_region 18 with (first
     | (go_at_call 11;refine KM.mono ?_;clear KM;rintro e w9 ⟨x,M9,rfl,⟨F9,s9,g9⟩,m9⟩))
    have q9A:Aside (Tn W w9 S n bt T adk adt ck ct H ts F9 M9∧IsTab w9 bq G∧(∀b,At adk b∨At adt b→b<bq)∧(M9.isNode x∧Eqt (M9.tbl x) G)∧ts.length≤j∧M9.v=Od.idn n∧M9.up≤63*(j+1)):=by
     refine⟨q8A.out.1.kept g9 s9 (Sw.Kept.grew m9.grew q8A.out.1.st.ok),Sw.tab_kept q8A.out.2.1 q8A.out.1.st g9,q8A.out.2.2,⟨m9.node,m9.tbl⟩,hq.out.2.1,m9.grew.v.trans hq.out.2.2.1,?_⟩;have u:=m9.up;rw[q8A.out.1.en,Nat.sub_zero]at u;have h1:=hq.out.2.2.2;have h2:=pow63' n8;omega
    clear c0 c1 c2 c3 m9 g9 s9 hq q8A;by_cases hbit:(bits BinOp.and IntKind.u8 (y / 2^j) 1 == 1)=true
    ·go_upto_region 19 with fail
     refine grow_region (Bk:=W.heap.size) (adk:=adk) (adt:=adt) (nk:=ts.length) (ck:=ck) (ct:=ct) (ts:=ts) (bq:=bq) (x:=x) (F:=G) (Vk:=fun i=>.int .u32 (H i:Int)) (show 73≤170 by omega) rfl rfl rfl rfl q9A.out.1.hs q9A.out.1.tb q9A.out.1.base.size (by have:=q9A.out.2.2.2.2.1;omega) (by have:=q9A.out.2.2.2.2.1;omega) q9A.out.1.dis q9A.out.2.1 (fun e=>by have:=q9A.out.2.2.1 bq e;omega) ?_;intro b2 b8 g c g' c' w10 o10 h10 t10 h11 r10;simp only[Rf.vfin,Act.put,List.setIfInBounds_toArray,List.set_cons_succ,List.set_cons_zero]
     have q10A:Aside (Tn W w10 S n bt T (some ⟨g,0,none⟩) (some ⟨g',0,none⟩) c c' (fun i=>if i=ts.length then x else H i) (ts ++ [G]) F9 M9∧(ts ++ [G]).length=ts.length+1∧(ts ++ [G]).length≤j+1∧M9.v=Od.idn n∧M9.up≤63*(j+1)):=by
      have l1:(ts ++ [G]).length=ts.length+1:=by rw[List.length_append,List.length_singleton]
      exact⟨q9A.out.1.grown q9A.out.2.2.2.1 o10 h10 t10 r10,l1,by have:=q9A.out.2.2.2.2.1;omega,q9A.out.2.2.2.2.2.1,q9A.out.2.2.2.2.2.2⟩
     clear q9A o10 h10 t10 h11 r10 hbit
     go_wp2_with fail
     go_roundg (gk-1)
     case measure=>have:=hJ.out;have:=hltA.out;omega
     case rel =>
      have:=hJ.out;have:=hltA.out;have l1:=q10A.out.2.1;exact⟨j+1,c,c',some ⟨g,0,none⟩,some ⟨g',0,none⟩,_,ts ++ [G],F9,M9,by omega,by go_num,by rw[l1],by rw[l1],q10A.out.1,q10A.out.2.2⟩
    ·have hb':(bits BinOp.and IntKind.u8 (y / 2^j) 1 == 1)=false:=by
      cases e:(bits BinOp.and IntKind.u8 (y / 2^j) 1 == 1) with
      | false=>rfl
      | true=>exact absurd e hbit
     have q10A:Aside (Tn W w9 S n bt T adk adt ck ct H ts F9 M9∧ts.length≤j+1∧M9.v=Od.idn n∧M9.up≤63*(j+1)):=⟨q9A.out.1,Nat.le_succ_of_le q9A.out.2.2.2.2.1,q9A.out.2.2.2.2.2⟩
     clear q9A hbit
     go_wp2_with fail
     go_roundg (gk-1)
     case measure=>have:=hJ.out;have:=hltA.out;omega
     case rel =>
      have:=hJ.out;have:=hltA.out;exact⟨j+1,ck,ct,adk,adt,H,ts,F9,M9,by omega,by go_num,rfl,rfl,q10A⟩
   ·have qA:Aside (Tn W wr S n bt T adk adt ck ct H ts Fr Mr):=hq.out.1;have lA:Aside (ts.length≤3):=by have:=hq.out.2.1;show ts.length≤3;omega
    have ej:j=3:=by omega
    have nA:Aside (1≤n∧n≤8):=⟨n1,n8⟩
    subst ej;clear hq hlt hJ hj3;have hji:¬((3:Nat):Int)<3:=by omega
    have K4:=Sw.perm_any wr ad len cap n n1 n8 V (VA.out.1.kept qA.out.base) VA.out.2
    go_upto_region 21 with (first
     | (go_at_call 13;refine K4.mono ?_;clear K4;rintro e w6 ⟨g,c,rfl,p,pm,own,b6⟩;have q6A:Aside (Tn W w6 S n bt T adk adt ck ct H ts Fr Mr):=qA.out.below b6;have K5:=Sw.to_any (c:=c) q6A.out.st (Sr.own_ints own nA.out.1) (fun a e h=>by cases e;have h1:=qA.out.st.lt g h;have h2:=(own.block g ⟨_,rfl,rfl⟩).1;omega) (by rw[q6A.out.en];exact Sk.perm_ints pm))
     | (go_at_call 12;refine K5.mono ?_;clear K5;rintro e w7 ⟨k,er,F7,M7,rfl,kp,_,s7,g7,hc⟩))
    have q7A:Aside (Tn W w7 S n bt T adk adt ck ct H ts F7 M7):=q6A.out.kept g7 s7 kp;have hc2:er=0∨er=60:=hc.elim (fun h=>.inl h.1) (fun h=>.inr h.1);clear hc kp s7 g7 q6A qA own pm b6 hji;go_cut [86]from 81 to 85 (fun s86 wc=>s86 = .bool false∧Aside (Tn W wc S n bt T adk adt ck ct H ts F7 M7))
    case first =>
     rcases hc2 with rfl|rfl
     ·go_wp2_with fail
      go_meet
      exact⟨rfl,q7A⟩
     ·go_wp2_with fail
      go_meet
      exact⟨rfl,q7A⟩
    case rest =>
     clear hc2 q7A;obtain⟨rfl,q7A⟩:=hcut;have K6:Calls Tryz.prog 14 #[.pointer (some ⟨S,0,none⟩)] wc fun e w'=>∃P l,e = .returned (.pointer (some ⟨P,0,none⟩))∧Od.IsOrd w' P n M7.v l∧Below wc.heap.size wc w':=by
      have:=s_order q7A.out.st;rw[q7A.out.en]at this;refine this.mono ?_;rintro e w' ⟨P,l,rfl,o,b,_⟩;exact⟨P,l,rfl,o,b⟩
     go_upto_region 24 with (first
      | (go_at_call 14;refine K6.mono ?_;clear K6;rintro e w8 ⟨P,l,rfl,o8,b8⟩;have q8A:Aside (Tn W w8 S n bt T adk adt ck ct H ts F7 M7):=q7A.out.below b8;have K7:=Od.all_any o8 nA.out.2)
      | (go_at_call 15;refine K7.mono ?_;clear K7;rintro e w9 ⟨rfl,r9,b9⟩))
     have q9A:Aside (Tn W w9 S n bt T adk adt ck ct H ts F7 M7):=q8A.out.below b9;clear q7A q8A b8 b9 o8;generalize w8.heap.size=bo at r9 ⊢;have rA:Aside (w9.rowIs bo 3 n (fun i=>.int .i64 (M7.v i:Int))):=r9;clear r9;have K8:Calls Tryz.prog 16 #[.pointer (some ⟨S,0,none⟩),.slice adk ts.length ck] w9 fun e w'=>∃ad' cap' xs tt,e = .returned (.tuple #[.slice ad' n cap',.int .i64 0])∧Aside (PlP M7.v n ts xs tt)∧OwnR 3 w' w9.heap.size ad' n cap' (fun i=>.int .i64 (xs.getD i 0:Nat))∧Below w9.heap.size w9 w':=by
      have o:=q9A.out.st.ok;refine(plan_yes (cap:=ck) q9A.out.st q9A.out.roots (fun i hi=>(q9A.out.kn i hi).1) (by have:=lA.out;omega)).mono ?_;rintro e w' ⟨ad',cap',xs,ks,rfl,nd,rc,pl,ow,b⟩;have pt:=Sr.plan_told o ⟨rc.inn,rc.closed,rc.top,rc.only,nd⟩ q9A.out.kn rfl;have ll:=Sr.plan_few nd rc.inn;have ol:=o.len;rw[pt.1]at pl;have er:=q9A.out.er;have en:=q9A.out.en;rw[en]at pl ow pt;refine⟨ad',cap',xs,_,by rw[en],⟨rfl,by omega,⟨fun i hi=>by have:=o.vlt i (by omega);omega,fun a b ha hb h=>o.vinj a b (by omega) (by omega) h⟩,pl⟩,ow,b⟩
     go_upto_region 25 with (first
      | (go_at_call 16;refine K8.mono ?_;clear K8;rintro e w10 ⟨adp,cp,xs,tt,rfl,pA,op,b10⟩))
     have q10A:Aside (Tn W w10 S n bt T adk adt ck ct H ts F7 M7):=q9A.out.below b10;have r10A:Aside (w10.rowIs bo 3 n (fun i=>.int .i64 (M7.v i:Int))):=rA.out.of_block (b10.block _ rA.out.lt);have p10A:Aside (Od.IntsAt w10 adp n (fun i=>(xs.getD i 0:Nat))∧∀a,adp=some a→¬F7 a.block):=⟨Sr.own_ints op nA.out.1,fun a e h=>by have h1:=q9A.out.st.lt _ h;have h2:=(op.block _ ⟨a,e,rfl⟩).1;omega⟩
     clear op b10 q9A rA;obtain⟨Z,hZ⟩:∃Z,sfI n (fun u=>szN n u (fnL ts) ts.length) M7.v xs n=Z:=⟨_,rfl⟩
     have ZA:Aside (sfI n (fun u=>szN n u (fnL ts) ts.length) M7.v xs n=Z):=hZ;have KS:=Sr.rsift_far (capl:=ct) (capv:=n) q10A.out.tabs (Od.IntsAt.row r10A.out) pA.out.pv nA.out.1 nA.out.2 (by have:=lA.out;omega) tt pA.out.isT pA.out.few pA.out.plan;rw[hZ]at KS;clear hZ
     go_upto_region 26 with (first
      | (go_at_call 17;refine KS.mono ?_;clear KS;rintro e w11 ⟨adw,cw,rfl,zw,b11,fw⟩))
     have q11A:Aside (Tn W w11 S n bt T adk adt ck ct H ts F7 M7∧(w11.rowIs bo 3 n (fun i=>.int .i64 (M7.v i:Int)))∧(Od.IntsAt w11 adp n (fun i=>(xs.getD i 0:Nat))∧∀a,adp=some a→¬F7 a.block)∧Od.IntsAt w11 adw n (fun i=>(Z i:Int))∧∀a,adw=some a→¬F7 a.block):=
      ⟨q10A.out.below b11,r10A.out.of_block (b11.block _ r10A.out.lt),⟨p10A.out.1.below b11,p10A.out.2⟩,zw,fun a e h=>by have h1:=q10A.out.st.lt _ h;have h2:=fw a e;omega⟩
     clear q10A r10A p10A zw fw b11;obtain⟨s0,hs0⟩:∃s0,szN n M7.v (fnL ts) ts.length=s0:=⟨_,rfl⟩
     obtain⟨s1,hs1⟩:∃s1,szN n Z (fnL ts) ts.length=s1:=⟨_,rfl⟩
     have sA:Aside (szN n M7.v (fnL ts) ts.length=s0∧szN n Z (fnL ts) ts.length=s1):=⟨hs0,hs1⟩
     have hls:¬(s0:Int)<(s1:Int):=by
      have:=sfI_le nA.out.1 (fun u=>szN n u (fnL ts) ts.length) M7.v xs n;rw[ZA.out]at this;have this:szN n Z (fnL ts) ts.length≤szN n M7.v (fnL ts) ts.length:=this;omega
     have K10:Calls Tryz.prog 18 #[.pointer (some ⟨S,0,none⟩),.slice adk ts.length ck] w11 fun e w'=>∃F12 M12,e = .returned (.tuple #[.int .i64 (s0:Int),.int .i64 (s1:Int),.int .i64 0])∧Aside (Sk.Ez W w' S n bt T adk adt ck ct H ts F12 M12 bo M7.v adp (fun i=>xs.getD i 0) adw Z∧M12.v=Z∧M12.hs.length=s1):=by
      obtain⟨q,r,ip,iw⟩:=q11A.out;have o:=q.st.ok;have en:=q.en;refine(sift_ok (cap:=ck) q.st q.pl (fun i hi=>(q.kn i hi).1) (by have:=lA.out;omega) (fun zs u=>by have:=unl_le u;have:=lA.out;have:=q.er;omega)).mono ?_;rintro e w12 ⟨zs,xs2,ks2,F12,M12,sp⟩;obtain⟨ts2,Z2,td⟩:=Sr.sift_told (T:=fnL ts) o sp.st.ok sp q.kn (by have:=o.len;have:=q.er;omega) (by have:=nA.out.1;omega);have i1:=td.isTs;have pl2:=td.plan;have i2:=td.isZ;have told:=td.told;have len:=td.len;have tv:=td.v;rw[en]at i1 pl2 i2 told len;rw[← i1.symm.trans pA.out.isT |>.symm]at pl2;have e3:=Sr.plan_one pA.out.pv pl2 pA.out.plan
      rw[e3,ZA.out]at i2;rw[← i2,hs0,hs1]at told;rw[← i2,hs1]at len;refine⟨F12,M12,told,⟨q.move sp.wf sp.st (td.n.trans en) (td.room.trans q.er) fun i hi=>?_,r.of_block (sp.wf.block _ r.lt (Sk.row_far q.st r (by decide))),Sk.ints_wf ip.1 ip.2 sp.wf,Sk.ints_wf iw.1 iw.2 sp.wf⟩,tv.trans i2.symm,len⟩;have rt:=sp.root hi;exact⟨rt.1,by rw[rt.2];exact(q.kn i hi).2⟩
     go_upto_region 27 with (first
      | (go_at_call 18;refine K10.mono ?_;clear K10;rintro e w12 ⟨F12,M12,rfl,e12A⟩))
     clear q11A ZA hs0 hs1;have KP:=Sr.rplan_any (capl:=ct) (capv:=n) e12A.out.1.tn.tabs (Od.IntsAt.row e12A.out.1.ro) pA.out.pv nA.out.1 nA.out.2 (by have:=lA.out;omega) tt pA.out.isT pA.out.few (Sr.XsP.of pA.out.pv pA.out.plan)
     go_upto_region 29 with (first
      | (go_at_call 20;refine KP.mono ?_;clear KP;rintro e w13 ⟨adq,cq,rfl,oq,b13⟩;have e13A:Aside (Sk.Ez W w13 S n bt T adk adt ck ct H ts F12 M12 bo M7.v adp (fun i=>xs.getD i 0) adw Z):=e12A.out.1.below b13;have KI:=ints_same (c:=cp) (d:=cq) e13A.out.ip (Sr.own_ints oq nA.out.1) (by have:=nA.out.2;omega))
      | (go_at_call 19;refine KI.mono ?_;clear KI;rintro e w14 ⟨rfl,b14⟩))
     have e14A:Aside (Sk.Ez W w14 S n bt T adk adt ck ct H ts F12 M12 bo M7.v adp (fun i=>xs.getD i 0) adw Z):=e13A.out.below b14;have v12A:Aside (M12.v=Z∧M12.hs.length=s1):=e12A.out.2;clear e12A e13A oq b13 b14 pA;have KZ0:Calls Tryz.prog 21 #[.slice adt ts.length ct,.slice (some ⟨bo,0,none⟩) n n] w14 fun e w'=>e = .returned (.int .i64 (s0:Int))∧Below w14.heap.size w14 w':=by
      have:=Go.Proofs.YtnnmdkaoiofabaaGreat.size_any adt ts.length ct (fnL ts) (some ⟨bo,0,none⟩) n n (fun i=>(M7.v i:Int)) w14 (by have:=lA.out;omega) nA.out.2 e14A.out.tn.tabs (Od.IntsAt.row e14A.out.ro);rw[← sA.out.1];exact this
     have KZA:Aside (∀u,Sk.Ez W u S n bt T adk adt ck ct H ts F12 M12 bo M7.v adp (fun i=>xs.getD i 0) adw Z→Calls Tryz.prog 21 #[.slice adt ts.length ct,.slice adw n cw] u fun e w'=>e = .returned (.int .i64 (s1:Int))∧Below u.heap.size u w'):=fun u h=>by
      have:=Go.Proofs.YtnnmdkaoiofabaaGreat.size_any adt ts.length ct (fnL ts) adw n cw (fun i=>(Z i:Int)) u (by have:=lA.out;omega) nA.out.2 h.tn.tabs h.iw;rw[← sA.out.2];exact this
     have KOA:Aside (∀u,Sk.Ez W u S n bt T adk adt ck ct H ts F12 M12 bo M7.v adp (fun i=>xs.getD i 0) adw Z→Calls Tryz.prog 14 #[.pointer (some ⟨S,0,none⟩)] u fun e w'=>∃P l,e = .returned (.pointer (some ⟨P,0,none⟩))∧Od.IsOrd w' P n Z l∧Below u.heap.size u w'):=fun u h=>by
      have:=s_order h.tn.st;rw[h.tn.en,v12A.out.1]at this;refine this.mono ?_;rintro e w' ⟨P,l,rfl,o,b,_⟩;exact⟨P,l,rfl,o,b⟩
     have KLA:Aside (∀u,Sk.Ez W u S n bt T adk adt ck ct H ts F12 M12 bo M7.v adp (fun i=>xs.getD i 0) adw Z→Calls Tryz.prog 22 #[.pointer (some ⟨S,0,none⟩)] u fun e w'=>e = .returned (.int .i64 (s1:Int))∧Below u.heap.size u w'):=fun u h=>by
      have:=s_len h.tn.st;rw[v12A.out.2]at this;refine this.mono ?_;rintro e w' ⟨rfl,q,rfl⟩;exact⟨rfl,⟨rfl,rfl,rfl,Nat.le_refl _,fun _ _=>rfl⟩⟩
     clear sA v12A
     go_upto_region 31 with (first
      | (go_at_call 21;refine KZ0.mono ?_;clear KZ0;rintro e w15 ⟨rfl,b15⟩;have e15A:Aside (Sk.Ez W w15 S n bt T adk adt ck ct H ts F12 M12 bo M7.v adp (fun i=>xs.getD i 0) adw Z):=e14A.out.below b15;have KZ1:=KZA.out w15 e15A.out)
      | (go_at_call 21;refine KZ1.mono ?_;clear KZ1;rintro e w16 ⟨rfl,b16⟩;have e16A:Aside (Sk.Ez W w16 S n bt T adk adt ck ct H ts F12 M12 bo M7.v adp (fun i=>xs.getD i 0) adw Z):=e15A.out.below b16;have KO:=KOA.out w16 e16A.out)
      | (go_at_call 14;refine KO.mono ?_;clear KO;rintro e w17 ⟨P,l,rfl,o17,b17⟩;have e17A:Aside (Sk.Ez W w17 S n bt T adk adt ck ct H ts F12 M12 bo M7.v adp (fun i=>xs.getD i 0) adw Z):=e16A.out.below b17;have KA:=Od.all_any o17 nA.out.2)
      | (go_at_call 15;refine KA.mono ?_;clear KA;rintro e w18 ⟨rfl,r18,b18⟩;have e18A:Aside (Sk.Ez W w18 S n bt T adk adt ck ct H ts F12 M12 bo M7.v adp (fun i=>xs.getD i 0) adw Z):=e17A.out.below b18;have KI:=ints_same (c:=n) (d:=cw) (Od.IntsAt.row r18) e18A.out.iw (by have:=nA.out.2;omega))
      | (go_at_call 19;refine KI.mono ?_;clear KI;rintro e w19 ⟨rfl,b19⟩;have e19A:Aside (Sk.Ez W w19 S n bt T adk adt ck ct H ts F12 M12 bo M7.v adp (fun i=>xs.getD i 0) adw Z):=e18A.out.below b19;have KL:=KLA.out w19 e19A.out)
      | (go_at_call 22;refine KL.mono ?_;clear KL;rintro e w20 ⟨rfl,b20⟩))
     have q20A:Aside (Tn W w20 S n bt T adk adt ck ct H ts F12 M12):=(e19A.out.below b20).tn;clear e14A e15A e16A e17A e18A e19A b15 b16 b17 b18 b19 b20 o17 r18 KZA KOA KLA hls
     go_wp2_with fail
     go_loopg [25] ts.length (fun g s25 wr'=>∃i:Nat,i+g=ts.length∧s25 = .int .i64 (i:Int)∧Aside (Below w20.heap.size w20 wr'))
     case atStart=>exact⟨0,by omega,rfl,Below.refl _ _⟩
     case round =>
      obtain⟨i,hi,rfl,hB⟩:=hrel;have hI:Aside (i+gk=ts.length):=hi;have hi1000:i≤1000:=by have:=lA.out;omega
      clear hi;by_cases hlt:i<ts.length
      ·have hlt':(i:Int)<(ts.length:Int):=by omega
       have iA:Aside (i<ts.length):=hlt;obtain⟨bk,rfl⟩:=q20A.out.hs.form (show 0<ts.length by omega);obtain⟨bf,rfl⟩:=Sk.tb_form q20A.out.tb (show 0<ts.length by omega);obtain⟨X,hX⟩:∃X,fnL ts i=X:=⟨_,rfl⟩
       have XA:Aside (∀u,Below w20.heap.size w20 u→(u.cell? ⟨bk,i,none⟩=some (.int .u32 (H i:Int)))∧(u.cell? ⟨bf,i*4,none⟩=some (.int .u64 (word X 0:Int))∧u.cell? ⟨bf,i*4+1,none⟩=some (.int .u64 (word X 1:Int))∧u.cell? ⟨bf,i*4+2,none⟩=some (.int .u64 (word X 2:Int))∧u.cell? ⟨bf,i*4+3,none⟩=some (.int .u64 (word X 3:Int)))):=fun u hu=>by
        have q:=q20A.out.below hu;rw[← hX];exact⟨q.hs.cell iA.out,q.cells iA.out⟩
       have KI:∀u,Below w20.heap.size w20 u→Calls Tryz.prog 23 #[.pointer (some ⟨S,0,none⟩),.int .u32 (H i:Int),tab X] u fun e w'=>e = .returned (.bool true)∧Below u.heap.size u w':=fun u hu=>by
        have nd:=q20A.out.kn i iA.out;have:=isf_any (G:=X) (q20A.out.below hu).st nd.1;rwa [same_true (by rw[← hX];exact nd.2)]at this
       clear hX hlt;go_upto_region 34 with fail
       refine Rf.wp_region_vals (fun u=>Below w20.heap.size w20 u) [(157,(.pointer (some ⟨S,0,none⟩))),(158,(.slice (some ⟨bk,0,none⟩) ts.length ck)),(159,(.int .i64 (i:Int))),(160,(.pointer (some ⟨bk,i,none⟩))),(161,(.int .u32 (H i:Int))),(162,(.slice (some ⟨bf,0,none⟩) ts.length ct)),(163,(.int .i64 (i:Int))),(164,(.pointer (some ⟨bf,i*4,none⟩))),(165,(tab X)),(166,(.bool true)),(167,(.bool false))] [157,158,159,160,161,162,163,164,165,166,167] 170 (by kernel_rfl) (by kernel_rfl) rfl rfl (by decide) rfl (by decide) ?_ ?_ ?_
       ·exact Rf.below_far hB.out ⟨rfl,rfl,rfl,Nat.le_refl _,fun _ _=>rfl⟩
       ·intro ii kk hkk
        match ii,hkk with
         | 0,hk=>obtain rfl:=Option.some.inj hk;exact vok_plain _ rfl rfl rfl (does_val rfl fun ac u hG hL=>x_move rfl ((hG.other 10 (by decide)).trans rfl))
         | 1,hk=>obtain rfl:=Option.some.inj hk;exact vok_plain _ rfl rfl rfl (does_val rfl fun ac u hG hL=>x_move rfl ((hG.other 12 (by decide)).trans rfl))
         | 2,hk=>obtain rfl:=Option.some.inj hk;exact vok_plain _ rfl rfl rfl (does_val rfl fun ac u hG hL=>x_move rfl ((hG.other 25 (by decide)).trans rfl))
         | 3,hk=>obtain rfl:=Option.some.inj hk;exact vok_plain _ rfl rfl rfl (does_val rfl fun ac u hG hL=>x_index rfl (hL ⟨1,.data⟩ (by simp) rfl _ rfl) (hL ⟨2,.data⟩ (by simp) rfl _ rfl) (Sk.r_idxH bk iA.out u))
         | 4,hk=>obtain rfl:=Option.some.inj hk;exact vok_plain _ rfl rfl rfl (does_val rfl fun ac u hG hL=>x_load rfl (hL ⟨3,.data⟩ (by simp) rfl _ rfl) (Sk.r_loadH (XA.out u hG.here).1))
         | 5,hk=>obtain rfl:=Option.some.inj hk;exact vok_plain _ rfl rfl rfl (does_val rfl fun ac u hG hL=>x_move rfl ((hG.other 13 (by decide)).trans rfl))
         | 6,hk=>obtain rfl:=Option.some.inj hk;exact vok_plain _ rfl rfl rfl (does_val rfl fun ac u hG hL=>x_move rfl ((hG.other 25 (by decide)).trans rfl))
         | 7,hk=>obtain rfl:=Option.some.inj hk;exact vok_plain _ rfl rfl rfl (does_val rfl fun ac u hG hL=>x_index rfl (hL ⟨5,.data⟩ (by simp) rfl _ rfl) (hL ⟨6,.data⟩ (by simp) rfl _ rfl) (Sk.r_idxF bf iA.out u))
         | 8,hk=>obtain rfl:=Option.some.inj hk;exact vok_plain _ rfl rfl rfl (does_val rfl fun ac u hG hL=>x_load rfl (hL ⟨7,.data⟩ (by simp) rfl _ rfl) (Sk.r_loadF (XA.out u hG.here).2))
         | 9,hk=>obtain rfl:=Option.some.inj hk;exact vok_plain _ rfl rfl rfl (does_call #[(.pointer (some ⟨S,0,none⟩)),(.int .u32 (H i:Int)),(tab X)] rfl (fun ac u hG hL=>x_call rfl (by have e0:ac.eval (.tmp 157)=(.pointer (some ⟨S,0,none⟩)):=(hL ⟨0,.data⟩ (by simp) rfl _ rfl);have e1:ac.eval (.tmp 161)=(.int .u32 (H i:Int)):=(hL ⟨4,.data⟩ (by simp) rfl _ rfl);have e2:ac.eval (.tmp 165)=(tab X):=(hL ⟨8,.data⟩ (by simp) rfl _ rfl);simp only[List.map_toArray,List.map_cons,List.map_nil,e0,e1,e2]) (fun u=>Sk.callIs _ u)) (fun u hu=>(KI u hu).mono fun e w' q=>⟨q.1,Rf.below_far hu q.2⟩))
         | 10,hk=>obtain rfl:=Option.some.inj hk;exact vok_plain _ rfl rfl rfl (does_val rfl fun ac u hG hL=>x_un rfl (hL ⟨9,.data⟩ (by simp) rfl _ rfl) (Sk.r_not true u))
         | ii+11,hk=>simp at hk
       ·intro w21 s21;simp only[Rf.vfin,Act.put,List.setIfInBounds_toArray,List.set_cons_succ,List.set_cons_zero];have s21A:Aside (Below w20.heap.size w20 w21):=s21;clear s21 KI hB XA;have wi1:IntKind.i64.wrap ((i:Int)+1)=((i+1:Nat):Int):=by rw[IntKind.wrap_i64];omega
        go_wp2_with fail
        go_roundg (gk-1)
        case measure=>have:=hI.out;have:=iA.out;omega
        case rel =>
         have:=hI.out;have:=iA.out;exact⟨i+1,by omega,by go_num,s21A⟩
      ·have hlt':¬(i:Int)<(ts.length:Int):=by omega
       have KO:=once_any (q20A.out.below hB.out).st
       go_wp2_with (first
        | (go_at_call 24;refine KO.mono ?_;clear KO;rintro e w30 ⟨rfl,b30⟩))
       go_ret
       exact⟨rfl,Rf.below_far (q20A.out.below hB.out).base b30⟩
 ·have ni:(8:Int)<(len:Int):=by omega
  go_wp2_with fail
  go_ret
  exact⟨rfl,B2⟩
end Go.Proofs.YtnnmdkaoiofabaaGreat.Sf
