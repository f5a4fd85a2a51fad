/-
  Sifting: what is refused; the statements' own check.
-/
import Derived.Test.YtnnmdkaoiofabaaGreatSfM
import Derived.Test.YtnnmdkaoiofabaaGreatSfU
import Derived.Test.YtnnmdkaoiofabaaGreatSfP
namespace Go.Proofs.YtnnmdkaoiofabaaGreat.Sf
open Go Go.RowKit
open Mk (HsAt)
section
variable {w w':World}{S n cap:Nat}{F:Nat→Prop}{M:Mdl}{ad:Option Addr}{H:Nat→Nat}
theorem sift_no (s:St w S F M) (hl:HsAt w ad n H) (hb:∀i,i<n→H i<4294967296) (hn:n≤1000) (no:∃i,i<n∧¬M.isNode (H i)) :
  Calls Tryz.prog 18 #[.pointer (some ⟨S,0,none⟩),.slice ad n cap] w fun e w'=>e = .returned (.tuple #[.int .i64 0,.int .i64 0,.int .i64 101])∧Below w.heap.size w w':=by
 have K1:=plan_no (cap:=cap) s hl hb hn no;clear s hl hb no;go_enter Tryz.func18,Tryz.ntmps18
 go_wp2_with (first
  | (go_at_call 16;refine K1.mono ?_;clear K1;rintro e w1 ⟨rfl,B⟩))
 go_ret3
 exact⟨rfl,B⟩
theorem sift_full (s:St w S F M) (pl:Pl w F ad n H) (all:∀i,i<n→M.isNode (H i)) (hn:n≤1000) (big:∀xs,Unl H n xs→M.room<200*max xs.length 1) :
  Calls Tryz.prog 18 #[.pointer (some ⟨S,0,none⟩),.slice ad n cap] w fun e w'=>e = .returned (.tuple #[.int .i64 0,.int .i64 0,.int .i64 60])∧∃xs F',Mk.Rch M H n xs∧xs.Pairwise (· < ·)∧St w' S F' (Mk.only M xs)∧Wf F F' w w':=by
 have o:=s.ok;have K1:=plan_yes (cap:=cap) s pl.at_ all hn;have KC:Aside (∀u,Below w.heap.size w u→Calls Tryz.prog 51 #[.pointer (some ⟨S,0,none⟩),.slice ad n cap] u fun e w'=>∃xs F',e = .returned (.tuple #[.int .i64 ((M.hs.length:Int)-(xs.length:Int)),.int .i64 0])∧Mk.Rch M H n xs∧xs.Pairwise (· < ·)∧St w' S F' (Mk.only M xs)∧Wf F F' u w'):=fun u b=>Mk.collect_yes (cap:=cap) (s.below b) (pl.below b).at_ all (by omega)
 have KR:Aside (∀u F',Pl u F' ad n H→Calls Tryz.prog 26 #[.slice ad n cap] u fun e w'=>∃xs,e = .returned (.int .i64 ((200*max xs.length 1:Nat):Int))∧Unl H n xs∧xs.length≤n∧Below u.heap.size u w'):=fun u F' p=>room_any (cap:=cap) p.at_ (fun i hi=>lt32 o (all i hi)) hn
 have plA:Aside (∀u,Below w.heap.size w u→Pl u F ad n H):=fun u b=>pl.below b
 have bigA:Aside (∀xs,Unl H n xs→M.room<200*max xs.length 1):=big;have hr:1≤M.room∧M.room≤32768:=s.room;clear s pl all o big;go_enter Tryz.func18,Tryz.ntmps18
 go_upto_region 4 with (first
  | (go_at_call 16;refine K1.mono ?_;clear K1;rintro e w1 ⟨ad1,cap1,ys,ks,rfl,_,_,_,_,B1⟩))
 have K2:=KC.out w1 B1;have B1A:Aside (Below w.heap.size w w1):=B1;clear B1 KC
 go_upto_region 5 with (first
  | (go_at_call 51;refine K2.mono ?_;clear K2;rintro e w2 ⟨xs,F2,rfl,rc,up,s2,g2⟩))
 have K3:=KR.out w2 F2 ((plA.out w1 B1A.out).wf g2);have fA:Aside (Mk.Rch M H n xs∧xs.Pairwise (· < ·)∧Wf F F2 w1 w2∧St w2 S F2 (Mk.only M xs)):=⟨rc,up,g2,s2⟩
 clear rc up g2 s2 KR plA
 go_wp2_with (first
  | (go_at_call 26;refine K3.mono ?_;clear K3;rintro e w3 ⟨zs,rfl,uz,hz,B3⟩;have s3:=fA.out.2.2.2.below B3;have K4:=s_room s3;have hgt:(M.room:Int)<((200*max zs.length 1:Nat):Int):=(by have:=bigA.out zs uz;omega);have s3A:Aside (St w3 S F2 (Mk.only M xs)∧Below w2.heap.size w2 w3):=⟨s3,B3⟩;clear s3 B3 uz hz;rw[show (Mk.only M xs).room=M.room from rfl]at K4)
  | (go_at_call 27;refine K4.mono ?_;clear K4;rintro e w4 ⟨rfl,rfl⟩))
 go_ret3
 exact⟨rfl,xs,F2,fA.out.1,fA.out.2.1,s3A.out.1,((Wf.of_below B1A.out F).trans fA.out.2.2.1).trans (Wf.of_below s3A.out.2 F2)⟩
end
theorem own_ints {w:World}{B n cap:Nat}{ad:Option Addr}{xs:List Nat}(o:OwnR 3 w B ad n cap (fun i=>.int .i64 (xs.getD i 0:Nat))):Od.IntsAt w ad n (fun i=>(xs.getD i 0:Nat)):=by
 by_cases hn:0<n
 ·obtain⟨g,rfl⟩:=o.form hn;exact .inr ⟨g,0,rfl,(o.block g ⟨_,rfl,rfl⟩).2,fun i hi=>by rw[Nat.zero_add];exact o.cell hi⟩
 ·exact .inl (by omega)
theorem ints_same {w:World}{n c d:Nat}{p q:Option Addr}{Z:Nat→Int}(hp:Od.IntsAt w p n Z) (hq:Od.IntsAt w q n Z) (hn:n≤1000) :
  Calls Tryz.prog 19 #[.slice p n c,.slice q n d] w fun e w'=>e = .returned (.bool true)∧Below w.heap.size w w':=by
 have pA:Aside (Od.IntsAt w p n Z):=hp;have qA:Aside (Od.IntsAt w q n Z):=hq;clear hp hq;go_enter Tryz.func19,Tryz.ntmps19
 go_wp2_with fail
 go_loopg [4,5] n (fun g s4 si wr=>∃j:Nat,j+g=n∧s4 = .bool false∧si = .int .i64 (j:Int)∧Below w.heap.size w wr)
 case atStart=>exact⟨0,by omega,rfl,rfl,Below.refl _ _⟩
 case round =>
  obtain⟨j,hj,rfl,rfl,hb⟩:=hrel;have hJ:Aside (j+gk=n):=hj;by_cases hlt:j<n
  ·have hlt':(j:Int)<(n:Int):=by omega
   obtain⟨b1,o1,rfl,hb1,hc1⟩:=pA.out.resolve_left (by omega);obtain⟨b2,o2,rfl,hb2,hc2⟩:=qA.out.resolve_left (by omega);have k1:wr.cell? ⟨b1,o1+j,none⟩=some (.int .i64 (Z j)):=by rw[hb.cell hb1];exact hc1 j hlt
   have k2:wr.cell? ⟨b2,o2+j,none⟩=some (.int .i64 (Z j)):=by rw[hb.cell hb2];exact hc2 j hlt
   clear hc1 hc2;generalize Z j=y at k1 k2;clear hj
   go_wp2_with fail
   go_region
   go_wp2_with fail
   go_roundg (gk-1)
   case measure=>have:=hJ.out;omega
   case rel =>
    have hj:=hJ.out;exact⟨j+1,by omega,rfl,by go_num,hb.drew⟩
  ·obtain rfl:j=n:=by omega
   clear hj
   go_wp2_with fail
   go_ret
   exact⟨rfl,hb⟩
def h5 (i:Nat):Nat:=if i=0 then 0 else if i=1 then 1 else if i=4 then 6 else 5
theorem unl_five {xs:List Nat}(u:Unl h5 5 xs):xs.length=2:=by
 have:xs=[5,6]:=Mk.rising_same u.up (by simp) fun x=>by
  rw[u.mem];constructor
  ·rintro⟨h1,i,hi,e⟩
   have:i=0∨i=1∨i=2∨i=3∨i=4:=by omega
   rcases this with rfl|rfl|rfl|rfl|rfl <;> (unfold h5 at e;simp at e;subst e;first|omega|simp)
  ·intro hx;simp at hx;rcases hx with rfl|rfl
   ·exact⟨by omega,2,by omega,rfl⟩
   ·exact⟨by omega,4,by omega,rfl⟩
 rw[this];rfl
theorem unl_none {H:Nat→Nat}{xs:List Nat}(u:Unl H 0 xs):xs=[]:=by
 cases xs with
 | nil=>rfl
 | cons x l=>obtain⟨_,i,hi,_⟩:=(u.mem x).1 (by simp);omega
theorem plan_flat {v:Nat→Nat}{n:Nat}{xs:List Nat}(p:PlanIs (plK v (fun _=>0) n) n xs):xs.Pairwise (· < ·):=
 p.by_.imp fun {a b} ⟨ka,kb,ea,eb,h⟩=>by
  obtain⟨_,_,_,e1⟩:=plK_some ea;obtain⟨_,_,_,e2⟩:=plK_some eb;omega
theorem plan_three {v:Nat→Nat}{xs:List Nat}(p:PlanIs (plK v (fun _=>0) 3) 3 xs):xs=[0,1,2]:=by
 have up:=plan_flat p;have len:=p.len;have lt:=p.lt;match xs,up,len,lt with
 | [a,b,c],up,_,lt =>
  simp at up lt;have h1:=up.1.1;have h2:=up.2;have h3:=lt.2.2;rw[show a=0 by omega,show b=1 by omega,show c=2 by omega]
theorem lvN_nil (M:Mdl):lvN M []=fun _=>0:=rfl
theorem root_rch {M:Mdl}{H:Nat→Nat}{n:Nat}{ks:List Nat}(r:Rch M H n ks) (nd:ks.Nodup):Mk.Rch M H n ks:=⟨r.inn,r.closed,r.top,r.only,nd⟩
theorem row012 (w:World):(w.alloc (.cells #[.int .i64 0,.int .i64 1,.int .i64 2] 3)).rowIs w.heap.size 3 3 (fun i=>.int .i64 (i:Int)):=
 World.rowIs_alloc w #[.int .i64 0,.int .i64 1,.int .i64 2] 3 (fun i=>.int .i64 (i:Int)) fun i hi=>by
  have hi3:i<3:=hi
  have:i=0∨i=1∨i=2:=by omega
  rcases this with rfl|rfl|rfl <;> rfl
set_option maxRecDepth 100000 in
set_option maxHeartbeats 4000000 in
theorem known_any (W:World) :
  Calls Tryz.prog 8 #[] W fun e w'=>e = .returned (.bool true)∧Below W.heap.size W w':=by
 have K1:Calls Tryz.prog 9 #[.int .i64 3,.int .i64 100] W _:=s_new 3 100 W (by omega) (by omega) (by omega) (by omega);go_enter Tryz.func8,Tryz.ntmps8
 go_upto_region 4 with (first
  | (go_at_call 9;refine K1.mono ?_;clear K1;rintro e w1 ⟨S,F,rfl,s1,b1,f1⟩))
 have K2:=sift_no (cap:=1) (s1.new (.cells #[.int .u32 ((999:Nat):Int)] 36)) (Mk.hs_one w1 999) (fun i hi=>by omega) (by omega) ⟨0,by omega,fun q=>by rcases q with q|q;omega;cases q⟩;have B1:Below W.heap.size W (w1.alloc (.cells #[.int .u32 ((999:Nat):Int)] 36)):=Rf.below_far b1 (nb w1 _);have s1':=s1.new (.cells #[.int .u32 ((999:Nat):Int)] 36);clear s1 b1
 go_upto_region 5 with (first
  | (go_at_call 18;refine K2.mono ?_;clear K2;rintro e w2 ⟨rfl,b2⟩))
 have s2:=s1'.below b2;have B2A:Aside (Below W.heap.size W w2):=Rf.below_far B1 b2;have K3:=sift_full (cap:=0) (H:=fun _=>0) s2 (ad:=none) (n:=0) ⟨Mk.HsAt.zero _ _ _,fun a e=>by cases e⟩ (fun i hi=>absurd hi (Nat.not_lt_zero _)) (by omega) (fun xs u=>by rw[unl_none u];decide);clear s1' b2 B1 s2
 go_upto_region 6 with (first
  | (go_at_call 18;refine K3.mono ?_;clear K3;rintro e w3 ⟨rfl,ys,F3,rc,_,s3,g3⟩))
 have B3A:Aside (Below W.heap.size W w3):=Wf.far B2A.out g3 B2A.out.size f1;have K4:Calls Tryz.prog 16 #[.pointer (some ⟨S,0,none⟩),.slice none 0 0] w3 fun e w'=>∃ad' cap',e = .returned (.tuple #[.slice ad' 3 cap',.int .i64 0])∧Od.IntsAt w' ad' 3 (fun i=>(i:Int))∧Below w3.heap.size w3 w':=by
  refine(plan_yes (cap:=0) (H:=fun _=>0) s3 (ad:=none) (n:=0) (Mk.HsAt.zero _ _ _) (fun i hi=>absurd hi (Nat.not_lt_zero _)) (by omega)).mono ?_;rintro e w' ⟨ad',cap',xs,ks,rfl,nd,rk,p,ow,B⟩;have e0:=(root_rch rk nd).none;subst e0;rw[lvN_nil]at p;have e1:xs=[0,1,2]:=plan_three p;subst e1;refine⟨ad',cap',rfl,(own_ints ow).congr fun i hi=>?_,B⟩;have hi:i<3:=hi
  have:i=0∨i=1∨i=2:=by omega
  rcases this with rfl|rfl|rfl <;> rfl
 clear s3 g3 rc B2A f1
 go_upto_region 7 with (first
  | (go_at_call 16;refine K4.mono ?_;clear K4;rintro e w4 ⟨ad4,cap4,rfl,z4,b4⟩))
 have B4A:Aside (Below W.heap.size W w4):=Rf.below_far B3A.out b4;have KI:=ints_same (c:=cap4) (d:=3) (z4.new (.cells #[.int .i64 0,.int .i64 1,.int .i64 2] 3)) (Od.IntsAt.row (t:=3) (row012 w4)) (by omega);have B5A:Aside (Below W.heap.size W (w4.alloc (.cells #[.int .i64 0,.int .i64 1,.int .i64 2] 3))):=Rf.below_far B4A.out (nb w4 _)
 have KR5:Aside (∀u:World,Calls Tryz.prog 26 #[.slice (some ⟨u.heap.size,0,none⟩) 5 5] (u.alloc (.cells #[.int .u32 0,.int .u32 1,.int .u32 5,.int .u32 5,.int .u32 6] 36)) fun e w'=>e = .returned (.int .i64 400)∧Below (u.alloc (.cells #[.int .u32 0,.int .u32 1,.int .u32 5,.int .u32 5,.int .u32 6] 36)).heap.size (u.alloc (.cells #[.int .u32 0,.int .u32 1,.int .u32 5,.int .u32 5,.int .u32 6] 36)) w'):=fun u=>by
  refine(room_any (cap:=5) (n:=5) (H:=h5) (Mk.hs_cells (heap_alloc_new u _) fun i hi=>?_) (fun i _=>?_) (by omega)).mono ?_
  ·have:i=0∨i=1∨i=2∨i=3∨i=4:=by omega
   rcases this with rfl|rfl|rfl|rfl|rfl <;> rfl
  ·unfold h5;split <;> (try split) <;> (try split) <;> omega
  ·rintro e w' ⟨xs,rfl,u5,_,B⟩;rw[unl_five u5];exact⟨rfl,B⟩
 have KR0:Aside (∀u:World,Calls Tryz.prog 26 #[.slice none 0 0] u fun e w'=>e = .returned (.int .i64 200)∧Below u.heap.size u w'):=fun u=>by
  refine(room_any (cap:=0) (n:=0) (H:=fun _=>0) (Mk.HsAt.zero u none _) (fun i hi=>absurd hi (Nat.not_lt_zero _)) (by omega)).mono ?_;rintro e w' ⟨xs,rfl,u0,_,B⟩;rw[unl_none u0];exact⟨rfl,B⟩
 clear b4 z4 B3A B4A
 go_wp2_with (first
  | (go_at_call 19;refine KI.mono ?_;clear KI;rintro e w6 ⟨rfl,b6⟩;have B6A:Aside (Below W.heap.size W w6):=Rf.below_far B5A.out b6;clear b6;have K5:=KR5.out w6)
  | (go_at_call 26;refine K5.mono ?_;clear K5;rintro e w7 ⟨rfl,b7⟩;have B7A:Aside (Below W.heap.size W w7):=Rf.below_far (Rf.below_far B6A.out (nb w6 _)) b7;clear b7;have K6:=KR0.out w7)
  | (go_at_call 26;refine K6.mono ?_;clear K6;rintro e w8 ⟨rfl,b8⟩))
 go_ret
 exact⟨rfl,Rf.below_far B7A.out b8⟩
end Go.Proofs.YtnnmdkaoiofabaaGreat.Sf
