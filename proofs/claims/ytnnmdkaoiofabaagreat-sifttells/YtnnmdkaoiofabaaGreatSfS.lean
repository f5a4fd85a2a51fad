/-
  Sifting: Sift where there is room.
-/
import Derived.Test.YtnnmdkaoiofabaaGreatSfY
namespace Go.Proofs.YtnnmdkaoiofabaaGreat.Sf
open Go Go.RowKit
open Mk (HsAt)
open Sw (posN posN_of)
def nxV (n:Nat) (sz:(Nat→Nat)→Nat) (v:Nat→Nat) (x:Nat):Nat→Nat:=mv v (posN v x n) (bst (fun q=>sz (mv v (posN v x n) q)) n)
def sfI (n:Nat) (sz:(Nat→Nat)→Nat) (v:Nat→Nat) (xs:List Nat):Nat→Nat→Nat
 | 0=>v
 | i+1=>nxV n sz (sfI n sz v xs i) (xs.getD i 0)
def rtH (zs:List Nat) (i:Nat):Nat:=zs.getD i 0
theorem rtH_mem {zs:List Nat}{i:Nat}(h:i<zs.length):rtH zs i∈zs:=by
 unfold rtH;rw[List.getD_eq_getElem?_getD,List.getElem?_eq_getElem h];exact List.getElem_mem h
theorem rtH_of {zs:List Nat}{x:Nat}(h:x∈zs):∃i,i<zs.length∧rtH zs i=x:=by
 obtain⟨i,hi,e⟩:=List.getElem_of_mem h;refine⟨i,hi,?_⟩;unfold rtH;rw[List.getD_eq_getElem?_getD,List.getElem?_eq_getElem hi];exact e
section
variable {w w':World}{S n0 cap:Nat}{M:Mdl}{F:Nat→Prop}{H:Nat→Nat}{ad:Option Addr}
structure SiftP (w:World) (S:Nat) (F:Nat→Prop) (M:Mdl) (n0:Nat) (H:Nat→Nat) (e:Ending) (w':World) (zs xs ks:List Nat) (F':Nat→Prop) (M':Mdl):Prop where
 unl:Unl H n0 zs
 few:zs.length≤n0
 nd:ks.Nodup
 rch:Rch M H n0 ks
 plan:PlanIs (plK M.v (lvN M ks) M.n) M.n xs
 told:e = .returned (.tuple #[.int .i64 (szN M.n M.v (fun i=>M.tbl (rtH zs i)) zs.length:Int),.int .i64 (szN M.n (sfI M.n (fun v=>szN M.n v (fun i=>M.tbl (rtH zs i)) zs.length) M.v xs M.n) (fun i=>M.tbl (rtH zs i)) zs.length:Int),.int .i64 0])
 st:St w' S F' M'
 wf:Wf F F' w w'
 rts:Rts (rtH zs) zs.length (fun i=>M.tbl (rtH zs i)) M.n M.room (sfI M.n (fun v=>szN M.n v (fun i=>M.tbl (rtH zs i)) zs.length) M.v xs M.n) M'
theorem Rts.rch {L n r:Nat}{T:Nat→Nat→Bool}{v:Nat→Nat}(o:M.Ok) (rt:Rts H L T n r v M):Mk.Rch M H L M.hs:=
 ⟨fun _ h=>h,fun k hk=>⟨(o.lo k hk).1,(o.hi k hk).1⟩,rt.node,rt.full,o.nodup⟩
theorem Rts.len {L n r:Nat}{T:Nat→Nat→Bool}{v:Nat→Nat}(o:M.Ok) (rt:Rts H L T n r v M):M.hs.length=szN n v T L:=by
 have:=Sw.reach_size (T:=T) o (rt.rch o) o.nodup (fun i hi=>⟨rt.node i hi,by rw[rt.tbl i hi];exact Eqt.refl _⟩) fun i hi=>by
  rw[← rt.tbl i hi];exact tbl_dep o (rt.node i hi) (Nat.zero_le _)
 rw[this,szN_is,rt.n,rt.v]
theorem rts_start {zs xs:List Nat}(o:M.Ok) (ox:(Mk.only M xs).Ok) (u:Unl H n0 zs) (rc:Mk.Rch M H n0 xs):Rts (rtH zs) zs.length (fun i=>M.tbl (rtH zs i)) M.n M.room M.v (Mk.only M xs):=by
 have g:Mdl.Grew (Mk.only M xs) M:=⟨rfl,rfl,rfl,fun h hh=>⟨rc.inn h hh,rfl⟩⟩
 have nd:∀i,i<zs.length→(Mk.only M xs).isNode (rtH zs i):=fun i hi=>by
  obtain⟨_,j,hj,e⟩:=(u.mem _).1 (rtH_mem hi);rw[← e];exact rc.top j hj
 refine⟨rfl,rfl,rfl,nd,fun i hi=>funext fun y=>(g.tbl ox (nd i hi) y).symm,fun Q top cl k hk=>?_⟩;have q:=rc.only (fun x=>(x<2∨x∈xs)∧(x<2∨Q x)) (fun i hi=>⟨rc.top i hi,?_⟩) (fun x hx q=>?_) k hk
 ·exact q.2.resolve_left (by have:=(o.range k (rc.inn k hk)).1;omega)
 ·by_cases c:H i<2
  ·exact .inl c
  ·obtain⟨j,hj,e⟩:=rtH_of ((u.mem (H i)).2 ⟨by omega,i,hi,rfl⟩);rw[← e];exact .inr (top j hj)
 ·have h2:¬x<2:=by have:=(o.range x hx).1;omega
  have c:x∈xs:=q.1.resolve_left h2;have z:=cl x c (q.2.resolve_left h2);exact⟨⟨(rc.closed x c).1,.inr z.1⟩,(rc.closed x c).2,.inr z.2⟩
set_option maxRecDepth 100000 in
set_option maxHeartbeats 8000000 in
theorem sift_ok (s:St w S F M) (pl:Pl w F ad n0 H) (all:∀i,i<n0→M.isNode (H i)) (hn:n0≤1000) (fit:∀zs,Unl H n0 zs→200*max zs.length 1≤M.room) :
  Calls Tryz.prog 18 #[.pointer (some ⟨S,0,none⟩),.slice ad n0 cap] w fun e w'=>∃zs xs ks F' M',SiftP w S F M n0 H e w' zs xs ks F' M':=by
 have o:=s.ok;have n8:=o.le8;have K1:=plan_yes (cap:=cap) s pl.at_ all hn;have KC:Aside (∀u,Below w.heap.size w u→Calls Tryz.prog 51 #[.pointer (some ⟨S,0,none⟩),.slice ad n0 cap] u fun e w'=>∃xs F',e = .returned (.tuple #[.int .i64 ((M.hs.length:Int)-(xs.length:Int)),.int .i64 0])∧Mk.Rch M H n0 xs∧xs.Pairwise (· < ·)∧St w' S F' (Mk.only M xs)∧Wf F F' u w'):=fun u b=>Mk.collect_yes (cap:=cap) (s.below b) (pl.below b).at_ all (by omega)
 have h32:Aside (∀i,i<n0→H i<4294967296):=fun i hi=>lt32 o (all i hi)
 have KR:Aside (∀u F',Pl u F' ad n0 H→Calls Tryz.prog 26 #[.slice ad n0 cap] u fun e w'=>∃xs,e = .returned (.int .i64 ((200*max xs.length 1:Nat):Int))∧Unl H n0 xs∧xs.length≤n0∧Below u.heap.size u w'):=fun u F' p=>room_any (cap:=cap) p.at_ h32.out hn
 have KU:Aside (∀u F',Pl u F' ad n0 H→Calls Tryz.prog 52 #[.slice ad n0 cap] u fun e w'=>∃ad' cap' xs,e = .returned (.slice ad' xs.length cap')∧Unl H n0 xs∧xs.length≤n0∧OwnR 36 w' u.heap.size ad' xs.length cap' (fun i=>.int .u32 (xs.getD i 0:Nat))∧Below u.heap.size u w'):=fun u F' p=>unlike_any (cap:=cap) p.at_ h32.out hn
 have plA:Aside (∀u,Below w.heap.size w u→Pl u F ad n0 H):=fun u b=>pl.below b
 have fitA:Aside (∀xs,Unl H n0 xs→200*max xs.length 1≤M.room):=fit;have startA:Aside (∀zs xs,(Mk.only M xs).Ok→Unl H n0 zs→Mk.Rch M H n0 xs→Rts (rtH zs) zs.length (fun i=>M.tbl (rtH zs i)) M.n M.room M.v (Mk.only M xs)):=fun zs xs ox u rc=>rts_start o ox u rc
 have ltA:Aside (∀k,F k→k<w.heap.size):=s.lt;have hr:1≤M.room∧M.room≤32768:=s.room;clear s pl all o fit h32;go_enter Tryz.func18,Tryz.ntmps18
 go_upto_region 4 with (first
  | (go_at_call 16;refine K1.mono ?_;clear K1;rintro e w1 ⟨adp,capp,xs,ks,rfl,nd,rk,pk,ow1,B1⟩))
 have K2:=KC.out w1 B1;have z1:Aside (Od.IntsAt w1 adp M.n (fun i=>(xs.getD i 0:Nat))∧(∀a,adp=some a→¬F a.block∧a.block<w1.heap.size)):=by
  refine⟨own_ints ow1,fun a e=>?_⟩;have:=ow1.block a.block ⟨a,e,rfl⟩;exact⟨fun q=>by have:=ltA.out _ q;omega,this.2⟩
 have B1A:Aside (Below w.heap.size w w1):=B1;have pkA:Aside (ks.Nodup∧Rch M H n0 ks∧PlanIs (plK M.v (lvN M ks) M.n) M.n xs):=⟨nd,rk,pk⟩
 clear B1 KC nd rk pk ow1
 go_upto_region 5 with (first
  | (go_at_call 51;refine K2.mono ?_;clear K2;rintro e w2 ⟨cs,F2,rfl,rc,up,s2,g2⟩))
 have pl2:=(plA.out w1 B1A.out).wf g2;have K3:=KR.out w2 F2 pl2;have fA:Aside (Mk.Rch M H n0 cs∧Wf F F2 w1 w2∧St w2 S F2 (Mk.only M cs)∧Pl w2 F2 ad n0 H):=⟨rc,g2,s2,pl2⟩
 clear rc up g2 s2 KR plA pl2
 go_upto_region 7 with (first
  | (go_at_call 26;refine K3.mono ?_;clear K3;rintro e w3 ⟨zs0,rfl,uz,hz,B3⟩;have s3:=fA.out.2.2.1.below B3;have K4:=s_room s3;have hgt:¬(M.room:Int)<((200*max zs0.length 1:Nat):Int):=(by have:=fitA.out zs0 uz;omega);have s3A:Aside (St w3 S F2 (Mk.only M cs)∧Below w2.heap.size w2 w3):=⟨s3,B3⟩;clear s3 B3 uz hz;rw[show (Mk.only M cs).room=M.room from rfl]at K4)
  | (go_at_call 27;refine K4.mono ?_;clear K4;rintro e w4 ⟨rfl,rfl⟩))
 have K5:=KU.out w4 F2 (fA.out.2.2.2.below s3A.out.2);clear KU hgt
 go_upto_region 8 with (first
  | (go_at_call 52;refine K5.mono ?_;clear K5;rintro e w5 ⟨adl,capl,zs,rfl,uz,hz,ol,b5⟩))
 have s5:=s3A.out.1.below b5;have rt5:=startA.out zs cs fA.out.2.2.1.ok uz fA.out.1;have hroom:200*zs.length≤M.room:=by have:=fitA.out zs uz;omega
 have hL:zs.length≤1000:=by omega
 have pl5:Pl w5 F2 adl zs.length (rtH zs):=⟨Mk.HsAt.own ol,fun a e=>by
  have:=ol.block a.block ⟨a,e,rfl⟩;exact⟨fun q=>by have:=s3A.out.1.lt _ q;omega,this.2⟩⟩
 have K6:=size_is (cap:=capl) s5 rt5 pl5 hL;have g5A:Aside (Wf F F2 w w5):=(((Wf.of_below B1A.out F).trans fA.out.2.1).trans (Wf.of_below s3A.out.2 F2)).trans (Wf.of_below b5 F2);have uA:Aside (Unl H n0 zs∧zs.length≤n0):=⟨uz,hz⟩
 have zp5:Aside (Od.IntsAt w5 adp M.n (fun i=>(xs.getD i 0:Nat))∧(∀a,adp=some a→¬F2 a.block∧a.block<w5.heap.size)):=by
  have g15:Wf F F2 w1 w5:=(fA.out.2.1.trans (Wf.of_below s3A.out.2 F2)).trans (Wf.of_below b5 F2);refine⟨?_,fun a e=>?_⟩
  ·rcases z1.out.1 with h0|⟨bb,off,e,hb,hc⟩
   ·exact .inl h0
   ·refine .inr ⟨bb,off,e,Nat.lt_of_lt_of_le hb g15.size,fun i hi=>?_⟩;rw[← hc i hi];exact World.cell?_of_block (a:=⟨bb,off+i,none⟩) (g15.block bb hb (z1.out.2 _ e).1)
  ·obtain⟨h1,h2⟩:=z1.out.2 a e;exact⟨fun q=>(g15.new _ q).elim h1 fun q=>by omega,Nat.lt_of_lt_of_le h2 g15.size⟩
 have stA:Aside (St w5 S F2 (Mk.only M cs)∧Rts (rtH zs) zs.length (fun i=>M.tbl (rtH zs i)) M.n M.room M.v (Mk.only M cs)∧Pl w5 F2 adl zs.length (rtH zs)):=⟨s5,rt5,pl5⟩
 clear s5 rt5 pl5 uz hz ol b5 fitA startA z1 B1A fA s3A ltA
 go_upto_region 9 with (first
  | (go_at_call 53;refine K6.mono ?_;clear K6;rintro e w6 ⟨rfl,b6⟩))
 have baseA:Aside (Pl w6 F2 adl zs.length (rtH zs)∧Od.IntsAt w6 adp M.n (fun i=>(xs.getD i 0:Nat))∧(∀a,adp=some a→¬F2 a.block)):=⟨stA.out.2.2.below b6,zp5.out.1.below b6,fun a e=>(zp5.out.2 a e).1⟩
 have g6A:Aside (Wf F F2 w w6):=g5A.out.trans (Wf.of_below b6 F2);have st6:Aside (∃F' M',St w6 S F' M'∧Rts (rtH zs) zs.length (fun i=>M.tbl (rtH zs i)) M.n M.room M.v M'∧Wf F2 F' w6 w6):=⟨F2,_,stA.out.1.below b6,stA.out.2.1,Wf.of_below (Below.refl _ _) F2⟩
 clear stA zp5 g5A b6;have xlt:Aside (∀i,i<M.n→xs.getD i 0<M.n):=fun i hi=>by
  have hl:=pkA.out.2.2.len;rw[List.getD_eq_getElem?_getD,List.getElem?_eq_getElem (by omega)];exact pkA.out.2.2.lt _ (List.getElem_mem _)
 obtain⟨N,hN⟩:∃N,M.n=N:=⟨_,rfl⟩
 obtain⟨R,hR⟩:∃R,M.room=R:=⟨_,rfl⟩
 obtain⟨v,hv⟩:∃v,M.v=v:=⟨_,rfl⟩
 obtain⟨T,hT⟩:∃T,(fun i=>M.tbl (rtH zs i))=T:=⟨_,rfl⟩
 obtain⟨L,hLe⟩:∃L,zs.length=L:=⟨_,rfl⟩
 have eqA:Aside (M.n=N∧M.room=R∧M.v=v∧(fun i=>M.tbl (rtH zs i))=T∧zs.length=L):=⟨hN,hR,hv,hT,hLe⟩
 rw[hN]at baseA st6 xlt n8 ⊢;rw[hR]at st6 hr hroom;rw[hv]at st6 ⊢;rw[hT]at st6 ⊢;rw[hLe]at st6 baseA hL hroom ⊢;clear hN hR hv hT hLe;obtain⟨B0,hB0⟩:∃B0:Nat,szN N v T L=B0:=⟨_,rfl⟩
 have B0A:Aside (szN N v T L=B0):=hB0;rw[hB0];clear hB0;obtain⟨sz,hsz⟩:∃sz,(fun v=>szN N v T L)=sz:=⟨_,rfl⟩
 have szA:Aside ((fun v=>szN N v T L)=sz):=hsz;clear hsz
 go_wp2_with fail
 go_loopg [38] N (fun gg s38 wr=>∃i:Nat,i+gg=N∧s38 = .int .i64 (i:Int)∧Aside (∃F' M',St wr S F' M'∧Rts (rtH zs) L T N R (sfI N sz v xs i) M'∧Wf F2 F' w6 wr))
 case atStart=>exact⟨0,by omega,rfl,st6⟩
 case round =>
  clear st6;obtain⟨i,hi,rfl,hs⟩:=hrel;have hiA:Aside (i+gk=N):=hi;have hiN:i≤N:=by omega
  clear hi;by_cases hlt:i<N
  ·have hlt':(i:Int)<(N:Int):=by omega
   have hltA:Aside (i<N):=hlt;obtain⟨Fr,Mr,sr,rr,gr⟩:=hs.out;obtain⟨x,hx⟩:∃x,xs.getD i 0=x:=⟨_,rfl⟩
   have xN:x<N:=by rw[← hx];exact xlt.out i hlt
   obtain⟨bz,oz,rfl,hbz,hcz⟩:=baseA.out.2.1.resolve_left (by omega);have cp:wr.cell? ⟨bz,oz+i,none⟩=some (.int .i64 (x:Int)):=by
    rw[← hx,← hcz i hlt];exact World.cell?_of_block (a:=⟨bz,oz+i,none⟩) (gr.block bz hbz (baseA.out.2.2 _ rfl))
   have pr:=baseA.out.1.wf gr;have hvi:Aside (sfI N sz v xs (i+1)=nxV N sz (sfI N sz v xs i) x):=by show nxV N sz (sfI N sz v xs i) (xs.getD i 0)=_;rw[hx]
   generalize sfI N sz v xs i=vi at rr hvi;have om:=sr.ok;obtain⟨p,hp,ep⟩:=Sw.surj_of_inj (v:=vi) (n:=N) (fun a ha=>by have:=om.vlt a (by rw[rr.n];exact ha);rwa [rr.v,rr.n]at this) (fun a b ha hb e=>om.vinj a b (by rw[rr.n];exact ha) (by rw[rr.n];exact hb) (by rw[rr.v];exact e)) xN;have hpos:posN vi x N=p:=by rw[← ep];exact posN_of (fun a b ha hb e=>om.vinj a b (by rw[rr.n];exact ha) (by rw[rr.n];exact hb) (by rw[rr.v];exact e)) hp
   have nxA:Aside (sfI N sz v xs (i+1)=mv vi p (bst (szF N vi T L p) N)):=by
    show _=_;rw[hvi.out];unfold nxV;rw[hpos,← szA.out];rfl
   have rr':Rts (rtH zs) L T N R (mv vi p p) Mr:=by rw[mv_self];exact rr
   have nbr:¬Fr wr.heap.size:=fun z=>Nat.lt_irrefl _ (sr.lt _ z)
   have s7:=(sr.new (moC S adl L capl x)).drew;have pl7:Pl (wr.alloc (moC S adl L capl x)).drew Fr adl L (rtH zs):=pr.below ⟨(nb wr (moC S adl L capl x)).os,(nb wr (moC S adl L capl x)).tape,(nb wr (moC S adl L capl x)).output,(nb wr (moC S adl L capl x)).size,(nb wr (moC S adl L capl x)).block⟩;have mo7:=IsMo.new (S:=S) (ad:=adl) (L:=L) (cap:=capl) wr x;have KV:=s_vars s7;rw[rr.n]at KV;have KL:=least_any (cap:=capl) s7 rr' pl7 hp hroom hL ep;have bst8:bst (szF N vi T L p) N<N:=bst_lt _ (by omega);have C0:=mo7.cells
   have b7A:Aside (Wf F2 Fr w6 (wr.alloc (moC S adl L capl x)).drew∧True∧Pl (wr.alloc (moC S adl L capl x)).drew Fr adl L (rtH zs)∧IsMo (wr.alloc (moC S adl L capl x)).drew wr.heap.size S adl L capl x∧¬Fr wr.heap.size):=
    ⟨gr.trans (Wf.of_below (nb wr (moC S adl L capl x)).drew Fr),trivial,pl7,mo7,nbr⟩
   have epA:Aside (vi p=x∧p<N):=⟨ep,hp⟩
   have hmf:∀(fn:Fn) (first cap:Array Value) (w:World),(Instr.makeFunc fn first cap).run Tryz.prog w = .ok (.func fn first cap) w:=fun _ _ _ _=>rfl
   clear hs sr rr gr hx xN hbz hcz pr hvi om hpos rr' nbr s7 pl7 mo7 ep hp hlt;go_upto_region 13 with fail
   generalize (wr.alloc (moC S adl L capl x))=w7 at b7A KV KL C0 ⊢;generalize wr.heap.size=b at b7A C0 ⊢
   go_region_held3 (fun u=>u.cell? ⟨b,0,none⟩=some (.pointer (some ⟨S,0,none⟩))∧u.cell? ⟨b,1,none⟩=some (.slice adl L capl)∧u.cell? ⟨b,2,none⟩=some (.int .i64 (x:Int))) (first|assumption|exact C0) (first
    | (go_at_call 56;refine KV.mono ?_;rintro e w8 ⟨rfl,e8⟩;subst w8)
    | (go_at_call 55;refine KL.mono ?_;rintro e w9 ⟨rfl,F9,M9,q9,hq9,s9,r9,g9⟩;have C9:w9.cell? ⟨b,0,none⟩=some (.pointer (some ⟨S,0,none⟩))∧w9.cell? ⟨b,1,none⟩=some (.slice adl L capl)∧w9.cell? ⟨b,2,none⟩=some (.int .i64 (x:Int)):=(b7A.out.2.2.2.1.wf b7A.out.2.2.2.2 g9).cells;have KPt:=put_any (cap:=capl) s9 r9 (b7A.out.2.2.1.wf g9) hq9 bst8 hroom hL epA.out.1;have g9A:Aside (Wf Fr F9 w7.drew w9):=g9;clear s9 r9 g9 hq9)
    | (go_at_call 54;refine KPt.mono ?_;rintro e w10 ⟨rfl,F10,M10,s10,r10,g10⟩;have fA:Aside (St w10 S F10 M10∧Rts (rtH zs) L T N R (mv vi p (bst (szF N vi T L p) N)) M10∧Wf F2 F10 w6 w10):=⟨s10,r10,(b7A.out.1.trans g9A.out).trans g10⟩;have C10:w10.cell? ⟨b,0,none⟩=some (.pointer (some ⟨S,0,none⟩))∧w10.cell? ⟨b,1,none⟩=some (.slice adl L capl)∧w10.cell? ⟨b,2,none⟩=some (.int .i64 (x:Int)):=((b7A.out.2.2.2.1.wf b7A.out.2.2.2.2 g9A.out).wf (fun z=>(g9A.out.new b z).elim b7A.out.2.2.2.2 fun z=>absurd (Array.getElem?_eq_some_iff.1 b7A.out.2.2.2.1).1 (by omega)) g10).cells;clear s10 r10 g10))
   ·have hjw:IntKind.i64.wrap ((i:Int)+1)=((i+1:Nat):Int):=by rw[IntKind.wrap_i64];omega
    clear KV KL C0
    go_wp2_with fail
    go_roundg (gk-1)
    case measure=>have:=hiA.out;have:=hltA.out;omega
    case rel =>
     have:=hiA.out;have:=hltA.out;refine⟨i+1,by omega,rfl,F10,M10,fA.out.1,?_,fA.out.2.2⟩;rw[nxA.out];exact fA.out.2.1
   ·have hjw:IntKind.i64.wrap ((i:Int)+1)=((i+1:Nat):Int):=by rw[IntKind.wrap_i64];omega
    clear KV KL C0
    go_wp2_with fail
    go_roundg (gk-1)
    case measure=>have:=hiA.out;have:=hltA.out;omega
    case rel =>
     have:=hiA.out;have:=hltA.out;refine⟨i+1,by omega,rfl,F10,M10,fA.out.1,?_,fA.out.2.2⟩;rw[nxA.out];exact fA.out.2.1
  ·have hlt':¬(i:Int)<(N:Int):=by omega
   have ei:i=N:=by omega
   rw[ei]at hs;obtain⟨Fr,Mr,sr,rr,gr⟩:=hs.out;have KS:=size_is (cap:=capl) sr rr (baseA.out.1.wf gr) hL;have fA:Aside (St wr S Fr Mr∧Rts (rtH zs) L T N R (sfI N sz v xs N) Mr∧Wf F2 Fr w6 wr):=⟨sr,rr,gr⟩
   clear hs sr rr gr ei hiN hiA
   go_wp2_with (first
    | (go_at_call 53;refine KS.mono ?_;clear KS;rintro e w7 ⟨rfl,b7⟩))
   go_ret3
   obtain⟨s9,r9,g9⟩:=fA.out;refine⟨zs,xs,ks,Fr,Mr,uA.out.1,uA.out.2,pkA.out.1,pkA.out.2.1,pkA.out.2.2,?_,s9.below b7,(g6A.out.trans g9).trans (Wf.of_below b7 Fr),?_⟩
   ·obtain⟨e1,e2,e3,e4,e5⟩:=eqA.out;rw[e1,e3,e4,e5,szA.out,B0A.out];rfl
   ·obtain⟨e1,e2,e3,e4,e5⟩:=eqA.out;rw[e1,e2,e3,e4,e5,szA.out];exact r9
end
end Go.Proofs.YtnnmdkaoiofabaaGreat.Sf
