/-
  Sifting: a variable that moves through the levels: what is reached keeps its handles and functions; how many nodes there are then.
-/
import Derived.Test.YtnnmdkaoiofabaaGreatSfA
import Derived.Test.YtnnmdkaoiofabaaGreatSwUT
import Derived.Test.YtnnmdkaoiofabaaGreatCtY
namespace Go.Proofs.YtnnmdkaoiofabaaGreat.Sf
open Go Go.RowKit
open Mk (HsAt)
open Sw (swv Plan atLev)
theorem swv_mv (v:Nat→Nat) (p q:Nat):swv (mv v p q) q=mv v p (q+1):=funext fun i=>by
 unfold swv;by_cases a:i=q
 ·rw[if_pos a,a];unfold mv;rw[if_neg (by omega),if_neg (by omega),if_pos (by omega)];rfl
 ·rw[if_neg a];by_cases b:i=q+1
  ·rw[if_pos b,b,mv_at,mv_at]
  ·rw[if_neg b];unfold mv;by_cases c:i<q
   ·rw[if_pos c,if_pos (by omega)]
   ·rw[if_neg c,if_neg a,if_neg (by omega),if_neg b]
theorem swv_mv' (v:Nat→Nat) (p q:Nat):swv (mv v p (q+1)) q=mv v p q:=by rw[← swv_mv,Sw.swv_twice]
def szN (n:Nat) (v:Nat→Nat) (T:Nat→Nat→Bool) (L:Nat):Nat:=(Rf.prt (fun i=>(v i:Int)) n (Rf.dedup T L) (min n 8+1)).1.length
theorem szN_is (M:Mdl) (T:Nat→Nat→Bool) (L:Nat):sizeN M T L=szN M.n M.v T L:=rfl
structure Rts (H:Nat→Nat) (L:Nat) (T:Nat→Nat→Bool) (n r:Nat) (v:Nat→Nat) (M:Mdl):Prop where
 n:M.n=n
 room:M.room=r
 v:M.v=v
 node:∀i,i<L→M.isNode (H i)
 tbl:∀i,i<L→M.tbl (H i)=T i
 full:Full M H L
section
variable {w w':World}{S L n r k:Nat}{M:Mdl}{F F':Nat→Prop}{H:Nat→Nat}{T:Nat→Nat→Bool}{v:Nat→Nat}{ad:Option Addr}{cap:Nat}
theorem Rts.only {xs:List Nat}(oM:M.Ok) (o:(Mk.only M xs).Ok) (e1:M.n=n) (e2:M.room=r) (e3:M.v=v) (tb:∀i,i<L→M.tbl (H i)=T i) (rc:Mk.Rch M H L xs):Rts H L T n r v (Mk.only M xs):=by
 have g:Mdl.Grew (Mk.only M xs) M:=⟨rfl,rfl,rfl,fun h hh=>⟨rc.inn h hh,rfl⟩⟩
 refine⟨e1,e2,e3,fun i hi=>rc.top i hi,fun i hi=>?_,fun Q top cl k hk=>?_⟩
 ·rw[← tb i hi];exact funext fun y=>(g.tbl o (rc.top i hi) y).symm
 ·refine(rc.only (fun x=>(x<2∨x∈xs)∧Q x) (fun i hi=>⟨rc.top i hi,top i hi⟩) (fun x hx q=>?_) k hk).2;have c:x∈xs:=q.1.resolve_left (by have:=(oM.range x hx).1;omega);exact⟨⟨(rc.closed x c).1,(cl x c q.2).1⟩,(rc.closed x c).2,(cl x c q.2).2⟩
structure Pl (w:World) (F:Nat→Prop) (ad:Option Addr) (L:Nat) (H:Nat→Nat):Prop where
 at_:HsAt w ad L H
 far:∀a,ad=some a→¬F a.block∧a.block<w.heap.size
theorem Pl.wf (h:Pl w F ad L H) (g:Wf F F' w w'):Pl w' F' ad L H:=by
 refine⟨?_,fun a e=>?_⟩
 ·rcases h.at_ with h0|⟨b,off,e,hb,hc⟩
  ·exact .inl h0
  ·refine .inr ⟨b,off,e,Nat.lt_of_lt_of_le hb g.size,fun i hi=>?_⟩;rw[← hc i hi];exact World.cell?_of_block (a:=⟨b,off+i,none⟩) (g.block b hb (h.far _ e).1)
 ·obtain⟨h1,h2⟩:=h.far a e;exact⟨fun q=>(g.new _ q).elim h1 fun q=>by omega,Nat.lt_of_lt_of_le h2 g.size⟩
theorem Pl.below (h:Pl w F ad L H) (k:Below w.heap.size w w'):Pl w' F ad L H:=h.wf (Wf.of_below k F)
theorem lt32 (o:M.Ok){x:Nat}(h:M.isNode x):x<4294967296:=by have:=Mdl.isNode_lt o h;omega
abbrev moV (S:Nat) (ad:Option Addr) (L cap:Nat) (x:Nat):Value:=.agg #[.pointer (some ⟨S,0,none⟩),.slice ad L cap,.int .i64 (x:Int)]
abbrev moC (S:Nat) (ad:Option Addr) (L cap:Nat) (x:Nat):Obj:=.cells #[.pointer (some ⟨S,0,none⟩),.slice ad L cap,.int .i64 (x:Int)] 108
def IsMo (w:World) (b S:Nat) (ad:Option Addr) (L cap x:Nat):Prop:=w.heap[b]? = some (moC S ad L cap x)
theorem IsMo.cells {b x:Nat}(h:IsMo w b S ad L cap x):w.cell? ⟨b,0,none⟩=some (.pointer (some ⟨S,0,none⟩))∧w.cell? ⟨b,1,none⟩=some (.slice ad L cap)∧w.cell? ⟨b,2,none⟩=some (.int .i64 (x:Int)):=by
 unfold IsMo at h;exact⟨by simp[World.cell?,h],by simp[World.cell?,h],by simp[World.cell?,h]⟩
theorem IsMo.wf {b x:Nat}(h:IsMo w b S ad L cap x) (hb:¬F b) (g:Wf F F' w w'):IsMo w' b S ad L cap x:=(g.block b (Array.getElem?_eq_some_iff.1 h).1 hb).trans h
theorem IsMo.new (w:World) (x:Nat):IsMo (w.alloc (moC S ad L cap x)) w.heap.size S ad L cap x:=heap_alloc_new w _
def Sit (w0:World) (F0:Nat→Prop) (S:Nat) (H:Nat→Nat) (L:Nat) (T:Nat→Nat→Bool) (n r:Nat) (v:Nat→Nat) (w:World):Prop:=
 ∃F M,St w S F M∧Rts H L T n r v M∧Wf F0 F w0 w
set_option maxRecDepth 100000 in
set_option maxHeartbeats 2000000 in
theorem exch_any (s:St w S F M) (rt:Rts H L T n r v M) (pl:Pl w F ad L H) (kn:k+1<n) (hr:200*L≤r) (hL:L≤1000) (x:Nat) :
  Calls Tryz.prog 89 #[moV S ad L cap x,.int .i64 (k:Int)] w fun e w'=>e = .returned (.tuple #[])∧∃F' M',St w' S F' M'∧Rts H L T n r (swv v k) M'∧Wf F F' w w':=by
 have o:=s.ok;have fw:=few o rt.full k;have B0:Below w.heap.size w (w.alloc (moC S ad L cap x)):=nb w _;have s0:=s.below B0;have pl0:=pl.below B0;have mo0:=IsMo.new (S:=S) (ad:=ad) (L:=L) (cap:=cap) w x;have nb0:¬F w.heap.size:=fun q=>Nat.lt_irrefl _ (s.lt _ q)
 have kn':k+1<M.n:=by rw[rt.n];exact kn
 have K1:=Sw.swap_ok s0 kn' (by have:=rt.room;unfold atLev;omega);have rtA:Aside (Rts H L T n r v M):=rt;have oA:Aside M.Ok:=o;have B0A:Aside (Below w.heap.size w (w.alloc (moC S ad L cap x))):=B0;obtain⟨c0,c1,_⟩:=mo0.cells;obtain⟨b,hb⟩:∃b,w.heap.size=b:=⟨_,rfl⟩
 go_enter Tryz.func89,Tryz.ntmps89
 go_upto_region 1 with fail
 rw[hb]at mo0 nb0 c0 c1;clear hb s o fw pl rt kn' B0;generalize w.alloc (moC S ad L cap x)=w0 at s0 pl0 mo0 c0 c1 K1 B0A ⊢;have pA:Aside (Pl w0 F ad L H∧IsMo w0 b S ad L cap x∧¬F b):=⟨pl0,mo0,nb0⟩
 clear pl0 mo0 nb0
 go_upto_region 2 with (first
  | (go_at_call 44;refine K1.mono ?_;clear K1;rintro e w2 ⟨rfl,F1,M1,p1,l1,s1,g1⟩))
 clear c0 c1 s0;have kp:=p1.kept oA.out;have pl1:=pA.out.1.wf g1;obtain⟨c0,c1,_⟩:=(pA.out.2.1.wf pA.out.2.2 g1).cells;have nd:∀i,i<L→M1.isNode (H i):=fun i hi=>kp.node _ (rtA.out.node i hi)
 have K2:=Mk.collect_yes (cap:=cap) s1 pl1.at_ nd (by omega)
 have fA:Aside (∀xs,(Mk.only M1 xs).Ok→Mk.Rch M1 H L xs→Rts H L T n r (swv v k) (Mk.only M1 xs)):=fun xs ox rc =>
  Rts.only s1.ok ox (kp.n.trans rtA.out.n) (kp.room.trans rtA.out.room) (by rw[p1.v,rtA.out.v]) (fun i hi=>(kp.tbl (rtA.out.node i hi)).trans (rtA.out.tbl i hi)) rc
 have gA:Aside (Wf F F1 w0 w2):=g1;clear p1 l1 s1 g1 kp pl1 nd hL hr
 go_wp2_with (first
  | (go_at_call 51;refine K2.mono ?_;clear K2;rintro e w3 ⟨xs,F3,rfl,rc,up,s3,g3⟩))
 go_end0
 exact⟨rfl,F3,_,s3,fA.out xs s3.ok rc,((Wf.of_below B0A.out F).trans gA.out).trans g3⟩
theorem size_is (s:St w S F M) (rt:Rts H L T n r v M) (pl:Pl w F ad L H) (hL:L≤1000) :
  Calls Tryz.prog 53 #[.pointer (some ⟨S,0,none⟩),.slice ad L cap] w fun e w'=>e = .returned (.int .i64 (szN n v T L:Int))∧Below w.heap.size w w':=by
 have o:=s.ok;have K1:Calls Tryz.prog 30 #[.pointer (some ⟨S,0,none⟩),.slice ad L cap] w fun e w'=>e = .returned (.tuple #[.int .i64 (szN n v T L:Int),.int .i64 0])∧Below w.heap.size w w':=by
  refine(size_op (cap:=cap) s pl.at_ (fun i hi=>lt32 o (rt.node i hi)) (by omega)).mono ?_;rintro e w' ⟨(⟨_,ks,nd,rc,rfl⟩|⟨⟨i,hi,q⟩,_⟩),B⟩
  ·have:=Sw.reach_size (T:=T) o ⟨rc.inn,rc.closed,rc.top,rc.only,nd⟩ nd (fun i hi=>⟨rt.node i hi,by rw[rt.tbl i hi];exact Eqt.refl _⟩) fun i hi=>by
    rw[← rt.tbl i hi];exact tbl_dep o (rt.node i hi) (Nat.zero_le _)
   rw[this,szN_is,rt.n,rt.v];exact⟨rfl,B⟩
  ·exact absurd (rt.node i hi) q
 clear s rt pl o;go_enter Tryz.func53,Tryz.ntmps53
 go_wp2_with (first
  | (go_at_call 30;refine K1.mono ?_;clear K1;rintro e w1 ⟨rfl,B⟩))
 go_ret
 exact⟨rfl,B⟩
end
end Go.Proofs.YtnnmdkaoiofabaaGreat.Sf
