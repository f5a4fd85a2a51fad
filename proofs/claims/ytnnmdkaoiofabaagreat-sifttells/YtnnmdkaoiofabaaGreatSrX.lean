/-
  The reference of sifting: how many nodes of a variable (at).
  The reference of sifting: an order with a variable at a level (moved).
  The reference of sifting: an order with a variable at a level (moved), walked.
  The reference of sifting: the plan, by selection, without a program.
-/
import Derived.Test.YtnnmdkaoiofabaaGreatSfW
import Derived.Test.YtnnmdkaoiofabaaGreatCtW
import Derived.Maps.AppendAt
import Derived.Deep.RegionLaw
namespace Go.Proofs.YtnnmdkaoiofabaaGreat.Sr
open Go Go.RowKit
open Od (IntsAt)
theorem at_any {w:World}{adv adc:Option Addr}{n cv cc k:Nat}{V C:Nat→Int}{x:Int}(hv:IntsAt w adv n V) (hc:IntsAt w adc n C) (hn:n≤1000) (hk:k<n) (hx:V k=x) (first:∀j,j<k→V j≠x) :
  Calls Tryz.prog 59 #[.slice adv n cv,.slice adc n cc,.int .i64 x] w fun e w'=>e = .returned (.int .i64 (C k))∧w'=w:=by
 obtain⟨bv,ov,rfl,_,rv⟩:=hv.resolve_left (by omega);obtain⟨bc,oc,rfl,_,rc⟩:=hc.resolve_left (by omega);have rvA:Aside (∀i,i<n→w.cell? ⟨bv,ov+i,none⟩=some (.int .i64 (V i))):=rv;have rcA:Aside (∀i,i<n→w.cell? ⟨bc,oc+i,none⟩=some (.int .i64 (C i))):=rc;have fA:Aside (V k=x∧∀j,j<k→V j≠x):=⟨hx,first⟩
 clear hv hc rv rc hx first;go_enter Tryz.func59,Tryz.ntmps59
 go_wp2_with fail
 go_loopg [7] k (fun g s7 wr=>∃j:Nat,j+g=k∧s7 = .int .i64 (j:Int)∧wr=w)
 case atStart=>exact⟨0,by omega,rfl,rfl⟩
 case round =>
  obtain⟨j,hj,rfl,rfl⟩:=hrel;have hJ:Aside (j+gk=k):=hj;have hlt':(j:Int)<(n:Int):=by omega
  have c1:=rvA.out j (by omega);by_cases e:j=k
  ·have c2:=rcA.out j (by omega);subst e;rw[fA.out.1]at c1;clear hj;obtain⟨y,hy⟩:∃y,C j=y:=⟨_,rfl⟩
   have yA:Aside (C j=y):=hy;rw[hy]at c2;clear hy
   go_wp2_with fail
   go_ret
   exact⟨by rw[yA.out];rfl,rfl⟩
  ·have ne:=fA.out.2 j (by omega);have hw:IntKind.i64.wrap ((j:Int)+1)=((j+1:Nat):Int):=by rw[IntKind.wrap_i64];omega
   generalize V j=y at c1 ne;have ne':¬y=x:=ne;have hd:decide (y=x)=false:=decide_eq_false ne;have hnk:Aside (j<k):=by show j<k;omega
   clear hj e
   go_wp2_with fail
   go_roundg (gk-1)
   case measure=>have:=hJ.out;have:=hnk.out;omega
   case rel=>have:=hJ.out;have:=hnk.out;exact⟨j+1,by omega,rfl,rfl⟩
end Go.Proofs.YtnnmdkaoiofabaaGreat.Sr

namespace Go.Proofs.YtnnmdkaoiofabaaGreat.Sr
open Go Go.RowKit
open Od (IntsAt)
open Sf (append_i info_int rem mv mv_at)
theorem run_app_none (w:World) (ad:Option Addr){n cap:Nat}(hn:n≤cap) (ty:TypeId):(Builtin.append_ #[42,42] ty #[.slice ad n cap,.slice none 0 0]).run Tryz.prog w = .ok (.slice ad n cap) w:=by
 obtain⟨i,hi,hz,hsz,hby⟩:=info_parts info_int;cases ad with
 | none=>simp[Builtin.append_,run_underlying Tryz.underlying42,sizeOf,typeInfo,hi,Builtin.lenOf,Builtin.firstCells,hn]
 | some a=>simp[Builtin.append_,run_underlying Tryz.underlying42,sizeOf,typeInfo,hi,Builtin.lenOf,Builtin.firstCells,storeCells,hn]
def SrcAt (w:World) (ad:Option Addr) (m:Nat) (U:Nat→Int):Prop:=(ad=none∧m=0)∨∃b off,ad=some ⟨b,off,none⟩∧∀i,i<m→w.cell? ⟨b,off+i,none⟩=some (.int .i64 (U i))
theorem run_app {w:World}{B n cap m c:Nat}{ad src:Option Addr}{V:Nat→Value}{U:Nat→Int}(hown:OwnR 3 w B ad n cap V) (hs:SrcAt w src m U) (hc:src=none→c=0) (hn:n+m≤1000) (hB:B≤w.heap.size) (ty:TypeId) :
  ∃ad' cap' w',(Builtin.append_ #[42,42] ty #[.slice ad n cap,.slice src m c]).run Tryz.prog w = .ok (.slice ad' (n+m) cap') w'∧OwnR 3 w' B ad' (n+m) cap' (fun i=>if i<n then V i else .int .i64 (U (i-n)))∧Went (At ad) w w'∧(∀k,At ad' k→At ad k∨k=w.heap.size):=by
 have hob:∀k,some k=(Value.slice ad n cap).ownBlock→At ad k:=by
  intro k hk;cases ad with
  | none=>simp[Value.ownBlock]at hk
  | some a=>exact⟨a,rfl,by simpa[Value.ownBlock]using hk.symm⟩
 rcases hs with ⟨rfl,rfl⟩|⟨b,off,rfl,hc2⟩
 ·obtain rfl:=hc rfl;refine⟨ad,cap,w,?_,?_,Went.refl _ _,fun k h=>.inl h⟩
  ·exact run_app_none w ad hown.room.1 ty
  ·exact hown.congr fun i hi=>by rw[if_pos (by omega)]
 ·obtain⟨i,hi,hz,hsz,hby⟩:=info_parts info_int;obtain⟨v',w',hr,o1,o2,o3,o4⟩:=run_append_own_at (P:=Tryz.prog) w B 42 ty 3 i _ 1 8 Tryz.underlying42 hi hz hsz hby (by kernel_rfl) (by decide) (.slice ad n cap) n (rowL n V) hown ⟨b,off,none⟩ m c (rowL m fun i=>.int .i64 (U i)) (by rw[rowL_length];omega) (fun j u hj=>by
   by_cases q:j<m
   ·rw[rowL_get _ _ q]at hj;cases hj;rw[← hc2 j q];unfold Addr.add;by_cases j0:j=0
    ·subst j0;rfl
    ·rw[if_neg j0]
   ·rw[List.getElem?_eq_none (by rw[rowL_length];omega)]at hj;cases hj) (fun u hu=>by
   obtain⟨j,hj,e⟩:=List.getElem_of_mem hu;have e2:=List.getElem?_eq_getElem hj;rw[rowL_length]at hj;rw[rowL_get _ _ hj,e]at e2;cases e2;rfl) (by simp only[maxLen];omega) (by omega) hB
  have cat:rowL n V ++ rowL m (fun i=>.int .i64 (U i))=rowL (n+m) (fun i=>if i<n then V i else .int .i64 (U (i-n))):=by
   apply List.ext_getElem?;intro j;by_cases q:j<n+m
   ·rw[rowL_get _ _ q];by_cases q2:j<n
    ·rw[if_pos q2,List.getElem?_append_left (by rw[rowL_length];exact q2),rowL_get _ _ q2]
    ·rw[if_neg q2,List.getElem?_append_right (by rw[rowL_length];omega),rowL_length,rowL_get _ _ (by omega)]
   ·rw[List.getElem?_eq_none (by rw[List.length_append,rowL_length,rowL_length];omega),List.getElem?_eq_none (by rw[rowL_length];omega)]
  rw[cat]at o1;obtain⟨ad',cap',rfl⟩:∃ad' cap',v' = .slice ad' (n+m) cap':=by
   obtain⟨_,h|⟨g,cap',cur,rfl,_⟩⟩:=o1
   ·obtain⟨rfl,h0⟩:=h;exact⟨none,0,by rw[h0]⟩
   ·exact⟨_,_,rfl⟩
  refine⟨ad',cap',w',hr,o1,⟨o2.os,o2.tape,o2.output,o2.size,fun k hk hA=>o2.block k hk fun e=>hA (hob k e)⟩,fun k ⟨a',e,ek⟩=>?_⟩;subst e;have hk:some k=(Value.slice (some a') (n+m) cap').ownBlock:=by simp[Value.ownBlock,ek]
  rcases o4 with h|h
  ·exact .inl (hob k (hk.trans h))
  ·right;rw[h]at hk;cases hk;rfl
theorem app_wp {ops:Array Oper}{rest:List Oper}{o:Oper}{a:Act}{w w':World}{Q:Exit→Act→World→Prop}(hgd:o.guard=none) (s y:Operand)
  (ho:o.op = .call { callee:=.builtin .append,args:=#[s,y],argTypes:=#[42,42] }) (v u r:Value) (hs:a.eval s=v) (hx:a.eval y=u) (hr:(Builtin.append_ #[42,42] o.type #[v,u]).run Tryz.prog w = .ok r w')
  (h:wpList Tryz.prog ops Q rest (a.put o.dst r) w'):wpList Tryz.prog ops Q (o :: rest) a w:=by
 refine wpList_plain hgd fun K hK=>?_
 unfold Oper.wp execOp;simp only[ho,resolve,invoke,builtin,Sem.run_bind,Sem.run_pure,Result.andThen_ok,List.map_toArray,List.map_cons,List.map_nil,hs,hx,hr];exact hK _ _ h
theorem step_app {ops:Array Oper}{o:Oper}{a:Act}{w w':World}{K:Act→World→Prop}{Q:Exit→Act→World→Prop}{E:Prop}
  (hg:o.guard=none) (s x:Operand) (hop:o.op=Op.call { callee:=Callee.builtin Builtin.append,args:=#[s,x],argTypes:=#[42,42] })
  (v u r:Value) (hs:a.eval s=v) (hx:a.eval x=u) (hrun:(Builtin.append_ #[42,42] o.type #[v,u]).run Tryz.prog w = .ok r w')
  (hK:K (a.put o.dst r) w') :
  if Region.wanted o (yielded ops a.tmps)=true then Oper.wp Tryz.prog o a w K Q else E:=by
 have hw:Region.wanted o (yielded ops a.tmps)=true:=by simp[Region.wanted,hg]
 rw[if_pos hw];unfold Oper.wp execOp;simp only[hop,resolve,invoke,builtin,Sem.run_bind,Sem.run_pure,Result.andThen_ok,List.map_toArray,List.map_cons,List.map_nil,hs,hx,hrun];exact hK
end Go.Proofs.YtnnmdkaoiofabaaGreat.Sr

namespace Go.Proofs.YtnnmdkaoiofabaaGreat.Sr
open Go Go.RowKit
open Od (IntsAt)
open Sf (append_i info_int rem mv mv_at)
def cntK (p j:Nat):Nat:=if j≤p then j else j-1
theorem own_form {w:World}{B n cap:Nat}{a:Addr}{V:Nat→Value}(o:OwnR 3 w B (some a) n cap V):∃g,a=⟨g,0,none⟩:=by
 obtain⟨_,h2|⟨g,c,cur,hv,_⟩⟩:=o
 ·cases h2.1
 ·cases hv;exact⟨g,rfl⟩
theorem own_src {w:World}{B n cap:Nat}{ad:Option Addr}{U:Nat→Int}(o:OwnR 3 w B ad n cap (fun i=>.int .i64 (U i))){q m:Nat}(h:q+m≤n):SrcAt w (ad.map fun x=>x.add q) m (fun i=>U (q+i)):=by
 cases ad with
 | none=>exact .inl ⟨rfl,by have h0:=o.room;have:=h0.2 rfl;omega⟩
 | some a =>
  obtain⟨g,rfl⟩:=own_form o;refine .inr ⟨g,q,?_,fun i hi=>o.cell (by omega)⟩;show some ((⟨g,0,none⟩:Addr).add q)=_;unfold Addr.add;by_cases q0:q=0
  ·rw[if_pos q0,q0]
  ·rw[if_neg q0,Nat.zero_add]
theorem own_src0 {w:World}{B n cap:Nat}{ad:Option Addr}{U:Nat→Int}(o:OwnR 3 w B ad n cap (fun i=>.int .i64 (U i))){m:Nat}(h:m≤n):SrcAt w ad m U:=by
 cases ad with
 | none=>exact .inl ⟨rfl,by have h0:=o.room;have:=h0.2 rfl;omega⟩
 | some a =>
  obtain⟨g,rfl⟩:=own_form o;exact .inr ⟨g,0,rfl,fun i hi=>by rw[Nat.zero_add];exact o.cell (by omega)⟩
set_option maxRecDepth 100000 in
set_option maxHeartbeats 4000000 in
theorem moved_any {w:World}{adv:Option Addr}{n cv p q x:Nat}{v:Nat→Nat}(hv:IntsAt w adv n (fun i=>(v i:Int))) (hn:n≤8) (inj:∀a b,a<n→b<n→v a=v b→a=b) (hp:p<n) (hx:v p=x) (hq:q<n) :
  Calls Tryz.prog 50 #[.slice adv n cv,.int .i64 (x:Int),.int .i64 (q:Int)] w fun e w'=>∃ad' cap',e = .returned (.slice ad' n cap')∧OwnR 3 w' w.heap.size ad' n cap' (fun i=>.int .i64 (mv v p q i:Int))∧Below w.heap.size w w':=by
 obtain⟨bv,ov,rfl,hbv,rv⟩:=hv.resolve_left (by omega);have rvA:Aside (bv<w.heap.size∧∀i,i<n→w.cell? ⟨bv,ov+i,none⟩=some (.int .i64 (v i:Int))):=⟨hbv,rv⟩
 have neA:Aside (∀j,j<n→j≠p→v j≠x):=fun j hj ne e=>ne (inj j p hj hp (by rw[e,hx]))
 have hxA:Aside (v p=x):=hx;clear hv rv hbv inj hx;go_enter Tryz.func50,Tryz.ntmps50
 go_wp2_with fail
 go_loopg [8,7] n (fun g s8 s7 wr=>∃(j cap:Nat) (ad:Option Addr),j+g=n∧s8 = .int .i64 (j:Int)∧s7 = .slice ad (cntK p j) cap∧Aside (OwnR 3 wr w.heap.size ad (cntK p j) cap (fun i=>.int .i64 (rem v p i:Int))∧Below w.heap.size w wr))
 case atStart=>exact⟨0,0,none,by omega,rfl,rfl,OwnR.nil _ _ _ _,Below.refl _ _⟩
 case round =>
  obtain⟨j,cap,ad,hj,rfl,rfl,hO⟩:=hrel;have hJ:Aside (j+gk=n):=hj;by_cases hlt:j<n
  ·have hlt':(j:Int)<(n:Int):=by omega
   have c1:wr.cell? ⟨bv,ov+j,none⟩=some (.int .i64 (v j:Int)):=by rw[hO.out.2.cell rvA.out.1];exact rvA.out.2 j hlt
   have hw:IntKind.i64.wrap ((j:Int)+1)=((j+1:Nat):Int):=by rw[IntKind.wrap_i64];omega
   have hnA:Aside (j<n):=hlt;by_cases e:j=p
   ·have ex:v j=x:=by rw[e];exact hxA.out
    rw[ex]at c1;have ck:Aside (cntK p (j+1)=cntK p j):=by show cntK p (j+1)=cntK p j;unfold cntK;rw[if_neg (by omega),if_pos (by omega)];omega
    clear hlt hj e ex
    go_wp2_with fail
    go_roundg (gk-1)
    case measure=>have:=hJ.out;have:=hnA.out;omega
    case rel =>
     have:=hJ.out;have:=hnA.out;exact⟨j+1,cap,ad,by omega,rfl,by rw[ck.out],by rw[ck.out];exact hO⟩
   ·have ne:=neA.out j hlt e;have ne':¬(v j:Int)=(x:Int):=by omega
    have ck:Aside (cntK p (j+1)=cntK p j+1∧rem v p (cntK p j)=v j∧cntK p j≤8):=by
     unfold cntK rem;by_cases c:j≤p
     ·rw[if_pos (by omega),if_pos c,if_pos (by omega)];exact⟨rfl,rfl,by omega⟩
     ·rw[if_neg (by omega),if_neg c,if_neg (by omega),show j-1+1=j by omega];exact⟨by omega,rfl,by omega⟩
    have ow:=hO.out.1;have hB1:=hO.out.2.size;have hcl:=ck.out.2.2;generalize hm:cntK p j=m at ow ck hcl ⊢;have hBA:Aside (Below w.heap.size w wr):=hO.out.2;obtain⟨y,hy⟩:∃y:Int,(v j:Int)=y:=⟨_,rfl⟩
    have yA:Aside ((v j:Int)=y):=hy;rw[hy]at c1 ne';clear hlt hj e ne hm hO hy
    go_wp2_with (first
     | (at_builtin;refine append_i (ow.new _) wr.heap.size y (heap_alloc_new _ _) (by omega) (by simp;omega) rfl _ _ rfl rfl rfl ?_;intro g' cap' w7 o7 wt7 at7;have fA:Aside (OwnR 3 w7 w.heap.size (some ⟨g',0,none⟩) (m+1) cap' (fun i=>if i=m then .int .i64 y else .int .i64 (rem v p i:Int))∧Went (At ad) (wr.alloc (.cells #[.int .i64 y] 3)) w7):=⟨o7,wt7⟩;clear o7 wt7))
    go_roundg (gk-1)
    case measure=>have:=hJ.out;have:=hnA.out;omega
    case rel =>
     have:=hJ.out;have:=hnA.out;obtain⟨k1,k2,k3⟩:=ck.out;obtain⟨o7,wt7⟩:=fA.out;refine⟨j+1,cap',some ⟨g',0,none⟩,by omega,rfl,by rw[k1],?_⟩;rw[k1];refine⟨o7.congr fun i hi=>?_,?_⟩
     ·by_cases ei:i=m
      ·rw[if_pos ei,ei,k2,yA.out]
      ·rw[if_neg ei]
     ·refine⟨wt7.os.trans hBA.out.os,wt7.tape.trans hBA.out.tape,wt7.output.trans hBA.out.output,Nat.le_trans hBA.out.size (Nat.le_trans (by simp) wt7.size),fun k hk=>?_⟩;have hk2:k<wr.heap.size:=Nat.lt_of_lt_of_le hk hB1;exact((wt7.block k (by simp;omega) fun hA=>by have:=(ow.block k hA).1;omega).trans (Below.heap_alloc _ _ _ hk2)).trans (hBA.out.block k hk)
  ·have hlt':¬(j:Int)<(n:Int):=by omega
   have ej:cntK p j=n-1:=by unfold cntK;rw[if_neg (by omega)];omega
   rw[ej]at hO ⊢;have ow:=hO.out.1;clear hlt hj ej;have hq':q≤n-1:=by omega
   have hqc:(q:Int)≤(cap:Int):=by have:=ow.room.1;omega
   have hq0:¬(q:Int)<0:=by omega
   have hr1:=run_app (n:=0) (cap:=0) (V:=fun _=>.int .i64 0) (OwnR.nil 3 wr w.heap.size _) (c:=cap) (own_src0 ow hq') (fun e=>ow.room.2 e) (by omega) hO.out.2.size 42;obtain⟨ad1,cap1,w1,hr1,o1,wt1,at1⟩:=hr1;rw[Nat.zero_add]at hr1 o1
   go_upto_region 8 with (first
    | (at_builtin;refine app_wp rfl _ _ rfl _ _ _ rfl rfl hr1 ?_))
   have hB1:w.heap.size≤wr.heap.size:=hO.out.2.size;have o1':OwnR 3 (w1.alloc (.cells #[.int .i64 (x:Int)] 3)).drew w.heap.size ad1 q cap1 (fun i=>.int .i64 (rem v p i:Int)):=((o1.congr fun i hi=>by rw[if_neg (by omega),Nat.sub_zero]).new _).drew;have hr2:=run_app (m:=1) (c:=1) (src:=some ⟨w1.heap.size,0,none⟩) (U:=fun _=>(x:Int)) o1' (.inr ⟨w1.heap.size,0,rfl,fun i hi=>by
    obtain rfl:i=0:=by omega
    have:=heap_alloc_new w1 (.cells #[.int .i64 (x:Int)] 3);show (w1.alloc (.cells #[.int .i64 (x:Int)] 3)).cell? ⟨w1.heap.size,0,none⟩=_;unfold World.cell?;rw[this];rfl⟩) (fun e=>by cases e) (by omega) (by have:=wt1.size;show w.heap.size≤(w1.alloc _).heap.size;simp;omega) 42
   obtain⟨ad2,cap2,w2,hr2,o2,wt2,at2⟩:=hr2;have hwt1:Below wr.heap.size wr w1:=⟨wt1.os,wt1.tape,wt1.output,wt1.size,fun k hk=>wt1.block k hk fun⟨_,e,_⟩=>by cases e⟩
   have B1:Below w.heap.size w (w1.alloc (.cells #[.int .i64 (x:Int)] 3)).drew:=((Rf.below_far hO.out.2 hwt1).alloc (by have:=hwt1.size;omega) _).drew;have B2:Below w.heap.size w w2:=B1.trans ⟨wt2.os,wt2.tape,wt2.output,wt2.size,fun k hk=>wt2.block k (Nat.lt_of_lt_of_le hk B1.size) fun hA=>by have:=(o1'.block k hA).1;omega⟩;have ow2:OwnR 3 w2 w.heap.size ad (n-1) cap (fun i=>.int .i64 (rem v p i:Int)):=ow.kept fun k hk=>by
    have h1:=(ow.block k hk).2;have h2:k<w1.heap.size:=Nat.lt_of_lt_of_le h1 hwt1.size;rw[wt2.block k (by show k<(w1.alloc _).heap.size;simp;omega) (fun hA=>(at1 k hA).elim (fun⟨_,e,_⟩=>by cases e) fun e=>by omega)];exact(Below.heap_alloc w1 _ _ h2).trans (hwt1.block k h1)
   have hlen:q+1+(n-1-q)=n:=by omega
   have fin3:∀(ad3:Option Addr) (cap3:Nat) (w3:World),OwnR 3 w3 w.heap.size ad3 n cap3 (fun i=>if i<q+1 then (if i<q then .int .i64 (rem v p i:Int)else .int .i64 (x:Int))else .int .i64 (rem v p (q+(i-(q+1))):Int))→Went (At ad2) w2 w3→OwnR 3 w3 w.heap.size ad3 n cap3 (fun i=>.int .i64 (mv v p q i:Int))∧Below w.heap.size w w3:=fun ad3 cap3 w3 o3 wt3=>by
    refine⟨o3.congr fun i hi=>?_,B2.trans ⟨wt3.os,wt3.tape,wt3.output,wt3.size,fun k hk=>wt3.block k (Nat.lt_of_lt_of_le hk B2.size) fun hA=>by have:=(o2.block k hA).1;omega⟩⟩;by_cases c1:i<q
    ·rw[if_pos (by omega),if_pos c1,show mv v p q i=rem v p i by unfold mv;rw[if_pos c1]]
    ·by_cases c2:i=q
     ·rw[if_pos (by omega),if_neg c1,c2,mv_at,hxA.out]
     ·rw[if_neg (by omega),show mv v p q i=rem v p (i-1) by unfold mv;rw[if_neg c1,if_neg c2],show q+(i-(q+1))=i-1 by omega]
   by_cases hcq:cap=q
   ·have hr3:=run_app (m:=n-1-q) (c:=0) o2 (own_src0 ow2 (m:=n-1-q) (by omega)) (fun _=>rfl) (by omega) B2.size 42;obtain⟨ad3,cap3,w3,hr3,o3,wt3,at3⟩:=hr3;rw[hlen]at hr3 o3;have fin:Aside (OwnR 3 w3 w.heap.size ad3 n cap3 (fun i=>.int .i64 (mv v p q i:Int))∧Below w.heap.size w w3):=fin3 ad3 cap3 w3 (o3.congr fun i hi=>by
     by_cases c:i<q+1
     ·rw[if_pos c,if_pos c]
     ·exfalso;have:=ow.room.1;omega) wt3
    clear o3 wt3 at3 o2 wt2 at2 o1 o1' wt1 at1 hwt1 B1 B2 ow2 fin3 hO ow
    go_region_law (first
     | refine step_app rfl (.tmp 33) (.tmp 35) rfl _ _ _ (by simp[Act.eval]) (by simp[Act.eval]) hr2 ?_
     | refine step_app rfl (.tmp 36) (.tmp 39) rfl _ _ _ (by simp[Act.eval]) (by simp[Act.eval]) hr3 ?_)
    all_goals (go_wp2_with fail)
    all_goals go_ret
    all_goals exact⟨ad3,cap3,rfl,fin.out.1,fin.out.2⟩
   ·have hr3:=run_app (m:=n-1-q) (c:=cap-q) o2 (own_src ow2 (q:=q) (m:=n-1-q) (by omega)) (fun e=>by
     cases ad with
     | none=>have:=ow.room.2 rfl;omega
     | some a=>cases e) (by omega) B2.size 42
    obtain⟨ad3,cap3,w3,hr3,o3,wt3,at3⟩:=hr3;rw[hlen]at hr3 o3;have fin:Aside (OwnR 3 w3 w.heap.size ad3 n cap3 (fun i=>.int .i64 (mv v p q i:Int))∧Below w.heap.size w w3):=fin3 ad3 cap3 w3 o3 wt3;clear o3 wt3 at3 o2 wt2 at2 o1 o1' wt1 at1 hwt1 B1 B2 ow2 fin3 hO ow
    go_region_law (first
     | refine step_app rfl (.tmp 33) (.tmp 35) rfl _ _ _ (by simp[Act.eval]) (by simp[Act.eval]) hr2 ?_
     | refine step_app rfl (.tmp 36) (.tmp 39) rfl _ _ _ (by simp[Act.eval]) (by simp[Act.eval]) hr3 ?_)
    all_goals (go_wp2_with fail)
    all_goals go_ret
    all_goals exact⟨ad3,cap3,rfl,fin.out.1,fin.out.2⟩
end Go.Proofs.YtnnmdkaoiofabaaGreat.Sr

namespace Go.Proofs.YtnnmdkaoiofabaaGreat.Sr
open Go Go.RowKit
open Sw (posN posN_of surj_of_inj)
open Sf (PlanIs plK plK_in plK_some Ahead)
def kx (v c:Nat→Nat) (n x:Nat):Nat:=c (posN v x n)
def Les (v c:Nat→Nat) (n a b:Nat):Prop:=kx v c n b<kx v c n a∨(kx v c n a=kx v c n b∧a<b)
section
variable {v c:Nat→Nat}{n:Nat}{a b d:Nat}
theorem Les.asymm (h:Les v c n a b) (k:Les v c n b a):False:=by unfold Les at h k;omega
theorem Les.trans (h:Les v c n a b) (k:Les v c n b d):Les v c n a d:=by unfold Les at *;omega
theorem les_or (h:¬Les v c n a b) (ne:a≠b):Les v c n b a:=by unfold Les at *;omega
structure PermN (n:Nat) (O:Nat→Nat):Prop where
 lt:∀i,i<n→O i<n
 inj:∀i j,i<n→j<n→O i=O j→i=j
structure XsP (v c:Nat→Nat) (n:Nat) (X:Nat→Nat):Prop where
 perm:PermN n X
 by_:∀i j,i<j→j<n→Les v c n (X i) (X j)
theorem getD_at {xs:List Nat}{i:Nat}(h:i<xs.length):xs.getD i 0=xs[i]:=by rw[List.getD_eq_getElem?_getD,List.getElem?_eq_getElem h];rfl
theorem XsP.of {xs:List Nat}(pv:PermN n v) (p:PlanIs (plK v c n) n xs):XsP v c n (fun i=>xs.getD i 0):=by
 have hl:=p.len;have key:∀x:Nat,x<n→plK v c n (x:Int)=some (kx v c n x:Int):=fun x hx=>by
  obtain⟨i,hi,e⟩:=surj_of_inj pv.lt pv.inj hx;rw[← e,plK_in pv.inj hi];unfold kx;rw[posN_of pv.inj hi]
 have lt:∀i,i<n→xs.getD i 0<n:=fun i hi=>by
  rw[getD_at (by omega)];exact p.lt _ (List.getElem_mem _)
 have pw:=List.pairwise_iff_getElem.1 p.by_;have ah:∀i j,i<j→j<n→Les v c n (xs.getD i 0) (xs.getD j 0):=fun i j hij hj=>by
  obtain⟨ka,kb,ea,eb,h⟩:=pw i j (by omega) (by omega) hij;rw[← getD_at (xs:=xs) (i:=i) (by omega)]at ea h;rw[← getD_at (xs:=xs) (i:=j) (by omega)]at eb h;rw[key _ (lt i (by omega))]at ea;rw[key _ (lt j hj)]at eb;cases ea;cases eb;unfold Les;omega
 refine⟨⟨lt,fun i j hi hj e=>?_⟩,ah⟩;have e:xs.getD i 0=xs.getD j 0:=e;rcases Nat.lt_trichotomy i j with q|q|q
 ·have:=ah i j q hj;rw[e]at this;exact absurd this fun h=>h.asymm h
 ·exact q
 ·have:=ah j i q hi;rw[e]at this;exact absurd this fun h=>h.asymm h
structure SelP (X:Nat→Nat) (n i:Nat) (O:Nat→Nat):Prop where
 perm:PermN n O
 done:∀j,j<i→O j=X j
theorem SelP.best {X O:Nat→Nat}{i:Nat}(x:XsP v c n X) (s:SelP X n i O) (hi:i<n) (hb:i≤b∧b<n) (best:∀j,i≤j→j<n→j=b∨Les v c n (O b) (O j)):O b=X i:=by
 obtain⟨m,hm,em⟩:=surj_of_inj x.perm.lt x.perm.inj (s.perm.lt b hb.2);obtain⟨j,hj,ej⟩:=surj_of_inj s.perm.lt s.perm.inj (x.perm.lt i hi);have hji:i≤j:=Nat.le_of_not_lt fun q=>by
  have:=s.done j q;rw[ej]at this;have:=x.perm.inj i j hi hj this;omega
 have hmi:i≤m:=Nat.le_of_not_lt fun q=>by
  have:=s.done m q;rw[em]at this;have:=s.perm.inj m b hm hb.2 this;omega
 rcases best j hji hj with e|h
 ·rw[← e,ej]
 ·rw[ej,← em]at h;rcases Nat.lt_or_ge i m with q|q
  ·exact absurd (x.by_ i m q hm) fun k=>h.asymm k
  ·rw[← em,show m=i by omega]
def swpF (O:Nat→Nat) (i b j:Nat):Nat:=if j=b then O i else if j=i then O b else O j
theorem SelP.step {X O:Nat→Nat}{i:Nat}(s:SelP X n i O) (hi:i<n) (hb:i≤b∧b<n) (e:O b=X i):SelP X n (i+1) (swpF O i b):=by
 refine⟨⟨fun j hj=>?_,fun j k hj hk h=>?_⟩,fun j hj=>?_⟩
 ·unfold swpF;split
  ·exact s.perm.lt i hi
  ·split
   ·exact s.perm.lt b hb.2
   ·exact s.perm.lt j hj
 ·have inj:=s.perm.inj;have q:∀j,j<n→∃j',j'<n∧swpF O i b j=O j'∧(j'=if j=b then i else if j=i then b else j):=fun j hj=>by
   refine⟨if j=b then i else if j=i then b else j,by split;omega;split <;> omega,?_,rfl⟩;unfold swpF;split
   ·rfl
   ·split <;> rfl
  obtain⟨j',h1,h2,h3⟩:=q j hj;obtain⟨k',h4,h5,h6⟩:=q k hk;rw[h2,h5]at h;have:=inj j' k' h1 h4 h;subst this;rw[h3]at h6;split at h6 <;> split at h6 <;> (try split at h6) <;> (try split at h6) <;> omega
 ·unfold swpF;by_cases q:j=b
  ·rw[if_pos q]
   have:b=i:=by omega
   rw[this]at e;rw[q,this];exact e
  ·rw[if_neg q];by_cases q2:j=i
   ·rw[if_pos q2,q2];exact e
   ·rw[if_neg q2];exact s.done j (by omega)
end
end Go.Proofs.YtnnmdkaoiofabaaGreat.Sr
