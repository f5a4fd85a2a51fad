/-
  Slices of bytes among the arguments.
  spinneyplay.Perm: an order out of whatever numbers.
-/
import Derived.Test.YtnnmdkaoiofabaaGreatSwUT
import Derived.Test.YtnnmdkaoiofabaaGreatArgX
import Derived.Deep.LoopGhost
import Derived.Laws.CopyRow
namespace Go.Proofs.YtnnmdkaoiofabaaGreat.Sw
open Go Go.RowKit
def BtAt (w:World) (ad:Option Addr) (n:Nat) (V:Nat→Nat):Prop:=
 n=0∨∃b off,ad=some ⟨b,off,none⟩∧b<w.heap.size∧∀i,i<n→w.cell? ⟨b,off+i,none⟩=some (.int .u8 (V i:Int))
theorem bytes_of {W:World}{ad:Option Addr}{len:Nat}(h:len=0∨∃(b off:Nat) (Z:Nat→Int),ad=some ⟨b,off,none⟩∧b<W.heap.size∧∀i,i<len→W.cell? ⟨b,off+i,none⟩=some (.int .u8 (Z i))∧(Lit.int .u8 (Z i)).wf=true):∃V,BtAt W ad len V∧∀i,i<len→V i<256:=by
 rcases h with h|⟨b,off,Z,e,hb,hc⟩
 ·exact⟨fun _=>0,.inl h,fun i _=>by show 0<256;omega⟩
 ·refine⟨fun i=>(Z i).toNat,.inr ⟨b,off,e,hb,fun i hi=>?_⟩,fun i hi=>?_⟩
  ·have w:=wf_u8 (hc i hi).2;rw[(hc i hi).1];congr 2;show Z i=(((Z i).toNat:Nat):Int)
   omega
  ·have w:=wf_u8 (hc i hi).2;show (Z i).toNat<256;omega
theorem BtAt.kept {w w':World}{ad:Option Addr}{n:Nat}{V:Nat→Nat}(h:BtAt w ad n V) (k:Below w.heap.size w w'):BtAt w' ad n V:=by
 rcases h with h|⟨b,off,rfl,hb,hc⟩
 ·exact .inl h
 ·exact .inr ⟨b,off,rfl,Nat.lt_of_lt_of_le hb k.size,fun i hi=>by rw[k.cell hb];exact hc i hi⟩
end Go.Proofs.YtnnmdkaoiofabaaGreat.Sw

namespace Go.Proofs.YtnnmdkaoiofabaaGreat.Sw
open Go Go.RowKit
open Rf (fixAt fixF IntsAt)
theorem info_int : (Tryz.prog.info? 3).map (fun i=>(i.zero,i.size,i.bytes))=some (some (.int .i64 0),1,8):=by kernel_rfl
theorem append_i {w:World}{B n cap:Nat}{ad:Option Addr}{V:Nat→Value}{ops:Array Oper}{rest:List Oper}{o:Oper}{a:Act}{Q:Exit→Act→World→Prop}(hown:OwnR 3 w B ad n cap V) (blk:Nat) (p:Int) (hblk:w.heap[blk]? = some (.cells #[.int .i64 p] 3 (0,0))) (hn:n≤1000000) (hB:B≤w.heap.size)
  (hgd:o.guard=none) (s y:Operand)
  (ho:o.op = .call { callee:=.builtin .append,args:=#[s,y],argTypes:=#[42,42] }) (hs:a.eval s = .slice ad n cap) (hx:a.eval y = .slice (some ⟨blk,0,none⟩) 1 1)
  (h:∀g cap' w',OwnR 3 w' B (some ⟨g,0,none⟩) (n+1) cap' (fun i=>if i=n then .int .i64 p else V i)→Went (At ad) w w'→(At ad g∨g=w.heap.size)→wpList Tryz.prog ops Q rest (a.put o.dst (.slice (some ⟨g,0,none⟩) (n+1) cap')) w') :
  wpList Tryz.prog ops Q (o :: rest) a w:=by
 obtain⟨i,hi,hzz⟩:=Option.map_eq_some_iff.1 info_int;simp only[Prod.mk.injEq]at hzz;obtain⟨hz,hs2,hb⟩:=hzz;exact append_row 42 3 i _ Tryz.underlying42 hi hz hs2 8 hb (by decide) (by kernel_rfl) hown blk (.int .i64 p) rfl hblk hn hB hgd s y ho hs hx h
theorem _root_.Go.Proofs.YtnnmdkaoiofabaaGreat.OwnR.cur {e:TypeId}{w:World}{B g n cap:Nat}{V:Nat→Value}(h:OwnR e w B (some ⟨g,0,none⟩) n cap V):∃cur:Array Value,w.heap[g]? = some (.cells cur e (0,0))∧cur.size=cap∧n≤cap∧cap≤maxLen∧B≤g∧∀i,i<n→cur[i]? = some (V i):=by
 obtain⟨h1,h2⟩:=h;rcases h2 with ⟨h2,_⟩|⟨g',cap',cur,hv,hb,hh,q1,q2,q3,q4⟩
 ·cases h2
 ·injection hv with hv1 hv2 hv3
  injection hv1 with hv1
  injection hv1 with hv1
  subst hv1;subst hv3;refine⟨cur,hh,by omega,q1,q2,hb,fun i hi=>?_⟩
  have:(cur.toList.take (n*1))[i]? = (rowL n V)[i]?:=by rw[q4]
  rw[rowL_get n _ hi,List.getElem?_take,if_pos (by omega),Array.getElem?_toList]at this;exact this
theorem _root_.Go.Proofs.YtnnmdkaoiofabaaGreat.OwnR.mk' {e:TypeId}{w:World}{B g n cap:Nat}{V:Nat→Value}{cur:Array Value}(hh:w.heap[g]? = some (.cells cur e (0,0))) (hs:cur.size=cap) (hn:n≤cap) (hm:cap≤maxLen) (hb:B≤g) (hc:∀i,i<n→cur[i]? = some (V i)):OwnR e w B (some ⟨g,0,none⟩) n cap V:=by
 refine⟨by rw[rowL_length];omega,.inr ⟨g,cap,cur,rfl,hb,hh,hn,hm,by omega,?_⟩⟩;apply List.ext_getElem?;intro j;by_cases hj:j<n
 ·rw[rowL_get n _ hj,List.getElem?_take,if_pos (by omega),Array.getElem?_toList,hc j hj]
 ·rw[List.getElem?_eq_none (by rw[List.length_take];omega),List.getElem?_eq_none (by rw[rowL_length];omega)]
theorem own_copy {w:World}{B g n cap k:Nat}{V:Nat→Value}(h:OwnR 3 w B (some ⟨g,0,none⟩) n cap V) (hk:k<n) (one:∀i,i<n→(V i).oneCell'=true) (o:Nat) (ho:o=k+1∨n=k+1∧o≤cap) (c1 c2:Nat) :
  ∃w',(Builtin.copy_ #[42,42] 3 #[.slice (some ⟨g,o,none⟩) (n-(k+1)) c1,.slice (some ⟨g,k,none⟩) (n-k) c2]).run Tryz.prog w = .ok (goInt (n-(k+1):Nat)) w'∧OwnR 3 w' B (some ⟨g,0,none⟩) n cap (fun i=>if i≤k then V i else V (i-1))∧Rf.Turned g w w':=by
 obtain⟨cur,hh,hs,hn,hm,hb,hc⟩:=h.cur;have hlen:((List.range (n-(k+1))).map fun i=>V (k+i)).length=n-(k+1):=by simp
 have hrun:=run_copy_row (P:=Tryz.prog) w 42 42 3 3 g o (n-(k+1)) c1 ⟨g,k,none⟩ (n-k) c2 cur 3 ((List.range (n-(k+1))).map fun i=>V (k+i)) Tryz.underlying42 (by kernel_rfl) hh (by rw[hlen];simp[Nat.min_def];omega) (fun j u hu=>by
   have hj:j<n-(k+1):=by
    have:=(List.getElem?_eq_some_iff.1 hu).1;rw[hlen]at this;exact this
   rw[List.getElem?_map,List.getElem?_range hj]at hu;have hu':V (k+j)=u:=by simpa using hu
   rw[← hu']
   have:(⟨g,k,none⟩:Addr).add j=⟨g,k+j,none⟩:=by unfold Addr.add;split <;> simp_all
   rw[this,cell_of_row _ _ _ _ _ _ hh,hc _ (by omega)]) (by rw[hlen];omega) (fun u hu=>by
   obtain⟨i,hi,rfl⟩:=List.mem_map.1 hu;exact one _ (by have:=List.mem_range.1 hi;omega))
 rw[hlen]at hrun;refine⟨_,hrun,OwnR.mk' (setRow_heap w g cur _ 3 _ hh) ?_ hn hm hb (fun i hi=>?_),⟨rfl,rfl,rfl,by simp[World.setRow],fun k _ hk=>setRow_other w g k _ hk⟩⟩
 ·simp[hs];omega
 ·rw[List.getElem?_toArray];by_cases c:i≤k
  ·rw[if_pos c];rcases ho with rfl|⟨h1,h2⟩
   ·rw[List.getElem?_append_left (by simp;omega),List.getElem?_append_left (by simp;omega),List.getElem?_take,if_pos (by omega),Array.getElem?_toList,hc i hi]
   ·have e:n-(k+1)=0:=by omega
    rw[e];simp only[List.range_zero,List.map_nil,List.append_nil,Nat.add_zero,List.take_append_drop,Array.getElem?_toList];exact hc i hi
  ·rw[if_neg c];obtain rfl:=ho.resolve_right (by omega);rw[List.getElem?_append_left (by simp;omega),List.getElem?_append_right (by simp;omega),List.getElem?_map];have e:i-(List.take (k+1) cur.toList).length=i-(k+1):=by simp;omega
   rw[e,List.getElem?_range (by omega)];show some (V (k+(i-(k+1))))=some (V (i-1));rw[show k+(i-(k+1))=i-1 by omega]
def PermN (v:Nat) (p:Nat→Nat):Prop:=(∀i,i<v→p i<v)∧∀i j,i<v→j<v→p i=p j→i=j
theorem PermN.next {v k:Nat}{p:Nat→Nat}(h:PermN v p) (hk:k≤v):PermN (v+1) (fun i=>if i<k then p i else if i=k then v else p (i-1)):=by
 have val:∀i,i<v+1→i≠k→(if i<k then p i else if i=k then v else p (i-1))=p (if i<k then i else i-1):=fun i hi c=>by
  by_cases d:i<k
  ·rw[if_pos d,if_pos d]
  ·rw[if_neg d,if_neg d,if_neg c]
 refine⟨fun i hi=>?_,fun i j hi hj e=>?_⟩
 ·by_cases c:i=k
  ·show (if i<k then p i else if i=k then v else p (i-1))<v+1;rw[if_neg (by omega),if_pos c];omega
  ·show (if i<k then p i else if i=k then v else p (i-1))<v+1;rw[val i hi c];have:=h.1 (if i<k then i else i-1) (by split <;> omega);omega
 ·have e:(if i<k then p i else if i=k then v else p (i-1))=(if j<k then p j else if j=k then v else p (j-1)):=e;by_cases c:i=k
  ·by_cases d:j=k
   ·omega
   ·rw[val j hj d,if_neg (show ¬i<k by omega),if_pos c]at e;have:=h.1 (if j<k then j else j-1) (by split <;> omega);omega
  ·by_cases d:j=k
   ·rw[val i hi c,if_neg (show ¬j<k by omega),if_pos d]at e;have:=h.1 (if i<k then i else i-1) (by split <;> omega);omega
   ·rw[val i hi c,val j hj d]at e;have:=h.2 _ _ (by split <;> omega) (by split <;> omega) e;split at this <;> split at this <;> omega
theorem BtAt.some {w:World}{ad:Option Addr}{n:Nat}{V:Nat→Nat}(h:BtAt w ad n V) (hn:0<n):∃b off,ad = .some ⟨b,off,none⟩∧∀i,i<n→w.cell? ⟨b,off+i,none⟩ = .some (.int .u8 (V i:Int)):=by
 rcases h with h|⟨b,off,e,_,hc⟩
 ·omega
 ·exact⟨b,off,e,hc⟩
set_option maxRecDepth 100000 in
set_option maxHeartbeats 2000000 in
theorem perm_any (w:World) (ad:Option Addr) (n cap N:Nat) (h1:1≤N) (h8:N≤8) (V:Nat→Nat) (hV:BtAt w ad n V) (hb:∀i,i<n→V i<256) :
  Calls Tryz.prog 13 #[.int .i64 (N:Int),.slice ad n cap] w fun e w'=>∃g c:Nat,e = .returned (.slice (some ⟨g,0,none⟩) N c)∧∃p:Nat→Nat,PermN N p∧OwnR 3 w' w.heap.size (some ⟨g,0,none⟩) N c (fun i=>.int .i64 (p i:Int))∧Below w.heap.size w w':=by
 have hVA:Aside (BtAt w ad n V):=hV;have hbA:Aside (∀i,i<n→V i<256):=hb;clear hV hb;go_enter Tryz.func13,Tryz.ntmps13
 go_upto_region 3 with fail
 go_loopg [5,6,7] N (fun gn s5 s6 _s7 wr=>∃(v:Nat) (a2:Option Addr) (c2:Nat) (p:Nat→Nat),v+gn=N∧s5 = .slice a2 v c2∧s6 = .int .i64 (v:Int)∧Aside (PermN v p)∧Aside (OwnR 3 wr w.heap.size a2 v c2 (fun i=>.int .i64 (p i:Int)))∧Aside (Below w.heap.size w wr))
 case atStart=>exact⟨0,none,0,id,by omega,rfl,rfl,⟨fun i hi=>by omega,fun i j hi=>by omega⟩,OwnR.nil _ _ _ _,Below.refl _ _⟩
 case round =>
  obtain⟨v,a2,c2,p,hv,rfl,rfl,pm,ow,B5⟩:=hrel;have hJ:Aside (v+gk=N):=hv;clear hv;by_cases hv8:v<N
  ·have hvi:(v:Int)<(N:Int):=by omega
   have hv9:(v:Int)<8:=by omega
   have vA:Aside (v<N):=hv8;go_upto_if 16 with fail
   go_cut [7] (fun s wc=>∃k:Nat,k≤v∧s = .int .i64 (k:Int)∧wc=wr)
   case first =>
    by_cases hvn:v<n
    ·have hvn':(v:Int)<(n:Int):=by omega
     obtain⟨b,off,rfl,hc⟩:=(hVA.out.kept B5.out).some (by omega);have hcv:=hc v hvn;have hzv:=hbA.out v hvn;have hm:(V v:Int) % ((v:Int)+1)=((V v % (v+1):Nat):Int):=by simp
     have hk:V v % (v+1)≤v:=by have:=Nat.mod_lt (V v) (show 0<v+1 by omega);omega
     generalize V v % (v+1)=k at hm hk;generalize V v=z at hm hcv hzv;have hz0:(0:Int)≤(z:Int):=by omega
     have hz9:(z:Int)<256:=by omega
     clear hc
     go_wp2_with fail
     go_meet
     exact⟨k,hk,by rw[hm],rfl⟩
    ·have hvn':¬(v:Int)<(n:Int):=by omega
     go_wp2_with fail
     go_meet
     exact⟨0,Nat.zero_le _,rfl,rfl⟩
   case rest =>
    obtain⟨k,hkv,rfl,rfl⟩:=hcut;have kA:Aside (k≤v):=hkv;clear hkv
    go_upto_region 9 with (first
     | (at_builtin;refine append_i (ow.out.new _) wc.heap.size 0 (Go.Deep.blk_alloc_new _ _) (by omega) (by have:=B5.out.size;simp;omega) rfl (.tmp 25) (.tmp 26) rfl rfl rfl ?_;intro g c6 w6 o6 went6 at6))
    have kv:=kA.out;obtain⟨cur,hh,hs,hn6,hm6,hb6,hc6⟩:=o6.cur;have B6:Aside (Below w.heap.size w w6):=by
     have B5':=Rf.below_far B5.out (nb wc (.cells #[.int .i64 0] 3));exact B5'.trans ⟨went6.os,went6.tape,went6.output,went6.size,fun x hx=>went6.block x (Nat.lt_of_lt_of_le hx B5'.size) fun q=>by
      have:=(ow.out.block x q).1;omega⟩
    have one6:∀i,i<v+1→(if i=v then Value.int .i64 0 else .int .i64 (p i:Int)).oneCell'=true:=fun i _=>by split <;> rfl
    have q1:(k:Int)+1≤(v:Int)+1:=by omega
    have q2:((k:Int)+1).toNat=k+1:=by omega
    have q3:(k:Int)≤(v:Int)+1:=by omega
    have q4:¬c6=k:=by omega
    have q5:k≤v:=kv;have q6:(k:Int)<8:=by omega
    have vk:v+1-(k+1)=v-k:=by omega
    have o6A:Aside (OwnR 3 w6 w.heap.size (some ⟨g,0,none⟩) (v+1) c6 (fun i=>if i=v then .int .i64 0 else .int .i64 (p i:Int))):=o6;have hbg:Aside (w.heap.size≤g):=hb6;clear hh hs hc6 went6 at6 o6 hb6 hm6
    have fin:∀(w7:World),Aside (OwnR 3 w7 w.heap.size (some ⟨g,0,none⟩) (v+1) c6 (fun i=>if i≤k then (if i=v then .int .i64 0 else .int .i64 (p i:Int))else (if i-1=v then .int .i64 0 else .int .i64 (p (i-1):Int))))→Aside (OwnR 3 (w7.setCell ⟨g,k,none⟩ (.int .i64 (v:Int))) w.heap.size (some ⟨g,0,none⟩) (v+1) c6 (fun i=>.int .i64 ((if i<k then p i else if i=k then v else p (i-1):Nat):Int))):=fun w7 h=>by
     refine(h.out.set (k:=k) (.int .i64 (v:Int))).congr fun i hi=>?_
     by_cases c:i=k
     ·rw[if_pos c,if_neg (by omega),if_pos c]
     ·rw[if_neg c];by_cases d:i<k
      ·rw[if_pos (by omega),if_neg (by omega),if_pos d]
      ·rw[if_neg (by omega),if_neg (by omega),if_neg d,if_neg c]
    by_cases hck:c6=k+1
    ·obtain⟨w7,hrun,o7,t7⟩:=own_copy (k:=k) (o6A.out.drew) (by omega) one6 0 (.inr ⟨by omega,by omega⟩) 0 1;rw[vk,show v-k=0 by omega]at hrun;subst hck;have o7A:Aside (OwnR 3 w7 w.heap.size (some ⟨g,0,none⟩) (v+1) (k+1) (fun i=>if i≤k then (if i=v then .int .i64 0 else .int .i64 (p i:Int))else (if i-1=v then .int .i64 0 else .int .i64 (p (i-1):Int)))):=o7;clear o7 vk;go_region
     have cA:=o7A.out.cell (i:=k) (by omega);rw[if_pos (Nat.le_refl k)]at cA;have fA:=o7A.out.frozen k;obtain⟨x7,hx7⟩:∃x7,(if k=v then Value.int .i64 0 else .int .i64 (p k:Int))=x7:=⟨_,rfl⟩
     rw[hx7]at cA;have f7:=fin w7 o7A;have B7:Aside (Below w.heap.size w w7):=B6.out.drew.trans (t7.below B6.out.size hbg.out);have gA:Aside (w7.heap.size=w7.heap.size∧w.heap.size≤g):=⟨rfl,hbg.out⟩
     have pmA:Aside (PermN (v+1) (fun i=>if i<k then p i else if i=k then v else p (i-1))):=pm.out.next kA.out;clear hx7 t7 hrun o7A fin B6 o6A one6 pm
     go_wp2_with fail
     go_roundg (gk-1)
     case measure=>have:=hJ.out;have:=vA.out;omega
     case rel =>
      have:=hJ.out;have:=vA.out;exact⟨v+1,some ⟨g,0,none⟩,_,_,by omega,rfl,rfl,pmA,f7,B7.out.setCell (gA.out.2) _⟩
    ·obtain⟨w7,hrun,o7,t7⟩:=own_copy (k:=k) (o6A.out.drew) (by omega) one6 (k+1) (.inl rfl) (c6-(k+1)) (c6-k);rw[vk]at hrun;have o7A:Aside (OwnR 3 w7 w.heap.size (some ⟨g,0,none⟩) (v+1) c6 (fun i=>if i≤k then (if i=v then .int .i64 0 else .int .i64 (p i:Int))else (if i-1=v then .int .i64 0 else .int .i64 (p (i-1):Int)))):=o7;clear o7 vk;go_region
     have cA:=o7A.out.cell (i:=k) (by omega);rw[if_pos (Nat.le_refl k)]at cA;have fA:=o7A.out.frozen k;obtain⟨x7,hx7⟩:∃x7,(if k=v then Value.int .i64 0 else .int .i64 (p k:Int))=x7:=⟨_,rfl⟩
     rw[hx7]at cA;have f7:=fin w7 o7A;have B7:Aside (Below w.heap.size w w7):=B6.out.drew.trans (t7.below B6.out.size hbg.out);have gA:Aside (w7.heap.size=w7.heap.size∧w.heap.size≤g):=⟨rfl,hbg.out⟩
     have pmA:Aside (PermN (v+1) (fun i=>if i<k then p i else if i=k then v else p (i-1))):=pm.out.next kA.out;clear hx7 t7 hrun o7A fin B6 o6A one6 pm
     go_wp2_with fail
     go_roundg (gk-1)
     case measure=>have:=hJ.out;have:=vA.out;omega
     case rel =>
      have:=hJ.out;have:=vA.out;exact⟨v+1,some ⟨g,0,none⟩,_,_,by omega,rfl,rfl,pmA,f7,B7.out.setCell (gA.out.2) _⟩
  ·have ev:v=N:=by have:=hJ.out;omega
   subst ev;clear hv8;have hvi:¬(v:Int)<(v:Int):=by omega
   cases a2 with
   | none =>
    exfalso;obtain⟨_,h2⟩:=ow.out;rcases h2 with ⟨_,h2⟩|⟨g',cap',cur,hv,_⟩
    ·omega
    ·cases hv
   | some ad2 =>
    obtain⟨g,hg⟩:=ow.out.form (by omega);injection hg with hg
    subst hg
    go_wp2_with fail
    go_ret
    exact⟨g,c2,rfl,p,pm.out,ow.out,B5.out⟩
end Go.Proofs.YtnnmdkaoiofabaaGreat.Sw
