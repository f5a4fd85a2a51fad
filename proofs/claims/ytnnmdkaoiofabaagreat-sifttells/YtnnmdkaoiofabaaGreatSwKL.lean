/-
  A drawn statement whose operations all read alone, each leaving a value, but for the last, which writes. A plan laid in a store (Relay): in memory.
-/
import Derived.Test.YtnnmdkaoiofabaaGreatSwE
import Derived.Test.YtnnmdkaoiofabaaGreatSwJ
namespace Go.Proofs.YtnnmdkaoiofabaaGreat.Sw
open Go Go.RowKit
open Rf (vfin)
def shapeE (ops:Array Oper) (D:List Tmp) (par:Nat→Nat):Bool:=
 (List.range D.length).all (fun i=>decide (i<par i) && decide (par i≤D.length) && ((ops[par i]?).map fun o=>o.after.any fun e=>e.on == i && Region.binds .any e).getD false) &&
 ops.all (fun o=>o.guard.isNone) && decide (ops.size=D.length+1)
theorem wp_region_vend {P:Program}{ops:Array Oper}{Q:Exit→Act→World→Prop}{id:Nat}{a:Act}{w:World}(hm:P.follows .mixedOrders=true) (hw:waitsBack ops=true) (ks:List (Tmp×Value)) (D:List Tmp) (eD:ks.map (·.1)=D) (hD:D.Nodup) (n:Nat) (hn:a.tmps.size=n) (hlt:(D.all fun d=>decide (d<n))=true) (R:World→Prop) (par:Nat→Nat) (sh:shapeE ops D par=true)
  (quiet:∀(i:Nat) (k:Tmp×Value) (o:Oper) (a':Act) (u:World),ks[i]? = some k→ops[i]? = some o→Qt w u→(∀s,s ∉ D→slot a' s=slot a s)→(∀e∈o.after,Region.binds .any e=true→∀k':Tmp×Value,ks[e.on]? = some k'→slot a' k'.1=k'.2)→∀K:Act→World→Prop,(∀u',(∃q,u'=u.drewN q)→K (a'.put (some k.1) k.2) u')→o.wp P a' u K Q)
  (last:∀(o:Oper) (a':Act) (u:World),ops[D.length]? = some o→Qt w u→(∀s,s ∉ D→slot a' s=slot a s)→(∀(i:Nat) (k:Tmp×Value),ks[i]? = some k→slot a' k.1=k.2)→∀K:Act→World→Prop,(∀u',R u'→K a' u')→o.wp P a' u K Q)
  (done:∀u,R u→Q .normal (vfin ks a) u):(Code.region id ops true).wp P Q a w:=by
 subst eD hn;obtain⟨m,hmm⟩:∃m,ks.length=m:=⟨_,rfl⟩
 unfold shapeE at sh;simp only[Bool.and_eq_true,decide_eq_true_eq,List.all_eq_true,List.mem_range,List.length_map,hmm]at sh;obtain⟨⟨s1,s2⟩,s4⟩:=sh;rw[List.length_map,hmm]at last;have par1:∀i,i<m→i<par i∧par i≤m:=fun i hi=>⟨(s1 i hi).1.1,(s1 i hi).1.2⟩
 have plain:∀(i:Nat) (o:Oper),ops[i]? = some o→o.guard=none:=fun i o ho=>by
  have h:=Array.all_eq_true.1 s2 i (Array.getElem?_eq_some_iff.1 ho).1;rw[(Array.getElem?_eq_some_iff.1 ho).2]at h;exact Option.isNone_iff_eq_none.1 h
 have lt':∀d∈ks.map (·.1),d<a.tmps.size:=fun d hd=>by simpa using List.all_eq_true.1 hlt d hd
 have sameAt:∀(i j:Nat) (x y:Tmp×Value),ks[i]? = some x→ks[j]? = some y→x.1=y.1→i=j:=fun i j x y hi hj e =>
  nodup_place (fun k:Tmp×Value=>some k.1) ks (by rw[show (fun k:Tmp×Value=>some k.1)=(some ∘ (·.1))from rfl,List.filterMap_eq_map];exact hD) i j x y x.1 hi hj rfl (by rw[e])
 refine wp_region_listed hm (fun listed a' u=>a'.tmps.size=a.tmps.size∧a'.defers=a.defers∧(∀s,s ∉ ks.map (·.1)→slot a' s=slot a s)∧(∀(i:Nat) (k:Tmp×Value),ks[i]? = some k→listed.getD i false=true→slot a' k.1=k.2)∧(listed.getD m false=false→Qt w u)∧(listed.getD m false=true→R u)) hw ?_ ?_ ?_
 ·rintro listed i o a' u ho hnl hi hdep hcl ⟨g1,g2,g3,g4,g5,g6⟩;have hlti:i<m+1:=by rw[← s4];exact(Array.getElem?_eq_some_iff.1 ho).1
  refine wpOp_plain ho (plain i o ho) ?_;have edge:∀j,j<m→listed.getD (par j) false=true→listed.getD j false=true:=fun j hj hl=>by
   obtain⟨o2,ho2⟩:∃o2,ops[par j]? = some o2:=⟨_,Array.getElem?_eq_getElem (by have:=par1 j hj;omega)⟩
   have h2:=(s1 j hj).2;rw[ho2]at h2;obtain⟨e,he,e1,e2⟩:=edge_of h2;have:=hcl (par j) o2 hl ho2 e he e2;rwa [e1]at this
  have under:listed.getD m false=true→∀d j,j+d=m→listed.getD j false=true:=fun hl d=>by
   induction d using Nat.strongRecOn with
   | _ d ih =>
    intro j hj;by_cases c:j=m
    ·rw[c];exact hl
    ·have:=par1 j (by omega);exact edge j (by omega) (ih (m-par j) (by omega) _ (by omega))
  by_cases c1:i<m
  ·have mF:listed.getD m false=false:=by
    cases c:listed.getD m false with
    | false=>rfl
    | true=>rw[under c (m-i) i (by omega)]at hi;cases hi
   obtain⟨k,hk⟩:∃k,ks[i]? = some k:=⟨_,List.getElem?_eq_getElem (by omega)⟩
   refine quiet i k o a' u hk ho (g5 mF) g3 (fun e he hb k' hk'=>g4 _ k' hk' (hdep e he hb)) _ fun u' hu=>?_
   have hkD:k.1∈ks.map (·.1):=List.mem_map.2 ⟨k,List.mem_of_getElem? hk,rfl⟩;refine⟨by simp[Act.put,g1],by simp[Act.put,g2],fun s hs=>?_,fun j k' hj hl=>?_,fun _=>Qt.trans (g5 mF) hu,fun hl=>?_⟩
   ·rw[slot_put_ne _ (show k.1≠s from fun e=>hs (e ▸ hkD))];exact g3 s hs
   ·by_cases e:j=i
    ·subst e;obtain rfl:=Option.some.inj (hk.symm.trans hj);exact slot_put_eq _ (by rw[g1];exact lt' _ hkD)
    ·rw[getD_set_ne false (fun q=>e q.symm)]at hl;rw[slot_put_ne _ (show k.1≠k'.1 from fun q=>e (sameAt j i k' k hj hk q.symm))];exact g4 j k' hj hl
   ·rw[getD_set_ne false (by omega),mF]at hl;cases hl
  ·obtain rfl:i=m:=by omega
   have all:∀d j,j+d=i→j<i→listed.getD j false=true:=fun d=>by
    induction d using Nat.strongRecOn with
    | _ d ih =>
     intro j hj hji;by_cases c:par j=i
     ·have h2:=(s1 j hji).2;rw[c,ho]at h2;obtain⟨e,he,e1,e2⟩:=edge_of h2;have:=hdep e he e2;rwa [e1]at this
     ·have:=par1 j hji;exact edge j hji (ih (i-par j) (by omega) _ (by omega) (by omega))
   refine last o a' u ho (g5 hi) g3 (fun j k hj=>g4 j k hj (all (i-j) j (by have:=(List.getElem?_eq_some_iff.1 hj).1;omega) (by have:=(List.getElem?_eq_some_iff.1 hj).1;omega))) _ fun u' hR=>?_
   refine⟨g1,g2,g3,fun j k hj hl=>g4 j k hj ?_,fun hl=>?_,fun _=>hR⟩
   ·have:=(List.getElem?_eq_some_iff.1 hj).1;rwa [getD_set_ne false (by omega)]at hl
   ·rw[getD_set_true' (by omega)]at hl;cases hl
 ·rintro listed a' u hall ⟨g1,g2,g3,g4,g5,g6⟩;have e:a'=vfin ks a:=Rf.vact_fin ks a a' hD g1 g2 (fun s hs=>g3 s hs) (fun k hk=>by
   obtain⟨i,hi⟩:=List.mem_iff_getElem?.1 hk;exact⟨lt' _ (List.mem_map.2 ⟨k,hk,rfl⟩),g4 i k hi (hall i (by have:=(List.getElem?_eq_some_iff.1 hi).1;omega))⟩)
  rw[e];exact done u (g6 (hall _ (by omega)))
 ·have no:∀j,(Array.replicate ops.size false).getD j false=false:=fun j=>by by_cases h:j<ops.size <;> simp[h]
  exact⟨rfl,rfl,fun _ _=>rfl,fun i _ _ h=>(by rw[no]at h;cases h),fun _=>Qt.drew w,fun h=>(by rw[no]at h;cases h)⟩
end Go.Proofs.YtnnmdkaoiofabaaGreat.Sw
namespace Go.Proofs.YtnnmdkaoiofabaaGreat.Sw
open Go Go.RowKit
open Mk (frees downL changed_any)
def Xw (X:Fx) (ad:Option Addr) (cap W:Nat) (wd:Nat→Int):Fx:={ X with ad:=ad,cap:=cap,W:=W,wd:=wd }
def FW (X:Fx) (b:Nat):Prop:=b=X.S∨At X.ad b
section
variable {w w':World}{X:Fx}{st:Bool}{c:Nat→Int}{fa:Option Addr}{k fc:Nat}{V:Nat→Value}{nm:Int→Option Int}
theorem stCell_ord (n:Nat) (v l v' l':Nat→Nat) (room:Nat) (ad:Option Addr) (L cap:Nat) (fa:Option Addr) (k fc P mp lines:Nat) (on st:Bool) (i:Nat):(if i<17 then Od.ordCell n v' l' i else stCell n v l room ad L cap fa k fc P mp lines on st i)=stCell n v' l' room ad L cap fa k fc P mp lines on st i:=by
 unfold stCell;by_cases e:i<17
 ·rw[if_pos e,if_pos e]
 ·rw[if_neg e,if_neg e,if_neg e]
def Xo (X:Fx) (v l:Nat→Nat):Fx:={ X with v:=v,l:=l }
theorem Raw.ord {v0 l0:Nat→Nat}(h:Raw w (Xo X v0 l0) st c fa k fc V nm) (t:Rf.Turned X.S w w') (r:w'.rowIs X.S 92 29 (fun i=>if i<17 then Od.ordCell X.n X.v X.l i else stCell X.n v0 l0 X.room X.ad X.W X.cap fa k fc X.P X.mp X.lines X.on st i)):Raw w' X st c fa k fc V nm∧Went (FW X) w w':=by
 obtain⟨a1,a2,a3,a4,a5,a6,a7,a8,a9,f1,f2,f3,f4,f5⟩:=h.apart;obtain⟨o,f,m⟩:=h.mem;have kp:∀b,b<w.heap.size→b≠X.S→w'.heap[b]? = w.heap[b]?:=fun b hb e=>t.block b hb e
 exact⟨⟨r.congr fun i _=>stCell_ord _ _ _ _ _ _ _ _ _ _ _ _ _ _ _ _ _ _,⟨o,f,m.of_blocks (kp _ m.ltP a1.symm) (kp _ m.ltR a2.symm)⟩,h.own.kept fun b hb=>kp b (h.own.block b hb).2 fun e=>a6 (e ▸ hb),h.fre.kept fun b hb=>kp b (h.fre.block b hb).2 fun e=>f1 (e ▸ hb),h.map.same (kp _ h.map.lt a3.symm)⟩,t.os,t.tape,t.output,t.size,fun b hb hn=>t.block b hb fun e=>hn (.inl e)⟩
theorem Raw.grow (h:Raw w X st c fa k fc V nm){g cap1:Nat}{w3:World}{o:Obj}(o3:OwnR 22 w3 0 (some ⟨g,0,none⟩) (X.W+1) cap1 (fun i=>if i=X.W then .int .u64 0 else .int .u64 (X.wd i))) (b3:Went (At X.ad) (w.alloc o) w3) :
  w3.cell? ⟨X.S,18,none⟩=some (.slice X.ad X.W X.cap)∧w3.frozen? ⟨X.S,18,none⟩=false∧Raw (w3.setCell ⟨X.S,18,none⟩ (.slice (some ⟨g,0,none⟩) (X.W+1) cap1)) (Xw X (some ⟨g,0,none⟩) cap1 (X.W+1) (fun i=>if i=X.W then 0 else X.wd i)) st c fa k fc V nm∧Went (FW X) w (w3.setCell ⟨X.S,18,none⟩ (.slice (some ⟨g,0,none⟩) (X.W+1) cap1)):=by
 obtain⟨a1,a2,a3,a4,a5,a6,a7,a8,a9,f1,f2,f3,f4,f5⟩:=h.apart;obtain⟨oo,f,m⟩:=h.mem;have kp:∀b,b<w.heap.size→¬At X.ad b→w3.heap[b]? = w.heap[b]?:=fun b hb hn=>(b3.block b (by simp;omega) hn).trans (Below.heap_alloc _ _ _ hb)
 have hb3:w3.rowIs X.S 92 29 (stCell X.n X.v X.l X.room X.ad X.W X.cap fa k fc X.P X.mp X.lines X.on st):=h.blk.of_block (kp _ h.blk.lt a6);have hSg:X.S≠g:=fun e=>by
  obtain⟨cur,h1⟩:=o3.kind g ⟨_,rfl,rfl⟩;obtain⟨cs,h2,_⟩:=hb3;rw[← e,h2]at h1;simp at h1
 have kpu:∀b,b≠X.S→(w3.setCell ⟨X.S,18,none⟩ (.slice (some ⟨g,0,none⟩) (X.W+1) cap1)).heap[b]? = w3.heap[b]?:=fun b h1=>Below.heap_setCell _ _ _ _ h1
 refine⟨hb3.cell (i:=18) (by omega),hb3.frozen 18,⟨(hb3.set 18 _).congr fun i _=>stCell_18 X.n X.v X.l X.room X.ad (some ⟨g,0,none⟩) X.W (X.W+1) X.cap cap1 fa k fc X.P X.mp X.lines X.on st i,⟨oo,f,m.of_blocks ((kpu _ a1.symm).trans (kp _ m.ltP a7)) ((kpu _ a2.symm).trans (kp _ m.ltR a8))⟩,?_,h.fre.kept fun b hb=>(kpu b fun e=>f1 (e ▸ hb)).trans (kp b (h.fre.block b hb).2 fun e=>f5 b e hb),h.map.same ((kpu _ a3.symm).trans (kp _ h.map.lt a9))⟩,?_⟩
 ·exact(o3.kept fun b hb=>kpu b fun e=>by
   obtain⟨a,ha,e2⟩:=hb;cases ha;exact hSg (e.symm.trans e2.symm)).congr fun i _=>by
    show (if i=X.W then _ else _)=Value.int .u64 (if i=X.W then 0 else X.wd i);by_cases e:i=X.W
    ·rw[if_pos e,if_pos e]
    ·rw[if_neg e,if_neg e]
 ·have wa:Went (FW X) w w3:=(Went.new _ w _).trans (b3.wider fun b e=>.inr e);exact wa.trans (Went.set (.inl rfl) _ _)
theorem Raw.word {g:Nat}(h:Raw w X st c fa k fc V nm) (hg:X.ad=some ⟨g,0,none⟩){j:Nat}(z:Int):Raw (w.setCell ⟨g,j,none⟩ (.int .u64 z)) (Xw X X.ad X.cap X.W (fun i=>if i=j then z else X.wd i)) st c fa k fc V nm∧Went (FW X) w (w.setCell ⟨g,j,none⟩ (.int .u64 z)):=by
 obtain⟨a1,a2,a3,a4,a5,a6,a7,a8,a9,f1,f2,f3,f4,f5⟩:=h.apart;obtain⟨oo,f,m⟩:=h.mem;have hat:At X.ad g:=⟨_,hg,rfl⟩
 have kp:∀b,b≠g→(w.setCell ⟨g,j,none⟩ (.int .u64 z)).heap[b]? = w.heap[b]?:=fun b e=>Below.heap_setCell _ _ _ _ e
 have own:=h.own;rw[hg]at own;refine⟨⟨h.blk.of_block (kp _ fun e=>a6 (e ▸ hat)),⟨oo,f,m.of_blocks (kp _ fun e=>a7 (e ▸ hat)) (kp _ fun e=>a8 (e ▸ hat))⟩,?_,h.fre.kept fun b hb=>kp b fun e=>f5 g hat (e ▸ hb),h.map.same (kp _ fun e=>a9 (e ▸ hat))⟩,Went.set (.inr hat) _ _⟩;show OwnR _ _ 0 X.ad X.W X.cap _;rw[hg];exact(own.set (k:=j) (.int .u64 z)).congr fun i _=>by
  show (if i=j then _ else _)=Value.int .u64 (if i=j then z else X.wd i);by_cases e:i=j
  ·rw[if_pos e,if_pos e]
  ·rw[if_neg e,if_neg e]
end
structure RyI (w:World) (X:Fx) (st:Bool) (c:Nat→Int) (fa:Option Addr) (k fc:Nat) (V:Nat→Value) (nm:Int→Option Int) (nd:Nat→Nd) (us:List Nat) (ad:Option Addr) (cap W:Nat) (wd:Nat→Int) (u:World):Prop where
 raw:Raw u (Xw X ad cap W wd) st c fa k fc V nm
 lo:X.W≤W
 hi:W≤X.room
 top:∀x∈us,x<2+W
 words:∀i,i<W→wd i=if i+2∈us then ndZ (nd (i+2))else if i<X.W then X.wd i else 0
 fresh:∀b,At ad b→At X.ad b∨w.heap.size≤b
 went:Went (FW X) w u
section
variable {w w' u:World}{X:Fx}{st:Bool}{c:Nat→Int}{fa ad:Option Addr}{k fc cap W:Nat}{V:Nat→Value}{nm:Int→Option Int}{nd:Nat→Nd}{us:List Nat}{wd:Nat→Int}
theorem fw_trans (f:∀b,At ad b→At X.ad b∨w.heap.size≤b) (g:Went (FW X) w u) (h:Went (FW (Xw X ad cap W wd)) u w'):Went (FW X) w w':=
 ⟨h.os.trans g.os,h.tape.trans g.tape,h.output.trans g.output,Nat.le_trans g.size h.size,fun b hb hn=>(h.block b (Nat.lt_of_lt_of_le hb g.size) fun e=>by
  rcases e with e|e
  ·exact hn (.inl e)
  ·rcases f b e with e|e
   ·exact hn (.inr e)
   ·omega).trans (g.block b hb hn)⟩
theorem RyI.below (h:RyI w X st c fa k fc V nm nd us ad cap W wd u) (b:Below u.heap.size u w'):RyI w X st c fa k fc V nm nd us ad cap W wd w':=
 ⟨h.raw.kept fun i hi=>b.block i (h.raw.lt i hi),h.lo,h.hi,h.top,h.words,h.fresh,⟨b.os.trans h.went.os,b.tape.trans h.went.tape,b.output.trans h.went.output,Nat.le_trans h.went.size b.size,fun i hi hn=>(b.block i (Nat.lt_of_lt_of_le hi h.went.size)).trans (h.went.block i hi hn)⟩⟩
theorem RyI.turn (h:RyI w X st c fa k fc V nm nd us ad cap W wd u){Q:Nat→Prop}(g:Went Q u w') (hQ:∀b,Q b→w.heap.size≤b) (n1:∀b,(FS (Xw X ad cap W wd) fa b∨At ad b)→¬Q b):RyI w X st c fa k fc V nm nd us ad cap W wd w':=
 ⟨h.raw.kept fun i hi=>g.block i (h.raw.lt i hi) (n1 i hi),h.lo,h.hi,h.top,h.words,h.fresh,⟨g.os.trans h.went.os,g.tape.trans h.went.tape,g.output.trans h.went.output,Nat.le_trans h.went.size g.size,fun i hi hn=>(g.block i (Nat.lt_of_lt_of_le hi h.went.size) fun e=>by have:=hQ i e;omega).trans (h.went.block i hi hn)⟩⟩
theorem RyI.grow (h:RyI w X st c fa k fc V nm nd us ad cap W wd u) (hW:W<X.room){g cap1:Nat}{w3:World}{o:Obj}(o3:OwnR 22 w3 0 (some ⟨g,0,none⟩) (W+1) cap1 (fun i=>if i=W then .int .u64 0 else .int .u64 (wd i))) (b3:Went (At ad) (u.alloc o) w3) (p3:At ad g∨g=(u.alloc o).heap.size) :
  w3.cell? ⟨X.S,18,none⟩=some (.slice ad W cap)∧w3.frozen? ⟨X.S,18,none⟩=false∧RyI w X st c fa k fc V nm nd us (some ⟨g,0,none⟩) cap1 (W+1) (fun i=>if i=W then 0 else wd i) (w3.setCell ⟨X.S,18,none⟩ (.slice (some ⟨g,0,none⟩) (W+1) cap1))∧Went (fun b=>b=X.S∨At ad b) u (w3.setCell ⟨X.S,18,none⟩ (.slice (some ⟨g,0,none⟩) (W+1) cap1)):=by
 obtain⟨h1,h2,h3,h4⟩:=Raw.grow h.raw o3 b3;have lo:=h.lo;refine⟨h1,h2,⟨h3,by omega,by omega,fun x hx=>by have:=h.top x hx;omega,fun i hi=>?_,fun b hb=>?_,fw_trans h.fresh h.went h4⟩,h4⟩
 ·by_cases e:i=W
  ·rw[if_pos e,if_neg fun m=>by have:=h.top _ m;omega,if_neg (by omega)]
  ·rw[if_neg e];exact h.words i (by omega)
 ·obtain⟨a,ha,rfl⟩:=hb;cases ha;rcases p3 with e|e
  ·exact h.fresh _ e
  ·refine .inr ?_;rw[World.size_alloc]at e;have:=h.went.size;show w.heap.size≤g;omega
theorem RyI.lay (h:RyI w X st c fa k fc V nm nd us ad cap W wd u){g x:Nat}(hg:ad=some ⟨g,0,none⟩) (h2:2≤x) (hx:x<2+W):RyI w X st c fa k fc V nm nd (us ++ [x]) ad cap W (fun i=>if i=x-2 then ndZ (nd x)else wd i) (u.setCell ⟨g,x-2,none⟩ (.int .u64 (ndZ (nd x))))∧Went (fun b=>b=X.S∨At ad b) u (u.setCell ⟨g,x-2,none⟩ (.int .u64 (ndZ (nd x)))):=by
 obtain⟨h3,h4⟩:=Raw.word h.raw hg (j:=x-2) (ndZ (nd x));refine⟨⟨h3,h.lo,h.hi,fun y hy=>?_,fun i hi=>?_,h.fresh,fw_trans h.fresh h.went h4⟩,h4⟩
 ·rcases List.mem_append.1 hy with hy|hy
  ·exact h.top y hy
  ·rw[List.mem_singleton]at hy;omega
 ·by_cases e:i=x-2
  ·rw[if_pos e,if_pos (List.mem_append.2 (.inr (by rw[List.mem_singleton];omega))),show i+2=x by omega]
  ·rw[if_neg e,h.words i hi];by_cases m:i+2∈us
   ·rw[if_pos m,if_pos (List.mem_append.2 (.inl m))]
   ·rw[if_neg m,if_neg fun q=>(List.mem_append.1 q).elim m fun q=>e (by rw[List.mem_singleton]at q;omega)]
theorem RyI.off (h:RyI w X st c fa k fc V nm nd us ad cap W wd u){b:Nat}{o:Obj}(hb:u.heap[b]? = some o) (ho:o.isCells=false):¬(b=X.S∨At ad b):=by
 rintro(e|e)
 ·obtain⟨cs,hc,_⟩:=h.raw.blk;change u.heap[X.S]? = _ at hc;rw[e,hc]at hb;cases hb;cases ho
 ·obtain⟨cur,hc⟩:=h.raw.own.kind b e;rw[hc]at hb;cases hb;cases ho
end
theorem ord17' {w:World}{P n:Nat}{v l:Nat→Nat}(h:Od.IsOrd w P n v l):w.cell? ⟨P,0,none⟩=some (Od.ordCell n v l 0)∧w.cell? ⟨P,1,none⟩=some (Od.ordCell n v l 1)∧w.cell? ⟨P,2,none⟩=some (Od.ordCell n v l 2)∧w.cell? ⟨P,3,none⟩=some (Od.ordCell n v l 3)∧w.cell? ⟨P,4,none⟩=some (Od.ordCell n v l 4)∧w.cell? ⟨P,5,none⟩=some (Od.ordCell n v l 5)∧w.cell? ⟨P,6,none⟩=some (Od.ordCell n v l 6)∧w.cell? ⟨P,7,none⟩=some (Od.ordCell n v l 7)∧w.cell? ⟨P,8,none⟩=some (Od.ordCell n v l 8)∧w.cell? ⟨P,9,none⟩=some (Od.ordCell n v l 9)∧w.cell? ⟨P,10,none⟩=some (Od.ordCell n v l 10)∧w.cell? ⟨P,11,none⟩=some (Od.ordCell n v l 11)∧w.cell? ⟨P,12,none⟩=some (Od.ordCell n v l 12)∧w.cell? ⟨P,13,none⟩=some (Od.ordCell n v l 13)∧w.cell? ⟨P,14,none⟩=some (Od.ordCell n v l 14)∧w.cell? ⟨P,15,none⟩=some (Od.ordCell n v l 15)∧w.cell? ⟨P,16,none⟩=some (Od.ordCell n v l 16):=by
 refine⟨?_,?_,?_,?_,?_,?_,?_,?_,?_,?_,?_,?_,?_,?_,?_,?_,?_⟩ <;> exact World.rowIs.cell h (by decide)
theorem wp_store_run {P:Program}{o:Oper}{a:Act}{w w':World}{K:Act→World→Prop}{Q:Exit→Act→World→Prop}(ty:TypeId) (x y:Operand) (ho:o.op = .store ty x y) (hd:o.dst=none){p v:Value}(hx:a.eval x=p) (hv:a.eval y=v) (hr:(Instr.storeAt ty p v).run P w = .ok () w') (h:K a w'):o.wp P a w K Q:=by
 have hrun:(execOp a.eval o).run P w = .ok .skip w':=by
  simp only[execOp,ho,hx,hv,Sem.run_bind,hr,Result.andThen_ok];rfl
 unfold Oper.wp;rw[hrun,Oper.upon_skip,hd];exact h
theorem wpList_store_run {P:Program}{ops:Array Oper}{rest:List Oper}{o:Oper}{a:Act}{w w':World}{Q:Exit→Act→World→Prop}(hgd:o.guard=none) (ty:TypeId) (x y:Operand) (ho:o.op = .store ty x y) (hd:o.dst=none){p v:Value}(hx:a.eval x=p) (hv:a.eval y=v) (hr:(Instr.storeAt ty p v).run P w = .ok () w') (h:wpList P ops Q rest a w'):wpList P ops Q (o :: rest) a w:=
 wpList_plain hgd fun _ hK=>wp_store_run ty x y ho hd hx hv hr (hK _ _ h)
section
variable {w:World}{X:Fx}{st:Bool}{c:Nat→Int}{fa:Option Addr}{k fc:Nat}{V:Nat→Value}{nm:Int→Option Int}
set_option maxRecDepth 100000 in
set_option maxHeartbeats 4000000 in
theorem relay_any {v0 l0:Nat→Nat}(h:Raw w (Xo X v0 l0) st c fa k fc V nm) (hr:X.room≤32768) (hWr:X.W≤X.room){Po bn:Nat}(ho:Od.IsOrd w Po X.n X.v X.l){N:List (Nat×Nd)}(hm:IsH w bn N){nd:Nat→Nd}(hnd:∀x d,(x,d)∈N→nd x=d) (hk:∀x d,(x,d)∈N→2≤x∧x≤1+X.room∧d.1≤255∧d.2.1<268435456∧d.2.2<268435456) :
  Calls Tryz.prog 82 #[.pointer (some ⟨X.S,0,none⟩),.pointer (some ⟨Po,0,none⟩),.map (some bn)] w fun e w'=>e = .returned (.tuple #[])∧∃ad cap W wd fa' fc',Raw w' (Xw X ad cap W wd) true c fa' (frees wd (downL W W)).length fc' (fun i=>.int .u32 ((frees wd (downL W W)).getD i 0:Nat)) nm∧X.W≤W∧W≤X.room∧(∀x∈N.map (·.1),x<2+W)∧(∀i,i<W→wd i=if i+2∈N.map (·.1)then ndZ (nd (i+2))else if i<X.W then X.wd i else 0)∧(∀i,At ad i→At X.ad i∨w.heap.size≤i)∧(∀i,At fa' i→At fa i∨w.heap.size≤i)∧Went (fun b=>FS X fa b∨At X.ad b) w w':=by
 obtain⟨p0,p1,p2,p3,p4,p5,p6,p7,p8,p9,p10,p11,p12,p13,p14,p15,p16⟩:=ord17' ho;obtain⟨w1,hst,r1,t1⟩:=ord_store h.blk X.n X.v X.l;change (Instr.storeAt _ (.pointer (some ⟨X.S,0,none⟩)) _).run Tryz.prog w=_ at hst;obtain⟨h1,g1⟩:=Raw.ord h t1 r1;have mS:bn≠X.S:=fun e=>by
  obtain⟨es,clock,hb,_⟩:=hm;obtain⟨cs,hc,_⟩:=h.blk;change w.heap[X.S]? = _ at hc;rw[e,hc]at hb;cases hb
 have hm1:IsH w1 bn N:=hm.same (t1.block bn hm.lt mS);have hkA:Aside (∀x d,(x,d)∈N→2≤x∧x≤1+X.room∧d.1≤255∧d.2.1<268435456∧d.2.2<268435456):=hk;have hndA:Aside (∀x d,(x,d)∈N→nd x=d):=hnd;have keyA:Aside (N.map (·.1)).Nodup:=by
  obtain⟨es,clock,hb,km⟩:=hm;have:=km.nodup;rw[List.map_map,show ((fun p:Value×Value=>p.1) ∘ pH)=hV ∘ (·.1)from rfl,← List.map_map]at this;exact(List.pairwise_map.1 this).imp fun h e=>h (by rw[e])
 obtain⟨es,clock,hbm,km⟩:=hm1;obtain⟨hrun,hI0⟩:=Iter.start 153 36 178 Tryz.underlying153 hbm km;have wS:Aside (w.heap.size≤w1.heap.size):=g1.size
 have R0:RyI w X st c fa k fc V nm nd [] X.ad X.cap X.W X.wd (w1.alloc (.mapIter (some bn) clock #[] clock)):=
  RyI.below (u:=w1) ⟨h1,Nat.le_refl _,hWr,fun x hx=>absurd hx List.not_mem_nil,fun i hi=>by rw[if_neg List.not_mem_nil,if_pos hi],fun b hb=>.inl hb,g1⟩ ((Below.refl _ _).alloc (Nat.le_refl _) _)
 clear h h1 g1 r1 t1 hbm km hk hnd mS hm;go_enter Tryz.func82,Tryz.ntmps82
 go_wp2_with (first
  | refine wpList_store_run rfl 83 (.tmp 13) (.tmp 11) rfl rfl rfl rfl hst ?_)
 clear p0 p1 p2 p3 p4 p5 p6 p7 p8 p9 p10 p11 p12 p13 p14 p15 p16 hst ho hrun;have szI:Aside (w1.heap.size<(w1.alloc (.mapIter (some bn) clock #[] clock)).heap.size):=by show _<_;simp
 have R0A:Aside (RyI w X st c fa k fc V nm nd [] X.ad X.cap X.W X.wd (w1.alloc (.mapIter (some bn) clock #[] clock))):=R0;have I0A:Aside (Iter (w1.alloc (.mapIter (some bn) clock #[] clock)) w1.heap.size bn (N.map pH) []):=hI0;clear R0 hI0;generalize w1.alloc (.mapIter (some bn) clock #[] clock)=w2 at szI R0A I0A ⊢;generalize w1.heap.size=it at wS szI I0A ⊢
 go_loopg [6,7] (N.length+1) (fun g _ _ wr=>∃(us:List Nat) (ad:Option Addr) (cap W:Nat) (wd:Nat→Int),us.length+g=N.length+1∧Aside us.Nodup∧Aside (∀x∈us,x∈N.map (·.1))∧Aside (RyI w X st c fa k fc V nm nd us ad cap W wd wr)∧Iter wr it bn (N.map pH) (us.map hV))
 case atStart=>exact⟨[],X.ad,X.cap,X.W,X.wd,by simp,by simp[Aside],by simp[Aside],R0A.out,I0A.out⟩
 case round =>
  clear R0A I0A;obtain⟨us,ad,cap,W,wd,hg,hun,hus,hR,hI⟩:=hrel;have hgA:Aside (us.length+gk=N.length+1):=hg;have hRA:Aside (RyI w X st c fa k fc V nm nd us ad cap W wd wr):=hR;clear hg hR;rcases hI.next 0 with ⟨hall,hnx⟩|⟨t,v,w4,htl,htv,hnx,hI2,hw2,hs2,hen⟩
  ·have hmem:Aside (∀x,x∈us↔x∈N.map (·.1)):=fun x=>⟨hus.out x,fun m=>by
    obtain⟨d,hd⟩:=key_mem m;obtain⟨y,hy,e⟩:=List.mem_map.1 (hall (pH (x,d)) (List.mem_map.2 ⟨_,hd,rfl⟩));have e:y=x:=hV_inj e;exact e ▸ hy⟩
   have KC:Calls Tryz.prog 102 #[.pointer (some ⟨X.S,0,none⟩)] wr fun e w'=>e = .returned (.tuple #[])∧∃fa' fc',Raw w' (Xw X ad cap W wd) true c fa' (frees wd (downL W W)).length fc' (fun i=>.int .u32 ((frees wd (downL W W)).getD i 0:Nat)) nm∧(∀i,At fa' i→At fa i∨wr.heap.size≤i)∧Went (FS (Xw X ad cap W wd) fa) wr w':=changed_any hRA.out.raw (by have:=hRA.out.hi;show W≤32768;omega)
   clear hall hI
   go_wp2_with (first
    | (go_at_call 102;refine KC.mono ?_;clear KC;rintro e w5 ⟨rfl,fa5,fc5,raw5,hf5,g5⟩))
   go_end0
   have R:=hRA.out;refine⟨rfl,ad,cap,W,wd,fa5,fc5,raw5,R.lo,R.hi,fun x hx=>R.top x ((hmem.out x).2 hx),fun i hi=>?_,R.fresh,fun i hi=>(hf5 i hi).imp id fun e=>Nat.le_trans R.went.size e,g5.os.trans R.went.os,g5.tape.trans R.went.tape,g5.output.trans R.went.output,Nat.le_trans R.went.size g5.size,fun b hb hn=>(g5.block b (Nat.lt_of_lt_of_le hb R.went.size) fun e=>hn (.inl e)).trans (R.went.block b hb fun e=>hn (e.imp .inl id))⟩;rw[R.words i hi];by_cases m:i+2∈us
   ·rw[if_pos m,if_pos ((hmem.out _).1 m)]
   ·rw[if_neg m,if_neg fun q=>m ((hmem.out _).2 q)]
  ·obtain⟨⟨x,d⟩,hxd,e0⟩:=List.mem_map.1 htl;have e1:hV x=t:=congrArg Prod.fst e0;have e2:ndV d=v:=congrArg Prod.snd e0;subst e1 e2;have xu:x ∉ us:=fun m=>htv (List.mem_map.2 ⟨x,m,rfl⟩)
   obtain⟨k1,k2,k3,k4,k5⟩:=hkA.out x d hxd;have hlt:us.length<N.length:=by
    have:=len_sub (a:=x :: us) (b:=N.map (·.1)) (List.nodup_cons.2 ⟨xu,hun.out⟩) fun y hy=>by
     rcases List.mem_cons.1 hy with rfl|hy
     ·exact mem_key hxd
     ·exact hus.out y hy
    rw[List.length_map,List.length_cons]at this;omega
   have xA:Aside (us.length<N.length∧(us ++ [x]).Nodup∧(∀y∈us ++ [x],y∈N.map (·.1))∧nd x=d∧2≤x∧x≤1+X.room):=by
    refine⟨hlt,?_,fun y hy=>?_,hndA.out x d hxd,k1,k2⟩
    ·rw[List.nodup_append];refine⟨hun.out,by simp,fun a ha b hb q=>?_⟩;rw[List.mem_singleton]at hb;exact xu (hb ▸ q ▸ ha)
    ·rcases List.mem_append.1 hy with hy|hy
     ·exact hus.out y hy
     ·rw[List.mem_singleton]at hy;exact hy ▸ mem_key hxd
   have nit:∀b,(FS (Xw X ad cap W wd) fa b∨At ad b)→¬b=it:=fun b hb e=>by
    obtain⟨_,_,_,_,hit⟩:=hI.blocks;by_cases q:b=X.mp
    ·obtain⟨_,_,_,hmp,_⟩:=hRA.out.raw.map;change wr.heap[X.mp]? = _ at hmp;rw[← q,e,hit]at hmp;cases hmp
    ·have:=Mk.raw_cells hRA.out.raw hb q (e ▸ hit);cases this
   have R4:=hRA.out.turn hw2 (fun b e=>by rw[e];exact wS.out) nit;obtain⟨l,a,b⟩:=d;obtain⟨B,hB⟩:∃B,w4.heap.size=B:=⟨_,rfl⟩
   obtain⟨w5,hw5⟩:∃w5,w5=w4.alloc (.cells #[.int .i64 (l:Int),.int .u32 (a:Int),.int .u32 (b:Int)] 178):=⟨_,rfl⟩
   have R5:RyI w X st c fa k fc V nm nd us ad cap W wd w5:=by rw[hw5];exact R4.below ((Below.refl _ _).alloc (Nat.le_refl _) _)
   have I5:Iter w5 it bn (N.map pH) ((us ++ [x]).map hV):=by
    rw[List.map_append,hw5];obtain⟨es5,c5,s5,hb5,hi5⟩:=hI2.blocks;exact hI2.same (Below.heap_alloc _ _ _ (Array.getElem?_eq_some_iff.1 hb5).1) (Below.heap_alloc _ _ _ (Array.getElem?_eq_some_iff.1 hi5).1)
   have r5:=nd_new w4 (l,a,b);change World.rowIs (w4.alloc (.cells #[.int .i64 (l:Int),.int .u32 (a:Int),.int .u32 (b:Int)] 178)) _ _ _ _ at r5;rw[← hw5,hB]at r5;have R5A:Aside (RyI w X st c fa k fc V nm nd us ad cap W wd w5):=R5;have I5A:Aside (Iter w5 it bn (N.map pH) ((us ++ [x]).map hV)):=I5;have r5A:Aside (w5.rowIs B 178 3 (ndC (l,a,b))):=r5;have BA:Aside (w.heap.size≤B):=by have:=R4.went.size;show _≤_;omega
   change (Instr.next _ _ _).run Tryz.prog wr = .ok (.tuple #[.bool true,.int .u32 (x:Int),.agg #[.int .i64 (l:Int),.int .u32 (a:Int),.int .u32 (b:Int)]]) w4 at hnx;change (Instr.entry _).run Tryz.prog w4 = .ok (.tuple #[.int .u32 (x:Int),.agg #[.int .i64 (l:Int),.int .u32 (a:Int),.int .u32 (b:Int)]]) w4 at hen;clear htl htv hw2 hs2 hI hI2 hlt xu e0 hxd R4 R5 I5 r5 nit hRA hun hus
   go_wp2_with fail
   rw[← hw5];clear hw5 hB hnx hen;obtain⟨gO,hgO⟩:∃gO,gO=gk:=⟨_,rfl⟩
   have hgOA:Aside (gO=gk):=hgO;clear hgO;have hx2:IntKind.u32.wrap ((x:Int)-2)=((x-2:Nat):Int):=by rw[IntKind.wrap_u32];have:=xA.out;omega
   go_loopg [21] (X.room+2) (fun g _ wi=>∃(ad':Option Addr) (cap' W':Nat) (wd':Nat→Int),X.room+2≤W'+g∧W'≤X.room∧Aside (RyI w X st c fa k fc V nm nd us ad' cap' W' wd' wi)∧Aside (Iter wi it bn (N.map pH) ((us ++ [x]).map hV))∧Aside (wi.rowIs B 178 3 (ndC (l,a,b))))
   case atStart=>exact⟨ad,cap,W,wd,by have:=R5A.out.hi;omega,R5A.out.hi,R5A.out,I5A.out,r5A.out⟩
   case round =>
    obtain⟨ad',cap',W',wd',hg,hWX,hR,hI,hr5⟩:=hrel;have hgA2:Aside (X.room+2≤W'+gk∧W'≤X.room):=⟨hg,hWX⟩
    have hRA:Aside (RyI w X st c fa k fc V nm nd us ad' cap' W' wd' wr):=hR;have hIA:Aside (Iter wr it bn (N.map pH) ((us ++ [x]).map hV)):=hI;have hrA:Aside (wr.rowIs B 178 3 (ndC (l,a,b))):=hr5;clear hg hR hI hr5 R5A I5A r5A;have c18:wr.cell? ⟨X.S,18,none⟩=some (.slice ad' W' cap'):=hRA.out.raw.blk.cell (i:=18) (by omega);have hwW:IntKind.u32.wrap (W':Int)=(W':Int):=by rw[IntKind.wrap_u32];omega
    by_cases hlt:W'≤x-2
    ·have hge:(W':Int)≤((x-2:Nat):Int):=by omega
     have hltA:Aside (W'≤x-2):=hlt;have ownr:OwnR 22 wr 0 ad' W' cap' (fun i=>.int .u64 (wd' i)):=hRA.out.raw.own;clear hlt
     go_wp2_with (first
      | (at_builtin;refine append_u64 (ownr.new _) wr.heap.size 0 (heap_alloc_new _ _) (by omega) (Nat.zero_le _) rfl _ _ rfl rfl rfl ?_;intro g cap1 w3 o3 b3 p3;obtain⟨d18,f18,hR3,hG3⟩:=hRA.out.grow (by have:=xA.out;have:=hltA.out;omega) o3 b3 p3;have hR3A:Aside (RyI w X st c fa k fc V nm nd us _ _ _ _ (w3.setCell ⟨X.S,18,none⟩ (.slice (some ⟨g,0,none⟩) (W'+1) cap1))):=hR3;have hG3A:Aside (Went (fun b=>b=X.S∨At ad' b) wr (w3.setCell ⟨X.S,18,none⟩ (.slice (some ⟨g,0,none⟩) (W'+1) cap1))):=hG3;clear o3 b3 p3 hR3 hG3))
     go_roundg (gk-1)
     case measure=>have:=hgA2.out;have:=xA.out;have:=hltA.out;omega
     case rel =>
      have:=hgA2.out;have:=xA.out;have:=hltA.out;obtain⟨es5,c5,s5,hb5,hi5⟩:=hIA.out.blocks;refine⟨_,_,_,_,by omega,by omega,hR3A.out,?_,?_⟩
      ·exact hIA.out.same (hG3A.out.block _ (Array.getElem?_eq_some_iff.1 hb5).1 (hRA.out.off hb5 rfl)) (hG3A.out.block _ (Array.getElem?_eq_some_iff.1 hi5).1 (hRA.out.off hi5 rfl))
      ·exact hrA.out.of_block (hG3A.out.block _ hrA.out.lt fun e=>by
        obtain⟨cs,hc,_⟩:=hrA.out;rcases e with e|e
        ·obtain⟨cs',hc',_⟩:=hRA.out.raw.blk;change wr.heap[X.S]? = _ at hc';rw[← e,hc]at hc';simp at hc'
        ·obtain⟨cur,hc'⟩:=hRA.out.raw.own.kind B e;rw[hc]at hc';simp at hc')
    ·have hlt0:¬(W':Int)≤((x-2:Nat):Int):=by omega
     have hxW:Aside (x-2<W'):=by show _<_;omega
     have ownr:OwnR 22 wr 0 ad' W' cap' (fun i=>.int .u64 (wd' i)):=hRA.out.raw.own;obtain⟨g,rfl⟩:=ownr.form (by omega);clear ownr hlt;have hlw:IntKind.u8.wrap (l:Int)=(l:Int):=by rw[IntKind.wrap_u8];omega
     have KS:∀u,Qt wr u→u.cell? ⟨X.S,18,none⟩=some (.slice (some ⟨g,0,none⟩) W' cap'):=fun u ⟨m,e⟩=>by rw[e];exact c18
     have KB:∀u,Qt wr u→u.cell? ⟨B,0,none⟩=some (.int .i64 (l:Int))∧u.cell? ⟨B,1,none⟩=some (.int .u32 (a:Int))∧u.cell? ⟨B,2,none⟩=some (.int .u32 (b:Int)):=fun u ⟨m,e⟩=>by rw[e];exact nd_row hrA.out
     have KN:∀u,Calls Tryz.prog 101 #[.int .u8 (l:Int),.int .u32 (a:Int),.int .u32 (b:Int)] u fun e w'=>e = .returned (.int .u64 (ndZ (l,a,b)))∧w'=u:=fun u=>bnode_any (l:Int) (a:Int) (b:Int) u (by omega) (by omega) (by omega)
     have hxx:¬(W':Int)≤((x-2:Nat):Int):=by have:=hxW.out;omega
     have hxx2:((x-2:Nat):Int)<(W':Int):=by have:=hxW.out;omega
     go_wp2_with fail
     refine wp_region_vend (by kernel_rfl) (by kernel_rfl) [(39,.pointer (some ⟨X.S,0,none⟩)),(40,.pointer (some ⟨X.S,0,none⟩)),(41,.pointer (some ⟨X.S,18,none⟩)),(42,.slice (some ⟨g,0,none⟩) W' cap'),(43,.int .u32 (x:Int)),(44,.int .u32 ((x-2:Nat):Int)),(45,.pointer (some ⟨B,0,none⟩)),(46,.int .i64 (l:Int)),(47,.int .u8 (l:Int)),(48,.pointer (some ⟨B,1,none⟩)),(49,.int .u32 (a:Int)),(50,.pointer (some ⟨B,2,none⟩)),(51,.int .u32 (b:Int)),(52,.int .u64 (ndZ (l,a,b))),(53,.pointer (some ⟨g,x-2,none⟩))] [39,40,41,42,43,44,45,46,47,48,49,50,51,52,53] rfl (by decide) 56 rfl (by decide)
      (fun u=>∃q,u=(wr.drewN q).setCell ⟨g,x-2,none⟩ (.int .u64 (ndZ (l,a,b)))) (fun i=>[1,2,3,14,5,14,7,8,13,10,13,12,13,15,15].getD i 0) (by kernel_rfl) ?_ ?_ ?_
     ·intro i kk o ac u hkk hoo qu hG hpre K hK;match i,hkk,hoo with
      | 0,hk,ho =>
       obtain rfl:=Option.some.inj hk;simp at ho;subst ho;have s0:ac.tmps.getD 0 undef=(.pointer (some ⟨X.S,0,none⟩):Value):=(hG 0 (by decide)).trans rfl;go_simp
       exact hK _ ⟨0,rfl⟩
      | 1,hk,ho =>
       obtain rfl:=Option.some.inj hk;simp at ho;subst ho;have v0:ac.tmps.getD 39 undef=(.pointer (some ⟨X.S,0,none⟩):Value):=hpre ⟨0,.data⟩ (by simp) rfl _ rfl;go_simp
       exact hK _ ⟨0,rfl⟩
      | 2,hk,ho =>
       obtain rfl:=Option.some.inj hk;simp at ho;subst ho;have v1:ac.tmps.getD 40 undef=(.pointer (some ⟨X.S,0,none⟩):Value):=hpre ⟨1,.data⟩ (by simp) rfl _ rfl;go_simp
       exact hK _ ⟨0,rfl⟩
      | 3,hk,ho =>
       obtain rfl:=Option.some.inj hk;simp at ho;subst ho;have v2:ac.tmps.getD 41 undef=(.pointer (some ⟨X.S,18,none⟩):Value):=hpre ⟨2,.data⟩ (by simp) rfl _ rfl;have c18:=KS u qu;go_simp
       exact hK _ ⟨0,rfl⟩
      | 4,hk,ho =>
       obtain rfl:=Option.some.inj hk;simp at ho;subst ho;have s6:ac.tmps.getD 6 undef=(.int .u32 (x:Int):Value):=(hG 6 (by decide)).trans rfl;go_simp
       exact hK _ ⟨0,rfl⟩
      | 5,hk,ho =>
       obtain rfl:=Option.some.inj hk;simp at ho;subst ho;have v4:ac.tmps.getD 43 undef=(.int .u32 (x:Int):Value):=hpre ⟨4,.data⟩ (by simp) rfl _ rfl;go_simp
       exact hK _ ⟨0,rfl⟩
      | 6,hk,ho =>
       obtain rfl:=Option.some.inj hk;simp at ho;subst ho;have s7:ac.tmps.getD 7 undef=(.pointer (some ⟨B,0,none⟩):Value):=(hG 7 (by decide)).trans rfl;go_simp
       exact hK _ ⟨0,rfl⟩
      | 7,hk,ho =>
       obtain rfl:=Option.some.inj hk;simp at ho;subst ho;have v6:ac.tmps.getD 45 undef=(.pointer (some ⟨B,0,none⟩):Value):=hpre ⟨6,.data⟩ (by simp) rfl _ rfl;have cb:=(KB u qu).1;go_simp
       exact hK _ ⟨0,rfl⟩
      | 8,hk,ho =>
       obtain rfl:=Option.some.inj hk;simp at ho;subst ho;have v7:ac.tmps.getD 46 undef=(.int .i64 (l:Int):Value):=hpre ⟨7,.data⟩ (by simp) rfl _ rfl;go_simp
       exact hK _ ⟨0,rfl⟩
      | 9,hk,ho =>
       obtain rfl:=Option.some.inj hk;simp at ho;subst ho;have s7:ac.tmps.getD 7 undef=(.pointer (some ⟨B,0,none⟩):Value):=(hG 7 (by decide)).trans rfl;go_simp
       exact hK _ ⟨0,rfl⟩
      | 10,hk,ho =>
       obtain rfl:=Option.some.inj hk;simp at ho;subst ho;have v9:ac.tmps.getD 48 undef=(.pointer (some ⟨B,1,none⟩):Value):=hpre ⟨9,.data⟩ (by simp) rfl _ rfl;have cb:=(KB u qu).2.1;go_simp
       exact hK _ ⟨0,rfl⟩
      | 11,hk,ho =>
       obtain rfl:=Option.some.inj hk;simp at ho;subst ho;have s7:ac.tmps.getD 7 undef=(.pointer (some ⟨B,0,none⟩):Value):=(hG 7 (by decide)).trans rfl;go_simp
       exact hK _ ⟨0,rfl⟩
      | 12,hk,ho =>
       obtain rfl:=Option.some.inj hk;simp at ho;subst ho;have v11:ac.tmps.getD 50 undef=(.pointer (some ⟨B,2,none⟩):Value):=hpre ⟨11,.data⟩ (by simp) rfl _ rfl;have cb:=(KB u qu).2.2;go_simp
       exact hK _ ⟨0,rfl⟩
      | 13,hk,ho =>
       obtain rfl:=Option.some.inj hk;simp at ho;subst ho;have v8:ac.tmps.getD 47 undef=(.int .u8 (l:Int):Value):=hpre ⟨8,.data⟩ (by simp) rfl _ rfl;have v10:ac.tmps.getD 49 undef=(.int .u32 (a:Int):Value):=hpre ⟨10,.data⟩ (by simp) rfl _ rfl;have v12:ac.tmps.getD 51 undef=(.int .u32 (b:Int):Value):=hpre ⟨12,.data⟩ (by simp) rfl _ rfl;go_simp
       refine(KN u).mono ?_;rintro e w5 ⟨rfl,rfl⟩;exact hK _ ⟨0,rfl⟩
      | 14,hk,ho =>
       obtain rfl:=Option.some.inj hk;simp at ho;subst ho;have v3:ac.tmps.getD 42 undef=(.slice (some ⟨g,0,none⟩) W' cap':Value):=hpre ⟨3,.data⟩ (by simp) rfl _ rfl;have v5:ac.tmps.getD 44 undef=(.int .u32 ((x-2:Nat):Int):Value):=hpre ⟨5,.data⟩ (by simp) rfl _ rfl;go_simp
       exact hK _ ⟨0,rfl⟩
      | i+15,hk,_=>simp at hk
     ·intro o a' u ho qu hG hv K hK;have v13:a'.tmps.getD 52 undef=(.int .u64 (ndZ (l,a,b)):Value):=hv 13 _ rfl;have v14:a'.tmps.getD 53 undef=(.pointer (some ⟨g,x-2,none⟩):Value):=hv 14 _ rfl;clear hv hG;obtain⟨m,rfl⟩:=qu;have own2:OwnR 22 (wr.drewN m) 0 (some ⟨g,0,none⟩) W' cap' (fun i=>.int .u64 (wd' i)):=(show OwnR 22 wr 0 (some ⟨g,0,none⟩) W' cap' (fun i=>.int .u64 (wd' i))from hRA.out.raw.own).kept fun _ _=>rfl
      have cw:=own2.cell hxW.out;have fw:=own2.frozen (x-2);clear own2;simp at ho;subst ho;go_simp
      exact hK _ ⟨m,rfl⟩
     ·rintro u ⟨m,rfl⟩;simp only[Rf.vfin,Act.put,List.setIfInBounds_toArray,List.set_cons_succ,List.set_cons_zero];have R2:RyI w X st c fa k fc V nm nd us (some ⟨g,0,none⟩) cap' W' wd' (wr.drewN m):=hRA.out.below ⟨rfl,rfl,rfl,Nat.le_refl _,fun _ _=>rfl⟩;have I2:Iter (wr.drewN m) it bn (N.map pH) ((us ++ [x]).map hV):=hIA.out.same rfl rfl;obtain⟨R3,G3⟩:=R2.lay (x:=x) rfl xA.out.2.2.2.2.1 (by have:=hxW.out;omega);rw[xA.out.2.2.2.1]at R3 G3;obtain⟨es5,c5,s5,hb5,hi5⟩:=I2.blocks;have R3A:Aside (_):=R3
      have I3A:Aside (Iter ((wr.drewN m).setCell ⟨g,x-2,none⟩ (.int .u64 (ndZ (l,a,b)))) it bn (N.map pH) ((us ++ [x]).map hV)):=I2.same (G3.block _ (Array.getElem?_eq_some_iff.1 hb5).1 (R2.off hb5 rfl)) (G3.block _ (Array.getElem?_eq_some_iff.1 hi5).1 (R2.off hi5 rfl));clear R2 I2 R3 G3 hb5 hi5 KS KB KN
      go_wp2_with fail
      go_roundg (gO-1)
      case measure=>have:=hgA.out;have:=hgOA.out;have:=xA.out.1;omega
      case rel =>
       have:=hgA.out;have:=hgOA.out;have:=xA.out.1;exact⟨us ++ [x],_,_,_,_,by rw[List.length_append];simp;omega,xA.out.2.1,xA.out.2.2.1,R3A.out,I3A.out⟩
end
end Go.Proofs.YtnnmdkaoiofabaaGreat.Sw
