/-
  A drawn statement each of whose operations leaves a value, the last two a new place and a store into it (x := T{..}), whatever the order. The plan under way: which nodes move to the other level, and which are left.
-/
import Derived.Test.YtnnmdkaoiofabaaGreatBaseG
import Derived.Test.YtnnmdkaoiofabaaGreatSwE
namespace Go.Proofs.YtnnmdkaoiofabaaGreat.Rf
open Go Go.RowKit
structure Along (w0:World) (a0:Act) (D:List Tmp) (a:Act) (w:World):Prop where
 size:a.tmps.size=a0.tmps.size
 defers:a.defers=a0.defers
 other:∀s,s ∉ D→slot a s=slot a0 s
 below:Below w0.heap.size w0 w
theorem Along.put {w0 w w':World}{a0 a:Act}{D:List Tmp}(g:Along w0 a0 D a w) (k:Below w.heap.size w w'){d:Tmp}(hd:d∈D) (v:Value):Along w0 a0 D (a.put (some d) v) w':=
 ⟨by simpa[Act.put]using g.size,g.defers,fun s hs=>by rw[slot_put_ne v (show d≠s from fun e=>hs (e ▸ hd))];exact g.other s hs,g.below.trans (k.mono g.below.size)⟩
set_option maxHeartbeats 800000 in
theorem wp_region_box {ops:Array Oper}{Q:Exit→Act→World→Prop}{id:Nat}{a0:Act}{w0:World}{C:Type}(T:TypeId) (is:World→Nat→C→Prop) (val:C→Value) (z:Obj) (zc:C)
  (kept:∀(w w':World) (b:Nat) (c:C),is w b c→Below w.heap.size w w'→is w' b c) (isz:∀w:World,is (w.alloc z) w.heap.size zc)
  (ralloc:∀w:World,(Instr.alloc T true (.tuple #[])).run Tryz.prog w = .ok (.pointer (some ⟨w.heap.size,0,none⟩)) (w.alloc z))
  (rstore:∀(w:World) (b:Nat) (c0 c:C),is w b c0→∃w',(Instr.storeAt T (.pointer (some ⟨b,0,none⟩)) (val c)).run Tryz.prog w = .ok () w'∧is w' b c∧Turned b w w')
  (c:C) (p s:Tmp) (ks:List (Tmp×Value)) (D:List Tmp) (n:Nat) (hm:Tryz.prog.follows .mixedOrders=true) (hw:waitsBack ops=true) (hlen:ks.length+2=ops.size)
  (eD:ks.map (·.1)=D) (hD:(p :: D).Nodup) (hn:a0.tmps.size=n) (hlt:((p :: D).all fun d=>decide (d<n))=true)
  (hval:∀(i:Nat) (k:Tmp×Value),ks[i]? = some k→∃o:Oper,ops[i]? = some o∧o.guard=none∧o.dst=some k.1∧∀(a:Act) (w:World),Along w0 a0 (p :: D) a w→(∀e∈o.after,Region.binds .any e=true→∀k',ks[e.on]? = some k'→slot a k'.1=k'.2)→∀K:Act→World→Prop,(∀w',Below w.heap.size w w'→K (a.put (some k.1) k.2) w')→o.wp Tryz.prog a w K Q)
  (halloc:∃o:Oper,ops[ks.length]? = some o∧o.guard=none∧o.dst=some p∧o.op = .alloc T)
  (hstore:∃o:Oper,ops[ks.length+1]? = some o∧o.guard=none∧o.dst=none∧o.op = .store T (.tmp p) (.tmp s)∧(∃e∈o.after,Region.binds .any e=true∧ks[e.on]? = some (s,val c))∧∃e∈o.after,Region.binds .any e=true∧e.on=ks.length)
  (done:∀(b:Nat) (w:World),Below w0.heap.size w0 w→w0.heap.size≤b→is w b c→Q .normal ((vfin ks a0).put (some p) (.pointer (some ⟨b,0,none⟩))) w) :
  (Code.region id ops true).wp Tryz.prog Q a0 w0:=by
 subst eD hn;have hlt':∀d∈p :: ks.map (·.1),d<a0.tmps.size:=fun d hd=>by simpa using List.all_eq_true.1 hlt d hd
 have pD:p ∉ ks.map (·.1):=(List.nodup_cons.1 hD).1;have nD:(ks.map (·.1)).Nodup:=(List.nodup_cons.1 hD).2;have memD:∀(i:Nat) (k:Tmp×Value),ks[i]? = some k→k.1∈ks.map (·.1):=fun i k hk=>List.mem_map.2 ⟨k,List.mem_of_getElem? hk,rfl⟩
 have sameAt:∀(i j:Nat) (x y:Tmp×Value),ks[i]? = some x→ks[j]? = some y→x.1=y.1→i=j:=fun i j x y hi hj e =>
  nodup_place (fun k:Tmp×Value=>some k.1) ks (by rw[show (fun k:Tmp×Value=>some k.1)=(some ∘ (·.1))from rfl,List.filterMap_eq_map];exact nD) i j x y x.1 hi hj rfl (by rw[e])
 refine wp_region_any hm (wpAny_posts' (fun a w=>Along w0 a0 (p :: ks.map (·.1)) a w)
  (fun i a w=>(∀k,ks[i]? = some k→slot a k.1=k.2)∧(i=ks.length→∃b c',slot a p = .pointer (some ⟨b,0,none⟩)∧w0.heap.size≤b∧is w b c')∧(i=ks.length+1→∃b,slot a p = .pointer (some ⟨b,0,none⟩)∧w0.heap.size≤b∧is w b c)) hw ?_ ?_ ops.size _ a0 _ (by simp) ?_ ?_ ?_ ?_)
 ·intro i o a w ho hG hpre;have hi:i<ops.size:=(Array.getElem?_eq_some_iff.1 ho).1;have parts:i<ks.length∨i=ks.length∨i=ks.length+1:=by omega
  rcases parts with hk|rfl|rfl
  ·obtain⟨k,hk⟩:∃k,ks[i]? = some k:=⟨_,List.getElem?_eq_getElem hk⟩
   have hil:i<ks.length:=(List.getElem?_eq_some_iff.1 hk).1;obtain⟨o',ho',hg,hdst,hwp⟩:=hval i k hk;obtain rfl:o=o':=Option.some.inj (ho.symm.trans ho');refine wpOp_plain ho hg ?_;have hdD:k.1∈p :: ks.map (·.1):=List.mem_cons_of_mem _ (memD i k hk);have hds:k.1<a.tmps.size:=by rw[hG.size];exact hlt' _ hdD
   have hkp:k.1≠p:=fun e=>pD (e ▸ memD i k hk)
   refine hwp a w hG (fun e he hb k' hk'=>(hpre e he hb).1 k' hk') _ fun w' kb=>⟨hG.put kb hdD k.2,⟨?_,fun e=>by omega,fun e=>by omega⟩,?_⟩
   ·intro k' hk';obtain rfl:=Option.some.inj (hk.symm.trans hk');exact slot_put_eq _ hds
   ·intro j oj hji _ _ hj;refine⟨fun k' hk'=>?_,fun e=>?_,fun e=>?_⟩
    ·have:k.1≠k'.1:=fun e=>hji (sameAt j i k' k hk' hk e.symm)
     exact(slot_put_ne _ this).trans (hj.1 k' hk')
    ·obtain⟨b,c',h1,h2,h3⟩:=hj.2.1 e;exact⟨b,c',(slot_put_ne _ hkp).trans h1,h2,kept _ _ _ _ h3 kb⟩
    ·obtain⟨b,h1,h2,h3⟩:=hj.2.2 e;exact⟨b,(slot_put_ne _ hkp).trans h1,h2,kept _ _ _ _ h3 kb⟩
  ·obtain⟨o',ho',hg,hdst,hop⟩:=halloc;obtain rfl:o=o':=Option.some.inj (ho.symm.trans ho');refine wpOp_plain ho hg ?_;have hdD:p∈p :: ks.map (·.1):=List.mem_cons_self;have hds:p<a.tmps.size:=by rw[hG.size];exact hlt' _ hdD
   have hrun:(execOp a.eval o).run Tryz.prog w = .ok (.value (.pointer (some ⟨w.heap.size,0,none⟩))) (w.alloc z):=by
    simp only[execOp,hop,Sem.run_bind,ralloc,Result.andThen_ok];rfl
   unfold Oper.wp;rw[hrun,Oper.upon_value,hdst];have kb:Below w.heap.size w (w.alloc z):=(Below.refl _ w).alloc (Nat.le_refl _) z;refine⟨hG.put kb hdD _,⟨fun k hk=>?_,fun _=>⟨w.heap.size,zc,slot_put_eq _ hds,hG.below.size,isz w⟩,fun e=>by omega⟩,?_⟩
   ·have:=(List.getElem?_eq_some_iff.1 hk).1;omega
   ·intro j oj hji hoj hno hj;refine⟨fun k' hk'=>?_,fun e=>absurd e hji,fun e=>?_⟩
    ·have:p≠k'.1:=fun e=>pD (e ▸ memD j k' hk')
     exact(slot_put_ne _ this).trans (hj.1 k' hk')
    ·subst e;obtain⟨oj',hoj',_,_,_,_,ed,hed,hbd,hen⟩:=hstore;obtain rfl:oj=oj':=Option.some.inj (hoj.symm.trans hoj');exact absurd hen (hno ed hed hbd)
  ·obtain⟨o',ho',hg,hdst,hop,⟨e1,he1,hb1,hk1⟩,e2,he2,hb2,hk2⟩:=hstore;obtain rfl:o=o':=Option.some.inj (ho.symm.trans ho');refine wpOp_plain ho hg ?_;have hv:slot a s=val c:=(hpre e1 he1 hb1).1 _ hk1;obtain⟨b,c',hp,hbase,hT⟩:=(hpre e2 he2 hb2).2.1 hk2;obtain⟨w',hr,hI,hTu⟩:=rstore w b c' c hT;have hrun:(execOp a.eval o).run Tryz.prog w = .ok .skip w':=by
    simp only[execOp,hop,eval_tmp,hv,hp,Sem.run_bind,hr,Result.andThen_ok];rfl
   unfold Oper.wp;rw[hrun,Oper.upon_skip,hdst];refine⟨⟨hG.size,hG.defers,hG.other,hG.below.trans (hTu.below hG.below.size hbase)⟩,⟨fun k hk=>?_,fun e=>by omega,fun _=>⟨b,hp,hbase,hI⟩⟩,?_⟩
   ·have:=(List.getElem?_eq_some_iff.1 hk).1;omega
   ·intro j oj hji _ _ hj;exact⟨hj.1,fun _=>⟨b,c,hp,hbase,hI⟩,fun e=>absurd e hji⟩
 ·intro a w hG hall;obtain⟨b,hp,hb,hI⟩:=(hall (ks.length+1) (by omega)).2.2 rfl;have h1:a.put (some p) (slot a0 p)=vfin ks a0:=by
   refine vact_fin ks a0 _ nD (by simpa[Act.put]using hG.size) hG.defers (fun t ht=>?_) (fun k hk=>?_)
   ·by_cases e:p=t
    ·subst e;exact slot_put_eq _ (by rw[hG.size];exact hlt' _ List.mem_cons_self)
    ·rw[slot_put_ne _ e];exact hG.other t (by simp only[List.mem_cons,not_or];exact⟨fun q=>e q.symm,ht⟩)
   ·obtain⟨i,hi⟩:=List.mem_iff_getElem?.1 hk;have hkp:p≠k.1:=fun e=>pD (e ▸ memD i k hi)
    have:=(List.getElem?_eq_some_iff.1 hi).1;refine⟨hlt' _ (List.mem_cons_of_mem _ (memD i k hi)),?_⟩;rw[slot_put_ne _ hkp];exact(hall i (by omega)).1 k hi
  have h2:a=(vfin ks a0).put (some p) (.pointer (some ⟨b,0,none⟩)):=by
   rw[← h1,← hp];refine act_ext (by simp[Act.put]) rfl fun t=>?_
   by_cases e:p=t
   ·subst e;rw[slot_put_eq _ (by simp only[Act.put,Array.size_setIfInBounds];rw[hG.size];exact hlt' _ List.mem_cons_self)]
   ·rw[slot_put_ne _ e,slot_put_ne _ e]
  rw[h2];exact done b w hG.below hb hI
 ·unfold toCome;exact Nat.le_trans (List.length_filter_le _ _) (by simp)
 ·exact⟨rfl,rfl,fun _ _=>rfl,⟨rfl,rfl,rfl,Nat.le_refl _,fun _ _=>rfl⟩⟩
 ·intro j hj;simp[Array.getElem?_replicate]at hj;split at hj <;> simp_all
 ·intro j o hj;simp[Array.getElem?_replicate]at hj;split at hj <;> simp_all
end Go.Proofs.YtnnmdkaoiofabaaGreat.Rf
namespace Go.Proofs.YtnnmdkaoiofabaaGreat.Sw
open Go Go.RowKit
def bothB (M:Mdl) (k h:Nat):Bool:=decide ((M.nd h).1=k) && (decide (M.lev (M.nd h).2.1=k+1) || decide (M.lev (M.nd h).2.2=k+1))
def mvN1 (M:Mdl) (k h:Nat):List (Nat×Nd):=if (M.nd h).1=k+1 then [(h,(k,(M.nd h).2))]else if (M.nd h).1=k∧bothB M k h=false then [(h,(k+1,(M.nd h).2))]else []
def mvL1 (M:Mdl) (k h:Nat):List (Nd×Nat):=if (M.nd h).1=k∧bothB M k h=false then [((k+1,(M.nd h).2),h)]else []
def mvB1 (M:Mdl) (k h:Nat):List Nat:=if bothB M k h=true then [h]else []
def mvN (M:Mdl) (k:Nat) (l:List Nat):List (Nat×Nd):=l.flatMap (mvN1 M k)
def mvL (M:Mdl) (k:Nat) (l:List Nat):List (Nd×Nat):=l.flatMap (mvL1 M k)
def mvB (M:Mdl) (k:Nat) (l:List Nat):List Nat:=l.flatMap (mvB1 M k)
section
variable {M:Mdl}{k:Nat}
theorem mvN_snoc (l:List Nat) (h:Nat):mvN M k (l ++ [h])=mvN M k l ++ mvN1 M k h:=by simp[mvN]
theorem mvL_snoc (l:List Nat) (h:Nat):mvL M k (l ++ [h])=mvL M k l ++ mvL1 M k h:=by simp[mvL]
theorem mvB_snoc (l:List Nat) (h:Nat):mvB M k (l ++ [h])=mvB M k l ++ mvB1 M k h:=by simp[mvB]
theorem mvN_mem {l:List Nat}{x:Nat}{d:Nd}:(x,d)∈mvN M k l↔x∈l∧(((M.nd x).1=k+1∧d=(k,(M.nd x).2))∨((M.nd x).1=k∧bothB M k x=false∧d=(k+1,(M.nd x).2))):=by
 unfold mvN mvN1;rw[List.mem_flatMap];constructor
 ·rintro⟨h,hl,hm⟩;split at hm
  ·next c =>
   simp only[List.mem_singleton,Prod.mk.injEq]at hm;obtain⟨rfl,rfl⟩:=hm;exact⟨hl,.inl ⟨c,rfl⟩⟩
  ·split at hm
   ·next c =>
    simp only[List.mem_singleton,Prod.mk.injEq]at hm;obtain⟨rfl,rfl⟩:=hm;exact⟨hl,.inr ⟨c.1,c.2,rfl⟩⟩
   ·exact absurd hm List.not_mem_nil
 ·rintro⟨hl,⟨c,rfl⟩|⟨c,e,rfl⟩⟩
  ·exact⟨x,hl,by rw[if_pos c];simp⟩
  ·exact⟨x,hl,by rw[if_neg (by omega),if_pos ⟨c,e⟩];simp⟩
theorem mvL_mem {l:List Nat}{x:Nat}{d:Nd}:(d,x)∈mvL M k l↔x∈l∧(M.nd x).1=k∧bothB M k x=false∧d=(k+1,(M.nd x).2):=by
 unfold mvL mvL1;rw[List.mem_flatMap];constructor
 ·rintro⟨h,hl,hm⟩;split at hm
  ·next c =>
   simp only[List.mem_singleton,Prod.mk.injEq]at hm;obtain⟨rfl,rfl⟩:=hm;exact⟨hl,c.1,c.2,rfl⟩
  ·exact absurd hm List.not_mem_nil
 ·rintro⟨hl,c,e,rfl⟩;exact⟨x,hl,by rw[if_pos ⟨c,e⟩];simp⟩
theorem mvB_mem {l:List Nat}{x:Nat}:x∈mvB M k l↔x∈l∧bothB M k x=true:=by
 unfold mvB mvB1;rw[List.mem_flatMap];constructor
 ·rintro⟨h,hl,hm⟩;split at hm
  ·next c =>
   rw[List.mem_singleton]at hm;subst hm;exact⟨hl,c⟩
  ·exact absurd hm List.not_mem_nil
 ·rintro⟨hl,c⟩;exact⟨x,hl,by rw[if_pos c];simp⟩
theorem mvB_le (l:List Nat):(mvB M k l).length≤l.length:=by
 induction l with
 | nil=>exact Nat.le_refl _
 | cons a l ih =>
  show (mvB1 M k a ++ mvB M k l).length≤_;rw[List.length_append,List.length_cons];unfold mvB1;split <;> simp <;> omega
theorem mvB_len (l:List Nat):(mvB M k l).length≤(l.filter fun h=>decide ((M.nd h).1=k)).length:=by
 induction l with
 | nil=>exact Nat.le_refl _
 | cons a l ih =>
  show (mvB1 M k a ++ mvB M k l).length≤_;rw[List.length_append,List.filter_cons];unfold mvB1 bothB;by_cases c:(M.nd a).1=k
  ·rw[if_pos (decide_eq_true c)];split <;> simp <;> omega
  ·rw[if_neg (by simp[c]),if_neg (by simpa using c)];simpa using ih
end
theorem nd_alloc (w:World):(Instr.alloc 178 true (.tuple #[])).run Tryz.prog w = .ok (.pointer (some ⟨w.heap.size,0,none⟩)) (w.alloc (.cells #[.int .i64 0,.int .u32 0,.int .u32 0] 178)):=by
 go_simp
theorem nd_store {w:World}{b:Nat}{c:Nd}(h:w.rowIs b 178 3 (ndC c)) (d:Nd):∃w',(Instr.storeAt 178 (.pointer (some ⟨b,0,none⟩)) (ndV d)).run Tryz.prog w = .ok () w'∧w'.rowIs b 178 3 (ndC d)∧Rf.Turned b w w':=by
 obtain⟨b0,b1,b2⟩:=nd_row h;have y0:=h.frozen 0;have y1:=h.frozen 1;have y2:=h.frozen 2;refine⟨((w.setCell ⟨b,0,none⟩ (.int .i64 (d.1:Int))).setCell ⟨b,1,none⟩ (.int .u32 (d.2.1:Int))).setCell ⟨b,2,none⟩ (.int .u32 (d.2.2:Int)),?_,?_,?_⟩
 ·unfold ndV;go_simp
 ·refine(((h.set 0 (.int .i64 (d.1:Int))).set 1 (.int .u32 (d.2.1:Int))).set 2 (.int .u32 (d.2.2:Int))).congr fun i hi=>?_
  have:i=0∨i=1∨i=2:=by omega
  rcases this with rfl|rfl|rfl <;> rfl
 ·exact⟨rfl,rfl,rfl,by simp[World.setCell],fun j _ e=>((Below.heap_setCell _ _ _ _ e).trans (Below.heap_setCell _ _ _ _ e)).trans (Below.heap_setCell _ _ _ _ e)⟩
section
variable {w0 w w':World}{E S bn bl k last:Nat}{N:List (Nat×Nd)}{L:List (Nd×Nat)}{M:Mdl}{F:Nat→Prop}
theorem x_build {w:World}{o:Oper}{a:Act}{t:TypeId}{parts:Array (Nat×Operand)}{vs:Array (Nat×Value)}{v:Value}(hop:o.op = .build t parts) (hx:(parts.map fun p=>(p.1,a.eval p.2))=vs) (hb:(Instr.build t vs).run Tryz.prog w = .ok v w):(execOp a.eval o).run Tryz.prog w = .ok (.value v) w:=by
 subst hx;simp only[execOp,hop,Sem.run_bind];show (Result.andThen ((Instr.build t (parts.map fun p=>(p.1,a.eval p.2))).run Tryz.prog w) _)=_;rw[hb];rfl
theorem nd_build (lo hi:Nat) (w:World):(Instr.build 178 #[(1,.int .u32 (lo:Int)),(2,.int .u32 (hi:Int))]).run Tryz.prog w = .ok (ndV (0,lo,hi)) w:=by
 unfold ndV;go_simp
theorem own_lower {e:TypeId}{u:World}{B B' n cap:Nat}{ad:Option Addr}{V:Nat→Value}(h:OwnR e u B ad n cap V) (hB:B'≤B):OwnR e u B' ad n cap V:=by
 obtain⟨h1,h2⟩:=h;refine⟨h1,h2.imp id ?_⟩;rintro⟨g,cap',cur,a,b,c⟩;exact⟨g,cap',cur,a,Nat.le_trans hB b,c⟩
theorem take_snoc (l:List Nat){j:Nat}(h:j<l.length):l.take (j+1)=l.take j ++ [l.getD j 0]:=by
 rw[List.take_add_one,List.getD_eq_getElem?_getD,List.getElem?_eq_getElem h];rfl
theorem take_new (o:M.Ok){j:Nat}(h:j<M.hs.length):M.hs.getD j 0∈M.hs∧M.hs.getD j 0 ∉ M.hs.take j:=by
 rw[List.getD_eq_getElem?_getD,List.getElem?_eq_getElem h];refine⟨List.getElem_mem h,fun hm=>?_⟩;obtain⟨i,hi,e⟩:=List.mem_iff_getElem.1 hm;rw[List.length_take]at hi;have hp:=List.pairwise_iff_getElem.1 o.sorted i j (by omega) h (by omega);rw[List.getElem_take]at e;change M.hs[i]=M.hs[j]at e;omega
theorem mv_new (o:M.Ok){j x:Nat}(hx:x∈M.hs) (hn:x ∉ M.hs.take j) (d:Nd) (hd:d.1=k∨d=(k+1,(M.nd x).2)∧(M.nd x).1=k):x ∉ (mvN M k (M.hs.take j)).map (·.1)∧d ∉ (mvL M k (M.hs.take j)).map (·.1):=by
 refine⟨fun h=>?_,fun h=>?_⟩
 ·obtain⟨⟨y,e⟩,hm,rfl⟩:=List.mem_map.1 h;exact hn (mvN_mem.1 hm).1
 ·obtain⟨⟨e,y⟩,hm,rfl⟩:=List.mem_map.1 h;obtain⟨hy,a,b,c⟩:=mvL_mem.1 hm;change e=_ at c;rcases hd with hd|⟨hd,hk⟩
  ·change e.1=k at hd;rw[c]at hd;simp only at hd;omega
  ·change e=_ at hd;rw[c]at hd;have e2:(M.nd y).2=(M.nd x).2:=(Prod.mk.inj hd).2;have:=o.one y (List.mem_of_mem_take hy) x hx (Prod.ext (by rw[a,hk]) e2);exact hn (this ▸ hy)
set_option maxRecDepth 100000 in
set_option maxHeartbeats 4000000 in
theorem move_any (s:St w0 S F M) (h:Ex w0 w E S bn bl k [] [] last) (kn:k+1<M.n) :
  Calls Tryz.prog 103 #[.pointer (some ⟨E,0,none⟩)] w fun e w'=>∃ad cap,e = .returned (.slice ad (mvB M k M.hs).length cap)∧OwnR 36 w' w.heap.size ad (mvB M k M.hs).length cap (fun i=>.int .u32 ((mvB M k M.hs).getD i 0:Nat))∧Ex w0 w' E S bn bl k (mvN M k M.hs) (mvL M k M.hs) last∧Went (XF E bn bl) w w':=by
 have o:=s.ok;have n8:=o.le8;have oA:Aside M.Ok:=o;have sA:Aside (St w0 S F M):=s;have hlen:M.hs.length≤32768:=by have:=o.len;have:=s.room.2;omega
 have topA:Aside (∀x∈M.hs,x<4294967296):=fun x hx=>by have:=s.nodes (.inr hx);have:=s.room.2;omega
 have K1:=s_all (h.st s);have c0:=h.c0;have hA:Aside (Ex w0 w E S bn bl k [] [] last):=h;have ltA:Aside (∀b,XF E bn bl b→b<w.heap.size):=fun b hb=>by
  rcases hb with rfl|rfl|rfl
  ·exact h.blk.lt
  ·exact h.hN.lt
  ·exact h.hL.lt
 clear h s o;go_enter Tryz.func103,Tryz.ntmps103
 go_wp2_with (first
  | (go_at_call 62;refine K1.mono ?_;clear K1;rintro e w1 ⟨ad0,cap0,rfl,own0,b1⟩))
 have own0A:Aside (OwnR 36 w1 w.heap.size ad0 M.hs.length cap0 (fun i=>.int .u32 (M.hs.getD i 0:Nat))):=own0;have b1A:Aside (Below w.heap.size w w1):=b1;obtain⟨n,hn⟩:∃n,M.hs.length=n:=⟨_,rfl⟩
 have hnA:Aside (M.hs.length=n):=hn;rw[hn]at hlen ⊢;clear own0 b1 hn c0;go_loopg [13,3,5,6,36,52] n (fun g s13 s3 _ _ _ _ wr=>∃(j:Nat) (ad:Option Addr) (cap:Nat),j+g=n∧s13 = .int .i64 (j:Int)∧s3 = .slice ad (mvB M k (M.hs.take j)).length cap∧Aside (OwnR 36 wr w1.heap.size ad (mvB M k (M.hs.take j)).length cap (fun i=>.int .u32 ((mvB M k (M.hs.take j)).getD i 0:Nat)))∧Aside (Ex w0 wr E S bn bl k (mvN M k (M.hs.take j)) (mvL M k (M.hs.take j)) last)∧Aside (Went (XF E bn bl) w1 wr))
 case atStart=>exact⟨0,none,0,by omega,rfl,rfl,OwnR.nil _ _ _ _,hA.out.below b1A.out,Went.refl _ _⟩
 case round =>
  obtain⟨j,ad,cap,hj,rfl,rfl,hO,hE,hG⟩:=hrel;have hJ:Aside (j+gk=n):=hj;have hjn:j≤n:=by omega
  have hOA:Aside (OwnR 36 wr w1.heap.size ad (mvB M k (M.hs.take j)).length cap (fun i=>.int .u32 ((mvB M k (M.hs.take j)).getD i 0:Nat))):=hO;have hEA:Aside (Ex w0 wr E S bn bl k (mvN M k (M.hs.take j)) (mvL M k (M.hs.take j)) last):=hE;have hGA:Aside (Went (XF E bn bl) w1 wr):=hG;clear hj hO hE hG;by_cases hlt:j<n
  ·have hlt':(j:Int)<(n:Int):=by omega
   have hji:¬(n:Int)≤(j:Int):=by omega
   have ownr:OwnR 36 wr w.heap.size ad0 n cap0 (fun i=>.int .u32 (M.hs.getD i 0:Nat)):=by
    have:=own0A.out;rw[hnA.out]at this;exact this.kept fun b hb=>hGA.out.block b (this.block b hb).2 fun e=>by have:=ltA.out b e;have:=(own0A.out.block b hb).1;omega
   obtain⟨g,rfl⟩:=ownr.form (by omega);have cw:=ownr.cell hlt;clear ownr;obtain⟨xm,xn⟩:=take_new oA.out (show j<M.hs.length by rw[hnA.out];exact hlt);have tkA:Aside (M.hs.take (j+1)=M.hs.take j ++ [M.hs.getD j 0]):=take_snoc M.hs (by rw[hnA.out];exact hlt);generalize M.hs.getD j 0=x at cw xm xn tkA;have xl:=topA.out x xm;have hltA:Aside (j<n):=hlt;have xA:Aside (x∈M.hs∧x ∉ M.hs.take j):=⟨xm,xn⟩
   clear hlt xm xn;have KLo:∀u,Below wr.heap.size wr u→Calls Tryz.prog 64 #[.pointer (some ⟨S,0,none⟩),.int .u32 (x:Int)] u fun e w'=>e = .returned (.int .u32 ((M.nd x).2.1:Int))∧w'=u:=fun u b=>by
    have:=s_low ((hEA.out.below b).st sA.out) x xl;rwa [Mdl.lowN_in oA.out xA.out.1]at this
   have KHi:∀u,Below wr.heap.size wr u→Calls Tryz.prog 65 #[.pointer (some ⟨S,0,none⟩),.int .u32 (x:Int)] u fun e w'=>e = .returned (.int .u32 ((M.nd x).2.2:Int))∧w'=u:=fun u b=>by
    have:=s_high ((hEA.out.below b).st sA.out) x xl;rwa [Mdl.highN_in oA.out xA.out.1]at this
   have KE:∀u,Below wr.heap.size wr u→u.cell? ⟨E,0,none⟩=some (.pointer (some ⟨S,0,none⟩)):=fun u b=>(hEA.out.below b).c0
   have lvA:Aside (M.levI x=((M.nd x).1:Int)):=Mdl.levI_in oA.out xA.out.1;obtain⟨lo,hlo⟩:∃lo,(M.nd x).2.1=lo:=⟨_,rfl⟩
   obtain⟨hi,hhi⟩:∃hi,(M.nd x).2.2=hi:=⟨_,rfl⟩
   have loA:Aside ((M.nd x).2.1=lo∧(M.nd x).2.2=hi):=⟨hlo,hhi⟩
   rw[hlo]at KLo;rw[hhi]at KHi;clear hlo hhi;go_upto_region 5 with fail
   refine Rf.wp_region_box 178 (fun u b d=>u.rowIs b 178 3 (ndC d)) ndV _ (0,0,0) (fun _ _ _ _ q k=>q.of_block (k.block _ q.lt)) (fun w=>nd_new w (0,0,0)) nd_alloc (fun w b c0 c q=>nd_store q c) (0,lo,hi) 6 29 [(17,.pointer (some ⟨E,0,none⟩)),(18,.pointer (some ⟨E,0,none⟩)),(19,.pointer (some ⟨E,0,none⟩)),(20,.pointer (some ⟨S,0,none⟩)),(21,.int .u32 (x:Int)),(22,.int .u32 (lo:Int)),(23,.pointer (some ⟨E,0,none⟩)),(24,.pointer (some ⟨E,0,none⟩)),(25,.pointer (some ⟨E,0,none⟩)),(26,.pointer (some ⟨S,0,none⟩)),(27,.int .u32 (x:Int)),(28,.int .u32 (hi:Int)),(29,ndV (0,lo,hi))] [17,18,19,20,21,22,23,24,25,26,27,28,29] 84 (by kernel_rfl) (by kernel_rfl) rfl rfl (by decide) rfl (by decide) ?_ ⟨_,rfl,rfl,rfl,rfl⟩ ⟨_,rfl,rfl,rfl,rfl,⟨⟨12,.data⟩,by simp,rfl,rfl⟩,⟨⟨13,.data⟩,by simp,rfl,rfl⟩⟩ ?_
   ·intro i kk hkk;match i,hkk with
    | 0,hk =>
     obtain rfl:=Option.some.inj hk;refine⟨_,rfl,rfl,rfl,fun ac u hG hpre K hK=>?_⟩;have s0:ac.tmps.getD 0 undef=(.pointer (some ⟨E,0,none⟩):Value):=(hG.other 0 (by decide)).trans rfl;go_simp
     exact hK u (Below.refl _ _)
    | 1,hk =>
     obtain rfl:=Option.some.inj hk;refine⟨_,rfl,rfl,rfl,fun ac u hG hpre K hK=>?_⟩;have v0:ac.tmps.getD 17 undef=(.pointer (some ⟨E,0,none⟩):Value):=hpre ⟨0,.data⟩ (by simp) rfl _ rfl;go_simp
     exact hK u (Below.refl _ _)
    | 2,hk =>
     obtain rfl:=Option.some.inj hk;refine⟨_,rfl,rfl,rfl,fun ac u hG hpre K hK=>?_⟩;have v1:ac.tmps.getD 18 undef=(.pointer (some ⟨E,0,none⟩):Value):=hpre ⟨1,.data⟩ (by simp) rfl _ rfl;go_simp
     exact hK u (Below.refl _ _)
    | 3,hk =>
     obtain rfl:=Option.some.inj hk;refine⟨_,rfl,rfl,rfl,fun ac u hG hpre K hK=>?_⟩;have v2:ac.tmps.getD 19 undef=(.pointer (some ⟨E,0,none⟩):Value):=hpre ⟨2,.data⟩ (by simp) rfl _ rfl;have c0:=KE u hG.below;go_simp
     exact hK u (Below.refl _ _)
    | 4,hk =>
     obtain rfl:=Option.some.inj hk;refine⟨_,rfl,rfl,rfl,fun ac u hG hpre K hK=>?_⟩;have s5:ac.tmps.getD 5 undef=(.int .u32 (x:Int):Value):=(hG.other 5 (by decide)).trans rfl;go_simp
     exact hK u (Below.refl _ _)
    | 5,hk =>
     obtain rfl:=Option.some.inj hk;refine⟨_,rfl,rfl,rfl,fun ac u hG hpre K hK=>?_⟩;have v3:ac.tmps.getD 20 undef=(.pointer (some ⟨S,0,none⟩):Value):=hpre ⟨3,.data⟩ (by simp) rfl _ rfl;have v4:ac.tmps.getD 21 undef=(.int .u32 (x:Int):Value):=hpre ⟨4,.data⟩ (by simp) rfl _ rfl;go_simp
     refine(KLo u hG.below).mono ?_;rintro e w5 ⟨rfl,rfl⟩;exact hK _ (Below.refl _ _)
    | 6,hk =>
     obtain rfl:=Option.some.inj hk;refine⟨_,rfl,rfl,rfl,fun ac u hG hpre K hK=>?_⟩;have s0:ac.tmps.getD 0 undef=(.pointer (some ⟨E,0,none⟩):Value):=(hG.other 0 (by decide)).trans rfl;go_simp
     exact hK u (Below.refl _ _)
    | 7,hk =>
     obtain rfl:=Option.some.inj hk;refine⟨_,rfl,rfl,rfl,fun ac u hG hpre K hK=>?_⟩;have v6:ac.tmps.getD 23 undef=(.pointer (some ⟨E,0,none⟩):Value):=hpre ⟨6,.data⟩ (by simp) rfl _ rfl;go_simp
     exact hK u (Below.refl _ _)
    | 8,hk =>
     obtain rfl:=Option.some.inj hk;refine⟨_,rfl,rfl,rfl,fun ac u hG hpre K hK=>?_⟩;have v7:ac.tmps.getD 24 undef=(.pointer (some ⟨E,0,none⟩):Value):=hpre ⟨7,.data⟩ (by simp) rfl _ rfl;go_simp
     exact hK u (Below.refl _ _)
    | 9,hk =>
     obtain rfl:=Option.some.inj hk;refine⟨_,rfl,rfl,rfl,fun ac u hG hpre K hK=>?_⟩;have v8:ac.tmps.getD 25 undef=(.pointer (some ⟨E,0,none⟩):Value):=hpre ⟨8,.data⟩ (by simp) rfl _ rfl;have c0:=KE u hG.below;go_simp
     exact hK u (Below.refl _ _)
    | 10,hk =>
     obtain rfl:=Option.some.inj hk;refine⟨_,rfl,rfl,rfl,fun ac u hG hpre K hK=>?_⟩;have s5:ac.tmps.getD 5 undef=(.int .u32 (x:Int):Value):=(hG.other 5 (by decide)).trans rfl;go_simp
     exact hK u (Below.refl _ _)
    | 11,hk =>
     obtain rfl:=Option.some.inj hk;refine⟨_,rfl,rfl,rfl,fun ac u hG hpre K hK=>?_⟩;have v9:ac.tmps.getD 26 undef=(.pointer (some ⟨S,0,none⟩):Value):=hpre ⟨9,.data⟩ (by simp) rfl _ rfl;have v10:ac.tmps.getD 27 undef=(.int .u32 (x:Int):Value):=hpre ⟨10,.data⟩ (by simp) rfl _ rfl;go_simp
     refine(KHi u hG.below).mono ?_;rintro e w5 ⟨rfl,rfl⟩;exact hK _ (Below.refl _ _)
    | 12,hk =>
     obtain rfl:=Option.some.inj hk;refine⟨_,rfl,rfl,rfl,fun ac u hG hpre K hK=>?_⟩;have v5:ac.tmps.getD 22 undef=(.int .u32 (lo:Int):Value):=hpre ⟨5,.data⟩ (by simp) rfl _ rfl;have v11:ac.tmps.getD 28 undef=(.int .u32 (hi:Int):Value):=hpre ⟨11,.data⟩ (by simp) rfl _ rfl;exact Rf.wp_val rfl (x_build rfl (by simp only[List.map_toArray,List.map_cons,List.map_nil,show ac.eval (.tmp 22)=_ from v5,show ac.eval (.tmp 28)=_ from v11]) (nd_build lo hi u)) (hK u (Below.refl _ _))
    | i+13,hk=>simp at hk
   ·intro B w7 hB hBb T7;simp only[Rf.vfin,Act.put,List.setIfInBounds_toArray,List.set_cons_succ,List.set_cons_zero];have T7A:Aside (w7.rowIs B 178 3 (ndC (0,lo,hi))):=T7;have e7:Aside (Ex w0 w7 E S bn bl k (mvN M k (M.hs.take j)) (mvL M k (M.hs.take j)) last):=hEA.out.below hB;have o7:Aside (OwnR 36 w7 w1.heap.size ad (mvB M k (M.hs.take j)).length cap (fun i=>.int .u32 ((mvB M k (M.hs.take j)).getD i 0:Nat))):=hOA.out.kept fun b hb=>hB.block b (hOA.out.block b hb).2
    have g7:Aside (Went (XF E bn bl) w1 w7):=hGA.out.trans ⟨hB.os,hB.tape,hB.output,hB.size,fun b hb _=>hB.block b hb⟩;have nB:Aside (¬XF E bn bl B):=fun e=>by have:=ltA.out B e;have:=b1A.out.size;have:=hGA.out.size;omega
    have oB:Aside (∀b,At ad b→b≠B∧¬XF E bn bl b):=fun b hb=>⟨fun e=>by have:=(hOA.out.block b hb).2;omega,fun e=>by have:=ltA.out b e;have:=b1A.out.size;have:=(hOA.out.block b hb).1;omega⟩
    have KL:=s_level (e7.out.st sA.out) x xl;rw[lvA.out]at KL;have c0:=e7.out.c0;have c1:=e7.out.c1;obtain⟨b0,b1,b2⟩:=nd_row T7;simp only at b0 b1 b2;have y0:=T7.frozen 0;have hw:IntKind.i64.wrap ((k:Int)+1)=(k:Int)+1:=by rw[IntKind.wrap_i64];omega
    have hw2:wrap64 ((k:Int)+1)=(k:Int)+1:=by unfold wrap64;omega
    have hwj:IntKind.i64.wrap ((j:Int)+1)=(j:Int)+1:=by rw[IntKind.wrap_i64];omega
    have kp:∀(q lv:Nat) (N':List (Nat×Nd)) (L':List (Nd×Nat)) (u:World),Ex w0 u E S bn bl k N' L' last→Went (XF E bn bl) ((w7.drewN q).setCell ⟨B,0,none⟩ (.int .i64 (lv:Int))) u→mvN1 M k x=[(x,(lv,lo,hi))]→mvB1 M k x=[]→N'=mvN M k (M.hs.take j) ++ [(x,(lv,lo,hi))]→L'=mvL M k (M.hs.take j) ++ mvL1 M k x→OwnR 36 u w1.heap.size ad (mvB M k (M.hs.take (j+1))).length cap (fun i=>.int .u32 ((mvB M k (M.hs.take (j+1))).getD i 0:Nat))∧Ex w0 u E S bn bl k (mvN M k (M.hs.take (j+1))) (mvL M k (M.hs.take (j+1))) last∧Went (XF E bn bl) w1 u:=fun q lv N' L' u he hg e1 e2 e3 e4=>by
     rw[tkA.out,mvN_snoc,mvL_snoc,mvB_snoc,e1,e2,← e3,← e4,List.append_nil];refine⟨?_,he,?_⟩
     ·exact o7.out.kept fun b hb=>(hg.block b (by simpa[World.setCell]using(o7.out.block b hb).2) (oB.out b hb).2).trans (Below.heap_setCell _ _ _ _ (oB.out b hb).1)
     ·have:Went (XF E bn bl) w1 ((w7.drewN q).setCell ⟨B,0,none⟩ (.int .i64 (lv:Int))):=⟨g7.out.os,g7.out.tape,g7.out.output,by simpa[World.setCell]using g7.out.size,fun b hb hn=>(Below.heap_setCell _ _ _ _ (show b≠B by have:=hGA.out.size;omega)).trans (g7.out.block b hb hn)⟩
      exact this.trans hg
    have kpA:Aside (_):=kp;have e8:∀q lv:Nat,Ex w0 ((w7.drewN q).setCell ⟨B,0,none⟩ (.int .i64 (lv:Int))) E S bn bl k (mvN M k (M.hs.take j)) (mvL M k (M.hs.take j)) last:=fun q lv=>(e7.out.drewN q).kept (Went.set (S:=fun b=>b=B) rfl _ _) (fun b e=>by rw[e];have:=e7.out.base.size;have:=hEA.out.base.size;omega) (fun e=>nB.out (.inl e.symm)) (fun e=>nB.out (.inr (.inl e.symm))) (fun e=>nB.out (.inr (.inr e.symm)))
    have KP:Aside (∀q lv:Nat,(lv=k∨(lv,lo,hi)=(k+1,(M.nd x).2)∧(M.nd x).1=k)→Calls Tryz.prog 104 #[.pointer (some ⟨E,0,none⟩),.int .u32 (x:Int),.agg #[.int .i64 (lv:Int),.int .u32 (lo:Int),.int .u32 (hi:Int)]] ((w7.drewN q).setCell ⟨B,0,none⟩ (.int .i64 (lv:Int))) fun e w'=>e = .returned (.tuple #[])∧Ex w0 w' E S bn bl k (mvN M k (M.hs.take j) ++ [(x,(lv,lo,hi))]) (if lv=k+1 then mvL M k (M.hs.take j) ++ [((lv,lo,hi),x)]else mvL M k (M.hs.take j)) last∧Went (XF E bn bl) ((w7.drewN q).setCell ⟨B,0,none⟩ (.int .i64 (lv:Int))) w'):=fun q lv hlv=>by
     obtain⟨n1,n2⟩:=mv_new (k:=k) oA.out xA.out.1 xA.out.2 (lv,lo,hi) hlv;exact put_any (e8 q lv) x (lv,lo,hi) n1 n2 (by omega)
    clear kp e8 T7 hB hBb KLo KHi KE;by_cases cA:(M.nd x).1=k+1
    ·rw[cA,show ((k+1:Nat):Int)=(k:Int)+1 by omega]at KL;have cAA:Aside ((M.nd x).1=k+1):=cA;clear cA
     go_wp2_with (first
      | (go_at_call 63;refine KL.mono ?_;clear KL;rintro e w8 ⟨rfl,rfl⟩;have K2:Calls _ _ _ (w8.setCell ⟨B,0,none⟩ (.int .i64 (k:Int))) _:=KP.out 0 k (.inl rfl))
      | (go_at_call 104;refine K2.mono ?_;clear K2;rintro e w9 ⟨rfl,e9,g9⟩))
     go_roundg (gk-1)
     case measure=>have:=hJ.out;have:=hltA.out;omega
     case rel =>
      have:=hJ.out;have:=hltA.out;have eN:mvN1 M k x=[(x,(k,lo,hi))]:=by
       unfold mvN1;rw[if_pos cAA.out];exact congrArg (fun d=>[(x,(k,d))]) (Prod.ext loA.out.1 loA.out.2)
      have eB:mvB1 M k x=[]:=by unfold mvB1 bothB;rw[cAA.out];simp
      have eL:mvL1 M k x=[]:=by unfold mvL1;rw[if_neg (by rw[cAA.out];omega)]
      rw[if_neg (by omega)]at e9;obtain⟨r1,r2,r3⟩:=kpA.out 0 k _ _ _ e9 g9 eN eB rfl (by rw[eL,List.append_nil]);exact⟨j+1,ad,cap,by omega,by go_num,by rw[tkA.out,mvB_snoc,eB,List.append_nil],r1,r2,r3⟩
    ·by_cases cB:(M.nd x).1=k
     ·rw[cB]at KL;have cBA:Aside ((M.nd x).1=k):=cB;have ek:((k:Int) == (k:Int)+1)=false:=by rw[beq_eq_false_iff_ne];omega
      have nlo:=(oA.out.lo x xA.out.1).1;have nhi:=(oA.out.hi x xA.out.1).1;rw[loA.out.1]at nlo;rw[loA.out.2]at nhi;have KO1:Calls Tryz.prog 123 #[.pointer (some ⟨E,0,none⟩),.int .u32 (lo:Int)] w7 fun e w'=>e = .returned (.bool (decide (M.lev lo=k+1)))∧∃m,w'=w7.drewN m:=by
       have:=onLower_any sA.out e7.out kn lo (by have:=Mdl.isNode_lt oA.out nlo;omega);rwa [(cof_of oA.out kn nlo).1]at this
      have KO2:∀q,Calls Tryz.prog 123 #[.pointer (some ⟨E,0,none⟩),.int .u32 (hi:Int)] (w7.drewN q) fun e w'=>e = .returned (.bool (decide (M.lev hi=k+1)))∧∃m,w'=w7.drewN m:=fun q=>by
       have:=onLower_any sA.out (e7.out.drewN q) kn hi (by have:=Mdl.isNode_lt oA.out nhi;omega);rw[(cof_of oA.out kn nhi).1]at this;refine this.mono ?_;rintro e w' ⟨h1,m,rfl⟩;exact⟨h1,_,drewN_add _ _ _⟩
      have bvA:Aside (bothB M k x=(decide (M.lev lo=k+1) || decide (M.lev hi=k+1))):=by
       show bothB M k x=_;unfold bothB;rw[loA.out.1,loA.out.2,decide_eq_true cBA.out,Bool.true_and]
      clear nlo nhi cA cB;have b2L:(mvB M k (M.hs.take j)).length≤1000000:=by have:=mvB_le (M:=M) (k:=k) (M.hs.take j);rw[List.length_take]at this;omega
      have ap:Aside (∀(q:Nat) (g2 cap2:Nat) (w3:World),bothB M k x=true→OwnR 36 w3 w1.heap.size (some ⟨g2,0,none⟩) ((mvB M k (M.hs.take j)).length+1) cap2 (fun i=>if i=(mvB M k (M.hs.take j)).length then .int .u32 (x:Int)else .int .u32 ((mvB M k (M.hs.take j)).getD i 0:Nat))→Went (At ad) ((w7.drewN q).alloc (.cells #[.int .u32 (x:Int)] 36)) w3→(mvB M k (M.hs.take (j+1))).length=(mvB M k (M.hs.take j)).length+1∧OwnR 36 w3 w1.heap.size (some ⟨g2,0,none⟩) (mvB M k (M.hs.take (j+1))).length cap2 (fun i=>.int .u32 ((mvB M k (M.hs.take (j+1))).getD i 0:Nat))∧Ex w0 w3 E S bn bl k (mvN M k (M.hs.take (j+1))) (mvL M k (M.hs.take (j+1))) last∧Went (XF E bn bl) w1 w3):=fun q g2 cap2 w3 hb o3 b3=>by
       have eB:mvB1 M k x=[x]:=by unfold mvB1;rw[if_pos hb]
       have eN:mvN1 M k x=[]:=by unfold mvN1;rw[if_neg (by rw[cBA.out];omega),if_neg (by rw[hb];simp)]
       have eL:mvL1 M k x=[]:=by unfold mvL1;rw[if_neg (by rw[hb];simp)]
       rw[tkA.out,mvB_snoc,mvN_snoc,mvL_snoc,eB,eN,eL,List.append_nil,List.append_nil];refine⟨by simp,?_,?_,?_⟩
       ·rw[List.length_append];refine o3.congr fun i hi=>?_
        rw[getD_snoc];by_cases e:i=(mvB M k (M.hs.take j)).length
        ·rw[if_pos e,if_pos e]
        ·rw[if_neg e,if_neg e]
       ·refine((e7.out.drewN q).new _).kept b3 (fun b hb=>by have:=(o7.out.block b hb).1;have:=b1A.out.size;have:=hA.out.base.size;omega) (fun e=>(oB.out _ e).2 (.inl rfl)) (fun e=>(oB.out _ e).2 (.inr (.inl rfl))) (fun e=>(oB.out _ e).2 (.inr (.inr rfl)))
       ·have ga:Went (XF E bn bl) w1 ((w7.drewN q).alloc (.cells #[.int .u32 (x:Int)] 36)):=(went_drewN g7.out q).trans (Went.new _ _ _);refine⟨b3.os.trans ga.os,b3.tape.trans ga.tape,b3.output.trans ga.output,Nat.le_trans ga.size b3.size,fun b hb hn=>(b3.block b (Nat.lt_of_lt_of_le hb ga.size) fun e=>by have:=(o7.out.block b e).1;omega).trans (ga.block b hb hn)⟩
      by_cases v1:M.lev lo=k+1
      ·rw[decide_eq_true v1]at KO1;have hb:Aside (bothB M k x=true):=by show _=_;rw[bvA.out,decide_eq_true v1];rfl
       clear v1 KO2;have o8:∀q,OwnR 36 (w7.drewN q) w1.heap.size ad (mvB M k (M.hs.take j)).length cap (fun i=>.int .u32 ((mvB M k (M.hs.take j)).getD i 0:Nat)):=fun q=>o7.out.kept fun _ _=>rfl
       go_wp2_with (first
        | (go_at_call 63;refine KL.mono ?_;clear KL;rintro e w8 ⟨rfl,rfl⟩)
        | (go_at_call 123;refine KO1.mono ?_;clear KO1;rintro e w9 ⟨rfl,m1,rfl⟩)
        | (at_builtin;refine append_h ((o8 m1).new _) (w8.drewN m1).heap.size (x:Int) (heap_alloc_new _ _) b2L (by have:=g7.out.size;simp;exact Nat.le_succ_of_le this) rfl _ _ rfl rfl rfl ?_;intro g' cap' w3 o3 b3 p3))
       go_roundg (gk-1)
       case measure=>have:=hJ.out;have:=hltA.out;omega
       case rel =>
        have:=hJ.out;have:=hltA.out;obtain⟨a1,a2,a3,a4⟩:=ap.out _ _ _ _ hb.out o3 b3;exact⟨j+1,_,cap',by omega,by go_num,by rw[a1],a2,a3,a4⟩
      ·rw[decide_eq_false v1]at KO1;by_cases v2:M.lev hi=k+1
       ·rw[decide_eq_true v2]at KO2;have hb:Aside (bothB M k x=true):=by show _=_;rw[bvA.out,decide_eq_true v2,Bool.or_true]
        clear v1 v2;have o8:∀q,OwnR 36 (w7.drewN q) w1.heap.size ad (mvB M k (M.hs.take j)).length cap (fun i=>.int .u32 ((mvB M k (M.hs.take j)).getD i 0:Nat)):=fun q=>o7.out.kept fun _ _=>rfl
        go_wp2_with (first
         | (go_at_call 63;refine KL.mono ?_;clear KL;rintro e w8 ⟨rfl,rfl⟩)
         | (go_at_call 123;refine KO1.mono ?_;clear KO1;rintro e w9 ⟨rfl,m1,rfl⟩;have KO3:=KO2 m1;clear KO2)
         | (go_at_call 123;refine KO3.mono ?_;clear KO3;rintro e w9 ⟨rfl,m2,rfl⟩)
         | (at_builtin;refine append_h ((o8 m2).new _) (w8.drewN m2).heap.size (x:Int) (heap_alloc_new _ _) b2L (by have:=g7.out.size;simp;exact Nat.le_succ_of_le this) rfl _ _ rfl rfl rfl ?_;intro g' cap' w3 o3 b3 p3))
        go_roundg (gk-1)
        case measure=>have:=hJ.out;have:=hltA.out;omega
        case rel =>
         have:=hJ.out;have:=hltA.out;obtain⟨a1,a2,a3,a4⟩:=ap.out _ _ _ _ hb.out o3 b3;exact⟨j+1,_,cap',by omega,by go_num,by rw[a1],a2,a3,a4⟩
       ·rw[decide_eq_false v2]at KO2;have hb:Aside (bothB M k x=false):=by show _=_;rw[bvA.out,decide_eq_false v1,decide_eq_false v2];rfl
        clear v1 v2
        go_wp2_with (first
         | (go_at_call 63;refine KL.mono ?_;clear KL;rintro e w8 ⟨rfl,rfl⟩)
         | (go_at_call 123;refine KO1.mono ?_;clear KO1;rintro e w9 ⟨rfl,m1,rfl⟩;have KO3:=KO2 m1;clear KO2)
         | (go_at_call 123;refine KO3.mono ?_;clear KO3;rintro e w9 ⟨rfl,m2,rfl⟩;have K2:=KP.out m2 (k+1) (.inr ⟨Prod.ext rfl (Prod.ext loA.out.1.symm loA.out.2.symm),cBA.out⟩);rw[show ((k+1:Nat):Int)=(k:Int)+1 by omega]at K2)
         | (go_at_call 104;refine K2.mono ?_;clear K2;rintro e w9 ⟨rfl,e9,g9⟩))
        go_roundg (gk-1)
        case measure=>have:=hJ.out;have:=hltA.out;omega
        case rel =>
         have:=hJ.out;have:=hltA.out;have e2:(M.nd x).2=(lo,hi):=Prod.ext loA.out.1 loA.out.2;have eN:mvN1 M k x=[(x,(k+1,lo,hi))]:=by
          unfold mvN1;rw[if_neg (by rw[cBA.out];omega),if_pos ⟨cBA.out,hb.out⟩,e2]
         have eB:mvB1 M k x=[]:=by unfold mvB1;rw[hb.out];rfl
         have eL:mvL1 M k x=[((k+1,lo,hi),x)]:=by unfold mvL1;rw[if_pos ⟨cBA.out,hb.out⟩,e2]
         rw[if_pos trivial]at e9;rw[← show ((k+1:Nat):Int)=(k:Int)+1 by omega]at g9;obtain⟨r1,r2,r3⟩:=kpA.out m2 (k+1) _ _ _ e9 g9 eN eB rfl (by rw[eL]);exact⟨j+1,ad,cap,by omega,by go_num,by rw[tkA.out,mvB_snoc,eB,List.append_nil],r1,r2,r3⟩
     ·have cAA:Aside ((M.nd x).1≠k+1∧(M.nd x).1≠k):=⟨cA,cB⟩
      have ez1:(((M.nd x).1:Int) == (k:Int)+1)=false:=by rw[beq_eq_false_iff_ne];omega
      have ez2:(((M.nd x).1:Int) == (k:Int))=false:=by rw[beq_eq_false_iff_ne];omega
      clear cA cB;generalize ((M.nd x).1:Int)=z at KL ez1 ez2
      go_wp2_with (first
       | (go_at_call 63;refine KL.mono ?_;clear KL;rintro e w8 ⟨rfl,rfl⟩))
      go_roundg (gk-1)
      case measure=>have:=hJ.out;have:=hltA.out;omega
      case rel =>
       have:=hJ.out;have:=hltA.out;have eN:mvN1 M k x=[]:=by unfold mvN1;rw[if_neg cAA.out.1,if_neg fun e=>cAA.out.2 e.1]
       have eB:mvB1 M k x=[]:=by unfold mvB1 bothB;rw[decide_eq_false cAA.out.2];rfl
       have eL:mvL1 M k x=[]:=by unfold mvL1;rw[if_neg fun e=>cAA.out.2 e.1]
       refine⟨j+1,ad,cap,by omega,by go_num,by rw[tkA.out,mvB_snoc,eB,List.append_nil],?_,?_,g7.out⟩
       ·rw[tkA.out,mvB_snoc,eB,List.append_nil];exact o7.out
       ·rw[tkA.out,mvN_snoc,mvL_snoc,eN,eL,List.append_nil,List.append_nil];exact e7.out
  ·obtain rfl:j=n:=by omega
   have tk:M.hs.take j=M.hs:=List.take_of_length_le (by rw[hnA.out];exact Nat.le_refl _);rw[tk]at hOA hEA ⊢
   go_wp2_with fail
   go_ret
   exact⟨ad,cap,rfl,own_lower hOA.out b1A.out.size,hEA.out,⟨hGA.out.os.trans b1A.out.os,hGA.out.tape.trans b1A.out.tape,hGA.out.output.trans b1A.out.output,Nat.le_trans b1A.out.size hGA.out.size,fun b hb hn=>(hGA.out.block b (Nat.lt_of_lt_of_le hb b1A.out.size) hn).trans (b1A.out.block b hb)⟩⟩
end
end Go.Proofs.YtnnmdkaoiofabaaGreat.Sw
