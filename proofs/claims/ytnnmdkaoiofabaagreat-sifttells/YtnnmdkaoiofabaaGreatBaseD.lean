/-
  Slices that a call makes and appends to, of whatever one-cell values; they lie apart from tables, finders and cells. Maps from numbers to numbers: what is looked up, laid and struck, as a function of the key. An order in memory, and what the plain calls of package order do to it. What New, All and Copy of package order make. An order that lies at the head of a greater block: how many variables there are; a copy of it. Finders and acts of the cache driven to their ends. Stores of nodes without a program: what is a node, which function it is, that two nodes are one just if their functions are; a node more. A statement whose order Go leaves open, walked operation by operation: what each operation leaves behind, whatever came before it beyond what it waits for. What an argument that is a slice of integers gives the walks: empty, or its numbers cell by cell.
-/
import Derived.Test.YtnnmdkaoiofabaaGreatBaseA
import Derived.Deep.AppendLies
import Derived.Deep.AppendSrc
import Derived.Deep.Upon
import Derived.WalkKit
import Derived.Handy
import Derived.MapKept
import Derived.Carry
import Derived.Deep.OwnRows
import Derived.Deep.LoopGhost
import Derived.Deep.RegionWith
import Derived.BigRegion
import Derived.Laws.CopyOwn
import Derived.Laws.OwnMore
import Derived.OwnWalk
import Derived.Test.YtnnmdkaoiofabaaGreatBaseB
import Derived.Test.YtnnmdkaoiofabaaGreatBaseC
import Derived.Orders
import Derived.RegionTactic
import Derived.Test.YtnnmdkaoiofabaaGreatProg
import Derived.Test.YtnnmdkaoiofabaaGreatRows
import Derived.ProofKit
import Derived.OpenShut
namespace Go.Proofs.YtnnmdkaoiofabaaGreat
open Go Go.RowKit
def rowL (n:Nat) (V:Nat→Value):List Value:=(List.range n).map V
theorem rowL_length (n:Nat) (V:Nat→Value):(rowL n V).length=n:=by simp[rowL]
theorem rowL_succ (n:Nat) (V:Nat→Value):rowL (n+1) V=rowL n V ++ [V n]:=by simp[rowL,List.range_succ]
theorem rowL_get (n:Nat) (V:Nat→Value){i:Nat}(hi:i<n):(rowL n V)[i]? = some (V i):=by simp[rowL,hi]
theorem rowL_congr {n:Nat}{V U:Nat→Value}(h:∀i,i<n→V i=U i):rowL n V=rowL n U:=by
 unfold rowL;apply List.map_congr_left;intro i hi;exact h i (List.mem_range.1 hi)
def OwnR (e:TypeId) (w:World) (B:Nat) (ad:Option Addr) (n cap:Nat) (V:Nat→Value):Prop:=w.ownsRow B e 1 (.slice ad n cap) n (rowL n V)
def At (ad:Option Addr):Nat→Prop:=fun k=>∃a,ad=some a∧a.block=k
section
variable {e:TypeId}{w w':World}{B n cap:Nat}{ad:Option Addr}{V U:Nat→Value}
theorem OwnR.form (h:OwnR e w B ad n cap V) (hn:0<n):∃g,ad=some ⟨g,0,none⟩:=by
 obtain⟨g,cap',hv,hb,hlt⟩:=World.ownsRow.form h hn;exact⟨g,by injection hv⟩
theorem OwnR.cell {g:Nat}(h:OwnR e w B (some ⟨g,0,none⟩) n cap V){i:Nat}(hi:i<n):w.cell? ⟨g,i,none⟩=some (V i):=by
 rw[World.ownsRow.cellAt h i (by omega)];exact rowL_get n V hi
theorem OwnR.frozen {g:Nat}(h:OwnR e w B (some ⟨g,0,none⟩) n cap V) (j:Nat):w.frozen? ⟨g,j,none⟩=false:=World.ownsRow.frozenAt h j
theorem OwnR.nil (e:TypeId) (w:World) (B:Nat) (V:Nat→Value):OwnR e w B none 0 0 V:=World.ownsRow_nil w B e 1
theorem OwnR.block (h:OwnR e w B ad n cap V):∀k,At ad k→B≤k∧k<w.heap.size:=by
 rintro k ⟨a,rfl,rfl⟩;exact World.ownsRow.lt h a.block rfl
theorem OwnR.kind (h:OwnR e w B ad n cap V):∀k,At ad k→∃cur,w.heap[k]? = some (.cells cur e (0,0)):=by
 rintro k ⟨a,rfl,rfl⟩;rcases h.2 with ⟨h2,_⟩|⟨g,cap',cur,hv,hb,hh,_⟩
 ·cases h2
 ·injection hv with hv
  injection hv with hv
  subst hv;exact⟨cur,hh⟩
theorem OwnR.kept (h:OwnR e w B ad n cap V) (k:∀b,At ad b→w'.heap[b]? = w.heap[b]?):OwnR e w' B ad n cap V:=by
 obtain⟨h1,h2⟩:=h;refine⟨h1,?_⟩;rcases h2 with h2|⟨g,cap',cur,hv,hb,hh,r⟩
 ·exact .inl h2
 ·have had:ad=some ⟨g,0,none⟩:=by injection hv
  exact .inr ⟨g,cap',cur,hv,hb,(k g ⟨_,had,rfl⟩).trans hh,r⟩
theorem OwnR.congr (h:OwnR e w B ad n cap V) (k:∀i,i<n→V i=U i):OwnR e w B ad n cap U:=by
 unfold OwnR at *;rw[← rowL_congr k];exact h
theorem OwnR.below (h:OwnR e w B ad n cap V) (k:Below w.heap.size w w'):OwnR e w' B ad n cap V:=h.kept fun b hb=>k.block _ (h.block b hb).2
theorem OwnR.new (h:OwnR e w B ad n cap V) (o:Obj):OwnR e (w.alloc o) B ad n cap V:=h.kept fun b hb=>Below.heap_alloc _ _ _ (h.block b hb).2
theorem OwnR.drew (h:OwnR e w B ad n cap V):OwnR e w.drew B ad n cap V:=h
theorem OwnR.apart (h:OwnR e w B ad n cap V){k:Nat}{cur:Array Value}{e':TypeId}(hk:w.heap[k]? = some (.cells cur e' (0,0))) (he:e'≠e):¬At ad k:=by
 intro hA;obtain⟨cur',h'⟩:=h.kind k hA;rw[hk]at h';simp at h';exact he h'.2
theorem OwnR.set {g:Nat}(h:OwnR e w B (some ⟨g,0,none⟩) n cap V){k:Nat}(v:Value):OwnR e (w.setCell ⟨g,k,none⟩ v) B (some ⟨g,0,none⟩) n cap (fun i=>if i=k then v else V i):=by
 obtain⟨h1,h2⟩:=h;refine⟨by rw[rowL_length];omega,?_⟩;rcases h2 with ⟨h2,_⟩|⟨g',cap',cur,hv,hb,hh,q1,q2,q3,q4⟩
 ·cases h2
 ·injection hv with hv1 hv2 hv3
  injection hv1 with hv1
  injection hv1 with hv1
  subst hv1;subst hv3;refine .inr ⟨g,cap,cur.setIfInBounds k v,rfl,hb,by simp[World.setCell,Array.getElem?_modify,hh],q1,q2,by simp[q3],?_⟩;apply List.ext_getElem?;intro j;by_cases hj:j<n
  ·rw[rowL_get n _ hj,List.getElem?_take,if_pos (by omega),Array.getElem?_toList];by_cases hjk:j=k
   ·subst hjk;rw[if_pos rfl,Array.getElem?_setIfInBounds_self_of_lt (by omega)]
   ·rw[if_neg hjk,Array.getElem?_setIfInBounds_ne (by omega)]
    have:(cur.toList.take (n*1))[j]? = (rowL n V)[j]?:=by rw[q4]
    rw[rowL_get n _ hj,List.getElem?_take,if_pos (by omega),Array.getElem?_toList]at this;exact this
  ·rw[List.getElem?_eq_none (by rw[List.length_take];omega),List.getElem?_eq_none (by rw[rowL_length];omega)]
end
theorem append_row (t e:TypeId) (i:TypeInfo) (z:Value) (ht:Tryz.prog.underlying t=some (.slice e)) (hi:Tryz.prog.info? e=some i) (hz:i.zero=some z) (hsz:i.size=1) (by':Nat) (hby:i.bytes=by') (hb16:by'≤64) (hzc:z.cells.size=1)
  {w:World} {B n cap:Nat} {ad:Option Addr} {V:Nat→Value} (hown:OwnR e w B ad n cap V) (blk:Nat) (x:Value) (hx1:x.oneCell'=true) (hblk:w.heap[blk]? = some (.cells #[x] e (0,0))) (hn:n≤1000000) (hB:B≤w.heap.size)
  {ops:Array Oper} {rest:List Oper} {o:Oper} {a:Act} {Q:Exit→Act→World→Prop} (hgd:o.guard=none) (s y:Operand)
  (ho:o.op = .call { callee:=.builtin .append,args:=#[s,y],argTypes:=#[t,t] }) (hs:a.eval s = .slice ad n cap) (hx:a.eval y = .slice (some ⟨blk,0,none⟩) 1 1)
  (h:∀g cap' w',OwnR e w' B (some ⟨g,0,none⟩) (n+1) cap' (fun i=>if i=n then x else V i)→Went (At ad) w w'→(At ad g∨g=w.heap.size)→wpList Tryz.prog ops Q rest (a.put o.dst (.slice (some ⟨g,0,none⟩) (n+1) cap')) w') :
  wpList Tryz.prog ops Q (o :: rest) a w:=by
 have hob:∀k,some k=(Value.slice ad n cap).ownBlock→At ad k:=by
  intro k hk;cases ad with
  | none=>simp[Value.ownBlock]at hk
  | some a=>exact⟨a,rfl,by simpa[Value.ownBlock]using hk.symm⟩
 refine wpList_append_lies (P:=Tryz.prog) w hgd s y t ho B e i z 1 by' ht hi hz hsz hby hzc (by decide) (.slice ad n cap) n (rowL n V) hs hown ⟨blk,0,none⟩ 1 1 [x] hx rfl (World.news_of_block hblk) ?_ (by decide) ?_ ?_ hB w.heap.size rfl ?_
 ·intro u hu;simp only[List.mem_cons,List.not_mem_nil,or_false]at hu;subst hu;exact hx1
 ·simp only[maxLen];omega
 ·have h64:(n+1)*by'≤(n+1)*64:=Nat.mul_le_mul_left _ hb16;omega
 ·intro g cap' w' o1 o2 o3 o4;refine h g cap' w' ?_ ⟨o2.os,o2.tape,o2.output,o2.size,fun k hk hA=>o2.block k hk fun e=>hA (hob k e)⟩ (o3.elim (fun e=>.inl (hob g e.symm)) .inr);unfold OwnR;rw[rowL_succ];have e1:rowL n (fun i=>if i=n then x else V i)=rowL n V:=rowL_congr fun i hi=>if_neg (by omega)
  rw[e1];simp only[if_true];exact o1
theorem info22' : (Tryz.prog.info? 22).map (fun i=>(i.zero,i.size,i.bytes))=some (some (.int .u64 0),1,8):=by kernel_rfl
theorem append_u64 {w:World}{B n cap:Nat}{ad:Option Addr}{V:Nat→Value}{ops:Array Oper}{rest:List Oper}{o:Oper}{a:Act}{Q:Exit→Act→World→Prop}(hown:OwnR 22 w B ad n cap V) (blk:Nat) (p:Int) (hblk:w.heap[blk]? = some (.cells #[.int .u64 p] 22 (0,0))) (hn:n≤1000000) (hB:B≤w.heap.size)
  (hgd:o.guard=none) (s y:Operand)
  (ho:o.op = .call { callee:=.builtin .append,args:=#[s,y],argTypes:=#[90,90] }) (hs:a.eval s = .slice ad n cap) (hx:a.eval y = .slice (some ⟨blk,0,none⟩) 1 1)
  (h:∀g cap' w',OwnR 22 w' B (some ⟨g,0,none⟩) (n+1) cap' (fun i=>if i=n then .int .u64 p else V i)→Went (At ad) w w'→(At ad g∨g=w.heap.size)→wpList Tryz.prog ops Q rest (a.put o.dst (.slice (some ⟨g,0,none⟩) (n+1) cap')) w') :
  wpList Tryz.prog ops Q (o :: rest) a w:=by
 obtain⟨i,hi,hzz⟩:=Option.map_eq_some_iff.1 info22';simp only[Prod.mk.injEq]at hzz;obtain⟨hz,hs2,hb⟩:=hzz;exact append_row 90 22 i _ Tryz.underlying90 hi hz hs2 8 hb (by decide) (by kernel_rfl) hown blk (.int .u64 p) rfl hblk hn hB hgd s y ho hs hx h
theorem info36' : (Tryz.prog.info? 36).map (fun i=>(i.zero,i.size,i.bytes))=some (some (.int .u32 0),1,4):=by kernel_rfl
theorem append_h {w:World}{B n cap:Nat}{ad:Option Addr}{V:Nat→Value}{ops:Array Oper}{rest:List Oper}{o:Oper}{a:Act}{Q:Exit→Act→World→Prop}(hown:OwnR 36 w B ad n cap V) (blk:Nat) (p:Int) (hblk:w.heap[blk]? = some (.cells #[.int .u32 p] 36 (0,0))) (hn:n≤1000000) (hB:B≤w.heap.size)
  (hgd:o.guard=none) (s y:Operand)
  (ho:o.op = .call { callee:=.builtin .append,args:=#[s,y],argTypes:=#[32,32] }) (hs:a.eval s = .slice ad n cap) (hx:a.eval y = .slice (some ⟨blk,0,none⟩) 1 1)
  (h:∀g cap' w',OwnR 36 w' B (some ⟨g,0,none⟩) (n+1) cap' (fun i=>if i=n then .int .u32 p else V i)→Went (At ad) w w'→(At ad g∨g=w.heap.size)→wpList Tryz.prog ops Q rest (a.put o.dst (.slice (some ⟨g,0,none⟩) (n+1) cap')) w') :
  wpList Tryz.prog ops Q (o :: rest) a w:=by
 obtain⟨i,hi,hzz⟩:=Option.map_eq_some_iff.1 info36';simp only[Prod.mk.injEq]at hzz;obtain⟨hz,hs2,hb⟩:=hzz;exact append_row 32 36 i _ Tryz.underlying32 hi hz hs2 4 hb (by decide) (by kernel_rfl) hown blk (.int .u32 p) rfl hblk hn hB hgd s y ho hs hx h
end Go.Proofs.YtnnmdkaoiofabaaGreat
namespace Go.Proofs.YtnnmdkaoiofabaaGreat
open Go Go.RowKit
def look : List (Int×Int)→Int→Option Int
 | [],_=>none
 | p :: l,k=>if p.1=k then some p.2 else look l k
theorem look_none {k:Int}:∀{l:List (Int×Int)},look l k=none↔∀p∈l,p.1≠k
 | []=>by simp[look]
 | p :: l=>by
  have:=look_none (k:=k) (l:=l);by_cases h:p.1=k
  ·simp[look,h]
  ·simp[look,h,this]
theorem look_append (k:Int) (v:Int) (k':Int):∀(l:List (Int×Int)),look l k=none→look (l ++ [(k,v)]) k'=if k'=k then some v else look l k'
 | [],_=>by
  by_cases h:k'=k
  ·simp[look,h]
  ·have h':¬k=k':=fun e=>h e.symm
   simp[look,h,h']
 | p :: l,h=>by
  have hp:p.1≠k:=look_none.1 h p (by simp);have hl:look l k=none:=look_none.2 fun q hq=>look_none.1 h q (by simp[hq])
  have:=look_append k v k' l hl;by_cases e:p.1=k'
  ·have:k'≠k:=fun x=>hp (e.trans x)
   simp[look,e,this]
  ·simp[look,e,this]
theorem look_set (k v v0 k':Int):∀(l:List (Int×Int)) (j:Nat),(l.map (·.1)).Nodup→l[j]? = some (k,v0)→look (l.set j (k,v)) k'=if k'=k then some v else look l k'
 | [],j,_,h=>by simp at h
 | p :: l,0,_,h=>by
  obtain rfl:p=(k,v0):=by simpa using h
  by_cases e:k'=k
  ·simp[look,e]
  ·have e':¬k=k':=fun x=>e x.symm
   simp[look,e,e']
 | p :: l,j+1,hn,h=>by
  have h':l[j]? = some (k,v0):=by simpa using h
  have hn':(l.map (·.1)).Nodup:=(List.nodup_cons.1 (by simpa using hn)).2;have hp:p.1≠k:=fun e=>(List.nodup_cons.1 (show (p.1 :: l.map (·.1)).Nodup by simpa using hn)).1 (e ▸ List.mem_map.2 ⟨_,List.mem_of_getElem? h',rfl⟩)
  have:=look_set k v v0 k' l j hn' h';by_cases e:p.1=k'
  ·have:k'≠k:=fun x=>hp (e.trans x)
   simp[look,e,this]
  ·simp[look,e,this]
def pairV (p:Int×Int):Value×Value:=(.int .i64 p.1,.int .u32 p.2)
theorem find_spec (k:Int):∀(es:List MapEntry) (l:List (Int×Int)) (i:Nat),es.map (fun e=>(e.key,e.val))=l.map pairV →
  (Instr.findNow (.int .i64) (.int .i64 k) es i=some none∧look l k=none)∨∃(j:Nat) (v:Int),Instr.findNow (.int .i64) (.int .i64 k) es i=some (some (i+j,.int .u32 v))∧l[j]? = some (k,v)∧look l k=some v
 | [],l,i,h=>by
  cases l with
  | nil=>exact .inl ⟨rfl,rfl⟩
  | cons p l=>simp at h
 | e :: es,l,i,h=>by
  cases l with
  | nil=>simp at h
  | cons p l =>
   simp only[List.map_cons,List.cons.injEq,pairV,Prod.mk.injEq]at h;obtain⟨⟨h1,h2⟩,h3⟩:=h;by_cases c:p.1=k
   ·refine .inr ⟨0,p.2,?_,by simp[← c],by simp[look,c]⟩;simp[Instr.findNow,h1,h2,Instr.sameNow,c]
   ·have c':(k == p.1)=false:=by
     rw[beq_eq_false_iff_ne];exact fun x=>c x.symm
    rcases find_spec k es l (i+1) h3 with ⟨a,b⟩|⟨j,v,a,b,d⟩
    ·exact .inl ⟨by simp[Instr.findNow,h1,Instr.sameNow,c',a],by simp[look,c,b]⟩
    ·refine .inr ⟨j+1,v,?_,by simpa using b,by simp[look,c,d]⟩;simp[Instr.findNow,h1,Instr.sameNow,c',a];omega
structure Turned (b:Nat) (w w':World):Prop where
 os:w'.os=w.os
 tape:w'.tape=w.tape
 output:w'.output=w.output
 size:w'.heap.size=w.heap.size
 block:∀k,k≠b→w'.heap[k]? = w.heap[k]?
theorem heap_turn {w:World}{b:Nat}{o':Obj}:Turned b w { w with heap:=w.heap.setIfInBounds b o' }:=by
 refine⟨rfl,rfl,rfl,by simp,fun i hne=>?_⟩;simp[Array.getElem?_setIfInBounds_ne (fun e=>hne e.symm)]
theorem heap_now {w:World}{b:Nat}{o o':Obj}(hb:w.heap[b]? = some o):({ w with heap:=w.heap.setIfInBounds b o' }:World).heap[b]? = some o':=by
 have hlt:b<w.heap.size:=(Array.getElem?_eq_some_iff.1 hb).1;simp[hlt]
def IsMap (w:World) (b:Nat) (P:Int→Option Int):Prop:=
 ∃(es:Array MapEntry) (clock:Nat) (l:List (Int×Int)),w.heap[b]? = some (.map es clock)∧es.toList.map (fun e=>(e.key,e.val))=l.map pairV∧(l.map (·.1)).Nodup∧∀k,look l k=P k
theorem IsMap.lt {w:World}{b:Nat}{P:Int→Option Int}(h:IsMap w b P):b<w.heap.size:=by
 obtain⟨es,clock,l,h,_⟩:=h;exact(Array.getElem?_eq_some_iff.1 h).1
theorem IsMap.same {w u:World}{b:Nat}{P:Int→Option Int}(h:IsMap w b P) (e:u.heap[b]? = w.heap[b]?):IsMap u b P:=by
 obtain⟨es,clock,l,h,k⟩:=h;exact⟨es,clock,l,e.trans h,k⟩
theorem IsMap.fresh (w:World):IsMap (w.alloc (.map #[] 0)) w.heap.size (fun _=>none):=⟨#[],0,[],(MapKept.heap_alloc w _).1,rfl,by simp,fun _=>rfl⟩
def at1 {α:Type}(P:Int→α) (k:Int) (v:α):Int→α:=fun i=>if i=k then v else P i
theorem isKey (k:Int):MapKept.IsKey (.int .i64) (.int .i64 k):=by simp[MapKept.IsKey]
theorem zero3 (w:World):(zeroValue 36).run Tryz.prog w = .ok (.int .u32 0) w:=by kernel_rfl
theorem map_at {w:World}{b:Nat}{P:Int→Option Int}(h:IsMap w b P) (k:Int) :
  (Instr.lookup 87 (.map (some b)) (.int .i64 k) false).run Tryz.prog w = .ok (.int .u32 ((P k).getD 0)) w:=by
 obtain⟨es,clock,l,hb,h1,h2,h3⟩:=h;have hc:=MapKept.run_checkKey (w:=w) Tryz.underlying3 (isKey k) es.isEmpty 9999;rcases find_spec k es.toList l 0 h1 with ⟨hf,hn⟩|⟨j,v,hf,hj,hl⟩
 ·have hf':=MapKept.run_findKey (w:=w) Tryz.underlying3 hf;rw[h3 k]at hn;simp only[Instr.lookup,Sem.run_bind,run_underlying Tryz.underlying87,Result.andThen_ok,MapKept.run_getObj_map hb,Sem.run_pure,hc,hf',zero3,hn];rfl
 ·have hf':=MapKept.run_findKey (w:=w) Tryz.underlying3 hf;rw[h3 k]at hl;simp only[Instr.lookup,Sem.run_bind,run_underlying Tryz.underlying87,Result.andThen_ok,MapKept.run_getObj_map hb,Sem.run_pure,hc,hf',hl];rfl
theorem map_put {w:World}{b:Nat}{P:Int→Option Int}(h:IsMap w b P) (k v:Int) :
  ∃w',(Instr.mapUpdate 87 (.map (some b)) (.int .i64 k) (.int .u32 v)).run Tryz.prog w = .ok () w'∧IsMap w' b (at1 P k (some v))∧Turned b w w':=by
 obtain⟨es,clock,l,hb,h1,h2,h3⟩:=h;have hc:=MapKept.run_checkKey (w:=w) Tryz.underlying3 (isKey k) false 9999;rcases find_spec k es.toList l 0 h1 with ⟨hf,hn⟩|⟨j,u,hf,hj,hl⟩
 ·have hf':=MapKept.run_findKey (w:=w) Tryz.underlying3 hf;refine⟨{ w with heap:=w.heap.setIfInBounds b (.map (es.push { key:=.int .i64 k,val:=.int .u32 v,born:=clock }) (clock+1)) },?_,⟨_,_,l ++ [(k,v)],heap_now hb,?_,?_,?_⟩,heap_turn⟩
  ·simp only[Instr.mapUpdate,Sem.run_bind,run_underlying Tryz.underlying87,Result.andThen_ok,MapKept.run_getObj_map hb,hc,hf'];exact MapKept.run_setObj_map _ hb
  ·simp[h1,pairV]
  ·rw[List.map_append,List.nodup_append];refine⟨h2,by simp,fun a ha c hc'=>?_⟩;simp at hc';subst hc';obtain⟨p,hp,rfl⟩:=List.mem_map.1 ha;exact look_none.1 hn p hp
  ·intro k';rw[look_append k v k' l hn,h3 k'];rfl
 ·have hf':=MapKept.run_findKey (w:=w) Tryz.underlying3 hf;rw[Nat.zero_add]at hf';have hjk:(es[j]?).map (fun e=>(e.key,e.val))=some (pairV (k,u)):=by
   have h4:=congrArg (·[j]?) h1;simp only[List.getElem?_map,hj,Option.map_some]at h4;simpa using h4
  obtain⟨e,he,hek⟩:=Option.map_eq_some_iff.1 hjk;simp only[pairV,Prod.mk.injEq]at hek;have hks:=MapKept.run_keyThatStays (P:=Tryz.prog) (w:=w) (isKey k);refine⟨{ w with heap:=w.heap.setIfInBounds b (.map (es.modify j fun e=>{ e with key:=.int .i64 k,val:=.int .u32 v }) clock) },?_,⟨_,_,l.set j (k,v),heap_now hb,?_,?_,?_⟩,heap_turn⟩
  ·simp only[Instr.mapUpdate,Sem.run_bind,run_underlying Tryz.underlying87,Result.andThen_ok,MapKept.run_getObj_map hb,hc,hf',he,Option.map_some,Option.getD_some,hek.1,hks];exact MapKept.run_setObj_map _ hb
  ·rw[Array.toList_modify];apply List.ext_getElem?;intro i;have h4:=congrArg (·[i]?) h1;simp only[List.getElem?_map]at h4;simp only[List.getElem?_map,List.getElem?_modify,List.getElem?_set];by_cases e2:j=i
   ·subst e2;have hlt:j<l.length:=(List.getElem?_eq_some_iff.1 hj).1;have he2:es.toList[j]? = some e:=by simpa using he
    simp[hlt,he2,pairV]
   ·simp only[e2,if_false];rw[← h4];simp
  ·have:(l.set j (k,v)).map (·.1)=l.map (·.1):=by
    apply List.ext_getElem?;intro i;simp only[List.getElem?_map,List.getElem?_set];by_cases e2:j=i
    ·subst e2;have hlt:j<l.length:=(List.getElem?_eq_some_iff.1 hj).1;have hj':l[j]=(k,u):=Option.some.inj ((List.getElem?_eq_getElem hlt).symm.trans hj);simp[hlt,hj']
    ·simp[e2]
   rw[this];exact h2
  ·intro k';rw[look_set k v u k' l j h2 hj,h3 k'];rfl
end Go.Proofs.YtnnmdkaoiofabaaGreat
namespace Go.Proofs.YtnnmdkaoiofabaaGreat.Od
open Go Go.RowKit
def ordCell (n:Nat) (v l:Nat→Nat) (i:Nat):Value:=.int .i64 ((if i=0 then n else if i<9 then v (i-1)else l (i-9):Nat):Int)
def IsOrd (w:World) (P n:Nat) (v l:Nat→Nat):Prop:=w.rowIs P 83 17 (ordCell n v l)
def upd (f:Nat→Nat) (k x:Nat):Nat→Nat:=fun i=>if i=k then x else f i
theorem upd_same (f:Nat→Nat) (k x:Nat):upd f k x k=x:=by simp[upd]
theorem upd_other (f:Nat→Nat){k i:Nat}(x:Nat) (h:i≠k):upd f k x i=f i:=by simp[upd,h]
structure Moved (P:Nat) (w w':World):Prop where
 os:w'.os=w.os
 tape:w'.tape=w.tape
 output:w'.output=w.output
 size:w.heap.size≤w'.heap.size
 block:∀k,k<w.heap.size→k≠P→w'.heap[k]? = w.heap[k]?
theorem Moved.trans {P:Nat}{a b c:World}(h:Moved P a b) (k:Moved P b c):Moved P a c:=
 ⟨k.os.trans h.os,k.tape.trans h.tape,k.output.trans h.output,Nat.le_trans h.size k.size,fun i hi hp=>(k.block i (Nat.lt_of_lt_of_le hi h.size) hp).trans (h.block i hi hp)⟩
theorem Moved.below {P B:Nat}{w w':World}(h:Moved P w w') (hB:B≤w.heap.size) (hP:B≤P):Below B w w':=
 ⟨h.os,h.tape,h.output,h.size,fun k hk=>h.block k (by omega) (by omega)⟩
theorem Moved.set {P:Nat}(w:World) (o:Nat) (v:Value):Moved P w (w.setCell ⟨P,o,none⟩ v):=
 ⟨rfl,rfl,rfl,by simp[World.setCell],fun k _ hp=>Below.heap_setCell _ _ _ _ hp⟩
theorem Moved.of_below {P:Nat}{w w':World}(h:Below w.heap.size w w'):Moved P w w':=⟨h.os,h.tape,h.output,h.size,fun k hk _=>h.block k hk⟩
theorem Moved.undrew {P:Nat}{a b:World}(h:Moved P a.drew b):Moved P a b:=⟨h.os,h.tape,h.output,h.size,h.block⟩
namespace IsOrd
variable {w:World}{P n:Nat}{v l:Nat→Nat}
theorem lt (h:IsOrd w P n v l):P<w.heap.size:=World.rowIs.lt h
theorem cell0 (h:IsOrd w P n v l):w.cell? ⟨P,0,none⟩=some (.int .i64 (n:Int)):=World.rowIs.cell h (i:=0) (by omega)
theorem cellV (h:IsOrd w P n v l){i:Nat}(hi:i<8):w.cell? ⟨P,1+i,none⟩=some (.int .i64 (v i:Int)):=by
 rw[World.rowIs.cell h (i:=1+i) (by omega),ordCell,if_neg (by omega),if_pos (by omega),show 1+i-1=i by omega]
theorem cellL (h:IsOrd w P n v l){i:Nat}(hi:i<8):w.cell? ⟨P,9+i,none⟩=some (.int .i64 (l i:Int)):=by
 rw[World.rowIs.cell h (i:=9+i) (by omega),ordCell,if_neg (by omega),if_neg (by omega),show 9+i-9=i by omega]
theorem frozen (h:IsOrd w P n v l) (i:Nat):w.frozen? ⟨P,i,none⟩=false:=World.rowIs.frozen h i
theorem of_block {w':World}(h:IsOrd w P n v l) (e:w'.heap[P]? = w.heap[P]?):IsOrd w' P n v l:=World.rowIs.of_block h e
theorem below {w':World}(h:IsOrd w P n v l) (k:Below w.heap.size w w'):IsOrd w' P n v l:=h.of_block (k.block _ h.lt)
theorem drew (h:IsOrd w P n v l):IsOrd w.drew P n v l:=World.rowIs.drew h
theorem new (h:IsOrd w P n v l) (o:Obj):IsOrd (w.alloc o) P n v l:=World.rowIs.alloc h o
theorem setV (h:IsOrd w P n v l){k:Nat}(x:Nat) (hk:k<8):IsOrd (w.setCell ⟨P,1+k,none⟩ (.int .i64 (x:Int))) P n (upd v k x) l:=
 (World.rowIs.set h (1+k) _).congr fun j _=>by
  by_cases e:j=1+k
  ·subst e;show (if 1+k=1+k then _ else _)=_;rw[if_pos rfl,ordCell,if_neg (by omega),if_pos (by omega),show 1+k-1=k by omega,upd_same]
  ·simp only[if_neg e,ordCell];by_cases h0:j=0
   ·simp[h0]
   ·by_cases h9:j<9
    ·rw[if_neg h0,if_pos h9,if_neg h0,if_pos h9,upd_other _ _ (by omega)]
    ·rw[if_neg h0,if_neg h9,if_neg h0,if_neg h9]
theorem setL (h:IsOrd w P n v l){k:Nat}(x:Nat) (hk:k<8):IsOrd (w.setCell ⟨P,9+k,none⟩ (.int .i64 (x:Int))) P n v (upd l k x):=
 (World.rowIs.set h (9+k) _).congr fun j _=>by
  by_cases e:j=9+k
  ·subst e;show (if 9+k=9+k then _ else _)=_;rw[if_pos rfl,ordCell,if_neg (by omega),if_neg (by omega),show 9+k-9=k by omega,upd_same]
  ·simp only[if_neg e,ordCell];by_cases h0:j=0
   ·simp[h0]
   ·by_cases h9:j<9
    ·rw[if_neg h0,if_pos h9,if_neg h0,if_pos h9]
    ·rw[if_neg h0,if_neg h9,if_neg h0,if_neg h9,upd_other _ _ (by omega)]
end IsOrd
section
variable {w:World}{P n:Nat}{v l:Nat→Nat}
theorem has_in (h:IsOrd w P n v l) (i:Nat) (hi:i<n) :
  Calls Tryz.prog 79 #[.pointer (some ⟨P,0,none⟩),.int .i64 (i:Int)] w fun e w'=>e = .returned (.bool true)∧w'=w:=by
 have c0:=h.cell0;have hi':(i:Int)<(n:Int):=by omega
 go_enter Tryz.func79,Tryz.ntmps79
 go_wp2
 go_ret
 exact⟨rfl,rfl⟩
theorem has_out (h:IsOrd w P n v l) (i:Int) (hi:i<0∨(n:Int)≤i) :
  Calls Tryz.prog 79 #[.pointer (some ⟨P,0,none⟩),.int .i64 i] w fun e w'=>e = .returned (.bool false)∧w'=w:=by
 have c0:=h.cell0;by_cases h0:i<0
 ·have hd:decide (0≤i)=false:=by simp;omega
  clear hi;go_enter Tryz.func79,Tryz.ntmps79
  go_wp2
  go_ret
  exact⟨rfl,rfl⟩
 ·have hd:decide (0≤i)=true:=by simp;omega
  have hd2:decide (i<(n:Int))=false:=by simp;omega
  clear hi;go_enter Tryz.func79,Tryz.ntmps79
  go_wp2
  go_ret
  exact⟨rfl,rfl⟩
theorem var_in (h:IsOrd w P n v l) (hn:n≤8) (i:Nat) (hi:i<n) :
  Calls Tryz.prog 48 #[.pointer (some ⟨P,0,none⟩),.int .i64 (i:Int)] w fun e w'=>e = .returned (.int .i64 (v i:Int))∧w'=w:=by
 have c0:=h.cellV (i:=i) (by omega);have hi':(i:Int)<8:=by omega
 go_enter Tryz.func48,Tryz.ntmps48
 go_wp2_with (first
  | (go_at_call 79;refine(has_in h i hi).mono ?_;rintro e w' ⟨rfl,rfl⟩))
 go_ret
 exact⟨rfl,rfl⟩
theorem level_in (h:IsOrd w P n v l) (hn:n≤8) (i:Nat) (hi:i<n) :
  Calls Tryz.prog 43 #[.pointer (some ⟨P,0,none⟩),.int .i64 (i:Int)] w fun e w'=>e = .returned (.int .i64 (l i:Int))∧w'=w:=by
 have c0:=h.cellL (i:=i) (by omega);have hi':(i:Int)<8:=by omega
 go_enter Tryz.func43,Tryz.ntmps43
 go_wp2_with (first
  | (go_at_call 79;refine(has_in h i hi).mono ?_;rintro e w' ⟨rfl,rfl⟩))
 go_ret
 exact⟨rfl,rfl⟩
theorem put_any (h:IsOrd w P n v l) (k x:Nat) (hk:k<8) (hx:x<8) :
  Calls Tryz.prog 75 #[.pointer (some ⟨P,0,none⟩),.int .i64 (k:Int),.int .i64 (x:Int)] w fun e w'=>e = .returned (.tuple #[])∧IsOrd w' P n (upd v k x) (upd l x k)∧Moved P w w':=by
 have c0:=h.cellV hk;have f0:=h.frozen (1+k);have h1:=h.setV x hk;have c1:=h1.cellL hx;have f1:=h1.frozen (9+x);have h2:=h1.setL k hx;have hk':(k:Int)<8:=by omega
 have hx':(x:Int)<8:=by omega
 have hm:Moved P w ((w.setCell ⟨P,1+k,none⟩ (.int .i64 (x:Int))).setCell ⟨P,9+x,none⟩ (.int .i64 (k:Int))):=(Moved.set _ _ _).trans (Moved.set _ _ _);go_enter Tryz.func75,Tryz.ntmps75
 go_wp2
 go_end0
 exact⟨rfl,h2,hm⟩
def swV (v:Nat→Nat) (k:Nat):Nat→Nat:=upd (upd v k (v (k+1))) (k+1) (v k)
def swL (v l:Nat→Nat) (k:Nat):Nat→Nat:=upd (upd l (v (k+1)) k) (v k) (k+1)
theorem swap_in (h:IsOrd w P n v l) (hn:n≤8) (k:Nat) (hk:k+1<n) (h8:∀i,i<n→v i<n) :
  Calls Tryz.prog 80 #[.pointer (some ⟨P,0,none⟩),.int .i64 (k:Int)] w fun e w'=>e = .returned (.int .i64 0)∧IsOrd w' P n (swV v k) (swL v l k)∧Moved P w w':=by
 have c0:=h.cellV (i:=k) (by omega);have c1:=h.cellV (i:=k+1) (by omega);have b0:=h8 k (by omega);have b1:=h8 (k+1) (by omega);have hk':(k:Int)+1<8:=by omega
 have hk'':(k:Int)<8:=by omega
 have H1:=has_in h k (by omega);have H2:=has_in h (k+1) (by omega);have hs:Aside (((k+1:Nat):Int)=(k:Int)+1):=by simp[Aside]
 rw[hs.out]at H2;have e1:Aside (swV v k=upd (upd v k (v (k+1))) (k+1) (v k)):=rfl;have e2:Aside (swL v l k=upd (upd l (v (k+1)) k) (v k) (k+1)):=rfl;generalize v k=x at c0 b0 e1 e2;generalize v (k+1)=y at c1 b1 e1 e2;go_enter Tryz.func80,Tryz.ntmps80
 go_wp2_with (first
  | (go_at_call 79;refine H1.mono ?_;clear H1;rintro e w' ⟨rfl,rfl⟩)
  | (go_at_call 79;refine H2.mono ?_;clear H2;rintro e w' ⟨rfl,rfl⟩))
 go_region
 have h':=h.drew;have P1:=put_any h' k y (by omega) (by omega)
 go_wp2_with (first
  | (go_at_call 75;refine P1.mono ?_;clear P1;rintro e w1 ⟨rfl,h1,m1⟩;have P2:=put_any h1 (k+1) x (by omega) (by omega);rw[hs.out]at P2)
  | (go_at_call 75;refine P2.mono ?_;clear P2;rintro e w2 ⟨rfl,h2,m2⟩))
 go_ret
 rw[e1.out,e2.out];exact⟨rfl,h2,(m1.trans m2).undrew⟩
end
end Go.Proofs.YtnnmdkaoiofabaaGreat.Od
namespace Go.Proofs.YtnnmdkaoiofabaaGreat.Od
open Go Go.RowKit
def idn (n:Nat):Nat→Nat:=fun i=>if i<n then i else 0
theorem idn_upd (j:Nat):upd (idn j) j j=idn (j+1):=by
 funext i;simp only[upd,idn];by_cases h:i=j
 ·subst h;simp
 ·rw[if_neg h];by_cases h2:i<j
  ·rw[if_pos h2,if_pos (by omega)]
  ·rw[if_neg h2,if_neg (by omega)]
def heldN (x:Int):Nat:=if x<1 then 1 else if 8<x then 8 else x.toNat
theorem heldN_le (x:Int):1≤heldN x∧heldN x≤8:=by
 unfold heldN;split
 ·omega
 ·split <;> omega
theorem new_any (x:Int) (w:World) :
  Calls Tryz.prog 39 #[.int .i64 x] w fun e w'=>e = .returned (.pointer (some ⟨w.heap.size,0,none⟩))∧IsOrd w' w.heap.size (heldN x) (idn (heldN x)) (idn (heldN x))∧Below w.heap.size w w':=by
 obtain⟨y,hy⟩:∃y:Int,(if 1 > x then 1 else x)=y:=⟨_,rfl⟩
 obtain⟨n,hn⟩:∃n:Nat,heldN x=n:=⟨_,rfl⟩
 have hb:=heldN_le x;rw[hn]at hb ⊢;have hmin:(if 8<y then 8 else y)=(n:Int):=by
  rw[← hy,← hn];unfold heldN;by_cases h1:x<1
  ·rw[if_pos (show (1:Int) > x from h1),if_pos h1,if_neg (by omega)];rfl
  ·rw[if_neg (show ¬(1:Int) > x from h1),if_neg h1];split
   ·rfl
   ·omega
 clear hn;go_enter Tryz.func39,Tryz.ntmps39
 go_wp2
 go_loopg [14] n (fun g si wr=>∃j:Nat,j+g=n∧si = .int .i64 (j:Int)∧IsOrd wr w.heap.size n (idn j) (idn j)∧Below w.heap.size w wr)
 case atStart =>
  refine⟨0,by omega,rfl,?_,(Below.refl _ w).alloc (Nat.le_refl _) _⟩;refine World.rowIs_alloc w _ 83 _ fun i hi=>?_
  have hi':i<17:=hi
  have:i=0∨i=1∨i=2∨i=3∨i=4∨i=5∨i=6∨i=7∨i=8∨i=9∨i=10∨i=11∨i=12∨i=13∨i=14∨i=15∨i=16:=by omega
  rcases this with rfl|rfl|rfl|rfl|rfl|rfl|rfl|rfl|rfl|rfl|rfl|rfl|rfl|rfl|rfl|rfl|rfl <;> rfl
 case round =>
  obtain⟨j,hj,rfl,h,hbl⟩:=hrel;have hJ:Aside (j+gk=n):=hj;by_cases hlt:j<n
  ·have hlt':(j:Int)<(n:Int):=by omega
   have P1:=put_any h j j (by omega) (by omega);clear hj
   go_wp2_with (go_at_call 75;refine P1.mono ?_;clear P1;rintro e w1 ⟨rfl,h1,m1⟩)
   go_roundg (gk-1)
   case measure=>have:=hJ.out;omega
   case rel =>
    have hj:=hJ.out;rw[idn_upd]at h1;exact⟨j+1,by omega,by go_num,h1,hbl.trans (m1.below hbl.size (Nat.le_refl _))⟩
  ·obtain rfl:j=n:=by omega
   clear hj
   go_wp2
   go_ret
   exact⟨rfl,h,hbl⟩
theorem copy_vars {w:World}{P n g:Nat}{v l:Nat→Nat}(h:IsOrd w P n v l) (hn:n≤8) (hm:w.heap[g]? = some (.cells (madeCells #[.int .i64 0] n) 3 (0,0))) :
  ∃w',(Builtin.copy_ #[42,42] 3 #[.slice (some ⟨g,0,none⟩) n n,.slice (some ⟨P,1,none⟩) 8 8]).run Tryz.prog w = .ok (goInt n) w'∧w'.rowIs g 3 n (fun i=>.int .i64 (v i:Int))∧Moved g w w':=by
 have hcs:((List.range n).map fun i=>Value.int .i64 (v i:Int)).length=n:=by simp
 have hrun:=run_copy_row (P:=Tryz.prog) w 42 42 3 3 g 0 n n ⟨P,1,none⟩ 8 8 (madeCells #[.int .i64 0] n) 3 ((List.range n).map fun i=>Value.int .i64 (v i:Int)) Tryz.underlying42 (by kernel_rfl) hm (by rw[hcs];simp[Nat.min_def];omega) (fun j u hu=>by
   have hj:j<n:=by
    have:=(List.getElem?_eq_some_iff.1 hu).1;simpa using this
   rw[List.getElem?_map,List.getElem?_range hj]at hu;have hu':Value.int .i64 (v j:Int)=u:=by simpa using hu
   rw[← hu']
   have:(⟨P,1,none⟩:Addr).add j=⟨P,1+j,none⟩:=by unfold Addr.add;split <;> simp_all
   rw[this];exact h.cellV (by omega)) (by rw[hcs,size_madeCells];omega) (fun u hu=>by
   obtain⟨i,_,rfl⟩:=List.mem_map.1 hu;rfl)
 rw[hcs]at hrun;refine⟨_,hrun,?_,⟨rfl,rfl,rfl,by simp[World.setRow],fun k _ hk=>setRow_other w g k _ hk⟩⟩;refine⟨_,setRow_heap w g _ _ 3 _ hm,?_,fun i hi=>?_⟩
 ·simp[size_madeCells]
 ·rw[List.take_zero,List.nil_append,List.getElem?_toArray,List.getElem?_append_left (by rw[hcs];exact hi),List.getElem?_map,List.getElem?_range hi];rfl
theorem info3 : (Tryz.prog.info? 3).map (fun i=>(i.zero,i.size,i.bytes))=some (some (.int .i64 0),1,8):=by kernel_rfl
theorem make_ints (n:Nat) (hn:n≤1000) (w:World) :
  (Instr.makeSlice 42 (.int .i64 (n:Int)) (.int .i64 (n:Int))).run Tryz.prog w = .ok (.slice (some ⟨w.heap.size,0,none⟩) n n) (w.alloc (.cells (madeCells #[.int .i64 0] n) 3)):=by
 obtain⟨i,hi,hz,hs,hb⟩:=info_parts info3;exact run_make_row 42 3 i _ Tryz.underlying42 hi hz hs rfl .i64 .i64 n (by rw[hb];omega) (by omega) w
theorem all_any {w:World}{P n:Nat}{v l:Nat→Nat}(h:IsOrd w P n v l) (hn:n≤8) :
  Calls Tryz.prog 15 #[.pointer (some ⟨P,0,none⟩)] w fun e w'=>e = .returned (.slice (some ⟨w.heap.size,0,none⟩) n n)∧w'.rowIs w.heap.size 3 n (fun i=>.int .i64 (v i:Int))∧Below w.heap.size w w':=by
 have c0:=h.cell0;have hmk:=make_ints n (by omega) w;obtain⟨w1,hrun,r1,m1⟩:=copy_vars (h.new (.cells (madeCells #[.int .i64 0] n) 3)) hn (heap_alloc_new w (.cells (madeCells #[.int .i64 0] n) 3));go_enter Tryz.func15,Tryz.ntmps15
 go_wp2
 go_ret
 exact⟨rfl,r1,((Below.refl _ w).alloc (Nat.le_refl _) _).trans (m1.below (by simp) (Nat.le_refl _))⟩
end Go.Proofs.YtnnmdkaoiofabaaGreat.Od
namespace Go.Proofs.YtnnmdkaoiofabaaGreat.Od
open Go Go.RowKit
theorem run_loadVar_cells {P:Program}(w:World) (g o:Nat) (ty:TypeId) (cs:Array Value) (d:TypeDesc) (hc:∀j u,cs.toList[j]? = some u→w.cell? ⟨g,o+j,none⟩=some u)
  (hu:P.underlying ty=some d) (hd:(match d with | .struct _ | .array _ _=>true|_=>false)=true) (hi:(P.info? ty).map (·.size)=some cs.size) :
  (loadVar ty ⟨g,o,none⟩).run P w = .ok (.agg cs) w:=by
 have hl:(loadCells ⟨g,o,none⟩ cs.toList.length).run P w = .ok cs.toList.toArray w:=
  run_loadCells_list (P:=P) w ⟨g,o,none⟩ cs.toList (fun j v hv=>by
   have hadd:(⟨g,o,none⟩:Addr).add j=⟨g,o+j,none⟩:=by unfold Addr.add;split <;> simp_all
   rw[hadd];exact hc j v hv)
 cases hq:P.info? ty with
 | none=>simp[hq]at hi
 | some i =>
  have hs:i.size=cs.size:=by simpa[hq]using hi
  have hagg:(isAgg ty).run P w = .ok true w:=by
   unfold isAgg;rw[Sem.run_bind,run_underlying hu w];cases d <;> simp_all
  simp only[Array.length_toList,Array.toArray_toList]at hl;simp[loadVar,Sem.run_bind,hagg,sizeOf,typeInfo,hq,hs,hl]
theorem wp_load_cells {P:Program}{o:Oper}{a:Act}{w:World}{K:Act→World→Prop}{Q:Exit→Act→World→Prop}(ty:TypeId) (x:Operand) (ho:o.op = .load ty x)
  (g q:Nat) (hx:a.eval x = .pointer (some ⟨g,q,none⟩)) (cs:Array Value) (d:TypeDesc) (hc:∀j u,cs.toList[j]? = some u→w.cell? ⟨g,q+j,none⟩=some u)
  (hu:P.underlying ty=some d) (hd:(match d with | .struct _ | .array _ _=>true|_=>false)=true) (hi:(P.info? ty).map (·.size)=some cs.size)
  (h:K (a.put o.dst (.agg cs)) w):o.wp P a w K Q:=by
 unfold Oper.wp execOp;simp only[ho,hx,Instr.loadAt,Instr.sureAddr,Sem.run_bind,Sem.run_pure,Result.andThen_ok,run_loadVar_cells w g q ty cs d hc hu hd hi];exact h
theorem wpList_load_cells {P:Program}{ops:Array Oper}{rest:List Oper}{o:Oper}{a:Act}{w:World}{Q:Exit→Act→World→Prop}(hgd:o.guard=none) (ty:TypeId) (x:Operand) (ho:o.op = .load ty x)
  (g q:Nat) (hx:a.eval x = .pointer (some ⟨g,q,none⟩)) (cs:Array Value) (d:TypeDesc) (hc:∀j u,cs.toList[j]? = some u→w.cell? ⟨g,q+j,none⟩=some u)
  (hu:P.underlying ty=some d) (hd:(match d with | .struct _ | .array _ _=>true|_=>false)=true) (hi:(P.info? ty).map (·.size)=some cs.size)
  (h:wpList P ops Q rest (a.put o.dst (.agg cs)) w):wpList P ops Q (o :: rest) a w:=
 wpList_plain hgd fun _ hK=>wp_load_cells ty x ho g q hx cs d hc hu hd hi (hK _ _ h)
section
variable {w:World}{P n:Nat}{v l:Nat→Nat}
theorem slen_any (h:w.cell? ⟨P,0,none⟩=some (.int .i64 (n:Int))) :
  Calls Tryz.prog 90 #[.pointer (some ⟨P,0,none⟩)] w fun e w'=>e = .returned (.int .i64 (n:Int))∧w'=w:=by
 go_enter Tryz.func90,Tryz.ntmps90
 go_wp2
 go_ret
 exact⟨rfl,rfl⟩
theorem ord_row (n:Nat) (v l:Nat→Nat):∃c:Array Value,c.size=17∧(∀i,i<17→c[i]? = some (ordCell n v l i))∧c.all (·.oneCell')=true:=by
 refine⟨((List.range 17).map (ordCell n v l)).toArray,by simp,fun i hi=>by simp[hi],?_⟩;rw[Array.all_eq_true];intro i hi;simp[ordCell,Value.oneCell']
theorem scopy_any (h:∀i,i<17→w.cell? ⟨P,i,none⟩=some (ordCell n v l i)) :
  Calls Tryz.prog 45 #[.pointer (some ⟨P,0,none⟩)] w fun e w'=>e = .returned (.pointer (some ⟨w.heap.size,0,none⟩))∧IsOrd w' w.heap.size n v l∧Below w.heap.size w w':=by
 obtain⟨c,hs,hc,h1⟩:=ord_row n v l;have hC:Aside (c.size=17):=hs;have hA:Aside (c.all (·.oneCell')=true):=h1;have hD:Aside (∀j u,c.toList[j]? = some u→w.cell? ⟨P,0+j,none⟩=some u):=fun j u hu=>by
  have hj:j<17:=by
   have:=(List.getElem?_eq_some_iff.1 hu).1;simp[hs]at this;exact this
  rw[Nat.zero_add,h j hj,← hc j hj];simpa using hu
 clear hs h1 h;go_enter Tryz.func45,Tryz.ntmps45
 go_wp2_with (first
  | refine wpList_load_cells rfl 83 (.tmp 5) rfl P 0 rfl c _ hD.out Tryz.underlying83 rfl (by rw[hC.out];kernel_rfl) ?_
  | refine wpList_store_row rfl 83 (.tmp 3) (.tmp 6) rfl w.heap.size c rfl rfl 83 _ (heap_alloc_new w _) (by rw[hC.out];kernel_rfl) (by rw[hC.out];rfl) hA.out ?_)
 go_ret
 refine⟨rfl,⟨c,setRow_heap _ _ _ _ 83 _ (heap_alloc_new w _),hC.out,hc⟩,?_⟩;exact((Below.refl _ w).alloc (Nat.le_refl _) _).trans ⟨rfl,rfl,rfl,by simp[World.setRow],fun k hk=>setRow_other _ _ k _ (by omega)⟩
end
end Go.Proofs.YtnnmdkaoiofabaaGreat.Od
namespace Go.Proofs.YtnnmdkaoiofabaaGreat
open Go Go.RowKit
section
variable {w w':World}{P R N T base n F A:Nat}{c:Nat→Int}{ops fails:Int}
theorem drive_find {S:Tb.Fd}{t0 t:Nat→Int}(h:Tb.Sys w P R N T base n c ops fails) (k:Tb.IsFd w F T S) (ht:∀i,c (base+i)=t i) (hi:Tb.FI n t S) (hg:Tb.Good n t) (so:Tb.Solo n t0 t S) :
  Calls Tryz.prog 142 #[.func (.func 143) #[.pointer (some ⟨F,0,none⟩)] #[]] w fun e w'=>e = .returned (.tuple #[])∧∃(c':Nat→Int) (o' f':Int) (t':Nat→Int) (S':Tb.Fd),Tb.Sys w' P R N T base n c' o' f'∧(∀i,c' (base+i)=t' i)∧(∀j,j<base∨base+n≤j→c' j=c j)∧Tb.IsFd w' F T S'∧S'.st=0∧S'.key=S.key∧Tb.FI n t' S'∧Tb.Good n t'∧Tb.Solo n t0 t' S'∧Went (Tb.Foot P R F) w w':=by
 obtain⟨key,hkey⟩:∃key,S.key=key:=⟨_,rfl⟩
 rw[hkey];go_enter Tryz.func142,Tryz.ntmps142
 go_wp2_with fail
 go_loopg [2] (S.mu+1) (fun g s2 wr=>∃(c':Nat→Int) (o' f':Int) (t':Nat→Int) (S':Tb.Fd),S'.mu+1≤g∧Tb.Sys wr P R N T base n c' o' f'∧(∀i,c' (base+i)=t' i)∧(∀j,j<base∨base+n≤j→c' j=c j)∧Tb.IsFd wr F T S'∧Aside (S'.key=key)∧Tb.FI n t' S'∧Tb.Good n t'∧Tb.Solo n t0 t' S'∧Went (Tb.Foot P R F) w wr)
 case atStart=>exact⟨c,ops,fails,t,S,Nat.le_refl _,h,ht,fun _ _=>rfl,k,hkey,hi,hg,so,Went.refl _ _⟩
 case round =>
  obtain⟨c',o',f',t',S',hm,H,ht',hj',K,hk',I,G,O,M⟩:=hrel;clear h k ht hi hg so hkey;have hmA:Aside (S'.mu+1≤gk):=hm;have Ks:=Tb.step_any H K t' ht' I;have I2:Aside (Tb.FI n (S'.after t') (S'.nxt n (t' S'.slot))):=I.step;have G2:Aside (Tb.Good n (S'.after t')):=G.step I H.pos;have O2:Aside (Tb.Solo n t0 (S'.after t') (S'.nxt n (t' S'.slot))):=O.step I H.pos;have k2:Aside ((S'.nxt n (t' S'.slot)).key=key):=(Tb.nxt_key _).trans hk'.out;have m2:Aside (¬(S'.nxt n (t' S'.slot)).st=0→(S'.nxt n (t' S'.slot)).mu+1≤S'.mu):=fun e=>by
   by_cases e0:S'.st=0
   ·rw[Tb.nxt_done _ e0]at e;exact absurd e0 e
   ·exact I.mu_step e0
  have hj2:Aside (∀j,j<base∨base+n≤j→c' j=c j):=hj';clear hm ht' hk' I G O hj';generalize S'.nxt n (t' S'.slot)=S2 at Ks I2 O2 k2 m2;generalize S'.after t'=t2 at Ks I2 G2 O2;by_cases hd:S2.st=0
  ·have hdA:Aside (S2.st=0):=hd;rw[decide_eq_true hd]at Ks;clear hd
   go_wp2_with (first
    | (go_at_call 143;refine Ks.mono ?_;clear Ks;rintro e w1 ⟨rfl,c1,h1,t1,j1,k1,b1⟩))
   go_end0
   exact⟨rfl,c1,_,_,t2,S2,h1,t1,fun j hj=>(j1 j hj).trans (hj2.out j hj),k1,hdA.out,k2.out,I2.out,G2.out,O2.out,M.trans b1⟩
  ·have hdA:Aside (¬S2.st=0):=hd;rw[decide_eq_false hd]at Ks;clear hd
   go_wp2_with (first
    | (go_at_call 143;refine Ks.mono ?_;clear Ks;rintro e w1 ⟨rfl,c1,h1,t1,j1,k1,b1⟩))
   go_roundg (gk-1)
   case measure=>have:=hmA.out;omega
   case rel =>
    refine⟨c1,_,_,t2,S2,?_,h1,t1,fun j hj=>(j1 j hj).trans (hj2.out j hj),k1,k2,I2.out,G2.out,O2.out,M.trans b1⟩;have:=m2.out hdA.out;have:=hmA.out;omega
theorem drive_act {S:Ch.Ac}(h:Ch.Sys w P R N T base n c ops fails) (k:Ch.IsAct w A P S) (f:Ch.Fit N S) :
  Calls Tryz.prog 142 #[.func (.func 146) #[.pointer (some ⟨A,0,none⟩)] #[]] w fun e w'=>e = .returned (.tuple #[])∧(∃o' f',Ch.Sys w' P R N T base n (Ch.runs 16 c S).1 o' f')∧Ch.IsAct w' A P (Ch.runs 16 c S).2∧Went (Ch.Foot P R A) w w':=by
 obtain⟨X,hX⟩:∃X,Ch.runs 16 c S=X:=⟨_,rfl⟩
 have hXA:Aside (∃g,S.mu≤g∧Ch.runs g c S=X):=⟨16,by have:=Ch.mu_le S;omega,hX⟩
 rw[hX];clear hX;go_enter Tryz.func142,Tryz.ntmps142
 go_wp2_with fail
 go_loopg [2] (S.mu+1) (fun g s2 wr=>∃(c':Nat→Int) (S':Ch.Ac),S'.mu+1≤g∧Aside (∃g,S'.mu≤g∧Ch.runs g c' S'=X)∧Ch.Fit N S'∧(∃o' f',Ch.Sys wr P R N T base n c' o' f')∧Ch.IsAct wr A P S'∧Went (Ch.Foot P R A) w wr)
 case atStart=>exact⟨c,S,Nat.le_refl _,hXA,f,⟨_,_,h⟩,k,Went.refl _ _⟩
 case round =>
  obtain⟨c',S',hm,hr,F,⟨o',f',H⟩,K,M⟩:=hrel;clear h k f hXA;have hmA:Aside (S'.mu+1≤gk):=hm;have Ks:=Ch.step_any H K F;have hr2:Aside (∃g,(S'.nxt c').mu≤g∧Ch.runs g (S'.after c') (S'.nxt c')=X):=by
   obtain⟨g,hg,e⟩:=hr.out;by_cases e0:S'.st=0
   ·refine⟨g,by rw[Ch.nxt0 e0];exact hg,?_⟩;rw[Ch.nxt0 e0,Ch.after0 e0];exact e
   ·have hmu:=F.mu_step (c:=c') e0;obtain⟨g',rfl⟩:∃g',g=g'+1:=⟨g-1,by omega⟩
    refine⟨g',by omega,?_⟩;rw[Ch.runs_step _ _ e0]at e;exact e
  have m2:Aside (¬(S'.nxt c').st=0→(S'.nxt c').mu+1≤S'.mu):=fun e=>by
   by_cases e0:S'.st=0
   ·rw[Ch.nxt0 e0]at e;exact absurd e0 e
   ·exact F.mu_step e0
  have F2:Ch.Fit N (S'.nxt c'):=F.step H.fit;clear hm hr;generalize S'.nxt c'=S2 at Ks hr2 F2 m2;generalize S'.after c'=c2 at Ks hr2;by_cases hd:S2.st=0
  ·rw[decide_eq_true hd]at Ks;have hrX:Aside ((c2,S2)=X):=by
    obtain⟨g,_,e⟩:=hr2.out;rw[Ch.runs_done _ _ hd]at e;exact e
   clear hd
   go_wp2_with (first
    | (go_at_call 146;refine Ks.mono ?_;clear Ks;rintro e w1 ⟨rfl,⟨o1,f1,h1⟩,k1,b1⟩))
   go_end0
   have e:=hrX.out;subst e;exact⟨rfl,⟨_,_,h1⟩,k1,M.trans b1⟩
  ·have hdA:Aside (¬S2.st=0):=hd;rw[decide_eq_false hd]at Ks;clear hd
   go_wp2_with (first
    | (go_at_call 146;refine Ks.mono ?_;clear Ks;rintro e w1 ⟨rfl,h1,k1,b1⟩))
   go_roundg (gk-1)
   case measure=>have:=hmA.out;omega
   case rel =>
    refine⟨c2,S2,?_,hr2,F2,h1,k1,M.trans b1⟩;have:=m2.out hdA.out;have:=hmA.out;omega
end
end Go.Proofs.YtnnmdkaoiofabaaGreat
namespace Go.Proofs.YtnnmdkaoiofabaaGreat
abbrev Nd := Nat×Nat×Nat
structure Mdl where
 n:Nat
 v:Nat→Nat
 room:Nat
 hs:List Nat
 nd:Nat→Nd
namespace Mdl
def isNode (M:Mdl) (h:Nat):Prop:=h<2∨h∈M.hs
def nodeB (M:Mdl) (h:Nat):Bool:=decide (h<2∨h∈M.hs)
theorem nodeB_true {M:Mdl}{h:Nat}(hh:M.isNode h):M.nodeB h=true:=decide_eq_true hh
theorem nodeB_false {M:Mdl}{h:Nat}(hh:¬M.isNode h):M.nodeB h=false:=decide_eq_false hh
def lev (M:Mdl) (h:Nat):Nat:=if h<2 then M.n else (M.nd h).1
def den (M:Mdl):Nat→Nat→(Nat→Bool)→Bool
 | 0,h,_=>decide (h=1)
 | f+1,h,a=>if h<2 then decide (h=1)else if a (M.v (M.nd h).1)=true then M.den f (M.nd h).2.2 a else M.den f (M.nd h).2.1 a
def val (M:Mdl) (h:Nat) (a:Nat→Bool):Bool:=M.den M.n h a
structure Ok (M:Mdl):Prop where
 pos:1≤M.n
 le8:M.n≤8
 vlt:∀i,i<M.n→M.v i<M.n
 vinj:∀i j,i<M.n→j<M.n→M.v i=M.v j→i=j
 sorted:M.hs.Pairwise (· < ·)
 range:∀h∈M.hs,2≤h∧h<268435456
 len:M.hs.length≤M.room
 lv:∀h∈M.hs,(M.nd h).1<M.n
 ne:∀h∈M.hs,(M.nd h).2.1≠(M.nd h).2.2
 lo:∀h∈M.hs,M.isNode (M.nd h).2.1∧(M.nd h).1<M.lev (M.nd h).2.1
 hi:∀h∈M.hs,M.isNode (M.nd h).2.2∧(M.nd h).1<M.lev (M.nd h).2.2
 one:∀h∈M.hs,∀k∈M.hs,M.nd h=M.nd k→h=k
section
variable {M:Mdl}
theorem lev_in (o:M.Ok){h:Nat}(hh:h∈M.hs):M.lev h=(M.nd h).1:=by
 unfold lev;rw[if_neg];have:=(o.range h hh).1;omega
theorem lev_const {h:Nat}(hh:h<2):M.lev h=M.n:=by unfold lev;rw[if_pos hh]
theorem lev_le (o:M.Ok){h:Nat}(hh:M.isNode h):M.lev h≤M.n:=by
 rcases hh with e|e
 ·rw[lev_const e];exact Nat.le_refl _
 ·rw[lev_in o e];exact Nat.le_of_lt (o.lv h e)
theorem inner_of_lev {h:Nat}(hh:M.isNode h) (hl:M.lev h<M.n):h∈M.hs:=by
 rcases hh with e|e
 ·rw[lev_const e]at hl;omega
 ·exact e
theorem isNode_lt (o:M.Ok){h:Nat}(hh:M.isNode h):h<268435456:=by
 rcases hh with e|e
 ·omega
 ·exact(o.range h e).2
theorem den_const (f:Nat){h:Nat}(hh:h<2) (a:Nat→Bool):M.den f h a=decide (h=1):=by
 cases f with
 | zero=>rfl
 | succ f=>rw[den,if_pos hh]
theorem den_in (f:Nat){h:Nat}(hh:¬h<2) (a:Nat→Bool):M.den (f+1) h a=if a (M.v (M.nd h).1)=true then M.den f (M.nd h).2.2 a else M.den f (M.nd h).2.1 a:=by
 rw[den,if_neg hh]
theorem den_more (o:M.Ok) (a:Nat→Bool):∀(f h:Nat),M.isNode h→M.n-M.lev h≤f→M.den (f+1) h a=M.den f h a
 | 0,h,hh,hf=>by
  have hl:M.lev h=M.n:=by have:=lev_le o hh;omega
  have hc:h<2:=by
   rcases hh with e|e
   ·exact e
   ·have:=o.lv h e;rw[lev_in o e]at hl;omega
  rw[den_const _ hc,den_const _ hc]
 | f+1,h,hh,hf=>by
  by_cases hc:h<2
  ·rw[den_const _ hc,den_const _ hc]
  ·have hm:h∈M.hs:=hh.resolve_left hc;have l1:=o.lo h hm;have l2:=o.hi h hm;rw[lev_in o hm]at hf;rw[den_in _ hc,den_in _ hc,den_more o a f _ l1.1 (by omega),den_more o a f _ l2.1 (by omega)]
theorem val_const {h:Nat}(hh:h<2) (a:Nat→Bool):M.val h a=decide (h=1):=den_const _ hh a
theorem val_zero (a:Nat→Bool):M.val 0 a=false:=val_const (by omega) a
theorem val_one (a:Nat→Bool):M.val 1 a=true:=val_const (by omega) a
theorem val_in (o:M.Ok){h:Nat}(hm:h∈M.hs) (a:Nat→Bool):M.val h a=if a (M.v (M.nd h).1)=true then M.val (M.nd h).2.2 a else M.val (M.nd h).2.1 a:=by
 have hc:¬h<2:=by have:=(o.range h hm).1;omega
 have l1:=o.lo h hm;have l2:=o.hi h hm;have hp:=o.pos;obtain⟨m,hm'⟩:∃m,M.n=m+1:=⟨M.n-1,by omega⟩
 unfold val;rw[hm',den_in _ hc,den_more o a m _ l1.1 (by omega),den_more o a m _ l2.1 (by omega)]
theorem val_congr (o:M.Ok) (d:Nat):∀{h:Nat}{a b:Nat→Bool},M.isNode h→M.n-M.lev h≤d→(∀j,M.lev h≤j→j<M.n→a (M.v j)=b (M.v j))→M.val h a=M.val h b:=by
 induction d with
 | zero =>
  intro h a b hh hd _;by_cases hc:h<2
  ·rw[val_const hc,val_const hc]
  ·have hm:h∈M.hs:=hh.resolve_left hc;have:=o.lv h hm;rw[lev_in o hm]at hd;omega
 | succ d ih =>
  intro h a b hh hd hab;by_cases hc:h<2
  ·rw[val_const hc,val_const hc]
  ·have hm:h∈M.hs:=hh.resolve_left hc;have l0:=o.lv h hm;have l1:=o.lo h hm;have l2:=o.hi h hm;rw[lev_in o hm]at hd hab;rw[val_in o hm,val_in o hm,hab _ (Nat.le_refl _) l0];rw[ih l1.1 (by omega) (fun j hj hn=>hab j (by omega) hn),ih l2.1 (by omega) (fun j hj hn=>hab j (by omega) hn)]
end
def setA (a:Nat→Bool) (i:Nat) (b:Bool):Nat→Bool:=fun j=>if j=i then b else a j
theorem setA_same (a:Nat→Bool) (i:Nat) (b:Bool):setA a i b i=b:=if_pos rfl
theorem setA_other (a:Nat→Bool){i j:Nat}(b:Bool) (h:j≠i):setA a i b j=a j:=if_neg h
section
variable {M:Mdl}
theorem val_set (o:M.Ok){h i:Nat}(hh:M.isNode h) (hi:i<M.lev h) (hn:i<M.n) (a:Nat→Bool) (b:Bool):M.val h (setA a (M.v i) b)=M.val h a:=
 val_congr o _ hh (Nat.le_refl _) fun j hj hjn=>setA_other _ _ fun e=>by have:=o.vinj j i hjn hn e;omega
theorem val_lo (o:M.Ok){h:Nat}(hm:h∈M.hs) (a:Nat→Bool):M.val h (setA a (M.v (M.nd h).1) false)=M.val (M.nd h).2.1 a:=by
 rw[val_in o hm,setA_same,if_neg (by simp)];exact val_set o (o.lo h hm).1 (o.lo h hm).2 (o.lv h hm) a false
theorem val_hi (o:M.Ok){h:Nat}(hm:h∈M.hs) (a:Nat→Bool):M.val h (setA a (M.v (M.nd h).1) true)=M.val (M.nd h).2.2 a:=by
 rw[val_in o hm,setA_same,if_pos rfl];exact val_set o (o.hi h hm).1 (o.hi h hm).2 (o.lv h hm) a true
theorem canon (o:M.Ok) (d:Nat):∀{h k:Nat},M.isNode h→M.isNode k→M.n-M.lev h≤d→M.n-M.lev k≤d→(∀a,M.val h a=M.val k a)→h=k:=by
 have deeper:∀(d:Nat),(∀{h k:Nat},M.isNode h→M.isNode k→M.n-M.lev h≤d→M.n-M.lev k≤d→(∀a,M.val h a=M.val k a)→h=k)→∀{h k:Nat},h∈M.hs→M.isNode k→M.n-M.lev h≤d+1→M.lev h<M.lev k→(∀a,M.val h a=M.val k a)→False:=by
  intro d ih h k hm hk hd hl e;have l0:=o.lv h hm;have l1:=o.lo h hm;have l2:=o.hi h hm;rw[lev_in o hm]at hd hl;refine o.ne h hm (ih l1.1 l2.1 (by omega) (by omega) fun a=>?_);rw[← val_lo o hm,← val_hi o hm,e,e,val_set o hk hl l0,val_set o hk hl l0]
 induction d with
 | zero =>
  intro h k hh hk hd hd' e;have hc:h<2:=by
   rcases hh with c|c
   ·exact c
   ·have:=o.lv h c;rw[lev_in o c]at hd;omega
  have kc:k<2:=by
   rcases hk with c|c
   ·exact c
   ·have:=o.lv k c;rw[lev_in o c]at hd';omega
  have:=e fun _=>false
  rw[val_const hc,val_const kc]at this;by_cases h1:h=1 <;> by_cases k1:k=1 <;> simp[h1,k1]at this <;> omega
 | succ d ih =>
  intro h k hh hk hd hd' e;rcases Nat.lt_trichotomy (M.lev h) (M.lev k)with c|c|c
  ·have hm:=inner_of_lev hh (Nat.lt_of_lt_of_le c (lev_le o hk));exact(deeper d (fun a b c d e=>ih a b c d e) hm hk hd c e).elim
  ·by_cases hn:M.lev h<M.n
   ·have hm:=inner_of_lev hh hn;have km:=inner_of_lev hk (by omega);have hl:=lev_in o hm;have kl:=lev_in o km;have l0:=o.lv h hm;have l1:=o.lo h hm;have l2:=o.hi h hm;have k1:=o.lo k km;have k2:=o.hi k km;have lv:(M.nd h).1=(M.nd k).1:=by omega
    have e1:(M.nd h).2.1=(M.nd k).2.1:=ih l1.1 k1.1 (by omega) (by omega) fun a=>by
     rw[← val_lo o hm,← val_lo o km,lv];exact e _
    have e2:(M.nd h).2.2=(M.nd k).2.2:=ih l2.1 k2.1 (by omega) (by omega) fun a=>by
     rw[← val_hi o hm,← val_hi o km,lv];exact e _
    exact o.one h hm k km (Prod.ext lv (Prod.ext e1 e2))
   ·have hc:h<2:=by
     rcases hh with x|x
     ·exact x
     ·have:=o.lv h x;rw[lev_in o x]at hn;omega
    have kc:k<2:=by
     rcases hk with x|x
     ·exact x
     ·have:=o.lv k x;rw[lev_in o x]at c;omega
    have:=e fun _=>false
    rw[val_const hc,val_const kc]at this;by_cases h1:h=1 <;> by_cases k1:k=1 <;> simp[h1,k1]at this <;> omega
  ·have km:=inner_of_lev hk (Nat.lt_of_lt_of_le c (lev_le o hh));exact(deeper d (fun a b c d e=>ih a b c d e) km hh hd' c fun a=>(e a).symm).elim
theorem val_one_iff (o:M.Ok){h k:Nat}(hh:M.isNode h) (hk:M.isNode k):(∀a,M.val h a=M.val k a)↔h=k:=
 ⟨fun e=>canon o M.n hh hk (by omega) (by omega) e,fun e _=>by rw[e]⟩
end
theorem exists_num (a:Nat→Bool):∀m:Nat,∃x:Nat,x<2^m∧∀i,i<m→x.testBit i=a i
 | 0=>⟨0,by simp,fun i hi=>absurd hi (Nat.not_lt_zero _)⟩
 | m+1=>by
  obtain⟨x,hx,e⟩:=exists_num a m;cases hm:a m with
  | false =>
   refine⟨x,by rw[Nat.pow_succ];omega,fun i hi=>?_⟩;by_cases c:i=m
   ·rw[c,hm];exact Nat.testBit_lt_two_pow hx
   ·exact e i (by omega)
  | true =>
   refine⟨2^m+x,by rw[Nat.pow_succ];omega,fun i hi=>?_⟩;by_cases c:i=m
   ·rw[c,hm,Nat.testBit_two_pow_add_eq,Nat.testBit_lt_two_pow hx];rfl
   ·rw[Nat.testBit_two_pow_add_gt (by omega)];exact e i (by omega)
section
variable {M:Mdl}
def tbl (M:Mdl) (h x:Nat):Bool:=M.val h x.testBit
theorem val_num (o:M.Ok) (a:Nat→Bool):∃x,x<256∧∀k,M.isNode k→M.val k a=M.tbl k x:=by
 obtain⟨x,hx,e⟩:=exists_num a 8;exact⟨x,by simpa using hx,fun k hk=>val_congr o _ hk (Nat.le_refl _) fun j _ hj=>(e _ (by have:=o.vlt j hj;have:=o.le8;omega)).symm⟩
theorem one_iff (o:M.Ok){h k:Nat}(hh:M.isNode h) (hk:M.isNode k):(∀x,x<256→M.tbl h x=M.tbl k x)↔h=k:=by
 refine⟨fun e=>(val_one_iff o hh hk).1 fun a=>?_,fun e _ _=>by rw[e]⟩;obtain⟨x,hx,q⟩:=val_num o a;rw[q h hh,q k hk,e x hx]
end
structure Grew (M M':Mdl):Prop where
 n:M'.n=M.n
 v:M'.v=M.v
 room:M'.room=M.room
 keep:∀h∈M.hs,h∈M'.hs∧M'.nd h=M.nd h
section
variable {M M' M'':Mdl}
theorem Grew.refl (M:Mdl):Grew M M:=⟨rfl,rfl,rfl,fun _ h=>⟨h,rfl⟩⟩
theorem Grew.trans (h:Grew M M') (k:Grew M' M''):Grew M M'':=
 ⟨k.n.trans h.n,k.v.trans h.v,k.room.trans h.room,fun x hx=>⟨(k.keep x (h.keep x hx).1).1,(k.keep x (h.keep x hx).1).2.trans (h.keep x hx).2⟩⟩
theorem Grew.isNode (h:Grew M M'){x:Nat}(hx:M.isNode x):M'.isNode x:=hx.imp id fun e=>(h.keep x e).1
theorem Grew.lev (h:Grew M M'){x:Nat}(hx:M.isNode x):M'.lev x=M.lev x:=by
 unfold Mdl.lev;by_cases c:x<2
 ·rw[if_pos c,if_pos c,h.n]
 ·rw[if_neg c,if_neg c,(h.keep x (hx.resolve_left c)).2]
theorem Grew.den (h:Grew M M') (o:M.Ok) (a:Nat→Bool):∀(f x:Nat),M.isNode x→M'.den f x a=M.den f x a
 | 0,_,_=>rfl
 | f+1,x,hx=>by
  rw[Mdl.den,Mdl.den];by_cases c:x<2
  ·rw[if_pos c,if_pos c]
  ·have hm:=hx.resolve_left c;rw[if_neg c,if_neg c,(h.keep x hm).2,h.v,Grew.den h o a f _ (o.lo x hm).1,Grew.den h o a f _ (o.hi x hm).1]
theorem Grew.val (h:Grew M M') (o:M.Ok){x:Nat}(hx:M.isNode x) (a:Nat→Bool):M'.val x a=M.val x a:=by
 unfold Mdl.val;rw[h.n];exact h.den o a _ _ hx
theorem Grew.tbl (h:Grew M M') (o:M.Ok){x:Nat}(hx:M.isNode x) (y:Nat):M'.tbl x y=M.tbl x y:=h.val o hx _
end
structure Adds (M:Mdl) (h:Nat) (d:Nd) (M':Mdl):Prop where
 n:M'.n=M.n
 v:M'.v=M.v
 room:M'.room=M.room
 new:h ∉ M.hs
 mem:∀k,k∈M'.hs↔k=h∨k∈M.hs
 len:M'.hs.length=M.hs.length+1
 nd:∀k,M'.nd k=if k=h then d else M.nd k
theorem Adds.grew {M M':Mdl}{h:Nat}{d:Nd}(a:Adds M h d M'):Grew M M':=
 ⟨a.n,a.v,a.room,fun k hk=>⟨(a.mem k).2 (.inr hk),by rw[a.nd,if_neg];intro e;exact a.new (e ▸ hk)⟩⟩
theorem Adds.at {M M':Mdl}{h:Nat}{d:Nd}(a:Adds M h d M'):h∈M'.hs∧M'.nd h=d:=⟨(a.mem h).2 (.inl rfl),by rw[a.nd,if_pos rfl]⟩
structure Fits (M:Mdl) (d:Nd):Prop where
 lv:d.1<M.n
 ne:d.2.1≠d.2.2
 lo:M.isNode d.2.1∧d.1<M.lev d.2.1
 hi:M.isNode d.2.2∧d.1<M.lev d.2.2
theorem Ok.adds {M M':Mdl}{h:Nat}{d:Nd}(o:M.Ok) (a:Adds M h d M') (f:M.Fits d) (no:∀k∈M.hs,M.nd k≠d) (hr:2≤h∧h<268435456) (room:M.hs.length<M.room) (so:M'.hs.Pairwise (· < ·)):M'.Ok:=by
 have g:=a.grew;have old:∀k∈M.hs,M'.nd k=M.nd k:=fun k hk=>(g.keep k hk).2
 refine⟨by rw[a.n];exact o.pos,by rw[a.n];exact o.le8,by rw[a.n,a.v];exact o.vlt,by rw[a.n,a.v];exact o.vinj,so,fun k hk=>?_,by rw[a.len,a.room];omega,fun k hk=>?_,fun k hk=>?_,fun k hk=>?_,fun k hk=>?_,fun k hk q hq e=>?_⟩
 ·rcases(a.mem k).1 hk with rfl|c
  ·exact hr
  ·exact o.range k c
 ·rw[a.n];rcases(a.mem k).1 hk with rfl|c
  ·rw[a.at.2];exact f.lv
  ·rw[old k c];exact o.lv k c
 ·rcases(a.mem k).1 hk with rfl|c
  ·rw[a.at.2];exact f.ne
  ·rw[old k c];exact o.ne k c
 ·rcases(a.mem k).1 hk with rfl|c
  ·rw[a.at.2];exact⟨g.isNode f.lo.1,by rw[g.lev f.lo.1];exact f.lo.2⟩
  ·rw[old k c];exact⟨g.isNode (o.lo k c).1,by rw[g.lev (o.lo k c).1];exact(o.lo k c).2⟩
 ·rcases(a.mem k).1 hk with rfl|c
  ·rw[a.at.2];exact⟨g.isNode f.hi.1,by rw[g.lev f.hi.1];exact f.hi.2⟩
  ·rw[old k c];exact⟨g.isNode (o.hi k c).1,by rw[g.lev (o.hi k c).1];exact(o.hi k c).2⟩
 ·rcases(a.mem k).1 hk with rfl|c <;> rcases(a.mem q).1 hq with rfl|c'
  ·rfl
  ·rw[a.at.2,old q c']at e;exact absurd e.symm (no q c')
  ·rw[a.at.2,old k c]at e;exact absurd e (no k c)
  ·rw[old k c,old q c']at e;exact o.one k c q c' e
theorem Adds.val {M M':Mdl}{h:Nat}{d:Nd}(a:Adds M h d M') (o:M.Ok) (o':M'.Ok) (f:M.Fits d) (s:Nat→Bool):M'.val h s=if s (M.v d.1)=true then M.val d.2.2 s else M.val d.2.1 s:=by
 rw[val_in o' a.at.1,a.at.2,a.v,a.grew.val o f.hi.1,a.grew.val o f.lo.1]
end Mdl
end Go.Proofs.YtnnmdkaoiofabaaGreat
namespace Go.Proofs.YtnnmdkaoiofabaaGreat
open Go Go.RowKit
section
variable {P:Program}{ops:Array Oper}{Q:Exit→Act→World→Prop}
def toCome (n:Nat) (listed:Array Bool):List Nat:=(List.range n).filter fun j=>!listed.getD j true
theorem toCome_set {n i:Nat}{listed:Array Bool}(hn:listed.size=n) (hi:listed.getD i true=false):(toCome n (listed.setIfInBounds i true)).length<(toCome n listed).length:=by
 have hlt:i<listed.size:=by
  rcases Nat.lt_or_ge i listed.size with h|h
  ·exact h
  ·simp[Array.getElem?_eq_none h]at hi
 have e:toCome n (listed.setIfInBounds i true)=(toCome n listed).filter fun j=>decide (j≠i):=by
  unfold toCome;rw[List.filter_filter];apply List.filter_congr;intro j _;by_cases h:i=j
  ·subst h;simp[hlt]
  ·rw[getD_set_ne true h]
   have:j≠i:=fun e=>h e.symm
   simp[this]
 rw[e,List.length_filter_lt_length_iff_exists];refine⟨i,?_,by simp⟩;unfold toCome;rw[List.mem_filter,List.mem_range];exact⟨by omega,by rw[hi];rfl⟩
def waitsBack (ops:Array Oper):Bool:=(List.range ops.size).all fun i=>((ops[i]?).map (·.after.all fun e=>decide (e.on<i))).getD true
theorem ready_some {listed:Array Bool}(hw:waitsBack ops=true) (hn:listed.size=ops.size) (h:Region.ready .any ops listed=[]):∀j,j<ops.size→listed.getD j false=true:=by
 intro j;induction j using Nat.strongRecOn with
 | _ j ih =>
  intro hj;by_cases hl:listed.getD j true=false
  ·have ho:ops[j]? = some ops[j]:=Array.getElem?_eq_getElem hj
   have:j∈Region.ready .any ops listed:=by
    rw[mem_ready];refine⟨hl,_,ho,fun e he _=>?_⟩;have h1:=List.all_eq_true.1 hw j (List.mem_range.2 hj);rw[ho]at h1;simp only[Option.map_some,Option.getD_some,Array.all_eq_true_iff_forall_mem,decide_eq_true_eq]at h1;have h2:=h1 e he;exact ih e.on h2 (by omega)
   rw[h]at this;cases this
  ·have hlt:j<listed.size:=by omega
   simp[hlt]at hl ⊢;exact hl
end
section
variable {P:Program}{ops:Array Oper}{Q:Exit→Act→World→Prop}
theorem wpAny_posts' (G:Act→World→Prop) (Post:Nat→Act→World→Prop) (hw:waitsBack ops=true)
  (step:∀i o a w,ops[i]? = some o→G a w→(∀e∈o.after,Region.binds .any e=true→Post e.on a w)→wpOp P ops Q i (fun a' w'=>G a' w'∧Post i a' w'∧∀j o',j≠i→ops[j]? = some o'→(∀e∈o'.after,Region.binds .any e=true→e.on≠i)→Post j a w→Post j a' w') a w)
  (done:∀a w,G a w→(∀i,i<ops.size→Post i a w)→Q .normal a w) :
  ∀(fuel:Nat) (listed:Array Bool) (a:Act) (w:World),listed.size=ops.size→(toCome ops.size listed).length≤fuel→G a w→(∀j,listed.getD j false=true→Post j a w)→(∀j o,listed.getD j false=true→ops[j]? = some o→∀e∈o.after,Region.binds .any e=true→listed.getD e.on false=true)→wpAny P .any ops Q fuel listed a w:=by
 intro fuel;induction fuel with
 | zero =>
  intro listed a w hn hc hG hP _;have hr:Region.ready .any ops listed=[]:=by
   cases hr:Region.ready .any ops listed with
   | nil=>rfl
   | cons i rs =>
    have hi:i∈Region.ready .any ops listed:=by rw[hr];exact List.mem_cons_self
    obtain⟨h1,o,ho,_⟩:=mem_ready.1 hi;have:=toCome_set hn h1;omega
  exact⟨hr,done a w hG fun i hi=>hP i (ready_some hw hn hr i hi)⟩
 | succ fuel ih =>
  intro listed a w hn hc hG hP hL;refine⟨fun hr=>done a w hG fun i hi=>hP i (ready_some hw hn hr i hi),fun i hi=>?_⟩;obtain⟨h1,o,ho,h2⟩:=mem_ready.1 hi;have hil:listed.getD i false=false:=by
   have hlt:i<listed.size:=by rw[hn];exact(Array.getElem?_eq_some_iff.1 ho).1
   simp[hlt]at h1 ⊢;exact h1
  refine wpOp_mono (fun a' w' ⟨g,p,k⟩=>?_) (step i o a w ho hG fun e he hb=>hP _ (h2 e he hb));refine ih _ a' w' (by simpa using hn) ?_ g ?_ ?_
  ·have:=toCome_set hn h1;omega
  ·intro j hj;by_cases e:i=j
   ·subst e;exact p
   ·rw[getD_set_ne false e]at hj;have hjo:∃o',ops[j]? = some o':=by
     have hlt:j<listed.size:=by
      rcases Nat.lt_or_ge j listed.size with h|h
      ·exact h
      ·simp[Array.getElem?_eq_none h]at hj
     exact⟨_,Array.getElem?_eq_getElem (by omega)⟩
    obtain⟨o',ho'⟩:=hjo;refine k j o' (fun h=>e h.symm) ho' (fun ed hed hb heq=>?_) (hP j hj);have:=hL j o' hj ho' ed hed hb;rw[heq,hil]at this;cases this
  ·intro j o' hj ho' ed hed hb;by_cases e:i=j
   ·subst e;obtain rfl:o=o':=Option.some.inj (ho.symm.trans ho');exact getD_set_true (h2 ed hed hb)
   ·rw[getD_set_ne false e]at hj;exact getD_set_true (hL j o' hj ho' ed hed hb)
end
def slot (a:Act) (s:Tmp):Value:=a.tmps.getD s undef
theorem slot_put_eq {a:Act}{d:Tmp}(v:Value) (h:d<a.tmps.size):slot (a.put (some d) v) d=v:=by
 simp[slot,Act.put,h]
theorem slot_put_ne {a:Act}{d s:Tmp}(v:Value) (h:d≠s):slot (a.put (some d) v) s=slot a s:=by
 simp[slot,Act.put,Array.getElem?_setIfInBounds_ne h]
theorem nodup_place {α β:Type}(f:α→Option β):∀(l:List α),(l.filterMap f).Nodup→∀(i j:Nat) (x y:α) (b:β),l[i]? = some x→l[j]? = some y→f x=some b→f y=some b→i=j
 | [],_,i,_,_,_,_,h,_,_,_=>by simp at h
 | z :: l,hn,i,j,x,y,b,hi,hj,hx,hy=>by
  have mem:∀(k:Nat) (u:α),l[k]? = some u→f u=some b→b∈l.filterMap f:=fun k u hk hu=>List.mem_filterMap.2 ⟨u,List.mem_of_getElem? hk,hu⟩
  cases hz:f z with
  | none =>
   rw[List.filterMap_cons_none hz]at hn;cases i with
   | zero=>simp at hi;subst hi;rw[hz]at hx;cases hx
   | succ i =>
    cases j with
    | zero=>simp at hj;subst hj;rw[hz]at hy;cases hy
    | succ j=>rw[nodup_place f l hn i j x y b (by simpa using hi) (by simpa using hj) hx hy]
  | some c =>
   rw[List.filterMap_cons_some hz,List.nodup_cons]at hn;cases i with
   | zero =>
    simp at hi;subst hi;cases j with
    | zero=>rfl
    | succ j =>
     rw[hz]at hx;obtain rfl:=Option.some.inj hx;exact absurd (mem j y (by simpa using hj) hy) hn.1
   | succ i =>
    cases j with
    | zero =>
     simp at hj;subst hj;rw[hz]at hy;obtain rfl:=Option.some.inj hy;exact absurd (mem i x (by simpa using hi) hx) hn.1
    | succ j=>rw[nodup_place f l hn.2 i j x y b (by simpa using hi) (by simpa using hj) hx hy]
theorem wp_region_pr {P:Program}{ops:Array Oper}{Q:Exit→Act→World→Prop}{id:Nat}{a:Act}{w:World}(hm:P.follows .mixedOrders=true) (hw:waitsBack ops=true) (sl:Nat→Tmp) (pr:Nat→Value→World→Prop)
  (mono:∀i v w w',Below w.heap.size w w'→pr i v w→pr i v w')
  (dst:∀i o,ops[i]? = some o→o.dst=some (sl i)∧o.guard=none)
  (inj:∀i j,i<ops.size→j<ops.size→sl i=sl j→i=j) (lt:∀i,i<ops.size→sl i<a.tmps.size)
  (step:∀i o a' w',ops[i]? = some o→(∀s,(∀j,j<ops.size→sl j≠s)→slot a' s=slot a s)→Below w.heap.size w.drew w'→(∀e∈o.after,Region.binds .any e=true→pr e.on (slot a' (sl e.on)) w')→∀K:Act→World→Prop,(∀v w'',Below w'.heap.size w' w''→pr i v w''→K (a'.put o.dst v) w'')→o.wp P a' w' K Q)
  (done:∀a' w',a'.defers=a.defers→(∀s,(∀j,j<ops.size→sl j≠s)→slot a' s=slot a s)→Below w.heap.size w.drew w'→(∀i,i<ops.size→pr i (slot a' (sl i)) w')→Q .normal a' w'):(Code.region id ops true).wp P Q a w:=by
 refine wp_region_any hm ?_;change wpAny _ _ _ _ _ _ _ w.drew;refine wpAny_posts' (fun a' w'=>a'.tmps.size=a.tmps.size∧a'.defers=a.defers∧(∀s,(∀j,j<ops.size→sl j≠s)→slot a' s=slot a s)∧Below w.heap.size w.drew w') (fun i a' w'=>i<ops.size→pr i (slot a' (sl i)) w') hw ?_ ?_ ops.size (Array.replicate ops.size false) a w.drew (by simp) ?_ ⟨rfl,rfl,fun _ _=>rfl,Below.refl _ _⟩ (fun j hj=>?_) (fun j o hj=>?_)
 ·intro i o a' w' ho ⟨g1,g2,g3,g4⟩ hdep;have hi:i<ops.size:=(Array.getElem?_eq_some_iff.1 ho).1;obtain⟨hd,hg⟩:=dst i o ho;have hwant:Region.wanted o (yielded ops a'.tmps)=true:=by simp[Region.wanted,hg]
  have hlt:sl i<a'.tmps.size:=by rw[g1];exact lt i hi
  unfold wpOp;rw[ho];simp only[hwant,if_true];refine .inl (step i o a' w' ho g3 g4 (fun e he hb=>hdep e he hb ?_) _ fun v w'' hB hp=>⟨⟨?_,?_,?_,?_⟩,?_,?_⟩)
  ·have h1:=hw;unfold waitsBack at h1;rw[List.all_eq_true]at h1;have h2:=h1 i (List.mem_range.2 hi);rw[ho]at h2;simp only[Option.map_some,Option.getD_some]at h2;rw[Array.all_eq_true]at h2;obtain⟨k,hk,rfl⟩:=Array.mem_iff_getElem.1 he;have:=of_decide_eq_true (h2 k hk);omega
  ·rw[hd];simp[Act.put,g1]
  ·rw[hd];simp[Act.put,g2]
  ·intro s hs;rw[hd,slot_put_ne _ (hs i hi)];exact g3 s hs
  ·exact g4.trans ⟨hB.os,hB.tape,hB.output,hB.size,fun k hk=>hB.block k (Nat.lt_of_lt_of_le hk g4.size)⟩
  ·intro _;rw[hd,slot_put_eq _ hlt];exact hp
  ·intro j o' hji _ _ hp' hj;rw[hd,slot_put_ne _ (fun e=>hji (inj j i hj hi e.symm))];exact mono j _ _ _ hB (hp' hj)
 ·rintro a' w' ⟨g1,g2,g3,g4⟩ hp;exact done a' w' g2 g3 g4 fun i hi=>hp i hi hi
 ·unfold toCome;have:=List.length_filter_le (fun j=>!(Array.replicate ops.size false).getD j true) (List.range ops.size);simpa using this
 ·by_cases h:j<ops.size <;> simp[h]at hj
 ·by_cases h:j<ops.size <;> simp[h]at hj
end Go.Proofs.YtnnmdkaoiofabaaGreat
namespace Go.Proofs.YtnnmdkaoiofabaaGreat
open Go.ChangeShapes Go.WideShapes Go.ChangeAt Go.RowKit
theorem wf_u8 {z:Int}(h:(Lit.int .u8 z).wf=true):0≤z∧z≤255:=by
 have h1:IntKind.u8.min=0:=rfl;have h2:IntKind.u8.max=255:=rfl;simp only[Lit.wf,Bool.and_eq_true,decide_eq_true_eq]at h;omega
end Go.Proofs.YtnnmdkaoiofabaaGreat
