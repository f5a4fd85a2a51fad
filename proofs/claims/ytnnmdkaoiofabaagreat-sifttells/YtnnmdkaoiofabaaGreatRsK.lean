/-
  Maps from handles to numbers: what is looked up, laid and struck, as a function of the key; their keys, gone through in whatever order. The library's keys of a map of handles, gathered into a slice of the call's own: each once.
-/
import Derived.Test.YtnnmdkaoiofabaaGreatRsA
import Derived.MapKept
import Derived.Laws.IdiomRangeMap
import Derived.RangeFuncBox
import Derived.RangeFuncNested
import Derived.RangeFuncLeaves
import Derived.Shelf.Abstract
import Derived.OwnWalkIn
import Derived.TacticsInMore
import Derived.LoopNIn
import Derived.LoopIn
import Derived.Sort.LoopGhostIn
import Derived.Maps.AppendAt
namespace Go.Proofs.YtnnmdkaoiofabaaGreat.Rs
open Go Go.RowKit
def look : List (Int×Int)→Int→Option Int
 | [],_=>none
 | p :: l,k=>if p.1=k then some p.2 else look l k
def pairV (p:Int×Int):Value×Value:=(.int .u32 p.1,.int .i64 p.2)
structure MapIs (es:Array MapEntry) (clock:Nat) (l:List (Int×Int)):Prop where
 pairs:es.toList.map (fun e=>(e.key,e.val))=l.map pairV
 old:∀x∈es.toList,x.born<clock
 once:(es.toList.map (·.born)).Nodup
 nodup:(l.map (·.1)).Nodup
def IsMap (w:World) (b:Nat) (P:Int→Option Int) (m:Nat):Prop:=
 ∃(es:Array MapEntry) (clock:Nat) (l:List (Int×Int)),w.heap[b]? = some (.map es clock)∧MapIs es clock l∧(∀k,look l k=P k)∧l.length≤m
def at1 {α:Type}(P:Int→α) (k:Int) (v:α):Int→α:=fun i=>if i=k then v else P i
theorem zero3 (w:World):(zeroValue 3).run Tryz.prog w = .ok (.int .i64 0) w:=by kernel_rfl
structure Iter (w:World) (it b:Nat) (l:List (Int×Int)) (vs:List Int):Prop where
 ex:∃es clock seen,w.heap[b]? = some (.map es clock)∧MapIs es clock l∧w.heap[it]? = some (.mapIter (some b) clock seen clock)∧∃vis:List MapEntry,vis.map (·.key)=vs.map (Value.int .u32)∧seen.toList=vis.map (·.born)∧(∀x∈vis,x∈es.toList)∧(vis.map (·.born)).Nodup
end Go.Proofs.YtnnmdkaoiofabaaGreat.Rs
namespace Go.Proofs.YtnnmdkaoiofabaaGreat.Rs
open Go Go.RowKit Go.Shelf
attribute [local go_sem] Oper.semAt_some
theorem nodup_len : ∀(a b:List Int),a.Nodup→(∀x∈a,x∈b)→a.length≤b.length
 | [],b,_,_=>Nat.zero_le _
 | x :: a,b,hn,h=>by
  have hx:x∈b:=h x (by simp);have hxa:x ∉ a:=(List.nodup_cons.1 hn).1;have:=nodup_len a (b.erase x) (List.nodup_cons.1 hn).2 fun y hy=>(List.mem_erase_of_ne (show y≠x from fun e=>hxa (e ▸ hy))).2 (h y (by simp[hy]))
  rw[List.length_erase_of_mem hx]at this
  have:0<b.length:=List.length_pos_of_mem hx;simp only[List.length_cons];omega
theorem grown_of_went {w w':World}{r:Nat}(h:Went (fun k=>k=r) w w'):w.grownBy w' (some r):=
 ⟨h.os,h.tape,h.output,h.size,fun k hk hne=>h.block k hk fun e=>hne (by rw[e])⟩
def Keys (P:Int→Option Int) (xs:List Int):Prop:=xs.Nodup∧∀x,x∈xs↔(P x).isSome=true
def MapV (w:World) (mb:Option Nat) (P:Int→Option Int) (m:Nat):Prop:=
 match mb with
 | none=>∀k,P k=none
 | some b=>IsMap w b P m
theorem info29 : (Tryz.prog.info? 36).map (fun i=>(i.zero,i.size,i.bytes))=some (some (.int .u32 0),1,4):=by kernel_rfl
end Go.Proofs.YtnnmdkaoiofabaaGreat.Rs
