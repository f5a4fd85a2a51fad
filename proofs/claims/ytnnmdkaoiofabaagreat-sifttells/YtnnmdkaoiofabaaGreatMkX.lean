/-
  The library's walk backwards over a slice of words: its numbers and its words, from the last one on. Which handles of a store's are free, without a program. In a round of a loop over an iterator: a drawn statement, by an invariant that may speak of what has come up so far.
-/
import Derived.Test.YtnnmdkaoiofabaaGreatBaseS
import Derived.RangeFuncBox
import Derived.RangeFuncNested
import Derived.RangeFuncLeaves
import Derived.Shelf.Abstract
import Derived.OwnWalkIn
import Derived.TacticsInMore
import Derived.LoopNIn
import Derived.LoopIn
import Derived.Sort.LoopGhostIn
import Derived.Maps.AppendAt
import Derived.OrdersIn
namespace Go.Proofs.YtnnmdkaoiofabaaGreat.Mk
open Go Go.RowKit Go.Shelf
attribute [local go_sem] Oper.semAt_some
def downL (n k:Nat):List Nat:=(List.range k).map fun i=>n-1-i
theorem downL_len (n k:Nat):(downL n k).length=k:=by simp[downL]
theorem downL_succ (n k:Nat):downL n (k+1)=downL n k ++ [n-1-k]:=by simp[downL,List.range_succ]
abbrev Nm (n:Nat):={ x:Nat // x<n }
def KeepB (Bx:Nat) (ad:Option Addr) (W W':World):Prop:=∀k,(k=Bx∨At ad k)→W'.heap[k]? = W.heap[k]?
theorem keepB_t {Bx:Nat}{ad:Option Addr}{A B C:World}(h:KeepB Bx ad A B) (k:KeepB Bx ad B C):KeepB Bx ad A C:=fun i hi=>(k i hi).trans (h i hi)
theorem keepB_b {Bx:Nat}{ad:Option Addr}{w:World}(hb:∀k,(k=Bx∨At ad k)→k<w.heap.size) (W:World) (l:Nat) (o o':Obj) (hl:w.heap.size≤l) (_:W.heap[l]? = some o) (_:o.isCells=false) (_:o.isWalk=false):KeepB Bx ad W (W.putObj l o'):=fun k hk=>World.putObj_heap_other (by have:=hb k hk;omega)
set_option maxRecDepth 100000 in
set_option maxHeartbeats 2000000 in
theorem back1_in (n:Nat) (hn:1≤n) (l Bx N cap:Nat) (ad:Option Addr) (wd:Nat→Int) (hN:N≤1000000) (J Jx:List (Nm N)→World→Prop)
  (hY:∀pre x W,J pre W→pre.length<N→YieldAt Fence.wide (n-1) Tryz.prog l #[.int .i64 ((x.1:Nat):Int),.int .u64 (wd x.1)] W fun e W' =>
   (e = .returned (.bool true)∧J (pre ++ [x]) W'∧KeepB Bx ad W W')∨(e = .returned (.bool false)∧Jx (pre ++ [x]) W'))
  (W:World) (hB:W.cell? ⟨Bx,0,none⟩=some (.slice ad N cap)) (own:OwnR 22 W 0 ad N cap (fun i=>.int .u64 (wd i))) (h0:J [] W) :
  CallsIn Fence.wide n Tryz.prog 152 #[.func (.yield l) #[] #[],.pointer (some ⟨Bx,0,none⟩)] W fun e W'=>(∃v,e = .returned v) ∧
   ((∃ys:List (Nm N),ys.map (·.1)=downL N N∧J ys W')∨(∃pre,True∧Jx pre W')):=by
 refine callsIn_of_wp Tryz.func152 rfl trivial ?_ rfl;simp only[Tryz.ntmps152,List.size_toArray,List.length_cons,List.length_nil,Nat.reduceAdd,Nat.reduceSub,Array.replicate_succ,Array.replicate_zero,List.push_toArray,List.append_toArray,List.nil_append,List.cons_append];have hw1:IntKind.i64.wrap ((N:Int)-1)=(N:Int)-1:=by rw[IntKind.wrap_i64];omega
 gi_wp2
 gi_loopg [3] (N+1) (fun g si wr=>∃(k r:Nat) (z:Int) (pre:List (Nm N)),k+g=N+1∧r+k=N∧si = .int .i64 z∧z=(r:Int)-1∧Aside (pre.map (·.1)=downL N k)∧Aside (KeepB Bx ad W wr)∧Aside (J pre wr))
 case atStart=>exact⟨0,N,_,[],by omega,by omega,rfl,rfl,rfl,fun _ _=>rfl,h0⟩
 case round =>
  clear h0;obtain⟨k,r,z,pre,hk,hr,rfl,hz,hp,hKb,hJs⟩:=hrel;have hkA:Aside (k+gk=N+1∧r+k=N):=⟨hk,hr⟩
  have hb:wr.cell? ⟨Bx,0,none⟩=some (.slice ad N cap):=(World.cell?_of_block (hKb.out Bx (.inl rfl))).trans hB;have ownr:=own.kept fun b hb=>hKb.out b (.inr hb)
  by_cases hr0:r=0
  ·obtain rfl:z = -1:=by omega
   have e:N=k:=by omega
   have hfin:Aside (pre.map (·.1)=downL N N):=by show List.map _ _=_;rw[hp.out,← e]
   clear hz hr hk hkA hp hr0 e
   gi_wp2
   go_end0
   exact⟨⟨_,rfl⟩,.inl ⟨pre,hfin.out,hJs.out⟩⟩
  ·obtain⟨i,rfl⟩:∃i,r=i+1:=⟨r-1,by omega⟩
   obtain rfl:z=(i:Int):=by omega
   have hiN:i<N:=by omega
   have hi0:(0:Int)≤(i:Int):=by omega
   have hiN':(i:Int)<(N:Int):=by omega
   have hwi:IntKind.i64.wrap ((i:Int)-1)=(i:Int)-1:=by rw[IntKind.wrap_i64];omega
   obtain⟨g,rfl⟩:=ownr.form (by omega);have cw:=ownr.cell hiN;have hpl:pre.length=k:=by
    have:=congrArg List.length hp.out;rwa [List.length_map,downL_len]at this
   obtain⟨fn,tmps,assign,body,hy,hR⟩:=hY pre ⟨i,hiN⟩ wr hJs.out (by omega);dsimp only at hy;have hp2:Aside ((pre ++ [(⟨i,hiN⟩:Nm N)]).map (·.1)=downL N (k+1)):=by
    show List.map _ _=_;rw[List.map_append,hp.out,downL_succ,show N-1-k=i by omega];rfl
   clear hz hr hk hp ownr hpl hr0
   gi_wp2
   refine hR.mono ?_;rintro e W3 (⟨rfl,hJ3,hk3⟩|⟨rfl,hJx3⟩)
   ·gi_wp2
    gi_roundg (gk-1)
    case measure=>have:=hkA.out;omega
    case rel =>
     have:=hkA.out;exact⟨k+1,i,_,_,by omega,by omega,rfl,rfl,hp2,keepB_t hKb.out hk3,hJ3⟩
   ·gi_wp2
    refine bodyPost_ret (results_none rfl _ _ _) rfl ?_;exact⟨⟨_,rfl⟩,.inr ⟨_,trivial,hJx3⟩⟩
theorem back_stops (n:Nat) (hn:1≤n) (Bx N cap:Nat) (ad:Option Addr) (wd:Nat→Int) (w:World) (hN:N≤1000000) (hB:w.cell? ⟨Bx,0,none⟩=some (.slice ad N cap)) (hBx:Bx<w.heap.size) (own:OwnR 22 w 0 ad N cap (fun i=>.int .u64 (wd i))) :
  SeqStopsK Fence.wide n Tryz.prog 152 #[.pointer (some ⟨Bx,0,none⟩)] (fun x:Nm N=>#[Value.int .i64 ((x.1:Nat):Int),Value.int .u64 (wd x.1)]) (KeepB Bx ad) (fun ys=>ys.map (·.1)=downL N N) (fun _=>True) N w:=fun l J Jx W hW _ _ hY h0 =>
 back1_in n hn l Bx N cap ad wd hN J Jx hY W ((hW.cell (p:=⟨Bx,0,none⟩) hBx).trans hB) (own.kept fun b hb=>hW.block b (own.block b hb).2) h0
theorem back_any (ad:Option Addr) (N cap:Nat) (w:World) :
  Calls Tryz.prog 122 #[.slice ad N cap] w fun e w'=>e = .returned (.func (.func 152) #[] #[.pointer (some ⟨w.heap.size,0,none⟩)])∧w'=w.alloc (.cells #[.slice ad N cap] 90):=by
 have hmf:∀(w:World),(Instr.makeFunc (.func 152) #[] #[.pointer (some ⟨w.heap.size,0,none⟩)]).run Tryz.prog w = .ok (.func (.func 152) #[] #[.pointer (some ⟨w.heap.size,0,none⟩)]) w:=fun w=>rfl
 go_enter Tryz.func122,Tryz.ntmps122
 go_wp2
 go_ret
 exact⟨rfl,rfl⟩
end Go.Proofs.YtnnmdkaoiofabaaGreat.Mk
namespace Go.Proofs.YtnnmdkaoiofabaaGreat.Mk
open Go Go.RowKit
theorem downL_mem {n x:Nat}:x∈downL n n↔x<n:=by
 unfold downL;rw[List.mem_map];constructor
 ·rintro⟨i,hi,rfl⟩;have:=List.mem_range.1 hi;omega
 ·intro h;exact⟨n-1-x,List.mem_range.2 (by omega),by omega⟩
theorem downL_fall (n:Nat):(downL n n).Pairwise (· > ·):=by
 unfold downL;rw[List.pairwise_map];refine List.Pairwise.imp_of_mem ?_ List.pairwise_lt_range;intro a b ha hb h;have:=List.mem_range.1 ha;have:=List.mem_range.1 hb;omega
def frees (wd:Nat→Int) (pre:List Nat):List Nat:=(pre.filter fun i=>decide (wd i=0)).map (· + 2)
theorem frees_zero {wd:Nat→Int}{pre:List Nat}{i:Nat}(h:wd i=0):frees wd (pre ++ [i])=frees wd pre ++ [i+2]:=by
 unfold frees;rw[List.filter_append,List.map_append];simp[h]
theorem frees_no {wd:Nat→Int}{pre:List Nat}{i:Nat}(h:¬wd i=0):frees wd (pre ++ [i])=frees wd pre:=by
 unfold frees;rw[List.filter_append,List.map_append];simp[h]
theorem frees_len (wd:Nat→Int) (pre:List Nat):(frees wd pre).length≤pre.length:=by
 unfold frees;rw[List.length_map];exact List.length_filter_le _ _
theorem frees_of {M:Mdl}{W:Nat}{wd:Nat→Int}(o:M.Ok) (top:∀x∈M.hs,x<2+W) (inn:∀i,i<W→(¬wd i=0↔i+2∈M.hs)):(frees wd (downL W W)).Pairwise (· > ·)∧(∀x,x∈frees wd (downL W W)↔2≤x∧x<2+W∧x ∉ M.hs)∧M.hs.length+(frees wd (downL W W)).length=W:=by
 refine⟨?_,fun x=>?_,?_⟩
 ·unfold frees;rw[List.pairwise_map];exact((downL_fall W).filter _).imp fun h=>by omega
 ·unfold frees;rw[List.mem_map];constructor
  ·rintro⟨i,hi,rfl⟩;rw[List.mem_filter,downL_mem]at hi;obtain⟨h1,h2⟩:=hi;have h2:wd i=0:=by simpa using h2
   exact⟨by omega,by omega,fun q=>(inn i h1).2 q h2⟩
  ·rintro⟨h1,h2,h3⟩;obtain⟨i,rfl⟩:∃i,x=i+2:=⟨x-2,by omega⟩
   refine⟨i,List.mem_filter.2 ⟨downL_mem.2 (by omega),?_⟩,rfl⟩
   have:wd i=0:=Classical.byContradiction fun q=>h3 ((inn i (by omega)).1 q)
   simpa using this
 ·have e1:M.hs.length=((List.range W).filter fun i=>decide (¬wd i=0)).length:=by
   have e:M.hs.length=(M.hs.map fun x=>x-2).length:=by rw[List.length_map]
   rw[e];refine Nat.le_antisymm (len_sub ?_ fun i hi=>?_) (len_sub (List.nodup_range.filter _) fun i hi=>?_)
   ·show List.Pairwise _ _;rw[List.pairwise_map];refine List.Pairwise.imp_of_mem ?_ o.sorted;intro a b ha hb h;have:=(o.range a ha).1;have:=(o.range b hb).1;omega
   ·obtain⟨x,hx,rfl⟩:=List.mem_map.1 hi;have h1:=(o.range x hx).1;have h2:=top x hx;rw[List.mem_filter];refine⟨List.mem_range.2 (by omega),?_⟩;rw[decide_eq_true_iff];exact(inn (x-2) (by omega)).2 (by rw[show x-2+2=x by omega];exact hx)
   ·rw[List.mem_filter]at hi;have h1:=List.mem_range.1 hi.1;have h2:¬wd i=0:=by simpa using hi.2
    exact List.mem_map.2 ⟨i+2,(inn i h1).1 h2,by omega⟩
  have e2:(frees wd (downL W W)).length=((List.range W).filter fun i=>decide (wd i=0)).length:=by
   unfold frees;rw[List.length_map];exact Nat.le_antisymm (len_sub (((downL_fall W).imp fun h=>by omega:(downL W W).Nodup).filter _) fun i hi=>by
    rw[List.mem_filter]at hi ⊢;exact⟨List.mem_range.2 (downL_mem.1 hi.1),hi.2⟩) (len_sub (List.nodup_range.filter _) fun i hi=>by
    rw[List.mem_filter]at hi ⊢;exact⟨downL_mem.2 (List.mem_range.1 hi.1),hi.2⟩)
  rw[e1,e2];have h2:∀l:List Nat,(l.filter fun i=>decide (¬wd i=0)).length+(l.filter fun i=>decide (wd i=0)).length=l.length:=fun l=>by
   induction l with
   | nil=>rfl
   | cons a l ih =>
    by_cases z:wd a=0
    ·rw[List.filter_cons_of_neg (by simp[z]),List.filter_cons_of_pos (by simp[z]),List.length_cons,List.length_cons];omega
    ·rw[List.filter_cons_of_pos (by simp[z]),List.filter_cons_of_neg (by simp[z]),List.length_cons,List.length_cons];omega
  rw[h2,List.length_range]
end Go.Proofs.YtnnmdkaoiofabaaGreat.Mk
namespace Go.Proofs.YtnnmdkaoiofabaaGreat.Mk
open Go Go.RowKit
section
variable {F:Fence}{n:Nat}{P:Program}{ops:Array Oper}{Q:Exit→Act→World→Prop}
def ClosedI (ops:Array Oper) (listed:Array Bool):Prop:=∀j o,listed.getD j false=true→ops[j]? = some o→∀e∈o.after,Region.binds .any e=true→listed.getD e.on false=true
theorem wpAnyIn_listed (G:Array Bool→Act→World→Prop) (hw:waitsBack ops=true)
  (step:∀listed i o a w,ops[i]? = some o→listed.size=ops.size→listed.getD i false=false→(∀e∈o.after,Region.binds .any e=true→listed.getD e.on false=true)→ClosedI ops listed→G listed a w→wpOpIn F n P ops Q i (fun a' w'=>G (listed.setIfInBounds i true) a' w') a w)
  (done:∀listed a w,(∀i,i<ops.size→listed.getD i false=true)→G listed a w→Q .normal a w) :
  ∀(fuel:Nat) (listed:Array Bool) (a:Act) (w:World),listed.size=ops.size→(toCome ops.size listed).length≤fuel→ClosedI ops listed→G listed a w→wpAnyIn F n P .any ops Q fuel listed a w:=by
 intro fuel;induction fuel with
 | zero =>
  intro listed a w hn hc _ hG;have hr:Region.ready .any ops listed=[]:=by
   cases hr:Region.ready .any ops listed with
   | nil=>rfl
   | cons i rs =>
    have hi:i∈Region.ready .any ops listed:=by rw[hr];exact List.mem_cons_self
    obtain⟨h1,o,ho,_⟩:=mem_ready.1 hi;have:=toCome_set hn h1;omega
  exact⟨hr,done listed a w (ready_some hw hn hr) hG⟩
 | succ fuel ih =>
  intro listed a w hn hc hL hG;refine⟨fun hr=>done listed a w (ready_some hw hn hr) hG,fun i hi=>?_⟩;obtain⟨h1,o,ho,h2⟩:=mem_ready.1 hi;have hil:listed.getD i false=false:=by
   have hlt:i<listed.size:=by rw[hn];exact(Array.getElem?_eq_some_iff.1 ho).1
   simp[hlt]at h1 ⊢;exact h1
  refine wpOpIn_mono (fun a' w' g=>?_) (step listed i o a w ho hn hil h2 hL hG);refine ih _ a' w' (by simpa using hn) ?_ ?_ g
  ·have:=toCome_set hn h1;omega
  ·intro j o' hj ho' ed hed hb;by_cases e:i=j
   ·subst e;obtain rfl:o=o':=Option.some.inj (ho.symm.trans ho');exact getD_set_true (h2 ed hed hb)
   ·rw[getD_set_ne false e]at hj;exact getD_set_true (hL j o' hj ho' ed hed hb)
theorem wpIn_region_listed {id:Nat}{a:Act}{w:World}(hm:P.follows .mixedOrders=true) (G:Array Bool→Act→World→Prop) (hw:waitsBack ops=true)
  (step:∀listed i o a w,ops[i]? = some o→listed.size=ops.size→listed.getD i false=false→(∀e∈o.after,Region.binds .any e=true→listed.getD e.on false=true)→ClosedI ops listed→G listed a w→wpOpIn F n P ops Q i (fun a' w'=>G (listed.setIfInBounds i true) a' w') a w)
  (done:∀listed a w,(∀i,i<ops.size→listed.getD i false=true)→G listed a w→Q .normal a w)
  (start:G (Array.replicate ops.size false) a w.drew):(Code.region id ops true).wpIn F n P Q a w:=by
 refine wpIn_region_any hm ?_;change wpAnyIn _ _ _ _ _ _ _ _ _ w.drew;refine wpAnyIn_listed G hw step done ops.size _ a w.drew (by simp) ?_ (fun j o hj=>?_) start
 ·unfold toCome;have:=List.length_filter_le (fun j=>!(Array.replicate ops.size false).getD j true) (List.range ops.size);simpa using this
 ·by_cases h:j<ops.size <;> simp[h]at hj
theorem wpOpIn_plain {i:Nat}{o:Oper}{a:Act}{w:World}{K:Act→World→Prop}(ho:ops[i]? = some o) (hg:o.guard=none) (h:o.wpIn F n P a w K Q):wpOpIn F n P ops Q i K a w:=by
 have hwant:Region.wanted o (yielded ops a.tmps)=true:=by simp[Region.wanted,hg]
 unfold wpOpIn;rw[ho];simp only[hwant,if_true];exact h
end
structure SH (ws:Nat→World) (ph:Array Bool→Nat) (n b:Nat) (val:Nat→Value) (a0:Act) (listed:Array Bool) (a:Act) (w:World):Prop where
 size:a.tmps.size=a0.tmps.size
 defers:a.defers=a0.defers
 other:∀s,(s<b∨b+n≤s)→slot a s=slot a0 s
 vals:∀i,i<n→listed.getD i false=true→slot a (b+i)=val i
 world:w=ws (ph listed)
section
variable {ws:Nat→World}{ph:Array Bool→Nat}{n b:Nat}{val:Nat→Value}{a0:Act}{listed:Array Bool}{a:Act}{w w':World}
theorem SH.start (k:Nat) (hw:w=ws (ph (Array.replicate k false))):SH ws ph n b val a0 (Array.replicate k false) a0 w:=by
 refine⟨rfl,rfl,fun _ _=>rfl,fun i _ hl=>?_,hw⟩;by_cases h:i<k <;> simp[h]at hl
theorem SH.step (g:SH ws ph n b val a0 listed a w){i:Nat}(hi:i<n) (hb:b+n≤a0.tmps.size) (k:w'=ws (ph (listed.setIfInBounds i true))):SH ws ph n b val a0 (listed.setIfInBounds i true) (a.put (some (b+i)) (val i)) w':=by
 refine⟨by simp[Act.put,g.size],by simp[Act.put,g.defers],fun s hs=>?_,fun j hj hl=>?_,k⟩
 ·rw[slot_put_ne _ (show @Ne Nat (b+i) s by omega)];exact g.other s hs
 ·by_cases e:i=j
  ·subst e;exact slot_put_eq _ (show @LT.lt Nat _ (b+i) a.tmps.size by rw[g.size];omega)
  ·rw[getD_set_ne false e]at hl;rw[slot_put_ne _ (show @Ne Nat (b+i) (b+j) by omega)];exact g.vals j hj hl
theorem SH.store (g:SH ws ph n b val a0 listed a w) (k:w'=ws (ph (listed.setIfInBounds n true))) (d:Option Tmp) (hd:d=none) (v:Value):SH ws ph n b val a0 (listed.setIfInBounds n true) (a.put d v) w':=by
 subst hd;exact⟨g.size,g.defers,g.other,fun j hj hl=>g.vals j hj (by rwa [getD_set_ne false (by omega)]at hl),k⟩
end
theorem op_app_in {l m:Nat}{o:Oper}{a:Act}{w w':World}{K:Act→World→Prop}{Q:Exit→Act→World→Prop}(s x:Operand) (hop:o.op=Op.call { callee:=Callee.builtin Builtin.append,args:=#[s,x],argTypes:=#[32,32] })
  (v u r:Value) (hs:a.eval s=v) (hx:a.eval x=u) (hrun:(Builtin.append_ #[32,32] o.type #[v,u]).run Tryz.prog w = .ok r w')
  (hK:K (a.put o.dst r) w'):Oper.wpIn (Fence.wide.inRound l) m Tryz.prog o a w K Q:=by
 unfold Oper.wpIn;refine⟨fun _ _=>trivial,?_⟩;rw[show (Fence.wide.inRound l).round=some l from rfl,Oper.semAt_some l _ _ (by rw[hop];intro c h;cases h)];simp[execOp,hop,resolve,invoke,builtin,hs,hx,hrun,Result.andThen];exact hK
end Go.Proofs.YtnnmdkaoiofabaaGreat.Mk
