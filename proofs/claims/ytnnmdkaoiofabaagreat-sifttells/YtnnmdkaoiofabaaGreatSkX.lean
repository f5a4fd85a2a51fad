/-
  Three tables among the arguments, and in one block; three handles in one.
  Two slices grow side by side in a drawn statement: a handle and its function.
-/
import Derived.Test.YtnnmdkaoiofabaaGreatSwUT
import Derived.Test.YtnnmdkaoiofabaaGreatBaseG
import Derived.Test.YtnnmdkaoiofabaaGreatArgX
import Derived.Test.YtnnmdkaoiofabaaGreatLgc
namespace Go.Proofs.YtnnmdkaoiofabaaGreat.Sw
open Go.ChangeShapes Go.WideShapes Go.ChangeAt Go.RowKit Go
open Rf (tab word ofWords word_of IsTab)
def tab3 (G:Nat→Nat→Bool):Value:=.agg #[.int .u64 (word (G 0) 0:Int),.int .u64 (word (G 0) 1:Int),.int .u64 (word (G 0) 2:Int),.int .u64 (word (G 0) 3:Int),.int .u64 (word (G 1) 0:Int),.int .u64 (word (G 1) 1:Int),.int .u64 (word (G 1) 2:Int),.int .u64 (word (G 1) 3:Int),.int .u64 (word (G 2) 0:Int),.int .u64 (word (G 2) 1:Int),.int .u64 (word (G 2) 2:Int),.int .u64 (word (G 2) 3:Int)]
def IsT3 (w:World) (b:Nat) (G:Nat→Nat→Bool):Prop:=w.rowIs b 25 12 (fun i=>.int .u64 (word (G (i / 4)) (i % 4):Int))
theorem IsT3.new (w:World) (G:Nat→Nat→Bool):IsT3 (w.alloc (.cells #[.int .u64 (word (G 0) 0:Int),.int .u64 (word (G 0) 1:Int),.int .u64 (word (G 0) 2:Int),.int .u64 (word (G 0) 3:Int),.int .u64 (word (G 1) 0:Int),.int .u64 (word (G 1) 1:Int),.int .u64 (word (G 1) 2:Int),.int .u64 (word (G 1) 3:Int),.int .u64 (word (G 2) 0:Int),.int .u64 (word (G 2) 1:Int),.int .u64 (word (G 2) 2:Int),.int .u64 (word (G 2) 3:Int)] 25)) w.heap.size G:=
 World.rowIs_alloc w #[.int .u64 (word (G 0) 0:Int),.int .u64 (word (G 0) 1:Int),.int .u64 (word (G 0) 2:Int),.int .u64 (word (G 0) 3:Int),.int .u64 (word (G 1) 0:Int),.int .u64 (word (G 1) 1:Int),.int .u64 (word (G 1) 2:Int),.int .u64 (word (G 1) 3:Int),.int .u64 (word (G 2) 0:Int),.int .u64 (word (G 2) 1:Int),.int .u64 (word (G 2) 2:Int),.int .u64 (word (G 2) 3:Int)] 25 _ fun i hi=>by
  have hi:i<12:=hi
  have:i=0∨i=1∨i=2∨i=3∨i=4∨i=5∨i=6∨i=7∨i=8∨i=9∨i=10∨i=11:=by omega
  rcases this with rfl|rfl|rfl|rfl|rfl|rfl|rfl|rfl|rfl|rfl|rfl|rfl <;> rfl
theorem IsT3.lt {w:World}{b:Nat}{G:Nat→Nat→Bool}(h:IsT3 w b G):b<w.heap.size:=World.rowIs.lt h
theorem IsT3.kept {w w':World}{b:Nat}{G:Nat→Nat→Bool}(h:IsT3 w b G) (k:Below w.heap.size w w'):IsT3 w' b G:=World.rowIs.of_block h (k.block _ h.lt)
theorem IsT3.cells {w:World}{b:Nat}{G:Nat→Nat→Bool}(h:IsT3 w b G){i:Nat}(hi:i<3):w.cell? ⟨b,i*4,none⟩=some (.int .u64 (word (G i) 0:Int))∧w.cell? ⟨b,i*4+1,none⟩=some (.int .u64 (word (G i) 1:Int))∧w.cell? ⟨b,i*4+2,none⟩=some (.int .u64 (word (G i) 2:Int))∧w.cell? ⟨b,i*4+3,none⟩=some (.int .u64 (word (G i) 3:Int)):=by
 have c:=fun k (hk:k<4)=>World.rowIs.cell h (i:=i*4+k) (by omega)
 have e1:=fun k (hk:k<4)=>(show (i*4+k) / 4=i by omega)
 have e2:=fun k (hk:k<4)=>(show (i*4+k) % 4=k by omega)
 refine⟨?_,?_,?_,?_⟩
 ·have:=c 0 (by omega);rw[e1 0 (by omega),e2 0 (by omega)]at this;exact this
 ·have:=c 1 (by omega);rw[e1 1 (by omega),e2 1 (by omega)]at this;exact this
 ·have:=c 2 (by omega);rw[e1 2 (by omega),e2 2 (by omega)]at this;exact this
 ·have:=c 3 (by omega);rw[e1 3 (by omega),e2 3 (by omega)]at this;exact this
theorem cells3T : Tryz.prog.cellsOf 25=12:=by kernel_rfl
def numOf : Option Value→Nat
 | some (.int _ z)=>z.toNat
 | _=>0
theorem tab3_of {cs:Array Value}(hs:cs.size=12) (key:∀k,k<12→∃n:Nat,n<18446744073709551616∧cs[k]? = some (.int .u64 (n:Int))):∃G,Value.agg cs=tab3 G:=by
 have N:∀k,k<12→cs[k]? = some (.int .u64 (numOf cs[k]?:Int))∧numOf cs[k]? < 18446744073709551616:=fun k hk=>by
  obtain⟨n,hn,e⟩:=key k hk;rw[e];exact⟨by simp[numOf],by simpa[numOf]using hn⟩
 refine⟨fun i=>ofWords (numOf cs[i*4]?) (numOf cs[i*4+1]?) (numOf cs[i*4+2]?) (numOf cs[i*4+3]?),?_⟩
 have w:∀i,i<3→word (ofWords (numOf cs[i*4]?) (numOf cs[i*4+1]?) (numOf cs[i*4+2]?) (numOf cs[i*4+3]?)) 0=numOf cs[i*4]?∧word (ofWords (numOf cs[i*4]?) (numOf cs[i*4+1]?) (numOf cs[i*4+2]?) (numOf cs[i*4+3]?)) 1=numOf cs[i*4+1]?∧word (ofWords (numOf cs[i*4]?) (numOf cs[i*4+1]?) (numOf cs[i*4+2]?) (numOf cs[i*4+3]?)) 2=numOf cs[i*4+2]?∧word (ofWords (numOf cs[i*4]?) (numOf cs[i*4+1]?) (numOf cs[i*4+2]?) (numOf cs[i*4+3]?)) 3=numOf cs[i*4+3]?:=fun i hi =>
  word_of _ _ _ _ (N _ (by omega)).2 (N _ (by omega)).2 (N _ (by omega)).2 (N _ (by omega)).2
 unfold tab3;congr 1;obtain⟨a0,a1,a2,a3⟩:=w 0 (by omega);obtain⟨b0,b1,b2,b3⟩:=w 1 (by omega);obtain⟨d0,d1,d2,d3⟩:=w 2 (by omega);rw[a0,a1,a2,a3,b0,b1,b2,b3,d0,d1,d2,d3];apply Array.ext_getElem?;intro k;by_cases hk:k<12
 ·rw[(N k hk).1];have c:k=0∨k=1∨k=2∨k=3∨k=4∨k=5∨k=6∨k=7∨k=8∨k=9∨k=10∨k=11:=by omega
  rcases c with rfl|rfl|rfl|rfl|rfl|rfl|rfl|rfl|rfl|rfl|rfl|rfl <;> rfl
 ·rw[Array.getElem?_eq_none (by omega),Array.getElem?_eq_none (by show 12≤k;omega)]
set_option maxRecDepth 100000 in
theorem open_tab3 {H:Type}{enc:TypeId×Value→H}{W:World}{b0 base:Nat}{sp:Nat→Bool}{held:Bool}{v:Value}{d:DataW H}{p:List MemPlace}
  (hok:Value.okWide Tryz.prog W .any b0 25 v) (h:DataW.Trod enc Tryz.prog W base sp held 25 v d p):∃G,v=tab3 G:=by
 have hok':∃cs,v = .agg cs∧cs.size=12:=by
  simp only[Value.okWide,Tryz.underlying25]at hok;obtain⟨cs,e,hs,_⟩:=hok;exact⟨cs,e,hs.trans cells3T⟩
 obtain⟨cs,rfl,hs⟩:=hok';obtain⟨fuel,hf⟩:=h;have key:∀k,k<12→∃n:Nat,n<18446744073709551616∧cs[k]? = some (.int .u64 (n:Int)):=by
  cases fuel with
  | zero=>simp[DataW.trod]at hf
  | succ fuel =>
   simp only[DataW.trod,Tryz.underlying25,cellsT,cells3T,Value.cells]at hf;split at hf
   ·obtain⟨ys,hm,hx⟩:=Option.map_eq_some_iff.1 hf;intro k hk;obtain⟨y,_,hy⟩:=Lib.mapM_at hm (k / 4) (k / 4) (by rw[List.getElem?_range (by omega)]);cases fuel with
    | zero=>simp[DataW.trod]at hy
    | succ fuel =>
     simp only[DataW.trod,Tryz.underlying24,cellsW,cellsT]at hy;split at hy
     ·obtain⟨zs,hm2,_⟩:=Option.map_eq_some_iff.1 hy;obtain⟨q,_,hq⟩:=Lib.mapM_at hm2 (k % 4) (k % 4) (by rw[List.getElem?_range (by omega)]);obtain⟨z,hc,_,hwf⟩:=DataW.trod_int Tryz.underlying22 hq;have hz:=wf_u64 hwf;have h1:cs[k]? = some (.int .u64 z):=by
       have:=congrArg (·[0]?) hc;simp only[List.getElem?_take,List.getElem?_drop,Nat.mul_one,Nat.add_zero]at this;rw[if_pos (by omega),if_pos (by omega),Array.getElem?_toList,show k / 4*4+k % 4=k by omega]at this;exact this
      exact⟨z.toNat,by omega,by rw[h1];congr 2;omega⟩
     ·cases hy
   ·cases hf
 exact tab3_of hs key
end Go.Proofs.YtnnmdkaoiofabaaGreat.Sw

namespace Go.Proofs.YtnnmdkaoiofabaaGreat.Sk
open Go Go.RowKit
open Rf (tab word IsTab)
theorem _root_.Go.Proofs.YtnnmdkaoiofabaaGreat.Rf.Own.keep {w w':World}{B cap:Nat}{ad:Option Addr}{ts:List (Nat→Bool)}(h:Rf.Own w B ad ts cap) (k:∀b,At ad b→w'.heap[b]? = w.heap[b]?):Rf.Own w' B ad ts cap:=by
 obtain⟨h1,h2⟩:=h;refine⟨h1,?_⟩;rcases h2 with h2|⟨g,cap',cur,hv,hb,hh,r⟩
 ·exact .inl h2
 ·have had:ad=some ⟨g,0,none⟩:=by injection hv
  exact .inr ⟨g,cap',cur,hv,hb,(k g ⟨_,had,rfl⟩).trans hh,r⟩
theorem _root_.Go.Proofs.YtnnmdkaoiofabaaGreat.Rf.Own.lt {w:World}{B cap:Nat}{ad:Option Addr}{ts:List (Nat→Bool)}(h:Rf.Own w B ad ts cap):∀b,At ad b→B≤b∧b<w.heap.size:=by
 rintro k ⟨a,rfl,rfl⟩;exact h.blockGe a.block rfl
theorem _root_.Go.Proofs.YtnnmdkaoiofabaaGreat.Rf.Own.below' {w w':World}{B cap:Nat}{ad:Option Addr}{ts:List (Nat→Bool)}(h:Rf.Own w B ad ts cap) (k:Below w.heap.size w w'):Rf.Own w' B ad ts cap:=h.keep fun b hb=>k.block b (h.lt b hb).2
theorem run_app_t {w:World}{B cap:Nat}{ad:Option Addr}{ts:List (Nat→Bool)}(hown:Rf.Own w B ad ts cap) (F:Nat→Bool) (src:Nat) (hsrc:IsTab w src F) (hn:ts.length≤1000000) (hB:B≤w.heap.size) :
  ∃g cap' w',(Builtin.append_ #[33,33] 33 #[.slice ad ts.length cap,.slice (some ⟨src,0,none⟩) 1 1]).run Tryz.prog w = .ok (.slice (some ⟨g,0,none⟩) (ts.length+1) cap') w'∧Rf.Own w' B (some ⟨g,0,none⟩) (ts ++ [F]) cap'∧Went (At ad) w w'∧(At ad g∨g=w.heap.size):=by
 have hob:∀k,some k=(Value.slice ad ts.length cap).ownBlock→At ad k:=by
  intro k hk;cases ad with
  | none=>simp[Value.ownBlock]at hk
  | some a=>exact⟨a,rfl,by simpa[Value.ownBlock]using hk.symm⟩
 obtain⟨i,hi,hzz⟩:=Option.map_eq_some_iff.1 Rf.info24;simp only[Prod.mk.injEq]at hzz;obtain⟨hz,hsz,hby⟩:=hzz;have hblk':w.heap[src]? = some (.cells #[.int .u64 (word F 0:Int),.int .u64 (word F 1:Int),.int .u64 (word F 2:Int),.int .u64 (word F 3:Int)] 24 (0,0)):=hsrc;obtain⟨g,cap',w',hr,o1,o2,o3,o4⟩:=run_append_lies (P:=Tryz.prog) w 33 33 B 24 i _ 4 32 Tryz.underlying33 hi hz hsz hby (by kernel_rfl) (by decide) (.slice ad ts.length cap) ts.length (Rf.cellsL ts) hown ⟨src,0,none⟩ 1 1 (Rf.cells4 F) rfl (World.news_of_block hblk') (fun u hu=>by
  simp only[Rf.cells4,List.mem_cons,List.not_mem_nil,or_false]at hu;rcases hu with rfl|rfl|rfl|rfl <;> rfl) (by decide) (by simp only[maxLen];omega) (by omega) hB w.heap.size rfl
 refine⟨g,cap',w',hr,?_,⟨o2.os,o2.tape,o2.output,o2.size,fun k hk hA=>o2.block k hk fun e=>hA (hob k e)⟩,o3.elim (fun e=>.inl (hob g e.symm)) .inr⟩;unfold Rf.Own;rw[Rf.cellsL_append,List.length_append];exact o1
structure Gf (val:Nat→Value) (a0:Act) (listed:Array Bool) (a:Act):Prop where
 size:a.tmps.size=a0.tmps.size
 defers:a.defers=a0.defers
 other:∀s:Nat,(s<65∨73≤s)→s≠12→s≠13→slot a s=slot a0 s
 vals:∀i,i<8→listed.getD i false=true→slot a (65+i)=val i
 o12:listed.getD 8 false=false→slot a 12=slot a0 12
 n12:listed.getD 8 false=true→slot a 12=val 3
 o13:listed.getD 9 false=false→slot a 13=slot a0 13
 n13:listed.getD 9 false=true→slot a 13=val 7
section
variable {val:Nat→Value}{a0 a:Act}{listed:Array Bool}
theorem Gf.step (g:Gf val a0 listed a){i:Nat}(hi:i<8) (hb:73≤a0.tmps.size) (v:Value) (h3:i=3→listed.getD 8 false=false) (h9:i=7→listed.getD 9 false=false):Gf (fun j=>if j=i then v else val j) a0 (listed.setIfInBounds i true) (a.put (some (65+i)) v):=by
 have n1:∀s:Nat,s≠65+i→slot (a.put (some (65+i)) v) s=slot a s:=fun s hs=>slot_put_ne _ (show @Ne Nat (65+i) s by omega)
 refine⟨by simp[Act.put,g.size],by simp[Act.put,g.defers],fun s hs h12 h13=>?_,fun j hj hl=>?_,fun hl=>?_,fun hl=>?_,fun hl=>?_,fun hl=>?_⟩
 ·rw[n1 s (by omega)];exact g.other s hs h12 h13
 ·by_cases e:j=i
  ·rw[if_pos e,e];exact slot_put_eq _ (show @LT.lt Nat _ (65+i) a.tmps.size by rw[g.size];omega)
  ·rw[if_neg e,n1 _ (by omega)];exact g.vals j hj (by rwa [getD_set_ne false (by omega)]at hl)
 ·rw[n1 12 (by omega)];exact g.o12 (by rwa [getD_set_ne false (by omega)]at hl)
 ·rw[getD_set_ne false (by omega)]at hl;rw[n1 12 (by omega),if_neg (fun e=>by rw[h3 e.symm]at hl;cases hl)];exact g.n12 hl
 ·rw[n1 13 (by omega)];exact g.o13 (by rwa [getD_set_ne false (by omega)]at hl)
 ·rw[getD_set_ne false (by omega)]at hl;rw[n1 13 (by omega),if_neg (fun e=>by rw[h9 e.symm]at hl;cases hl)];exact g.n13 hl
theorem Gf.set12 (g:Gf val a0 listed a) (hb:73≤a0.tmps.size) (hs:listed.size=10):Gf val a0 (listed.setIfInBounds 8 true) (a.put (some 12) (val 3)):=by
 have n1:∀s:Nat,s≠12→slot (a.put (some 12) (val 3)) s=slot a s:=fun s hs=>slot_put_ne _ (show @Ne Nat 12 s by omega)
 refine⟨by simp[Act.put,g.size],by simp[Act.put,g.defers],fun s hs h12 h13=>?_,fun j hj hl=>?_,fun hl=>?_,fun hl=>?_,fun hl=>?_,fun hl=>?_⟩
 ·rw[n1 s h12];exact g.other s hs h12 h13
 ·rw[n1 _ (by omega)];exact g.vals j hj (by rwa [getD_set_ne false (by omega)]at hl)
 ·simp[hs]at hl
 ·exact slot_put_eq _ (show @LT.lt Nat _ 12 a.tmps.size by rw[g.size];omega)
 ·rw[n1 13 (by omega)];exact g.o13 (by rwa [getD_set_ne false (by omega)]at hl)
 ·rw[n1 13 (by omega)];exact g.n13 (by rwa [getD_set_ne false (by omega)]at hl)
theorem Gf.set13 (g:Gf val a0 listed a) (hb:73≤a0.tmps.size) (hs:listed.size=10):Gf val a0 (listed.setIfInBounds 9 true) (a.put (some 13) (val 7)):=by
 have n1:∀s:Nat,s≠13→slot (a.put (some 13) (val 7)) s=slot a s:=fun s hs=>slot_put_ne _ (show @Ne Nat 13 s by omega)
 refine⟨by simp[Act.put,g.size],by simp[Act.put,g.defers],fun s hs h12 h13=>?_,fun j hj hl=>?_,fun hl=>?_,fun hl=>?_,fun hl=>?_,fun hl=>?_⟩
 ·rw[n1 s h13];exact g.other s hs h12 h13
 ·rw[n1 _ (by omega)];exact g.vals j hj (by rwa [getD_set_ne false (by omega)]at hl)
 ·rw[n1 12 (by omega)];exact g.o12 (by rwa [getD_set_ne false (by omega)]at hl)
 ·rw[n1 12 (by omega)];exact g.n12 (by rwa [getD_set_ne false (by omega)]at hl)
 ·simp[hs]at hl
 ·exact slot_put_eq _ (show @LT.lt Nat _ 13 a.tmps.size by rw[g.size];omega)
end
structure Gp (w0:World) (Bk nk ck ct x:Nat) (adk adt:Option Addr) (Vk:Nat→Value) (ts:List (Nat→Bool)) (F:Nat→Bool) (cst:Nat→Value) (val:Nat→Value) (listed:Array Bool) (w:World):Prop where
 p0:∀j,j<8→j≠2→j≠3→j≠6→j≠7→listed.getD j false=true→val j=cst j
 p2:listed.getD 2 false=true→∃b,val 2 = .slice (some ⟨b,0,none⟩) 1 1∧w.heap[b]? = some (.cells #[.int .u32 (x:Int)] 36 (0,0))∧w0.heap.size≤b
 p8:listed.getD 6 false=true→∃b,val 6 = .slice (some ⟨b,0,none⟩) 1 1∧IsTab w b F∧w0.heap.size≤b
 k0:listed.getD 3 false=false→OwnR 36 w Bk adk nk ck Vk
 k1:listed.getD 3 false=true→∃g c,val 3 = .slice (some ⟨g,0,none⟩) (nk+1) c∧OwnR 36 w Bk (some ⟨g,0,none⟩) (nk+1) c (fun i=>if i=nk then .int .u32 (x:Int)else Vk i)∧(At adk g∨w0.heap.size≤g)
 t0:listed.getD 7 false=false→Rf.Own w Bk adt ts ct
 t1:listed.getD 7 false=true→∃g c,val 7 = .slice (some ⟨g,0,none⟩) (ts.length+1) c∧Rf.Own w Bk (some ⟨g,0,none⟩) (ts ++ [F]) c∧(At adt g∨w0.heap.size≤g)
 went:Went (fun b=>At adk b∨At adt b) w0 w
section
variable {w0 w:World}{Bk nk ck ct x:Nat}{adk adt:Option Addr}{Vk:Nat→Value}{ts:List (Nat→Bool)}{F:Nat→Bool}{cst val:Nat→Value}{listed:Array Bool}
theorem Gp.pure (g:Gp w0 Bk nk ck ct x adk adt Vk ts F cst val listed w){i:Nat}(h2:i≠2) (h3:i≠3) (h8:i≠6) (h9:i≠7):Gp w0 Bk nk ck ct x adk adt Vk ts F cst (fun j=>if j=i then cst i else val j) (listed.setIfInBounds i true) w:=by
 have n:∀{j:Nat},j≠i→(listed.setIfInBounds i true).getD j false=listed.getD j false:=fun e=>getD_set_ne false (fun q=>e q.symm)
 refine⟨fun j hj a b c d hl=>?_,fun hl=>?_,fun hl=>?_,fun hl=>?_,fun hl=>?_,fun hl=>?_,fun hl=>?_,g.went⟩
 ·by_cases e:j=i
  ·rw[if_pos e,e]
  ·rw[if_neg e];exact g.p0 j hj a b c d (by rwa [n e]at hl)
 ·rw[if_neg (fun e=>h2 e.symm)];exact g.p2 (by rwa [n (fun e=>h2 e.symm)]at hl)
 ·rw[if_neg (fun e=>h8 e.symm)];exact g.p8 (by rwa [n (fun e=>h8 e.symm)]at hl)
 ·exact g.k0 (by rwa [n (fun e=>h3 e.symm)]at hl)
 ·rw[if_neg (fun e=>h3 e.symm)];exact g.k1 (by rwa [n (fun e=>h3 e.symm)]at hl)
 ·exact g.t0 (by rwa [n (fun e=>h9 e.symm)]at hl)
 ·rw[if_neg (fun e=>h9 e.symm)];exact g.t1 (by rwa [n (fun e=>h9 e.symm)]at hl)
theorem Gp.keptBy {w':World}(g:Gp w0 Bk nk ck ct x adk adt Vk ts F cst val listed w) (k:Below w.heap.size w w'):Gp w0 Bk nk ck ct x adk adt Vk ts F cst val listed w':=by
 refine⟨g.p0,fun hl=>?_,fun hl=>?_,fun hl=>(g.k0 hl).below k,fun hl=>?_,fun hl=>(g.t0 hl).below' k,fun hl=>?_,g.went.trans ⟨k.os,k.tape,k.output,k.size,fun i hi _=>k.block i hi⟩⟩
 ·obtain⟨b,e1,e2,e3⟩:=g.p2 hl;exact⟨b,e1,(k.block b (Array.getElem?_eq_some_iff.1 e2).1).trans e2,e3⟩
 ·obtain⟨b,e1,e2,e3⟩:=g.p8 hl;exact⟨b,e1,e2.kept k,e3⟩
 ·obtain⟨b,c,e1,e2,e3⟩:=g.k1 hl;exact⟨b,c,e1,e2.below k,e3⟩
 ·obtain⟨b,c,e1,e2,e3⟩:=g.t1 hl;exact⟨b,c,e1,e2.below' k,e3⟩
theorem Gp.set2 (g:Gp w0 Bk nk ck ct x adk adt Vk ts F cst val listed w) (v:Value) (hv:∃b,v = .slice (some ⟨b,0,none⟩) 1 1∧w.heap[b]? = some (.cells #[.int .u32 (x:Int)] 36 (0,0))∧w0.heap.size≤b):Gp w0 Bk nk ck ct x adk adt Vk ts F cst (fun j=>if j=2 then v else val j) (listed.setIfInBounds 2 true) w:=by
 have n:∀{j:Nat},j≠2→(listed.setIfInBounds 2 true).getD j false=listed.getD j false:=fun e=>getD_set_ne false (fun q=>e q.symm)
 refine⟨fun j hj a b c d hl=>?_,fun hl=>?_,fun hl=>?_,fun hl=>?_,fun hl=>?_,fun hl=>?_,fun hl=>?_,g.went⟩
 ·rw[if_neg (by omega)];exact g.p0 j hj a b c d (by rwa [n (by omega)]at hl)
 ·exact hv
 ·rw[n (by decide)]at hl;exact g.p8 hl
 ·rw[n (by decide)]at hl;exact g.k0 hl
 ·rw[n (by decide)]at hl;exact g.k1 hl
 ·rw[n (by decide)]at hl;exact g.t0 hl
 ·rw[n (by decide)]at hl;exact g.t1 hl
theorem Gp.set8 (g:Gp w0 Bk nk ck ct x adk adt Vk ts F cst val listed w) (v:Value) (hv:∃b,v = .slice (some ⟨b,0,none⟩) 1 1∧IsTab w b F∧w0.heap.size≤b):Gp w0 Bk nk ck ct x adk adt Vk ts F cst (fun j=>if j=6 then v else val j) (listed.setIfInBounds 6 true) w:=by
 have n:∀{j:Nat},j≠6→(listed.setIfInBounds 6 true).getD j false=listed.getD j false:=fun e=>getD_set_ne false (fun q=>e q.symm)
 refine⟨fun j hj a b c d hl=>?_,fun hl=>?_,fun hl=>?_,fun hl=>?_,fun hl=>?_,fun hl=>?_,fun hl=>?_,g.went⟩
 ·rw[if_neg (by omega)];exact g.p0 j hj a b c d (by rwa [n (by omega)]at hl)
 ·rw[n (by decide)]at hl;exact g.p2 hl
 ·exact hv
 ·rw[n (by decide)]at hl;exact g.k0 hl
 ·rw[n (by decide)]at hl;exact g.k1 hl
 ·rw[n (by decide)]at hl;exact g.t0 hl
 ·rw[n (by decide)]at hl;exact g.t1 hl
theorem Gp.app3 {w':World}{gg c:Nat}(g:Gp w0 Bk nk ck ct x adk adt Vk ts F cst val listed w) (hs:listed.size=10) (h9:listed.getD 7 false=false) (q:Went (At adk) w w') (o:OwnR 36 w' Bk (some ⟨gg,0,none⟩) (nk+1) c (fun i=>if i=nk then .int .u32 (x:Int)else Vk i)) (hg:At adk gg∨gg=w.heap.size) (kk:∀b,At adk b→b<w0.heap.size) (dis:∀b,At adk b→¬At adt b):Gp w0 Bk nk ck ct x adk adt Vk ts F cst (fun j=>if j=3 then .slice (some ⟨gg,0,none⟩) (nk+1) c else val j) (listed.setIfInBounds 3 true) w':=by
 have n:∀{j:Nat},j≠3→(listed.setIfInBounds 3 true).getD j false=listed.getD j false:=fun e=>getD_set_ne false (fun q=>e q.symm)
 have far:∀b,w0.heap.size≤b→b<w.heap.size→w'.heap[b]? = w.heap[b]?:=fun b h1 h2=>q.block b h2 fun e=>by have:=kk b e;omega
 refine⟨fun j hj a b c d hl=>?_,fun hl=>?_,fun hl=>?_,fun hl=>?_,fun hl=>?_,fun hl=>?_,fun hl=>?_,g.went.trans (q.wider fun _ e=>.inl e)⟩
 ·rw[if_neg b];exact g.p0 j hj a b c d (by rwa [n b]at hl)
 ·rw[n (by decide)]at hl;obtain⟨b,e1,e2,e3⟩:=g.p2 hl;exact⟨b,e1,(far b e3 (Array.getElem?_eq_some_iff.1 e2).1).trans e2,e3⟩
 ·rw[n (by decide)]at hl;obtain⟨b,e1,e2,e3⟩:=g.p8 hl;exact⟨b,e1,(far b e3 e2.lt).trans e2,e3⟩
 ·simp[hs]at hl
 ·exact⟨gg,c,rfl,o,hg.imp id fun e=>by have:=g.went.size;omega⟩
 ·rw[n (by decide)]at hl;exact(g.t0 hl).keep fun b hb=>q.block b ((g.t0 hl).lt b hb).2 fun e=>dis b e hb
 ·rw[n (by decide),h9]at hl;cases hl
theorem Gp.app9 {w':World}{gg c:Nat}(g:Gp w0 Bk nk ck ct x adk adt Vk ts F cst val listed w) (hs:listed.size=10) (h3:listed.getD 3 false=true) (q:Went (At adt) w w') (o:Rf.Own w' Bk (some ⟨gg,0,none⟩) (ts ++ [F]) c) (hg:At adt gg∨gg=w.heap.size) (kt:∀b,At adt b→b<w0.heap.size) (dis:∀b,At adk b→¬At adt b):Gp w0 Bk nk ck ct x adk adt Vk ts F cst (fun j=>if j=7 then .slice (some ⟨gg,0,none⟩) (ts.length+1) c else val j) (listed.setIfInBounds 7 true) w':=by
 have n:∀{j:Nat},j≠7→(listed.setIfInBounds 7 true).getD j false=listed.getD j false:=fun e=>getD_set_ne false (fun q=>e q.symm)
 have far:∀b,w0.heap.size≤b→b<w.heap.size→w'.heap[b]? = w.heap[b]?:=fun b h1 h2=>q.block b h2 fun e=>by have:=kt b e;omega
 refine⟨fun j hj a b c d hl=>?_,fun hl=>?_,fun hl=>?_,fun hl=>?_,fun hl=>?_,fun hl=>?_,fun hl=>?_,g.went.trans (q.wider fun _ e=>.inr e)⟩
 ·rw[if_neg d];exact g.p0 j hj a b c d (by rwa [n d]at hl)
 ·rw[n (by decide)]at hl;obtain⟨b,e1,e2,e3⟩:=g.p2 hl;exact⟨b,e1,(far b e3 (Array.getElem?_eq_some_iff.1 e2).1).trans e2,e3⟩
 ·rw[n (by decide)]at hl;obtain⟨b,e1,e2,e3⟩:=g.p8 hl;exact⟨b,e1,(far b e3 e2.lt).trans e2,e3⟩
 ·rw[n (by decide),h3]at hl;cases hl
 ·rw[n (by decide)]at hl;obtain⟨b,c',e1,e2,e3⟩:=g.k1 hl;refine⟨b,c',e1,e2.kept fun i hi=>?_,e3⟩;refine q.block i (e2.block i hi).2 fun e=>?_
  obtain⟨z,hz,rfl⟩:=hi;cases hz;rcases e3 with e3|e3
  ·exact dis _ e3 e
  ·have:=kt _ e;change b<_ at this;omega
 ·simp[hs]at hl
 ·exact⟨gg,c,rfl,o,hg.imp id fun e=>by have:=g.went.size;omega⟩
theorem Gp.pass (g:Gp w0 Bk nk ck ct x adk adt Vk ts F cst val listed w){i:Nat}(hi:8≤i):Gp w0 Bk nk ck ct x adk adt Vk ts F cst val (listed.setIfInBounds i true) w:=by
 have n:∀{j:Nat},j<8→(listed.setIfInBounds i true).getD j false=listed.getD j false:=fun e=>getD_set_ne false (by omega)
 exact⟨fun j hj a b c d hl=>g.p0 j hj a b c d (by rwa [n hj]at hl),fun hl=>g.p2 (by rwa [n (by decide)]at hl),fun hl=>g.p8 (by rwa [n (by decide)]at hl),fun hl=>g.k0 (by rwa [n (by decide)]at hl),fun hl=>g.k1 (by rwa [n (by decide)]at hl),fun hl=>g.t0 (by rwa [n (by decide)]at hl),fun hl=>g.t1 (by rwa [n (by decide)]at hl),g.went⟩
end
theorem op_app_p {o:Oper}{a:Act}{w w':World}{K:Act→World→Prop}{Q:Exit→Act→World→Prop}{t1 t2:TypeId}(s x:Operand) (hop:o.op=Op.call { callee:=Callee.builtin Builtin.append,args:=#[s,x],argTypes:=#[t1,t2] })
  (v u r:Value) (hs:a.eval s=v) (hx:a.eval x=u) (hrun:(Builtin.append_ #[t1,t2] o.type #[v,u]).run Tryz.prog w = .ok r w')
  (hK:K (a.put o.dst r) w'):Oper.wp Tryz.prog o a w K Q:=by
 unfold Oper.wp;simp[execOp,hop,resolve,invoke,builtin,hs,hx,hrun,Result.andThen];exact hK
def gcst (adk adt:Option Addr) (nk ck nt ct x:Nat) (F:Nat→Bool) (j:Nat):Value:=if j=0 then .slice adk nk ck else if j=1 then .int .u32 (x:Int)else if j=4 then .slice adt nt ct else tab F
set_option maxRecDepth 100000 in
set_option maxHeartbeats 4000000 in
theorem grow_region {pos:String}{Bk nk ck ct x bq:Nat}{adk adt:Option Addr}{Vk:Nat→Value}{ts:List (Nat→Bool)}{F:Nat→Bool}{a0:Act}{w:World}{Q:Exit→Act→World→Prop}(hsz:73≤a0.tmps.size)
  (p12:slot a0 12 = .slice adk nk ck) (p13:slot a0 13 = .slice adt ts.length ct) (p15:slot a0 15 = .pointer (some ⟨bq,0,none⟩)) (p16:slot a0 16 = .int .u32 (x:Int))
  (keep:OwnR 36 w Bk adk nk ck Vk) (kept:Rf.Own w Bk adt ts ct) (hB:Bk≤w.heap.size) (hnk:nk≤1000) (hnt:ts.length≤1000) (dis:∀b,At adk b→¬At adt b)
  (box:IsTab w bq F) (bqn:¬(At adk bq∨At adt bq))
  (done:∀b2 b8 g c g' c' w',OwnR 36 w' Bk (some ⟨g,0,none⟩) (nk+1) c (fun i=>if i=nk then .int .u32 (x:Int)else Vk i)→(At adk g∨w.heap.size≤g)→Rf.Own w' Bk (some ⟨g',0,none⟩) (ts ++ [F]) c'→(At adt g'∨w.heap.size≤g')→Went (fun b=>At adk b∨At adt b) w w' →
   Q .normal (Rf.vfin [(65,.slice adk nk ck),(66,.int .u32 (x:Int)),(67,.slice (some ⟨b2,0,none⟩) 1 1),(68,.slice (some ⟨g,0,none⟩) (nk+1) c),(69,.slice adt ts.length ct),(70,tab F),(71,.slice (some ⟨b8,0,none⟩) 1 1),(72,.slice (some ⟨g',0,none⟩) (ts.length+1) c'),(12,.slice (some ⟨g,0,none⟩) (nk+1) c),(13,.slice (some ⟨g',0,none⟩) (ts.length+1) c')] a0) w') :
  (Code.region 19 (#[{ dst:=some 65,op:=Op.move (Operand.tmp 12),type:=32,pos:=pos,after:=#[],guard:=none },{ dst:=some 66,op:=Op.move (Operand.tmp 16),type:=36,pos:=pos,after:=#[],guard:=none },{ dst:=some 67,op:=Op.buildSlice 32 1 #[(0,Operand.tmp 66)],type:=32,pos:=pos,after:=#[{ on:=1,ground:=Ground.data }],guard:=none },{ dst:=some 68,op:=Op.call { callee:=Callee.builtin Builtin.append,args:=#[Operand.tmp 65,Operand.tmp 67],argTypes:=#[32,32] },type:=32,pos:=pos,after:=#[{ on:=0,ground:=Ground.data },{ on:=2,ground:=Ground.data }],guard:=none },{ dst:=some 69,op:=Op.move (Operand.tmp 13),type:=33,pos:=pos,after:=#[],guard:=none },{ dst:=some 70,op:=Op.load 24 (Operand.tmp 15),type:=24,pos:=pos,after:=#[],guard:=none },{ dst:=some 71,op:=Op.buildSlice 33 1 #[(0,Operand.tmp 70)],type:=33,pos:=pos,after:=#[{ on:=5,ground:=Ground.data }],guard:=none },{ dst:=some 72,op:=Op.call { callee:=Callee.builtin Builtin.append,args:=#[Operand.tmp 69,Operand.tmp 71],argTypes:=#[33,33] },type:=33,pos:=pos,after:=#[{ on:=4,ground:=Ground.data },{ on:=6,ground:=Ground.data },{ on:=3,ground:=Ground.chain }],guard:=none },{ dst:=some 12,op:=Op.assign (Operand.tmp 68),type:=32,pos:=pos,after:=#[{ on:=3,ground:=Ground.data },{ on:=7,ground:=Ground.chain },{ on:=0,ground:=Ground.phase },{ on:=1,ground:=Ground.phase },{ on:=2,ground:=Ground.phase },{ on:=3,ground:=Ground.phase },{ on:=4,ground:=Ground.textOnly Departure.lateStores },{ on:=5,ground:=Ground.textOnly Departure.lateStores },{ on:=6,ground:=Ground.textOnly Departure.lateStores },{ on:=7,ground:=Ground.textOnly Departure.lateStoresUnsure }],guard:=none },{ dst:=some 13,op:=Op.assign (Operand.tmp 72),type:=33,pos:=pos,after:=#[{ on:=7,ground:=Ground.data },{ on:=8,ground:=Ground.chain },{ on:=0,ground:=Ground.phase },{ on:=1,ground:=Ground.phase },{ on:=2,ground:=Ground.phase },{ on:=3,ground:=Ground.phase },{ on:=4,ground:=Ground.phase },{ on:=5,ground:=Ground.phase },{ on:=6,ground:=Ground.phase },{ on:=7,ground:=Ground.phase },{ on:=8,ground:=Ground.phase }],guard:=none }]:Array Oper) true).wp Tryz.prog Q a0 w:=by
 have kk:∀b,At adk b→b<w.drew.heap.size:=fun b hb=>(keep.block b hb).2
 have kt:∀b,At adt b→b<w.drew.heap.size:=fun b hb=>(kept.lt b hb).2
 have bql:bq<w.heap.size:=box.lt;refine wp_region_listed (by kernel_rfl) (fun listed a w'=>∃val,Gf val a0 listed a∧Gp w.drew Bk nk ck ct x adk adt Vk ts F (gcst adk adt nk ck ts.length ct x F) val listed w') (by kernel_rfl) ?_ ?_ ?_
 ·rintro listed j o a w' ho hn hi hdep hcl ⟨val,g,p⟩;have hs:listed.size=10:=hn;have hj10:j<10:=(Array.getElem?_eq_some_iff.1 ho).1;have e8:∀m,m<4→listed.getD 8 false=true→listed.getD m false=true:=fun m hm q=>by
   have:m=0∨m=1∨m=2∨m=3:=by omega
   rcases this with rfl|rfl|rfl|rfl
   ·exact hcl 8 _ q rfl { on:=0,ground:=.phase } (by simp) (by decide)
   ·exact hcl 8 _ q rfl { on:=1,ground:=.phase } (by simp) (by decide)
   ·exact hcl 8 _ q rfl { on:=2,ground:=.phase } (by simp) (by decide)
   ·exact hcl 8 _ q rfl { on:=3,ground:=.phase } (by simp) (by decide)
  have e7:listed.getD 7 false=true→listed.getD 3 false=true:=fun q=>hcl 7 _ q rfl { on:=3,ground:=.chain } (by simp) (by decide)
  have e9:∀m,m=4∨m=7→listed.getD 9 false=true→listed.getD m false=true:=fun m hm q=>by
   rcases hm with rfl|rfl
   ·exact hcl 9 _ q rfl { on:=4,ground:=.phase } (by simp) (by decide)
   ·exact hcl 9 _ q rfl { on:=7,ground:=.data } (by simp) (by decide)
  have no:∀{m},(listed.getD m false=true→listed.getD j false=true)→listed.getD m false=false:=fun {m} h=>by
   cases q:listed.getD m false with
   | false=>rfl
   | true=>rw[h q]at hi;cases hi
  have q15:a.tmps.getD 15 undef = .pointer (some ⟨bq,0,none⟩):=(g.other 15 (by omega) (by omega) (by omega)).trans p15;have q16:a.tmps.getD 16 undef = .int .u32 (x:Int):=(g.other 16 (by omega) (by omega) (by omega)).trans p16;have lt10:j=0∨j=1∨j=2∨j=3∨j=4∨j=5∨j=6∨j=7∨j=8∨j=9:=by omega
  rcases lt10 with rfl|rfl|rfl|rfl|rfl|rfl|rfl|rfl|rfl|rfl
  ·simp at ho;subst ho;have q12:a.tmps.getD 12 undef = .slice adk nk ck:=(g.o12 (no (e8 0 (by omega)))).trans p12;refine wpOp_plain rfl rfl ?_;go_simp
   exact⟨_,g.step (i:=0) (by omega) hsz (gcst adk adt nk ck ts.length ct x F 0) (by omega) (by omega),p.pure (by decide) (by decide) (by decide) (by decide)⟩
  ·simp at ho;subst ho;refine wpOp_plain rfl rfl ?_;go_simp
   exact⟨_,g.step (i:=1) (by omega) hsz (gcst adk adt nk ck ts.length ct x F 1) (by omega) (by omega),p.pure (by decide) (by decide) (by decide) (by decide)⟩
  ·simp at ho;subst ho;have l1:=hdep { on:=1,ground:=.data } (by simp) (by decide);have v1:a.tmps[66]?.getD undef = .int .u32 (x:Int):=by
    have:=(g.vals 1 (by omega) l1).trans (p.p0 1 (by omega) (by decide) (by decide) (by decide) (by decide) l1);simpa[slot,gcst]using this
   refine wpOp_plain rfl rfl ?_;go_simp
   have k:=nb w' (.cells #[.int .u32 (x:Int)] 36);exact⟨_,g.step (i:=2) (by omega) hsz _ (by omega) (by omega),(p.keptBy k).set2 _ ⟨w'.heap.size,rfl,heap_alloc_new _ _,p.went.size⟩⟩
  ·simp at ho;subst ho;have l0:=hdep { on:=0,ground:=.data } (by simp) (by decide);have l2:=hdep { on:=2,ground:=.data } (by simp) (by decide);have v0:a.tmps.getD 65 undef = .slice adk nk ck:=(g.vals 0 (by omega) l0).trans (p.p0 0 (by omega) (by decide) (by decide) (by decide) (by decide) l0);obtain⟨b,e1,e2,e3⟩:=p.p2 l2;have v2:a.tmps.getD 67 undef = .slice (some ⟨b,0,none⟩) 1 1:=(g.vals 2 (by omega) l2).trans e1;obtain⟨gg,c,u,hr,o1,r1,hg⟩:=run_app_h (p.k0 hi) b (x:Int) e2 (by omega) (Nat.le_trans hB p.went.size);refine wpOp_plain rfl rfl ?_
   refine op_app_p (.tmp 65) (.tmp 67) rfl _ _ _ (by simp[Act.eval,v0]) (by simp[Act.eval,v2]) hr ?_;exact⟨_,g.step (i:=3) (by omega) hsz _ (fun _=>no (e8 3 (by omega))) (by omega),p.app3 hs (no e7) r1 o1 hg kk dis⟩
  ·simp at ho;subst ho;have q13:a.tmps.getD 13 undef = .slice adt ts.length ct:=(g.o13 (no (e9 4 (.inl rfl)))).trans p13;refine wpOp_plain rfl rfl ?_;go_simp
   exact⟨_,g.step (i:=4) (by omega) hsz (gcst adk adt nk ck ts.length ct x F 4) (by omega) (by omega),p.pure (by decide) (by decide) (by decide) (by decide)⟩
  ·simp at ho;subst ho;have bx:IsTab w' bq F:=(p.went.block bq bql bqn).trans box;have x0:=bx.cell (k:=0) (by decide);have x1:=bx.cell (k:=1) (by decide);have x2:=bx.cell (k:=2) (by decide);have x3:=bx.cell (k:=3) (by decide);refine wpOp_plain rfl rfl ?_;go_simp
   exact⟨_,g.step (i:=5) (by omega) hsz (gcst adk adt nk ck ts.length ct x F 5) (by omega) (by omega),p.pure (by decide) (by decide) (by decide) (by decide)⟩
  ·simp at ho;subst ho;have l5:=hdep { on:=5,ground:=.data } (by simp) (by decide);have v5:a.tmps[70]?.getD undef=tab F:=by
    have:=(g.vals 5 (by omega) l5).trans (p.p0 5 (by omega) (by decide) (by decide) (by decide) (by decide) l5);simpa[slot,gcst]using this
   unfold tab at v5;refine wpOp_plain rfl rfl ?_;go_simp
   have k:=nb w' (.cells #[.int .u64 (word F 0:Int),.int .u64 (word F 1:Int),.int .u64 (word F 2:Int),.int .u64 (word F 3:Int)] 24);exact⟨_,g.step (i:=6) (by omega) hsz _ (by omega) (by omega),(p.keptBy k).set8 _ ⟨w'.heap.size,rfl,IsTab.new w' F,p.went.size⟩⟩
  ·simp at ho;subst ho;have l4:=hdep { on:=4,ground:=.data } (by simp) (by decide);have l6:=hdep { on:=6,ground:=.data } (by simp) (by decide);have l3:=hdep { on:=3,ground:=.chain } (by simp) (by decide);have v4:a.tmps.getD 69 undef = .slice adt ts.length ct:=(g.vals 4 (by omega) l4).trans (p.p0 4 (by omega) (by decide) (by decide) (by decide) (by decide) l4);obtain⟨b,e1,e2,e3⟩:=p.p8 l6;have v6:a.tmps.getD 71 undef = .slice (some ⟨b,0,none⟩) 1 1:=(g.vals 6 (by omega) l6).trans e1;obtain⟨gg,c,u,hr,o1,r1,hg⟩:=run_app_t (p.t0 hi) F b e2 (by omega) (Nat.le_trans hB p.went.size)
   refine wpOp_plain rfl rfl ?_;refine op_app_p (.tmp 69) (.tmp 71) rfl _ _ _ (by simp[Act.eval,v4]) (by simp[Act.eval,v6]) hr ?_;exact⟨_,g.step (i:=7) (by omega) hsz _ (by omega) (fun _=>no (e9 7 (.inr rfl))),p.app9 hs l3 r1 o1 hg kt dis⟩
  ·simp at ho;subst ho;have l3:=hdep { on:=3,ground:=.data } (by simp) (by decide);have v3:a.tmps.getD 68 undef=val 3:=g.vals 3 (by omega) l3;refine wpOp_plain rfl rfl ?_;go_simp
   exact⟨val,g.set12 hsz hs,p.pass (by omega)⟩
  ·simp at ho;subst ho;have l7:=hdep { on:=7,ground:=.data } (by simp) (by decide);have v7:a.tmps.getD 72 undef=val 7:=g.vals 7 (by omega) l7;refine wpOp_plain rfl rfl ?_;go_simp
   exact⟨val,g.set13 hsz hs,p.pass (by omega)⟩
 ·rintro listed a w' hall ⟨val,g,p⟩;have hl:∀m,m<10→listed.getD m false=true:=fun m hm=>hall m hm
  obtain⟨b2,e2,_,_⟩:=p.p2 (hl 2 (by omega));obtain⟨b8,e8,_,_⟩:=p.p8 (hl 6 (by omega));obtain⟨gg,c,e3,o3,h3⟩:=p.k1 (hl 3 (by omega));obtain⟨gt,ct',e9,o9,h9⟩:=p.t1 (hl 7 (by omega));have cv:∀m:Nat,m<8→m≠2→m≠3→m≠6→m≠7→slot a (65+m)=gcst adk adt nk ck ts.length ct x F m:=fun m hm a1 a2 a3 a4=>(g.vals m hm (hl m (by omega))).trans (p.p0 m hm a1 a2 a3 a4 (hl m (by omega)))
  have ea:a=Rf.vfin [(65,.slice adk nk ck),(66,.int .u32 (x:Int)),(67,.slice (some ⟨b2,0,none⟩) 1 1),(68,.slice (some ⟨gg,0,none⟩) (nk+1) c),(69,.slice adt ts.length ct),(70,tab F),(71,.slice (some ⟨b8,0,none⟩) 1 1),(72,.slice (some ⟨gt,0,none⟩) (ts.length+1) ct'),(12,.slice (some ⟨gg,0,none⟩) (nk+1) c),(13,.slice (some ⟨gt,0,none⟩) (ts.length+1) ct')] a0:=by
   refine Rf.vact_fin _ _ _ (by simp) g.size g.defers (fun s hs=>?_) (fun k hk=>?_)
   ·simp only[List.map_cons,List.map_nil,List.mem_cons,List.not_mem_nil,or_false,not_or]at hs;obtain⟨s0,s1,s2,s3,s4,s5,s6,s7,s10,s11⟩:=hs;have n:∀m:Nat,@Ne Tmp s m→(show Nat from s)≠m:=fun m h e=>h e
    have:=n 65 s0;have:=n 66 s1;have:=n 67 s2;have:=n 68 s3;have:=n 69 s4;have:=n 70 s5;have:=n 71 s6;have:=n 72 s7;have z:(show Nat from s)<65∨73≤(show Nat from s):=by omega
    exact g.other s z (n 12 s10) (n 13 s11)
   ·simp only[List.mem_cons,List.not_mem_nil,or_false]at hk;rcases hk with rfl|rfl|rfl|rfl|rfl|rfl|rfl|rfl|rfl|rfl
    ·exact⟨show @LT.lt Nat _ 65 _ by omega,cv 0 (by omega) (by decide) (by decide) (by decide) (by decide)⟩
    ·exact⟨show @LT.lt Nat _ 66 _ by omega,cv 1 (by omega) (by decide) (by decide) (by decide) (by decide)⟩
    ·exact⟨show @LT.lt Nat _ 67 _ by omega,(g.vals 2 (by omega) (hl 2 (by omega))).trans e2⟩
    ·exact⟨show @LT.lt Nat _ 68 _ by omega,(g.vals 3 (by omega) (hl 3 (by omega))).trans e3⟩
    ·exact⟨show @LT.lt Nat _ 69 _ by omega,cv 4 (by omega) (by decide) (by decide) (by decide) (by decide)⟩
    ·exact⟨show @LT.lt Nat _ 70 _ by omega,cv 5 (by omega) (by decide) (by decide) (by decide) (by decide)⟩
    ·exact⟨show @LT.lt Nat _ 71 _ by omega,(g.vals 6 (by omega) (hl 6 (by omega))).trans e8⟩
    ·exact⟨show @LT.lt Nat _ 72 _ by omega,(g.vals 7 (by omega) (hl 7 (by omega))).trans e9⟩
    ·exact⟨show @LT.lt Nat _ 12 _ by omega,(g.n12 (hl 8 (by omega))).trans e3⟩
    ·exact⟨show @LT.lt Nat _ 13 _ by omega,(g.n13 (hl 9 (by omega))).trans e9⟩
  rw[ea];exact done b2 b8 gg c gt ct' w' o3 h3 o9 h9 p.went.undrew
 ·refine⟨fun _=>undef,⟨rfl,rfl,fun _ _ _ _=>rfl,fun j hj hl=>?_,fun _=>rfl,fun hl=>?_,fun _=>rfl,fun hl=>?_⟩,⟨fun j hj _ _ _ _ hl=>?_,fun hl=>?_,fun hl=>?_,fun _=>keep.drew,fun hl=>?_,fun _=>kept,fun hl=>?_,Went.refl _ _⟩⟩ <;> (rw[getD_start]at hl;cases hl)
end Go.Proofs.YtnnmdkaoiofabaaGreat.Sk
