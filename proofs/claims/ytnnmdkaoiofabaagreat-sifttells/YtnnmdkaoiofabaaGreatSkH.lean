/-
  For SiftTells: functions of so many variables; plans are one; what is at hand while roots are gathered.
-/
import Derived.Test.YtnnmdkaoiofabaaGreatSkX
import Derived.Test.YtnnmdkaoiofabaaGreatSrG
import Derived.Test.YtnnmdkaoiofabaaGreatSwV
namespace Go.Proofs.YtnnmdkaoiofabaaGreat
open Go Go.RowKit
open Rf (tab word same IsTab TabsAt fixF fixAt)
theorem trim_eq (F:Nat→Bool) (n:Nat):∀j,n+j≤8→∀x y,x<256→y<256→(∀i,i<8→(i<n∨n+j≤i)→x.testBit i=y.testBit i)→trimF F n j x=trimF F n j y
 | 0,_,x,y,hx,hy,h=>by
  have e:x=y:=Nat.eq_of_testBit_eq fun i=>by
   by_cases hi:i<8
   ·exact h i hi (by omega)
   ·have p:256≤2^i:=Nat.pow_le_pow_right (n:=2) (by omega) (show 8≤i by omega);rw[Nat.testBit_lt_two_pow (Nat.lt_of_lt_of_le hx p),Nat.testBit_lt_two_pow (Nat.lt_of_lt_of_le hy p)]
  rw[e]
 | j+1,hj,x,y,hx,hy,h=>by
  have hv:n+j<8:=by omega
  obtain⟨x1,x2⟩:=fixAt_bits hx hv false;obtain⟨y1,y2⟩:=fixAt_bits hy hv false;refine trim_eq F n j (by omega) _ _ x1 y1 fun i hi q=>?_
  rw[x2,y2];unfold Mdl.setA;split
  ·rfl
  ·exact h i hi (by omega)
theorem Dep.trim {M:Mdl}(o:M.Ok) (F:Nat→Bool) (onto:∀i,i<M.n→M.v i=i):Dep M 0 (trimF F M.n (8-M.n)):=fun x y hx hy e=>by
 have n8:=o.le8;refine trim_eq F M.n (8-M.n) (by omega) x y hx hy fun i hi q=>?_
 have hin:i<M.n:=by omega
 have:=e i (Nat.zero_le _) hin;rwa [onto i hin]at this
theorem pow63' {n:Nat}(h:n≤8):2^(n-2)≤64:=Nat.pow_le_pow_right (n:=2) (j:=6) (by omega) (by omega)
end Go.Proofs.YtnnmdkaoiofabaaGreat
namespace Go.Proofs.YtnnmdkaoiofabaaGreat.Sr
open Go Go.RowKit
open Sf (PlanIs plK)
section
variable {v c:Nat→Nat}{n:Nat}
theorem XsP.one {X Y:Nat→Nat}(x:XsP v c n X) (y:XsP v c n Y):∀i,i<n→Y i=X i:=by
 have key:∀i,i≤n→SelP X n i Y:=fun i=>by
  induction i with
  | zero=>intro _;exact⟨y.perm,fun j hj=>absurd hj (Nat.not_lt_zero j)⟩
  | succ i ih =>
   intro hi;have s:=ih (by omega);refine⟨y.perm,fun j hj=>?_⟩;rcases Nat.lt_or_ge j i with q|q
   ·exact s.done j q
   ·obtain rfl:j=i:=by omega
    exact SelP.best x s hi ⟨Nat.le_refl _,hi⟩ fun k hk hkn=>by
     rcases Nat.lt_or_ge j k with q|q
     ·exact .inr (y.by_ j k q hkn)
     ·exact .inl (by omega)
 exact fun i hi=>(key n (Nat.le_refl n)).done i hi
theorem plan_one {xs ys:List Nat}(pv:PermN n v) (p:PlanIs (plK v c n) n xs) (q:PlanIs (plK v c n) n ys):xs=ys:=by
 have h:=XsP.one (XsP.of pv q) (XsP.of pv p);have l1:=p.len;have l2:=q.len;refine List.ext_getElem (by omega) fun i h1 h2=>?_
 have:=h i (by omega);rwa [getD_at h1,getD_at h2]at this
end
end Go.Proofs.YtnnmdkaoiofabaaGreat.Sr
namespace Go.Proofs.YtnnmdkaoiofabaaGreat.Sk
open Go Go.RowKit
open Rf (tab word same IsTab TabsAt)
open Sw (IsT3)
open Mk (HsAt)
theorem perm_ints {n:Nat}{p:Nat→Nat}(h:Sw.PermN n p):Od.permB n (fun i=>(p i:Int)) n=true:=by
 have key:∀k,k≤n→Od.okUpto n (fun i=>(p i:Int)) k=true:=fun k=>by
  induction k with
  | zero=>intro _;rfl
  | succ k ih =>
   intro hk;have hs:Od.seenB (fun i=>(p i:Int)) k (p k)=false:=by
    cases e:Od.seenB (fun i=>(p i:Int)) k (p k) with
    | false=>rfl
    | true =>
     obtain⟨j,hj,q⟩:=Od.seenB_iff.1 e;have q:(p j:Int)=(p k:Int):=q;exact absurd (h.2 j k (by omega) (by omega) (by omega)) (by omega)
   rw[Od.okUpto,ih (by omega),Od.okAt_ok (Z:=fun i=>(p i:Int)) (z:=p k) rfl (h.1 k (by omega)) hs];rfl
 rw[Od.permB,key n (Nat.le_refl n)];simp
theorem row_far {w:World}{S:Nat}{F:Nat→Prop}{M:Mdl}(s:St w S F M){b n:Nat}{t:TypeId}{f:Nat→Value}(h:w.rowIs b t n f) (ht:t≠92∧t≠144∧t≠261∧t≠22∧t≠36):¬F b:=by
 obtain⟨c,hb,_,_⟩:=h;exact s.row hb ht
theorem tb_kind {w:World}{B cap:Nat}{ad:Option Addr}{ts:List (Nat→Bool)}(h:Rf.Own w B ad ts cap):∀k,At ad k→∃cur,w.heap[k]? = some (.cells cur 24 (0,0)):=by
 rintro k ⟨a,rfl,rfl⟩;obtain⟨_,h2⟩:=h;rcases h2 with ⟨h2,_⟩|⟨g,cap',cur,hv,hb,hh,r⟩
 ·cases h2
 ·injection hv with hv
  injection hv with hv
  subst hv;exact⟨cur,hh⟩
theorem tb_form {w:World}{B cap:Nat}{ad:Option Addr}{ts:List (Nat→Bool)}(h:Rf.Own w B ad ts cap) (hn:0<ts.length):∃g,ad=some ⟨g,0,none⟩:=by
 obtain⟨g,cap',hv,_,_⟩:=World.ownsRow.form h hn;injection hv with h1
 exact⟨g,h1⟩
theorem r_idxH (b:Nat){n c i:Nat}(hi:i<n) (w:World):(Instr.indexAt 32 (.slice (some ⟨b,0,none⟩) n c) (.int .i64 (i:Int))).run Tryz.prog w = .ok (.pointer (some ⟨b,i,none⟩)) w:=by
 have h1:(i:Int)<(n:Int):=by omega
 go_simp
theorem r_idxF (b:Nat){n c i:Nat}(hi:i<n) (w:World):(Instr.indexAt 33 (.slice (some ⟨b,0,none⟩) n c) (.int .i64 (i:Int))).run Tryz.prog w = .ok (.pointer (some ⟨b,i*4,none⟩)) w:=by
 have h1:(i:Int)<(n:Int):=by omega
 go_simp
theorem r_loadH {w:World}{ad:Addr}{v:Int}(h:w.cell? ad=some (.int .u32 v)):(Instr.loadAt 36 (.pointer (some ad))).run Tryz.prog w = .ok (.int .u32 v) w:=by
 go_simp
theorem r_loadF {w:World}{b o:Nat}{F:Nat→Bool}(c:w.cell? ⟨b,o,none⟩=some (.int .u64 (Rf.word F 0:Int))∧w.cell? ⟨b,o+1,none⟩=some (.int .u64 (Rf.word F 1:Int))∧w.cell? ⟨b,o+2,none⟩=some (.int .u64 (Rf.word F 2:Int))∧w.cell? ⟨b,o+3,none⟩=some (.int .u64 (Rf.word F 3:Int))):(Instr.loadAt 24 (.pointer (some ⟨b,o,none⟩))).run Tryz.prog w = .ok (tab F) w:=by
 obtain⟨c0,c1,c2,c3⟩:=c;go_simp
 rfl
theorem r_not (b:Bool) (w:World):(Op.unary .not (.bool b)).run Tryz.prog w = .ok (.bool !b) w:=by
 go_simp
theorem callIs (vs:Array Value) (w:World):(callFunc 23 vs).run Tryz.prog w = .ok (.enter 23 vs) w:=by
 have h:=Tryz.func23;go_simp
theorem cells_ne {w:World}{k:Nat}{c d:Array Value}{t u:TypeId}(h:w.heap[k]? = some (.cells c t (0,0))) (g:w.heap[k]? = some (.cells d u (0,0))) (ne:t≠u):False:=by
 rw[h]at g;injection g with g
 injection g with _ e
 exact ne e
def fnL (ts:List (Nat→Bool)):Nat→Nat→Bool:=fun i=>ts.getD i fun _=>false
theorem fnL_new (ts:List (Nat→Bool)) (F:Nat→Bool):fnL (ts ++ [F]) ts.length=F:=by
 unfold fnL;rw[List.getD_eq_getElem?_getD,List.getElem?_append_right (Nat.le_refl _),Nat.sub_self];rfl
theorem fnL_old (ts:List (Nat→Bool)) (F:Nat→Bool){i:Nat}(hi:i<ts.length):fnL (ts ++ [F]) i=fnL ts i:=by
 unfold fnL;rw[List.getD_eq_getElem?_getD,List.getD_eq_getElem?_getD,List.getElem?_append_left hi]
structure Tn (W w:World) (S n bt:Nat) (T:Nat→Nat→Bool) (adk adt:Option Addr) (ck ct:Nat) (H:Nat→Nat) (ts:List (Nat→Bool)) (F:Nat→Prop) (M:Mdl):Prop where
 st:St w S F M
 en:M.n=n
 er:M.room=4000
 base:Below W.heap.size W w
 far:∀k,F k→W.heap.size≤k
 t3:IsT3 w bt T
 hs:OwnR 36 w W.heap.size adk ts.length ck (fun i=>.int .u32 (H i:Int))
 tb:Rf.Own w W.heap.size adt ts ct
 hf:∀b,At adk b→¬F b
 kn:∀i,i<ts.length→M.isNode (H i)∧Eqt (M.tbl (H i)) (fnL ts i)
namespace Tn
variable {W w w':World}{S n bt:Nat}{T:Nat→Nat→Bool}{adk adt:Option Addr}{ck ct:Nat}{H:Nat→Nat}{ts:List (Nat→Bool)}{F F':Nat→Prop}{M M':Mdl}
theorem below (q:Tn W w S n bt T adk adt ck ct H ts F M) (b:Below w.heap.size w w'):Tn W w' S n bt T adk adt ck ct H ts F M:=
 ⟨q.st.below b,q.en,q.er,Rf.below_far q.base b,q.far,q.t3.kept b,q.hs.below b,q.tb.below b,q.hf,q.kn⟩
theorem nt3 (q:Tn W w S n bt T adk adt ck ct H ts F M):¬F bt:=row_far q.st q.t3 (by decide)
theorem ntb (q:Tn W w S n bt T adk adt ck ct H ts F M):∀b,At adt b→¬F b:=fun b hb=>by
 obtain⟨c,h⟩:=tb_kind q.tb b hb;exact q.st.row h (by decide)
theorem move (q:Tn W w S n bt T adk adt ck ct H ts F M) (g:Wf F F' w w') (s:St w' S F' M') (en:M'.n=n) (er:M'.room=4000) (kn:∀i,i<ts.length→M'.isNode (H i)∧Eqt (M'.tbl (H i)) (fnL ts i)):Tn W w' S n bt T adk adt ck ct H ts F' M':=
 ⟨s,en,er,Wf.far q.base g q.base.size q.far,g.after q.base.size q.far,q.t3.of_block (g.block _ q.t3.lt q.nt3),
  q.hs.kept fun b hb=>g.block b (q.hs.block b hb).2 (q.hf b hb),q.tb.keep fun b hb=>g.block b (q.tb.lt b hb).2 (q.ntb b hb),
  fun b hb h=>(g.new b h).elim (q.hf b hb) fun e=>by have:=(q.hs.block b hb).2;omega,kn⟩
theorem kept (q:Tn W w S n bt T adk adt ck ct H ts F M) (g:Wf F F' w w') (s:St w' S F' M') (k:Sw.Kept M M'):Tn W w' S n bt T adk adt ck ct H ts F' M':=
 q.move g s (k.n.trans q.en) (k.room.trans q.er) fun i hi=>⟨k.node _ (q.kn i hi).1,by rw[k.tbl (q.kn i hi).1];exact(q.kn i hi).2⟩
theorem dis (q:Tn W w S n bt T adk adt ck ct H ts F M):∀b,At adk b→¬At adt b:=fun b hb h=>by
 obtain⟨c,h1⟩:=q.hs.kind b hb;obtain⟨d,h2⟩:=tb_kind q.tb b h;exact cells_ne h1 h2 (by decide)
theorem apart (q:Tn W w S n bt T adk adt ck ct H ts F M):¬(At adk bt∨At adt bt):=fun h=>by
 obtain⟨c,hb,_,_⟩:=q.t3;rcases h with h|h
 ·obtain⟨d,h1⟩:=q.hs.kind bt h;exact cells_ne hb h1 (by decide)
 ·obtain⟨d,h1⟩:=tb_kind q.tb bt h;exact cells_ne hb h1 (by decide)
theorem lt (q:Tn W w S n bt T adk adt ck ct H ts F M):∀b,At adk b∨At adt b→W.heap.size≤b∧b<w.heap.size:=fun b h=>h.elim (q.hs.block b) (q.tb.lt b)
theorem grown (q:Tn W w S n bt T adk adt ck ct H ts F M){x g c g' c':Nat}{G:Nat→Bool}(hx:M.isNode x∧Eqt (M.tbl x) G)
  (o:OwnR 36 w' W.heap.size (some ⟨g,0,none⟩) (ts.length+1) c (fun i=>if i=ts.length then .int .u32 (x:Int)else .int .u32 (H i:Int))) (hg:At adk g∨w.heap.size≤g) (t:Rf.Own w' W.heap.size (some ⟨g',0,none⟩) (ts ++ [G]) c') (r:Went (fun b=>At adk b∨At adt b) w w') :
  Tn W w' S n bt T (some ⟨g,0,none⟩) (some ⟨g',0,none⟩) c c' (fun i=>if i=ts.length then x else H i) (ts ++ [G]) F M:=by
 have nf:∀b,F b→¬(At adk b∨At adt b):=fun b hb h=>h.elim (fun e=>q.hf b e hb) fun e=>q.ntb b e hb
 refine⟨q.st.kept fun b hb=>r.block b (q.st.lt b hb) (nf b hb),q.en,q.er,?_,q.far,q.t3.of_block (r.block _ q.t3.lt q.apart),?_,t,?_,fun i hi=>?_⟩
 ·exact q.base.trans ⟨r.os,r.tape,r.output,r.size,fun k hk=>r.block k (Nat.lt_of_lt_of_le hk q.base.size) fun h=>by have:=(q.lt k h).1;omega⟩
 ·rw[List.length_append,List.length_singleton];exact o.congr fun i hi=>by
   by_cases e:i=ts.length
   ·rw[if_pos e,if_pos e]
   ·rw[if_neg e,if_neg e]
 ·rintro b ⟨z,e,rfl⟩ hb;cases e;rcases hg with h|h
  ·exact q.hf g h hb
  ·have:=q.st.lt g hb;omega
 ·rw[List.length_append,List.length_singleton]at hi;by_cases e:i=ts.length
  ·rw[e,if_pos rfl,fnL_new];exact hx
  ·rw[if_neg e,fnL_old ts G (by omega)];exact q.kn i (by omega)
theorem roots (q:Tn W w S n bt T adk adt ck ct H ts F M):HsAt w adk ts.length H:=by
 rcases Nat.eq_zero_or_pos ts.length with h|h
 ·exact .inl h
 ·obtain⟨g,rfl⟩:=q.hs.form h;exact .inr ⟨g,0,rfl,(q.hs.block g ⟨_,rfl,rfl⟩).2,fun i hi=>by rw[Nat.zero_add];exact q.hs.cell hi⟩
theorem pl (q:Tn W w S n bt T adk adt ck ct H ts F M):Sf.Pl w F adk ts.length H:=⟨q.roots,fun a e=>⟨q.hf _ ⟨a,e,rfl⟩,(q.hs.block _ ⟨a,e,rfl⟩).2⟩⟩
theorem tabs (q:Tn W w S n bt T adk adt ck ct H ts F M):TabsAt w adt ts.length (fnL ts):=q.tb.tabs
theorem cells {g:Nat}(q:Tn W w S n bt T adk (some ⟨g,0,none⟩) ck ct H ts F M){i:Nat}(hi:i<ts.length):w.cell? ⟨g,i*4,none⟩=some (.int .u64 (Rf.word (fnL ts i) 0:Int))∧w.cell? ⟨g,i*4+1,none⟩=some (.int .u64 (Rf.word (fnL ts i) 1:Int))∧w.cell? ⟨g,i*4+2,none⟩=some (.int .u64 (Rf.word (fnL ts i) 2:Int))∧w.cell? ⟨g,i*4+3,none⟩=some (.int .u64 (Rf.word (fnL ts i) 3:Int)):=by
 rcases q.tabs with h|⟨b,off,e,_,hc⟩
 ·omega
 ·cases e;have c:=fun k (hk:k<4)=>hc i hi k hk
  simp only[Nat.zero_add]at c;exact⟨c 0 (by omega),c 1 (by omega),c 2 (by omega),c 3 (by omega)⟩
end Tn
theorem ints_wf {w w':World}{ad:Option Addr}{n:Nat}{Z:Nat→Int}{F F':Nat→Prop}(h:Od.IntsAt w ad n Z) (hf:∀a,ad=some a→¬F a.block) (g:Wf F F' w w'):Od.IntsAt w' ad n Z:=by
 rcases h with h|⟨b,off,rfl,hb,hc⟩
 ·exact .inl h
 ·exact .inr ⟨b,off,rfl,Nat.lt_of_lt_of_le hb g.size,fun i hi=>(World.cell?_of_block (a:=⟨b,off+i,none⟩) (g.block b hb (hf _ rfl))).trans (hc i hi)⟩
structure Ez (W w:World) (S n bt:Nat) (T:Nat→Nat→Bool) (adk adt:Option Addr) (ck ct:Nat) (H:Nat→Nat) (ts:List (Nat→Bool)) (F:Nat→Prop) (M:Mdl) (bo:Nat) (v:Nat→Nat) (adp:Option Addr) (X:Nat→Nat) (adw:Option Addr) (Z:Nat→Nat):Prop where
 tn:Tn W w S n bt T adk adt ck ct H ts F M
 ro:w.rowIs bo 3 n (fun i=>.int .i64 (v i:Int))
 ip:Od.IntsAt w adp n (fun i=>(X i:Int))
 iw:Od.IntsAt w adw n (fun i=>(Z i:Int))
theorem Ez.below {W w w':World}{S n bt:Nat}{T:Nat→Nat→Bool}{adk adt:Option Addr}{ck ct:Nat}{H:Nat→Nat}{ts:List (Nat→Bool)}{F:Nat→Prop}{M:Mdl}{bo:Nat}{v:Nat→Nat}{adp:Option Addr}{X:Nat→Nat}{adw:Option Addr}{Z:Nat→Nat}(q:Ez W w S n bt T adk adt ck ct H ts F M bo v adp X adw Z) (b:Below w.heap.size w w'):Ez W w' S n bt T adk adt ck ct H ts F M bo v adp X adw Z:=
 ⟨q.tn.below b,q.ro.of_block (b.block _ q.ro.lt),q.ip.below b,q.iw.below b⟩
structure PlP (v:Nat→Nat) (n:Nat) (ts:List (Nat→Bool)) (xs:List Nat) (tt:List (Nat→Bool)):Prop where
 isT:(Rf.prt (fun i=>(v i:Int)) n (Rf.dedup (fnL ts) ts.length) (min n 8+1)).1=tt
 few:tt.length≤1000000
 pv:Sr.PermN n v
 plan:Sf.PlanIs (Sf.plK v (fsN v n tt) n) n xs
end Go.Proofs.YtnnmdkaoiofabaaGreat.Sk
