/-
  A store that keeps some of its nodes alone (Retain). Collect: what isn't reached goes. What is reached, without a program; a slice of handles that is made.
-/
import Derived.Test.YtnnmdkaoiofabaaGreatSwMN
import Derived.Test.YtnnmdkaoiofabaaGreatMkAB
import Derived.Laws.CopyRow
namespace Go.Proofs.YtnnmdkaoiofabaaGreat.Mk
open Go Go.RowKit
open Sw (Xw FW RyI wz_zero)
theorem ownMk {e:TypeId}{w:World}{B g n cap:Nat}{V:Nat→Value}{cur:Array Value}(hh:w.heap[g]? = some (.cells cur e (0,0))) (hs:cur.size=cap) (hn:n≤cap) (hm:cap≤maxLen) (hb:B≤g) (hc:∀i,i<n→cur[i]? = some (V i)):OwnR e w B (some ⟨g,0,none⟩) n cap V:=by
 refine⟨by rw[rowL_length];omega,.inr ⟨g,cap,cur,rfl,hb,hh,hn,hm,by omega,?_⟩⟩;apply List.ext_getElem?;intro j;by_cases hj:j<n
 ·rw[rowL_get n _ hj,List.getElem?_take,if_pos (by omega),Array.getElem?_toList,hc j hj]
 ·rw[List.getElem?_eq_none (by rw[List.length_take];omega),List.getElem?_eq_none (by rw[rowL_length];omega)]
theorem toA {p:Prop}(h:p):Aside p:=h
def only (M:Mdl) (ks:List Nat):Mdl:=⟨M.n,M.v,M.room,ks,M.nd⟩
structure Shut (M:Mdl) (ks:List Nat):Prop where
 sub:∀k∈ks,k∈M.hs
 closed:∀k∈ks,((M.nd k).2.1<2∨(M.nd k).2.1∈ks)∧((M.nd k).2.2<2∨(M.nd k).2.2∈ks)
 up:ks.Pairwise (· < ·)
section
variable {M:Mdl}{I:Ins}{ks:List Nat}
theorem Shut.few (h:Shut M ks):ks.length≤M.hs.length:=nodup_lenN ks M.hs (h.up.imp fun h=>Nat.ne_of_lt h) h.sub
theorem Shut.ok (o:M.Ok) (h:Shut M ks):(only M ks).Ok where
 pos:=o.pos
 le8:=o.le8
 vlt:=o.vlt
 vinj:=o.vinj
 sorted:=h.up
 range:=fun x hx=>o.range x (h.sub x hx)
 len:=Nat.le_trans h.few o.len
 lv:=fun x hx=>o.lv x (h.sub x hx)
 ne:=fun x hx=>o.ne x (h.sub x hx)
 lo:=fun x hx=>⟨(h.closed x hx).1,(o.lo x (h.sub x hx)).2⟩
 hi:=fun x hx=>⟨(h.closed x hx).2,(o.hi x (h.sub x hx)).2⟩
 one:=fun x hx y hy e=>o.one x (h.sub x hx) y (h.sub y hy) e
end
theorem infoW : (Tryz.prog.info? 22).map (fun i=>(i.zero,i.size,i.bytes))=some (some (.int .u64 0),1,8):=by kernel_rfl
theorem make_words (n:Nat) (hn:n≤32768) (w:World) :
  (Instr.makeSlice 90 (.int .i64 (n:Int)) (.int .i64 (n:Int))).run Tryz.prog w = .ok (.slice (some ⟨w.heap.size,0,none⟩) n n) (w.alloc (.cells (madeCells #[.int .u64 0] n) 22)):=by
 obtain⟨i,hi,hz,hs,hb⟩:=info_parts infoW;have hr:=run_make (P:=Tryz.prog) w 90 22 i _ Tryz.underlying90 hi hz .i64 .i64 (n:Int) (n:Int) (by omega) (by omega) (by rw[hb];omega) (by omega);simp only[Int.toNat_natCast,hs,Nat.mul_one]at hr;exact hr
theorem zero_word (w:World):(zeroValue 22).run Tryz.prog w = .ok (.int .u64 0) w:=by kernel_rfl
theorem clear_words {w:World}{g n cap:Nat}{V:Nat→Value}(h:OwnR 22 w 0 (some ⟨g,0,none⟩) n cap V) (hn:0<n) :
  ∃w',(∀ty,(Builtin.clear_ #[90] ty #[.slice (some ⟨g,0,none⟩) n cap]).run Tryz.prog w = .ok (.tuple #[]) w')∧OwnR 22 w' 0 (some ⟨g,0,none⟩) n cap (fun _=>.int .u64 0)∧Rf.Turned g w w':=by
 obtain⟨hl,h'⟩:=h;rcases h' with ⟨e,_⟩|⟨g',cap',cur,e,hb0,hh,hnc,hcm,hsz,htk⟩
 ·cases e
 ·simp at e;obtain⟨rfl,rfl⟩:=e;have hz:(Builtin.zeroCells (Value.int .u64 0).cells n).toList=List.replicate n (Value.int .u64 0):=by
   apply List.ext_getElem?;intro i;unfold Builtin.zeroCells;by_cases hi:i<n
   ·simp[Value.cells,Nat.mod_one,hi]
   ·simp[Value.cells,Nat.mod_one,hi]
  have hrun:=run_storeCells_at (P:=Tryz.prog) g 0 22 (List.replicate n (Value.int .u64 0)) 0 cur w hh (by simp;omega) (by intro v hv;rw[(List.mem_replicate.1 hv).2];rfl);obtain⟨k,rfl⟩:∃k,n=k+1:=⟨n-1,by omega⟩
  refine⟨w.setRow g (List.take (0+0) cur.toList ++ List.replicate (k+1) (Value.int .u64 0) ++ List.drop (0+0+(List.replicate (k+1) (Value.int .u64 0)).length) cur.toList).toArray,fun ty=>?_,ownMk (setRow_heap w g cur _ 22 _ hh) ?_ hnc hcm hb0 (fun i hi=>?_),⟨rfl,rfl,rfl,by simp[World.setRow],fun k _ hk=>setRow_other w g k _ hk⟩⟩
  ·simp only[Builtin.clear_,List.getElem?_toArray,List.getElem?_cons_zero,Sem.run_bind,run_underlying Tryz.underlying90,Result.andThen_ok,zero_word,hz,hrun,Sem.run_pure]
  ·simp;omega
  ·rw[List.getElem?_toArray,List.getElem?_append_left (by simp;omega),List.getElem?_append_right (by simp)];simp[hi]
theorem clear_store {w:World}{X:Fx}{st:Bool}{c:Nat→Int}{fa:Option Addr}{k fc:Nat}{V:Nat→Value}{nm:Int→Option Int}(h:Raw w X st c fa k fc V nm) :
  ∃w',(∀ty,(Builtin.clear_ #[90] ty #[.slice X.ad X.W X.cap]).run Tryz.prog w = .ok (.tuple #[]) w')∧Raw w' (Xw X X.ad X.cap X.W (fun _=>0)) st c fa k fc V nm∧Went (FW X) w w':=by
 by_cases h0:X.W=0
 ·refine⟨w,fun ty=>?_,⟨h.blk,h.mem,?_,h.fre,h.map⟩,Went.refl _ _⟩
  ·rw[h0];cases X.ad with
   | none=>simp only[Builtin.clear_,List.getElem?_toArray,List.getElem?_cons_zero,Sem.run_bind,run_underlying Tryz.underlying90,Result.andThen_ok,Sem.run_pure]
   | some a=>simp only[Builtin.clear_,List.getElem?_toArray,List.getElem?_cons_zero,Sem.run_bind,run_underlying Tryz.underlying90,Result.andThen_ok,Sem.run_pure]
  ·exact h.own.congr fun i hi=>absurd hi (by omega)
 ·obtain⟨a1,a2,a3,a4,a5,a6,a7,a8,a9,f1,f2,f3,f4,f5⟩:=h.apart;obtain⟨oo,f,m⟩:=h.mem;obtain⟨g,hg⟩:=h.own.form (by omega);have hat:At X.ad g:=⟨_,hg,rfl⟩
  have own:=h.own;rw[hg]at own;obtain⟨w',hr,o',t⟩:=clear_words own (by omega);have kp:∀b,b<w.heap.size→b≠g→w'.heap[b]? = w.heap[b]?:=fun b hb e=>t.block b hb e
  refine⟨w',fun ty=>by rw[hg];exact hr ty,⟨h.blk.of_block (kp _ h.blk.lt fun e=>a6 (e ▸ hat)),⟨oo,f,m.of_blocks (kp _ m.ltP fun e=>a7 (e ▸ hat)) (kp _ m.ltR fun e=>a8 (e ▸ hat))⟩,?_,h.fre.kept fun b hb=>kp b (h.fre.block b hb).2 fun e=>f5 g hat (e ▸ hb),h.map.same (kp _ h.map.lt fun e=>a9 (e ▸ hat))⟩,t.os,t.tape,t.output,t.size,fun b hb hn=>t.block b hb fun e=>hn (.inr (e ▸ hat))⟩;show OwnR _ _ 0 X.ad X.W X.cap _;rw[hg];exact o'
def kpN (M:Mdl) (ks:List Nat) (j i:Nat):Int:=if i<j then ndZ (M.nd (ks.getD i 0))else 0
section
variable {w w':World}{S:Nat}{M:Mdl}{I:Ins}{ks:List Nat}
theorem kpN_step (M:Mdl) (ks:List Nat) (j i:Nat):(if i=j then Value.int .u64 (ndZ (M.nd (ks.getD j 0)))else .int .u64 (kpN M ks j i)) = .int .u64 (kpN M ks (j+1) i):=by
 unfold kpN;by_cases e:i=j
 ·rw[if_pos e,if_pos (by omega),e]
 ·rw[if_neg e];by_cases c:i<j
  ·rw[if_pos c,if_pos (by omega)]
  ·rw[if_neg c,if_neg (by omega)]
set_option maxRecDepth 100000 in
set_option maxHeartbeats 4000000 in
theorem retain_any (h:StI w S M I) (sh:Shut M ks){ad:Option Addr}{cap:Nat}{Bl:Nat}(hl:OwnR 36 w Bl ad ks.length cap (fun i=>.int .u32 (ks.getD i 0:Nat))) :
  Calls Tryz.prog 87 #[.pointer (some ⟨S,0,none⟩),.slice ad ks.length cap] w fun e w'=>e = .returned (.int .i64 ((M.hs.length:Int)-(ks.length:Int)))∧∃I',StI w' S (only M ks) I'∧Wf (Fp S I) (Fp S I') w w':=by
 have K1:=slen_any h;have hW:=h.pu.lenW;have hlen:=h.pu.len;have hfew:=sh.few;obtain⟨n,hn⟩:∃n,ks.length=n:=⟨_,rfl⟩
 rw[hn]at hl hfew ⊢;have hnA:Aside (ks.length=n):=hn;have hwn:IntKind.i64.wrap ((M.hs.length:Int)-(n:Int))=(M.hs.length:Int)-(n:Int):=by rw[IntKind.wrap_i64];omega
 obtain⟨m,hm⟩:∃m,M.hs.length=m:=⟨_,rfl⟩
 rw[hm]at hlen hfew hwn K1 ⊢;clear hn hm;have shA:Aside (Shut M ks):=sh;have hA:Aside (StI w S M I):=h;have lA:Aside (OwnR 36 w Bl ad n cap (fun i=>.int .u32 (ks.getD i 0:Nat))):=hl;have n3:n≤32768:=by omega
 clear h sh hl;go_enter Tryz.func87,Tryz.ntmps87
 go_upto_region 2 with (first
  | (go_at_call 22;refine K1.mono ?_;clear K1;rintro e w1 ⟨rfl,q,rfl⟩))
 have hmk:=make_words n n3 (w.drewN q);go_upto_region 4 with fail
 have B2A:Aside (Below w.heap.size w ((w.drewN q).alloc (.cells (madeCells #[.int .u64 0] n) 22))):=by
  have:Below w.heap.size w (w.drewN q):=⟨rfl,rfl,rfl,Nat.le_refl _,fun _ _=>rfl⟩
  exact this.alloc (Nat.le_refl _) _
 have r2:Aside (((w.drewN q).alloc (.cells (madeCells #[.int .u64 0] n) 22)).rowIs w.heap.size 22 n (fun i=>.int .u64 (kpN M ks 0 i))):=(World.rowIs_made (w.drewN q) (.int .u64 0) n 22).congr fun i _=>by simp[kpN]
 clear hmk;generalize (w.drewN q).alloc (.cells (madeCells #[.int .u64 0] n) 22)=w2 at B2A r2 ⊢;obtain⟨b,hbe⟩:∃b,w.heap.size=b:=⟨_,rfl⟩
 have hbA:Aside (w.heap.size=b):=hbe;rw[hbe]at r2 ⊢;clear hbe;go_loopg [18,7,8] n (fun g si _ _ wr=>∃j:Nat,j+g=n∧si = .int .i64 (j:Int)∧Aside (Below w.heap.size w wr∧wr.rowIs b 22 n (fun i=>.int .u64 (kpN M ks j i))))
 case atStart=>exact⟨0,by omega,rfl,B2A.out,r2.out⟩
 case round =>
  clear B2A r2;obtain⟨j,hj,rfl,hq⟩:=hrel;have hJ:Aside (j+gk=n):=hj;have hjn:j≤n:=by omega
  clear hj;have sr:=hA.out.below hq.out.1;have lr:OwnR 36 wr Bl ad n cap (fun i=>.int .u32 (ks.getD i 0:Nat)):=lA.out.kept fun k hk=>hq.out.1.block k (lA.out.block k hk).2
  by_cases hlt:j<n
  ·have hlt':(j:Int)<(n:Int):=by omega
   obtain⟨bl,rfl⟩:=lr.form (by omega);have hc:=lr.cell hlt;have hjl:j<ks.length:=by rw[hnA.out];exact hlt
   have hm:ks.getD j 0∈M.hs:=by
    rw[List.getD_eq_getElem?_getD,List.getElem?_eq_getElem hjl];exact shA.out.sub _ (List.getElem_mem hjl)
   obtain⟨x2,xW⟩:=sr.pu.hs_lt hm;have KW:=word_any sr (ks.getD j 0) (by omega);rw[Mdl.wz_in hm]at KW;have r3:Aside (Below w.heap.size w (wr.setCell ⟨b,j,none⟩ (.int .u64 (ndZ (M.nd (ks.getD j 0)))))∧(wr.setCell ⟨b,j,none⟩ (.int .u64 (ndZ (M.nd (ks.getD j 0))))).rowIs b 22 n (fun i=>.int .u64 (kpN M ks (j+1) i))):=by
    refine⟨hq.out.1.setCell (by have:=hbA.out;show w.heap.size≤b;omega) _,(hq.out.2.set j _).congr fun i _=>?_⟩;rw[← kpN_step]
   have cw:=hq.out.2.cell hlt;have cf:=hq.out.2.frozen j;have hltA:Aside (j<n):=hlt;clear hjl hm sr lr hlt hq;generalize ndZ (M.nd (ks.getD j 0))=z at KW r3;generalize ks.getD j 0=x at hc x2 xW KW;generalize kpN M ks j j=z0 at cw
   go_wp2_with (first
    | (go_at_call 66;refine KW.mono ?_;clear KW;rintro e wq ⟨rfl,ew⟩;subst wq))
   go_roundg (gk-1)
   case measure=>have:=hJ.out;have:=hltA.out;omega
   case rel =>
    have:=hJ.out;have:=hltA.out;have hw:wrap64 ((j:Int)+1)=((j+1:Nat):Int):=by unfold wrap64;omega
    exact⟨j+1,by omega,by first|rw[hw]|go_num,r3⟩
  ·obtain rfl:j=n:=by omega
   obtain⟨X,hX⟩:∃X:Fx,fxI S M I=X:=⟨_,rfl⟩
   have raw:=sr.raw;have fpA:Aside (∀i,FW X i→Fp S I i):=fun i hi=>by
    rw[← hX]at hi;exact hi.elim .inl fun e=>.inr (.inr (.inr (.inr (.inl e))))
   rw[hX]at raw;obtain⟨wc,hclr,rawc,gc⟩:=clear_store raw;have e1:X.S=S:=by rw[← hX];rfl
   have e2:X.W=I.W:=by rw[← hX];rfl
   have e3:X.cap=I.cap:=by rw[← hX];rfl
   have e4:X.ad=I.ad:=by rw[← hX];rfl
   have e5:X.room=M.room:=by rw[← hX];rfl
   have hXA:Aside (fxI S M I=X):=hX;have puA:Aside (Pu M I):=sr.pu;have c18:=raw.blk.cell (i:=18) (by omega);have c18':wr.cell? ⟨S,18,none⟩=some (.slice X.ad X.W X.cap):=by rw[← e1];exact c18
   have bW:Aside (b<wr.heap.size∧¬FW X b):=⟨hq.out.2.lt,fun e=>by have:=hA.out.lt b (fpA.out b e);have:=hbA.out;omega⟩
   have lW:Aside (∀k,At ad k→k<wr.heap.size∧¬FW X k):=fun k hk=>⟨(lr.block k hk).2,fun e=>by
    obtain⟨cur,hc⟩:=lr.kind k hk;rcases e with e|e
    ·obtain⟨cs,hs,_⟩:=raw.blk;rw[← e,hc]at hs;simp at hs
    ·obtain⟨cur',hc'⟩:=raw.own.kind k e;rw[hc]at hc';simp at hc'⟩
   have R0:RyI wc (Xw X X.ad X.cap X.W (fun _=>0)) I.st I.c I.fa I.fr.length I.fc (fun i=>.int .u32 (I.fr.getD i 0:Nat)) I.nm M.nd [] X.ad X.cap X.W (fun _=>0) wc:=⟨rawc,Nat.le_refl _,by show X.W≤X.room;have:=sr.pu.wide;omega,fun x hx=>absurd hx List.not_mem_nil,fun i hi=>by rw[if_neg List.not_mem_nil];split <;> rfl,fun b hb=>.inl hb,Went.refl _ _⟩
   have R0A:=toA R0;have gcA:Aside (Went (FW X) wr wc):=gc;have bwA:Aside (Below w.heap.size w wr):=hq.out.1;have kc:Aside (wc.rowIs b 22 j (fun i=>.int .u64 (kpN M ks j i))∧OwnR 36 wc Bl ad j cap (fun i=>.int .u32 (ks.getD i 0:Nat))):=⟨hq.out.2.of_block (gc.block b bW.out.1 bW.out.2),lr.kept fun k hk=>gc.block k (lW.out k hk).1 (lW.out k hk).2⟩
   have eA:Aside (X.S=S∧X.W=I.W∧X.room=M.room):=⟨e1,e2,e5⟩
   clear raw rawc R0 gc sr lr hq c18 hlt hjn hJ hX e4 e3 e1 e2 e5;go_upto_region 10 with fail
   clear hclr c18';go_loopg [36,9,10] j (fun g si _ _ u=>∃(i:Nat) (wd:Nat→Int),i+g=j∧si = .int .i64 (i:Int)∧Aside (RyI wc (Xw X X.ad X.cap X.W (fun _=>0)) I.st I.c I.fa I.fr.length I.fc (fun i=>.int .u32 (I.fr.getD i 0:Nat)) I.nm M.nd (ks.take i) X.ad X.cap X.W wd u∧u.rowIs b 22 j (fun i=>.int .u64 (kpN M ks j i))∧OwnR 36 u Bl ad j cap (fun i=>.int .u32 (ks.getD i 0:Nat))))
   case atStart=>exact⟨0,fun _=>0,by omega,rfl,R0A.out,kc.out.1,kc.out.2⟩
   case round =>
    clear R0A kc;obtain⟨i,wd,hi,rfl,hq⟩:=hrel;have hI:Aside (i+gk=j):=hi;have hin:i≤j:=by omega
    clear hi;by_cases hlt:i<j
    ·have hlt':(i:Int)<(j:Int):=by omega
     obtain⟨R,rk,lu⟩:=hq.out;have hil:i<ks.length:=by rw[hnA.out];exact hlt
     have hm:ks.getD i 0∈M.hs:=by
      rw[List.getD_eq_getElem?_getD,List.getElem?_eq_getElem hil];exact shA.out.sub _ (List.getElem_mem hil)
     have tk:ks.take (i+1)=ks.take i ++ [ks.getD i 0]:=by
      rw[List.take_add_one,List.getD_eq_getElem?_getD,List.getElem?_eq_getElem hil];rfl
     obtain⟨x2,xW⟩:=puA.out.hs_lt hm;rw[← eA.out.2.1]at xW;have hz:¬ndZ (M.nd (ks.getD i 0))=0:=fun e=>by
      have:=(wz_zero puA.out.ok (ks.getD i 0)).1 (by rw[Mdl.wz_in hm];exact e);exact this hm
     have ck:=rk.cell hlt;rw[show kpN M ks j i=ndZ (M.nd (ks.getD i 0))from if_pos hlt]at ck;obtain⟨bl,rfl⟩:=lu.form (by omega);have cl:=lu.cell hlt;obtain⟨g,hg⟩:=R.raw.own.form (by show 0<X.W;omega);change X.ad=some ⟨g,0,none⟩at hg;have own:=R.raw.own;have own2:OwnR 22 wr 0 (some ⟨g,0,none⟩) X.W X.cap (fun i=>.int .u64 (wd i)):=by rw[← hg];exact own
     have cw:=own2.cell (i:=ks.getD i 0-2) (by omega);have fw:=own2.frozen (ks.getD i 0-2);have c18:wr.cell? ⟨S,18,none⟩=some (.slice (some ⟨g,0,none⟩) X.W X.cap):=by
      have:=R.raw.blk.cell (i:=18) (by omega);change wr.cell? ⟨X.S,18,none⟩=some (.slice X.ad X.W X.cap)at this;rw[hg,eA.out.1]at this;exact this
     obtain⟨R2,G2⟩:=R.lay (x:=ks.getD i 0) hg x2 xW;have hat:At X.ad g:=⟨_,hg,rfl⟩
     have bg:b≠g:=fun e=>bW.out.2 (.inr (e ▸ hat))
     have lg:bl≠g:=fun e=>(lW.out bl ⟨_,rfl,rfl⟩).2 (.inr (e ▸ hat))
     have nxA:=toA (show _∧_∧_ from⟨R2.below (w':=(wr.setCell ⟨g,ks.getD i 0-2,none⟩ (.int .u64 (ndZ (M.nd (ks.getD i 0))))).drew) ⟨rfl,rfl,rfl,Nat.le_refl _,fun _ _=>rfl⟩,(rk.setOther (a:=⟨g,ks.getD i 0-2,none⟩) bg (.int .u64 (ndZ (M.nd (ks.getD i 0))))).drew,(lu.kept (w':=(wr.setCell ⟨g,ks.getD i 0-2,none⟩ (.int .u64 (ndZ (M.nd (ks.getD i 0))))).drew) fun k hk=>by
      obtain⟨a,ha,rfl⟩:=hk;cases ha;exact Below.heap_setCell _ _ _ _ lg)⟩)
     rw[← tk]at nxA;have hltA:Aside (i<j):=hlt;clear R rk lu hil hm tk own own2 R2 G2 hat bg lg hlt hq hg;generalize ndZ (M.nd (ks.getD i 0))=z at hz ck nxA;generalize ks.getD i 0=x at x2 xW cl cw fw nxA;have hsub:IntKind.u32.wrap ((x:Int)-2)=((x-2:Nat):Int):=by rw[IntKind.wrap_u32];have:=eA.out.2.1;omega
     have hix:((x-2:Nat):Int)<(X.W:Int):=by omega
     have hix2:¬(X.W:Int)≤((x-2:Nat):Int):=by omega
     generalize hy:x-2=y at cw fw nxA hsub hix hix2;generalize wd y=z0 at cw;clear hy
     go_wp2_with fail
     go_region
     generalize (wr.setCell ⟨g,y,none⟩ (.int .u64 z)).drew=wn at nxA ⊢;clear ck cl cw fw c18 hsub hix hix2 hz
     go_wp2_with fail
     go_roundg (gk-1)
     case measure=>have:=hI.out;have:=hltA.out;omega
     case rel =>
      have:=hI.out;have:=hltA.out;have hw:wrap64 ((i:Int)+1)=((i+1:Nat):Int):=by unfold wrap64;omega
      exact⟨i+1,_,by omega,by first|rw[hw]|go_num,nxA⟩
    ·obtain rfl:i=j:=by omega
     obtain⟨R,_,_⟩:=hq.out;rw[show ks.take i=ks from List.take_of_length_le (by rw[hnA.out];exact Nat.le_refl _)]at R;have RA:=toA R;have KC:=changed_any R.raw (show X.W≤32768 by rw[eA.out.2.1];exact hW);change Calls Tryz.prog 102 #[.pointer (some ⟨X.S,0,none⟩)] wr _ at KC;rw[eA.out.1]at KC;clear R hq hlt
     go_upto_region 16 with (first
      | (go_at_call 102;refine KC.mono ?_;clear KC;rintro e w4 ⟨rfl,fa',fc',raw,hfa,g4⟩))
     have p:=puA.out;have o':=shA.out.ok p.ok;have hXX:=hXA.out;have s4:StI w4 S (only M ks) ⟨I.P,I.R,I.mp,I.ad,I.cap,I.W,fa',fc',Mk.frees wd (Mk.downL I.W I.W),I.lines,I.c,wd,I.nm,I.l,I.on,true⟩:=by
      subst hXX;have hw:∀i,i<I.W→wd i=(only M ks).wz (i+2):=fun i hi=>by
       have hwi:=RA.out.words i hi;rw[hwi];by_cases a:i+2∈ks
       ·rw[if_pos a,Mdl.wz_in (M:=only M ks) a];rfl
       ·rw[if_neg a,Mdl.wz_no (M:=only M ks) a];split <;> rfl
      have htp:∀x∈(only M ks).hs,x<2+I.W:=fun x hx=>p.top x (shA.out.sub x hx)
      obtain⟨f1,f2,f3⟩:=Mk.frees_of (W:=I.W) (wd:=wd) o' htp (fun i hi=>by rw[hw i hi,wz_zero o'];exact Classical.not_not);exact⟨raw.blk,raw.mem,raw.own,raw.fre,raw.map,⟨o',p.inv,p.room1,p.room2,p.lines1,p.lines2,p.wide,htp,hw,f1,f2,f3,p.fit⟩,fun e=>by cases e⟩
     have gA:Aside (Wf (Fp S I) (Fp S ⟨I.P,I.R,I.mp,I.ad,I.cap,I.W,fa',fc',Mk.frees wd (Mk.downL I.W I.W),I.lines,I.c,wd,I.nm,I.l,I.on,true⟩) w w4):=by
      have b1:=bwA.out;have b2:=gcA.out;have b3:=RA.out.went;subst hXX;refine⟨g4.os.trans (b3.os.trans (b2.os.trans b1.os)),g4.tape.trans (b3.tape.trans (b2.tape.trans b1.tape)),g4.output.trans (b3.output.trans (b2.output.trans b1.output)),Nat.le_trans b1.size (Nat.le_trans b2.size (Nat.le_trans b3.size g4.size)),fun k hk hf=>?_,fun k hk=>?_⟩
      ·have k1:k<_:=Nat.lt_of_lt_of_le hk b1.size;have k2:k<_:=Nat.lt_of_lt_of_le k1 b2.size;have k3:k<_:=Nat.lt_of_lt_of_le k2 b3.size;have nw:¬FW (fxI S M I) k:=fun e=>hf (fpA.out k e)
       refine(g4.block k k3 fun e=>hf ?_).trans ((b3.block k k2 nw).trans ((b2.block k k1 nw).trans (b1.block k hk)));rcases e with e|e|e|e|e
       ·exact .inl e
       ·exact .inr (.inl e)
       ·exact .inr (.inr (.inl e))
       ·exact .inr (.inr (.inr (.inl e)))
       ·exact .inr (.inr (.inr (.inr (.inr e))))
      ·rcases hk with e|e|e|e|e|e
       ·exact .inl (.inl e)
       ·exact .inl (.inr (.inl e))
       ·exact .inl (.inr (.inr (.inl e)))
       ·exact .inl (.inr (.inr (.inr (.inl e))))
       ·exact .inl (.inr (.inr (.inr (.inr (.inl e)))))
       ·rcases hfa k e with e|e
        ·exact .inl (.inr (.inr (.inr (.inr (.inr e)))))
        ·exact .inr (Nat.le_trans (Nat.le_trans b1.size (Nat.le_trans b2.size b3.size)) e)
     have K2:=slen_any s4;rw[show (only M ks).hs.length=i from hnA.out]at K2;clear raw hfa g4 p o' hXX RA
     go_wp2_with (first
      | (go_at_call 22;refine K2.mono ?_;clear K2;rintro e w5 ⟨rfl,q5,e5⟩;have s5:=s4.drewN q5;have g5:=gA.out.drewN q5;rw[← e5]at s5 g5;have g5A:=toA g5;clear e5 s4 g5))
     go_ret
     exact⟨rfl,_,s5,g5A.out⟩
end
end Go.Proofs.YtnnmdkaoiofabaaGreat.Mk
namespace Go.Proofs.YtnnmdkaoiofabaaGreat.Mk
open Go Go.RowKit
section
variable {w w':World}{S:Nat}{F:Nat→Prop}{M:Mdl}{ks:List Nat}
theorem s_retain (h:St w S F M) (sh:Shut M ks){ad:Option Addr}{cap Bl:Nat}(hl:OwnR 36 w Bl ad ks.length cap (fun i=>.int .u32 (ks.getD i 0:Nat))) :
  Calls Tryz.prog 87 #[.pointer (some ⟨S,0,none⟩),.slice ad ks.length cap] w fun e w'=>e = .returned (.int .i64 ((M.hs.length:Int)-(ks.length:Int)))∧∃F',St w' S F' (only M ks)∧Wf F F' w w':=by
 obtain⟨I,h,rfl⟩:=h;refine(retain_any h sh hl).mono ?_;rintro e w' ⟨rfl,I',h',g⟩;exact⟨rfl,_,⟨I',h',rfl⟩,g⟩
theorem Rch.shut {H:Nat→Nat}{n:Nat}(r:Rch M H n ks) (up:ks.Pairwise (· < ·)):Shut M ks:=⟨r.inn,r.closed,up⟩
def CollQ (S:Nat) (F:Nat→Prop) (M:Mdl) (n:Nat) (H:Nat→Nat) (w:World) (e:Ending) (w':World):Prop:=
 ((∀i,i<n→M.isNode (H i))∧∃xs F',e = .returned (.tuple #[.int .i64 ((M.hs.length:Int)-(xs.length:Int)),.int .i64 0])∧Rch M H n xs∧xs.Pairwise (· < ·)∧St w' S F' (only M xs)∧Wf F F' w w') ∨
 ((∃i,i<n∧¬M.isNode (H i))∧e = .returned (.tuple #[.int .i64 0,.int .i64 101])∧St w' S F M∧Below w.heap.size w w')
set_option maxRecDepth 100000 in
set_option maxHeartbeats 2000000 in
theorem collect_any {ad:Option Addr}{n cap:Nat}{H:Nat→Nat}(s:St w S F M) (hl:HsAt w ad n H) (hb:∀i,i<n→H i<4294967296) (hn:n≤1000000) :
  Calls Tryz.prog 51 #[.pointer (some ⟨S,0,none⟩),.slice ad n cap] w (CollQ S F M n H w):=by
 have K:=reach_any (cap:=cap) s hl hb hn;have sA:Aside (∀u,Below w.heap.size w u→St u S F M):=fun u k=>s.below k
 by_cases all:∀i,i<n→M.isNode (H i)
 ·have K1:Calls Tryz.prog 28 #[.pointer (some ⟨S,0,none⟩),.slice ad n cap] w fun e w'=>∃ad' cap' xs,e = .returned (.tuple #[.slice ad' xs.length cap',.int .i64 0])∧Rch M H n xs∧xs.Pairwise (· < ·)∧OwnR 36 w' w.heap.size ad' xs.length cap' (fun i=>.int .u32 (xs.getD i 0:Nat))∧Below w.heap.size w w':=K.mono fun e w' q=>by
   rcases q with ⟨_,r⟩|⟨⟨i,hi,hq⟩,_⟩
   ·exact r
   ·exact absurd (all i hi) hq
  have allA:Aside (∀i,i<n→M.isNode (H i)):=all;clear K all s hl hb;go_enter Tryz.func51,Tryz.ntmps51
  go_wp2_with (first
   | (go_at_call 28;refine K1.mono ?_;clear K1;rintro e w1 ⟨ad1,cap1,xs,rfl,rc,up,o1,b1⟩;have s1:=sA.out w1 b1;have K2:=s_retain s1 (rc.shut up) o1;have rA:Aside (Rch M H n xs∧xs.Pairwise (· < ·)∧Below w.heap.size w w1):=⟨rc,up,b1⟩;clear rc up o1 b1)
   | (go_at_call 87;refine K2.mono ?_;clear K2;rintro e w2 ⟨rfl,F2,s2,g2⟩;have gA:Aside (St w2 S F2 (only M xs)∧Wf F F2 w1 w2):=⟨s2,g2⟩;clear s2 g2))
  go_ret2
  obtain⟨rc,up,b1⟩:=rA.out;exact .inl ⟨allA.out,xs,F2,rfl,rc,up,gA.out.1,(Wf.of_below b1 F).trans gA.out.2⟩
 ·have K1:Calls Tryz.prog 28 #[.pointer (some ⟨S,0,none⟩),.slice ad n cap] w fun e w'=>e = .returned (.tuple #[.slice Option.none 0 0,.int .i64 101])∧Below w.heap.size w w':=K.mono fun e w' q=>by
   rcases q with ⟨r,_⟩|⟨_,r⟩
   ·exact absurd r all
   ·exact r
  have allA:Aside (∃i,i<n∧¬M.isNode (H i)):=Classical.byContradiction fun q=>all fun i hi=>Classical.byContradiction fun z=>q ⟨i,hi,z⟩
  clear K all s hl hb;go_enter Tryz.func51,Tryz.ntmps51
  go_wp2_with (first
   | (go_at_call 28;refine K1.mono ?_;clear K1;rintro e w1 ⟨rfl,b1⟩))
  go_ret2
  exact .inr ⟨allA.out,rfl,sA.out _ b1,b1⟩
end
end Go.Proofs.YtnnmdkaoiofabaaGreat.Mk
namespace Go.Proofs.YtnnmdkaoiofabaaGreat.Mk
open Go Go.RowKit
section
variable {M:Mdl}{H H':Nat→Nat}{j n n':Nat}{ks ls:List Nat}
theorem rising_same : ∀{a b:List Nat},a.Pairwise (· < ·)→b.Pairwise (· < ·)→(∀x,x∈a↔x∈b)→a=b
 | [],[],_,_,_=>rfl
 | [],y :: b,_,_,h=>by have:=(h y).2 (by simp);cases this
 | x :: a,[],_,_,h=>by have:=(h x).1 (by simp);cases this
 | x :: a,y :: b,ha,hb,h=>by
  rw[List.pairwise_cons]at ha hb;have hxy:x=y:=by
   rcases List.mem_cons.1 ((h x).1 (by simp))with e|e
   ·exact e
   ·rcases List.mem_cons.1 ((h y).2 (by simp))with e2|e2
    ·exact e2.symm
    ·have:=hb.1 x e;have:=ha.1 y e2;omega
  subst hxy;rw[rising_same ha.2 hb.2 fun z=>?_];constructor
  ·intro hz;rcases List.mem_cons.1 ((h z).1 (List.mem_cons_of_mem _ hz))with e|e
   ·have:=ha.1 z hz;omega
   ·exact e
  ·intro hz;rcases List.mem_cons.1 ((h z).2 (List.mem_cons_of_mem _ hz))with e|e
   ·have:=hb.1 z hz;omega
   ·exact e
theorem Rch.none (r:Rch M H 0 ks):ks=[]:=by
 cases ks with
 | nil=>rfl
 | cons x l=>exact(r.only (fun _=>False) (fun i hi=>by omega) (fun _ _ h=>h.elim) x (by simp)).elim
end
theorem HsAt.zero (w:World) (ad:Option Addr) (H:Nat→Nat):HsAt w ad 0 H:=.inl rfl
theorem hs_cells {u:World}{b:Nat}{cs:Array Value}(h:u.heap[b]? = some (.cells cs 36 (0,0))){n:Nat}{H:Nat→Nat}(e:∀i,i<n→cs[i]? = some (.int .u32 (H i:Int))):HsAt u (some ⟨b,0,Option.none⟩) n H:=
 .inr ⟨b,0,rfl,(Array.getElem?_eq_some_iff.1 h).1,fun i hi=>by rw[Nat.zero_add];simp[World.cell?,h,e i hi]⟩
theorem hs_one (w:World) (a:Nat):HsAt (w.alloc (.cells #[.int .u32 (a:Int)] 36)) (some ⟨w.heap.size,0,none⟩) 1 (fun _=>a):=hs_cells (heap_alloc_new w _) fun i hi=>by
 obtain rfl:i=0:=by omega
 rfl
def at2 (a c:Nat) (i:Nat):Nat:=if i=0 then a else c
def at3 (a c d:Nat) (i:Nat):Nat:=if i=0 then a else if i=1 then c else d
section
variable {w:World}{S:Nat}{F:Nat→Prop}{M:Mdl}{ad:Option Addr}{n cap:Nat}{H:Nat→Nat}
theorem lt32 (o:M.Ok){x:Nat}(h:M.isNode x):x<4294967296:=by have:=Mdl.isNode_lt o h;omega
theorem collect_yes (s:St w S F M) (hl:HsAt w ad n H) (all:∀i,i<n→M.isNode (H i)) (hn:n≤1000000) :
  Calls Tryz.prog 51 #[.pointer (some ⟨S,0,none⟩),.slice ad n cap] w fun e w'=>∃xs F',e = .returned (.tuple #[.int .i64 ((M.hs.length:Int)-(xs.length:Int)),.int .i64 0])∧Rch M H n xs∧xs.Pairwise (· < ·)∧St w' S F' (only M xs)∧Wf F F' w w':=
 (collect_any (cap:=cap) s hl (fun i hi=>lt32 s.ok (all i hi)) hn).mono fun e w' q=>by
  rcases q with ⟨_,r⟩|⟨⟨i,hi,hq⟩,_⟩
  ·exact r
  ·exact absurd (all i hi) hq
end
end Go.Proofs.YtnnmdkaoiofabaaGreat.Mk
