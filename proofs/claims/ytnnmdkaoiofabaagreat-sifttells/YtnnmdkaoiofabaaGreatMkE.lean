/-
  What a store is told when its words were changed (changed): which of its handles are free.
-/
import Derived.Test.YtnnmdkaoiofabaaGreatMkX
namespace Go.Proofs.YtnnmdkaoiofabaaGreat.Mk
open Go Go.RowKit Go.Shelf
section
variable {w w':World}{X:Fx}{st:Bool}{c:Nat→Int}{fa:Option Addr}{k fc:Nat}{V:Nat→Value}{nm:Int→Option Int}
theorem box_went {u u':World}{Q:Nat→Prop}{Bs:Nat}{T:TypeId}{x:Value}(bx:Boxed u Bs T x) (g:Went Q u u') (hn:¬Q Bs):Boxed u' Bs T x:=(g.block Bs bx.lt hn).trans bx
def RlI (w:World) (X:Fx) (c:Nat→Int) (nm:Int→Option Int) (fa:Option Addr) (Bs Bx:Nat) (pre:List (Nm X.W)) (u:World):Prop:=
 (∃fa' fc',Raw u X true c fa' (frees X.wd (pre.map (·.1))).length fc' (fun i=>.int .u32 ((frees X.wd (pre.map (·.1))).getD i 0:Nat)) nm∧∀i,At fa' i→At fa i∨w.heap.size≤i)∧Boxed u Bs 28 (.pointer (some ⟨X.S,0,none⟩))∧Boxed u Bx 90 (.slice X.ad X.W X.cap)∧Went (FS X fa) w u∧pre.length≤X.W
theorem raw_cells {u:World}(h:Raw u X st c fa k fc V nm){b:Nat}(hb:FS X fa b∨At X.ad b) (hm:b≠X.mp){o:Obj}(ho:u.heap[b]? = some o):o.isCells=true:=by
 obtain⟨cs,hS,_⟩:=h.blk;obtain⟨o',f,m⟩:=h.mem;obtain⟨cr,hR,_⟩:=m.row;have hP:=m.head;rcases hb with (rfl|rfl|rfl|rfl|e)|e
 ·rw[hS]at ho;cases ho;rfl
 ·rw[hP]at ho;cases ho;rfl
 ·rw[hR]at ho;cases ho;rfl
 ·exact absurd rfl hm
 ·obtain⟨cur,hc⟩:=h.fre.kind b e;rw[hc]at ho;cases ho;rfl
 ·obtain⟨cur,hc⟩:=h.own.kind b e;rw[hc]at ho;cases ho;rfl
theorem RlI.own {w0:World}{Bs Bx B:Nat}(hB:w0.heap.size≤B) (hmp:X.mp<B):OwnFrom B (RlI w0 X c nm fa Bs Bx):=by
 rintro pre u u' row ⟨⟨fa',fc',raw,hn⟩,b1,b2,wt,hl⟩ hg hr;have ne:∀b,(FS X fa' b∨At X.ad b)→some b≠row:=fun b hb e=>by
  obtain⟨hBb,o,ho,hc⟩:=hr b e.symm;by_cases q:b=X.mp
  ·omega
  ·have:=raw_cells raw hb q ho;rw[hc]at this;cases this
 have nb:∀{b:Nat} {T:TypeId} {x:Value},Boxed u b T x→some b≠row:=fun {b T x} bx e=>by
  obtain⟨hBb,o,ho,hc⟩:=hr b e.symm;rw[show u.heap[b]? = _ from bx]at ho;cases ho;cases hc
 refine⟨⟨fa',fc',raw.kept fun b hb=>hg.block b (raw.lt b hb) (ne b hb),hn⟩,b1.kept hg (nb b1),b2.kept hg (nb b2),⟨hg.os.trans wt.os,hg.tape.trans wt.tape,hg.output.trans wt.output,Nat.le_trans wt.size hg.size,fun k hk hf=>(hg.block k (Nat.lt_of_lt_of_le hk wt.size) fun e=>?_).trans (wt.block k hk hf)⟩,hl⟩;have:=(hr k e.symm).1;omega
theorem keeps_of {u u':World}{B:Nat}(h:Raw u X st c fa k fc V nm) (g:Went (FS X fa) u u') (hmp:X.mp<B):KeepsFrom B u u':=
 ⟨g.size,fun b o hB hk ho=>(g.block b (Array.getElem?_eq_some_iff.1 hk).1 fun e=>by
  by_cases q:b=X.mp
  ·omega
  ·have:=raw_cells h (.inl e) q hk;rw[ho]at this;cases this).trans hk⟩
theorem box_out {u:World}(h:Raw u X st c fa k fc V nm){b:Nat}{T:TypeId}{x:Value}(bx:Boxed u b T x) (hT:T≠92∧T≠144∧T≠261∧T≠36):¬FS X fa b:=by
 have hb:u.heap[b]? = _:=bx;obtain⟨cs,hS,_⟩:=h.blk;obtain⟨o',f,m⟩:=h.mem;obtain⟨cr,hR,_⟩:=m.row;obtain⟨es,ck,l,hM,_⟩:=h.map;have hP:=m.head;rintro(rfl|rfl|rfl|rfl|e)
 ·rw[hS]at hb;simp at hb;exact hT.1 hb.2.symm
 ·rw[hP]at hb;injection hb with hb;injection hb with _ hb;exact hT.2.1 hb.symm
 ·rw[hR]at hb;simp at hb;exact hT.2.2.1 hb.2.symm
 ·rw[hM]at hb;simp at hb
 ·obtain⟨cur,hc⟩:=h.fre.kind b e;rw[hc]at hb;simp at hb;exact hT.2.2.2 hb.2.symm
theorem keepB_of {u u':World}{Bx:Nat}{x:Value}(h:Raw u X st c fa k fc V nm) (bx:Boxed u Bx 90 x) (g:Went (FS X fa) u u'):KeepB Bx X.ad u u':=by
 obtain⟨a1,a2,a3,a4,a5,a6,a7,a8,a9,f1,f2,f3,f4,f5⟩:=h.apart;rintro b (rfl|e)
 ·exact g.block b bx.lt (box_out h bx (by decide))
 ·refine g.block b (h.lt b (.inr e)) ?_;rintro(rfl|rfl|rfl|rfl|q)
  ·exact a6 e
  ·exact a7 e
  ·exact a8 e
  ·exact a9 e
  ·exact f5 b e q
theorem went_on {u u':World}{fa':Option Addr}(wt:Went (FS X fa) w u) (hn:∀i,At fa' i→At fa i∨w.heap.size≤i) (g:Went (FS X fa') u u'):Went (FS X fa) w u':=
 ⟨g.os.trans wt.os,g.tape.trans wt.tape,g.output.trans wt.output,Nat.le_trans wt.size g.size,fun b hb hf=>(g.block b (Nat.lt_of_lt_of_le hb wt.size) fun e=>by
  rcases e with e|e|e|e|e
  ·exact hf (.inl e)
  ·exact hf (.inr (.inl e))
  ·exact hf (.inr (.inr (.inl e)))
  ·exact hf (.inr (.inr (.inr (.inl e))))
  ·rcases hn b e with e|e
   ·exact hf (.inr (.inr (.inr (.inr e))))
   ·omega).trans (wt.block b hb hf)⟩
theorem rl_post {u u':World}{Bs Bx B:Nat}{pre:List (Nm X.W)}{x:Nm X.W}{fa' fa2:Option Addr}{k' fc' fc2:Nat}{V':Nat→Value}(raw:Raw u X true c fa' k' fc' V' nm)
  (hn:∀i,At fa' i→At fa i∨w.heap.size≤i) (bs:Boxed u Bs 28 (.pointer (some ⟨X.S,0,none⟩))) (bx:Boxed u Bx 90 (.slice X.ad X.W X.cap)) (wt:Went (FS X fa) w u) (hlt:pre.length<X.W) (hB:X.mp<B)
  (g:Went (FS X fa') u u') (raw2:Raw u' X true c fa2 (frees X.wd (pre.map (·.1) ++ [x.1])).length fc2 (fun i=>.int .u32 ((frees X.wd (pre.map (·.1) ++ [x.1])).getD i 0:Nat)) nm) (hn2:∀i,At fa2 i→At fa' i∨u.heap.size≤i):KeepsFrom B u u'∧KeepB Bx X.ad u u'∧RlI w X c nm fa Bs Bx (pre ++ [x]) u':=by
 have gb:∀{b:Nat} {T:TypeId} {v:Value},Boxed u b T v→(T≠92∧T≠144∧T≠261∧T≠36)→Boxed u' b T v:=fun bb hT=>box_went bb g (box_out raw bb hT)
 refine⟨keeps_of raw g hB,keepB_of raw bx g,⟨fa2,fc2,by rw[List.map_append];exact raw2,fun i hi=>?_⟩,gb bs (by decide),gb bx (by decide),went_on wt hn g,by simp;omega⟩;rcases hn2 i hi with e|e
 ·exact hn i e
 ·exact .inr (Nat.le_trans wt.size e)
def ph12 (li:Array Bool):Nat:=if li.getD 12 false=true then 3 else if li.getD 9 false=true then 2 else if li.getD 8 false=true then 1 else 0
attribute [local go_sem] Oper.semAt_some
set_option maxRecDepth 100000 in
set_option maxHeartbeats 4000000 in
theorem changed_any (h:Raw w X st c fa k fc V nm) (wide:X.W≤32768) :
  Calls Tryz.prog 102 #[.pointer (some ⟨X.S,0,none⟩)] w fun e w'=>e = .returned (.tuple #[])∧∃fa' fc',Raw w' X true c fa' (frees X.wd (downL X.W X.W)).length fc' (fun i=>.int .u32 ((frees X.wd (downL X.W X.W)).getD i 0:Nat)) nm∧(∀i,At fa' i→At fa i∨w.heap.size≤i)∧Went (FS X fa) w w':=by
 obtain⟨Bs,hBs⟩:∃Bs,w.heap.size=Bs:=⟨_,rfl⟩
 have h1:=h.new (.cells #[.pointer (some ⟨X.S,0,none⟩)] 28);have bx1:Boxed (w.alloc (.cells #[.pointer (some ⟨X.S,0,none⟩)] 28)) Bs 28 (.pointer (some ⟨X.S,0,none⟩)):=by rw[← hBs];exact Boxed.new _ _ _
 have wt1:Aside (Went (FS X fa) w (w.alloc (.cells #[.pointer (some ⟨X.S,0,none⟩)] 28))):=Went.new _ _ _;have ltA:Aside (∀i,(FS X fa i∨At X.ad i)→i<Bs):=fun i hi=>hBs ▸ h.lt i hi
 have nF:Aside (¬FS X fa Bs):=fun e=>by have:=ltA.out Bs (.inl e);omega
 have cb:=bx1.cell;have c28:=h1.blk.cell (i:=28) (by omega);have f28:=h1.blk.frozen 28;obtain⟨h2,g2⟩:=h1.told true;have bx2:=box_went bx1 g2 nF.out;have g2A:Aside (Went (FS X fa) w ((w.alloc (.cells #[.pointer (some ⟨X.S,0,none⟩)] 28)).setCell ⟨X.S,28,none⟩ (.bool true))):=wt1.out.trans g2;refine(callsIn_wide (n:=3)).1 ?_;refine callsIn_of_wp_marks Tryz.func102 rfl trivial ?_ rfl;simp only[Tryz.ntmps102,List.size_toArray,List.length_cons,List.length_nil,Nat.reduceAdd,Nat.reduceSub,Array.replicate_succ,Array.replicate_zero,List.push_toArray,List.append_toArray,List.nil_append,List.cons_append]
 refine wpIn_wide.2 ?_;clear h h1 bx1 g2 wt1;go_upto_region 2 with fail
 clear hBs cb c28 f28;generalize (w.alloc (.cells #[.pointer (some ⟨X.S,0,none⟩)] 28)).setCell ⟨X.S,28,none⟩ (.bool true)=w4 at h2 bx2 g2A ⊢;have h4:=h2;have bx4:=bx2;have cb4:=bx4.cell;have c19:w4.cell? ⟨X.S,19,none⟩=some (.slice fa k fc):=h4.blk.cell (i:=19) (by omega);have f19:=h4.blk.frozen 19;clear h2 bx2;go_region
 obtain⟨h5,g5⟩:=h4.cut (Nat.zero_le k);have h5:=h5.drew;have g5A:Aside (Went (FS X fa) w (w4.setCell ⟨X.S,19,none⟩ (.slice fa 0 fc)).drew):=(g2A.out.trans g5).drew;have bx5:Boxed (w4.setCell ⟨X.S,19,none⟩ (.slice fa 0 fc)).drew Bs 28 (.pointer (some ⟨X.S,0,none⟩)):=box_went bx4 g5.drew nF.out;generalize (w4.setCell ⟨X.S,19,none⟩ (.slice fa 0 fc)).drew=w5 at h5 g5A bx5 ⊢;have c18:w5.cell? ⟨X.S,18,none⟩=some (.slice X.ad X.W X.cap):=h5.blk.cell (i:=18) (by omega);have cb5:=bx5.cell;have KB:=back_any X.ad X.W X.cap w5;clear g5 h4 bx4 cb4 c19 f19 g2A
 go_wp2_with (first
  | (go_at_call 122;refine KB.mono ?_;clear KB;rintro e w6 ⟨rfl,rfl⟩))
 have bx6:Boxed (w5.alloc (.cells #[.slice X.ad X.W X.cap] 90)) w5.heap.size 90 (.slice X.ad X.W X.cap):=Boxed.new _ _ _;have h6:=h5.new (.cells #[.slice X.ad X.W X.cap] 90);have bs6:=bx5.alloc (.cells #[.slice X.ad X.W X.cap] 90);have g6:Aside (Went (FS X fa) w (w5.alloc (.cells #[.slice X.ad X.W X.cap] 90))):=g5A.out.trans (Went.new _ _ _);obtain⟨Bx,hBx⟩:∃Bx,w5.heap.size=Bx:=⟨_,rfl⟩
 rw[hBx]at bx6 ⊢;clear hBx h5 g5A bx5 cb5 c18;generalize w5.alloc (.cells #[.slice X.ad X.W X.cap] 90)=w6 at h6 bs6 g6 bx6 ⊢;have hmp6:X.mp<w6.heap.size:=h6.map.lt;have h6fre:Raw w6 X true c fa (frees X.wd (([]:List (Nm X.W)).map (·.1))).length fc (fun i=>.int .u32 ((frees X.wd (([]:List (Nm X.W)).map (·.1))).getD i 0:Nat)) nm:=⟨h6.blk,h6.mem,h6.own,h6.fre.congr fun i hi=>absurd hi (Nat.not_lt_zero _),h6.map⟩
 have size6:w.heap.size≤w6.heap.size:=g6.out.size;refine(wpIn_wide (n:=3)).1 ?_
 refine wpIn_rangeFunc_ownG rfl (by omega) (gf:=152) (lb:=#[.pointer (some ⟨Bx,0,none⟩)]) rfl trivial (enters_of Tryz.func152 (by kernel_rfl) rfl)
  (back_stops (3-1) (by omega) Bx X.W X.cap X.ad X.wd w6 (by omega) bx6.cell bx6.lt h6.own) keepB_t (keepB_b (by
   rintro j (rfl|e)
   ·exact bx6.lt
   ·exact h6.lt j (.inr e))) (Below.refl _ _) (fun _=>rfl)
  (RlI w X c nm fa Bs Bx) (fun _ _ _=>False) (RlI.own size6 hmp6) (fun _ _ _ _ _ hs _ _=>hs)
  ⟨⟨fa,fc,h6fre,fun i hi=>.inl hi⟩,bs6,bx6,g6.out,Nat.zero_le _⟩
  (fun x=>{ tmps:=#[.pointer (some ⟨X.S,0,none⟩),.pointer (some ⟨Bs,0,none⟩),.int .i64 ((x.1:Nat):Int),.int .u64 (X.wd x.1),.pointer (some ⟨X.S,0,none⟩),.pointer (some ⟨X.S,0,none⟩),.pointer (some ⟨X.S,28,none⟩),.pointer (some ⟨X.S,0,none⟩),.pointer (some ⟨X.S,0,none⟩),.pointer (some ⟨X.S,0,none⟩),.pointer (some ⟨X.S,19,none⟩),.slice fa k fc,.slice fa 0 fc,.pointer (some ⟨X.S,0,none⟩),.pointer (some ⟨X.S,19,none⟩),.pointer (some ⟨X.S,0,none⟩),.pointer (some ⟨X.S,0,none⟩),.pointer (some ⟨X.S,18,none⟩),.slice X.ad X.W X.cap,.func (.func 152) #[] #[.pointer (some ⟨Bx,0,none⟩)],.int .i64 ((x.1:Nat):Int),.int .u64 (X.wd x.1),undef,undef,undef,undef,undef,undef,undef,undef,undef,undef,undef,undef,undef,undef],defers:=[] }) ?assign ?body ?done ?stop
 case assign =>
  intro l x u K hK
  gi_wp2
  exact hK
 case body =>
  rintro l pre x u ⟨⟨fa',fc',raw,hn⟩,bs,bx,wt,hl⟩ hlt;have cbs:=bs.cell;have hx:=x.2;have hwx:IntKind.u32.wrap ((x.1:Nat):Int)=((x.1:Nat):Int):=by rw[IntKind.wrap_u32];omega
  have hwx2:IntKind.u32.wrap (2+((x.1:Nat):Int))=2+((x.1:Nat):Int):=by rw[IntKind.wrap_u32];omega
  have hpm:(pre ++ [x]).map (·.1)=pre.map (·.1) ++ [x.1]:=by rw[List.map_append];rfl
  obtain⟨a1,a2,a3,a4,a5,a6,a7,a8,a9,q1,q2,q3,q4,q5⟩:=raw.apart;obtain⟨FR,hFR⟩:∃FR,frees X.wd (pre.map (·.1))=FR:=⟨_,rfl⟩
  have hfl:FR.length≤32768:=by
   rw[← hFR];have:=frees_len X.wd (pre.map (·.1));rw[List.length_map]at this;omega
  rw[hFR]at raw;obtain⟨kk,hkk⟩:∃kk,FR.length=kk:=⟨_,rfl⟩
  have hkA:Aside (FR.length=kk):=hkk;have hFA:Aside (frees X.wd (pre.map (·.1))=FR):=hFR;rw[hkk]at raw hfl;clear hkk hFR;by_cases hz:X.wd x.1=0
  ·rw[hz];have hfr2:Aside (frees X.wd (pre.map (·.1) ++ [x.1])=FR ++ [x.1+2]):=by rw[← hFA.out];exact frees_zero hz
   obtain⟨f,fc1,u3,hr3,o3,b3,hf3⟩:=run_app_h ((raw.fre.drew).new (.cells #[.int .u32 (2+((x.1:Nat):Int))] 36)) u.heap.size (2+((x.1:Nat):Int)) (heap_alloc_new u.drew _) (by omega) (Nat.zero_le _);have kp3:∀i,i<u.heap.size→¬At fa' i→u3.heap[i]? = u.heap[i]?:=fun i hi hn=>(b3.block i (by rw[World.size_alloc];exact Nat.lt_succ_of_lt hi) hn).trans (Below.heap_alloc u.drew _ _ hi)
   obtain⟨ws,hws⟩:∃ws:Nat→World,ws=fun p=>if p=0 then u.drew else if p=1 then u.drew.alloc (.cells #[.int .u32 (2+((x.1:Nat):Int))] 36)else if p=2 then u3 else u3.setCell ⟨X.S,19,none⟩ (.slice (some ⟨f,0,none⟩) (kk+1) fc1):=⟨_,rfl⟩
   have w0e:ws 0=u.drew:=by rw[hws];rfl
   have w1e:ws 1=u.drew.alloc (.cells #[.int .u32 (2+((x.1:Nat):Int))] 36):=by rw[hws];rfl
   have w2e:ws 2=u3:=by rw[hws];rfl
   have w3e:ws 3=u3.setCell ⟨X.S,19,none⟩ (.slice (some ⟨f,0,none⟩) (kk+1) fc1):=by rw[hws];rfl
   clear hws;have bsn:¬At fa' Bs:=fun e=>box_out raw bs (by decide) (.inr (.inr (.inr (.inr e))))
   have kpw:∀i q,q<3→i<u.heap.size→¬At fa' i→(ws q).heap[i]? = u.heap[i]?:=fun i q hq hi hn=>by
    have:q=0∨q=1∨q=2:=by omega
    rcases this with rfl|rfl|rfl
    ·rw[w0e];rfl
    ·rw[w1e];exact Below.heap_alloc u.drew _ _ hi
    ·rw[w2e];exact kp3 i hi hn
   have blkw:∀q,q<3→(ws q).rowIs X.S 92 29 (stCell X.n X.v X.l X.room X.ad X.W X.cap fa' kk fc' X.P X.mp X.lines X.on true):=fun q hq=>raw.blk.of_block (kpw _ q hq raw.blk.lt q1)
   have cbw:∀q,q<3→(ws q).cell? ⟨Bs,0,none⟩=some (.pointer (some ⟨X.S,0,none⟩)):=fun q hq=>(World.cell?_of_block (kpw Bs q hq bs.lt bsn)).trans cbs
   gi_wp2
   refine wpIn_region_listed (by kernel_rfl) (SH ws ph12 12 24 (fun i=>if i=0 then .pointer (some ⟨X.S,0,none⟩)else if i=1 then .pointer (some ⟨X.S,0,none⟩)else if i=2 then .pointer (some ⟨X.S,0,none⟩)else if i=3 then .pointer (some ⟨X.S,19,none⟩)else if i=4 then .slice fa' kk fc' else if i=5 then .int .i64 ((x.1:Nat):Int)else if i=6 then .int .u32 ((x.1:Nat):Int)else if i=7 then .int .u32 (2+((x.1:Nat):Int))else if i=8 then .slice (some ⟨u.heap.size,0,none⟩) 1 1 else if i=9 then .slice (some ⟨f,0,none⟩) (kk+1) fc1 else if i=10 then .pointer (some ⟨X.S,0,none⟩)else .pointer (some ⟨X.S,19,none⟩)) _) (by kernel_rfl) ?_ ?_ (SH.start _ w0e.symm)
   ·intro listed i o a w' ho hn hi hdep hcl g;have hi11:i<13:=(Array.getElem?_eq_some_iff.1 ho).1;have c11:listed.getD 11 false=true→∀j,j<11→listed.getD j false=true:=fun r j hj=>by
     have:j=0∨j=1∨j=2∨j=3∨j=4∨j=5∨j=6∨j=7∨j=8∨j=9∨j=10:=by omega
     rcases this with rfl|rfl|rfl|rfl|rfl|rfl|rfl|rfl|rfl|rfl|rfl
     ·exact hcl 11 _ r rfl { on:=0,ground:=.phase } (by simp) (by decide)
     ·exact hcl 11 _ r rfl { on:=1,ground:=.phase } (by simp) (by decide)
     ·exact hcl 11 _ r rfl { on:=2,ground:=.phase } (by simp) (by decide)
     ·exact hcl 11 _ r rfl { on:=3,ground:=.phase } (by simp) (by decide)
     ·exact hcl 11 _ r rfl { on:=4,ground:=.phase } (by simp) (by decide)
     ·exact hcl 11 _ r rfl { on:=5,ground:=.phase } (by simp) (by decide)
     ·exact hcl 11 _ r rfl { on:=6,ground:=.phase } (by simp) (by decide)
     ·exact hcl 11 _ r rfl { on:=7,ground:=.phase } (by simp) (by decide)
     ·exact hcl 11 _ r rfl { on:=8,ground:=.phase } (by simp) (by decide)
     ·exact hcl 11 _ r rfl { on:=9,ground:=.phase } (by simp) (by decide)
     ·exact hcl 11 _ r rfl { on:=10,ground:=.data } (by simp) (by decide)
    have n12:i<12→listed.getD 12 false=false:=fun hi10=>by
     cases r:listed.getD 12 false with
     | false=>rfl
     | true =>
      have r9:=hcl 12 _ r rfl { on:=11,ground:=.data } (by simp) (by decide);by_cases q:i=11
      ·rw[q,r9]at hi;cases hi
      ·rw[c11 r9 i (by omega)]at hi;cases hi
    have c9:listed.getD 9 false=true→listed.getD 4 false=true∧listed.getD 8 false=true:=fun r=>⟨hcl 9 _ r rfl { on:=4,ground:=.data } (by simp) (by decide),hcl 9 _ r rfl { on:=8,ground:=.data } (by simp) (by decide)⟩
    have gw:Aside (w'=ws (if listed.getD 12 false=true then 3 else if listed.getD 9 false=true then 2 else if listed.getD 8 false=true then 1 else 0)):=g.world;have n12A:Aside (i<12→listed.getD 12 false=false):=n12;have wq:Aside (i<12→∃q,q<3∧w'=ws q):=fun hi10=>by
     rw[gw.out,n12 hi10];simp only[Bool.false_eq_true,if_false];split
     ·exact⟨2,by omega,rfl⟩
     ·split
      ·exact⟨1,by omega,rfl⟩
      ·exact⟨0,by omega,rfl⟩
    have same:Aside (i≠8→i≠9→i≠12→w'=ws (if (listed.setIfInBounds i true).getD 12 false=true then 3 else if (listed.setIfInBounds i true).getD 9 false=true then 2 else if (listed.setIfInBounds i true).getD 8 false=true then 1 else 0)):=fun h6 h7 h10=>by
     rw[getD_set_ne false h10,getD_set_ne false h7,getD_set_ne false h6];exact gw.out
    have hiA:Aside (listed.getD i false=false):=hi;have c9A:Aside (listed.getD 9 false=true→listed.getD 4 false=true∧listed.getD 8 false=true):=c9;have hnA:Aside (listed.size=13):=hn;clear c9 c11 n12 hi hn;have q1:a.tmps.getD 1 undef = .pointer (some ⟨Bs,0,none⟩):=g.other 1 (by omega);have q2:a.tmps.getD 2 undef = .int .i64 ((x.1:Nat):Int):=g.other 2 (by omega);have lt13:i=0∨i=1∨i=2∨i=3∨i=4∨i=5∨i=6∨i=7∨i=8∨i=9∨i=10∨i=11∨i=12:=by omega
    rcases lt13 with rfl|rfl|rfl|rfl|rfl|rfl|rfl|rfl|rfl|rfl|rfl|rfl|rfl
    ·simp at ho;subst ho;obtain⟨q,hq,rfl⟩:=wq.out (by omega);have cc:=cbw q hq;refine wpOpIn_plain rfl rfl ?_;go_simp
     exact g.step (i:=0) (by omega) (show 24+12≤36 by omega) (same.out (by omega) (by omega) (by omega))
    ·simp at ho;subst ho;obtain⟨q,hq,rfl⟩:=wq.out (by omega);have cc:=cbw q hq;refine wpOpIn_plain rfl rfl ?_;go_simp
     exact g.step (i:=1) (by omega) (show 24+12≤36 by omega) (same.out (by omega) (by omega) (by omega))
    ·simp at ho;subst ho;have v1:a.tmps.getD 25 undef = .pointer (some ⟨X.S,0,none⟩):=g.vals 1 (by omega) (hdep { on:=1,ground:=.data } (by simp) (by decide));refine wpOpIn_plain rfl rfl ?_;go_simp
     exact g.step (i:=2) (by omega) (show 24+12≤36 by omega) (same.out (by omega) (by omega) (by omega))
    ·simp at ho;subst ho;have v2:a.tmps.getD 26 undef = .pointer (some ⟨X.S,0,none⟩):=g.vals 2 (by omega) (hdep { on:=2,ground:=.data } (by simp) (by decide));refine wpOpIn_plain rfl rfl ?_;go_simp
     exact g.step (i:=3) (by omega) (show 24+12≤36 by omega) (same.out (by omega) (by omega) (by omega))
    ·simp at ho;subst ho;have v3:a.tmps.getD 27 undef = .pointer (some ⟨X.S,19,none⟩):=g.vals 3 (by omega) (hdep { on:=3,ground:=.data } (by simp) (by decide));obtain⟨q,hq,rfl⟩:=wq.out (by omega);have cc:(ws q).cell? ⟨X.S,19,none⟩=some (.slice fa' kk fc'):=(blkw q hq).cell (i:=19) (by omega);refine wpOpIn_plain rfl rfl ?_;go_simp
     exact g.step (i:=4) (by omega) (show 24+12≤36 by omega) (same.out (by omega) (by omega) (by omega))
    ·simp at ho;subst ho;refine wpOpIn_plain rfl rfl ?_;go_simp
     exact g.step (i:=5) (by omega) (show 24+12≤36 by omega) (same.out (by omega) (by omega) (by omega))
    ·simp at ho;subst ho;have v5:a.tmps.getD 29 undef = .int .i64 ((x.1:Nat):Int):=g.vals 5 (by omega) (hdep { on:=5,ground:=.data } (by simp) (by decide));refine wpOpIn_plain rfl rfl ?_;go_simp
     exact g.step (i:=6) (by omega) (show 24+12≤36 by omega) (same.out (by omega) (by omega) (by omega))
    ·simp at ho;subst ho;have v6:a.tmps.getD 30 undef = .int .u32 ((x.1:Nat):Int):=g.vals 6 (by omega) (hdep { on:=6,ground:=.data } (by simp) (by decide));refine wpOpIn_plain rfl rfl ?_;go_simp
     exact g.step (i:=7) (by omega) (show 24+12≤36 by omega) (same.out (by omega) (by omega) (by omega))
    ·simp at ho;subst ho;have v7:a.tmps.getD 31 undef = .int .u32 (2+((x.1:Nat):Int)):=g.vals 7 (by omega) (hdep { on:=7,ground:=.data } (by simp) (by decide));have n9:listed.getD 9 false=false:=by
      cases r:listed.getD 9 false with
      | false=>rfl
      | true=>have q:=hiA.out;rw[(c9A.out r).2]at q;cases q
     have w0:w'=u.drew:=by rw[gw.out,n12A.out (by omega),n9,hiA.out];simp only[Bool.false_eq_true,if_false];exact w0e
     refine wpOpIn_plain rfl rfl ?_;rw[w0];go_simp
     rw[show a.tmps[31]?.getD undef = .int .u32 (2+((x.1:Nat):Int)) by simpa using v7];go_simp
     have kk2:u.drew.alloc (.cells #[.int .u32 (2+((x.1:Nat):Int))] 36)=ws (ph12 (listed.setIfInBounds 8 true)):=by
      unfold ph12;rw[getD_set_ne false (by omega),getD_set_ne false (by omega),n12A.out (by omega),n9,show (listed.setIfInBounds 8 true).getD 8 false=true by simp[hnA.out]];simp only[Bool.false_eq_true,if_false,if_true];exact w1e.symm
     exact g.step (i:=8) (by omega) (show 24+12≤36 by omega) kk2
    ·simp at ho;subst ho;have v4:a.tmps.getD 28 undef = .slice fa' kk fc':=g.vals 4 (by omega) (hdep { on:=4,ground:=.data } (by simp) (by decide));have r8:=hdep { on:=8,ground:=.data } (by simp) (by decide);have v8:a.tmps.getD 32 undef = .slice (some ⟨u.heap.size,0,none⟩) 1 1:=g.vals 8 (by omega) r8;have w0:w'=u.drew.alloc (.cells #[.int .u32 (2+((x.1:Nat):Int))] 36):=by rw[gw.out,n12A.out (by omega),hiA.out,r8];simp only[Bool.false_eq_true,if_false,if_true];exact w1e
     refine wpOpIn_plain rfl rfl ?_;rw[w0];refine op_app_in (.tmp 28) (.tmp 32) rfl _ _ _ (by simp[Act.eval,v4]) (by simp[Act.eval,v8]) hr3 ?_;exact g.step (i:=9) (by omega) (show 24+12≤36 by omega) (by
      unfold ph12;rw[getD_set_ne false (by omega),n12A.out (by omega),show (listed.setIfInBounds 9 true).getD 9 false=true by simp[hnA.out]];simp only[Bool.false_eq_true,if_false,if_true];exact w2e.symm)
    ·simp at ho;subst ho;have v0:a.tmps.getD 24 undef = .pointer (some ⟨X.S,0,none⟩):=g.vals 0 (by omega) (hdep { on:=0,ground:=.data } (by simp) (by decide));refine wpOpIn_plain rfl rfl ?_;go_simp
     exact g.step (i:=10) (by omega) (show 24+12≤36 by omega) (same.out (by omega) (by omega) (by omega))
    ·simp at ho;subst ho;have v10:a.tmps.getD 34 undef = .pointer (some ⟨X.S,0,none⟩):=g.vals 10 (by omega) (hdep { on:=10,ground:=.data } (by simp) (by decide));refine wpOpIn_plain rfl rfl ?_;go_simp
     exact g.step (i:=11) (by omega) (show 24+12≤36 by omega) (same.out (by omega) (by omega) (by omega))
    ·simp at ho;subst ho;have v11:a.tmps.getD 35 undef = .pointer (some ⟨X.S,19,none⟩):=g.vals 11 (by omega) (hdep { on:=11,ground:=.data } (by simp) (by decide));have r9:=hdep { on:=9,ground:=.data } (by simp) (by decide);have v9:a.tmps.getD 33 undef = .slice (some ⟨f,0,none⟩) (kk+1) fc1:=g.vals 9 (by omega) r9;have w0:w'=u3:=by rw[gw.out,hiA.out,r9];simp only[Bool.false_eq_true,if_false,if_true];exact w2e
     have cc:u3.cell? ⟨X.S,19,none⟩=some (.slice fa' kk fc'):=by rw[← w2e];exact(blkw 2 (by omega)).cell (i:=19) (by omega)
     have ff:u3.frozen? ⟨X.S,19,none⟩=false:=by rw[← w2e];exact(blkw 2 (by omega)).frozen 19
     refine wpOpIn_plain rfl rfl ?_;rw[w0];go_simp
     exact g.store (by
      unfold ph12;rw[show (listed.setIfInBounds 12 true).getD 12 false=true by simp[hnA.out]];simp only[if_true];exact w3e.symm) none rfl undef
   ·intro listed a' w' hall g;have gd:=g.defers;have gw:w'=u3.setCell ⟨X.S,19,none⟩ (.slice (some ⟨f,0,none⟩) (kk+1) fc1):=by
     rw[g.world];unfold ph12;rw[hall 12 (by decide)];simp only[if_true];exact w3e
    clear g hall kpw blkw cbw w0e w1e w2e w3e;subst gw;clear gd;have ltu:∀b,(FS X fa' b∨At X.ad b)→b<u.heap.size:=raw.lt;have e3:∀b,b<u.heap.size→¬At fa' b→u3.heap[b]? = u.heap[b]?:=kp3;have hfne:X.S≠f:=fun e=>by
     rcases hf3 with q|q
     ·exact q1 (e ▸ q)
     ·rw[World.size_alloc]at q;have:=raw.blk.lt;have:u.drew.heap.size=u.heap.size:=rfl;omega
    obtain⟨oo,ff,mm⟩:=raw.mem;have blk3:=raw.blk.of_block (w':=u3) (e3 _ raw.blk.lt q1);have kpS:∀b,b≠X.S→(u3.setCell ⟨X.S,19,none⟩ (.slice (some ⟨f,0,none⟩) (kk+1) fc1)).heap[b]? = u3.heap[b]?:=fun b e=>Below.heap_setCell _ _ _ _ e
    have kpT:∀b,b<u.heap.size→¬At fa' b→b≠X.S→(u3.setCell ⟨X.S,19,none⟩ (.slice (some ⟨f,0,none⟩) (kk+1) fc1)).heap[b]? = u.heap[b]?:=fun b h1 h2 h3=>(kpS b h3).trans (e3 b h1 h2)
    have g7:Went (FS X fa') u (u3.setCell ⟨X.S,19,none⟩ (.slice (some ⟨f,0,none⟩) (kk+1) fc1)):=by
     have ga:Went (FS X fa') u (u.drew.alloc (.cells #[.int .u32 (2+((x.1:Nat):Int))] 36)):=(Went.refl (FS X fa') u).drew.trans (Went.new (FS X fa') u.drew _);exact(ga.trans (b3.wider fun b hb=>.inr (.inr (.inr (.inr hb))))).trans (Went.set (.inl rfl) _ _)
    have raw7:Raw (u3.setCell ⟨X.S,19,none⟩ (.slice (some ⟨f,0,none⟩) (kk+1) fc1)) X true c (some ⟨f,0,none⟩) (frees X.wd (pre.map (·.1) ++ [x.1])).length fc1 (fun i=>.int .u32 ((frees X.wd (pre.map (·.1) ++ [x.1])).getD i 0:Nat)) nm:=by
     rw[hfr2.out,show (FR ++ [x.1+2]).length=kk+1 by rw[List.length_append,hkA.out];rfl];have o4:OwnR 36 u3 0 (some ⟨f,0,none⟩) (kk+1) fc1 (fun i=>.int .u32 ((FR ++ [x.1+2]).getD i 0:Nat)):=o3.congr fun i hi=>by
      rw[getD_snoc,hkA.out];by_cases e:i=kk
      ·rw[if_pos e,if_pos e];congr 1;omega
      ·rw[if_neg e,if_neg e]
     exact⟨(blk3.set 19 _).congr fun i _=>stCell_19 X.n X.v X.l X.room X.ad X.W X.cap fa' (some ⟨f,0,none⟩) kk (kk+1) fc' fc1 X.P X.mp X.lines X.on true i,⟨oo,ff,mm.of_blocks (kpT _ mm.ltP q2 a1.symm) (kpT _ mm.ltR q3 a2.symm)⟩,raw.own.kept fun b hb=>kpT b (ltu b (.inr hb)) (q5 b hb) (fun e=>a6 (e ▸ hb)),o4.kept fun b hb=>kpS b fun e=>by
      obtain⟨a,ha,hb⟩:=hb;cases ha;exact hfne (e.symm.trans hb.symm),raw.map.same (kpT _ raw.map.lt q4 a3.symm)⟩
    clear kpS kpT e3 blk3
    gi_wp2
    refine rl_post raw hn bs bx wt hlt hmp6 g7 raw7 fun i hi=>?_
    obtain⟨a,ha,rfl⟩:=hi;cases ha;rcases hf3 with e|e
    ·exact .inl e
    ·refine .inr ?_;rw[World.size_alloc]at e
     have:u.drew.heap.size=u.heap.size:=rfl;show u.heap.size≤f;omega
  ·have hfr2:frees X.wd (pre.map (·.1) ++ [x.1])=FR:=by rw[← hFA.out];exact frees_no hz
   have raw2:Aside (Raw u X true c fa' (frees X.wd (pre.map (·.1) ++ [x.1])).length fc' (fun i=>.int .u32 ((frees X.wd (pre.map (·.1) ++ [x.1])).getD i 0:Nat)) nm):=by
    show Raw _ _ _ _ _ _ _ _ _;rw[hfr2,hkA.out];exact raw
   have hz0:(X.wd x.1 == 0)=false:=by simpa using hz
   clear hfr2;generalize X.wd x.1=z at hz hz0
   gi_wp2
   exact rl_post raw hn bs bx wt hlt hmp6 (Went.refl _ _) raw2.out fun i hi=>.inl hi
 case done =>
  rintro D ys u hD hS ⟨⟨fa',fc',raw,hn⟩,_,_,wt,_⟩ hK
  gi_wp2
  refine⟨by simp,.inl ⟨_,_,rfl,run_takeDeferred hK,?_⟩⟩;have hDo:∀j,(FS X fa' j∨At X.ad j)→j≠D:=fun j hj e=>by
   by_cases q:j=X.mp
   ·omega
   ·have:=raw_cells raw hj q (e ▸ hK);cases this
  rw[hS]at raw;have wtD:Went (FS X fa) w (u.putObj D (.deferred none)):=⟨wt.os,wt.tape,wt.output,by simpa using wt.size,fun j hj hnf=>(World.putObj_heap_other fun e=>by have:=size6;omega).trans (wt.block j hj hnf)⟩
  have rf:=raw.kept (w':=u.putObj D (.deferred none)) fun j hj=>World.putObj_heap_other (hDo j hj)
  exact⟨_,results_none rfl _ _ _,rfl,fa',⟨fc',by simpa using rf⟩,hn,wtD⟩
 case stop =>
  rintro D c pre u _ _ h _;exact h.elim
end
end Go.Proofs.YtnnmdkaoiofabaaGreat.Mk
