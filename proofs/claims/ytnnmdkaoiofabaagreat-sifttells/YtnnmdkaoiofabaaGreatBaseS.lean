/-
  A store in memory: its cells, its words, its names, its table and its cache; what the calls that only look tell. What Level, Low, High, Order and All of a store tell. A word more in a store: its name, its handle: a free one, or the next. What a store keeps in its cache: asked for, laid. A store's words laid into its cleared table anew (settle): what holds, without a memory and in it. A node's word is looked for in a store's table, and laid there if there is room. What Mk of a store tells, and what it makes. A new store. A store by its face alone: what each call tells, what it makes. A store told whether to keep results in its cache (Cached).
-/
import Derived.Test.YtnnmdkaoiofabaaGreatBaseD
import Derived.Test.YtnnmdkaoiofabaaGreatBaseA
import Derived.Deep.RegionLaw
import Derived.Deep.QuietTactic
import Derived.BigQuiet
namespace Go.Proofs.YtnnmdkaoiofabaaGreat
open Go Go.RowKit
structure Ins where
 P:Nat
 R:Nat
 mp:Nat
 ad:Option Addr
 cap:Nat
 W:Nat
 fa:Option Addr
 fc:Nat
 fr:List Nat
 lines:Nat
 c:Nat→Int
 wd:Nat→Int
 nm:Int→Option Int
 l:Nat→Nat
 on:Bool
 st:Bool
def stCell (n:Nat) (v l:Nat→Nat) (room:Nat) (ad:Option Addr) (L cap:Nat) (fa:Option Addr) (k fc P mp lines:Nat) (on st:Bool) (i:Nat):Value:=
 if i<17 then Od.ordCell n v l i
 else if i=17 then .int .i64 (room:Int)
 else if i=18 then .slice ad L cap
 else if i=19 then .slice fa k fc
 else if i=20 then .pointer (some ⟨P,0,none⟩)
 else if i=21 then .int .i64 0
 else if i=22 then .int .i64 ((2*room:Nat):Int)
 else if i=23 then .map (some mp)
 else if i=24 then .pointer (some ⟨P,0,none⟩)
 else if i=25 then .int .i64 ((2*room:Nat):Int)
 else if i=26 then .int .i64 (lines:Int)
 else if i=27 then .bool on
 else .bool st
def ndZ (d:Nd):Int:=nodeZ (d.1:Int) (d.2.1:Int) (d.2.2:Int)
def Mdl.wz (M:Mdl) (x:Nat):Int:=if x∈M.hs then ndZ (M.nd x)else 0
structure Pu (M:Mdl) (I:Ins):Prop where
 ok:M.Ok
 inv:∀i,i<M.n→I.l (M.v i)=i
 room1:1≤M.room
 room2:M.room≤32768
 lines1:1≤I.lines
 lines2:I.lines≤1024
 wide:I.W≤M.room
 top:∀x∈M.hs,x<2+I.W
 wd:∀i,i<I.W→I.wd i=M.wz (i+2)
 fall:I.fr.Pairwise (· > ·)
 frs:∀x,x∈I.fr↔2≤x∧x<2+I.W∧x ∉ M.hs
 both:M.hs.length+I.fr.length=I.W
 fit:Ch.U64 I.c
structure Pt (M:Mdl) (I:Ins):Prop where
 good:Tb.Good (2*M.room) I.c
 tab:∀s,s<2*M.room→¬I.c s=0→∃x,x∈M.hs∧I.c s=ndZ (M.nd x)∧I.nm (s:Int)=some (x:Int)
 all:∀x,x∈M.hs→∃s,s<2*M.room∧I.c s=ndZ (M.nd x)
 cnt:Tb.cnt I.c (2*M.room)=M.hs.length
 cch:∀key,0≤key→key≤18446744073709551615→Ch.Hits I.c (Ch.line (2*M.room) I.lines key) key→∃x,x∈M.hs∧key=ndZ (M.nd x)∧Ch.jn (Ch.lo (I.c (Ch.line (2*M.room) I.lines key+2))) (Ch.lo (I.c (Ch.line (2*M.room) I.lines key+3)))=(x:Int)
structure StI (w:World) (S:Nat) (M:Mdl) (I:Ins):Prop where
 blk:w.rowIs S 92 29 (stCell M.n M.v I.l M.room I.ad I.W I.cap I.fa I.fr.length I.fc I.P I.mp I.lines I.on I.st)
 mem:∃o f,IsMem w I.P I.R (2*M.room+4*I.lines) I.c o f
 own:OwnR 22 w 0 I.ad I.W I.cap (fun i=>.int .u64 (I.wd i))
 fre:OwnR 36 w 0 I.fa I.fr.length I.fc (fun i=>.int .u32 (I.fr.getD i 0:Nat))
 map:IsMap w I.mp I.nm
 pu:Pu M I
 set:I.st=false→Pt M I
def Fp (S:Nat) (I:Ins) (k:Nat):Prop:=k=S∨k=I.P∨k=I.R∨k=I.mp∨At I.ad k∨At I.fa k
section
variable {w w':World}{S:Nat}{M:Mdl}{I:Ins}
theorem Mdl.wz_in {x:Nat}(h:x∈M.hs):M.wz x=ndZ (M.nd x):=if_pos h
theorem Mdl.wz_no {x:Nat}(h:x ∉ M.hs):M.wz x=0:=if_neg h
theorem Pu.hs_lt (p:Pu M I){x:Nat}(h:x∈M.hs):2≤x∧x<2+I.W:=⟨(p.ok.range x h).1,p.top x h⟩
theorem Pu.node_lt (p:Pu M I){x:Nat}(h:M.isNode x):x<2+I.W:=by
 rcases h with h|h
 ·omega
 ·exact p.top x h
theorem Pu.len (p:Pu M I):M.hs.length≤32768:=by have:=p.ok.len;have:=p.room2;omega
theorem Pu.lenW (p:Pu M I):I.W≤32768:=by have:=p.wide;have:=p.room2;omega
theorem Pu.word_bd (p:Pu M I){x:Nat}(h:x∈M.hs):0<ndZ (M.nd x)∧ndZ (M.nd x)≤18446744073709551615:=by
 have o:=p.ok;have hl:=o.lv _ h;have h8:=o.le8;exact⟨nodeZ_pos (Mdl.isNode_lt o (o.lo _ h).1) (Mdl.isNode_lt o (o.hi _ h).1) (o.ne _ h),(nodeZ_bd _ _ _ (by omega)).2⟩
theorem Pu.wz_bd (p:Pu M I) (x:Nat):0≤M.wz x∧M.wz x≤18446744073709551615:=by
 by_cases h:x∈M.hs
 ·rw[Mdl.wz_in h];have:=p.word_bd h;omega
 ·rw[Mdl.wz_no h];omega
theorem Pu.wz_zero (p:Pu M I) (x:Nat):M.wz x=0↔x ∉ M.hs:=by
 by_cases h:x∈M.hs
 ·rw[Mdl.wz_in h];have:=p.word_bd h;exact⟨fun e=>by omega,fun e=>absurd h e⟩
 ·rw[Mdl.wz_no h];exact⟨fun _=>h,fun _=>rfl⟩
theorem StI.cell (h:StI w S M I){i:Nat}(hi:i<29):w.cell? ⟨S,i,none⟩=some (stCell M.n M.v I.l M.room I.ad I.W I.cap I.fa I.fr.length I.fc I.P I.mp I.lines I.on I.st i):=h.blk.cell hi
theorem StI.c0 (h:StI w S M I):w.cell? ⟨S,0,none⟩=some (.int .i64 (M.n:Int)):=h.cell (i:=0) (by omega)
theorem StI.c17 (h:StI w S M I):w.cell? ⟨S,17,none⟩=some (.int .i64 (M.room:Int)):=h.cell (i:=17) (by omega)
theorem StI.c18 (h:StI w S M I):w.cell? ⟨S,18,none⟩=some (.slice I.ad I.W I.cap):=h.cell (i:=18) (by omega)
theorem StI.c19 (h:StI w S M I):w.cell? ⟨S,19,none⟩=some (.slice I.fa I.fr.length I.fc):=h.cell (i:=19) (by omega)
theorem StI.c23 (h:StI w S M I):w.cell? ⟨S,23,none⟩=some (.map (some I.mp)):=h.cell (i:=23) (by omega)
theorem StI.c27 (h:StI w S M I):w.cell? ⟨S,27,none⟩=some (.bool I.on):=h.cell (i:=27) (by omega)
theorem StI.c28 (h:StI w S M I):w.cell? ⟨S,28,none⟩=some (.bool I.st):=h.cell (i:=28) (by omega)
theorem StI.ordc (h:StI w S M I){i:Nat}(hi:i<17):w.cell? ⟨S,i,none⟩=some (Od.ordCell M.n M.v I.l i):=by
 rw[h.cell (by omega)];unfold stCell;rw[if_pos hi]
theorem StI.kind (h:StI w S M I):∃cs,w.heap[S]? = some (.cells cs 92 (0,0)):=by obtain⟨cs,hb,_⟩:=h.blk;exact⟨cs,hb⟩
theorem StI.ltS (h:StI w S M I):S<w.heap.size:=h.blk.lt
theorem StI.lt (h:StI w S M I):∀k,Fp S I k→k<w.heap.size:=by
 obtain⟨o,f,m⟩:=h.mem;rintro k (rfl|rfl|rfl|rfl|e|e)
 ·exact h.ltS
 ·exact m.ltP
 ·exact m.ltR
 ·exact h.map.lt
 ·exact(h.own.block k e).2
 ·exact(h.fre.block k e).2
def stKind (o:Obj):Prop:=(∃cs t,o = .cells cs t (0,0)∧(t=92∨t=144∨t=261∨t=22∨t=36))∨∃es ck,o = .map es ck
theorem StI.kinds (h:StI w S M I):∀k,Fp S I k→∃o,w.heap[k]? = some o∧stKind o:=by
 obtain⟨o,f,m⟩:=h.mem;rintro k (rfl|rfl|rfl|rfl|e|e)
 ·obtain⟨cs,hb⟩:=h.kind;exact⟨_,hb,.inl ⟨cs,_,rfl,.inl rfl⟩⟩
 ·exact⟨_,m.head,.inl ⟨_,_,rfl,.inr (.inl rfl)⟩⟩
 ·obtain⟨cs,hb,_⟩:=m.row;exact⟨_,hb,.inl ⟨cs,_,rfl,.inr (.inr (.inl rfl))⟩⟩
 ·obtain⟨es,ck,l,hb,_⟩:=h.map;exact⟨_,hb,.inr ⟨es,ck,rfl⟩⟩
 ·obtain⟨cur,hb⟩:=h.own.kind k e;exact⟨_,hb,.inl ⟨cur,_,rfl,.inr (.inr (.inr (.inl rfl)))⟩⟩
 ·obtain⟨cur,hb⟩:=h.fre.kind k e;exact⟨_,hb,.inl ⟨cur,_,rfl,.inr (.inr (.inr (.inr rfl)))⟩⟩
theorem StI.kept (h:StI w S M I) (k:∀b,Fp S I b→w'.heap[b]? = w.heap[b]?):StI w' S M I:=by
 obtain⟨o,f,m⟩:=h.mem;exact⟨h.blk.of_block (k _ (.inl rfl)),⟨o,f,m.of_blocks (k _ (.inr (.inl rfl))) (k _ (.inr (.inr (.inl rfl))))⟩,h.own.kept fun b hb=>k b (.inr (.inr (.inr (.inr (.inl hb))))),h.fre.kept fun b hb=>k b (.inr (.inr (.inr (.inr (.inr hb))))),h.map.same (k _ (.inr (.inr (.inr (.inl rfl))))),h.pu,h.set⟩
theorem StI.below (h:StI w S M I) (k:Below w.heap.size w w'):StI w' S M I:=h.kept fun b hb=>k.block b (h.lt b hb)
theorem StI.drewN (h:StI w S M I) (q:Nat):StI (w.drewN q) S M I:=h.kept fun _ _=>rfl
theorem StI.tb (h:StI w S M I):∃o f,Tb.Sys w I.P I.R (2*M.room+4*I.lines) S 0 (2*M.room) I.c o f:=by
 obtain⟨o,f,m⟩:=h.mem;obtain⟨cs,hb,hs,hc⟩:=h.blk;have r1:=h.pu.room1;have r2:=h.pu.room2;have l2:=h.pu.lines2;exact⟨o,f,m,⟨cs,hb,hc 20 (by omega),hc 21 (by omega),hc 22 (by omega)⟩,by omega,by omega,by omega⟩
theorem StI.ch (h:StI w S M I):∃o f,Ch.Sys w I.P I.R (2*M.room+4*I.lines) S (2*M.room) I.lines I.c o f:=by
 obtain⟨o,f,m⟩:=h.mem;obtain⟨cs,hb,hs,hc⟩:=h.blk;have r2:=h.pu.room2;have l1:=h.pu.lines1;have l2:=h.pu.lines2;exact⟨o,f,m,⟨cs,hb,hc 24 (by omega),hc 25 (by omega),hc 26 (by omega)⟩,by omega,by omega,by omega,h.pu.fit⟩
theorem vars_any (h:StI w S M I) :
  Calls Tryz.prog 56 #[.pointer (some ⟨S,0,none⟩)] w fun e w'=>e = .returned (.int .i64 (M.n:Int))∧w'=w:=by
 have K:=Od.slen_any h.c0;go_enter Tryz.func56,Tryz.ntmps56
 go_wp2_with (first
  | (go_at_call 90;refine K.mono ?_;clear K;rintro e w ⟨rfl,rfl⟩))
 go_ret
 exact⟨rfl,rfl⟩
theorem room_any (h:StI w S M I) :
  Calls Tryz.prog 27 #[.pointer (some ⟨S,0,none⟩)] w fun e w'=>e = .returned (.int .i64 (M.room:Int))∧w'=w:=by
 have c:=h.c17;go_enter Tryz.func27,Tryz.ntmps27
 go_wp2
 go_ret
 exact⟨rfl,rfl⟩
theorem slen_any (h:StI w S M I) :
  Calls Tryz.prog 22 #[.pointer (some ⟨S,0,none⟩)] w fun e w'=>e = .returned (.int .i64 (M.hs.length:Int))∧∃q,w'=w.drewN q:=by
 have c:=h.c18;have d:=h.c19;have hw:=h.pu.lenW;have hb:((I.W:Nat):Int)-((I.fr.length:Nat):Int)=(M.hs.length:Int):=by have:=h.pu.both;omega
 have hl:=h.pu.len;generalize M.hs.length=q at hb hl;generalize I.fr.length=k at hb d;generalize I.W=W at c hb hw;have hwr:IntKind.i64.wrap ((W:Int)-(k:Int))=(q:Int):=by rw[hb,IntKind.wrap_i64];omega
 have hwq:IntKind.i64.wrap (q:Int)=(q:Int):=by rw[IntKind.wrap_i64];omega
 have hwq2:wrap64 (q:Int)=(q:Int):=by unfold wrap64;omega
 go_enter Tryz.func22,Tryz.ntmps22
 go_wp2_with fail
 go_quiet (fail)
 go_wp2_with fail
 go_ret
 exact⟨rfl,_,rfl⟩
theorem word_any (h:StI w S M I) (x:Nat) (hx:x<4294967296) :
  Calls Tryz.prog 66 #[.pointer (some ⟨S,0,none⟩),.int .u32 (x:Int)] w fun e w'=>e = .returned (.int .u64 (M.wz x))∧w'=w:=by
 have c:=h.c18;have hw:=h.pu.lenW;by_cases h2:x<2
 ·have e0:M.wz x=0:=Mdl.wz_no fun e=>by have:=(h.pu.hs_lt e).1;omega
  rw[e0];have hx2:(x:Int)<2:=by omega
  clear e0;go_enter Tryz.func66,Tryz.ntmps66
  go_wp2
  go_ret
  exact⟨rfl,rfl⟩
 ·obtain⟨j,rfl⟩:∃j,x=j+2:=⟨x-2,by omega⟩
  have hx2:¬((j+2:Nat):Int)<2:=by omega
  have hs:((j+2:Nat):Int)-2=(j:Int):=by omega
  have hwr:IntKind.u32.wrap (((j+2:Nat):Int)-2)=(j:Int):=by rw[hs,IntKind.wrap_u32];omega
  by_cases hj:j<I.W
  ·have hwd:=h.pu.wd j hj;obtain⟨g,hg⟩:=h.own.form (by omega);have own:=h.own;rw[hg]at c own;have cw:=own.cell hj;rw[hwd]at cw;generalize I.W=W at c hj hw;generalize M.wz (j+2)=z at cw;have hjw:¬(W:Int)≤(j:Int):=by omega
   clear own hwd hg h2;go_enter Tryz.func66,Tryz.ntmps66
   go_wp2
   go_ret
   exact⟨rfl,rfl⟩
  ·have e0:M.wz (j+2)=0:=Mdl.wz_no fun e=>by have:=(h.pu.hs_lt e).2;omega
   rw[e0];generalize I.W=W at c hj hw;have hjw:(W:Int)≤(j:Int):=by omega
   clear e0 hj h2;go_enter Tryz.func66,Tryz.ntmps66
   go_wp2
   go_ret
   exact⟨rfl,rfl⟩
theorem is_any (h:StI w S M I) (x:Nat) (hx:x<4294967296) :
  Calls Tryz.prog 25 #[.pointer (some ⟨S,0,none⟩),.int .u32 (x:Int)] w fun e w'=>e = .returned (.bool (M.nodeB x))∧w'=w:=by
 by_cases h2:x<2
 ·rw[Mdl.nodeB_true (.inl h2)];have hx2:(x:Int)<2:=by omega
  go_enter Tryz.func25,Tryz.ntmps25
  go_wp2
  go_ret
  exact⟨rfl,rfl⟩
 ·have K:=word_any h x hx;have hx2:¬(x:Int)<2:=by omega
  by_cases hm:x∈M.hs
  ·rw[Mdl.nodeB_true (.inr hm)];have hz:¬M.wz x=0:=fun e=>(h.pu.wz_zero x).1 e hm
   have hz':(M.wz x != 0)=true:=by simpa using hz
   clear hm h2;generalize M.wz x=z at K hz hz';go_enter Tryz.func25,Tryz.ntmps25
   go_wp2_with (first
    | (go_at_call 66;refine K.mono ?_;clear K;rintro e w ⟨rfl,rfl⟩))
   go_ret
   exact⟨rfl,rfl⟩
  ·rw[Mdl.nodeB_false (fun e=>e.elim h2 hm)];rw[Mdl.wz_no hm]at K;clear hm h2;go_enter Tryz.func25,Tryz.ntmps25
   go_wp2_with (first
    | (go_at_call 66;refine K.mono ?_;clear K;rintro e w ⟨rfl,rfl⟩))
   go_ret
   exact⟨rfl,rfl⟩
end
end Go.Proofs.YtnnmdkaoiofabaaGreat
namespace Go.Proofs.YtnnmdkaoiofabaaGreat
open Go Go.RowKit
namespace Mdl
def levI (M:Mdl) (x:Nat):Int:=if x<2∨x∈M.hs then (M.lev x:Int)else -1
def lowN (M:Mdl) (x:Nat):Nat:=if x<2 then x else if x∈M.hs then (M.nd x).2.1 else 0
def highN (M:Mdl) (x:Nat):Nat:=if x<2 then x else if x∈M.hs then (M.nd x).2.2 else 0
section
variable {M:Mdl}{x:Nat}
theorem levI_const (h:x<2):M.levI x=(M.n:Int):=by unfold levI;rw[if_pos (.inl h),lev_const h]
theorem levI_in (o:M.Ok) (h:x∈M.hs):M.levI x=((M.nd x).1:Int):=by unfold levI;rw[if_pos (.inr h),lev_in o h]
theorem levI_none (h:¬M.isNode x):M.levI x = -1:=by unfold levI;exact if_neg h
theorem levI_node (h:M.isNode x):M.levI x=(M.lev x:Int):=by unfold levI;exact if_pos h
theorem lowN_const (h:x<2):M.lowN x=x:=by unfold lowN;rw[if_pos h]
theorem highN_const (h:x<2):M.highN x=x:=by unfold highN;rw[if_pos h]
theorem lowN_in (o:M.Ok) (h:x∈M.hs):M.lowN x=(M.nd x).2.1:=by
 unfold lowN;rw[if_neg (by have:=(o.range x h).1;omega),if_pos h]
theorem highN_in (o:M.Ok) (h:x∈M.hs):M.highN x=(M.nd x).2.2:=by
 unfold highN;rw[if_neg (by have:=(o.range x h).1;omega),if_pos h]
theorem lowN_none (h:¬M.isNode x):M.lowN x=0:=by unfold lowN;rw[if_neg (fun e=>h (.inl e)),if_neg (fun e=>h (.inr e))]
theorem highN_none (h:¬M.isNode x):M.highN x=0:=by unfold highN;rw[if_neg (fun e=>h (.inl e)),if_neg (fun e=>h (.inr e))]
end
end Mdl
section
variable {w w':World}{S:Nat}{M:Mdl}{I:Ins}
theorem Pu.parts (p:Pu M I){x:Nat}(hm:x∈M.hs):0<M.wz x∧M.wz x≤18446744073709551615∧M.wz x / 72057594037927936=((M.nd x).1:Int)∧M.wz x / 268435456 % 268435456=((M.nd x).2.1:Int)∧M.wz x % 268435456=((M.nd x).2.2:Int):=by
 have o:=p.ok;have hl:=o.lv _ hm;have h8:=o.le8;have h1:=Mdl.isNode_lt o (o.lo _ hm).1;have h2:=Mdl.isNode_lt o (o.hi _ hm).1;obtain⟨b1,b2⟩:=p.word_bd hm;rw[Mdl.wz_in hm];refine⟨b1,b2,?_⟩;unfold ndZ;refine⟨part0 _ _ _,?_,?_⟩
 ·rw[part1];omega
 ·rw[part2];omega
theorem parts_any (h:StI w S M I) (x:Nat) (hx:x<4294967296) :
  Calls Tryz.prog 94 #[.pointer (some ⟨S,0,none⟩),.int .u32 (x:Int)] w fun e w'=>e = .returned (.tuple #[.int .i64 (M.levI x),.int .u32 (M.lowN x:Int),.int .u32 (M.highN x:Int)])∧w'=w:=by
 have KW:=word_any h x hx;by_cases hc:x<2
 ·rw[Mdl.levI_const hc,Mdl.lowN_const hc,Mdl.highN_const hc];have K:=vars_any h;have hc':(x:Int)<2:=by omega
  clear hc;go_enter Tryz.func94,Tryz.ntmps94
  go_wp2_with (first
   | (go_at_call 66;refine KW.mono ?_;clear KW;rintro e w ⟨rfl,rfl⟩)
   | (go_at_call 56;refine K.mono ?_;clear K;rintro e w ⟨rfl,rfl⟩))
  go_ret3
  exact⟨rfl,rfl⟩
 ·have hc':¬(x:Int)<2:=by omega
  by_cases hm:x∈M.hs
  ·rw[Mdl.levI_in h.pu.ok hm,Mdl.lowN_in h.pu.ok hm,Mdl.highN_in h.pu.ok hm];obtain⟨w0,w1,e0,e1,e2⟩:=h.pu.parts hm;have Kb:=bparts_any (M.wz x) w (by omega) w1;rw[e0,e1,e2]at Kb;have hl8:((M.nd x).1:Int)≤255:=by have:=h.pu.ok.lv _ hm;have:=h.pu.ok.le8;omega
   have hz:¬M.wz x=0:=by omega
   generalize (M.nd x).1=lv at Kb hl8;generalize (M.nd x).2.1=lo at Kb;generalize (M.nd x).2.2=hi at Kb;clear hm e0 e1 e2 hc;generalize M.wz x=z at KW Kb hz w0 w1;go_enter Tryz.func94,Tryz.ntmps94
   go_wp2_with (first
    | (go_at_call 66;refine KW.mono ?_;clear KW;rintro e w ⟨rfl,rfl⟩)
    | (go_at_call 112;refine Kb.mono ?_;clear Kb;rintro e w ⟨rfl,rfl⟩))
   go_ret3
   exact⟨rfl,rfl⟩
  ·have hn:¬M.isNode x:=fun e=>e.elim hc hm
   rw[Mdl.wz_no hm]at KW;rw[Mdl.levI_none hn,Mdl.lowN_none hn,Mdl.highN_none hn];clear hn hc hm;go_enter Tryz.func94,Tryz.ntmps94
   go_wp2_with (first
    | (go_at_call 66;refine KW.mono ?_;clear KW;rintro e w ⟨rfl,rfl⟩))
   go_ret3
   exact⟨rfl,rfl⟩
theorem level_any (h:StI w S M I) (x:Nat) (hx:x<4294967296) :
  Calls Tryz.prog 63 #[.pointer (some ⟨S,0,none⟩),.int .u32 (x:Int)] w fun e w'=>e = .returned (.int .i64 (M.levI x))∧w'=w:=by
 have K:=parts_any h x hx;go_enter Tryz.func63,Tryz.ntmps63
 go_wp2_with (first
  | (go_at_call 94;refine K.mono ?_;clear K;rintro e w ⟨rfl,rfl⟩))
 go_ret
 exact⟨rfl,rfl⟩
theorem low_any (h:StI w S M I) (x:Nat) (hx:x<4294967296) :
  Calls Tryz.prog 64 #[.pointer (some ⟨S,0,none⟩),.int .u32 (x:Int)] w fun e w'=>e = .returned (.int .u32 (M.lowN x:Int))∧w'=w:=by
 have K:=parts_any h x hx;go_enter Tryz.func64,Tryz.ntmps64
 go_wp2_with (first
  | (go_at_call 94;refine K.mono ?_;clear K;rintro e w ⟨rfl,rfl⟩))
 go_ret
 exact⟨rfl,rfl⟩
theorem high_any (h:StI w S M I) (x:Nat) (hx:x<4294967296) :
  Calls Tryz.prog 65 #[.pointer (some ⟨S,0,none⟩),.int .u32 (x:Int)] w fun e w'=>e = .returned (.int .u32 (M.highN x:Int))∧w'=w:=by
 have K:=parts_any h x hx;go_enter Tryz.func65,Tryz.ntmps65
 go_wp2_with (first
  | (go_at_call 94;refine K.mono ?_;clear K;rintro e w ⟨rfl,rfl⟩))
 go_ret
 exact⟨rfl,rfl⟩
theorem order_any (h:StI w S M I) :
  Calls Tryz.prog 14 #[.pointer (some ⟨S,0,none⟩)] w fun e w'=>e = .returned (.pointer (some ⟨w.heap.size,0,none⟩))∧Od.IsOrd w' w.heap.size M.n M.v I.l∧Below w.heap.size w w':=by
 have K:=Od.scopy_any (fun i hi=>h.ordc hi);go_enter Tryz.func14,Tryz.ntmps14
 go_wp2_with (first
  | (go_at_call 45;refine K.mono ?_;clear K;rintro e w1 ⟨rfl,o1,b1⟩))
 go_ret
 exact⟨rfl,o1,b1⟩
end
theorem infoH : (Tryz.prog.info? 36).map (fun i=>(i.zero,i.size,i.bytes))=some (some (.int .u32 0),1,4):=by kernel_rfl
theorem make_room (m:Nat) (hm:m≤1000000) (w:World) :
  (Instr.makeSlice 32 (.int .i64 0) (.int .i64 (m:Int))).run Tryz.prog w = .ok (.slice (some ⟨w.heap.size,0,none⟩) 0 m) (w.alloc (.cells (madeCells #[.int .u32 0] m) 36)):=by
 obtain⟨i,hi,hz,hs,hb⟩:=info_parts infoH;have hr:=run_make (P:=Tryz.prog) w 32 36 i _ Tryz.underlying32 hi hz .i64 .i64 0 (m:Int) (Int.le_refl 0) (by omega) (by rw[hb];omega) (by omega);simp only[Int.toNat_natCast,hs,Nat.mul_one,Int.toNat_zero]at hr;exact hr
def Mdl.upTo (M:Mdl) (j:Nat):List Nat:=M.hs.filter fun x=>decide (x<j+2)
theorem Mdl.upTo_zero (M:Mdl) (o:M.Ok):M.upTo 0=[]:=by
 unfold Mdl.upTo;rw[List.filter_eq_nil_iff];intro x hx;have:=(o.range x hx).1;simp;omega
theorem filter_lt_succ : ∀(l:List Nat) (k:Nat),l.Pairwise (· < ·)→(l.filter fun x=>decide (x<k+1))=(l.filter fun x=>decide (x<k)) ++ if k∈l then [k]else []
 | [],k,_=>rfl
 | a :: l,k,h=>by
  have hl:=(List.pairwise_cons.1 h).2;have ha:=(List.pairwise_cons.1 h).1;have ih:=filter_lt_succ l k hl;rcases Nat.lt_trichotomy a k with c|c|c
  ·rw[List.filter_cons_of_pos (by simp;omega),List.filter_cons_of_pos (by simp;omega),ih,List.cons_append];congr 2
   have:(k∈a :: l)↔k∈l:=by rw[List.mem_cons];exact⟨fun e=>e.resolve_left (by omega),.inr⟩
   simp only[this]
  ·subst c;have e1:(l.filter fun x=>decide (x<a+1))=[]:=by
    rw[List.filter_eq_nil_iff];intro x hx;have:=ha x hx;simp;omega
   have e2:(l.filter fun x=>decide (x<a))=[]:=by
    rw[List.filter_eq_nil_iff];intro x hx;have:=ha x hx;simp;omega
   rw[List.filter_cons_of_pos (by simp),List.filter_cons_of_neg (by simp),e1,e2,if_pos (by simp)];rfl
  ·have e1:((a :: l).filter fun x=>decide (x<k+1))=[]:=by
    rw[List.filter_eq_nil_iff];intro x hx;rcases List.mem_cons.1 hx with rfl|hx
    ·simp;omega
    ·have:=ha x hx;simp;omega
   have e2:((a :: l).filter fun x=>decide (x<k))=[]:=by
    rw[List.filter_eq_nil_iff];intro x hx;rcases List.mem_cons.1 hx with rfl|hx
    ·simp;omega
    ·have:=ha x hx;simp;omega
   rw[e1,e2,if_neg]
   ·rfl
   ·intro e;rcases List.mem_cons.1 e with e|e
    ·omega
    ·have:=ha k e;omega
theorem Mdl.upTo_in {M:Mdl}(o:M.Ok){j:Nat}(h:j+2∈M.hs):M.upTo (j+1)=M.upTo j ++ [j+2]:=by
 unfold Mdl.upTo;rw[show j+1+2=j+2+1 by omega,filter_lt_succ _ _ o.sorted,if_pos h]
theorem Mdl.upTo_no {M:Mdl}(o:M.Ok){j:Nat}(h:j+2 ∉ M.hs):M.upTo (j+1)=M.upTo j:=by
 unfold Mdl.upTo;rw[show j+1+2=j+2+1 by omega,filter_lt_succ _ _ o.sorted,if_neg h,List.append_nil]
theorem Pu.upTo_all {M:Mdl}{I:Ins}(p:Pu M I):M.upTo I.W=M.hs:=by
 unfold Mdl.upTo;rw[List.filter_eq_self];intro x hx;have:=p.top x hx;simp;omega
theorem Mdl.upTo_len (M:Mdl) (j:Nat):(M.upTo j).length≤M.hs.length:=List.length_filter_le _ _
theorem own_made {w:World}{cap:Nat}(hm:cap≤maxLen) (cur:Array Value) (hs:cur.size=cap) (V:Nat→Value) (e:TypeId):OwnR e (w.alloc (.cells cur e)) w.heap.size (some ⟨w.heap.size,0,none⟩) 0 cap V:=by
 have:=World.ownsRow_made (base:=w.heap.size) (e:=e) (size:=1) w cur cap (Nat.le_refl _) hm (by omega);exact this
theorem getD_snoc (l:List Nat) (x i:Nat):(l ++ [x]).getD i 0=if i=l.length then x else l.getD i 0:=by
 by_cases e:i=l.length
 ·subst e;simp
 ·rw[if_neg e];by_cases h:i<l.length
  ·simp[List.getD,List.getElem?_append_left h]
  ·simp[List.getD];rw[List.getElem?_eq_none (by simp;omega),List.getElem?_eq_none (by omega)]
section
variable {w w':World}{S:Nat}{M:Mdl}{I:Ins}
set_option maxHeartbeats 1000000 in
theorem all_any (h:StI w S M I) :
  Calls Tryz.prog 62 #[.pointer (some ⟨S,0,none⟩)] w fun e w'=>∃ad cap,e = .returned (.slice ad M.hs.length cap)∧OwnR 36 w' w.heap.size ad M.hs.length cap (fun i=>.int .u32 (M.hs.getD i 0:Nat))∧Below w.heap.size w w':=by
 have K:=slen_any h;obtain⟨q,hq⟩:∃q,M.hs.length=q:=⟨_,rfl⟩
 have hlq:q≤32768:=by have:=h.pu.len;omega
 have upL:Aside (∀j,(M.upTo j).length≤q):=fun j=>by have:=M.upTo_len j;omega
 have hA:Aside (StI w S M I):=h;have oA:Aside M.Ok:=h.pu.ok;have allA:Aside (M.upTo I.W=M.hs):=h.pu.upTo_all;have wdA:Aside (∀i,i<I.W→I.wd i=M.wz (i+2)):=h.pu.wd;have wzA:Aside (∀x,M.wz x=0↔x ∉ M.hs):=h.pu.wz_zero;have hW:=h.pu.lenW;obtain⟨ad0,had⟩:∃a,I.ad=a:=⟨_,rfl⟩
 have hadA:Aside (I.ad=ad0):=had;have F:Aside (∀p,∃w1,(Instr.makeSlice 32 (.int .i64 0) (.int .i64 (q:Int))).run Tryz.prog (w.drewN p) = .ok (.slice (some ⟨w.heap.size,0,none⟩) 0 q) w1∧w1.cell? ⟨S,18,none⟩=some (.slice ad0 I.W I.cap)∧Aside (OwnR 36 w1 w.heap.size (some ⟨w.heap.size,0,none⟩) (M.upTo 0).length q (fun i=>.int .u32 ((M.upTo 0).getD i 0:Nat)))∧Aside (Below w.heap.size w w1)):=fun p=>by
  have b1:Below w.heap.size w (w.drewN p):=⟨rfl,rfl,rfl,Nat.le_refl _,fun _ _=>rfl⟩
  have b0:Below w.heap.size w ((w.drewN p).alloc (.cells (madeCells #[.int .u32 0] q) 36)):=b1.alloc (Nat.le_refl _) _;refine⟨_,make_room q (by omega) (w.drewN p),had ▸ (h.below b0).c18,?_,b0⟩;rw[M.upTo_zero h.pu.ok];exact own_made (w:=w.drewN p) (by simp only[maxLen];omega) _ (by simp[madeCells]) _ _
 have up0:Aside ((M.upTo 0).length=0):=by rw[M.upTo_zero h.pu.ok];rfl
 rw[hq]at K;have hqA:Aside (M.hs.length=q):=hq;rw[hq];clear h hq had;go_enter Tryz.func62,Tryz.ntmps62
 go_wp2_with (first
  | (go_at_call 22;refine K.mono ?_;clear K;rintro e w2 ⟨rfl,p,rfl⟩;obtain⟨w1,hmk,c18,r0,b0⟩:=F.out p))
 clear hmk c18;go_loopg [14,3] I.W (fun g si sl wr=>∃(j:Nat) (ad:Option Addr) (cap:Nat),j+g=I.W∧si = .int .i64 (j:Int)∧sl = .slice ad (M.upTo j).length cap∧Aside (OwnR 36 wr w.heap.size ad (M.upTo j).length cap (fun i=>.int .u32 ((M.upTo j).getD i 0:Nat)))∧Aside (Below w.heap.size w wr))
 case atStart=>exact⟨0,_,q,by omega,rfl,by rw[up0.out],r0,b0⟩
 case round =>
  obtain⟨j,ad,cap,hj,rfl,rfl,hR,hB⟩:=hrel;have hJ:Aside (j+gk=I.W):=hj;have hjW:j≤I.W:=by omega
  clear hj r0 b0;have hR':Aside (OwnR 36 wr w.heap.size ad (M.upTo j).length cap (fun i=>.int .u32 ((M.upTo j).getD i 0:Nat))):=hR;have hB':Aside (Below w.heap.size w wr):=hB;have hlen:=upL.out j;by_cases hlt:j<I.W
  ·have hlt':(j:Int)<(I.W:Int):=by omega
   have own:=(hA.out.below hB.out).own;rw[hadA.out]at own;obtain⟨g,rfl⟩:=own.form (by omega);have cw:=own.cell hlt;rw[wdA.out j hlt]at cw;have hwr:IntKind.u32.wrap (j:Int)=(j:Int):=by rw[IntKind.wrap_u32];omega
   clear own hR hB;by_cases hm:j+2∈M.hs
   ·have hz:¬M.wz (j+2)=0:=fun e=>(wzA.out _).1 e hm
    have hz':(M.wz (j+2) != 0)=true:=by simpa using hz
    have hup:Aside (M.upTo (j+1)=M.upTo j ++ [j+2]):=Mdl.upTo_in oA.out hm;have hwr2:IntKind.u32.wrap (2+(j:Int))=2+(j:Int):=by rw[IntKind.wrap_u32];omega
    generalize M.wz (j+2)=z at cw hz hz';clear hm
    go_wp2_with (first
     | (at_builtin;refine append_h (hR'.out.new _) wr.heap.size (2+(j:Int)) (heap_alloc_new _ _) (by omega) (by have:=hB'.out.size;simp;omega) rfl _ _ rfl rfl rfl ?_;intro g' cap' w3 o3 b3 p3))
    go_roundg (gk-1)
    case measure=>have:=hJ.out;omega
    case rel =>
     have hj:=hJ.out;refine⟨j+1,some ⟨g',0,none⟩,cap',by omega,by go_num,by rw[hup.out,List.length_append];rfl,?_,hB'.out.trans ?_⟩
     ·rw[hup.out,List.length_append];exact o3.congr fun i hi=>by
       rw[getD_snoc];by_cases e:i=(M.upTo j).length
       ·rw[if_pos e,if_pos e,Int.add_comm];rfl
       ·rw[if_neg e,if_neg e]
     ·have hbl:=(hR'.out.block)
      exact⟨b3.os,b3.tape,b3.output,Nat.le_trans (by simp) b3.size,fun k hk=>(b3.block k (by simp;have:=hB'.out.size;omega) fun e=>by have:=(hbl k e).1;omega).trans (Below.heap_alloc _ _ _ (by have:=hB'.out.size;omega))⟩
   ·have hz:M.wz (j+2)=0:=(wzA.out _).2 hm;have hup:Aside (M.upTo (j+1)=M.upTo j):=Mdl.upTo_no oA.out hm;rw[hz]at cw;clear hm hz
    go_wp2_with fail
    go_roundg (gk-1)
    case measure=>have:=hJ.out;omega
    case rel =>
     have hj:=hJ.out;exact⟨j+1,ad,cap,by omega,by go_num,by rw[hup.out],by rw[hup.out];exact hR'.out,hB'.out⟩
  ·obtain rfl:j=I.W:=by omega
   clear hR hB
   go_wp2_with fail
   go_ret
   have e:=hR'.out;rw[allA.out,hqA.out]at e;exact⟨ad,cap,by rw[allA.out,hqA.out];rfl,e,hB'.out⟩
end
end Go.Proofs.YtnnmdkaoiofabaaGreat
namespace Go.Proofs.YtnnmdkaoiofabaaGreat
open Go Go.RowKit
theorem stCell_18 (n:Nat) (v l:Nat→Nat) (room:Nat) (ad ad':Option Addr) (L L' cap cap':Nat) (fa:Option Addr) (k fc P mp lines:Nat) (on st:Bool) (i:Nat):(if i=18 then .slice ad' L' cap' else stCell n v l room ad L cap fa k fc P mp lines on st i)=stCell n v l room ad' L' cap' fa k fc P mp lines on st i:=by
 unfold stCell;by_cases e:i=18
 ·subst e;simp
 ·simp[e]
theorem stCell_19 (n:Nat) (v l:Nat→Nat) (room:Nat) (ad:Option Addr) (L cap:Nat) (fa fa':Option Addr) (k k' fc fc' P mp lines:Nat) (on st:Bool) (i:Nat):(if i=19 then .slice fa' k' fc' else stCell n v l room ad L cap fa k fc P mp lines on st i)=stCell n v l room ad L cap fa' k' fc' P mp lines on st i:=by
 unfold stCell;by_cases e:i=19
 ·subst e;simp
 ·simp[e]
theorem OwnR.cut {e:TypeId}{w:World}{B n cap:Nat}{ad:Option Addr}{V:Nat→Value}(h:OwnR e w B ad n cap V){m:Nat}(hm:m≤n):OwnR e w B ad m cap V:=by
 obtain⟨_,h2⟩:=h;refine⟨by simp[rowL_length],?_⟩;rcases h2 with ⟨h0,hn⟩|⟨g,cap',cur,hv,hg,hh,hnc,hcap,hsz,ht⟩
 ·obtain rfl:m=0:=by omega
  cases h0;exact .inl ⟨rfl,rfl⟩
 ·cases hv;refine .inr ⟨g,cap,cur,rfl,hg,hh,by omega,hcap,hsz,?_⟩;have h3:=congrArg (List.take (m*1)) ht;rw[List.take_take,Nat.min_eq_left (by omega)]at h3;rw[h3];simp[rowL,← List.map_take,List.take_range,Nat.min_eq_left hm]
theorem OwnR.room {e:TypeId}{w:World}{B n cap:Nat}{ad:Option Addr}{V:Nat→Value}(h:OwnR e w B ad n cap V):n≤cap∧(ad=none→cap=0):=by
 obtain⟨_,h2⟩:=h;rcases h2 with ⟨h0,hn⟩|⟨g,cap',cur,hv,hg,hh,hnc,hcap,hsz,ht⟩
 ·cases h0;exact⟨by omega,fun _=>rfl⟩
 ·cases hv;exact⟨hnc,fun e=>by cases e⟩
theorem run_app_h {w:World}{B n cap:Nat}{ad:Option Addr}{V:Nat→Value}(hown:OwnR 36 w B ad n cap V) (src:Nat) (x:Int) (hsrc:w.heap[src]? = some (.cells #[.int .u32 x] 36 (0,0))) (hn:n≤1000000) (hB:B≤w.heap.size) :
  ∃g cap' w',(Builtin.append_ #[32,32] 32 #[.slice ad n cap,.slice (some ⟨src,0,none⟩) 1 1]).run Tryz.prog w = .ok (.slice (some ⟨g,0,none⟩) (n+1) cap') w'∧OwnR 36 w' B (some ⟨g,0,none⟩) (n+1) cap' (fun i=>if i=n then .int .u32 x else V i)∧Went (At ad) w w'∧(At ad g∨g=w.heap.size):=by
 have hob:∀k,some k=(Value.slice ad n cap).ownBlock→At ad k:=by
  intro k hk;cases ad with
  | none=>simp[Value.ownBlock]at hk
  | some a=>exact⟨a,rfl,by simpa[Value.ownBlock]using hk.symm⟩
 obtain⟨i,hi,hz,hsz,hby⟩:=info_parts infoH;obtain⟨g,cap',w',hr,o1,o2,o3,o4⟩:=run_append_lies (P:=Tryz.prog) w 32 32 B 36 i _ 1 4 Tryz.underlying32 hi hz hsz hby (by kernel_rfl) (by decide) (.slice ad n cap) n (rowL n V) hown ⟨src,0,none⟩ 1 1 [.int .u32 x] rfl (World.news_of_block hsrc) (fun u hu=>by
  simp only[List.mem_cons,List.not_mem_nil,or_false]at hu;subst hu;rfl) (by decide) (by simp only[maxLen];omega) (by omega) hB w.heap.size rfl
 refine⟨g,cap',w',hr,?_,⟨o2.os,o2.tape,o2.output,o2.size,fun k hk hA=>o2.block k hk fun e=>hA (hob k e)⟩,o3.elim (fun e=>.inl (hob g e.symm)) .inr⟩;unfold OwnR;rw[rowL_succ];have e1:rowL n (fun i=>if i=n then .int .u32 x else V i)=rowL n V:=rowL_congr fun i hi=>if_neg (by omega)
 rw[e1];simp only[if_true];exact o1
theorem step_app_h {ops:Array Oper}{o:Oper}{a:Act}{w w':World}{K:Act→World→Prop}{Q:Exit→Act→World→Prop}{E:Prop}
  (hg:o.guard=none) (s x:Operand) (hop:o.op=Op.call { callee:=Callee.builtin Builtin.append,args:=#[s,x],argTypes:=#[32,32] })
  (v u r:Value) (hs:a.eval s=v) (hx:a.eval x=u) (hrun:(Builtin.append_ #[32,32] o.type #[v,u]).run Tryz.prog w = .ok r w')
  (hK:K (a.put o.dst r) w') :
  if Region.wanted o (yielded ops a.tmps)=true then Oper.wp Tryz.prog o a w K Q else E:=by
 have hw:Region.wanted o (yielded ops a.tmps)=true:=by simp[Region.wanted,hg]
 rw[if_pos hw];unfold Oper.wp;simp[execOp,hop,resolve,invoke,builtin,hs,hx,hrun,Result.andThen];exact hK
section
variable {w:World}{S n room W cap k fc P mp lines:Nat}{v l:Nat→Nat}{ad fa:Option Addr}{on st:Bool}{wd:Nat→Int}{V:Nat→Value}{nm:Int→Option Int}
theorem name_apart (hb:w.rowIs S 92 29 (stCell n v l room ad W cap fa k fc P mp lines on st)) (own:OwnR 22 w 0 ad W cap (fun i=>.int .u64 (wd i))) (fre:OwnR 36 w 0 fa k fc V) (map:IsMap w mp nm):S≠mp∧(∀b,At ad b→b≠mp)∧(∀b,At fa b→b≠mp)∧(¬At ad S)∧(¬At fa S)∧(∀b,At ad b→¬At fa b):=by
 obtain⟨cs,h1,_⟩:=hb;obtain⟨es,ck,l,h2,_⟩:=map;refine⟨fun e=>?_,fun b hk e=>?_,fun b hk e=>?_,own.apart h1 (by decide),fre.apart h1 (by decide),fun b hk=>?_⟩
 ·rw[e,h2]at h1;cases h1
 ·obtain⟨cur,h1⟩:=own.kind b hk;rw[e,h2]at h1;cases h1
 ·obtain⟨cur,h1⟩:=fre.kind b hk;rw[e,h2]at h1;cases h1
 ·obtain⟨cur,h1⟩:=own.kind b hk;exact fre.apart h1 (by decide)
theorem name_lay {j g f:Nat}{z X:Int}{s:Nat}(hb:w.rowIs S 92 29 (stCell n v l room (some ⟨g,0,none⟩) W cap (some ⟨f,0,none⟩) (k+1) fc P mp lines on st)) (own:OwnR 22 w 0 (some ⟨g,0,none⟩) W cap (fun i=>.int .u64 (wd i))) (fre:OwnR 36 w 0 (some ⟨f,0,none⟩) (k+1) fc V) (map:IsMap w mp nm) (hV:V k = .int .u32 X) (hj:j<W) :
  w.cell? ⟨S,19,none⟩=some (.slice (some ⟨f,0,none⟩) (k+1) fc)∧w.cell? ⟨S,18,none⟩=some (.slice (some ⟨g,0,none⟩) W cap)∧w.cell? ⟨S,23,none⟩=some (.map (some mp))∧w.frozen? ⟨S,19,none⟩=false∧w.cell? ⟨f,k,none⟩=some (.int .u32 X)∧w.cell? ⟨g,j,none⟩=some (.int .u64 (wd j))∧w.frozen? ⟨g,j,none⟩=false∧S≠g∧S≠f∧g≠f∧g≠mp∧f≠mp∧S≠mp∧k≤fc ∧
  ∃w1,(Instr.mapUpdate 87 (.map (some mp)) (.int .i64 (s:Int)) (.int .u32 X)).run Tryz.prog ((w.setCell ⟨S,19,none⟩ (.slice (some ⟨f,0,none⟩) k fc)).setCell ⟨g,j,none⟩ (.int .u64 z)) = .ok () w1 ∧
   Aside (w1.rowIs S 92 29 (stCell n v l room (some ⟨g,0,none⟩) W cap (some ⟨f,0,none⟩) k fc P mp lines on st)∧OwnR 22 w1 0 (some ⟨g,0,none⟩) W cap (fun i=>.int .u64 (if i=j then z else wd i))∧OwnR 36 w1 0 (some ⟨f,0,none⟩) k fc V∧IsMap w1 mp (at1 nm (s:Int) (some X))∧Went (fun b=>b=S∨b=mp∨At (some ⟨g,0,none⟩) b) w w1):=by
 obtain⟨p1,p2,p3,p4,p5,p6⟩:=name_apart hb own fre map;have cf:=fre.cell (i:=k) (by omega);rw[hV]at cf;have hne1:S≠g:=fun e=>p4 ⟨_,rfl,e.symm⟩
 have hne2:S≠f:=fun e=>p5 ⟨_,rfl,e.symm⟩
 have hgf:g≠f:=fun e=>p6 g ⟨_,rfl,rfl⟩ ⟨_,rfl,e.symm⟩
 have hgm:=p2 g ⟨_,rfl,rfl⟩;have hfm:=p3 f ⟨_,rfl,rfl⟩;refine⟨hb.cell (i:=19) (by omega),hb.cell (i:=18) (by omega),hb.cell (i:=23) (by omega),hb.frozen 19,cf,own.cell (i:=j) (by omega),own.frozen j,hne1,hne2,hgf,hgm,hfm,p1,by have:=fre.room.1;omega,?_⟩;obtain⟨W2,hW2⟩:∃w2,w2=(w.setCell ⟨S,19,none⟩ (.slice (some ⟨f,0,none⟩) k fc)).setCell ⟨g,j,none⟩ (.int .u64 z):=⟨_,rfl⟩
 have kp:∀b,b≠S→b≠g→W2.heap[b]? = w.heap[b]?:=fun b h1 h2=>by
  rw[hW2,Below.heap_setCell _ _ _ _ h2,Below.heap_setCell _ _ _ _ h1]
 have map2:IsMap W2 mp nm:=map.same (kp mp p1.symm hgm.symm);obtain⟨w1,hr1,m1,t1⟩:=map_put map2 (s:Int) X;have hb1:=(hb.set 19 (.slice (some ⟨f,0,none⟩) k fc)).congr fun i _=>stCell_19 n v l room (some ⟨g,0,none⟩) W cap (some ⟨f,0,none⟩) (some ⟨f,0,none⟩) (k+1) k fc fc P mp lines on st i
 have hb2:W2.rowIs S 92 29 (stCell n v l room (some ⟨g,0,none⟩) W cap (some ⟨f,0,none⟩) k fc P mp lines on st):=by rw[hW2];exact hb1.of_block (Below.heap_setCell _ _ _ _ hne1)
 have own2:OwnR 22 W2 0 (some ⟨g,0,none⟩) W cap (fun i=>.int .u64 (if i=j then z else wd i)):=by
  rw[hW2];refine((own.kept (w':=w.setCell ⟨S,19,none⟩ (.slice (some ⟨f,0,none⟩) k fc)) fun b hb=>Below.heap_setCell _ _ _ _ fun(e:b=S)=>p4 (e ▸ hb)).set (k:=j) (.int .u64 z)).congr fun i hi=>?_
  by_cases e:i=j
  ·rw[if_pos e,if_pos e]
  ·rw[if_neg e,if_neg e]
 have fre2:OwnR 36 W2 0 (some ⟨f,0,none⟩) k fc V:=(fre.cut (by omega)).kept fun b hb=>kp b (fun e=>p5 (e ▸ hb)) fun e=>p6 g ⟨_,rfl,rfl⟩ (e ▸ hb)
 have wt2:Went (fun b=>b=S∨b=mp∨At (some ⟨g,0,none⟩) b) w W2:=by rw[hW2];exact(Went.set (.inl rfl) _ _).trans (Went.set (.inr (.inr ⟨_,rfl,rfl⟩)) _ _)
 rw[hW2]at hr1;exact⟨w1,hr1,hb2.of_block (t1.block S p1),own2.kept fun b hb=>t1.block b (p2 b hb),fre2.kept fun b hb=>t1.block b (p3 b hb),m1,wt2.trans ⟨t1.os,t1.tape,t1.output,Nat.le_of_eq t1.size.symm,fun b _ hn=>t1.block b fun e=>hn (.inr (.inl e))⟩⟩
set_option maxRecDepth 100000 in
set_option maxHeartbeats 1000000 in
theorem name_again {x:Nat}{z:Int}{s:Nat}(hb:w.rowIs S 92 29 (stCell n v l room ad W cap fa (k+1) fc P mp lines on st)) (own:OwnR 22 w 0 ad W cap (fun i=>.int .u64 (wd i))) (fre:OwnR 36 w 0 fa (k+1) fc V) (map:IsMap w mp nm) (hk:k≤32768) (hV:V k = .int .u32 (x:Int)) (hx2:2≤x) (hxW:x<2+W) (hW:W≤32768) :
  Calls Tryz.prog 150 #[.pointer (some ⟨S,0,none⟩),.int .i64 (s:Int),.int .u64 z] w fun e w'=>e = .returned (.tuple #[])∧w'.rowIs S 92 29 (stCell n v l room ad W cap fa k fc P mp lines on st)∧OwnR 22 w' 0 ad W cap (fun i=>.int .u64 (if i=x-2 then z else wd i))∧OwnR 36 w' 0 fa k fc V∧IsMap w' mp (at1 nm (s:Int) (some (x:Int)))∧Went (fun b=>b=S∨b=mp∨At ad b) w w':=by
 obtain⟨j,rfl⟩:∃j,x=j+2:=⟨x-2,by omega⟩
 obtain⟨f,rfl⟩:=fre.form (by omega);obtain⟨g,rfl⟩:=own.form (by omega);have hwr:IntKind.u32.wrap (j:Int)=(j:Int):=by rw[IntKind.wrap_u32];omega
 have hjW:(j:Int)<(W:Int):=by omega
 have hk0:(((k:Nat):Int)+1 == 0)=false:=by simpa using(by omega:¬((k:Int)+1=0))
 obtain⟨c19,c18,c23,f19,cf,cg,fg,hne1,hne2,hgf,hgm,hfm,p1,hkc,w1,hr1,finA⟩:=name_lay (z:=z) (s:=s) (j:=j) hb own fre map (X:=(j:Int)+2) (by rw[hV];rfl) (by omega);clear map own fre hb;go_enter Tryz.func150,Tryz.ntmps150
 go_wp2_with fail
 go_end0
 exact⟨rfl,finA.out⟩
theorem fresh_mid {w3:World}{o:Obj}{f g fc1 cap1:Nat}{z X:Int}{s:Nat}(hb:w.rowIs S 92 29 (stCell n v l room ad W cap (some ⟨f,0,none⟩) 1 fc1 P mp lines on st)) (own:OwnR 22 w 0 ad W cap (fun i=>.int .u64 (wd i))) (fre:OwnR 36 w 0 (some ⟨f,0,none⟩) 1 fc1 V) (map:IsMap w mp nm) (hV:V 0 = .int .u32 X)
  (o3:OwnR 22 w3 0 (some ⟨g,0,none⟩) (W+1) cap1 (fun i=>if i=W then .int .u64 0 else .int .u64 (wd i))) (b3:Went (At ad) (w.alloc o) w3) (p3:At ad g∨g=(w.alloc o).heap.size) :
  w3.cell? ⟨S,18,none⟩=some (.slice ad W cap)∧w3.frozen? ⟨S,18,none⟩=false∧∃u3,u3=w3.setCell ⟨S,18,none⟩ (.slice (some ⟨g,0,none⟩) (W+1) cap1) ∧
  u3.cell? ⟨S,19,none⟩=some (.slice (some ⟨f,0,none⟩) 1 fc1)∧u3.cell? ⟨S,18,none⟩=some (.slice (some ⟨g,0,none⟩) (W+1) cap1)∧u3.cell? ⟨S,23,none⟩=some (.map (some mp))∧u3.frozen? ⟨S,19,none⟩=false∧u3.cell? ⟨f,0,none⟩=some (.int .u32 X)∧u3.cell? ⟨g,W,none⟩=some (.int .u64 0)∧u3.frozen? ⟨g,W,none⟩=false∧S≠g∧S≠f∧g≠f∧g≠mp∧f≠mp∧S≠mp ∧
  ∃w1,(Instr.mapUpdate 87 (.map (some mp)) (.int .i64 (s:Int)) (.int .u32 X)).run Tryz.prog ((u3.setCell ⟨S,19,none⟩ (.slice (some ⟨f,0,none⟩) 0 fc1)).setCell ⟨g,W,none⟩ (.int .u64 z)) = .ok () w1 ∧
   Aside (w1.rowIs S 92 29 (stCell n v l room (some ⟨g,0,none⟩) (W+1) cap1 (some ⟨f,0,none⟩) 0 fc1 P mp lines on st)∧OwnR 22 w1 0 (some ⟨g,0,none⟩) (W+1) cap1 (fun i=>.int .u64 (if i=W then z else wd i))∧OwnR 36 w1 0 (some ⟨f,0,none⟩) 0 fc1 V∧IsMap w1 mp (at1 nm (s:Int) (some X))∧Went (fun b=>b=S∨b=mp∨At ad b) w w1∧(At ad g∨w.heap.size≤g)):=by
 obtain⟨p1,p2,p3',p4,p5,p6⟩:=name_apart hb own fre map;have kp:∀b,b<w.heap.size→¬At ad b→w3.heap[b]? = w.heap[b]?:=fun b hb' hn=>(b3.block b (by simp;omega) hn).trans (Below.heap_alloc _ _ _ hb')
 have hb3:w3.rowIs S 92 29 (stCell n v l room ad W cap (some ⟨f,0,none⟩) 1 fc1 P mp lines on st):=hb.of_block (kp S hb.lt p4);have hSg:S≠g:=fun e=>by
  obtain⟨cur,h1⟩:=o3.kind g ⟨_,rfl,rfl⟩;obtain⟨cs,h2,_⟩:=hb3;rw[← e,h2]at h1;simp at h1
 have kpu:∀b,b≠S→(w3.setCell ⟨S,18,none⟩ (.slice (some ⟨g,0,none⟩) (W+1) cap1)).heap[b]? = w3.heap[b]?:=fun b h1=>Below.heap_setCell _ _ _ _ h1
 have hbu:(w3.setCell ⟨S,18,none⟩ (.slice (some ⟨g,0,none⟩) (W+1) cap1)).rowIs S 92 29 (stCell n v l room (some ⟨g,0,none⟩) (W+1) cap1 (some ⟨f,0,none⟩) (0+1) fc1 P mp lines on st):=
  (hb3.set 18 (.slice (some ⟨g,0,none⟩) (W+1) cap1)).congr fun i _=>stCell_18 n v l room ad (some ⟨g,0,none⟩) W (W+1) cap cap1 (some ⟨f,0,none⟩) 1 fc1 P mp lines on st i
 have ownu:OwnR 22 (w3.setCell ⟨S,18,none⟩ (.slice (some ⟨g,0,none⟩) (W+1) cap1)) 0 (some ⟨g,0,none⟩) (W+1) cap1 (fun i=>.int .u64 (if i=W then 0 else wd i)):=
  (o3.kept fun b hb'=>kpu b fun e=>by
   obtain⟨a,ha,e2⟩:=hb';cases ha;exact hSg (e.symm.trans e2.symm)).congr fun i _=>by
    by_cases e:i=W
    ·rw[if_pos e,if_pos e]
    ·rw[if_neg e,if_neg e]
 have freu:OwnR 36 (w3.setCell ⟨S,18,none⟩ (.slice (some ⟨g,0,none⟩) (W+1) cap1)) 0 (some ⟨f,0,none⟩) (0+1) fc1 V:=fre.kept fun b hb'=>(kpu b fun e=>p5 (e ▸ hb')).trans (kp b (fre.block b hb').2 fun e=>p6 b e hb')
 have mapu:IsMap (w3.setCell ⟨S,18,none⟩ (.slice (some ⟨g,0,none⟩) (W+1) cap1)) mp nm:=map.same ((kpu mp p1.symm).trans (kp mp map.lt fun e=>p2 mp e rfl));obtain⟨c19,c18,c23,f19,cf,cg,fg,hne1,hne2,hgf,hgm,hfm,p1',hkc,w1,hr1,fin⟩:=name_lay (z:=z) (s:=s) (j:=W) hbu ownu freu mapu (X:=X) hV (by omega);rw[if_pos rfl]at cg;refine⟨hb3.cell (i:=18) (by omega),hb3.frozen 18,_,rfl,c19,c18,c23,f19,cf,cg,fg,hne1,hne2,hgf,hgm,hfm,p1',w1,hr1,?_⟩;obtain⟨q1,q2,q3,q4,q5⟩:=fin.out;have hp:At ad g∨w.heap.size≤g:=p3.imp id fun e=>by rw[e];simp
 refine⟨q1,q2.congr fun i _=>?_,q3,q4,?_,hp⟩
 ·by_cases e:i=W
  ·rw[if_pos e,if_pos e]
  ·rw[if_neg e,if_neg e,if_neg e]
 ·have wa:Went (fun b=>b=S∨b=mp∨At ad b) w (w3.setCell ⟨S,18,none⟩ (.slice (some ⟨g,0,none⟩) (W+1) cap1)):=((Went.new _ w _).trans (b3.wider fun b e=>.inr (.inr e))).trans (Went.set (.inl rfl) _ _);refine⟨q5.os.trans wa.os,q5.tape.trans wa.tape,q5.output.trans wa.output,Nat.le_trans wa.size q5.size,fun b hb' hn=>(q5.block b (Nat.lt_of_lt_of_le hb' wa.size) ?_).trans (wa.block b hb' hn)⟩;rintro(e|e|⟨a,ha,e⟩)
  ·exact hn (.inl e)
  ·exact hn (.inr (.inl e))
  ·cases ha;rcases hp with h1|h1
   ·exact hn (.inr (.inr (e ▸ h1)))
   ·simp at e;omega
set_option maxRecDepth 100000 in
set_option maxHeartbeats 2000000 in
theorem name_fresh {z:Int}{s:Nat}(hb:w.rowIs S 92 29 (stCell n v l room ad W cap fa 0 fc P mp lines on st)) (own:OwnR 22 w 0 ad W cap (fun i=>.int .u64 (wd i))) (fre:OwnR 36 w 0 fa 0 fc V) (map:IsMap w mp nm) (hW:W≤32768) :
  Calls Tryz.prog 150 #[.pointer (some ⟨S,0,none⟩),.int .i64 (s:Int),.int .u64 z] w fun e w'=>e = .returned (.tuple #[])∧∃g cap' f fc',w'.rowIs S 92 29 (stCell n v l room (some ⟨g,0,none⟩) (W+1) cap' (some ⟨f,0,none⟩) 0 fc' P mp lines on st)∧OwnR 22 w' 0 (some ⟨g,0,none⟩) (W+1) cap' (fun i=>.int .u64 (if i=W then z else wd i))∧OwnR 36 w' 0 (some ⟨f,0,none⟩) 0 fc' V∧IsMap w' mp (at1 nm (s:Int) (some ((W:Int)+2)))∧Went (fun b=>b=S∨b=mp∨At ad b∨At fa b) w w'∧(At ad g∨w.heap.size≤g)∧(At fa f∨w.heap.size≤f):=by
 obtain⟨p1,p2,p3,p4,p5,p6⟩:=name_apart hb own fre map;have c19:w.cell? ⟨S,19,none⟩=some (.slice fa 0 fc):=hb.cell (i:=19) (by omega);have c18:w.cell? ⟨S,18,none⟩=some (.slice ad W cap):=hb.cell (i:=18) (by omega);have hwr:IntKind.u32.wrap (W:Int)=(W:Int):=by rw[IntKind.wrap_u32];omega
 have hwr2:IntKind.u32.wrap (2+(W:Int))=2+(W:Int):=by rw[IntKind.wrap_u32];omega
 have hb0:=(hb.alloc (.cells #[.int .u32 (2+(W:Int))] 36)).drew;have e19:(w.alloc (.cells #[.int .u32 (2+(W:Int))] 36)).drew.cell? ⟨S,19,none⟩=some (.slice fa 0 fc):=hb0.cell (i:=19) (by omega);have e18:(w.alloc (.cells #[.int .u32 (2+(W:Int))] 36)).drew.cell? ⟨S,18,none⟩=some (.slice ad W cap):=hb0.cell (i:=18) (by omega);have ownD:OwnR 36 (w.alloc (.cells #[.int .u32 (2+(W:Int))] 36)).drew 0 fa 0 fc V:=(fre.new _).drew;obtain⟨f,fc1,w1,hr,o1,b1,hf1⟩:=run_app_h ownD w.heap.size (2+(W:Int)) (heap_alloc_new w _) (by omega) (Nat.zero_le _)
 have sz1:w.heap.size≤w1.heap.size:=Nat.le_trans (by simp[World.drew]) b1.size;have kp1:∀b,b<w.heap.size→¬At fa b→w1.heap[b]? = w.heap[b]?:=fun b hb' hn=>(b1.block b (by simp[World.drew];omega) hn).trans (Below.heap_alloc _ _ _ hb')
 have hb1:w1.rowIs S 92 29 (stCell n v l room ad W cap fa 0 fc P mp lines on st):=hb.of_block (kp1 S hb.lt p5);have own1:OwnR 22 w1 0 ad W cap (fun i=>.int .u64 (wd i)):=own.kept fun b hb'=>kp1 b (own.block b hb').2 (p6 b hb')
 have map1:IsMap w1 mp nm:=map.same (kp1 mp map.lt fun e=>p3 mp e rfl);have d19:w1.cell? ⟨S,19,none⟩=some (.slice fa 0 fc):=hb1.cell (i:=19) (by omega);have g19:=hb1.frozen 19;have hSf:S≠f:=fun e=>by
  obtain⟨cur,h1⟩:=o1.kind f ⟨_,rfl,rfl⟩;obtain⟨cs,h2,_⟩:=hb1;rw[← e,h2]at h1;simp at h1
 obtain⟨u1,hu1⟩:∃u,u=w1.setCell ⟨S,19,none⟩ (.slice (some ⟨f,0,none⟩) 1 fc1):=⟨_,rfl⟩
 have kpu:∀b,b≠S→u1.heap[b]? = w1.heap[b]?:=fun b h1=>by rw[hu1];exact Below.heap_setCell _ _ _ _ h1
 have hbu:u1.rowIs S 92 29 (stCell n v l room ad W cap (some ⟨f,0,none⟩) 1 fc1 P mp lines on st):=by
  rw[hu1];exact(hb1.set 19 (.slice (some ⟨f,0,none⟩) 1 fc1)).congr fun i _=>stCell_19 n v l room ad W cap fa (some ⟨f,0,none⟩) 0 1 fc fc1 P mp lines on st i
 have ownu:OwnR 22 u1 0 ad W cap (fun i=>.int .u64 (wd i)):=own1.kept fun b hb'=>kpu b fun e=>p4 (e ▸ hb')
 have freu:OwnR 36 u1 0 (some ⟨f,0,none⟩) 1 fc1 (fun i=>if i=0 then .int .u32 (2+(W:Int))else V i):=o1.kept fun b hb'=>kpu b fun e=>by
  obtain⟨a,ha,e2⟩:=hb';cases ha;exact hSf (e.symm.trans e2.symm)
 have mapu:IsMap u1 mp nm:=map1.same (kpu mp p1.symm);have wtu:Aside (Went (fun b=>b=S∨b=mp∨At ad b∨At fa b) w u1):=by
  show Went _ _ _;rw[hu1];exact(((Went.new _ w _).drew.trans (b1.wider fun b e=>.inr (.inr (.inr e)))).trans (Went.set (.inl rfl) _ _))
 have hf2:Aside (At fa f∨w.heap.size≤f):=hf1.imp id fun e=>by rw[e];simp[World.drew]
 have szu:Aside (w.heap.size≤u1.heap.size):=wtu.out.size;have u18:u1.cell? ⟨S,18,none⟩=some (.slice ad W cap):=hbu.cell (i:=18) (by omega);clear hb0 ownD o1 b1 hf1 kp1 hb1 own1 map1 hb own fre map kpu p2 p3 p6 p4 p5 p1;go_enter Tryz.func150,Tryz.ntmps150
 go_wp2_with fail
 go_region_law (refine step_app_h rfl (.tmp 18) (.tmp 26) rfl _ _ _ (by simp[Act.eval]) (by simp[Act.eval]) hr ?_)
 all_goals rw[← hu1]
 all_goals clear hu1 hr d19 g19 e19 e18 c19 c18 hSf sz1
 all_goals
  go_wp2_with (first
   | (at_builtin;refine append_u64 (ownu.new _) u1.heap.size 0 (heap_alloc_new _ _) (by omega) (Nat.zero_le _) rfl _ _ rfl rfl rfl ?_;intro g cap1 w3 o3 b3 p3;obtain⟨d18,f18,u3,hu3,c19,c18,c23,f19,cf,cg,fg,hne1,hne2,hgf,hgm,hfm,p1,w4,hr4,fin⟩:=fresh_mid (z:=z) (s:=s) hbu ownu freu mapu (X:=2+(W:Int)) (if_pos rfl) o3 b3 p3;clear o3 b3 p3 hbu ownu freu mapu;rw[hu3]at c19 c18 c23 f19 cf cg fg hr4;clear hu3 u18))
 all_goals go_end0
 all_goals
  obtain⟨q1,q2,q3,q4,q5,q6⟩:=fin.out;exact⟨rfl,g,cap1,f,fc1,q1,q2,q3.congr fun i hi=>absurd hi (Nat.not_lt_zero _),Int.add_comm (W:Int) 2 ▸ q4,wtu.out.trans (q5.wider fun b e=>e.imp id fun e=>e.imp id .inl),q6.imp id fun e=>Nat.le_trans szu.out e,hf2.out⟩
end
end Go.Proofs.YtnnmdkaoiofabaaGreat
namespace Go.Proofs.YtnnmdkaoiofabaaGreat
open Go Go.RowKit
structure Wf (F F':Nat→Prop) (w w':World):Prop where
 os:w'.os=w.os
 tape:w'.tape=w.tape
 output:w'.output=w.output
 size:w.heap.size≤w'.heap.size
 block:∀k,k<w.heap.size→¬F k→w'.heap[k]? = w.heap[k]?
 new:∀k,F' k→F k∨w.heap.size≤k
namespace Wf
variable {F F' F'':Nat→Prop}{a b c w w':World}
theorem refl (F:Nat→Prop) (w:World):Wf F F w w:=⟨rfl,rfl,rfl,Nat.le_refl _,fun _ _ _=>rfl,fun _ h=>.inl h⟩
theorem trans (h:Wf F F' a b) (k:Wf F' F'' b c):Wf F F'' a c:=
 ⟨k.os.trans h.os,k.tape.trans h.tape,k.output.trans h.output,Nat.le_trans h.size k.size,
  fun i hi hf=>(k.block i (Nat.lt_of_lt_of_le hi h.size) fun e=>(h.new i e).elim hf fun g=>by omega).trans (h.block i hi hf),
  fun i hi=>(k.new i hi).elim (fun e=>h.new i e) fun e=>.inr (Nat.le_trans h.size e)⟩
theorem of_below (h:Below w.heap.size w w') (F:Nat→Prop):Wf F F w w':=⟨h.os,h.tape,h.output,h.size,fun k hk _=>h.block k hk,fun _ e=>.inl e⟩
theorem below {B:Nat}(h:Wf F F' w w') (hB:B≤w.heap.size) (hF:∀k,F k→B≤k):Below B w w':=
 ⟨h.os,h.tape,h.output,h.size,fun k hk=>h.block k (by omega) fun e=>by have:=hF k e;omega⟩
theorem drewN (h:Wf F F' a b) (q:Nat):Wf F F' a (b.drewN q):=⟨h.os,h.tape,h.output,h.size,h.block,h.new⟩
theorem undrew (h:Wf F F' a.drew b):Wf F F' a b:=⟨h.os,h.tape,h.output,h.size,h.block,h.new⟩
theorem far {B:Nat}{d:World}(h:Below B d a) (k:Wf F F' a b) (hB:B≤a.heap.size) (hF:∀i,F i→B≤i):Below B d b:=h.trans (k.below hB hF)
theorem after (h:Wf F F' a b){B:Nat}(hB:B≤a.heap.size) (hF:∀i,F i→B≤i):∀i,F' i→B≤i:=fun i hi=>(h.new i hi).elim (hF i) fun e=>Nat.le_trans hB e
end Wf
def Ins.cells (I:Ins) (c':Nat→Int):Ins:={ I with c:=c' }
theorem Fp_cells (S:Nat) (I:Ins) (c':Nat→Int):Fp S (I.cells c')=Fp S I:=rfl
section
variable {w w':World}{S:Nat}{M:Mdl}{I:Ins}
theorem StI.apart (h:StI w S M I):S≠I.P∧S≠I.R∧S≠I.mp∧I.mp≠I.P∧I.mp≠I.R∧(¬At I.ad S)∧(¬At I.ad I.P)∧(¬At I.ad I.R)∧¬At I.ad I.mp:=by
 obtain⟨cs,hS⟩:=h.kind;obtain⟨o,f,m⟩:=h.mem;obtain⟨cr,hR,_⟩:=m.row;obtain⟨es,ck,l,hM,_⟩:=h.map;have hP:=m.head;refine⟨fun e=>?_,fun e=>?_,fun e=>?_,fun e=>?_,fun e=>?_,h.own.apart hS (by decide),h.own.apart hP (by decide),h.own.apart hR (by decide),fun e=>?_⟩
 ·rw[e,hP]at hS;simp at hS
 ·rw[e,hR]at hS;simp at hS
 ·rw[e,hM]at hS;simp at hS
 ·rw[e,hP]at hM;simp at hM
 ·rw[e,hR]at hM;simp at hM
 ·obtain⟨cur,hc⟩:=h.own.kind _ e;rw[hM]at hc;simp at hc
theorem StI.apartF (h:StI w S M I):(¬At I.fa S)∧(¬At I.fa I.P)∧(¬At I.fa I.R)∧(¬At I.fa I.mp)∧∀k,At I.ad k→¬At I.fa k:=by
 obtain⟨cs,hS⟩:=h.kind;obtain⟨o,f,m⟩:=h.mem;obtain⟨cr,hR,_⟩:=m.row;obtain⟨es,ck,l,hM,_⟩:=h.map;refine⟨h.fre.apart hS (by decide),h.fre.apart m.head (by decide),h.fre.apart hR (by decide),fun e=>?_,fun k hk=>?_⟩
 ·obtain⟨cur,hc⟩:=h.fre.kind _ e;rw[hM]at hc;simp at hc
 ·obtain⟨cur,hc⟩:=h.own.kind k hk;exact h.fre.apart hc (by decide)
theorem StI.turn (h:StI w S M I){c':Nat→Int}{o f:Int}(g:Went (fun k=>k=I.P∨k=I.R∨w.heap.size≤k) w w') (m:IsMem w' I.P I.R (2*M.room+4*I.lines) c' o f) (p:Pu M (I.cells c')) (pt:I.st=false→Pt M (I.cells c')):StI w' S M (I.cells c')∧Wf (Fp S I) (Fp S I) w w':=by
 obtain⟨a1,a2,a3,a4,a5,a6,a7,a8,a9⟩:=h.apart;obtain⟨f1,f2,f3,f4,f5⟩:=h.apartF;have keep:∀b,b<w.heap.size→b≠I.P→b≠I.R→w'.heap[b]? = w.heap[b]?:=fun b hb h1 h2=>g.block b hb fun e=>by rcases e with e|e|e <;> omega
 refine⟨⟨h.blk.of_block (keep S h.ltS a1 a2),⟨o,f,m⟩,h.own.kept fun b hb=>keep b (h.own.block b hb).2 (fun e=>a7 (e ▸ hb)) (fun e=>a8 (e ▸ hb)),h.fre.kept fun b hb=>keep b (h.fre.block b hb).2 (fun e=>f2 (e ▸ hb)) (fun e=>f3 (e ▸ hb)),h.map.same (keep I.mp h.map.lt a4 a5),p,pt⟩,?_⟩;refine⟨g.os,g.tape,g.output,g.size,fun k hk hf=>keep k hk (fun e=>hf (.inr (.inl e))) fun e=>hf (.inr (.inr (.inl e))),fun k hk=>.inl hk⟩
theorem line_low (room lines:Nat) (key:Int):room≤Ch.line room lines key:=by unfold Ch.line;omega
theorem Pu.put (p:Pu M I) (pt:Pt M I){x:Nat}(hx:x∈M.hs):Pu M (I.cells (Ch.putAt I.c (Ch.line (2*M.room) I.lines (ndZ (M.nd x))) (ndZ (M.nd x)) (x:Int)))∧Pt M (I.cells (Ch.putAt I.c (Ch.line (2*M.room) I.lines (ndZ (M.nd x))) (ndZ (M.nd x)) (x:Int))):=by
 obtain⟨w0,w1⟩:=p.word_bd hx;have hxl:=(p.hs_lt hx).2;have hln:=p.lenW;have low:=line_low (2*M.room) I.lines;generalize hK:ndZ (M.nd x)=K at w0 w1;generalize hL:Ch.line (2*M.room) I.lines K=L;have hLl:2*M.room≤L:=hL ▸ low K;have same:∀s,s<2*M.room→Ch.putAt I.c L K (x:Int) s=I.c s:=fun s hs=>Ch.putAt_other (.inl (by omega))
 have hfit:Ch.U64 (Ch.putAt I.c L K (x:Int)):=by
  have:=(Ch.runs_fit (N:=L+4) 16 I.c (Ch.Ac.ofPut L K (x:Int)) p.fit (Ch.Fit.ofPut (by omega) (by omega) w1 (by omega) (by omega))).1;rwa [(Ch.runs_put I.c L K (x:Int)).1]at this
 have pl:∀(k:Int) j,Tb.place (2*M.room) k j<2*M.room:=fun k j=>Tb.place_lt k j (by have:=p.room1;omega)
 refine⟨⟨p.ok,p.inv,p.room1,p.room2,p.lines1,p.lines2,p.wide,p.top,p.wd,p.fall,p.frs,p.both,hfit⟩,fun k j hk hj e q hq=>?_,fun s hs h0=>?_,fun y hy=>?_,?_,fun key k0 k1 hh=>?_⟩
 ·change Ch.putAt I.c L _ _ _=k at e;show ¬Ch.putAt I.c L _ _ _=0∧¬Ch.putAt I.c L _ _ _=k;rw[same _ (pl k j)]at e;rw[same _ (pl k q)];exact pt.good k j hk hj e q hq
 ·change ¬Ch.putAt I.c L _ _ _=0 at h0;rw[same s hs]at h0;obtain⟨y,hy,e1,e2⟩:=pt.tab s hs h0;exact⟨y,hy,(same s hs).trans e1,e2⟩
 ·obtain⟨s,hs,e⟩:=pt.all y hy;exact⟨s,hs,(same s hs).trans e⟩
 ·rw[← pt.cnt];exact Tb.cnt_congr _ fun s hs=>same s hs
 ·change Ch.Hits (Ch.putAt I.c L _ _) (Ch.line (2*M.room) I.lines key) key at hh;show ∃y,y∈M.hs∧key=ndZ (M.nd y)∧Ch.jn (Ch.lo (Ch.putAt I.c L _ _ (Ch.line (2*M.room) I.lines key+2))) (Ch.lo (Ch.putAt I.c L _ _ (Ch.line (2*M.room) I.lines key+3)))=(y:Int)
  by_cases e:Ch.line (2*M.room) I.lines key=L
  ·rw[e]at hh ⊢;have ph:=Ch.put_hits (f:=L) (key:=K) (key':=key) (val:=(x:Int)) p.fit (by omega) w1 (by omega) (by omega);exact⟨x,hx,by rw[hK];exact ph.1.1 hh,ph.2⟩
  ·have apart:∀j,Ch.line (2*M.room) I.lines key≤j→j<Ch.line (2*M.room) I.lines key+4→Ch.putAt I.c L K (x:Int) j=I.c j:=fun j h1 h2=>Ch.putAt_other (by
    rw[← hL]at e ⊢;unfold Ch.line at e h1 h2 ⊢;generalize home key I.lines=q at e h1 h2;generalize home K I.lines=r at e ⊢;omega)
   rw[Ch.hits_congr apart]at hh;rw[apart _ (by omega) (by omega),apart _ (by omega) (by omega)];exact pt.cch key k0 k1 hh
theorem recall_any (h:StI w S M I) (hst:I.st=false) (k:Int) (h0:0≤k) (h1:k≤18446744073709551615) :
  Calls Tryz.prog 119 #[.pointer (some ⟨S,0,none⟩),.int .u64 k] w fun e w'=>∃(x:Nat) (ok:Bool),e = .returned (.tuple #[.int .u32 (x:Int),.bool ok])∧Aside (ok=true→x∈M.hs∧k=ndZ (M.nd x))∧StI w' S M I∧Wf (Fp S I) (Fp S I) w w':=by
 have c27:=h.c27;cases hon:I.on with
 | false =>
  rw[hon]at c27;clear hon;go_enter Tryz.func119,Tryz.ntmps119
  go_wp2_with fail
  go_ret2
  exact⟨0,false,rfl,(fun e=>by cases e),h,Wf.refl _ _⟩
 | true =>
  rw[hon]at c27;clear hon;obtain⟨o,f,hc⟩:=h.ch;have K1:=Ch.aget_any hc k h0 h1;have hL:=hc.line_lt k;have hln:=h.pu.lenW;have cch:Aside (_):=(h.set hst).cch k h0 h1;generalize hLe:Ch.line (2*M.room) I.lines k=L at K1 hL cch;have hfit:=Ch.Fit.ofGet (key:=k) hL h0 h1;have rg:=Ch.runs_get I.c L k;have rf:=(Ch.runs_fit 16 I.c (Ch.Ac.ofGet L k) hc.fit hfit).2.h;have rt:Aside (∃(x:Nat) (ok:Bool),(Ch.runs 16 I.c (Ch.Ac.ofGet L k)).2.told=(x:Int)∧x<4294967296∧(Ch.runs 16 I.c (Ch.Ac.ofGet L k)).2.found=ok∧(ok=true→x∈M.hs∧k=ndZ (M.nd x))):=by
   obtain⟨r1,r2,r3,r4⟩:=rg;cases hf:(Ch.runs 16 I.c (Ch.Ac.ofGet L k)).2.found with
   | false =>
    refine⟨0,false,?_,by omega,rfl,fun e=>by cases e⟩;unfold Ch.Ac.told;rw[hf];rfl
   | true =>
    obtain⟨y,hy,e1,e2⟩:=cch.out (r3.1 hf);have hyl:=(h.pu.hs_lt hy).2;exact⟨y,true,by rw[r4 hf,e2],by omega,rfl,fun _=>⟨hy,e1⟩⟩
  have rc:Aside ((Ch.runs 16 I.c (Ch.Ac.ofGet L k)).1=I.c):=rg.1;clear rg cch;generalize hX:Ch.Ac.ofGet L k=X at K1 hfit rf rt rc;clear hX;obtain⟨x,ok,hx,hx4,hok,told⟩:=rt.out;have told':Aside (ok=true→x∈M.hs∧k=ndZ (M.nd x)):=told;have hxw:IntKind.u32.wrap (x:Int)=(x:Int):=by rw[IntKind.wrap_u32];omega
  clear told rt;have hmf:∀(fn:Fn) (first cap:Array Value) (w:World),(Instr.makeFunc fn first cap).run Tryz.prog w = .ok (.func fn first cap) w:=fun _ _ _ _=>rfl
  have hA:Aside (w.heap.size=w.heap.size):=rfl;generalize hH:w.heap.size=A at K1 hA;have hH':Aside (w.heap.size=A):=hH;clear hH hA;go_enter Tryz.func119,Tryz.ntmps119
  go_wp2_with (first
   | (go_at_call 145;refine K1.mono ?_;clear K1;rintro e w1 ⟨rfl,a1,b1,s1⟩;rw[← hH'.out]at b1;have sA:Aside (w1.heap.size=A+1):=s1;clear s1;have hc1:=hc.below b1;have K2:=drive_act hc1 a1 hfit;rw[rc.out]at K2)
   | (go_at_call 142;refine K2.mono ?_;clear K2;rintro e w2 ⟨rfl,⟨o2,f2,hc2⟩,a2,b2⟩;have K3:=Ch.got_any a2 rf;rw[hx,hok]at K3)
   | (go_at_call 147;refine K3.mono ?_;clear K3;rintro e w3 ⟨rfl,q,rfl⟩))
  go_ret2
  have g:Went (fun k=>k=I.P∨k=I.R∨w.heap.size≤k) w w2:=⟨b2.os.trans b1.os,b2.tape.trans b1.tape,b2.output.trans b1.output,Nat.le_trans b1.size b2.size,fun j hj hn=>(b2.block j (Nat.lt_of_lt_of_le hj b1.size) fun e=>hn (by rcases e with e|e|e;exact .inl e;exact .inr (.inl e);have:=hH'.out;exact .inr (.inr (by omega)))).trans (b1.block j hj)⟩
  obtain⟨t1,t2⟩:=h.turn (c':=I.c) g hc2.mem h.pu h.set;exact⟨x,ok,rfl,told',t1.drewN q,t2.drewN q⟩
theorem keep_any (h:StI w S M I) (hst:I.st=false) (x:Nat) (hx:x∈M.hs) :
  Calls Tryz.prog 121 #[.pointer (some ⟨S,0,none⟩),.int .u64 (ndZ (M.nd x)),.int .u32 (x:Int)] w fun e w'=>e = .returned (.tuple #[])∧∃c',StI w' S M (I.cells c')∧Wf (Fp S I) (Fp S I) w w':=by
 have c27:=h.c27;cases hon:I.on with
 | false =>
  rw[hon]at c27;clear hon;go_enter Tryz.func121,Tryz.ntmps121
  go_wp2_with fail
  go_end0
  exact⟨rfl,I.c,h,Wf.refl _ _⟩
 | true =>
  rw[hon]at c27;clear hon;obtain⟨w0,w1⟩:=h.pu.word_bd hx;have hln:=h.pu.lenW;have hxl:=(h.pu.hs_lt hx).2;obtain⟨o,f,hc⟩:=h.ch;have K1:=Ch.aput_any hc (ndZ (M.nd x)) (x:Int) (by omega) w1 (by omega) (by omega);have hL:=hc.line_lt (ndZ (M.nd x));have pput:Aside (_∧_):=h.pu.put (h.set hst) hx;clear hx;generalize Ch.line (2*M.room) I.lines (ndZ (M.nd x))=L at K1 hL pput;have hfit:=Ch.Fit.ofPut (key:=ndZ (M.nd x)) (val:=(x:Int)) hL (by omega) w1 (by omega) (by omega)
  have rc:Aside ((Ch.runs 16 I.c (Ch.Ac.ofPut L (ndZ (M.nd x)) (x:Int))).1=Ch.putAt I.c L (ndZ (M.nd x)) (x:Int)):=(Ch.runs_put _ _ _ _).1;generalize hX:Ch.Ac.ofPut L (ndZ (M.nd x)) (x:Int)=X at K1 hfit rc;clear hX;generalize Ch.putAt I.c L (ndZ (M.nd x)) (x:Int)=c' at rc pput;have hxw:IntKind.u64.wrap (x:Int)=(x:Int):=by rw[IntKind.wrap_u64];omega
  have hmf:∀(fn:Fn) (first cap:Array Value) (w:World),(Instr.makeFunc fn first cap).run Tryz.prog w = .ok (.func fn first cap) w:=fun _ _ _ _=>rfl
  generalize hH:w.heap.size=A at K1;have hH':Aside (w.heap.size=A):=hH;clear hH;go_enter Tryz.func121,Tryz.ntmps121
  go_wp2_with (first
   | (go_at_call 151;refine K1.mono ?_;clear K1;rintro e w1 ⟨rfl,a1,b1,s1⟩;rw[← hH'.out]at b1;have sA:Aside (w1.heap.size=A+1):=s1;clear s1;have hc1:=hc.below b1;have K2:=drive_act hc1 a1 hfit;rw[rc.out]at K2)
   | (go_at_call 142;refine K2.mono ?_;clear K2;rintro e w2 ⟨rfl,⟨o2,f2,hc2⟩,a2,b2⟩))
  go_end0
  have g:Went (fun k=>k=I.P∨k=I.R∨w.heap.size≤k) w w2:=⟨b2.os.trans b1.os,b2.tape.trans b1.tape,b2.output.trans b1.output,Nat.le_trans b1.size b2.size,fun j hj hn=>(b2.block j (Nat.lt_of_lt_of_le hj b1.size) fun e=>hn (by rcases e with e|e|e;exact .inl e;exact .inr (.inl e);have:=hH'.out;exact .inr (.inr (by omega)))).trans (b1.block j hj)⟩
  obtain⟨t1,t2⟩:=h.turn (c':=c') g hc2.mem pput.out.1 fun _=>pput.out.2
  exact⟨rfl,c',t1,t2⟩
end
end Go.Proofs.YtnnmdkaoiofabaaGreat
namespace Go.Proofs.YtnnmdkaoiofabaaGreat
open Go Go.RowKit
theorem map_clear {w:World}{b:Nat}{P:Int→Option Int}(h:IsMap w b P) :
  ∃w',(∀ty,(Builtin.clear_ #[87] ty #[.map (some b)]).run Tryz.prog w = .ok (.tuple #[]) w')∧IsMap w' b (fun _=>none)∧Turned b w w':=by
 obtain⟨es,clock,l,hb,k⟩:=h;refine⟨{ w with heap:=w.heap.setIfInBounds b (.map #[] clock) },fun ty=>?_,⟨#[],clock,[],heap_now hb,rfl,by simp,fun _=>rfl⟩,heap_turn⟩;simp only[Builtin.clear_,List.getElem?_toArray,List.getElem?_cons_zero,Sem.run_bind,run_underlying Tryz.underlying87,Result.andThen_ok,MapKept.run_getObj_map hb,MapKept.run_setObj_map _ hb,Sem.run_pure]
theorem len_sub : ∀{a b:List Nat},a.Nodup→(∀x∈a,x∈b)→a.length≤b.length
 | [],_,_,_=>Nat.zero_le _
 | x :: a,b,hn,h=>by
  have hx:x∈b:=h x (by simp);have hxa:x ∉ a:=(List.nodup_cons.1 hn).1;have:=len_sub (a:=a) (b:=b.erase x) (List.nodup_cons.1 hn).2 fun y hy=>(List.mem_erase_of_ne (show y≠x from fun e=>hxa (e ▸ hy))).2 (h y (by simp[hy]))
  rw[List.length_erase_of_mem hx]at this
  have:0<b.length:=List.length_pos_of_mem hx;simp only[List.length_cons];omega
def cntP (W:Nat) (wd:Nat→Int) (j:Nat):Nat:=((List.range W).filter fun i=>decide (i<j∧¬wd i=0)).length
theorem filter_one : ∀(l:List Nat) (p:Nat→Bool) (x:Nat),l.Nodup→x∈l→p x=false→(l.filter fun i=>p i || decide (i=x)).length=(l.filter p).length+1
 | [],_,_,_,h,_=>absurd h List.not_mem_nil
 | a :: l,p,x,hn,hx,hp=>by
  have hl:=(List.nodup_cons.1 hn).2;have ha:=(List.nodup_cons.1 hn).1;by_cases e:a=x
  ·subst e;rw[List.filter_cons_of_pos (by simp),List.filter_cons_of_neg (by simp[hp]),List.length_cons];congr 2;refine List.filter_congr fun i hi=>?_
   have:i≠a:=fun q=>ha (q ▸ hi)
   simp[this]
  ·have hx':x∈l:=(List.mem_cons.1 hx).resolve_left fun q=>e q.symm
   have ih:=filter_one l p x hl hx' hp;by_cases c:p a=true
   ·rw[List.filter_cons_of_pos (by simp[c]),List.filter_cons_of_pos c,List.length_cons,List.length_cons,ih]
   ·rw[List.filter_cons_of_neg (by simp[c,e]),List.filter_cons_of_neg c,ih]
theorem cntP_new {W:Nat}{wd:Nat→Int}{j:Nat}(hj:j<W) (hz:¬wd j=0):cntP W wd (j+1)=cntP W wd j+1:=by
 unfold cntP;rw[← filter_one (List.range W) (fun i=>decide (i<j∧¬wd i=0)) j List.nodup_range (List.mem_range.2 hj) (by simp)];congr 1;refine List.filter_congr fun i _=>?_
 by_cases e:i=j
 ·subst e;simp[hz]
 ·have:i<j+1↔i<j:=by omega
  simp[e,this]
theorem cntP_old {W:Nat}{wd:Nat→Int}{j:Nat}(h:wd j=0):cntP W wd (j+1)=cntP W wd j:=by
 unfold cntP;congr 1;refine List.filter_congr fun i _=>?_
 by_cases e:i=j
 ·subst e;simp[h]
 ·have:i<j+1↔i<j:=by omega
  simp[this]
theorem cntP_le (W:Nat) (wd:Nat→Int) (j:Nat):cntP W wd j≤W:=by
 unfold cntP;have:=List.length_filter_le (fun i=>decide (i<j∧¬wd i=0)) (List.range W);rwa [List.length_range]at this
structure Wds (W:Nat) (wd:Nat→Int):Prop where
 fit:∀i,i<W→0≤wd i∧wd i≤18446744073709551615
 one:∀i j,i<W→j<W→¬wd i=0→wd i=wd j→i=j
structure RpP (W room lines:Nat) (wd:Nat→Int) (j:Nat) (c:Nat→Int) (nm:Int→Option Int):Prop where
 fit:Ch.U64 c
 zero:∀j,j<lines→c (2*room+4*j+1)=0
 good:Tb.Good (2*room) c
 tab:∀s,s<2*room→¬c s=0→∃i,i<j∧i<W∧c s=wd i∧nm (s:Int)=some ((i+2:Nat):Int)
 all:∀i,i<j→i<W→¬wd i=0→∃s,s<2*room∧c s=wd i
 cnt:Tb.cnt c (2*room)=cntP W wd j
section
variable {W room lines j:Nat}{wd:Nat→Int}{c:Nat→Int}{nm:Int→Option Int}
theorem RpP.start (c:Nat→Int) (fit:Ch.U64 c) (z:∀j,j<lines→c (2*room+4*j+1)=0) (t:∀s,s<2*room→c s=0) (r1:1≤room):RpP W room lines wd 0 c (fun _=>none):=by
 have pl:∀(k:Int) j,Tb.place (2*room) k j<2*room:=fun k j=>Tb.place_lt k j (by omega)
 refine⟨fit,z,fun k j hk hj e i hi=>?_,fun s hs h=>absurd (t s hs) h,fun i hi=>absurd hi (Nat.not_lt_zero _),?_⟩
 ·rw[t _ (pl k j)]at e;exact absurd e.symm hk
 ·rw[Tb.cnt_congr _ t]
  have:cntP W wd 0=0:=by simp[cntP]
  rw[this];exact Tb.cnt_zero _
theorem RpP.free (p:RpP W room lines wd j c nm) (hz:wd j=0):RpP W room lines wd (j+1) c nm:=by
 refine⟨p.fit,p.zero,p.good,fun s hs h=>?_,fun i hi hiW hz'=>?_,?_⟩
 ·obtain⟨i,hi,r⟩:=p.tab s hs h;exact⟨i,by omega,r⟩
 ·by_cases e:i=j
  ·exact absurd (e ▸ hz) hz'
  ·exact p.all i (by omega) hiW hz'
 ·rw[p.cnt,cntP_old hz]
theorem RpP.no (p:RpP W room lines wd j c nm) (wds:Wds W wd) (hj:j<W) (hz:¬wd j=0):∀s,s<2*room→¬c s=wd j:=fun s hs e=>by
 obtain⟨i,hi,hiW,e1,_⟩:=p.tab s hs (by rw[e];exact hz);have:=wds.one j i hj hiW hz (by rw[← e,e1]);omega
theorem RpP.lay (p:RpP W room lines wd j c nm) (wds:Wds W wd){s:Nat}(hj:j<W) (hz:¬wd j=0) (hs:s<2*room) (h0:c s=0){c':Nat→Int}(hc:∀i,i<2*room→c' i=upd c s (wd j) i) (hh:∀i,2*room≤i→c' i=c i) (good:Tb.Good (2*room) c'):RpP W room lines wd (j+1) c' (at1 nm (s:Int) (some ((j+2:Nat):Int))):=by
 have css:c' s=wd j:=by rw[hc s hs,Tb.upd_same]
 have cs:∀i,i<2*room→i≠s→c' i=c i:=fun i hi e=>by rw[hc i hi,Tb.upd_other _ _ e]
 refine⟨fun i=>?_,fun i hi=>?_,good,fun i hi e=>?_,fun i hi hiW hz'=>?_,?_⟩
 ·by_cases q:i<2*room
  ·by_cases e:i=s
   ·rw[e,css];exact wds.fit j hj
   ·rw[cs i q e];exact p.fit i
  ·rw[hh i (by omega)];exact p.fit i
 ·rw[hh _ (by omega)];exact p.zero i hi
 ·by_cases ej:i=s
  ·subst ej;exact⟨j,by omega,hj,css,by unfold at1;rw[if_pos rfl]⟩
  ·rw[cs i hi ej]at e;obtain⟨y,hy,hyW,e1,e2⟩:=p.tab i hi e;exact⟨y,by omega,hyW,by rw[cs i hi ej];exact e1,by unfold at1;rw[if_neg (by omega),e2]⟩
 ·by_cases e:i=j
  ·exact⟨s,hs,by rw[css,e]⟩
  ·obtain⟨t,ht,e⟩:=p.all i (by omega) hiW hz';by_cases ts:t=s
   ·rw[ts,h0]at e;exact absurd e.symm hz'
   ·exact⟨t,ht,by rw[cs t ht ts];exact e⟩
 ·rw[Tb.cnt_congr _ hc,Tb.cnt_upd _ hs h0 hz,p.cnt,cntP_new hj hz]
end
section
variable {w w':World}{S:Nat}{M:Mdl}{I:Ins}
theorem Pu.inn (p:Pu M I){i:Nat}(hi:i<I.W):¬I.wd i=0↔i+2∈M.hs:=by
 rw[p.wd i hi,p.wz_zero];exact Classical.not_not
theorem Pu.wds (p:Pu M I):Wds I.W I.wd:=by
 refine⟨fun i hi=>by rw[p.wd i hi];exact p.wz_bd _,fun i j hi hj hz e=>?_⟩;have m1:=(p.inn hi).1 hz;have m2:=(p.inn hj).1 (by rw[← e];exact hz);rw[p.wd i hi,p.wd j hj,Mdl.wz_in m1,Mdl.wz_in m2]at e;have o:=p.ok;obtain⟨e1,e2,e3⟩:=nodeZ_inj (Mdl.isNode_lt o (o.lo _ m1).1) (Mdl.isNode_lt o (o.hi _ m1).1) (Mdl.isNode_lt o (o.lo _ m2).1) (Mdl.isNode_lt o (o.hi _ m2).1) e;have:=o.one _ m1 _ m2 (Prod.ext e1 (Prod.ext e2 e3));omega
theorem Pu.cntW (p:Pu M I):cntP I.W I.wd I.W=M.hs.length:=by
 unfold cntP;have o:=p.ok;have e:M.hs.length=(M.hs.map fun x=>x-2).length:=by rw[List.length_map]
 rw[e];refine Nat.le_antisymm (len_sub (List.nodup_range.filter _) fun i hi=>?_) (len_sub ?_ fun i hi=>?_)
 ·rw[List.mem_filter]at hi;have h1:=List.mem_range.1 hi.1;have h2:i<I.W∧¬I.wd i=0:=by simpa using hi.2
  exact List.mem_map.2 ⟨i+2,(p.inn h1).1 h2.2,by omega⟩
 ·show List.Pairwise _ _;rw[List.pairwise_map];refine List.Pairwise.imp_of_mem ?_ o.sorted;intro a b ha hb h;have:=(o.range a ha).1;have:=(o.range b hb).1;omega
 ·obtain⟨x,hx,rfl⟩:=List.mem_map.1 hi;obtain⟨h1,h2⟩:=p.hs_lt hx;rw[List.mem_filter];refine⟨List.mem_range.2 (by omega),?_⟩;have h3:¬I.wd (x-2)=0:=(p.inn (by omega)).2 (by rw[show x-2+2=x by omega];exact hx);simp[h3];omega
def Ins.anew (I:Ins) (st:Bool) (c:Nat→Int) (nm:Int→Option Int):Ins:={ I with c:=c,nm:=nm,st:=st }
theorem RpP.full (p:Pu M I){st:Bool}{c:Nat→Int}{nm:Int→Option Int}(q:RpP I.W M.room I.lines I.wd I.W c nm):Pu M (I.anew st c nm)∧Pt M (I.anew st c nm):=by
 refine⟨⟨p.ok,p.inv,p.room1,p.room2,p.lines1,p.lines2,p.wide,p.top,p.wd,p.fall,p.frs,p.both,q.fit⟩,q.good,fun s hs h=>?_,fun x hx=>?_,by show Tb.cnt c _=_;rw[q.cnt,p.cntW],fun key k0 k1 hk=>?_⟩
 ·obtain⟨i,hi,hiW,e1,e2⟩:=q.tab s hs h;have m:=(p.inn hiW).1 (by rw[← e1];exact h);exact⟨i+2,m,by rw[← Mdl.wz_in m,← p.wd i hiW];exact e1,e2⟩
 ·obtain⟨h1,h2⟩:=p.hs_lt hx;obtain⟨i,rfl⟩:∃i,x=i+2:=⟨x-2,by omega⟩
  obtain⟨s,hs,e⟩:=q.all i (by omega) (by omega) ((p.inn (by omega)).2 hx);exact⟨s,hs,by rw[← Mdl.wz_in hx,← p.wd i (by omega)];exact e⟩
 ·exfalso;obtain⟨h0,_,h2,_⟩:=hk;have e:=q.zero (home key I.lines) (home_lt key p.lines1);change ¬Ch.hi (c (Ch.line (2*M.room) I.lines key))=0 at h0;change Ch.hi (c (Ch.line (2*M.room) I.lines key+1))=Ch.hi (c (Ch.line (2*M.room) I.lines key))at h2;rw[show Ch.line (2*M.room) I.lines key=2*M.room+4*home key I.lines from rfl]at h0 h2;rw[e]at h2;exact h0 (h2.symm.trans (by simp[Ch.hi]))
end
structure Fx where
 S:Nat
 n:Nat
 room:Nat
 W:Nat
 cap:Nat
 P:Nat
 R:Nat
 mp:Nat
 lines:Nat
 v:Nat→Nat
 l:Nat→Nat
 ad:Option Addr
 on:Bool
 wd:Nat→Int
structure Bd (X:Fx):Prop where
 room1:1≤X.room
 room2:X.room≤32768
 lines1:1≤X.lines
 lines2:X.lines≤1024
 wide:X.W≤X.room
structure Raw (w:World) (X:Fx) (st:Bool) (c:Nat→Int) (fa:Option Addr) (k fc:Nat) (V:Nat→Value) (nm:Int→Option Int):Prop where
 blk:w.rowIs X.S 92 29 (stCell X.n X.v X.l X.room X.ad X.W X.cap fa k fc X.P X.mp X.lines X.on st)
 mem:∃o f,IsMem w X.P X.R (2*X.room+4*X.lines) c o f
 own:OwnR 22 w 0 X.ad X.W X.cap (fun i=>.int .u64 (X.wd i))
 fre:OwnR 36 w 0 fa k fc V
 map:IsMap w X.mp nm
def FS (X:Fx) (fa:Option Addr) (k:Nat):Prop:=k=X.S∨k=X.P∨k=X.R∨k=X.mp∨At fa k
theorem stCell_28 (n:Nat) (v l:Nat→Nat) (room:Nat) (ad:Option Addr) (L cap:Nat) (fa:Option Addr) (k fc P mp lines:Nat) (on st st':Bool) (i:Nat) (hi:i<29):(if i=28 then .bool st' else stCell n v l room ad L cap fa k fc P mp lines on st i)=stCell n v l room ad L cap fa k fc P mp lines on st' i:=by
 unfold stCell;by_cases e:i=28
 ·subst e;simp
 ·rw[if_neg e];by_cases h1:i<17
  ·rw[if_pos h1,if_pos h1]
  ·have:i=17∨i=18∨i=19∨i=20∨i=21∨i=22∨i=23∨i=24∨i=25∨i=26∨i=27:=by omega
   rcases this with rfl|rfl|rfl|rfl|rfl|rfl|rfl|rfl|rfl|rfl|rfl <;> simp
section
variable {w w':World}{X:Fx}{st:Bool}{c:Nat→Int}{fa:Option Addr}{k fc:Nat}{V:Nat→Value}{nm:Int→Option Int}
theorem Raw.apart (h:Raw w X st c fa k fc V nm):X.S≠X.P∧X.S≠X.R∧X.S≠X.mp∧X.mp≠X.P∧X.mp≠X.R∧(¬At X.ad X.S)∧(¬At X.ad X.P)∧(¬At X.ad X.R)∧(¬At X.ad X.mp)∧(¬At fa X.S)∧(¬At fa X.P)∧(¬At fa X.R)∧(¬At fa X.mp)∧∀b,At X.ad b→¬At fa b:=by
 obtain⟨cs,hS,_⟩:=h.blk;obtain⟨o,f,m⟩:=h.mem;obtain⟨cr,hR,_⟩:=m.row;obtain⟨es,ck,l,hM,_⟩:=h.map;have hP:=m.head;refine⟨fun e=>?_,fun e=>?_,fun e=>?_,fun e=>?_,fun e=>?_,h.own.apart hS (by decide),h.own.apart hP (by decide),h.own.apart hR (by decide),fun e=>?_,h.fre.apart hS (by decide),h.fre.apart hP (by decide),h.fre.apart hR (by decide),fun e=>?_,fun b hb=>?_⟩
 ·rw[e,hP]at hS;simp at hS
 ·rw[e,hR]at hS;simp at hS
 ·rw[e,hM]at hS;simp at hS
 ·rw[e,hP]at hM;simp at hM
 ·rw[e,hR]at hM;simp at hM
 ·obtain⟨cur,hc⟩:=h.own.kind _ e;rw[hM]at hc;simp at hc
 ·obtain⟨cur,hc⟩:=h.fre.kind _ e;rw[hM]at hc;simp at hc
 ·obtain⟨cur,hc⟩:=h.own.kind b hb;exact h.fre.apart hc (by decide)
theorem Raw.kept (h:Raw w X st c fa k fc V nm) (e:∀b,(FS X fa b∨At X.ad b)→w'.heap[b]? = w.heap[b]?):Raw w' X st c fa k fc V nm:=by
 obtain⟨o,f,m⟩:=h.mem;exact⟨h.blk.of_block (e _ (.inl (.inl rfl))),⟨o,f,m.of_blocks (e _ (.inl (.inr (.inl rfl)))) (e _ (.inl (.inr (.inr (.inl rfl)))))⟩,h.own.kept fun b hb=>e b (.inr hb),h.fre.kept fun b hb=>e b (.inl (.inr (.inr (.inr (.inr hb))))),h.map.same (e _ (.inl (.inr (.inr (.inr (.inl rfl))))))⟩
theorem Raw.lt (h:Raw w X st c fa k fc V nm):∀b,(FS X fa b∨At X.ad b)→b<w.heap.size:=by
 obtain⟨o,f,m⟩:=h.mem;rintro b ((rfl|rfl|rfl|rfl|e)|e)
 ·exact h.blk.lt
 ·exact m.ltP
 ·exact m.ltR
 ·exact h.map.lt
 ·exact(h.fre.block b e).2
 ·exact(h.own.block b e).2
theorem Raw.new (h:Raw w X st c fa k fc V nm) (o:Obj):Raw (w.alloc o) X st c fa k fc V nm:=h.kept fun b hb=>Below.heap_alloc _ _ _ (h.lt b hb)
theorem Raw.drew (h:Raw w X st c fa k fc V nm):Raw w.drew X st c fa k fc V nm:=h.kept fun _ _=>rfl
theorem Raw.tb (h:Raw w X st c fa k fc V nm) (b:Bd X):∃o f,Tb.Sys w X.P X.R (2*X.room+4*X.lines) X.S 0 (2*X.room) c o f:=by
 obtain⟨o,f,m⟩:=h.mem;obtain⟨cs,hb,hs,hc⟩:=h.blk;have r1:=b.room1;have r2:=b.room2;have l2:=b.lines2;exact⟨o,f,m,⟨cs,hb,hc 20 (by omega),hc 21 (by omega),hc 22 (by omega)⟩,by omega,by omega,by omega⟩
theorem Raw.ch (h:Raw w X st c fa k fc V nm) (b:Bd X) (fit:Ch.U64 c):∃o f,Ch.Sys w X.P X.R (2*X.room+4*X.lines) X.S (2*X.room) X.lines c o f:=by
 obtain⟨o,f,m⟩:=h.mem;obtain⟨cs,hb,hs,hc⟩:=h.blk;have r2:=b.room2;have l1:=b.lines1;have l2:=b.lines2;exact⟨o,f,m,⟨cs,hb,hc 24 (by omega),hc 25 (by omega),hc 26 (by omega)⟩,by omega,by omega,by omega,fit⟩
theorem Raw.cells (h:Raw w X st c fa k fc V nm){c':Nat→Int}{o f:Int}(g:Went (fun k=>k=X.P∨k=X.R∨w.heap.size≤k) w w') (m:IsMem w' X.P X.R (2*X.room+4*X.lines) c' o f):Raw w' X st c' fa k fc V nm∧Went (FS X fa) w w':=by
 obtain⟨a1,a2,a3,a4,a5,a6,a7,a8,a9,f1,f2,f3,f4,f5⟩:=h.apart;have keep:∀b,b<w.heap.size→b≠X.P→b≠X.R→w'.heap[b]? = w.heap[b]?:=fun b hb h1 h2=>g.block b hb fun e=>by rcases e with e|e|e <;> omega
 refine⟨⟨h.blk.of_block (keep _ h.blk.lt a1 a2),⟨o,f,m⟩,h.own.kept fun b hb=>keep b (h.own.block b hb).2 (fun e=>a7 (e ▸ hb)) (fun e=>a8 (e ▸ hb)),h.fre.kept fun b hb=>keep b (h.fre.block b hb).2 (fun e=>f2 (e ▸ hb)) (fun e=>f3 (e ▸ hb)),h.map.same (keep _ h.map.lt a4 a5)⟩,g.os,g.tape,g.output,g.size,fun b hb hn=>keep b hb (fun e=>hn (.inr (.inl e))) fun e=>hn (.inr (.inr (.inl e)))⟩
theorem Raw.named (h:Raw w X st c fa k fc V nm){nm':Int→Option Int}(t:Turned X.mp w w') (m:IsMap w' X.mp nm'):Raw w' X st c fa k fc V nm'∧Went (FS X fa) w w':=by
 obtain⟨a1,a2,a3,a4,a5,a6,a7,a8,a9,f1,f2,f3,f4,f5⟩:=h.apart;obtain⟨o,f,mm⟩:=h.mem;exact⟨⟨h.blk.of_block (t.block _ a3),⟨o,f,mm.of_blocks (t.block _ a4.symm) (t.block _ a5.symm)⟩,h.own.kept fun b hb=>t.block b fun e=>a9 (e ▸ hb),h.fre.kept fun b hb=>t.block b fun e=>f4 (e ▸ hb),m⟩,t.os,t.tape,t.output,Nat.le_of_eq t.size.symm,fun b _ hn=>t.block b fun e=>hn (.inr (.inr (.inr (.inl e))))⟩
theorem Raw.cut (h:Raw w X st c fa k fc V nm){j:Nat}(hj:j≤k):Raw (w.setCell ⟨X.S,19,none⟩ (.slice fa j fc)) X st c fa j fc V nm∧Went (FS X fa) w (w.setCell ⟨X.S,19,none⟩ (.slice fa j fc)):=by
 obtain⟨a1,a2,a3,a4,a5,a6,a7,a8,a9,f1,f2,f3,f4,f5⟩:=h.apart;obtain⟨o,f,mm⟩:=h.mem;have kp:∀b,b≠X.S→(w.setCell ⟨X.S,19,none⟩ (.slice fa j fc)).heap[b]? = w.heap[b]?:=fun b e=>Below.heap_setCell _ _ _ _ e
 exact⟨⟨(h.blk.set 19 (.slice fa j fc)).congr fun i _=>stCell_19 X.n X.v X.l X.room X.ad X.W X.cap fa fa k j fc fc X.P X.mp X.lines X.on st i,⟨o,f,mm.of_blocks (kp _ a1.symm) (kp _ a2.symm)⟩,h.own.kept fun b hb=>kp b fun e=>a6 (e ▸ hb),(h.fre.cut hj).kept fun b hb=>kp b fun e=>f1 (e ▸ hb),h.map.same (kp _ a3.symm)⟩,Went.set (.inl rfl) _ _⟩
theorem Raw.told (h:Raw w X st c fa k fc V nm) (st':Bool):Raw (w.setCell ⟨X.S,28,none⟩ (.bool st')) X st' c fa k fc V nm∧Went (FS X fa) w (w.setCell ⟨X.S,28,none⟩ (.bool st')):=by
 obtain⟨a1,a2,a3,a4,a5,a6,a7,a8,a9,f1,f2,f3,f4,f5⟩:=h.apart;obtain⟨o,f,mm⟩:=h.mem;have kp:∀b,b≠X.S→(w.setCell ⟨X.S,28,none⟩ (.bool st')).heap[b]? = w.heap[b]?:=fun b e=>Below.heap_setCell _ _ _ _ e
 exact⟨⟨(h.blk.set 28 (.bool st')).congr fun i hi=>stCell_28 X.n X.v X.l X.room X.ad X.W X.cap fa k fc X.P X.mp X.lines X.on st st' i hi,⟨o,f,mm.of_blocks (kp _ a1.symm) (kp _ a2.symm)⟩,h.own.kept fun b hb=>kp b fun e=>a6 (e ▸ hb),h.fre.kept fun b hb=>kp b fun e=>f1 (e ▸ hb),h.map.same (kp _ a3.symm)⟩,Went.set (.inl rfl) _ _⟩
theorem clr_fit {c:Nat→Int}(fit:Ch.U64 c) (n:Nat):Ch.U64 (Tb.clr 0 c n):=fun j=>by
 unfold Tb.clr;split
 ·omega
 ·exact fit j
theorem clr_at {c:Nat→Int}{n s:Nat}(h:s<n):Tb.clr 0 c n s=0:=by unfold Tb.clr;rw[if_pos (by omega)]
set_option maxRecDepth 100000 in
set_option maxHeartbeats 4000000 in
theorem settle_raw (h:Raw w X st c fa k fc V nm) (b:Bd X) (wds:Wds X.W X.wd) (fit:Ch.U64 c) :
  Calls Tryz.prog 118 #[.pointer (some ⟨X.S,0,none⟩)] w fun e w'=>e = .returned (.tuple #[])∧∃c' nm',Raw w' X false c' fa k fc V nm'∧RpP X.W X.room X.lines X.wd X.W c' nm'∧Went (FS X fa) w w':=by
 have f28:=h.blk.frozen 28;have c28:=h.blk.cell (i:=28) (by omega);obtain⟨ad0,had⟩:∃a,X.ad=a:=⟨_,rfl⟩
 have hadA:Aside (X.ad=ad0):=had;obtain⟨h1,g1⟩:=h.told false;have g1A:Aside (Went (FS X fa) w (w.setCell ⟨X.S,28,none⟩ (.bool false))):=g1;obtain⟨o1,f1,t1⟩:=h1.tb b;have KT:=Tb.clear_any t1;have bA:Aside (Bd X):=b;have wdsA:Aside (Wds X.W X.wd):=wds;have fitA:Aside (Ch.U64 c):=fit;have r1A:Aside (1≤X.room):=b.room1;have hW:X.W≤32768:=by have:=b.wide;have:=b.room2;omega
 have hmf:∀(fn:Fn) (first cap:Array Value) (w:World),(Instr.makeFunc fn first cap).run Tryz.prog w = .ok (.func fn first cap) w:=fun _ _ _ _=>rfl
 clear h fit t1 wds b g1 had;go_enter Tryz.func118,Tryz.ntmps118
 go_wp2_with (first
  | (go_at_call 139;refine KT.mono ?_;clear KT;rintro e w2 ⟨rfl,⟨o2,s2⟩,m2⟩;obtain⟨h2,g2⟩:=h1.cells (Went.of_moved m2 (.inl rfl) (.inr (.inl rfl))) s2.mem;have g2A:Aside (Went (FS X fa) w w2):=g1A.out.trans g2;obtain⟨o3,f3,s3⟩:=h2.ch bA.out (clr_fit fitA.out _);have KC:=Ch.clear_any s3;clear m2 s2 s3 h1 g2 c28 f28)
  | (go_at_call 140;refine KC.mono ?_;clear KC;rintro e w3 ⟨rfl,⟨c3,o4,f4,s4,z4,e4⟩,m4⟩;obtain⟨h3,g3⟩:=h2.cells (Went.of_moved m4 (.inl rfl) (.inr (.inl rfl))) s4.mem;obtain⟨w4,hr4,mm4,t4⟩:=map_clear h3.map;obtain⟨h4,g4⟩:=h3.named t4 mm4;have g4A:Aside (Went (FS X fa) w w4):=(g2A.out.trans g3).trans g4;have c23:w3.cell? ⟨X.S,23,none⟩=some (.map (some X.mp)):=h3.blk.cell (i:=23) (by omega);have p3:Aside (RpP X.W X.room X.lines X.wd 0 c3 (fun _=>none)):=RpP.start c3 s4.fit z4 (fun s hs=>(e4 s hs).trans (clr_at hs)) r1A.out;have c18:w4.cell? ⟨X.S,18,none⟩=some (.slice ad0 X.W X.cap):=hadA.out ▸ h4.blk.cell (i:=18) (by omega);have h4A:Aside (Raw w4 X false c3 fa k fc V (fun _=>none)):=h4;clear m4 s4 z4 e4 h2 g3 g4 mm4 t4 h3 h4 g2A))
 clear hr4 c23 c18;go_loopg [27,2,3,4,5,6] X.W (fun g si _ _ _ _ _ wr=>∃(j:Nat),j+g=X.W∧si = .int .i64 (j:Int)∧Aside (∃c' nm',Raw wr X false c' fa k fc V nm'∧RpP X.W X.room X.lines X.wd j c' nm')∧Aside (Went (FS X fa) w wr))
 case atStart=>exact⟨0,by omega,rfl,⟨_,_,h4A.out,p3.out⟩,g4A⟩
 case round =>
  obtain⟨j,hj,rfl,hI,hG⟩:=hrel;obtain⟨c',nm',raw,p⟩:=hI.out;have hJ:Aside (j+gk=X.W):=hj;have hjW:j≤X.W:=by omega
  have hGA:Aside (Went (FS X fa) w wr):=hG;clear hj hI hG h4A g4A p3;by_cases hlt:j<X.W
  ·have hlt':(j:Int)<(X.W:Int):=by omega
   have hji:¬(X.W:Int)≤(j:Int):=by omega
   have own:=raw.own;rw[hadA.out]at own;obtain⟨g,rfl⟩:=own.form (by omega);have cw:=own.cell hlt;clear own;have hd:=wdsA.out.fit j hlt;have hltA:Aside (j<X.W):=hlt;by_cases hz:X.wd j=0
   ·rw[hz]at cw;have pA:Aside (RpP X.W X.room X.lines X.wd (j+1) c' nm'):=p.free hz;have rawA:Aside (Raw wr X false c' fa k fc V nm'):=raw;clear raw p hz hd
    go_wp2
    go_roundg (gk-1)
    case measure=>have:=hJ.out;have:=hltA.out;omega
    case rel =>
     have:=hJ.out;have:=hltA.out;exact⟨j+1,by omega,by go_num,⟨c',nm',rawA.out,pA.out⟩,hGA.out⟩
   ·obtain⟨z,hzz⟩:∃z,X.wd j=z:=⟨_,rfl⟩
    have hzA:Aside (X.wd j=z):=hzz;rw[hzz]at hd hz cw;clear hzz;have hz0:0<z:=by omega
    have hwj:IntKind.u32.wrap (j:Int)=(j:Int):=by rw[IntKind.wrap_u32];omega
    have hwj2:IntKind.u32.wrap (2+(j:Int))=2+(j:Int):=by rw[IntKind.wrap_u32];omega
    obtain⟨o,f0,ht⟩:=raw.tb bA.out;have K1:=Tb.find_any ht z (by omega) (by omega);obtain⟨A,hA⟩:∃A,wr.heap.size=A:=⟨_,rfl⟩
    rw[hA]at K1;have hH':Aside (wr.heap.size=A):=hA;clear hA;have hT:Aside (∀(t:Nat→Int) (Y:Tb.Fd),Y.st=0→Y.key=z→Tb.FI (2*X.room) t Y→Tb.Solo (2*X.room) c' t Y→Y.tells=((Y.slot:Int),0)∧Y.slot<2*X.room∧c' Y.slot=0∧t=upd c' Y.slot z):=fun t Y y0 yk fi so=>by
     have r1:=bA.out.room1;have no:=p.no wdsA.out hlt (by rw[hzA.out];exact hz);rw[hzA.out]at no;obtain⟨e1,e2,e3,e4,e5⟩:=so.room fi (by omega) y0 (by rw[yk];exact no) (by rw[p.cnt];have:=cntP_le X.W X.wd j;have:=bA.out.wide;omega);rw[yk]at e5;exact⟨by unfold Tb.Fd.tells;rw[if_pos e1],e3,e4,e5⟩
    have rawA:Aside (Raw wr X false c' fa k fc V nm'):=raw;have pA:Aside (RpP X.W X.room X.lines X.wd j c' nm'):=p;clear raw p
    go_wp2_with (first
     | (go_at_call 141;refine K1.mono ?_;clear K1;rintro e w1' ⟨rfl,b1,c1,s1⟩;rw[← hH'.out]at c1;have ht1:=ht.below c1;have K2:=drive_find (t0:=c') (t:=c') ht1 b1 (fun i=>by rw[Nat.zero_add]) (Tb.FI.start ht.pos c' (by omega)) pA.out.good (Tb.Solo.start _ _ _))
     | (go_at_call 142;refine K2.mono ?_;clear K2;rintro e w2' ⟨rfl,c2,o2',f2',t2,Y,ht2,ct2,cb2,b2,y0,yk,fi,gd,so,d2⟩;obtain⟨r1,r2,r3,r4⟩:=hT.out t2 Y y0 yk fi so;clear y0 yk fi so;have K3:=Tb.slot_any b2;rw[r1]at K3;clear r1)
     | (go_at_call 144;refine K3.mono ?_;clear K3;rintro e w2' ⟨rfl,rfl⟩;have g:Went (fun k=>k=X.P∨k=X.R∨wr.heap.size≤k) wr w2':=⟨d2.os.trans c1.os,d2.tape.trans c1.tape,d2.output.trans c1.output,Nat.le_trans c1.size d2.size,fun i hi hn=>(d2.block i (Nat.lt_of_lt_of_le hi c1.size) fun e=>hn (by rcases e with e|e|e;exact .inl e;exact .inr (.inl e);have:=hH'.out;exact .inr (.inr (by omega)))).trans (c1.block i hi)⟩;obtain⟨raw2,g2⟩:=rawA.out.cells g ht2.mem;have c23:w2'.cell? ⟨X.S,23,none⟩=some (.map (some X.mp)):=raw2.blk.cell (i:=23) (by omega);obtain⟨u3,hr3,m3,t3⟩:=map_put raw2.map (Y.slot:Int) (2+(j:Int))))
    obtain⟨raw3,g3⟩:=raw2.named t3 m3;rw[show (2:Int)+(j:Int)=((j+2:Nat):Int) by omega]at raw3;have htc:t2=c2:=by
     funext i;have:=ct2 i;rw[Nat.zero_add]at this;exact this.symm
    subst htc;have p3:Aside (RpP X.W X.room X.lines X.wd (j+1) t2 (at1 nm' (Y.slot:Int) (some ((j+2:Nat):Int)))):=pA.out.lay wdsA.out hlt (by rw[hzA.out];exact hz) r2 r3 (fun i hi=>by rw[r4,hzA.out]) (fun i hi=>cb2 i (.inr (by omega))) gd;go_roundg (gk-1)
    case measure=>have:=hJ.out;have:=hltA.out;omega
    case rel =>
     have:=hJ.out;have:=hltA.out;exact⟨j+1,by omega,by go_num,⟨_,_,raw3,p3.out⟩,(hGA.out.trans g2).trans g3⟩
  ·obtain rfl:j=X.W:=by omega
   have finA:Aside (Raw wr X false c' fa k fc V nm'∧RpP X.W X.room X.lines X.wd X.W c' nm'):=⟨raw,p⟩
   clear raw p
   go_wp2
   go_end0
   exact⟨rfl,c',nm',finA.out.1,finA.out.2,hGA.out⟩
end
section
variable {w w':World}{S:Nat}{M:Mdl}{I:Ins}
def fxI (S:Nat) (M:Mdl) (I:Ins):Fx:=⟨S,M.n,M.room,I.W,I.cap,I.P,I.R,I.mp,I.lines,M.v,I.l,I.ad,I.on,I.wd⟩
theorem StI.raw (h:StI w S M I):Raw w (fxI S M I) I.st I.c I.fa I.fr.length I.fc (fun i=>.int .u32 (I.fr.getD i 0:Nat)) I.nm:=⟨h.blk,h.mem,h.own,h.fre,h.map⟩
theorem Pu.bd (p:Pu M I):Bd (fxI S M I):=⟨p.room1,p.room2,p.lines1,p.lines2,p.wide⟩
theorem settle_any (h:StI w S M I) :
  Calls Tryz.prog 118 #[.pointer (some ⟨S,0,none⟩)] w fun e w'=>e = .returned (.tuple #[])∧∃I',StI w' S M I'∧I'.st=false∧Fp S I'=Fp S I∧Wf (Fp S I) (Fp S I) w w':=by
 refine(settle_raw h.raw h.pu.bd h.pu.wds h.pu.fit).mono ?_;rintro e w' ⟨rfl,c',nm',r,q,g⟩;obtain⟨p1,p2⟩:=RpP.full h.pu (st:=false) q;refine⟨rfl,I.anew false c' nm',⟨r.blk,r.mem,r.own,r.fre,r.map,p1,fun _=>p2⟩,rfl,rfl,g.os,g.tape,g.output,g.size,fun b hb hf=>g.block b hb fun e=>hf ?_,fun b hb=>.inl hb⟩;rcases e with e|e|e|e|e
 ·exact .inl e
 ·exact .inr (.inl e)
 ·exact .inr (.inr (.inl e))
 ·exact .inr (.inr (.inr (.inl e)))
 ·exact .inr (.inr (.inr (.inr (.inr e))))
end
end Go.Proofs.YtnnmdkaoiofabaaGreat
namespace Go.Proofs.YtnnmdkaoiofabaaGreat
open Go Go.RowKit
def Mdl.addAt (M:Mdl) (x:Nat) (d:Nd):Mdl:=⟨M.n,M.v,M.room,M.hs.filter (fun y=>decide (y<x)) ++ x :: M.hs.filter (fun y=>decide (x<y)),fun y=>if y=x then d else M.nd y⟩
def Ins.grown (I:Ins) (x:Nat) (k:Int) (s:Nat) (ad':Option Addr) (cap' W':Nat) (fa':Option Addr) (fc':Nat) (fr':List Nat) (c':Nat→Int):Ins:=⟨I.P,I.R,I.mp,ad',cap',W',fa',fc',fr',I.lines,c',fun i=>if i=x-2 then k else I.wd i,at1 I.nm (s:Int) (some (x:Int)),I.l,I.on,I.st⟩
theorem filter_two (l:List Nat) (x:Nat) (h:x ∉ l):(l.filter (fun y=>decide (y<x))).length+(l.filter (fun y=>decide (x<y))).length=l.length:=by
 induction l with
 | nil=>rfl
 | cons a l ih =>
  have hl:x ∉ l:=fun e=>h (List.mem_cons_of_mem _ e)
  have ha:a≠x:=fun e=>h (by simp[e])
  have:=ih hl;by_cases c:a<x
  ·rw[List.filter_cons_of_pos (by simpa using c),List.filter_cons_of_neg (by simp;omega)];simp only[List.length_cons];omega
  ·rw[List.filter_cons_of_neg (by simpa using c),List.filter_cons_of_pos (by simp;omega)];simp only[List.length_cons];omega
structure Nx (M:Mdl) (I:Ins) (x W':Nat) (fr':List Nat):Prop where
 new:x ∉ M.hs
 x2:2≤x
 xW:x<2+W'
 old:∀i,i<W'→i≠x-2→i<I.W
 grow:I.W≤W'
 wide:W'≤M.room
 fall:fr'.Pairwise (· > ·)
 frs:∀y,y∈fr'↔2≤y∧y<2+W'∧y≠x∧y ∉ M.hs
 both:M.hs.length+1+fr'.length=W'
section
variable {w w':World}{S:Nat}{M:Mdl}{I:Ins}{d:Nd}
theorem Mdl.adds {x:Nat}(hx:x ∉ M.hs):M.Adds x d (M.addAt x d):=
 ⟨rfl,rfl,rfl,hx,fun k=>by
  simp only[Mdl.addAt,List.mem_append,List.mem_cons,List.mem_filter,decide_eq_true_eq];constructor
  ·rintro(h|h|h)
   ·exact .inr h.1
   ·exact .inl h
   ·exact .inr h.1
  ·rintro(h|h)
   ·exact .inr (.inl h)
   ·rcases Nat.lt_trichotomy k x with c|c|c
    ·exact .inl ⟨h,c⟩
    ·exact .inr (.inl c)
    ·exact .inr (.inr ⟨h,c⟩),by
  have:=filter_two M.hs x hx;simp only[Mdl.addAt,List.length_append,List.length_cons];omega,fun _=>rfl⟩
theorem Mdl.addAt_sorted (o:M.Ok) (x:Nat):(M.addAt x d).hs.Pairwise (· < ·):=by
 show (M.hs.filter (fun y=>decide (y<x)) ++ x :: M.hs.filter (fun y=>decide (x<y))).Pairwise (· < ·);rw[List.pairwise_append];refine⟨o.sorted.filter _,List.pairwise_cons.2 ⟨fun b hb=>by simpa using(List.mem_filter.1 hb).2,o.sorted.filter _⟩,fun a ha b hb=>?_⟩;have h1:a<x:=by simpa using(List.mem_filter.1 ha).2
 rcases List.mem_cons.1 hb with rfl|hb
 ·exact h1
 ·have h2:x<b:=by simpa using(List.mem_filter.1 hb).2
  omega
theorem Pu.next (p:Pu M I) (room:M.hs.length<M.room):(I.fr=[]∧Nx M I (I.W+2) (I.W+1) [])∨∃x fr',I.fr=fr' ++ [x]∧Nx M I x I.W fr':=by
 have b:=p.both;rcases List.eq_nil_or_concat I.fr with e|⟨fr',x,e⟩
 ·left;have hW:M.hs.length=I.W:=by rw[e]at b;simpa using b
  have full:∀y,2≤y→y<2+I.W→y∈M.hs:=fun y h1 h2=>by
   cases Classical.em (y∈M.hs) with
   | inl h=>exact h
   | inr h =>
    have:=(p.frs y).2 ⟨h1,h2,h⟩;rw[e]at this;cases this
  refine⟨e,⟨fun h=>by have:=p.top _ h;omega,by omega,by omega,fun i h1 h2=>by omega,by omega,by omega,by simp,fun y=>?_,by simp;omega⟩⟩;constructor
  ·intro h;cases h
  ·rintro⟨h1,h2,h3,h4⟩;exact absurd (full y h1 (by omega)) h4
 ·right;have e':I.fr=fr' ++ [x]:=by simpa using e
  have hx:=(p.frs x).1 (by rw[e'];simp);have hf:=p.fall;rw[e',List.pairwise_append]at hf;rw[e']at b;refine⟨x,fr',e',⟨hx.2.2,hx.1,hx.2.1,fun i h1 _=>h1,Nat.le_refl _,p.wide,hf.1,fun y=>?_,by simp at b;omega⟩⟩;have hy:=p.frs y;rw[e',List.mem_append,List.mem_singleton]at hy;constructor
  ·intro h;obtain⟨a1,a2,a3⟩:=hy.1 (.inl h);have:=hf.2.2 y h x (by simp);exact⟨a1,a2,by omega,a3⟩
  ·rintro⟨a1,a2,a3,a4⟩;exact(hy.2 ⟨a1,a2,a4⟩).resolve_right a3
theorem Pu.word_of (p:Pu M I) (f:M.Fits d){x:Nat}(hm:x∈M.hs) (e:ndZ d=ndZ (M.nd x)):M.nd x=d:=by
 obtain⟨e1,e2,e3⟩:=nodeZ_inj (Mdl.isNode_lt p.ok f.lo.1) (Mdl.isNode_lt p.ok f.hi.1) (Mdl.isNode_lt p.ok (p.ok.lo _ hm).1) (Mdl.isNode_lt p.ok (p.ok.hi _ hm).1) e;exact(Prod.ext e1 (Prod.ext e2 e3)).symm
theorem Pu.fits_word (p:Pu M I) (f:M.Fits d):0<ndZ d∧ndZ d≤18446744073709551615:=
 ⟨nodeZ_pos (Mdl.isNode_lt p.ok f.lo.1) (Mdl.isNode_lt p.ok f.hi.1) f.ne,(nodeZ_bd _ _ _ (by have:=f.lv;have:=p.ok.le8;omega)).2⟩
theorem Pu.no_slot (p:Pu M I) (pt:Pt M I) (f:M.Fits d) (no:∀k∈M.hs,M.nd k≠d):∀s,s<2*M.room→¬I.c s=ndZ d:=fun s hs e=>by
 have h0:¬I.c s=0:=by have:=(p.fits_word f).1;omega
 obtain⟨x,hx,e1,_⟩:=pt.tab s hs h0;exact no x hx (p.word_of f hx (e.symm.trans e1))
theorem Pu.add (p:Pu M I) (pt:Pt M I) (f:M.Fits d) (no:∀k∈M.hs,M.nd k≠d) (room:M.hs.length<M.room){x W':Nat}{fr':List Nat}(nx:Nx M I x W' fr'){s:Nat}(hs:s<2*M.room) (h0:I.c s=0){c':Nat→Int}(hc:∀j,j<2*M.room→c' j=upd I.c s (ndZ d) j) (hh:∀j,2*M.room≤j→c' j=I.c j) (fit:Ch.U64 c') (good:Tb.Good (2*M.room) c') (ad':Option Addr) (cap':Nat) (fa':Option Addr) (fc':Nat):Pu (M.addAt x d) (I.grown x (ndZ d) s ad' cap' W' fa' fc' fr' c')∧Pt (M.addAt x d) (I.grown x (ndZ d) s ad' cap' W' fa' fc' fr' c'):=by
 have k0:=(p.fits_word f).1;have ad:=M.adds (d:=d) nx.new;have hx2:=nx.x2;have hxW:=nx.xW;have hr2:=p.room2;have hwd:=nx.wide;have ndx:(M.addAt x d).nd x=d:=if_pos rfl;have ndo:∀y,y≠x→(M.addAt x d).nd y=M.nd y:=fun y e=>if_neg e
 have ndm:∀y,y∈M.hs→(M.addAt x d).nd y=M.nd y:=fun y e=>ndo y fun q=>nx.new (q ▸ e)
 have cs:∀j,j<2*M.room→j≠s→c' j=I.c j:=fun j hj e=>by rw[hc j hj,Tb.upd_other _ _ e]
 have css:c' s=ndZ d:=by rw[hc s hs,Tb.upd_same]
 refine⟨⟨p.ok.adds ad f no (by omega) room (Mdl.addAt_sorted p.ok x),p.inv,p.room1,p.room2,p.lines1,p.lines2,nx.wide,fun y hy=>?_,fun i hi=>?_,nx.fall,fun y=>?_,?_,fit⟩,good,fun j hj e=>?_,fun y hy=>?_,?_,fun key q0 q1 hk=>?_⟩
 ·show y<2+W';rcases(ad.mem y).1 hy with rfl|h
  ·exact hxW
  ·have:=p.top y h;have:=nx.grow;omega
 ·change i<W' at hi;show (if i=x-2 then ndZ d else I.wd i)=(M.addAt x d).wz (i+2);by_cases e:i=x-2
  ·rw[if_pos e,show i+2=x by omega,Mdl.wz_in ((ad.mem x).2 (.inl rfl)),ndx]
  ·rw[if_neg e,p.wd i (nx.old i hi e)];by_cases m:i+2∈M.hs
   ·rw[Mdl.wz_in m,Mdl.wz_in ((ad.mem _).2 (.inr m)),ndm _ m]
   ·rw[Mdl.wz_no m,Mdl.wz_no fun q=>((ad.mem _).1 q).elim (fun q=>by omega) m]
 ·show y∈fr'↔2≤y∧y<2+W'∧y ∉ (M.addAt x d).hs;rw[nx.frs y,ad.mem y,not_or]
 ·show (M.addAt x d).hs.length+fr'.length=W';rw[ad.len];exact nx.both
 ·change ¬c' j=0 at e;by_cases ej:j=s
  ·exact⟨x,(ad.mem x).2 (.inl rfl),by rw[ej,ndx];exact css,by rw[ej];show at1 I.nm _ _ _=_;unfold at1;rw[if_pos rfl]⟩
  ·rw[cs j hj ej]at e;obtain⟨y,hy,e1,e2⟩:=pt.tab j hj e;exact⟨y,(ad.mem y).2 (.inr hy),by rw[ndm y hy];exact(cs j hj ej).trans e1,by show at1 I.nm _ _ _=_;unfold at1;rw[if_neg (by omega),e2]⟩
 ·rcases(ad.mem y).1 hy with rfl|h
  ·exact⟨s,hs,by rw[ndx];exact css⟩
  ·obtain⟨j,hj,e1⟩:=pt.all y h;have hjs:j≠s:=fun q=>by
    have:=(p.word_bd h).1;rw[q,h0]at e1;omega
   exact⟨j,hj,by rw[ndm y h];exact(cs j hj hjs).trans e1⟩
 ·rw[ad.len,← pt.cnt];show Tb.cnt c' (2*M.room)=_;rw[Tb.cnt_congr _ hc,Tb.cnt_upd _ hs h0 (by omega)]
 ·have low:=line_low (2*M.room) I.lines key;change Ch.Hits c' (Ch.line (2*M.room) I.lines key) key at hk;rw[Ch.hits_congr (fun j h1 _=>hh j (by omega))]at hk;obtain⟨y,hy,e1,e2⟩:=pt.cch key q0 q1 hk;refine⟨y,(ad.mem y).2 (.inr hy),by rw[ndm y hy];exact e1,?_⟩;show Ch.jn (Ch.lo (c' (Ch.line (2*M.room) I.lines key+2))) (Ch.lo (c' (Ch.line (2*M.room) I.lines key+3)))=_;rw[hh _ (by omega),hh _ (by omega),e2]
theorem getD_init (l:List Nat) (x i:Nat) (h:i<l.length):(l ++ [x]).getD i 0=l.getD i 0:=by rw[getD_snoc,if_neg (by omega)]
theorem name_next (p:Pu M I) (room:M.hs.length<M.room) (hb:w.rowIs S 92 29 (stCell M.n M.v I.l M.room I.ad I.W I.cap I.fa I.fr.length I.fc I.P I.mp I.lines I.on I.st)) (own:OwnR 22 w 0 I.ad I.W I.cap (fun i=>.int .u64 (I.wd i))) (fre:OwnR 36 w 0 I.fa I.fr.length I.fc (fun i=>.int .u32 (I.fr.getD i 0:Nat))) (map:IsMap w I.mp I.nm) (s:Nat) (z:Int) :
  Calls Tryz.prog 150 #[.pointer (some ⟨S,0,none⟩),.int .i64 (s:Int),.int .u64 z] w fun e w'=>e = .returned (.tuple #[])∧∃x W' fr' ad' cap' fa' fc',Nx M I x W' fr'∧w'.rowIs S 92 29 (stCell M.n M.v I.l M.room ad' W' cap' fa' fr'.length fc' I.P I.mp I.lines I.on I.st)∧OwnR 22 w' 0 ad' W' cap' (fun i=>.int .u64 (if i=x-2 then z else I.wd i))∧OwnR 36 w' 0 fa' fr'.length fc' (fun i=>.int .u32 (fr'.getD i 0:Nat))∧IsMap w' I.mp (at1 I.nm (s:Int) (some (x:Int)))∧Went (fun b=>b=S∨b=I.mp∨At I.ad b∨At I.fa b) w w'∧(∀b,At ad' b→At I.ad b∨w.heap.size≤b)∧∀b,At fa' b→At I.fa b∨w.heap.size≤b:=by
 have hW:=p.lenW;rcases p.next room with ⟨e,nx⟩|⟨x,fr',e,nx⟩
 ·rw[e]at hb fre;refine(name_fresh (z:=z) (s:=s) hb own fre map hW).mono ?_;rintro e' w' ⟨rfl,g,cap',f,fc',q1,q2,q3,q4,q5,q6,q7⟩;refine⟨rfl,I.W+2,I.W+1,[],_,cap',_,fc',nx,q1,q2.congr fun i _=>by simp,q3.congr fun i hi=>absurd hi (Nat.not_lt_zero _),q4,q5,?_,?_⟩
  ·rintro b ⟨a,ha,rfl⟩;cases ha;exact q6
  ·rintro b ⟨a,ha,rfl⟩;cases ha;exact q7
 ·have hl:I.fr.length=fr'.length+1:=by rw[e];simp
  rw[hl]at hb fre;have hb3:=p.both;refine(name_again (x:=x) (z:=z) (s:=s) hb own fre map (by omega) (by rw[e,getD_snoc,if_pos rfl]) nx.x2 nx.xW hW).mono ?_;rintro e' w' ⟨rfl,q1,q2,q3,q4,q5⟩;exact⟨rfl,x,I.W,fr',_,_,_,_,nx,q1,q2,q3.congr fun i hi=>by rw[e,getD_init _ _ _ hi],q4,q5.wider fun b e=>e.imp id fun e=>e.imp id .inl,fun b hb=>.inl hb,fun b hb=>.inl hb⟩
theorem find_full_there (h:StI w S M I) (hst:I.st=false) (f:M.Fits d) (x:Nat) (hx:x∈M.hs) (e:M.nd x=d) (full:M.hs.length=M.room) :
  Calls Tryz.prog 120 #[.pointer (some ⟨S,0,none⟩),.int .u64 (ndZ d)] w fun e w'=>e = .returned (.tuple #[.int .u32 (x:Int),.int .i64 0])∧StI w' S M I∧Wf (Fp S I) (Fp S I) w w':=by
 obtain⟨k0,k1⟩:=h.pu.fits_word f;have hwd:ndZ (M.nd x)=ndZ d:=by rw[e]
 have cS:∀q,(w.drewN q).cell? ⟨S,17,none⟩=some (.int .i64 (M.room:Int)):=fun q=>(h.drewN q).c17
 have KL:∀q,Calls Tryz.prog 22 #[.pointer (some ⟨S,0,none⟩)] (w.drewN q) fun e w'=>e = .returned (.int .i64 (M.room:Int))∧∃m,w'=(w.drewN q).drewN m:=fun q=>by
  have:=slen_any (h.drewN q);rwa [full]at this
 have hp:=h.pu;have pt:=h.set hst;have c17:=h.c17;have hS:=h;have hT:Aside (∀(y:Int) (ok:Bool),Tb.Told (2*M.room) I.c (ndZ d) y ok→ok=true∧I.nm y=some (x:Int)):=fun y ok t=>by
  obtain⟨s0,hs0,e0⟩:=pt.all x hx;rcases t with ⟨rfl,s,hs,rfl,es⟩|⟨_,_,no⟩
  ·have:=pt.good.one (k:=ndZ d) (by omega) hs hs0 es (by rw[e0,hwd]);subst this;obtain⟨j,hj,e1,e2⟩:=pt.tab s hs (by omega)
   have:j=x:=hp.ok.one j hj x hx (by rw[hp.word_of f hj (es.symm.trans e1),e]);rw[this]at e2;exact⟨rfl,e2⟩
  ·exact absurd (by rw[e0,hwd]) (no (by omega) s0 hs0)
 clear hwd e full hx;go_enter Tryz.func120,Tryz.ntmps120
 go_wp2_with fail
 go_quiet ((go_at_call 22;exact Calls.quiet_of (KL _)))
 have hq:=h.drewN nq;have wq:=(Wf.refl (Fp S I) w).drewN nq;clear cS KL c17 h hS;generalize w.drewN nq=w0 at hq wq ⊢;obtain⟨o,f0,ht⟩:=hq.tb;have K1:=Tb.has_any ht I.c (fun i=>by rw[Nat.zero_add]) (ndZ d) (by omega) k1 pt.good
 go_wp2_with (first
  | (go_at_call 148;refine K1.mono ?_;clear K1;rintro e w1 ⟨y,ok,rfl,told,⟨o1,h1⟩,m1⟩;obtain⟨rfl,hnm⟩:=hT.out y ok told;clear told;obtain⟨s1,s2⟩:=hq.turn (c':=I.c) (Went.of_moved m1 (.inl rfl) (.inr (.inl rfl))) h1.mem hp (fun _=>pt);have c23:=s1.c23;have lk:=map_at s1.map y;have hnm':((I.cells I.c).nm y).getD 0=(x:Int):=by (show (I.nm y).getD 0=_;rw[hnm];rfl)))
 go_ret2
 exact⟨rfl,s1,wq.trans s2⟩
theorem find_there (h:StI w S M I) (hst:I.st=false) (f:M.Fits d) (x:Nat) (hx:x∈M.hs) (e:M.nd x=d) (full:¬M.hs.length=M.room) :
  Calls Tryz.prog 120 #[.pointer (some ⟨S,0,none⟩),.int .u64 (ndZ d)] w fun e w'=>e = .returned (.tuple #[.int .u32 (x:Int),.int .i64 0])∧StI w' S M I∧Wf (Fp S I) (Fp S I) w w':=by
 obtain⟨k0,k1⟩:=h.pu.fits_word f;have hwd:ndZ (M.nd x)=ndZ d:=by rw[e]
 have hne:¬(M.hs.length:Int)=(M.room:Int):=by omega
 have hne':((M.hs.length:Int) == (M.room:Int))=false:=by simpa using hne
 have cS:∀q,(w.drewN q).cell? ⟨S,17,none⟩=some (.int .i64 (M.room:Int)):=fun q=>(h.drewN q).c17
 have KL:∀q,Calls Tryz.prog 22 #[.pointer (some ⟨S,0,none⟩)] (w.drewN q) fun e w'=>e = .returned (.int .i64 (M.hs.length:Int))∧∃m,w'=(w.drewN q).drewN m:=fun q=>slen_any (h.drewN q)
 have hp:=h.pu;have pt:=h.set hst;have c17:=h.c17;have hT:Aside (∀(t:Nat→Int) (X:Tb.Fd),X.st=0→X.key=ndZ d→Tb.FI (2*M.room) t X→Tb.Good (2*M.room) t→Tb.Solo (2*M.room) I.c t X→X.tells=((X.slot:Int),0)∧X.made=false∧t=I.c∧I.nm (X.slot:Int)=some (x:Int)):=fun t X x0 xk fi gd so=>by
  obtain⟨s0,hs0,e0⟩:=pt.all x hx;obtain⟨e1,e2,e3⟩:=so.there fi gd x0 hs0 (by rw[e0,hwd,xk]);subst e3;obtain⟨_,xl,xs⟩:=fi.found e1;have hsl:=fi.slot_lt (by have:=hp.room1;omega) xl;obtain⟨j,hj,q1,q2⟩:=pt.tab X.slot hsl (by rw[xs,xk];omega)
  have:j=x:=hp.ok.one j hj x hx (by rw[hp.word_of f hj (by rw[← q1,xs,xk]),e]);rw[this]at q2;exact⟨by unfold Tb.Fd.tells;rw[if_pos e1],e2,rfl,q2⟩
 have hmf:∀(fn:Fn) (first cap:Array Value) (w:World),(Instr.makeFunc fn first cap).run Tryz.prog w = .ok (.func fn first cap) w:=fun _ _ _ _=>rfl
 clear hwd e full hx;go_enter Tryz.func120,Tryz.ntmps120
 go_wp2_with fail
 go_quiet ((go_at_call 22;exact Calls.quiet_of (KL _)))
 have hq:=h.drewN nq;have wq:=(Wf.refl (Fp S I) w).drewN nq;clear cS KL c17 h;generalize w.drewN nq=w0 at hq wq ⊢;obtain⟨o,f0,ht⟩:=hq.tb;have K1:=Tb.find_any ht (ndZ d) (by omega) k1;generalize hH:w0.heap.size=A at K1;have hH':Aside (w0.heap.size=A):=hH;clear hH
 go_wp2_with (first
  | (go_at_call 141;refine K1.mono ?_;clear K1;rintro e w1 ⟨rfl,a1,b1,s1⟩;rw[← hH'.out]at b1;have ht1:=ht.below b1;have K2:=drive_find (t0:=I.c) (t:=I.c) ht1 a1 (fun i=>by rw[Nat.zero_add]) (Tb.FI.start ht.pos I.c (by omega)) pt.good (Tb.Solo.start _ _ _))
  | (go_at_call 142;refine K2.mono ?_;clear K2;rintro e w2 ⟨rfl,c2,o2,f2,t2,X,ht2,ct2,_,a2,x0,xk,fi,gd,so,b2⟩;obtain⟨q1,q2,q3,q4⟩:=hT.out t2 X x0 xk fi gd so;clear x0 xk fi gd so;have K3:=Tb.slot_any a2;rw[q1]at K3;have K4:=Tb.made_any a2;rw[q2]at K4;clear q1 q2)
  | (go_at_call 144;refine K3.mono ?_;clear K3;rintro e w2 ⟨rfl,rfl⟩)
  | (go_at_call 149;refine K4.mono ?_;clear K4;rintro e w2 ⟨rfl,rfl⟩;have g:Went (fun k=>k=I.P∨k=I.R∨w0.heap.size≤k) w0 w2:=⟨b2.os.trans b1.os,b2.tape.trans b1.tape,b2.output.trans b1.output,Nat.le_trans b1.size b2.size,fun j hj hn=>(b2.block j (Nat.lt_of_lt_of_le hj b1.size) fun e=>hn (by rcases e with e|e|e;exact .inl e;exact .inr (.inl e);have:=hH'.out;exact .inr (.inr (by omega)))).trans (b1.block j hj)⟩;obtain rfl:c2=I.c:=(by (funext j;have:=ct2 j;rw[Nat.zero_add]at this;rw[this,q3]));obtain⟨s1,s2⟩:=hq.turn (c':=I.c) g ht2.mem hp (fun _=>pt);clear q3 ct2;have c23:=s1.c23;have lk:=map_at s1.map (X.slot:Int);have hnm':((I.cells I.c).nm (X.slot:Int)).getD 0=(x:Int):=(by (show (I.nm _).getD 0=_;rw[q4];rfl))))
 go_ret2
 exact⟨rfl,s1,wq.trans s2⟩
theorem find_new (h:StI w S M I) (hst:I.st=false) (f:M.Fits d) (no:∀k∈M.hs,M.nd k≠d) (full:M.hs.length<M.room) :
  Calls Tryz.prog 120 #[.pointer (some ⟨S,0,none⟩),.int .u64 (ndZ d)] w fun e w'=>∃x:Nat,e = .returned (.tuple #[.int .u32 (x:Int),.int .i64 0])∧∃I',x ∉ M.hs∧x≤M.room+1∧I'.st=false∧StI w' S (M.addAt x d) I'∧Wf (Fp S I) (Fp S I') w w':=by
 obtain⟨k0,k1⟩:=h.pu.fits_word f;have hne:¬(M.hs.length:Int)=(M.room:Int):=by omega
 have hne':((M.hs.length:Int) == (M.room:Int))=false:=by simpa using hne
 have cS:∀q,(w.drewN q).cell? ⟨S,17,none⟩=some (.int .i64 (M.room:Int)):=fun q=>(h.drewN q).c17
 have KL:∀q,Calls Tryz.prog 22 #[.pointer (some ⟨S,0,none⟩)] (w.drewN q) fun e w'=>e = .returned (.int .i64 (M.hs.length:Int))∧∃m,w'=(w.drewN q).drewN m:=fun q=>slen_any (h.drewN q)
 have hp:=h.pu;have pt:=h.set hst;have c17:=h.c17;have hln:=hp.len;have hr2:=hp.room2;have hT:Aside (∀(t:Nat→Int) (X:Tb.Fd),X.st=0→X.key=ndZ d→Tb.FI (2*M.room) t X→Tb.Solo (2*M.room) I.c t X→X.tells=((X.slot:Int),0)∧X.made=true∧X.slot<2*M.room∧I.c X.slot=0∧t=upd I.c X.slot (ndZ d)):=fun t X x0 xk fi so=>by
  obtain⟨e1,e2,e3,e4,e5⟩:=so.room fi (by have:=hp.room1;omega) x0 (by rw[xk];exact hp.no_slot pt f no) (by rw[pt.cnt];omega);rw[xk]at e5;exact⟨by unfold Tb.Fd.tells;rw[if_pos e1],e2,e3,e4,e5⟩
 have hmf:∀(fn:Fn) (first cap:Array Value) (w:World),(Instr.makeFunc fn first cap).run Tryz.prog w = .ok (.func fn first cap) w:=fun _ _ _ _=>rfl
 have hno:Aside (∀k∈M.hs,M.nd k≠d):=no;clear no;go_enter Tryz.func120,Tryz.ntmps120
 go_wp2_with fail
 go_quiet ((go_at_call 22;exact Calls.quiet_of (KL _)))
 have hq:=h.drewN nq;have wq:=(Wf.refl (Fp S I) w).drewN nq;clear cS KL c17 h;generalize w.drewN nq=w0 at hq wq ⊢;obtain⟨o,f0,ht⟩:=hq.tb;have K1:=Tb.find_any ht (ndZ d) (by omega) k1;generalize hH:w0.heap.size=A at K1;have hH':Aside (w0.heap.size=A):=hH;clear hH;obtain⟨p1,p2,p3,p4,p5,p6,p7,p8,p9⟩:=hq.apart;obtain⟨f1,f2,f3,f4,f5⟩:=hq.apartF
 go_wp2_with (first
  | (go_at_call 141;refine K1.mono ?_;clear K1;rintro e w1 ⟨rfl,a1,b1,s1⟩;rw[← hH'.out]at b1;have ht1:=ht.below b1;have K2:=drive_find (t0:=I.c) (t:=I.c) ht1 a1 (fun i=>by rw[Nat.zero_add]) (Tb.FI.start ht.pos I.c (by omega)) pt.good (Tb.Solo.start _ _ _))
  | (go_at_call 142;refine K2.mono ?_;clear K2;rintro e w2 ⟨rfl,c2,o2,f2',t2,X,ht2,ct2,cb2,a2,x0,xk,fi,gd,so,b2⟩;obtain⟨q1,q2,q3,q4,q5⟩:=hT.out t2 X x0 xk fi so;clear x0 xk fi so;have K3:=Tb.slot_any a2;rw[q1]at K3;have K4:=Tb.made_any a2;rw[q2]at K4;clear q1 q2)
  | (go_at_call 144;refine K3.mono ?_;clear K3;rintro e w2 ⟨rfl,rfl⟩)
  | (go_at_call 149;refine K4.mono ?_;clear K4;rintro e w2 ⟨rfl,rfl⟩;have g:Went (fun k=>k=I.P∨k=I.R∨w0.heap.size≤k) w0 w2:=⟨b2.os.trans b1.os,b2.tape.trans b1.tape,b2.output.trans b1.output,Nat.le_trans b1.size b2.size,fun j hj hn=>(b2.block j (Nat.lt_of_lt_of_le hj b1.size) fun e=>hn (by rcases e with e|e|e;exact .inl e;exact .inr (.inl e);have:=hH'.out;exact .inr (.inr (by omega)))).trans (b1.block j hj)⟩;have kp:Aside (∀b,b<w0.heap.size→b≠I.P→b≠I.R→w2.heap[b]? = w0.heap[b]?):=(fun b hb h1 h2=>g.block b hb fun e=>by rcases e with e|e|e <;> omega);have blk2:=hq.blk.of_block (kp.out S hq.ltS p1 p2);have own2:=hq.own.kept (w':=w2) fun b hb=>kp.out b (hq.own.block b hb).2 (fun e=>p7 (e ▸ hb)) (fun e=>p8 (e ▸ hb));have fre2:=hq.fre.kept (w':=w2) fun b hb=>kp.out b (hq.fre.block b hb).2 (fun e=>f2 (e ▸ hb)) (fun e=>f3 (e ▸ hb));have map2:=hq.map.same (kp.out I.mp hq.map.lt p4 p5);have K5:=name_next hp full blk2 own2 fre2 map2 X.slot (ndZ d))
  | (go_at_call 150;refine K5.mono ?_;clear K5;rintro e w3 ⟨rfl,x,W',fr',ad3,cap3,fa3,fc3,nx,blk3,own3,fre3,map3,wt3,at3,af3⟩;have c23:w3.cell? ⟨S,23,none⟩=some (.map (some I.mp)):=blk3.cell (i:=23) (by omega);have lk:=map_at map3 (X.slot:Int);have hnm':(at1 I.nm (X.slot:Int) (some (x:Int)) (X.slot:Int)).getD 0=(x:Int):=(by unfold at1;rw[if_pos rfl];rfl)))
 go_ret2
 have ec:∀j,c2 j=upd I.c X.slot (ndZ d) j:=fun j=>by rw[← q5,← ct2 j,Nat.zero_add]
 have hfit:Ch.U64 c2:=fun j=>by
  rw[ec j];unfold upd;split
  ·omega
  ·exact hp.fit j
 have t2c:t2=c2:=by funext j;rw[q5,ec j]
 rw[t2c]at gd;have hpu:=hp.add pt f hno.out full nx q3 q4 (fun j _=>ec j) (fun j hj=>cb2 j (.inr (by omega))) hfit gd ad3 cap3 fa3 fc3;refine⟨x,rfl,I.grown x (ndZ d) X.slot ad3 cap3 W' fa3 fc3 fr' c2,nx.new,by have:=nx.xW;have:=nx.wide;omega,hst,⟨blk3,?_,own3,fre3,map3,hpu.1,fun _=>hpu.2⟩,?_⟩
 ·refine⟨o2,f2',ht2.mem.of_blocks (wt3.block _ ht2.mem.ltP ?_) (wt3.block _ ht2.mem.ltR ?_)⟩
  ·rintro(e|e|e|e)
   ·exact p1 e.symm
   ·exact p4 e.symm
   ·exact p7 e
   ·exact f2 e
  ·rintro(e|e|e|e)
   ·exact p2 e.symm
   ·exact p5 e.symm
   ·exact p8 e
   ·exact f3 e
 ·refine wq.trans ⟨wt3.os.trans g.os,wt3.tape.trans g.tape,wt3.output.trans g.output,Nat.le_trans g.size wt3.size,fun k hk hf=>(wt3.block k (Nat.lt_of_lt_of_le hk g.size) ?_).trans (kp.out k hk (fun e=>hf (.inr (.inl e))) fun e=>hf (.inr (.inr (.inl e)))),fun k hk=>?_⟩
  ·rintro(e|e|e|e)
   ·exact hf (.inl e)
   ·exact hf (.inr (.inr (.inr (.inl e))))
   ·exact hf (.inr (.inr (.inr (.inr (.inl e)))))
   ·exact hf (.inr (.inr (.inr (.inr (.inr e)))))
  ·rcases hk with e|e|e|e|e|e
   ·exact .inl (.inl e)
   ·exact .inl (.inr (.inl e))
   ·exact .inl (.inr (.inr (.inl e)))
   ·exact .inl (.inr (.inr (.inr (.inl e))))
   ·rcases at3 k e with h1|h1
    ·exact .inl (.inr (.inr (.inr (.inr (.inl h1)))))
    ·exact .inr (Nat.le_trans g.size h1)
   ·rcases af3 k e with h1|h1
    ·exact .inl (.inr (.inr (.inr (.inr (.inr h1)))))
    ·exact .inr (Nat.le_trans g.size h1)
end
end Go.Proofs.YtnnmdkaoiofabaaGreat
namespace Go.Proofs.YtnnmdkaoiofabaaGreat
open Go Go.RowKit
section
variable {w w':World}{S:Nat}{M:Mdl}{I:Ins}{d:Nd}
theorem inner_there (h:StI w S M I) (f:M.Fits d) (x:Nat) (hx:x∈M.hs) (e:M.nd x=d) :
  Calls Tryz.prog 100 #[.pointer (some ⟨S,0,none⟩),.int .u64 (ndZ d)] w fun e w'=>e = .returned (.tuple #[.int .u32 (x:Int),.int .i64 0])∧∃I',StI w' S M I'∧Wf (Fp S I) (Fp S I') w w':=by
 obtain⟨k0,k1⟩:=h.pu.fits_word f;have hwd:Aside (ndZ (M.nd x)=ndZ d):=by simp only[Aside];rw[e]
 have hxA:Aside (x∈M.hs):=hx;have F:Aside (∀{w:World} {I:Ins},StI w S M I→I.st=false→Calls Tryz.prog 120 #[.pointer (some ⟨S,0,none⟩),.int .u64 (ndZ d)] w fun e w'=>e = .returned (.tuple #[.int .u32 (x:Int),.int .i64 0])∧StI w' S M I∧Wf (Fp S I) (Fp S I) w w'):=fun {w I} h hst=>by
  by_cases full:M.hs.length=M.room
  ·exact find_full_there h hst f x hx e full
  ·exact find_there h hst f x hx e full
 have hT:Aside (∀y:Nat,y∈M.hs→ndZ d=ndZ (M.nd y)→y=x):=fun y hy ej=>h.pu.ok.one y hy x hx (by rw[h.pu.word_of f hy ej,e])
 have c28:=h.c28;clear e hx;cases hst:I.st with
 | false =>
  rw[hst]at c28;have hsA:Aside (I.st=false):=hst;have K1:=recall_any h hst (ndZ d) (by omega) k1;clear hst;go_enter Tryz.func100,Tryz.ntmps100
  go_wp2_with (first
   | (go_at_call 119;refine K1.mono ?_;clear K1;rintro e w1 ⟨y,ok,rfl,told,h1,b1⟩;have K2:=F.out h1 hsA.out)
   | (go_at_call 120;refine K2.mono ?_;clear K2;rintro e w2 ⟨rfl,h2,b2⟩;have K3:=keep_any h2 hsA.out x hxA.out;rw[hwd.out]at K3)
   | (go_at_call 121;refine K3.mono ?_;clear K3;rintro e w3 ⟨rfl,c3,h3,b3⟩))
  ·go_ret2
   obtain⟨hy,ej⟩:=told.out ‹_›;obtain rfl:=hT.out y hy ej;exact⟨rfl,I,h1,b1⟩
  ·go_ret2
   exact⟨rfl,_,h3,(b1.trans b2).trans b3⟩
 | true =>
  rw[hst]at c28;have K0:=settle_any h;have k1A:Aside (ndZ d≤18446744073709551615):=k1;have k0A:Aside (0≤ndZ d):=by show _≤_;omega
  clear hst;go_enter Tryz.func100,Tryz.ntmps100
  go_wp2_with (first
   | (go_at_call 118;refine K0.mono ?_;clear K0;rintro e w0 ⟨rfl,I0,h0,s0,f0,b0⟩;have hsA:Aside (I0.st=false):=s0;have K1:=recall_any h0 s0 (ndZ d) k0A.out k1A.out;clear s0;have f0A:Aside (Fp S I0=Fp S I):=f0;clear f0)
   | (go_at_call 119;refine K1.mono ?_;clear K1;rintro e w1 ⟨y,ok,rfl,told,h1,b1⟩;have K2:=F.out h1 hsA.out)
   | (go_at_call 120;refine K2.mono ?_;clear K2;rintro e w2 ⟨rfl,h2,b2⟩;have K3:=keep_any h2 hsA.out x hxA.out;rw[hwd.out]at K3)
   | (go_at_call 121;refine K3.mono ?_;clear K3;rintro e w3 ⟨rfl,c3,h3,b3⟩))
  ·go_ret2
   obtain⟨hy,ej⟩:=told.out ‹_›;obtain rfl:=hT.out y hy ej;rw[f0A.out]at b1;exact⟨rfl,I0,h1,by rw[f0A.out];exact b0.trans b1⟩
  ·go_ret2
   rw[f0A.out]at b1 b2 b3;exact⟨rfl,_,h3,by rw[Fp_cells,f0A.out];exact((b0.trans b1).trans b2).trans b3⟩
theorem inner_new (h:StI w S M I) (f:M.Fits d) (no:∀k∈M.hs,M.nd k≠d) (room:M.hs.length<M.room) :
  Calls Tryz.prog 100 #[.pointer (some ⟨S,0,none⟩),.int .u64 (ndZ d)] w fun e w'=>∃x:Nat,e = .returned (.tuple #[.int .u32 (x:Int),.int .i64 0])∧∃I',x ∉ M.hs∧x≤M.room+1∧StI w' S (M.addAt x d) I'∧Wf (Fp S I) (Fp S I') w w':=by
 obtain⟨k0,k1⟩:=h.pu.fits_word f;have F:Aside (∀{w:World} {I:Ins},StI w S M I→I.st=false→_):=fun {w I} (h:StI w S M I) hst=>find_new h hst f no room
 have hT:Aside (∀y:Nat,y∈M.hs→¬ndZ d=ndZ (M.nd y)):=fun y hy ej=>no y hy (h.pu.word_of f hy ej)
 have c28:=h.c28;clear no room;cases hst:I.st with
 | false =>
  rw[hst]at c28;have hsA:Aside (I.st=false):=hst;have K1:=recall_any h hst (ndZ d) (by omega) k1;clear hst;go_enter Tryz.func100,Tryz.ntmps100
  go_wp2_with (first
   | (go_at_call 119;refine K1.mono ?_;clear K1;rintro e w1 ⟨y,ok,rfl,told,h1,b1⟩;have K2:=F.out h1 hsA.out)
   | (go_at_call 120;refine K2.mono ?_;clear K2;rintro e w2 ⟨x,rfl,I2,xn,xr,s2,h2,b2⟩;have K3:=keep_any h2 s2 x (((M.adds (d:=d) xn).mem x).2 (.inl rfl));rw[show (M.addAt x d).nd x=d from if_pos rfl]at K3;have xrA:Aside (x≤M.room+1):=xr;have xnA:Aside (x ∉ M.hs):=xn;clear xr xn s2)
   | (go_at_call 121;refine K3.mono ?_;clear K3;rintro e w3 ⟨rfl,c3,h3,b3⟩))
  ·obtain⟨hy,ej⟩:=told.out ‹_›;exact absurd ej (hT.out _ hy)
  ·go_ret2
   exact⟨x,rfl,_,xnA.out,xrA.out,h3,(b1.trans b2).trans b3⟩
 | true =>
  rw[hst]at c28;have K0:=settle_any h;have k1A:Aside (ndZ d≤18446744073709551615):=k1;have k0A:Aside (0≤ndZ d):=by show _≤_;omega
  clear hst;go_enter Tryz.func100,Tryz.ntmps100
  go_wp2_with (first
   | (go_at_call 118;refine K0.mono ?_;clear K0;rintro e w0 ⟨rfl,I0,h0,s0,f0,b0⟩;have hsA:Aside (I0.st=false):=s0;have K1:=recall_any h0 s0 (ndZ d) k0A.out k1A.out;clear s0;have f0A:Aside (Fp S I0=Fp S I):=f0;clear f0)
   | (go_at_call 119;refine K1.mono ?_;clear K1;rintro e w1 ⟨y,ok,rfl,told,h1,b1⟩;have K2:=F.out h1 hsA.out)
   | (go_at_call 120;refine K2.mono ?_;clear K2;rintro e w2 ⟨x,rfl,I2,xn,xr,s2,h2,b2⟩;have K3:=keep_any h2 s2 x (((M.adds (d:=d) xn).mem x).2 (.inl rfl));rw[show (M.addAt x d).nd x=d from if_pos rfl]at K3;have xrA:Aside (x≤M.room+1):=xr;have xnA:Aside (x ∉ M.hs):=xn;clear xr xn s2)
   | (go_at_call 121;refine K3.mono ?_;clear K3;rintro e w3 ⟨rfl,c3,h3,b3⟩))
  ·obtain⟨hy,ej⟩:=told.out ‹_›;exact absurd ej (hT.out _ hy)
  ·go_ret2
   rw[f0A.out]at b1 b2;exact⟨x,rfl,_,xnA.out,xrA.out,h3,((b0.trans b1).trans b2).trans b3⟩
theorem mk_there (h:StI w S M I) (l a b:Nat) (f:M.Fits (l,a,b)) (x:Nat) (hx:x∈M.hs) (e:M.nd x=(l,a,b)) :
  Calls Tryz.prog 77 #[.pointer (some ⟨S,0,none⟩),.int .i64 (l:Int),.int .u32 (a:Int),.int .u32 (b:Int)] w fun e w'=>e = .returned (.tuple #[.int .u32 (x:Int),.int .i64 0])∧∃I',StI w' S M I'∧Wf (Fp S I) (Fp S I') w w':=by
 have o:=h.pu.ok;have hl:=f.lv;have na:=f.lo.1;have nb:=f.hi.1;have la:=f.lo.2;have lb:=f.hi.2;have hab:=f.ne;simp only at hl na nb la lb hab;have K:=vars_any h;have h1:¬(l:Int)<0:=by omega
 have h2:¬(M.n:Int)≤(l:Int):=by omega
 have h3:¬M.n≤l:=by omega
 have ha:=Mdl.isNode_lt o na;have hb:=Mdl.isNode_lt o nb;have hl8:=o.le8;have Ka:=is_any h a (by omega);have Kb:=is_any h b (by omega);have La:=level_any h a (by omega);have Lb:=level_any h b (by omega);rw[Mdl.levI_node na]at La;rw[Mdl.levI_node nb]at Lb;rw[Mdl.nodeB_true na]at Ka;rw[Mdl.nodeB_true nb]at Kb;have Kn:=bnode_any (l:Int) (a:Int) (b:Int) w (by omega) (by omega) (by omega);have Ki:=inner_there h f x hx e;change Calls _ _ #[_,.int .u64 (nodeZ (l:Int) (a:Int) (b:Int))] _ _ at Ki;have hwl:IntKind.u8.wrap (l:Int)=(l:Int):=by rw[IntKind.wrap_u8];omega
 have hne:¬(a:Int)=(b:Int):=by omega
 have hne':((a:Int) == (b:Int))=false:=by simpa using hne
 clear na nb hab;generalize M.lev a=p at La la;generalize M.lev b=q at Lb lb;by_cases hqp:q<p
 ·have e1:(q:Int)<(p:Int):=by omega
  have e2:¬q≤l:=by omega
  have e3:¬(q:Int)≤(l:Int):=by omega
  clear la lb hl hqp;go_enter Tryz.func77,Tryz.ntmps77
  go_wp2_with (first
   | (go_at_call 56;refine K.mono ?_;clear K;rintro e w ⟨rfl,rfl⟩)
   | (go_at_call 25;refine Ka.mono ?_;clear Ka;rintro e w ⟨rfl,rfl⟩)
   | (go_at_call 25;refine Kb.mono ?_;clear Kb;rintro e w ⟨rfl,rfl⟩)
   | (go_at_call 63;refine La.mono ?_;clear La;rintro e w ⟨rfl,rfl⟩)
   | (go_at_call 63;refine Lb.mono ?_;clear Lb;rintro e w ⟨rfl,rfl⟩)
   | (go_at_call 101;refine Kn.mono ?_;clear Kn;rintro e w ⟨rfl,rfl⟩)
   | (go_at_call 100;refine Ki.mono ?_;clear Ki;rintro e w2 ⟨rfl,I2,h2,b2⟩))
  go_ret2
  exact⟨rfl,I2,h2,b2⟩
 ·have e1:¬(q:Int)<(p:Int):=by omega
  have e2:¬p≤l:=by omega
  have e3:¬(p:Int)≤(l:Int):=by omega
  clear la lb hl hqp;go_enter Tryz.func77,Tryz.ntmps77
  go_wp2_with (first
   | (go_at_call 56;refine K.mono ?_;clear K;rintro e w ⟨rfl,rfl⟩)
   | (go_at_call 25;refine Ka.mono ?_;clear Ka;rintro e w ⟨rfl,rfl⟩)
   | (go_at_call 25;refine Kb.mono ?_;clear Kb;rintro e w ⟨rfl,rfl⟩)
   | (go_at_call 63;refine La.mono ?_;clear La;rintro e w ⟨rfl,rfl⟩)
   | (go_at_call 63;refine Lb.mono ?_;clear Lb;rintro e w ⟨rfl,rfl⟩)
   | (go_at_call 101;refine Kn.mono ?_;clear Kn;rintro e w ⟨rfl,rfl⟩)
   | (go_at_call 100;refine Ki.mono ?_;clear Ki;rintro e w2 ⟨rfl,I2,h2,b2⟩))
  go_ret2
  exact⟨rfl,I2,h2,b2⟩
theorem mk_new (h:StI w S M I) (l a b:Nat) (f:M.Fits (l,a,b)) (no:∀k∈M.hs,M.nd k≠(l,a,b)) (room:M.hs.length<M.room) :
  Calls Tryz.prog 77 #[.pointer (some ⟨S,0,none⟩),.int .i64 (l:Int),.int .u32 (a:Int),.int .u32 (b:Int)] w fun e w'=>∃x:Nat,e = .returned (.tuple #[.int .u32 (x:Int),.int .i64 0])∧∃I',x ∉ M.hs∧x≤M.room+1∧StI w' S (M.addAt x (l,a,b)) I'∧Wf (Fp S I) (Fp S I') w w':=by
 have o:=h.pu.ok;have hl:=f.lv;have na:=f.lo.1;have nb:=f.hi.1;have la:=f.lo.2;have lb:=f.hi.2;have hab:=f.ne;simp only at hl na nb la lb hab;have K:=vars_any h;have h1:¬(l:Int)<0:=by omega
 have h2:¬(M.n:Int)≤(l:Int):=by omega
 have h3:¬M.n≤l:=by omega
 have ha:=Mdl.isNode_lt o na;have hb:=Mdl.isNode_lt o nb;have hl8:=o.le8;have Ka:=is_any h a (by omega);have Kb:=is_any h b (by omega);have La:=level_any h a (by omega);have Lb:=level_any h b (by omega);rw[Mdl.levI_node na]at La;rw[Mdl.levI_node nb]at Lb;rw[Mdl.nodeB_true na]at Ka;rw[Mdl.nodeB_true nb]at Kb;have Kn:=bnode_any (l:Int) (a:Int) (b:Int) w (by omega) (by omega) (by omega);have Ki:=inner_new h f no room;change Calls _ _ #[_,.int .u64 (nodeZ (l:Int) (a:Int) (b:Int))] _ _ at Ki;have hwl:IntKind.u8.wrap (l:Int)=(l:Int):=by rw[IntKind.wrap_u8];omega
 have hne:¬(a:Int)=(b:Int):=by omega
 have hne':((a:Int) == (b:Int))=false:=by simpa using hne
 clear na nb hab;generalize M.lev a=p at La la;generalize M.lev b=q at Lb lb;by_cases hqp:q<p
 ·have e1:(q:Int)<(p:Int):=by omega
  have e2:¬q≤l:=by omega
  have e3:¬(q:Int)≤(l:Int):=by omega
  clear la lb hl hqp;go_enter Tryz.func77,Tryz.ntmps77
  go_wp2_with (first
   | (go_at_call 56;refine K.mono ?_;clear K;rintro e w ⟨rfl,rfl⟩)
   | (go_at_call 25;refine Ka.mono ?_;clear Ka;rintro e w ⟨rfl,rfl⟩)
   | (go_at_call 25;refine Kb.mono ?_;clear Kb;rintro e w ⟨rfl,rfl⟩)
   | (go_at_call 63;refine La.mono ?_;clear La;rintro e w ⟨rfl,rfl⟩)
   | (go_at_call 63;refine Lb.mono ?_;clear Lb;rintro e w ⟨rfl,rfl⟩)
   | (go_at_call 101;refine Kn.mono ?_;clear Kn;rintro e w ⟨rfl,rfl⟩)
   | (go_at_call 100;refine Ki.mono ?_;clear Ki;rintro e w2 ⟨x,rfl,I2,xn,xr,h2,b2⟩))
  go_ret2
  exact⟨x,rfl,I2,xn,xr,h2,b2⟩
 ·have e1:¬(q:Int)<(p:Int):=by omega
  have e2:¬p≤l:=by omega
  have e3:¬(p:Int)≤(l:Int):=by omega
  clear la lb hl hqp;go_enter Tryz.func77,Tryz.ntmps77
  go_wp2_with (first
   | (go_at_call 56;refine K.mono ?_;clear K;rintro e w ⟨rfl,rfl⟩)
   | (go_at_call 25;refine Ka.mono ?_;clear Ka;rintro e w ⟨rfl,rfl⟩)
   | (go_at_call 25;refine Kb.mono ?_;clear Kb;rintro e w ⟨rfl,rfl⟩)
   | (go_at_call 63;refine La.mono ?_;clear La;rintro e w ⟨rfl,rfl⟩)
   | (go_at_call 63;refine Lb.mono ?_;clear Lb;rintro e w ⟨rfl,rfl⟩)
   | (go_at_call 101;refine Kn.mono ?_;clear Kn;rintro e w ⟨rfl,rfl⟩)
   | (go_at_call 100;refine Ki.mono ?_;clear Ki;rintro e w2 ⟨x,rfl,I2,xn,xr,h2,b2⟩))
  go_ret2
  exact⟨x,rfl,I2,xn,xr,h2,b2⟩
end
end Go.Proofs.YtnnmdkaoiofabaaGreat
namespace Go.Proofs.YtnnmdkaoiofabaaGreat
open Go Go.RowKit
def Mdl.empty (n room:Nat):Mdl:=⟨n,Od.idn n,room,[],fun _=>(0,0,0)⟩
theorem Mdl.empty_ok {n room:Nat}(h1:1≤n) (h8:n≤8):(Mdl.empty n room).Ok:=by
 refine⟨h1,h8,fun i hi=>?_,fun i j hi hj e=>?_,by simp[Mdl.empty],?_,Nat.zero_le _,?_,?_,?_,?_,?_⟩
 ·have hi':i<n:=hi;show Od.idn n i<n;unfold Od.idn;rw[if_pos hi'];exact hi'
 ·have hi':i<n:=hi;have hj':j<n:=hj;change Od.idn n i=Od.idn n j at e;unfold Od.idn at e;rw[if_pos hi',if_pos hj']at e;exact e
 all_goals intro h hh;simp[Mdl.empty]at hh
theorem heldN_nat {n:Nat}(h1:1≤n) (h8:n≤8):Od.heldN (n:Int)=n:=by
 unfold Od.heldN;rw[if_neg (by omega),if_neg (by omega)];omega
theorem held_nat {n:Nat}(h:n≤262144):held (n:Int)=n:=by
 unfold held;rw[if_neg (by omega),if_neg (by omega)];omega
def Two (T C P r m:Nat) (u:World):Prop:=u.heap[T]? = some (.cells #[.pointer (some ⟨P,0,none⟩),.int .i64 0,.int .i64 (2*(r:Int))] 86 (0,0))∧u.heap[C]? = some (.cells #[.pointer (some ⟨P,0,none⟩),.int .i64 (2*(r:Int)),.int .i64 (m:Int)] 89 (0,0))
theorem Two.ltT {T C P r m:Nat}{u:World}(h:Two T C P r m u):T<u.heap.size:=(Array.getElem?_eq_some_iff.1 h.1).1
theorem Two.ltC {T C P r m:Nat}{u:World}(h:Two T C P r m u):C<u.heap.size:=(Array.getElem?_eq_some_iff.1 h.2).1
theorem Two.below {T C P r m:Nat}{u u':World}(h:Two T C P r m u) (k:Below u.heap.size u u'):Two T C P r m u':=⟨(k.block _ h.ltT).trans h.1,(k.block _ h.ltC).trans h.2⟩
theorem Two.six {T C P r m:Nat}{u:World}(h:Two T C P r m u):Two T C P r m u∧u.cell? ⟨T,0,none⟩=some (.pointer (some ⟨P,0,none⟩))∧u.cell? ⟨T,1,none⟩=some (.int .i64 0)∧u.cell? ⟨T,2,none⟩=some (.int .i64 (2*(r:Int)))∧u.cell? ⟨C,0,none⟩=some (.pointer (some ⟨P,0,none⟩))∧u.cell? ⟨C,1,none⟩=some (.int .i64 (2*(r:Int)))∧u.cell? ⟨C,2,none⟩=some (.int .i64 (m:Int)):=by
 refine⟨h,?_,?_,?_,?_,?_,?_⟩ <;> simp[World.cell?,h.1,h.2]
def slN (i:Nat):Tmp:=[49,50,51,52,53,54,55,56,57,58,59,60,61,62,4,5].getD i 0
def ordL (n:Nat):Array Value:=#[Od.ordCell n (Od.idn n) (Od.idn n) 0,Od.ordCell n (Od.idn n) (Od.idn n) 1,Od.ordCell n (Od.idn n) (Od.idn n) 2,Od.ordCell n (Od.idn n) (Od.idn n) 3,Od.ordCell n (Od.idn n) (Od.idn n) 4,Od.ordCell n (Od.idn n) (Od.idn n) 5,Od.ordCell n (Od.idn n) (Od.idn n) 6,Od.ordCell n (Od.idn n) (Od.idn n) 7,Od.ordCell n (Od.idn n) (Od.idn n) 8,Od.ordCell n (Od.idn n) (Od.idn n) 9,Od.ordCell n (Od.idn n) (Od.idn n) 10,Od.ordCell n (Od.idn n) (Od.idn n) 11,Od.ordCell n (Od.idn n) (Od.idn n) 12,Od.ordCell n (Od.idn n) (Od.idn n) 13,Od.ordCell n (Od.idn n) (Od.idn n) 14,Od.ordCell n (Od.idn n) (Od.idn n) 15,Od.ordCell n (Od.idn n) (Od.idn n) 16]
def litN (n r m P b:Nat):Array Value:=#[Od.ordCell n (Od.idn n) (Od.idn n) 0,Od.ordCell n (Od.idn n) (Od.idn n) 1,Od.ordCell n (Od.idn n) (Od.idn n) 2,Od.ordCell n (Od.idn n) (Od.idn n) 3,Od.ordCell n (Od.idn n) (Od.idn n) 4,Od.ordCell n (Od.idn n) (Od.idn n) 5,Od.ordCell n (Od.idn n) (Od.idn n) 6,Od.ordCell n (Od.idn n) (Od.idn n) 7,Od.ordCell n (Od.idn n) (Od.idn n) 8,Od.ordCell n (Od.idn n) (Od.idn n) 9,Od.ordCell n (Od.idn n) (Od.idn n) 10,Od.ordCell n (Od.idn n) (Od.idn n) 11,Od.ordCell n (Od.idn n) (Od.idn n) 12,Od.ordCell n (Od.idn n) (Od.idn n) 13,Od.ordCell n (Od.idn n) (Od.idn n) 14,Od.ordCell n (Od.idn n) (Od.idn n) 15,Od.ordCell n (Od.idn n) (Od.idn n) 16,.int .i64 (r:Int),.slice none 0 0,.slice none 0 0,.pointer (some ⟨P,0,none⟩),.int .i64 0,.int .i64 (2*(r:Int)),.map (some b),.pointer (some ⟨P,0,none⟩),.int .i64 (2*(r:Int)),.int .i64 (m:Int),.bool true,.bool false]
def prN (n r m P T C H:Nat) (i:Nat) (v:Value) (u:World):Prop:=
 match i with
 | 0=>v = .int .i64 (n:Int)
 | 1=>∃G,v = .pointer (some ⟨G,0,none⟩)∧Od.IsOrd u G n (Od.idn n) (Od.idn n)
 | 2=>∃G,v = .pointer (some ⟨G,0,none⟩)∧Od.IsOrd u G n (Od.idn n) (Od.idn n)
 | 3=>v = .agg (ordL n)
 | 4=>v = .int .i64 (r:Int)
 | 5=>v = .pointer (some ⟨T,0,none⟩)
 | 6=>v = .pointer (some ⟨T,0,none⟩)
 | 7=>v = .agg #[.pointer (some ⟨P,0,none⟩),.int .i64 0,.int .i64 (2*(r:Int))]
 | 8=>∃b,v = .map (some b)∧IsMap u b (fun _=>none)∧H≤b
 | 9=>v = .pointer (some ⟨C,0,none⟩)
 | 10=>v = .pointer (some ⟨C,0,none⟩)
 | 11=>v = .agg #[.pointer (some ⟨P,0,none⟩),.int .i64 (2*(r:Int)),.int .i64 (m:Int)]
 | 12=>∃b,v = .agg (litN n r m P b)∧IsMap u b (fun _=>none)∧H≤b
 | 13=>∃S b,v = .pointer (some ⟨S,0,none⟩)∧u.heap[S]? = some (.cells (litN n r m P b) 92 (0,0))∧IsMap u b (fun _=>none)∧H≤b∧H≤S
 | 14=>∃S b,v = .pointer (some ⟨S,0,none⟩)∧u.heap[S]? = some (.cells (litN n r m P b) 92 (0,0))∧IsMap u b (fun _=>none)∧H≤b∧H≤S
 | _=>v = .int .i64 0
theorem slN_inj : ∀i j,i<16→j<16→slN i=slN j→i=j:=by
 have h:∀i:Fin 16,∀j:Fin 16,slN i.1=slN j.1→i=j:=by decide
 exact fun i j hi hj e=>congrArg Fin.val (h ⟨i,hi⟩ ⟨j,hj⟩ e)
theorem slN_lt : ∀i,i<16→slN i<63:=by
 have h:∀i:Fin 16,slN i.1<63:=by decide
 exact fun i hi=>h ⟨i,hi⟩
theorem prN_mono {n r m P T C H:Nat}:∀i v w w',Below w.heap.size w w'→prN n r m P T C H i v w→prN n r m P T C H i v w':=by
 intro i v w w' b h;have kp:∀{q:Nat} {f:Int→Option Int},IsMap w q f→IsMap w' q f:=fun m=>m.same (b.block _ m.lt)
 have hb:∀{q:Nat} {o:Obj},w.heap[q]? = some o→w'.heap[q]? = some o:=fun e=>(b.block _ (Array.getElem?_eq_some_iff.1 e).1).trans e
 unfold prN at h ⊢;split at h <;> try exact h
 ·obtain⟨G,e,o⟩:=h;exact⟨G,e,o.below b⟩
 ·obtain⟨G,e,o⟩:=h;exact⟨G,e,o.below b⟩
 ·obtain⟨q,e,m,x⟩:=h;exact⟨q,e,kp m,x⟩
 ·obtain⟨q,e,m,x⟩:=h;exact⟨q,e,kp m,x⟩
 ·obtain⟨S,q,e,o,m,x⟩:=h;exact⟨S,q,e,hb o,kp m,x⟩
 ·obtain⟨S,q,e,o,m,x⟩:=h;exact⟨S,q,e,hb o,kp m,x⟩
theorem ordL_cells {w:World}{P n:Nat}(h:Od.IsOrd w P n (Od.idn n) (Od.idn n)):∀j u,(ordL n).toList[j]? = some u→w.cell? ⟨P,0+j,none⟩=some u:=fun j u hu=>by
 have hj:j<17:=(List.getElem?_eq_some_iff.1 hu).1;rw[Nat.zero_add,World.rowIs.cell h hj,← hu];have cj:j=0∨j=1∨j=2∨j=3∨j=4∨j=5∨j=6∨j=7∨j=8∨j=9∨j=10∨j=11∨j=12∨j=13∨j=14∨j=15∨j=16:=by omega
 rcases cj with rfl|rfl|rfl|rfl|rfl|rfl|rfl|rfl|rfl|rfl|rfl|rfl|rfl|rfl|rfl|rfl|rfl <;> rfl
theorem build_lit (n r m P b:Nat) (w:World):(Instr.build 92 #[(0,.agg (ordL n)),(1,.int .i64 (r:Int)),(4,.agg #[.pointer (some ⟨P,0,none⟩),.int .i64 0,.int .i64 (2*(r:Int))]),(5,.map (some b)),(6,.agg #[.pointer (some ⟨P,0,none⟩),.int .i64 (2*(r:Int)),.int .i64 (m:Int)]),(7,.bool true)]).run Tryz.prog w = .ok (.agg (litN n r m P b)) w:=by
 kernel_rfl
theorem box_lit (n r m P b:Nat) (w:World):(Instr.box 92 (.agg (litN n r m P b))).run Tryz.prog w = .ok (.pointer (some ⟨w.heap.size,0,none⟩)) (w.alloc (.cells (litN n r m P b) 92)):=by
 kernel_rfl
theorem wp_build {n r m P b:Nat}{a:Act}{w:World}{K:Act→World→Prop}{Q:Exit→Act→World→Prop}{ty:TypeId}{pos:String}{af:Array Edge}(h:(Instr.build 92 #[(0,.agg (ordL n)),(1,.int .i64 (r:Int)),(4,.agg #[.pointer (some ⟨P,0,none⟩),.int .i64 0,.int .i64 (2*(r:Int))]),(5,.map (some b)),(6,.agg #[.pointer (some ⟨P,0,none⟩),.int .i64 (2*(r:Int)),.int .i64 (m:Int)]),(7,.bool true)]).run Tryz.prog w = .ok (.agg (litN n r m P b)) w)
  (q0:a.tmps.getD 52 undef = .agg (ordL n)) (q1:a.tmps.getD 53 undef = .int .i64 (r:Int)) (q2:a.tmps.getD 56 undef = .agg #[.pointer (some ⟨P,0,none⟩),.int .i64 0,.int .i64 (2*(r:Int))]) (q3:a.tmps.getD 57 undef = .map (some b)) (q4:a.tmps.getD 60 undef = .agg #[.pointer (some ⟨P,0,none⟩),.int .i64 (2*(r:Int)),.int .i64 (m:Int)])
  (hK:K (a.put (some 61) (.agg (litN n r m P b))) w):Oper.wp Tryz.prog { dst:=some 61,op:=.build 92 #[(0,.tmp 52),(1,.tmp 53),(4,.tmp 56),(5,.tmp 57),(6,.tmp 60),(7,.const (.bool true))],type:=ty,pos:=pos,after:=af,guard:=none } a w K Q:=by
 unfold Oper.wp execOp;simp only[List.map_toArray,List.map_cons,List.map_nil,Act.eval,q0,q1,q2,q3,q4,Sem.run_bind,h,Result.andThen_ok,Sem.run_pure];exact hK
theorem wp_box {n r m P b:Nat}{a:Act}{w:World}{K:Act→World→Prop}{Q:Exit→Act→World→Prop}{ty:TypeId}{pos:String}{af:Array Edge}
  (q0:a.tmps.getD 61 undef = .agg (litN n r m P b)) (hK:K (a.put (some 62) (.pointer (some ⟨w.heap.size,0,none⟩))) (w.alloc (.cells (litN n r m P b) 92))):Oper.wp Tryz.prog { dst:=some 62,op:=.box 92 (.tmp 61),type:=ty,pos:=pos,after:=af,guard:=none } a w K Q:=by
 unfold Oper.wp execOp;simp only[Act.eval,q0,Sem.run_bind,box_lit,Result.andThen_ok,Sem.run_pure];exact hK
set_option maxRecDepth 100000 in
set_option maxHeartbeats 2000000 in
theorem new_ok (n r:Nat) (w:World) (h1:1≤n) (h8:n≤8) (r1:1≤r) (r2:r≤32768) :
  Calls Tryz.prog 9 #[.int .i64 (n:Int),.int .i64 (r:Int)] w fun e w'=>∃S I,e = .returned (.tuple #[.pointer (some ⟨S,0,none⟩),.int .i64 0])∧StI w' S (Mdl.empty n r) I∧Below w.heap.size w w'∧∀k,Fp S I k→w.heap.size≤k:=by
 have a1:¬(n:Int)<1:=by omega
 have a8:¬(8:Int)<(n:Int):=by omega
 have b1:¬(r:Int)<1:=by omega
 have b2:¬(32768:Int)<(r:Int):=by omega
 obtain⟨m,hm⟩:∃m:Nat,(if (1024:Int)<(r:Int)then 1024 else (r:Int))=(m:Int)∧1≤m∧m≤1024:=by
  by_cases c:(1024:Int)<(r:Int)
  ·exact⟨1024,by rw[if_pos c];rfl,by omega,by omega⟩
  ·exact⟨r,by rw[if_neg c],by omega,by omega⟩
 obtain⟨hm,m1,m2⟩:=hm;have K1:=Ch.cells_any m w (by omega);have K2:=new_any (2*(r:Int)+4*(m:Int)) w;have hheld:held (2*(r:Int)+4*(m:Int))=2*r+4*m:=by
  have:=held_nat (n:=2*r+4*m) (by omega);rw[← this];congr 1
 rw[hheld]at K2;have hcast:((2*r:Nat):Int)=2*(r:Int):=by omega
 have hcA:Aside (((2*r:Nat):Int)=2*(r:Int)):=hcast;clear hheld hcast;generalize hH:w.heap.size=A at K2;have hH':Aside (w.heap.size=A):=hH;clear hH;go_enter Tryz.func9,Tryz.ntmps9
 go_wp2_with (first
  | (go_at_call 36;refine K1.mono ?_;clear K1;rintro e w ⟨rfl,rfl⟩)
  | (go_at_call 35;refine K2.mono ?_;clear K2;rintro e w1 ⟨rfl,m1,b1,s1⟩;have s1A:Aside (w1.heap.size=A+2):=s1;clear s1;have K3:=Tb.tab_new m1 0 (2*r) (by omega) (by omega) (by omega);rw[hcA.out,show ((0:Nat):Int)=0 from rfl]at K3;generalize hT:w1.heap.size=T at K3;have hTA:Aside (w1.heap.size=T):=hT;clear hT;have m2:=m1.new (.cells #[.pointer (some ⟨A+1,0,none⟩),.int .i64 0,.int .i64 (2*(r:Int))] 86))
  | (go_at_call 37;refine K3.mono ?_;clear K3;rintro e w2 ⟨rfl,hw2⟩;have b2:Aside (w2=_):=hw2;rw[← hw2]at m2;clear hw2;have K4:=Ch.cache_new m2 (2*r) m (by omega) (by omega) (by omega) (by omega);rw[hcA.out]at K4;generalize hC:w2.heap.size=C at K4;have hCA:Aside (w2.heap.size=C):=hC;clear hC)
  | (go_at_call 38;refine K4.mono ?_;clear K4;rintro e w3 ⟨rfl,hw3⟩;have b3:Aside (w3=_):=hw3;clear hw3))
 have two:Two T C (A+1) r m w3:=by
  rw[b3.out];refine⟨?_,?_⟩
  ·rw[Below.heap_alloc _ _ _ (by rw[b2.out];simp;rw[hTA.out];omega),b2.out];rw[← hTA.out];exact Go.Deep.blk_alloc_new _ _
  ·rw[← hCA.out];exact Go.Deep.blk_alloc_new _ _
 have KO:Aside (∀u,Calls Tryz.prog 39 #[.int .i64 (n:Int)] u fun e w'=>∃G,e = .returned (.pointer (some ⟨G,0,none⟩))∧Od.IsOrd w' G n (Od.idn n) (Od.idn n)∧Below u.heap.size u w'∧Aside (u.heap.size≤G)):=fun u=>by
  have:=Od.new_any (n:Int) u;rw[heldN_nat h1 h8]at this;refine this.mono ?_;rintro e w' ⟨rfl,o5,b5⟩;exact⟨_,rfl,o5,b5,Nat.le_refl _⟩
 have H3:Aside (A≤w3.heap.size):=by
  simp only[Aside];rw[b3.out,b2.out];simp;have:=s1A.out;omega
 have hTw:∀u,Below w3.heap.size w3.drew u→Two T C (A+1) r m u:=fun u hu=>two.below ⟨hu.os,hu.tape,hu.output,hu.size,hu.block⟩
 refine wp_region_pr (by kernel_rfl) (by kernel_rfl) slN (prN n r m (A+1) T C w3.heap.size) ?_ ?_ ?_ ?_ ?_ ?_
 ·exact prN_mono
 ·intro i o ho;have hi:i<16:=(Array.getElem?_eq_some_iff.1 ho).1;have ci:i=0∨i=1∨i=2∨i=3∨i=4∨i=5∨i=6∨i=7∨i=8∨i=9∨i=10∨i=11∨i=12∨i=13∨i=14∨i=15:=by omega
  rcases ci with rfl|rfl|rfl|rfl|rfl|rfl|rfl|rfl|rfl|rfl|rfl|rfl|rfl|rfl|rfl|rfl <;> (simp at ho;subst ho;exact⟨rfl,rfl⟩)
 ·exact fun i j hi hj e=>slN_inj i j hi hj e
 ·exact fun i hi=>Nat.lt_of_lt_of_le (slN_lt i hi) (Nat.le_refl 63)
 ·intro i o a' w' ho hs hBl hdep K hK;have hi:i<16:=(Array.getElem?_eq_some_iff.1 ho).1;have ci:i=0∨i=1∨i=2∨i=3∨i=4∨i=5∨i=6∨i=7∨i=8∨i=9∨i=10∨i=11∨i=12∨i=13∨i=14∨i=15:=by omega
  rcases ci with rfl|rfl|rfl|rfl|rfl|rfl|rfl|rfl|rfl|rfl|rfl|rfl|rfl|rfl|rfl|rfl
  ·simp at ho;subst ho;have q0:slot a' 0 = .int .i64 (n:Int):=hs 0 (by decide);unfold slot at q0;go_simp
   exact hK _ _ (Below.refl _ _) rfl
  ·simp at ho;subst ho;have q0:slot a' 49 = .int .i64 (n:Int):=hdep { on:=0,ground:=.data } (by simp) (by decide);unfold slot at q0;go_simp
   refine(KO.out w').mono ?_;rintro e w5 ⟨G,rfl,o5,b5,g5⟩;exact hK _ _ b5 ⟨G,rfl,o5⟩
  ·simp at ho;subst ho;obtain⟨G,q0,o5⟩:=hdep { on:=1,ground:=.data } (by simp) (by decide);unfold slot at q0;change a'.tmps.getD 50 undef=_ at q0;go_simp
   exact hK _ _ (Below.refl _ _) ⟨G,rfl,o5⟩
  ·simp at ho;subst ho;obtain⟨G,q0,o5⟩:=hdep { on:=2,ground:=.data } (by simp) (by decide);unfold slot at q0;change a'.tmps.getD 51 undef=_ at q0;exact Od.wp_load_cells 83 (.tmp 51) rfl G 0 q0 (ordL n) _ (ordL_cells o5) Tryz.underlying83 rfl (by kernel_rfl) (hK _ _ (Below.refl _ _) rfl)
  ·simp at ho;subst ho;have q0:slot a' 1 = .int .i64 (r:Int):=hs 1 (by decide);unfold slot at q0;go_simp
   exact hK _ _ (Below.refl _ _) rfl
  ·simp at ho;subst ho;have q0:slot a' 8 = .pointer (some ⟨T,0,none⟩):=hs 8 (by decide);unfold slot at q0;go_simp
   exact hK _ _ (Below.refl _ _) rfl
  ·simp at ho;subst ho;have q0:slot a' 54 = .pointer (some ⟨T,0,none⟩):=hdep { on:=5,ground:=.data } (by simp) (by decide);unfold slot at q0;go_simp
   exact hK _ _ (Below.refl _ _) rfl
  ·simp at ho;subst ho;have q0:slot a' 55 = .pointer (some ⟨T,0,none⟩):=hdep { on:=6,ground:=.data } (by simp) (by decide);unfold slot at q0;obtain⟨_,z0,z1,z2,_⟩:=(hTw w' hBl).six;go_simp
   exact hK _ _ (Below.refl _ _) rfl
  ·simp at ho;subst ho;have hmm:=@run_makeMap Tryz.prog;go_simp
   exact hK _ _ ((Below.refl _ _).alloc (Nat.le_refl _) _) ⟨_,rfl,IsMap.fresh w',hBl.size⟩
  ·simp at ho;subst ho;have q0:slot a' 10 = .pointer (some ⟨C,0,none⟩):=hs 10 (by decide);unfold slot at q0;go_simp
   exact hK _ _ (Below.refl _ _) rfl
  ·simp at ho;subst ho;have q0:slot a' 58 = .pointer (some ⟨C,0,none⟩):=hdep { on:=9,ground:=.data } (by simp) (by decide);unfold slot at q0;go_simp
   exact hK _ _ (Below.refl _ _) rfl
  ·simp at ho;subst ho;have q0:slot a' 59 = .pointer (some ⟨C,0,none⟩):=hdep { on:=10,ground:=.data } (by simp) (by decide);unfold slot at q0;obtain⟨_,_,_,_,z0,z1,z2⟩:=(hTw w' hBl).six;go_simp
   exact hK _ _ (Below.refl _ _) rfl
  ·simp at ho;subst ho;have q0:slot a' 52 = .agg (ordL n):=hdep { on:=3,ground:=.data } (by simp) (by decide);unfold slot at q0;have q1:slot a' 53 = .int .i64 (r:Int):=hdep { on:=4,ground:=.data } (by simp) (by decide);unfold slot at q1;have q2:slot a' 56 = .agg #[.pointer (some ⟨A+1,0,none⟩),.int .i64 0,.int .i64 (2*(r:Int))]:=hdep { on:=7,ground:=.data } (by simp) (by decide);unfold slot at q2;obtain⟨b,q3,mb,hb⟩:=hdep { on:=8,ground:=.data } (by simp) (by decide);unfold slot at q3;change a'.tmps.getD 57 undef=_ at q3
   have q4:slot a' 60 = .agg #[.pointer (some ⟨A+1,0,none⟩),.int .i64 (2*(r:Int)),.int .i64 (m:Int)]:=hdep { on:=11,ground:=.data } (by simp) (by decide);unfold slot at q4;have hbd:=build_lit n r m (A+1) b w';exact wp_build hbd q0 q1 q2 q3 q4 (hK _ _ (Below.refl _ _) ⟨b,rfl,mb,hb⟩)
  ·simp at ho;subst ho;obtain⟨b,q0,mb,hb⟩:=hdep { on:=12,ground:=.data } (by simp) (by decide);unfold slot at q0;change a'.tmps.getD 61 undef=_ at q0;exact wp_box q0 (hK _ _ ((Below.refl _ _).alloc (Nat.le_refl _) _) ⟨_,b,rfl,Go.Deep.blk_alloc_new _ _,mb.same (Below.heap_alloc _ _ _ mb.lt),hb,hBl.size⟩)
  ·simp at ho;subst ho;obtain⟨S,b,q0,r0⟩:=hdep { on:=13,ground:=.data } (by simp) (by decide);unfold slot at q0;change a'.tmps.getD 62 undef=_ at q0;go_simp
   exact hK _ _ (Below.refl _ _) ⟨S,b,rfl,r0⟩
  ·simp at ho;subst ho;go_simp
   exact hK _ _ (Below.refl _ _) rfl
 ·intro a' w' hdf hs hBl hp;obtain⟨S,b,q4,hS,mb,hb,hSB⟩:=hp 14 (by decide);have q5:slot a' 5 = .int .i64 0:=hp 15 (by decide);change a'.tmps.getD 4 undef=_ at q4;change a'.tmps.getD 5 undef=_ at q5;refine ‹∀(a:Act) (w:World),Code.wp Tryz.prog Code.ret _ a w→_› a' w' ?_;have hB3:Below w3.heap.size w3 w':=⟨hBl.os,hBl.tape,hBl.output,hBl.size,hBl.block⟩
  have m3:IsMem w' (A+1) A (2*r+4*m) (fun _=>0) 0 0:=by
   have e3:=m2.new (.cells #[.pointer (some ⟨A+1,0,none⟩),.int .i64 (2*(r:Int)),.int .i64 (m:Int)] 89);rw[← b3.out]at e3;exact e3.of_blocks (hB3.block _ e3.ltP) (hB3.block _ e3.ltR)
  have hA:=hH'.out;have hA3:=H3.out;have hBw:Below w.heap.size w w':=by
   have h1:=s1A.out;have e2:Below A w1 w2:=by rw[b2.out];exact(Below.refl _ _).alloc (by omega) _
   have e3:Below A w2 w3:=by rw[b3.out];exact(Below.refl _ _).alloc (Nat.le_trans (by omega) e2.size) _
   rw[hA];exact((b1.trans e2).trans e3).trans ⟨hB3.os,hB3.tape,hB3.output,hB3.size,fun k hk=>hB3.block k (by omega)⟩
  go_wp2_with fail
  refine bodyPost_ret (v:=.tuple #[.pointer (some ⟨S,0,none⟩),.int .i64 0]) (by simp only[Array.getD_eq_getD_getElem?]at q4 q5;simp[results,Tryz.results9,q4,q5,go_sem]) hdf ⟨S,rfl,⟨A+1,A,b,none,0,0,none,0,[],m,fun _=>0,fun _=>0,fun _=>none,Od.idn n,true,false⟩,⟨⟨_,hS,rfl,fun i hi=>?_⟩,⟨0,0,m3⟩,OwnR.nil _ _ _ _,OwnR.nil _ _ _ _,mb,?_,fun _=>?_⟩,hA ▸ hBw,fun k hk=>?_⟩
  ·have c27:i=0∨i=1∨i=2∨i=3∨i=4∨i=5∨i=6∨i=7∨i=8∨i=9∨i=10∨i=11∨i=12∨i=13∨i=14∨i=15∨i=16∨i=17∨i=18∨i=19∨i=20∨i=21∨i=22∨i=23∨i=24∨i=25∨i=26∨i=27∨i=28:=by omega
   have e2:(2*(r:Int))=((2*r:Nat):Int):=hcA.out.symm;rcases c27 with rfl|rfl|rfl|rfl|rfl|rfl|rfl|rfl|rfl|rfl|rfl|rfl|rfl|rfl|rfl|rfl|rfl|rfl|rfl|rfl|rfl|rfl|rfl|rfl|rfl|rfl|rfl|rfl|rfl <;> first|rfl | (show some (Value.int .i64 (2*(r:Int)))=some (Value.int .i64 ((2*r:Nat):Int));rw[e2])
  ·exact⟨Mdl.empty_ok h1 h8,fun i (hi:i<n)=>by show Od.idn n (Od.idn n i)=i;simp[Od.idn,hi],r1,r2,‹1≤m›,‹m≤1024›,Nat.zero_le _,fun x hx=>absurd hx (by simp[Mdl.empty]),fun i hi=>absurd hi (Nat.not_lt_zero _),by simp,fun x=>⟨fun h=>absurd h (by simp),fun h=>by have h1:=h.1;have h2:x<2+0:=h.2.1;omega⟩,rfl,fun _=>⟨Int.le_refl 0,show (0:Int)≤_ by omega⟩⟩
  ·exact⟨Tb.Good.empty _,fun s _ h=>absurd rfl h,fun x hx=>absurd hx (by simp[Mdl.empty]),Tb.cnt_zero _,fun key _ _ hk=>absurd (show Ch.hi 0=0 by decide) hk.1⟩
  ·rcases hk with e|e|e|e|⟨a,ha,_⟩|⟨a,ha,_⟩
   ·rw[e];omega
   ·show A≤k;rw[e];show A≤A+1;omega
   ·show A≤k;rw[e];exact Nat.le_refl A
   ·show A≤k;rw[e];show A≤b;omega
   ·cases ha
   ·cases ha
end Go.Proofs.YtnnmdkaoiofabaaGreat
namespace Go.Proofs.YtnnmdkaoiofabaaGreat
open Go Go.RowKit
def St (w:World) (S:Nat) (F:Nat→Prop) (M:Mdl):Prop:=∃I,StI w S M I∧F=Fp S I
section
variable {w w':World}{S:Nat}{F:Nat→Prop}{M:Mdl}
theorem St.ok (h:St w S F M):M.Ok:=by obtain⟨I,h,_⟩:=h;exact h.pu.ok
theorem St.room (h:St w S F M):1≤M.room∧M.room≤32768:=by obtain⟨I,h,_⟩:=h;exact⟨h.pu.room1,h.pu.room2⟩
theorem St.lt (h:St w S F M):∀k,F k→k<w.heap.size:=by obtain⟨I,h,rfl⟩:=h;exact h.lt
theorem St.kinds (h:St w S F M):∀k,F k→∃o,w.heap[k]? = some o∧stKind o:=by obtain⟨I,h,rfl⟩:=h;exact h.kinds
theorem St.kept (h:St w S F M) (k:∀b,F b→w'.heap[b]? = w.heap[b]?):St w' S F M:=by obtain⟨I,h,rfl⟩:=h;exact⟨I,h.kept k,rfl⟩
theorem St.below (h:St w S F M) (k:Below w.heap.size w w'):St w' S F M:=h.kept fun b hb=>k.block b (h.lt b hb)
theorem St.new (h:St w S F M) (o:Obj):St (w.alloc o) S F M:=h.kept fun b hb=>Below.heap_alloc _ _ _ (h.lt b hb)
theorem St.drew (h:St w S F M):St w.drew S F M:=h.kept fun _ _=>rfl
theorem St.drewN (h:St w S F M) (q:Nat):St (w.drewN q) S F M:=h.kept fun _ _=>rfl
theorem St.row (h:St w S F M){k:Nat}{cs:Array Value}{t:TypeId}{fr:Nat×Nat}(hk:w.heap[k]? = some (.cells cs t fr)) (ht:t≠92∧t≠144∧t≠261∧t≠22∧t≠36):¬F k:=fun e=>by
 obtain⟨o,ho,hs⟩:=h.kinds k e;rw[hk]at ho;obtain rfl:=Option.some.inj ho;rcases hs with ⟨cs',t',e',q⟩|⟨es,ck,e'⟩
 ·simp at e';obtain⟨_,rfl,_⟩:=e';rcases q with q|q|q|q|q
  ·exact ht.1 q
  ·exact ht.2.1 q
  ·exact ht.2.2.1 q
  ·exact ht.2.2.2.1 q
  ·exact ht.2.2.2.2 q
 ·cases e'
theorem Wf.row {F':Nat→Prop}(g:Wf F F' w w') (h:St w S F M){e:TypeId}{b n:Nat}{V:Nat→Value}(o:w.rowIs b e n V) (ht:e≠92∧e≠144∧e≠261∧e≠22∧e≠36):w'.rowIs b e n V:=by
 obtain⟨cs,hb,_⟩:=id o;exact o.of_block (g.block b o.lt (h.row hb ht))
theorem s_vars (h:St w S F M) :
  Calls Tryz.prog 56 #[.pointer (some ⟨S,0,none⟩)] w fun e w'=>e = .returned (.int .i64 (M.n:Int))∧w'=w:=by obtain⟨I,h,rfl⟩:=h;exact vars_any h
theorem s_room (h:St w S F M) :
  Calls Tryz.prog 27 #[.pointer (some ⟨S,0,none⟩)] w fun e w'=>e = .returned (.int .i64 (M.room:Int))∧w'=w:=by obtain⟨I,h,rfl⟩:=h;exact room_any h
theorem s_len (h:St w S F M) :
  Calls Tryz.prog 22 #[.pointer (some ⟨S,0,none⟩)] w fun e w'=>e = .returned (.int .i64 (M.hs.length:Int))∧∃q,w'=w.drewN q:=by obtain⟨I,h,rfl⟩:=h;exact slen_any h
theorem s_is (h:St w S F M) (x:Nat) (hx:x<4294967296) :
  Calls Tryz.prog 25 #[.pointer (some ⟨S,0,none⟩),.int .u32 (x:Int)] w fun e w'=>e = .returned (.bool (M.nodeB x))∧w'=w:=by obtain⟨I,h,rfl⟩:=h;exact is_any h x hx
theorem s_level (h:St w S F M) (x:Nat) (hx:x<4294967296) :
  Calls Tryz.prog 63 #[.pointer (some ⟨S,0,none⟩),.int .u32 (x:Int)] w fun e w'=>e = .returned (.int .i64 (M.levI x))∧w'=w:=by obtain⟨I,h,rfl⟩:=h;exact level_any h x hx
theorem s_low (h:St w S F M) (x:Nat) (hx:x<4294967296) :
  Calls Tryz.prog 64 #[.pointer (some ⟨S,0,none⟩),.int .u32 (x:Int)] w fun e w'=>e = .returned (.int .u32 (M.lowN x:Int))∧w'=w:=by obtain⟨I,h,rfl⟩:=h;exact low_any h x hx
theorem s_high (h:St w S F M) (x:Nat) (hx:x<4294967296) :
  Calls Tryz.prog 65 #[.pointer (some ⟨S,0,none⟩),.int .u32 (x:Int)] w fun e w'=>e = .returned (.int .u32 (M.highN x:Int))∧w'=w:=by obtain⟨I,h,rfl⟩:=h;exact high_any h x hx
theorem s_order (h:St w S F M) :
  Calls Tryz.prog 14 #[.pointer (some ⟨S,0,none⟩)] w fun e w'=>∃P l,e = .returned (.pointer (some ⟨P,0,none⟩))∧Od.IsOrd w' P M.n M.v l∧Below w.heap.size w w'∧w.heap.size≤P:=by
 obtain⟨I,h,rfl⟩:=h;refine(order_any h).mono ?_;rintro e w' ⟨rfl,o,b⟩;exact⟨_,_,rfl,o,b,Nat.le_refl _⟩
theorem s_order' (h:St w S F M) :
  Calls Tryz.prog 14 #[.pointer (some ⟨S,0,none⟩)] w fun e w'=>∃P l,e = .returned (.pointer (some ⟨P,0,none⟩))∧Od.IsOrd w' P M.n M.v l∧(∀i,i<M.n→l (M.v i)=i)∧Below w.heap.size w w'∧w.heap.size≤P:=by
 obtain⟨I,h,rfl⟩:=h;refine(order_any h).mono ?_;rintro e w' ⟨rfl,o,b⟩;exact⟨_,_,rfl,o,h.pu.inv,b,Nat.le_refl _⟩
theorem s_all (h:St w S F M) :
  Calls Tryz.prog 62 #[.pointer (some ⟨S,0,none⟩)] w fun e w'=>∃ad cap,e = .returned (.slice ad M.hs.length cap)∧OwnR 36 w' w.heap.size ad M.hs.length cap (fun i=>.int .u32 (M.hs.getD i 0:Nat))∧Below w.heap.size w w':=by
 obtain⟨I,h,rfl⟩:=h;exact all_any h
theorem St.nodes {x:Nat}(h:St w S F M) (hx:M.isNode x):x<2+M.room:=by
 obtain⟨I,h,rfl⟩:=h;have:=h.pu.node_lt hx;have:=h.pu.wide;omega
theorem s_mk_there (h:St w S F M) (l a b:Nat) (f:M.Fits (l,a,b)) (x:Nat) (hx:x∈M.hs) (e:M.nd x=(l,a,b)) :
  Calls Tryz.prog 77 #[.pointer (some ⟨S,0,none⟩),.int .i64 (l:Int),.int .u32 (a:Int),.int .u32 (b:Int)] w fun e w'=>e = .returned (.tuple #[.int .u32 (x:Int),.int .i64 0])∧∃F',St w' S F' M∧Wf F F' w w':=by
 obtain⟨I,h,rfl⟩:=h;refine(mk_there h l a b f x hx e).mono ?_;rintro e w' ⟨rfl,I',h',b'⟩;exact⟨rfl,_,⟨I',h',rfl⟩,b'⟩
theorem s_mk_new (h:St w S F M) (l a b:Nat) (f:M.Fits (l,a,b)) (no:∀k∈M.hs,M.nd k≠(l,a,b)) (room:M.hs.length<M.room) :
  Calls Tryz.prog 77 #[.pointer (some ⟨S,0,none⟩),.int .i64 (l:Int),.int .u32 (a:Int),.int .u32 (b:Int)] w fun e w'=>∃x:Nat,e = .returned (.tuple #[.int .u32 (x:Int),.int .i64 0])∧∃F' M',M.Adds x (l,a,b) M'∧St w' S F' M'∧Wf F F' w w'∧x≤M.room+1:=by
 obtain⟨I,h,rfl⟩:=h;refine(mk_new h l a b f no room).mono ?_;rintro e w' ⟨x,rfl,I',xn,xr,h',b'⟩;exact⟨x,rfl,_,_,Mdl.adds xn,⟨I',h',rfl⟩,b',xr⟩
end
theorem s_new (n r:Nat) (w:World) (h1:1≤n) (h8:n≤8) (r1:1≤r) (r2:r≤32768) :
  Calls Tryz.prog 9 #[.int .i64 (n:Int),.int .i64 (r:Int)] w fun e w'=>∃S F,e = .returned (.tuple #[.pointer (some ⟨S,0,none⟩),.int .i64 0])∧St w' S F (Mdl.empty n r)∧Below w.heap.size w w'∧∀k,F k→w.heap.size≤k:=by
 refine(new_ok n r w h1 h8 r1 r2).mono ?_;rintro e w' ⟨S,I,rfl,h,b,k⟩;exact⟨S,_,rfl,⟨I,h,rfl⟩,b,k⟩
end Go.Proofs.YtnnmdkaoiofabaaGreat
namespace Go.Proofs.YtnnmdkaoiofabaaGreat
open Go Go.RowKit
def Ins.turned (I:Ins) (on:Bool):Ins:={ I with on:=on }
end Go.Proofs.YtnnmdkaoiofabaaGreat
