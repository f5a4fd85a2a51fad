/-
  The reference's support of a table.
  What was put aside.
  The reference's Levels; as many nodes on each level as the reference counts.
-/
import Derived.Test.YtnnmdkaoiofabaaGreatBaseG
import Derived.Test.YtnnmdkaoiofabaaGreatCtY
import Derived.Test.YtnnmdkaoiofabaaGreatBaseF
namespace Go.Proofs.YtnnmdkaoiofabaaGreat.Rf
open Go Go.RowKit
theorem read_mask (m v:Nat) (hm:m<256):(bits .and .u8 ((m:Int) / 2^v) 1 == 1)=M v m:=by
 have h1:((m:Int) / 2^v)=((m / 2^v:Nat):Int):=by push_cast;rfl
 have h2:m / 2^v<256:=Nat.lt_of_le_of_lt (Nat.div_le_self _ _) hm;rw[h1,show (1:Int)=((1:Nat):Int)from rfl,u8_and_nat _ _ h2 (by decide),Nat.and_one_is_mod];unfold M;have h3:m / 2^v % 2<2:=Nat.mod_lt _ (by decide);by_cases h:m / 2^v % 2=1
 ·simp[h]
 ·have h0:m / 2^v % 2=0:=by omega
  simp[h0]
theorem or_pow8 (n v:Nat) (hn:n<256) (hv:v<8):bits .or .u8 (n:Int) (IntKind.u8.wrap (2^v))=((n ||| 2^v:Nat):Int):=by
 have h1:(2:Nat)^v<256:=Nat.pow_lt_pow_right (a:=2) (n:=8) (by decide) hv;have h2:IntKind.u8.wrap (2^v)=((2^v:Nat):Int):=by
  rw[IntKind.wrap_u8]
  have:(2:Int)^v=((2^v:Nat):Int):=by push_cast;rfl
  rw[this];exact Int.emod_eq_of_lt (Int.natCast_nonneg _) (Int.ofNat_lt.2 h1)
 rw[h2,u8_or_nat _ _ hn h1]
theorem or_pow8' (n v:Nat) (hn:n<256) (hv:v<8):bits .or .u8 (n:Int) (2^v % 256)=((n ||| 2^v:Nat):Int):=by
 rw[← or_pow8 n v hn hv,IntKind.wrap_u8]
theorem below_undrew {w u:World}(h:Below w.drew.heap.size w.drew u):Below w.heap.size w u:=⟨h.os,h.tape,h.output,h.size,h.block⟩
set_option maxHeartbeats 800000 in
theorem support_any (F:Nat→Bool) (w:World) :
  Calls Tryz.prog 91 #[tab F] w fun e w'=>e = .returned (.int .u8 (supUpto F 8:Int))∧Below w.heap.size w w':=by
 conv in #[tab F] => unfold tab
 go_enter Tryz.func91,Tryz.ntmps91
 go_wp2_with fail
 have TF:=(IsTab.new w F)
 have B0:=((Below.refl _ w).alloc (Nat.le_refl _) (.cells #[.int .u64 (word F 0:Int),.int .u64 (word F 1:Int),.int .u64 (word F 2:Int),.int .u64 (word F 3:Int)] 24))
 generalize (w.alloc (.cells #[.int .u64 (word F 0:Int),.int .u64 (word F 1:Int),.int .u64 (word F 2:Int),.int .u64 (word F 3:Int)] 24))=w4 at TF B0 ⊢;go_loopg [3,4] 8 (fun g sn si wr=>∃v:Nat,v+g=8∧si = .int .i64 (v:Int)∧sn = .int .u8 (supUpto F v:Int)∧IsTab wr w.heap.size F∧Below w.heap.size w wr)
 case atStart=>exact⟨0,by omega,rfl,rfl,TF,B0⟩
 case round =>
  obtain⟨v,hv,rfl,rfl,hT,hB⟩:=hrel;have hV:Aside (v+gk=8):=hv;clear hv;by_cases hv8:v<8
  ·have hv8':(v:Int)<8:=by omega
   have hl:=sup_lt F v (by omega);have hs:Aside (supUpto F (v+1)=if same (fixF F v false) (fixF F v true)then supUpto F v else supUpto F v ||| 2^v):=rfl;have heq:∀w,(Op.equalIn 10000 24 (tab (fixF F v false)) (tab (fixF F v true))).run Tryz.prog w = .ok (same (fixF F v false) (fixF F v true)) w:=fun w=>equal_tab _ _ w
   unfold tab at heq;generalize supUpto F v=n at hl hs
   go_wp2_with fail
   obtain⟨c0,c1,c2,c3⟩:=hT.copy;cases hsm:same (fixF F v false) (fixF F v true) with
   | true =>
    rw[hsm]at hs;simp only[hsm]at heq
    go_region_with (first
     | (go_at_call_of 40 (Value.bool false);refine(fix_any F v hv8 false _).mono ?_;unfold tab;rintro e w6 ⟨rfl,b6⟩;have T6:IsTab w6 w.heap.size F:=IsTab.kept hT.drew b6;obtain⟨q0,q1,q2,q3⟩:=T6.copy)
     | (go_at_call_of 40 (Value.bool true);refine(fix_any F v hv8 true _).mono ?_;unfold tab;rintro e w7 ⟨rfl,b7⟩;have T7:=T6.kept b7))
    all_goals go_wp2_with fail
    all_goals go_roundg (gk-1)
    all_goals first
     | (have:=hV.out;omega)
     | (have:=hV.out
        exact⟨v+1,by omega,rfl,by rw[hs.out];rfl,T7,below_far hB (below_undrew (below_far b6 b7))⟩)
   | false =>
    rw[hsm]at hs;simp only[hsm]at heq
    go_region_with (first
     | (go_at_call_of 40 (Value.bool false);refine(fix_any F v hv8 false _).mono ?_;unfold tab;rintro e w6 ⟨rfl,b6⟩;have T6:IsTab w6 w.heap.size F:=IsTab.kept hT.drew b6;obtain⟨q0,q1,q2,q3⟩:=T6.copy)
     | (go_at_call_of 40 (Value.bool true);refine(fix_any F v hv8 true _).mono ?_;unfold tab;rintro e w7 ⟨rfl,b7⟩;have T7:=T6.kept b7))
    all_goals go_wp2_with fail
    all_goals go_roundg (gk-1)
    all_goals first
     | (have:=hV.out;omega)
     | (have:=hV.out
        exact⟨v+1,by omega,rfl,by rw[hs.out,if_neg (by decide),or_pow8' n v hl hv8],T7,below_far hB (below_undrew (below_far b6 b7))⟩)
  ·obtain rfl:v=8:=by have:=hV.out;omega
   go_wp2_with fail
   go_ret
   exact⟨rfl,hB⟩
end Go.Proofs.YtnnmdkaoiofabaaGreat.Rf

namespace Go.Proofs.YtnnmdkaoiofabaaGreat
open Go Go.RowKit
open Rf (tab word IsTab TabsAt fixF fixAt prt dedup IntsAt supUpto)
section
variable {M:Mdl}{h:Nat}
theorem hangs_not {F:Nat→Bool}{v:Nat}(q:∀b,Eqt (fixF F v b) F):hangs F v=false:=by
 cases c:hangs F v with
 | false=>rfl
 | true=>exact absurd ((q false).trans (q true).symm) (hangs_iff.1 c)
end
section
variable {M:Mdl}{h:Nat}
theorem hangs_above (o:M.Ok) (hh:M.isNode h){i:Nat}(hi:i<M.lev h) (hn:i<M.n):hangs (M.tbl h) (M.v i)=false:=hangs_not fun b=>tbl_fix o hh hi hn b
end
end Go.Proofs.YtnnmdkaoiofabaaGreat

namespace Go.Proofs.YtnnmdkaoiofabaaGreat
open Go Go.RowKit
open Rf (tab word IsTab TabsAt fixF fixAt prt dedup IntsAt supUpto)
def fstH (p:Nat→Bool) (v:Nat→Nat):Nat→Nat
 | 0=>0
 | k+1=>if fstH p v k<k then fstH p v k else if hangs p (v k)then k else k+1
theorem fstH_more {p:Nat→Bool}{v:Nat→Nat}{k:Nat}:∀j,fstH p v k<k→fstH p v (k+j)=fstH p v k
 | 0,_=>rfl
 | j+1,h=>by
  rw[← Nat.add_assoc,fstH,fstH_more j h,if_pos (by omega)]
theorem fstH_at {p:Nat→Bool}{v:Nat→Nat}{k n:Nat}(hk:k<n) (h:fstH p v k=k) (hh:hangs p (v k)=true):fstH p v n=k:=by
 have e:fstH p v (k+1)=k:=by rw[fstH,if_neg (by omega),hh,if_pos rfl]
 obtain⟨j,rfl⟩:∃j,n=(k+1)+j:=⟨n-(k+1),by omega⟩
 rw[fstH_more j (by omega),e]
theorem fstH_not {p:Nat→Bool}{v:Nat→Nat}{k:Nat}(h:fstH p v k=k) (hh:hangs p (v k)=false):fstH p v (k+1)=k+1:=by
 rw[fstH,if_neg (by omega),hh];rfl
theorem fstH_none {p:Nat→Bool}{v:Nat→Nat}:∀{k:Nat},(∀i,i<k→hangs p (v i)=false)→fstH p v k=k
 | 0,_=>rfl
 | k+1,h=>fstH_not (fstH_none fun i hi=>h i (by omega)) (h k (by omega))
theorem fstH_congr {p q:Nat→Bool}(e:Eqt p q){v:Nat→Nat}:∀k,(∀i,i<k→v i<8)→fstH p v k=fstH q v k
 | 0,_=>rfl
 | k+1,h=>by rw[fstH,fstH,fstH_congr e k fun i hi=>h i (by omega),hangs_congr e (h k (by omega))]
theorem fstH_node {M:Mdl}(o:M.Ok){x:Nat}(hx:x∈M.hs):fstH (M.tbl x) M.v M.n=(M.nd x).1:=
 fstH_at (o.lv x hx) (fstH_none fun i hi=>hangs_above o (.inr hx) (by rw[Mdl.lev_in o hx];exact hi) (by have:=o.lv x hx;omega)) (hangs_own o hx)
def fsN (v:Nat→Nat) (n:Nat) (ts:List (Nat→Bool)) (i:Nat):Nat:=(ts.filter fun p=>decide (fstH p v n=i)).length
theorem fsN_le (v:Nat→Nat) (n:Nat) (ts:List (Nat→Bool)) (i:Nat):fsN v n ts i≤ts.length:=List.length_filter_le _ _
theorem fsN_put (v:Nat→Nat) (n:Nat) (ts:List (Nat→Bool)) (p:Nat→Bool) (i:Nat):fsN v n (ts ++ [p]) i=fsN v n ts i+if fstH p v n=i then 1 else 0:=by
 unfold fsN;rw[List.filter_append,List.length_append];by_cases c:fstH p v n=i
 ·rw[if_pos c,List.filter_cons,if_pos (by simpa using c)];simp
 ·rw[if_neg c,List.filter_cons,if_neg (by simpa using c)];simp
theorem sup_read {F:Nat→Bool}{v:Nat}(hv:v<8):(bits .and .u8 ((supUpto F 8:Int) / 2^v) 1 == 1)=hangs F v:=by
 rw[Rf.read_mask _ _ (Rf.sup_lt F 8 (Nat.le_refl _)),← Rf.M_bit,sup_bit,decide_eq_true hv];rfl
theorem take_put {ts:List (Nat→Bool)}{j:Nat}(hj:j<ts.length):ts.take (j+1)=ts.take j ++ [ts.getD j fun _=>false]:=by
 rw[List.take_add_one,List.getD_eq_getElem?_getD,List.getElem?_eq_getElem hj];rfl
set_option maxRecDepth 100000 in
set_option maxHeartbeats 2000000 in
theorem rlevels_any (adl:Option Addr) (L capl:Nat) (T:Nat→Nat→Bool) (adv:Option Addr) (n capv:Nat) (v:Nat→Nat) (w:World) (hL:L≤1000) (hn:n≤8) (hv8:∀i,i<n→v i<8) (hl:TabsAt w adl L T) (hv:IntsAt w adv n (fun i=>(v i:Int))) (ts:List (Nat→Bool)) (hts:(prt (fun i=>(v i:Int)) n (dedup T L) (min n 8+1)).1=ts) (htl:ts.length≤1000000) :
  Calls Tryz.prog 58 #[.slice adl L capl,.slice adv n capv] w fun e w'=>∃g,e = .returned (.slice (some ⟨g,0,none⟩) n n)∧w'.rowIs g 3 n (fun i=>.int .i64 (fsN v n ts i:Int))∧Below w.heap.size w w'∧w.heap.size≤g:=by
 have K:=Rf.parts_any adl L capl T adv n capv (fun i=>(v i:Int)) w hL (by omega) hl hv;rw[hts]at K;clear hts hl;go_enter Tryz.func58,Tryz.ntmps58
 go_upto_region 3 with (first
  | (go_at_call 60;refine K.mono ?_;clear K;rintro e w1 ⟨⟨ad,cap,rfl,o1⟩,b1⟩;have hmk:=Od.make_ints n (by omega) w1))
 have row2:=World.rowIs_made w1 (.int .i64 0) n 3;have B2:Below w.heap.size w (w1.alloc (.cells (madeCells #[.int .i64 0] n) 3)):=Rf.below_far b1 (nb w1 _);have o2:=o1.new (.cells (madeCells #[.int .i64 0] n) 3);have tb2:=o2.tabs;have lg:Aside (w.heap.size≤w1.heap.size):=b1.size;have hv2:=hv.kept B2;have gne:Aside (∀a,ad=some a→a.block≠w1.heap.size):=fun a ha e=>by have:=(o1.block a ha).2;omega
 have vneA:Aside (0<n→∀bv ov,adv=some ⟨bv,ov,none⟩→bv≠w1.heap.size):=fun hn0 bv ov e q=>by
  obtain⟨b',o',e',hb'⟩:=hv.some hn0;rw[e]at e';injection e' with e'
  injection e' with e1 e2
  have:=b1.size;omega
 clear hmk o1 b1 hv;generalize w1.alloc (.cells (madeCells #[.int .i64 0] n) 3)=w2 at row2 B2 o2 tb2 hv2 ⊢;generalize w1.heap.size=g at row2 lg gne vneA ⊢;have B2A:Aside (Below w.heap.size w w2):=B2;have row2A:Aside (w2.rowIs g 3 n (fun _=>.int .i64 0)):=row2;have tbA:Aside (TabsAt w2 ad ts.length (fun i=>ts.getD i fun _=>false)):=tb2;have hvA:Aside (IntsAt w2 adv n (fun i=>(v i:Int))):=hv2;have v8A:Aside (∀i,i<n→v i<8):=hv8;have gl:Aside (w.heap.size≤g):=lg;clear B2 row2 tb2 hv2 hv8 o2 lg
 go_wp2_with fail
 go_loopg [7,8,9] ts.length (fun gg s7 _ _ wr=>∃j:Nat,j+gg=ts.length∧s7 = .int .i64 (j:Int)∧Aside (Went (fun k=>k=g) w2 wr)∧Aside (wr.rowIs g 3 n (fun i=>.int .i64 (fsN v n (ts.take j) i:Int))))
 case atStart=>exact⟨0,by omega,rfl,⟨rfl,rfl,rfl,Nat.le_refl _,fun _ _ _=>rfl⟩,row2A.out.congr fun i _=>by rw[List.take_zero];rfl⟩
 case round =>
  obtain⟨j,hj,rfl,hW,hR⟩:=hrel;obtain⟨go,rfl⟩:∃go,go=gk:=⟨gk,rfl⟩
  have hJ:Aside (j+go=ts.length):=hj;by_cases hlt:j<ts.length
  ·have hlt':(j:Int)<(ts.length:Int):=by omega
   obtain⟨bl,off,rfl,hbl⟩:=tbA.out.some (by omega);have hne:=gne.out _ rfl;have hcs:=tbA.out.get hlt;have hbk:=hW.out.block bl hbl hne;have cellE:∀o,wr.cell? ⟨bl,o,none⟩=w2.cell? ⟨bl,o,none⟩:=fun o=>by unfold World.cell?;rw[hbk]
   rw[← cellE,← cellE,← cellE,← cellE]at hcs;obtain⟨c0,c1,c2,c3⟩:=hcs;have KS:=Rf.support_any (ts.getD j fun _=>false) wr;have tk:Aside (ts.take (j+1)=ts.take j ++ [ts.getD j fun _=>false]):=take_put hlt;have hltA:Aside (j<ts.length):=hlt;have rd:Aside (∀v,v<8→(bits .and .u8 ((supUpto (ts.getD j fun _=>false) 8:Int) / 2^v) 1 == 1)=hangs (ts.getD j fun _=>false) v):=fun v hv=>sup_read hv
   have sl:=Rf.sup_lt (ts.getD j fun _=>false) 8 (Nat.le_refl _);generalize (ts.getD j fun _=>false)=p at KS tk c0 c1 c2 c3 rd sl;generalize supUpto p 8=m at KS rd sl;unfold tab at KS;clear hj hbk cellE hlt
   go_wp2_with (first
    | (go_at_call 91;refine KS.mono ?_;clear KS;rintro e w5 ⟨rfl,b5⟩))
   have R5:=hR.out.of_block (b5.block g hR.out.lt);have W5:Aside (Went (fun k=>k=g) w2 w5):=⟨b5.os.trans hW.out.os,b5.tape.trans hW.out.tape,b5.output.trans hW.out.output,Nat.le_trans hW.out.size b5.size,fun k hk hne=>(b5.block k (Nat.lt_of_lt_of_le hk hW.out.size)).trans (hW.out.block k hk hne)⟩
   have R5A:Aside (w5.rowIs g 3 n (fun i=>.int .i64 (fsN v n (ts.take j) i:Int))):=R5;have fl:Aside (∀i,fsN v n (ts.take j) i≤1000000):=fun i=>Nat.le_trans (fsN_le v n _ i) (by rw[List.length_take];omega)
   clear c0 c1 c2 c3 R5 hR hW b5 tbA gne hne hbl;go_loopg [9] n (fun gg s9 wr=>∃k:Nat,k+gg=n∧s9 = .int .i64 (k:Int)∧Aside (fstH p v k=k)∧wr=w5)
   case atStart=>exact⟨0,by omega,rfl,rfl,rfl⟩
   case round =>
    obtain⟨k,hk,rfl,hF,rfl⟩:=hrel;have hK:Aside (k+gk=n):=hk;by_cases hkn:k<n
    ·have hkn':(k:Int)<(n:Int):=by omega
     obtain⟨bv,ov,rfl,hbv⟩:=hvA.out.some (by omega);have hcv:=hvA.out.get hkn;have hbk:=W5.out.block bv hbv (vneA.out (by omega) bv ov rfl);have cv:wr.cell? ⟨bv,ov+k,none⟩=some (.int .i64 (v k:Int)):=by unfold World.cell? at hcv ⊢;rw[hbk];exact hcv
     have vk:=v8A.out k hkn;have rk:=rd.out (v k) vk;have hw1:IntKind.u64.wrap (v k:Int)=(v k:Int):=by rw[IntKind.wrap_u64];omega
     have m1:min (v k) 8=v k:=by omega
     have hknA:Aside (k<n):=hkn;have lg5:=R5A.out.cell hkn;have fz5:=R5A.out.frozen k;have row6:=R5A.out.set k (.int .i64 ((fsN v n (ts.take j) k:Int)+1));have fk:=fl.out k;cases hh:hangs p (v k) with
     | true =>
      have fin:Aside ((wr.setCell ⟨g,k,none⟩ (.int .i64 ((fsN v n (ts.take j) k:Int)+1))).rowIs g 3 n (fun i=>.int .i64 (fsN v n (ts.take (j+1)) i:Int))∧Went (fun k=>k=g) w2 (wr.setCell ⟨g,k,none⟩ (.int .i64 ((fsN v n (ts.take j) k:Int)+1)))):=by
       refine⟨row6.congr fun i _=>?_,⟨W5.out.os,W5.out.tape,W5.out.output,by simp[World.setCell];exact W5.out.size,fun i hi hne=>(Below.heap_setCell _ _ _ _ (show i≠g from hne)).trans (W5.out.block i hi hne)⟩⟩;rw[tk.out,fsN_put,fstH_at hkn hF.out hh];by_cases c:i=k
       ·rw[if_pos c,if_pos c.symm,c];simp
       ·rw[if_neg c,if_neg fun e=>c e.symm];simp
      rw[hh]at rk;generalize fsN v n (ts.take j) k=x at lg5 fk fin;generalize v k=vv at cv vk rk hw1 m1;have hwx:IntKind.i64.wrap ((x:Int)+1)=(x:Int)+1:=by rw[IntKind.wrap_i64];omega
      clear hk hkn hcv hbk row6 hh
      go_wp2_with fail
      go_roundg (go-1)
      case measure=>have:=hJ.out;have:=hltA.out;omega
      case rel =>
       have:=hJ.out;have:=hltA.out;exact⟨j+1,by omega,by go_num,fin.out.2,fin.out.1⟩
     | false =>
      have nx:=fstH_not hF.out hh;have nxA:Aside (fstH p v (k+1)=k+1):=nx;rw[hh]at rk;generalize v k=vv at cv vk rk hw1 m1;clear hk hkn hcv hbk row6 hh lg5 fz5 fk nx
      go_wp2_with fail
      go_roundg (gk-1)
      case measure=>have:=hK.out;have:=hknA.out;omega
      case rel =>
       have:=hK.out;have:=hknA.out;exact⟨k+1,by omega,by go_num,nxA,rfl⟩
    ·obtain rfl:k=n:=by omega
     have fin:Aside (wr.rowIs g 3 k (fun i=>.int .i64 (fsN v k (ts.take (j+1)) i:Int))):=R5A.out.congr fun i hi=>by
      rw[tk.out,fsN_put,hF.out,if_neg (by omega)];simp
     clear hk hkn
     go_wp2_with fail
     go_roundg (go-1)
     case measure=>have:=hJ.out;have:=hltA.out;omega
     case rel =>
      have:=hJ.out;have:=hltA.out;exact⟨j+1,by omega,by go_num,W5,fin⟩
  ·obtain rfl:j=ts.length:=by omega
   clear hj hlt;rw[List.take_length]at hR;have fin:Aside (Below w.heap.size w wr):=below_map B2A.out gl.out hW.out
   go_wp2_with fail
   go_ret
   exact⟨g,rfl,hR.out,fin.out,gl.out⟩
end Go.Proofs.YtnnmdkaoiofabaaGreat
