/-
  Sifting: the roots, each once and without the constants; for how many nodes there must be room.
-/
import Derived.Test.YtnnmdkaoiofabaaGreatMkAB
namespace Go.Proofs.YtnnmdkaoiofabaaGreat.Sf
open Go Go.RowKit
open Mk (IsMet metP metP_in metP_some metP_snoc HsAt below_map own_rebase own_nat)
structure Unl (H:Nat→Nat) (n:Nat) (xs:List Nat):Prop where
 up:xs.Pairwise (· < ·)
 mem:∀x,x∈xs↔1<x∧∃i,i<n∧H i=x
section
variable {w w':World}
structure UnP (H:Nat→Nat) (j:Nat) (ks:List Nat):Prop where
 once:ks.Nodup
 mem:∀x,x∈ks↔1<x∧∃i,i<j∧H i=x
theorem UnP.start (H:Nat→Nat):UnP H 0 []:=⟨List.nodup_nil,fun _=>⟨fun h=>absurd h List.not_mem_nil,fun⟨_,_,hi,_⟩=>absurd hi (Nat.not_lt_zero _)⟩⟩
theorem UnP.skip {H:Nat→Nat}{j:Nat}{ks:List Nat}(u:UnP H j ks) (h:¬ 1<H j∨H j∈ks):UnP H (j+1) ks:=by
 refine⟨u.once,fun x=>⟨fun hx=>?_,fun⟨h1,i,hi,e⟩=>?_⟩⟩
 ·obtain⟨h1,i,hi,e⟩:=(u.mem x).1 hx;exact⟨h1,i,by omega,e⟩
 ·by_cases c:i=j
  ·subst c;rcases h with h|h
   ·rw[e]at h;exact absurd h1 h
   ·rw[← e];exact h
  ·exact(u.mem x).2 ⟨h1,i,by omega,e⟩
theorem UnP.add {H:Nat→Nat}{j:Nat}{ks:List Nat}(u:UnP H j ks) (h:1<H j) (hn:H j ∉ ks):UnP H (j+1) (ks ++ [H j]):=by
 refine⟨?_,fun x=>?_⟩
 ·rw[List.nodup_append];exact⟨u.once,by simp,fun a ha c hc e=>by simp at hc;subst hc;subst e;exact hn ha⟩
 ·rw[List.mem_append,List.mem_singleton,u.mem x];constructor
  ·rintro(⟨h1,i,hi,e⟩|rfl)
   ·exact⟨h1,i,by omega,e⟩
   ·exact⟨h,j,by omega,rfl⟩
  ·rintro⟨h1,i,hi,e⟩;by_cases c:i=j
   ·subst c;exact .inr e.symm
   ·exact .inl ⟨h1,i,by omega,e⟩
set_option maxRecDepth 100000 in
set_option maxHeartbeats 2000000 in
theorem unlike_any {ad:Option Addr}{n cap:Nat}{H:Nat→Nat}(hl:HsAt w ad n H) (hb:∀i,i<n→H i<4294967296) (hn:n≤1000) :
  Calls Tryz.prog 52 #[.slice ad n cap] w fun e w'=>∃ad' cap' xs,e = .returned (.slice ad' xs.length cap')∧Unl H n xs∧xs.length≤n∧OwnR 36 w' w.heap.size ad' xs.length cap' (fun i=>.int .u32 (xs.getD i 0:Nat))∧Below w.heap.size w w':=by
 have hmm:=@run_makeMap Tryz.prog;have hwn:IntKind.i64.wrap (n:Int)=(n:Int):=by rw[IntKind.wrap_i64];omega
 go_enter Tryz.func52,Tryz.ntmps52
 go_wp2_with fail
 have m0:Rm.IsMap (w.alloc (.map #[] 0)) w.heap.size (metP []) 0:=(Rm.IsMap.fresh w).congr fun k=>rfl
 have B0:Below w.heap.size w (w.alloc (.map #[] 0)):=(Below.refl _ w).alloc (Nat.le_refl _) _;have hl0:=hl.kept B0;have B0A:Aside (Below w.heap.size w (w.alloc (.map #[] 0))):=B0;generalize w.alloc (.map #[] 0)=w1 at m0 hl0 B0A ⊢;obtain⟨b,hbe⟩:∃b,w.heap.size=b:=⟨_,rfl⟩
 have lb:Aside (w.heap.size≤b):=Nat.le_of_eq hbe;rw[hbe]at m0
 conv in (occs := *) (Value.map (Option.some w.heap.size)) => all_goals rw [hbe]
 clear hbe hmm B0 hl;have hbA:Aside (∀i,i<n→H i<4294967296):=hb;have hlA:Aside (HsAt w1 ad n H):=hl0;have mA:Aside (Rm.IsMap w1 b (metP []) 0):=m0;clear hb hl0 m0;go_loopg [9,5] n (fun g si _sh wr=>∃(j:Nat) (ks:List Nat),j+g=n∧si = .int .i64 (j:Int)∧Aside (UnP H j ks)∧Aside (Rm.IsMap wr b (metP ks) j)∧Aside (Went (fun k=>k=b) w1 wr))
 case atStart=>exact⟨0,[],by omega,rfl,UnP.start H,mA,⟨rfl,rfl,rfl,Nat.le_refl _,fun _ _ _=>rfl⟩⟩
 case round =>
  obtain⟨j,ks,hj,rfl,hU,hM,hW⟩:=hrel;have hJ:Aside (j+gk=n):=hj;have hjn:j≤n:=by omega
  clear hj;by_cases hlt:j<n
  ·have hlt':(j:Int)<(n:Int):=by omega
   obtain⟨bl,off,rfl,hbl⟩:=hlA.out.some (by omega);have hc:wr.cell? ⟨bl,off+j,none⟩=Option.some (.int .u32 (H j:Int)):=by
    have hne:bl≠b:=fun e=>by
     have hc:=hlA.out.get hlt;obtain⟨es,ck,l,hq,_⟩:=mA.out;rw[e]at hc;unfold World.cell? at hc;rw[hq]at hc;simp at hc
    have:=hW.out.block bl hbl hne;have hc:=hlA.out.get hlt;unfold World.cell? at hc ⊢;rw[this];exact hc
   have hb1:=hbA.out j hlt;have hjw:IntKind.i64.wrap ((j:Int)+1)=(j:Int)+1:=by rw[IntKind.wrap_i64];omega
   have hltA:Aside (j<n):=hlt;by_cases big:1<H j
   ·have big':(1:Int)<(H j:Int):=by omega
    have put:∃w2,(Instr.mapUpdate 119 (.map (Option.some b)) (.int .u32 (H j:Int)) (.agg #[])).run Tryz.prog wr = .ok () w2∧Aside (∃ks',UnP H (j+1) ks'∧Rm.IsMap w2 b (metP ks') (j+1))∧Aside (Went (fun k=>k=b) wr w2):=by
     by_cases c:H j∈ks
     ·obtain⟨w2,hp,m2,wt⟩:=Ru.map_put hM.out (H j:Int) 0;refine⟨w2,hp,?_,⟨wt.os,wt.tape,wt.output,wt.size,wt.block⟩⟩;refine⟨ks,hU.out.skip (.inr c),?_⟩;exact m2.congr fun k=>by
       unfold Rm.at1;by_cases e:k=(H j:Int)
       ·rw[if_pos e,e,metP_in c]
       ·rw[if_neg e]
     ·obtain⟨w2,hp,m2,wt⟩:=Ru.map_put hM.out (H j:Int) 0;refine⟨w2,hp,⟨ks ++ [H j],hU.out.add big c,?_⟩,⟨wt.os,wt.tape,wt.output,wt.size,wt.block⟩⟩;exact m2.congr fun k=>metP_snoc ks (H j) k
    obtain⟨w2,hput,hq,hwt⟩:=put;clear hlt hb1 big;generalize H j=c at hc hput big'
    go_wp2_with fail
    go_roundg (gk-1)
    case measure=>have:=hJ.out;have:=hltA.out;omega
    case rel =>
     obtain⟨ks',u',m'⟩:=hq.out;have:=hJ.out;have:=hltA.out;exact⟨j+1,ks',by omega,by go_num,u',m',hW.out.trans hwt.out⟩
   ·have big':¬(1:Int)<(H j:Int):=by omega
    have u':Aside (UnP H (j+1) ks):=hU.out.skip (.inl big);clear hlt hb1 big;generalize H j=c at hc big'
    go_wp2_with fail
    go_roundg (gk-1)
    case measure=>have:=hJ.out;have:=hltA.out;omega
    case rel =>
     have:=hJ.out;have:=hltA.out;exact⟨j+1,ks,by omega,by go_num,u',hM.out.more (Nat.le_succ j),hW⟩
  ·obtain rfl:j=n:=by omega
   have KK:=Ru.keys_any (Option.some b) wr;have mk:Rm.MapV (wr.alloc (.cells #[.map (Option.some b)] 119)) (Option.some b) (metP ks) j:=hM.out.same (Below.heap_alloc _ _ _ hM.out.lt);have KS:=Ru.sorted_any wr.heap.size j (Option.some b) (metP ks) (wr.alloc (.cells #[.map (Option.some b)] 119)) (by omega) (by simp) (by simp) mk;have Bn:Aside (Below w.heap.size w (wr.alloc (.cells #[.map (Option.some b)] 119))):=(below_map B0A.out lb.out hW.out).alloc (below_map B0A.out lb.out hW.out).size _;clear hlt hJ hjn mk
   go_wp2_with (first
    | (go_at_call 88;refine KK.mono ?_;clear KK;rintro e w4 ⟨rfl,rfl⟩)
    | (go_at_call 68;refine KS.mono ?_;clear KS;rintro e w5 ⟨ad5,cap5,xs,rfl,kx,sx,lx,ox,nx,bx⟩;have fA:Aside (Rm.Keys (metP ks) xs∧xs.Pairwise (· < ·)∧Rs.OwnH w5 ad5 cap5 xs∧(∀k,Rs.At ad5 k→(wr.alloc (.cells #[.map (Option.some b)] 119)).heap.size≤k)∧Below (wr.alloc (.cells #[.map (Option.some b)] 119)).heap.size (wr.alloc (.cells #[.map (Option.some b)] 119)) w5):=⟨kx,sx,ox,nx,bx⟩;have lA:Aside (xs.length≤j):=lx;clear kx sx lx ox nx bx))
   go_ret
   obtain⟨kx,sx,ox,nx,bx⟩:=fA.out;have cast:xs=(xs.map Int.toNat).map (fun x:Nat=>(x:Int)):=by
    rw[List.map_map];refine(List.map_id' xs).symm.trans (List.map_congr_left fun x hx=>?_);obtain⟨y,_,e⟩:=metP_some.1 ((kx.2 x).1 hx);show x=((x.toNat:Nat):Int)
    omega
   have mem:∀x,x∈xs.map Int.toNat↔x∈ks:=fun x=>by
    constructor
    ·intro hx;obtain⟨z,hz,rfl⟩:=List.mem_map.1 hx;obtain⟨y,hy,e⟩:=metP_some.1 ((kx.2 z).1 hz);rw[← e];exact hy
    ·intro hx;have:=(kx.2 (x:Int)).2 (metP_some.2 ⟨x,hx,rfl⟩);exact List.mem_map.2 ⟨_,this,by simp⟩
   have so:(xs.map Int.toNat).Pairwise (· < ·):=by
    rw[cast]at sx;exact(List.pairwise_map.1 sx).imp fun h=>by omega
   have Bq:Below w.heap.size w w5:=Bn.out.trans ⟨bx.os,bx.tape,bx.output,bx.size,fun k hk=>bx.block k (Nat.lt_of_lt_of_le hk Bn.out.size)⟩;refine⟨ad5,cap5,xs.map Int.toNat,by rw[List.length_map];rfl,⟨so,fun x=>(mem x).trans (hU.out.mem x)⟩,by rw[List.length_map];exact lA.out,own_rebase (own_nat ox _ cast) fun k hk=>Nat.le_trans Bn.out.size (nx k hk),Bq⟩
theorem room_any {ad:Option Addr}{n cap:Nat}{H:Nat→Nat}(hl:HsAt w ad n H) (hb:∀i,i<n→H i<4294967296) (hn:n≤1000) :
  Calls Tryz.prog 26 #[.slice ad n cap] w fun e w'=>∃xs,e = .returned (.int .i64 ((200*max xs.length 1:Nat):Int))∧Unl H n xs∧xs.length≤n∧Below w.heap.size w w':=by
 have K:=unlike_any (cap:=cap) hl hb hn;clear hl hb;go_enter Tryz.func26,Tryz.ntmps26
 go_wp2_with (first
  | (go_at_call 52;refine K.mono ?_;clear K;rintro e w1 ⟨ad',cap',xs,rfl,u,hx,o,B⟩;have uA:Aside (Unl H n xs):=u;clear u o))
 have e1:IntKind.i64.wrap (200*max (xs.length:Int) 1)=((200*max xs.length 1:Nat):Int):=by rw[IntKind.wrap_i64];omega
 go_ret
 exact⟨xs,by go_num,uA.out,hx,B⟩
end
end Go.Proofs.YtnnmdkaoiofabaaGreat.Sf
