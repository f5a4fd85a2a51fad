/-
  Two levels of a store exchanged (Needs, Swap): what they tell, what they make. Two levels of a store exchanged (Swap): each handle's function is what it was.
-/
import Derived.Test.YtnnmdkaoiofabaaGreatSwKL
namespace Go.Proofs.YtnnmdkaoiofabaaGreat.Sw
open Go Go.RowKit
open Mk (frees downL frees_of)
theorem swV_eq (v:Nat→Nat) (k:Nat):Od.swV v k=swv v k:=by
 funext i;unfold Od.swV Od.upd swv;by_cases a:i=k+1
 ·subst a;simp
 ·by_cases b:i=k
  ·subst b;simp
  ·simp[a,b]
theorem swL_inv {n:Nat}{v l:Nat→Nat}{k:Nat}(kn:k+1<n) (inv:∀i,i<n→l (v i)=i) (vinj:∀i j,i<n→j<n→v i=v j→i=j):∀i,i<n→Od.swL v l k (swv v k i)=i:=fun i hi=>by
 have ne:v k≠v (k+1):=fun e=>by have:=vinj k (k+1) (by omega) kn e;omega
 unfold Od.swL Od.upd;by_cases a:i=k
 ·subst a;rw[swv_k,if_neg ne.symm,if_pos rfl]
 ·by_cases b:i=k+1
  ·subst b;rw[swv_k1,if_pos rfl]
  ·rw[swv_far a b,if_neg fun e=>a (vinj i k hi (by omega) e),if_neg fun e=>b (vinj i (k+1) hi kn e)];exact inv i hi
theorem wz_zero {M:Mdl}(o:M.Ok) (x:Nat):M.wz x=0↔x ∉ M.hs:=by
 by_cases h:x∈M.hs
 ·rw[Mdl.wz_in h]
  have:0<ndZ (M.nd x):=nodeZ_pos (Mdl.isNode_lt o (o.lo _ h).1) (Mdl.isNode_lt o (o.hi _ h).1) (o.ne _ h);exact⟨fun e=>by omega,fun e=>absurd h e⟩
 ·rw[Mdl.wz_no h];exact⟨fun _=>h,fun _=>rfl⟩
section
variable {w w':World}{S k c last bn Po:Nat}{M:Mdl}{I:Ins}{F:Nat→Prop}{N:List (Nat×Nd)}{L:List (Nd×Nat)}{l':Nat→Nat}
theorem relay_st (h:StI w S M I) (kn:k+1<M.n) (P:PInv M k (mvB M k M.hs) c N L last) (room:M.hs.length+c≤M.room) (hm:IsH w bn N) (ho:Od.IsOrd w Po M.n (swv M.v k) l') (inv:∀i,i<M.n→l' (swv M.v k i)=i) :
  Calls Tryz.prog 82 #[.pointer (some ⟨S,0,none⟩),.pointer (some ⟨Po,0,none⟩),.map (some bn)] w fun e w'=>e = .returned (.tuple #[])∧∃I',StI w' S (laidM M k N) I'∧Wf (Fp S I) (Fp S I') w w':=by
 have p:=h.pu;have top:∀x∈M.hs,x<2+M.room:=fun x hx=>by have:=p.top x hx;have:=p.wide;omega
 have plan:=P.plan p.ok kn top p.room2 room;have o':=plan.ok p.ok;have n8:=p.ok.le8;have inM:∀x∈N.map (·.1),x∈(laidM M k N).hs:=fun x hx=>by
  refine List.mem_filter.2 ⟨List.mem_range.2 ?_,by simp[hx]⟩;by_cases i:x∈M.hs
  ·exact top x i
  ·obtain⟨d,hd⟩:=key_mem hx;have:=(P.made x d hd i).2.2.2.2.2;have:=P.last_le;omega
 have bd:∀x∈(laidM M k N).hs,x<2+M.room:=fun x hx=>List.mem_range.1 (List.mem_filter.1 hx).1
 have K:=relay_any (X:=⟨S,M.n,M.room,I.W,I.cap,I.P,I.R,I.mp,I.lines,swv M.v k,l',I.ad,I.on,I.wd⟩) (v0:=M.v) (l0:=I.l) h.raw p.room2 p.wide (Po:=Po) (bn:=bn) ho hm (nd:=(laidM M k N).nd) (fun x d hd=>laid_in P.keys hd) (fun x d hd=>by
  have m:=inM x (mem_key hd);have e:(laidM M k N).nd x=d:=laid_in P.keys hd;have a1:=o'.lv x m;have a2:=Mdl.isNode_lt o' (o'.lo x m).1;have a3:=Mdl.isNode_lt o' (o'.hi x m).1;rw[e]at a1 a2 a3;have a4:d.1<M.n:=a1;have:=bd x m;exact⟨(o'.range x m).1,by show x≤1+M.room;omega,by omega,a2,a3⟩)
 refine K.mono ?_;rintro e w' ⟨rfl,ad,cap,W,wd,fa',fc',raw,hlo,hhi,htop,hwd,had,hfa,g⟩;change I.W≤W at hlo;change W≤M.room at hhi;have hw:∀i,i<W→wd i=(laidM M k N).wz (i+2):=fun i hi=>by
  have hwi:=hwd i hi;change wd i=if i+2∈N.map (·.1)then ndZ ((laidM M k N).nd (i+2))else if i<I.W then I.wd i else 0 at hwi
  rw[hwi];by_cases a:i+2∈N.map (·.1)
  ·rw[if_pos a,Mdl.wz_in (inM _ a)]
  ·rw[if_neg a];have same:i+2∈(laidM M k N).hs↔i+2∈M.hs:=⟨fun m=>by
    have:=(List.mem_filter.1 m).2;simp only[decide_eq_true_eq]at this;exact this.resolve_right a,fun m=>plan.keep _ m⟩
   by_cases b:i<I.W
   ·rw[if_pos b,p.wd i b];by_cases m:i+2∈M.hs
    ·rw[Mdl.wz_in m,Mdl.wz_in (same.2 m),laid_no a]
    ·rw[Mdl.wz_no m,Mdl.wz_no fun q=>m (same.1 q)]
   ·rw[if_neg b,Mdl.wz_no fun q=>b (by have:=p.top _ (same.1 q);omega)]
 have htp:∀x∈(laidM M k N).hs,x<2+W:=fun x hx=>by
  have:=(List.mem_filter.1 hx).2;simp only[decide_eq_true_eq]at this;rcases this with m|m
  ·have:=p.top x m;omega
  ·exact htop x m
 obtain⟨f1,f2,f3⟩:=frees_of (W:=W) (wd:=wd) o' htp (fun i hi=>by rw[hw i hi,wz_zero o'];exact Classical.not_not);refine⟨rfl,⟨I.P,I.R,I.mp,ad,cap,W,fa',fc',frees wd (downL W W),I.lines,I.c,wd,I.nm,l',I.on,true⟩,⟨raw.blk,raw.mem,raw.own,raw.fre,raw.map,⟨o',inv,p.room1,p.room2,p.lines1,p.lines2,hhi,htp,hw,f1,f2,f3,p.fit⟩,fun e=>by cases e⟩,g.os,g.tape,g.output,g.size,fun b hb hf=>g.block b hb fun e=>hf ?_,fun b hb=>?_⟩
 ·rcases e with (e|e|e|e|e)|e
  ·exact .inl e
  ·exact .inr (.inl e)
  ·exact .inr (.inr (.inl e))
  ·exact .inr (.inr (.inr (.inl e)))
  ·exact .inr (.inr (.inr (.inr (.inr e))))
  ·exact .inr (.inr (.inr (.inr (.inl e))))
 ·rcases hb with e|e|e|e|e|e
  ·exact .inl (.inl e)
  ·exact .inl (.inr (.inl e))
  ·exact .inl (.inr (.inr (.inl e)))
  ·exact .inl (.inr (.inr (.inr (.inl e))))
  ·exact(had b e).imp (fun e=>.inr (.inr (.inr (.inr (.inl e))))) id
  ·exact(hfa b e).imp (fun e=>.inr (.inr (.inr (.inr (.inr e))))) id
def atZ (M:Mdl) (z:Int) (l:List Nat):Nat:=(l.filter fun h=>decide (((M.nd h).1:Int)=z)).length
theorem atZ_nat (M:Mdl) (k:Nat):atZ M (k:Int) M.hs=atLev M k:=by
 unfold atZ atLev;congr 1;refine List.filter_congr fun h _=>?_
 rw[Bool.eq_iff_iff,decide_eq_true_iff,decide_eq_true_iff];omega
theorem atZ_snoc (M:Mdl) (z:Int) (l:List Nat) (h:Nat):atZ M z (l ++ [h])=atZ M z l+if ((M.nd h).1:Int)=z then 1 else 0:=by
 unfold atZ;rw[List.filter_append,List.length_append,List.filter_cons];by_cases e:((M.nd h).1:Int)=z
 ·rw[if_pos (by simpa using e),if_pos e];rfl
 ·rw[if_neg (by simpa using e),if_neg e];rfl
theorem atZ_le (M:Mdl) (z:Int) (l:List Nat):atZ M z l≤l.length:=List.length_filter_le _ _
set_option maxRecDepth 100000 in
theorem needs_any (s:St w S F M) (z:Int) :
  Calls Tryz.prog 81 #[.pointer (some ⟨S,0,none⟩),.int .i64 z] w fun e w'=>e = .returned (.int .i64 ((2*atZ M z M.hs:Nat):Int))∧Below w.heap.size w w':=by
 have o:=s.ok;have oA:Aside M.Ok:=o;have sA:Aside (St w S F M):=s;have hlen:M.hs.length≤32768:=by have:=o.len;have:=s.room.2;omega
 have topA:Aside (∀x∈M.hs,x<4294967296):=fun x hx=>by have:=s.nodes (.inr hx);have:=s.room.2;omega
 have K1:=s_all s;clear s o;go_enter Tryz.func81,Tryz.ntmps81
 go_wp2_with (first
  | (go_at_call 62;refine K1.mono ?_;clear K1;rintro e w1 ⟨ad0,cap0,rfl,own0,b1⟩))
 obtain⟨n,hn⟩:∃n,M.hs.length=n:=⟨_,rfl⟩
 rw[hn]at own0 hlen ⊢;have own0A:Aside (OwnR 36 w1 w.heap.size ad0 n cap0 (fun i=>.int .u32 (M.hs.getD i 0:Nat))):=own0;have b1A:Aside (Below w.heap.size w w1):=b1;have hnA:Aside (M.hs.length=n):=hn;clear own0 b1 hn;go_loopg [11,5,7] n (fun g s11 s5 _ wr=>∃j:Nat,j+g=n∧s11 = .int .i64 (j:Int)∧s5 = .int .i64 ((2*atZ M z (M.hs.take j):Nat):Int)∧wr=w1)
 case atStart=>exact⟨0,by omega,rfl,rfl,rfl⟩
 case round =>
  obtain⟨j,hj,rfl,rfl,rfl⟩:=hrel;have hJ:Aside (j+gk=n):=hj;have hjn:j≤n:=by omega
  clear hj;have hqb:=atZ_le M z (M.hs.take j);rw[List.length_take]at hqb;by_cases hlt:j<n
  ·have hlt':(j:Int)<(n:Int):=by omega
   have hji:¬(n:Int)≤(j:Int):=by omega
   have ownr:=own0A.out;obtain⟨g,rfl⟩:=ownr.form (by omega);have cw:=ownr.cell hlt;clear ownr;obtain⟨xm,_⟩:=take_new oA.out (show j<M.hs.length by rw[hnA.out];exact hlt);have tkA:Aside (M.hs.take (j+1)=M.hs.take j ++ [M.hs.getD j 0]):=take_snoc M.hs (by rw[hnA.out];exact hlt);generalize M.hs.getD j 0=x at cw xm tkA;have xl:=topA.out x xm;have KL:=s_level (sA.out.below (b1A.out.mono (Nat.le_refl _))) x xl;rw[Mdl.levI_in oA.out xm]at KL;have hltA:Aside (j<n):=hlt;clear hlt;obtain⟨q,hq⟩:∃q,atZ M z (M.hs.take j)=q:=⟨_,rfl⟩
   have hqA:Aside (atZ M z (M.hs.take j)=q):=hq;rw[hq]at hqb ⊢;clear hq;have h2q:((2*q:Nat):Int)=2*(q:Int):=by omega
   by_cases e:((M.nd x).1:Int)=z
   ·have eA:Aside (((M.nd x).1:Int)=z):=e;have eb:(((M.nd x).1:Int) == z)=true:=by rw[beq_iff_eq];exact e
    have hwq:IntKind.i64.wrap (2*(q:Int)+2)=2*(q:Int)+2:=by rw[IntKind.wrap_i64];omega
    have hwq2:wrap64 (2*(q:Int)+2)=2*(q:Int)+2:=by unfold wrap64;omega
    clear e;rw[h2q];clear h2q;generalize ((M.nd x).1:Int)=y at KL eb
    go_wp2_with (first
     | (go_at_call 63;refine KL.mono ?_;clear KL;rintro e w2 ⟨rfl,rfl⟩))
    go_roundg (gk-1)
    case measure=>have:=hJ.out;have:=hltA.out;omega
    case rel =>
     have:=hJ.out;have:=hltA.out;refine⟨j+1,by omega,by go_num,?_,rfl⟩;rw[tkA.out,atZ_snoc,hqA.out,if_pos eA.out];congr 1
   ·have eA:Aside (¬((M.nd x).1:Int)=z):=e;have eb:(((M.nd x).1:Int) == z)=false:=by rw[beq_eq_false_iff_ne];exact e
    clear e;generalize ((M.nd x).1:Int)=y at KL eb
    go_wp2_with (first
     | (go_at_call 63;refine KL.mono ?_;clear KL;rintro e w2 ⟨rfl,rfl⟩))
    go_roundg (gk-1)
    case measure=>have:=hJ.out;have:=hltA.out;omega
    case rel =>
     have:=hJ.out;have:=hltA.out;refine⟨j+1,by omega,by go_num,?_,rfl⟩;rw[tkA.out,atZ_snoc,hqA.out,if_neg eA.out];rfl
  ·obtain rfl:j=n:=by omega
   have tk:M.hs.take j=M.hs:=List.take_of_length_le (by rw[hnA.out];exact Nat.le_refl _);rw[tk]
   go_wp2_with fail
   go_ret
   exact⟨rfl,b1A.out⟩
end
end Go.Proofs.YtnnmdkaoiofabaaGreat.Sw
namespace Go.Proofs.YtnnmdkaoiofabaaGreat.Sw
open Go Go.RowKit
section
variable {w w':World}{S k:Nat}{M:Mdl}{F:Nat→Prop}
theorem swap_full (s:St w S F M) (kn:k+1<M.n) (full:M.room<M.hs.length+2*atLev M k) :
  Calls Tryz.prog 44 #[.pointer (some ⟨S,0,none⟩),.int .i64 (k:Int)] w fun e w'=>e = .returned (.int .i64 60)∧Below w.heap.size w w':=by
 have ok:=s.ok;have n8:=ok.le8;have sA:Aside (St w S F M):=s;have K1:=s_order' s;have h8:∀i,i<M.n→M.v i<M.n:=ok.vlt;have hl:=ok.len;have hr:=s.room;have ha:atLev M k≤M.hs.length:=by unfold atLev;exact List.length_filter_le _ _
 have hwr:IntKind.i64.wrap ((M.room:Int)-(M.hs.length:Int))=(M.room:Int)-(M.hs.length:Int):=by rw[IntKind.wrap_i64];omega
 have hgt:(M.room:Int)-(M.hs.length:Int)<((2*atLev M k:Nat):Int):=by omega
 have KN:Aside (∀u,Below w.heap.size w u→Calls Tryz.prog 81 #[.pointer (some ⟨S,0,none⟩),.int .i64 (k:Int)] u fun e w'=>e = .returned (.int .i64 ((2*atLev M k:Nat):Int))∧Below u.heap.size u w'):=fun u b=>by
  have:=needs_any (sA.out.below b) (k:Int);rwa [atZ_nat]at this
 have KR:Aside (∀u,Below w.heap.size w u→Calls Tryz.prog 27 #[.pointer (some ⟨S,0,none⟩)] u fun e w'=>e = .returned (.int .i64 (M.room:Int))∧w'=u):=fun u b=>s_room (sA.out.below b)
 have KL:Aside (∀u,Below w.heap.size w u→Calls Tryz.prog 22 #[.pointer (some ⟨S,0,none⟩)] u fun e w'=>e = .returned (.int .i64 (M.hs.length:Int))∧∃q,w'=u.drewN q):=fun u b=>s_len (sA.out.below b)
 clear s ok;generalize ((2*atLev M k:Nat):Int)=z at hgt KN;go_enter Tryz.func44,Tryz.ntmps44
 go_wp2_with (first
  | (go_at_call 14;refine K1.mono ?_;clear K1;rintro e w1 ⟨P,l,rfl,o1,inv,b1,hP⟩;have K2:=Od.swap_in o1 n8 k kn h8)
  | (go_at_call 80;refine K2.mono ?_;clear K2;rintro e w2 ⟨rfl,o2,m2⟩;have b2:Below w.heap.size w w2:=b1.trans (m2.below b1.size hP);have K3:=KN.out w2 b2)
  | (go_at_call 81;refine K3.mono ?_;clear K3;rintro e w3 ⟨rfl,b3⟩;have b4:Below w.heap.size w w3:=b2.trans (b3.mono b2.size);have K4:=KR.out w3 b4;have K5:=KL.out w3 b4)
  | (go_at_call 27;refine K4.mono ?_;clear K4;rintro e w4 ⟨rfl,rfl⟩)
  | (go_at_call 22;refine K5.mono ?_;clear K5;rintro e w4 ⟨rfl,q,rfl⟩))
 go_ret
 exact⟨rfl,⟨b4.os,b4.tape,b4.output,b4.size,b4.block⟩⟩
set_option maxHeartbeats 1000000 in
theorem swap_ok (s:St w S F M) (kn:k+1<M.n) (room:M.hs.length+2*atLev M k≤M.room) :
  Calls Tryz.prog 44 #[.pointer (some ⟨S,0,none⟩),.int .i64 (k:Int)] w fun e w'=>e = .returned (.int .i64 0)∧∃F' M',Plan M k M'∧M'.hs.length≤M.hs.length+2*atLev M k∧St w' S F' M'∧Wf F F' w w':=by
 have ok:=s.ok;have n8:=ok.le8;have sA:Aside (St w S F M):=s;have okA:Aside M.Ok:=ok;have K1:=s_order' s;have h8:∀i,i<M.n→M.v i<M.n:=ok.vlt;have hr:=s.room;have roomA:Aside (M.hs.length+2*atLev M k≤M.room):=room;have hwr:IntKind.i64.wrap ((M.room:Int)-(M.hs.length:Int))=(M.room:Int)-(M.hs.length:Int):=by rw[IntKind.wrap_i64];omega
 have hgt:¬(M.room:Int)-(M.hs.length:Int)<((2*atLev M k:Nat):Int):=by omega
 have KN:Aside (∀u,Below w.heap.size w u→Calls Tryz.prog 81 #[.pointer (some ⟨S,0,none⟩),.int .i64 (k:Int)] u fun e w'=>e = .returned (.int .i64 ((2*atLev M k:Nat):Int))∧Below u.heap.size u w'):=fun u b=>by
  have:=needs_any (sA.out.below b) (k:Int);rwa [atZ_nat]at this
 have KR:Aside (∀u,Below w.heap.size w u→Calls Tryz.prog 27 #[.pointer (some ⟨S,0,none⟩)] u fun e w'=>e = .returned (.int .i64 (M.room:Int))∧w'=u):=fun u b=>s_room (sA.out.below b)
 have KL:Aside (∀u,Below w.heap.size w u→Calls Tryz.prog 22 #[.pointer (some ⟨S,0,none⟩)] u fun e w'=>e = .returned (.int .i64 (M.hs.length:Int))∧∃q,w'=u.drewN q):=fun u b=>s_len (sA.out.below b)
 have KE:Aside (∀u,Below w.heap.size w u→Calls Tryz.prog 83 #[.pointer (some ⟨S,0,none⟩),.int .i64 (k:Int)] u _):=fun u b=>exchanged_any (sA.out.below b) kn room
 have hcA:Aside (∀c,c≤2*atLev M k→M.hs.length+c≤M.room):=fun c hc=>by omega
 clear s ok room;generalize ((2*atLev M k:Nat):Int)=z at hgt KN;go_enter Tryz.func44,Tryz.ntmps44
 go_wp2_with (first
  | (go_at_call 14;refine K1.mono ?_;clear K1;rintro e w1 ⟨P,l,rfl,o1,inv,b1,hP⟩;have K2:=Od.swap_in o1 n8 k kn h8;rw[swV_eq]at K2;have invA:Aside (∀i,i<M.n→Od.swL M.v l k (swv M.v k i)=i):=swL_inv kn inv okA.out.vinj;clear inv)
  | (go_at_call 80;refine K2.mono ?_;clear K2;rintro e w2 ⟨rfl,o2,m2⟩;have b2:Below w.heap.size w w2:=b1.trans (m2.below b1.size hP);have K3:=KN.out w2 b2)
  | (go_at_call 81;refine K3.mono ?_;clear K3;rintro e w3 ⟨rfl,b3⟩;have o3:=o2.below b3;have b4:Below w.heap.size w w3:=b2.trans (b3.mono b2.size);have K4:=KR.out w3 b4;have K5:=KL.out w3 b4)
  | (go_at_call 27;refine K4.mono ?_;clear K4;rintro e w4 ⟨rfl,e4⟩;subst w4)
  | (go_at_call 22;refine K5.mono ?_;clear K5;rintro e w4 ⟨rfl,q,rfl⟩;have b5:Below w.heap.size w (w3.drewN q):=⟨b4.os,b4.tape,b4.output,b4.size,b4.block⟩;have o5:Od.IsOrd (w3.drewN q) P M.n (swv M.v k) (Od.swL M.v l k):=o3.of_block rfl;have K6:=KE.out (w3.drewN q) b5)
  | (go_at_call 83;refine K6.mono ?_;clear K6;rintro e w6 ⟨bn,N,L,last,c,rfl,hm,pi,hc,b6,hbn⟩;have o6:=o5.below b6;have b7:Below w.heap.size w w6:=b5.trans (b6.mono b5.size);obtain⟨I,hI,hF⟩:=sA.out.below b7;have plA:Aside (Plan M k (laidM M k N)∧(laidM M k N).hs.length≤M.hs.length+2*atLev M k):=⟨pi.plan okA.out kn (fun x hx=>(sA.out.nodes (.inr hx))) hr.2 (hcA.out c hc),by have:=pi.laid_len;omega⟩;have K7:=relay_st hI kn pi (hcA.out c hc) hm o6 invA.out;have hFA:Aside (F=Fp S I):=hF;clear hF pi hm hI)
  | (go_at_call 82;refine K7.mono ?_;clear K7;rintro e w8 ⟨rfl,I',s8,g8⟩))
 go_ret
 refine⟨rfl,Fp S I',laidM M k N,plA.out.1,plA.out.2,⟨I',s8,rfl⟩,?_⟩;rw[hFA.out];exact(Wf.of_below b7 (Fp S I)).trans g8
end
end Go.Proofs.YtnnmdkaoiofabaaGreat.Sw
