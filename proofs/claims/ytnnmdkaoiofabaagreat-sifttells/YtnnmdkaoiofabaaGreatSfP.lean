/-
  Sifting: the plan: the variables by how many nodes lie on their levels.
-/
import Derived.Test.YtnnmdkaoiofabaaGreatCtY
import Derived.Test.YtnnmdkaoiofabaaGreatRkB
namespace Go.Proofs.YtnnmdkaoiofabaaGreat.Sf
open Go Go.RowKit
theorem info_int : (Tryz.prog.info? 3).map (fun i=>(i.zero,i.size,i.bytes))=some (some (.int .i64 0),1,8):=by kernel_rfl
theorem append_i {w:World}{B n cap:Nat}{ad:Option Addr}{V:Nat→Value}{ops:Array Oper}{rest:List Oper}{o:Oper}{a:Act}{Q:Exit→Act→World→Prop}(hown:OwnR 3 w B ad n cap V) (blk:Nat) (p:Int) (hblk:w.heap[blk]? = some (.cells #[.int .i64 p] 3 (0,0))) (hn:n≤1000000) (hB:B≤w.heap.size)
  (hgd:o.guard=none) (s y:Operand)
  (ho:o.op = .call { callee:=.builtin .append,args:=#[s,y],argTypes:=#[42,42] }) (hs:a.eval s = .slice ad n cap) (hx:a.eval y = .slice (some ⟨blk,0,none⟩) 1 1)
  (h:∀g cap' w',OwnR 3 w' B (some ⟨g,0,none⟩) (n+1) cap' (fun i=>if i=n then .int .i64 p else V i)→Went (At ad) w w'→(At ad g∨g=w.heap.size)→wpList Tryz.prog ops Q rest (a.put o.dst (.slice (some ⟨g,0,none⟩) (n+1) cap')) w') :
  wpList Tryz.prog ops Q (o :: rest) a w:=by
 obtain⟨i,hi,hzz⟩:=Option.map_eq_some_iff.1 info_int;simp only[Prod.mk.injEq]at hzz;obtain⟨hz,hs2,hb⟩:=hzz;exact append_row 42 3 i _ Tryz.underlying42 hi hz hs2 8 hb (by decide) (by kernel_rfl) hown blk (.int .i64 p) rfl hblk hn hB hgd s y ho hs hx h
def plK (v c:Nat→Nat):Nat→Int→Option Int
 | 0=>fun _=>none
 | j+1=>Rk.at1 (plK v c j) (v j:Int) (some (c j:Int))
theorem plK_out {v c:Nat→Nat}{id:Int}:∀{j},(∀i,i<j→(v i:Int)≠id)→plK v c j id=none
 | 0,_=>rfl
 | j+1,h=>by
  show (if id=(v j:Int)then some (c j:Int)else plK v c j id)=none;rw[if_neg fun e=>h j (by omega) e.symm,plK_out fun i hi=>h i (by omega)]
theorem plK_in {v c:Nat→Nat}:∀{j i},(∀a b,a<j→b<j→v a=v b→a=b)→i<j→plK v c j (v i:Int)=some (c i:Int)
 | 0,_,_,h=>absurd h (Nat.not_lt_zero _)
 | j+1,i,inj,h=>by
  show (if (v i:Int)=(v j:Int)then some (c j:Int)else plK v c j (v i:Int))=_;by_cases e:i=j
  ·subst e;rw[if_pos rfl]
  ·rw[if_neg fun q=>e (inj i j h (by omega) (by omega)),plK_in (fun a b ha hb=>inj a b (by omega) (by omega)) (by omega)]
theorem plK_some {v c:Nat→Nat}{id key:Int}:∀{j},plK v c j id=some key→∃i,i<j∧(v i:Int)=id∧(c i:Int)=key
 | 0,h=>by cases h
 | j+1,h=>by
  have h:(if id=(v j:Int)then some (c j:Int)else plK v c j id)=some key:=h;by_cases e:id=(v j:Int)
  ·rw[if_pos e]at h;cases h;exact⟨j,by omega,e.symm,rfl⟩
  ·rw[if_neg e]at h;obtain⟨i,hi,q⟩:=plK_some h;exact⟨i,by omega,q⟩
def Ahead (K:Int→Option Int) (a b:Nat):Prop:=∃ka kb:Int,K (a:Int)=some ka∧K (b:Int)=some kb∧(kb<ka∨ka=kb∧a<b)
structure PlanIs (K:Int→Option Int) (n:Nat) (xs:List Nat):Prop where
 len:xs.length=n
 lt:∀x∈xs,x<n
 by_:xs.Pairwise (Ahead K)
structure PopP (K:Int→Option Int) (n m:Nat) (xs:List Nat) (K':Int→Option Int):Prop where
 len:xs.length=m
 lt:∀x∈xs,x<n
 by_:xs.Pairwise (Ahead K)
 left:∀id,K' id=if (∃x∈xs,(x:Int)=id)then none else K id
 rest:∀x∈xs,∀y:Nat,∀key,K' (y:Int)=some key→Ahead K x y
theorem PopP.start (K:Int→Option Int) (n:Nat):PopP K n 0 [] K:=
 ⟨rfl,fun _ h=>absurd h List.not_mem_nil,List.Pairwise.nil,fun id=>(by rw[if_neg];rintro⟨x,hx,_⟩;cases hx),fun _ h=>absurd h List.not_mem_nil⟩
theorem PopP.plan {K K':Int→Option Int}{n:Nat}{xs:List Nat}(p:PopP K n n xs K'):PlanIs K n xs:=⟨p.len,p.lt,p.by_⟩
theorem PopP.step {K K':Int→Option Int}{n m:Nat}{xs:List Nat}(p:PopP K n m xs K') (dom:∀id key,K id=some key→∃i:Nat,i<n∧(i:Int)=id){x:Int×Int}(hx:K' x.1=some x.2) (top:∀id key,K' id=some key→Rk.bet (id,key) x=false) :
  ∃y:Nat,x.1=(y:Int)∧y<n∧PopP K n (m+1) (xs ++ [y]) (Rk.at1 K' x.1 none):=by
 have sub:∀id key,K' id=some key→K id=some key:=fun id key h=>by
  rw[p.left]at h;split at h
  ·cases h
  ·exact h
 obtain⟨y,hy,ey⟩:=dom _ _ (sub _ _ hx);refine⟨y,ey.symm,hy,by rw[List.length_append,p.len];rfl,fun z hz=>?_,?_,fun id=>?_,fun a ha b key hb=>?_⟩
 ·rcases List.mem_append.1 hz with h|h
  ·exact p.lt z h
  ·rw[List.mem_singleton.1 h];exact hy
 ·rw[List.pairwise_append];refine⟨p.by_,List.pairwise_singleton _ _,fun a ha b hb=>?_⟩;rw[List.mem_singleton.1 hb];exact p.rest a ha y x.2 (by rw[ey];exact hx)
 ·show (if id=x.1 then none else K' id)=_;by_cases e:id=x.1
  ·rw[if_pos e,if_pos ⟨y,by simp,by rw[ey,e]⟩]
  ·rw[if_neg e,p.left];by_cases q:∃z∈xs,(z:Int)=id
   ·obtain⟨z,hz,ez⟩:=q;rw[if_pos ⟨z,hz,ez⟩,if_pos ⟨z,by simp[hz],ez⟩]
   ·rw[if_neg q,if_neg];rintro⟨z,hz,ez⟩;rcases List.mem_append.1 hz with h|h
    ·exact q ⟨z,h,ez⟩
    ·rw[List.mem_singleton.1 h]at ez;exact e (by rw[← ez,ey])
 ·have hb:(if (b:Int)=x.1 then none else K' (b:Int))=some key:=hb;by_cases e:(b:Int)=x.1
  ·rw[if_pos e]at hb;cases hb
  ·rw[if_neg e]at hb;rcases List.mem_append.1 ha with h|h
   ·exact p.rest a h b key hb
   ·rw[List.mem_singleton.1 h];have t:=top _ _ hb;rw[Rk.bet_not]at t;simp only at t;exact⟨x.2,key,by rw[ey];exact sub _ _ hx,sub _ _ hb,by omega⟩
theorem getD_snoc (xs:List Nat) (y i:Nat):(xs ++ [y]).getD i 0=if i=xs.length then y else xs.getD i 0:=by
 rw[List.getD_eq_getElem?_getD,List.getD_eq_getElem?_getD];by_cases e:i=xs.length
 ·subst e;simp
 ·rw[if_neg e];by_cases h:i<xs.length
  ·rw[List.getElem?_append_left h]
  ·rw[List.getElem?_eq_none (by rw[List.length_append,List.length_singleton];omega),List.getElem?_eq_none (by omega)]
section
variable {w w':World}{S:Nat}{M:Mdl}{F:Nat→Prop}
theorem plan_no (s:St w S F M){ad:Option Addr}{n cap:Nat}{H:Nat→Nat}(hl:HsAt w ad n H) (hb:∀i,i<n→H i<4294967296) (hn:n≤1000) (no:∃i,i<n∧¬M.isNode (H i)) :
  Calls Tryz.prog 16 #[.pointer (some ⟨S,0,none⟩),.slice ad n cap] w fun e w'=>e = .returned (.tuple #[.slice none 0 0,.int .i64 101])∧Below w.heap.size w w':=by
 have K1:Calls Tryz.prog 34 #[.pointer (some ⟨S,0,none⟩),.slice ad n cap] w fun e w'=>e = .returned (.tuple #[.slice none 0 0,.int .i64 101])∧Below w.heap.size w w':=by
  refine(levels_op (cap:=cap) s hl hb (by omega)).mono ?_;rintro e w' ⟨(⟨all,_⟩|⟨_,rfl⟩),B⟩
  ·obtain⟨i,hi,q⟩:=no;exact absurd (all i hi) q
  ·exact⟨rfl,B⟩
 clear s hl hb hn no;go_enter Tryz.func16,Tryz.ntmps16
 go_wp2_with (first
  | (go_at_call 34;refine K1.mono ?_;clear K1;rintro e w1 ⟨rfl,B⟩))
 go_ret2
 exact⟨rfl,B⟩
theorem box_set {u:World}{p:Nat}{x y:Value}(h:u.heap[p]? = some (.cells #[x,y] 101 (0,0))) (a b:Value):((u.setCell ⟨p,0,none⟩ a).setCell ⟨p,1,none⟩ b).heap[p]? = some (.cells #[a,b] 101 (0,0)):=by
 unfold World.setCell;rw[Array.getElem?_modify,if_pos rfl,Array.getElem?_modify,if_pos rfl,h];rfl
theorem box_far (u:World){p k:Nat}(hk:k≠p) (a b:Value):((u.setCell ⟨p,0,none⟩ a).setCell ⟨p,1,none⟩ b).heap[k]? = u.heap[k]?:=by
 rw[Below.heap_setCell _ _ _ _ hk,Below.heap_setCell _ _ _ _ hk]
theorem _root_.Go.Proofs.YtnnmdkaoiofabaaGreat.OwnR.lower {e:TypeId}{w:World}{B B' n cap:Nat}{ad:Option Addr}{V:Nat→Value}(h:OwnR e w B ad n cap V) (hb:B'≤B):OwnR e w B' ad n cap V:=by
 obtain⟨h1,h2⟩:=h;refine⟨h1,?_⟩;rcases h2 with h0|⟨g,cap',cur,hv,hg,r⟩
 ·exact .inl h0
 ·exact .inr ⟨g,cap',cur,hv,Nat.le_trans hb hg,r⟩
structure Pq (w0:World) (B Q:Nat) (Sq:Nat→Prop) (K:Int→Option Int) (n m:Nat) (ad:Option Addr) (cap p:Nat) (a b:Int) (wr:World):Prop where
 tell:∃xs K',PopP K n (min (m+1) n) xs K'∧Rk.Has wr Q Sq K' (n-(m+1))∧OwnR 3 wr B ad m cap (fun i=>.int .i64 (xs.getD i 0:Nat))∧(m<n→a=(xs.getD m 0:Nat))
 box:wr.heap[p]? = some (.cells #[.int .i64 a,.int .i64 b] 101 (0,0))
 apart:¬Sq p∧¬At ad p∧(∀k,At ad k→¬Sq k)∧B≤p
 old:∀k,Sq k→B≤k
 below:Below B w0 wr
set_option maxRecDepth 100000 in
set_option maxHeartbeats 4000000 in
theorem plan_yes (s:St w S F M){ad:Option Addr}{n cap:Nat}{H:Nat→Nat}(hl:HsAt w ad n H) (all:∀i,i<n→M.isNode (H i)) (hn:n≤1000) :
  Calls Tryz.prog 16 #[.pointer (some ⟨S,0,none⟩),.slice ad n cap] w fun e w'=>∃ad' cap' xs ks,e = .returned (.tuple #[.slice ad' M.n cap',.int .i64 0])∧ks.Nodup∧Rch M H n ks∧PlanIs (plK M.v (lvN M ks) M.n) M.n xs∧OwnR 3 w' w.heap.size ad' M.n cap' (fun i=>.int .i64 (xs.getD i 0:Nat))∧Below w.heap.size w w':=by
 have o:=s.ok;have n8:=o.le8;have n1:=o.pos;have K1:Calls Tryz.prog 34 #[.pointer (some ⟨S,0,none⟩),.slice ad n cap] w fun e w'=>∃g ks,e = .returned (.tuple #[.slice (some ⟨g,0,none⟩) M.n M.n,.int .i64 0])∧Aside (ks.Nodup∧Rch M H n ks)∧w'.rowIs g 3 M.n (fun i=>.int .i64 (lvN M ks i:Int))∧w.heap.size≤g∧Below w.heap.size w w':=by
  refine(levels_op (cap:=cap) s hl (fun i hi=>by have:=Mdl.isNode_lt o (all i hi);omega) (by omega)).mono ?_;rintro e w' ⟨(⟨_,g,ks,nd,rc,rfl,row,hg⟩|⟨⟨i,hi,q⟩,_⟩),B⟩
  ·exact⟨g,ks,rfl,⟨nd,rc⟩,row,hg,B⟩
  ·exact absurd (all i hi) q
 have KO:Aside (∀u,Below w.heap.size w u→Calls Tryz.prog 14 #[.pointer (some ⟨S,0,none⟩)] u fun e w'=>∃P l,e = .returned (.pointer (some ⟨P,0,none⟩))∧Od.IsOrd w' P M.n M.v l∧(∀i,i<M.n→l (M.v i)=i)∧Below u.heap.size u w'∧u.heap.size≤P):=fun u b=>s_order' (s.below b)
 obtain⟨N,hN⟩:∃N,M.n=N:=⟨_,rfl⟩
 obtain⟨v,hv⟩:∃v,M.v=v:=⟨_,rfl⟩
 have vinj:Aside (∀a b,a<N→b<N→v a=v b→a=b):=fun a b ha hb e=>o.vinj a b (hN ▸ ha) (hN ▸ hb) (by rw[hv];exact e)
 have vlt:Aside (∀i,i<N→v i<N):=fun i hi=>by have:=o.vlt i (hN ▸ hi);rw[hv,hN]at this;exact this
 rw[hN]at K1 KO n8 n1 ⊢;rw[hv]at KO ⊢;clear o s hl all hn;go_enter Tryz.func16,Tryz.ntmps16
 go_upto_region 5 with (first
  | (go_at_call 34;refine K1.mono ?_;clear K1;rintro e w1 ⟨g,ks,rfl,kA,row,hg,B1⟩;have K2:=KO.out w1 B1)
  | (go_at_call 14;refine K2.mono ?_;clear K2;rintro e w2 ⟨P,l,rfl,o2,inv,B2,hP⟩;have K3:=Rk.new_any w2)
  | (go_at_call 46;refine K3.mono ?_;clear K3;rintro e w3 ⟨rfl,Sq,h3,f3,B3⟩))
 have row3:=(row.of_block (B2.block g row.lt)).of_block (B3.block g (Nat.lt_of_lt_of_le row.lt B2.size));have gB:Aside (g<w2.heap.size):=Nat.lt_of_lt_of_le row.lt B2.size;have o3A:Aside (Od.IsOrd w2 P N v l):=o2;have B12:Aside (Below w.heap.size w w2):=Rf.below_far B1 B2;have r2A:Aside (w2.rowIs g 3 N (fun i=>.int .i64 (lvN M ks i:Int))):=row.of_block (B2.block g row.lt);obtain⟨B,hB⟩:∃B,w2.heap.size=B:=⟨_,rfl⟩
 have hBA:Aside (w2.heap.size=B):=hB;rw[hB]at h3 f3 B3;have startA:Aside (∃Sq,Rk.Has w3 B Sq (plK v (lvN M ks) 0) 0∧∀k,Sq k→B≤k):=⟨Sq,h3,f3⟩
 have B3A:Aside (Below B w2 w3):=B3;obtain⟨c,hc⟩:∃c,lvN M ks=c:=⟨_,rfl⟩
 have hcA:Aside (lvN M ks=c):=hc;rw[hc]at r2A startA
 conv in (occs := *) (Value.pointer (some ⟨w2.heap.size, 0, none⟩)) => all_goals rw [hB]
 clear row row3 hg B1 B2 hP o2 inv h3 f3 B3 hB hc KO
 go_wp2_with fail
 go_loopg [29] N (fun gg s29 wr=>∃j:Nat,j+gg=N∧s29 = .int .i64 (j:Int)∧Aside (∃Sq,Rk.Has wr B Sq (plK v c j) j∧∀k,Sq k→B≤k)∧Aside (Below B w2 wr))
 case atStart=>exact⟨0,by omega,rfl,startA,B3A⟩
 case round =>
  clear startA B3A;obtain⟨j,hj,rfl,hH,hBl⟩:=hrel;have hJ:Aside (j+gk=N):=hj;have hjn:j≤N:=by omega
  clear hj;by_cases hlt:j<N
  ·have hlt':(j:Int)<(N:Int):=by omega
   have hjw:IntKind.i64.wrap ((j:Int)+1)=(j:Int)+1:=by rw[IntKind.wrap_i64];omega
   obtain⟨Sq,hh,hS⟩:=hH.out;have ow:Od.IsOrd wr P N v l:=o3A.out.below (by rw[hBA.out];exact hBl.out);have hc0:wr.cell? ⟨g,j,none⟩=some (.int .i64 (c j:Int)):=by
    have:=r2A.out.cell hlt;rw[← this];exact World.cell?_of_block (a:=⟨g,j,none⟩) (hBl.out.block g (by rw[← hBA.out];exact gB.out))
   have KV:=Od.var_in ow n8 j hlt;have KP:=Rk.push_yes hh (by omega) (id:=(v j:Int)) (plK_out fun i hi e=>by have:=vinj.out i j (by omega) hlt (by omega);omega) (c j:Int);have hltA:Aside (j<N):=hlt;have hSA:Aside (∀k,Sq k→B≤k):=hS
   have stA:Aside (∀S' u,Rk.Went Sq S' wr u→(∀k,S' k→B≤k)∧Below B w2 u):=fun S' u wt =>
    ⟨fun k hk=>(wt.new k hk).elim (hS k) fun q=>Nat.le_trans (by rw[← hBA.out];have:=hBl.out.size;exact this) q,hBl.out.trans (wt.moved.below (by rw[← hBA.out];exact hBl.out.size) hS)⟩
   clear hlt ow hh hS hH
   go_wp2_with (first
    | (go_at_call 48;refine KV.mono ?_;clear KV;rintro e w4 ⟨rfl,rfl⟩)
    | (go_at_call 47;refine KP.mono ?_;clear KP;rintro e w5 ⟨rfl,S5,h5,wt5⟩;have fA:Aside (Rk.Has w5 B S5 (plK v c (j+1)) (j+1)∧(∀k,S5 k→B≤k)∧Below B w2 w5):=⟨h5,stA.out S5 w5 wt5⟩;clear h5 wt5))
   go_roundg (gk-1)
   case measure=>have:=hJ.out;have:=hltA.out;omega
   case rel =>
    have:=hJ.out;have:=hltA.out;exact⟨j+1,by omega,by go_num,⟨S5,fA.out.1,fA.out.2.1⟩,fA.out.2.2⟩
  ·have hlt':¬(j:Int)<(N:Int):=by omega
   rw[show j=N by omega]at hH;obtain⟨Sq,hh,hS⟩:=hH.out;obtain⟨N',hN'⟩:∃N',N=N'+1:=⟨N-1,by omega⟩
   have KP:=Rk.pop_some (n:=N') (by rw[← hN'];exact hh) (by omega);have hSA:Aside (∀k,Sq k→B≤k):=hS;have hltS:Aside (∀k,Sq k→k<wr.heap.size):=hh.lt;have domA:Aside (∀id key,plK v c N id=some key→∃i:Nat,i<N∧(i:Int)=id):=fun id key h=>by
    obtain⟨i,hi,e,_⟩:=plK_some h;exact⟨v i,vlt.out i hi,e⟩
   have hNA:Aside (N=N'+1):=hN';clear hh hS hH hlt hJ hjn r2A o3A vinj vlt hN' gB
   go_wp2_with (first
    | (go_at_call 49;refine KP.mono ?_;clear KP;rintro e w5 ⟨x,rfl,tp,h5,m5⟩))
   have b5A:Aside (Below B w2 w5):=hBl.out.trans (m5.below (by rw[← hBA.out];exact hBl.out.size) hSA.out);have s5A:Aside (∀k,Sq k→k<w5.heap.size):=h5.lt;have st2A:Aside (∃ad cap,ad=none∧cap=0∧Pq w2 B B Sq (plK v c N) N 0 ad cap w5.heap.size x.1 x.2 (w5.alloc (.cells #[.int .i64 x.1,.int .i64 x.2] 101))):=by
    obtain⟨y,hy,hyN,pp⟩:=(PopP.start (plK v c N) N).step domA.out tp.1 tp.2;have far:¬Sq w5.heap.size:=fun q=>Nat.lt_irrefl _ (h5.lt _ q)
    refine⟨none,0,rfl,rfl,⟨[] ++ [y],Rk.at1 (plK v c N) x.1 none,?_,?_,OwnR.nil _ _ _ _,fun _=>by simpa using hy⟩,?_,⟨far,(fun⟨_,e,_⟩=>by cases e),(fun k ⟨_,e,_⟩=>by cases e),?_⟩,hSA.out,?_⟩
    ·rw[show min (0+1) N=0+1 by have:=hNA.out;omega];exact pp
    ·rw[show N-(0+1)=N' by have:=hNA.out;omega];exact h5.new _
    ·exact heap_alloc_new w5 _
    ·have:=b5A.out.size;have:=hBA.out;omega
    ·exact b5A.out.alloc (by have:=b5A.out.size;have:=hBA.out;omega) _
   obtain⟨x0,x1⟩:=x;clear tp h5 m5 hBl;obtain⟨ad0,cap0,e1,e2,pq0⟩:=st2A.out;subst e1 e2;have pqA:Aside (Pq w2 B B Sq (plK v c N) N 0 none 0 w5.heap.size x0 x1 (w5.alloc (.cells #[.int .i64 x0,.int .i64 x1] 101))):=pq0;clear st2A pq0 s5A b5A;obtain⟨p0,hp0⟩:∃p,w5.heap.size=p:=⟨_,rfl⟩
   generalize (w5.alloc (.cells #[.int .i64 x0,.int .i64 x1] 101))=w6 at pqA ⊢;rw[hp0]at pqA
   conv in (occs := *) (Value.pointer (some ⟨w5.heap.size, 0, none⟩)) => all_goals rw [hp0]
   clear hp0 hltS hSA;go_loopg [13,14,12] N (fun gg s13 s14 s12 wr=>∃(m cap p:Nat) (ad:Option Addr) (a b:Int),m+gg=N∧s13 = .pointer (some ⟨p,0,none⟩)∧s14 = .bool (decide (m<N))∧s12 = .slice ad m cap∧Aside (∃Sq,Pq w2 B B Sq (plK v c N) N m ad cap p a b wr))
   case atStart =>
    refine⟨0,0,p0,none,x0,x1,by omega,rfl,?_,rfl,Sq,pqA.out⟩;rw[decide_eq_true (show 0<N by omega)]
   case round =>
    clear pqA;obtain⟨m,cap1,p,ad1,a,b,hm,rfl,rfl,rfl,hP⟩:=hrel;have hmA:Aside (m+gk=N):=hm;have hmn:m≤N:=by omega
    clear hm;obtain⟨Sq1,pq⟩:=hP.out;by_cases hlt:m<N
    ·rw[decide_eq_true hlt];have hc0:wr.cell? ⟨p,0,none⟩=some (.int .i64 a):=by simp[World.cell?,pq.box]
     obtain⟨xs,K',pp,hh,ow,ha⟩:=pq.tell;have hB1:B≤wr.heap.size:=by have:=pq.below.size;have:=hBA.out;omega
     have pqA:Aside (Pq w2 B B Sq1 (plK v c N) N m ad1 cap1 p a b wr):=pq;have tA:Aside (PopP (plK v c N) N (m+1) xs K'∧Rk.Has wr B Sq1 K' (N-(m+1))∧a=(xs.getD m 0:Nat)):=⟨by rw[show m+1=min (m+1) N by omega];exact pp,hh,ha hlt⟩
     have hltA:Aside (m<N):=hlt;have oldA:Aside (∀k,At ad1 k→B≤k∧k<wr.heap.size):=fun k hk=>ow.block k hk
     clear pq pp hh ha hlt hP
     go_upto_region 15 with (first
      | (at_builtin;refine append_i (ow.new _) wr.heap.size a (heap_alloc_new _ _) (by omega) (by simp;omega) rfl _ _ rfl rfl rfl ?_;intro g' cap' w7 o7 wt7 at7))
     clear ow hc0;have nb7:∀k,k<wr.heap.size→¬At ad1 k→w7.heap[k]? = wr.heap[k]?:=fun k hk hA=>(wt7.block k (by simp;omega) hA).trans (Below.heap_alloc _ _ _ hk)
     have hp:p<wr.heap.size:=(Array.getElem?_eq_some_iff.1 pqA.out.box).1;have box7:w7.heap[p]? = some (.cells #[.int .i64 a,.int .i64 b] 101 (0,0)):=(nb7 p hp pqA.out.apart.2.1).trans pqA.out.box;have has7:Rk.Has w7 B Sq1 K' (N-(m+1)):=tA.out.2.1.kept fun k hk=>nb7 k (tA.out.2.1.lt k hk) fun q=>pqA.out.apart.2.2.1 k q hk
     have B7:Below B w2 w7:=by
      have e:=pqA.out.below;refine⟨wt7.os.trans e.os,wt7.tape.trans e.tape,wt7.output.trans e.output,Nat.le_trans e.size (Nat.le_trans (by simp) wt7.size),fun k hk=>?_⟩;have q:k<wr.heap.size:=by have:=e.size;have:=hBA.out;omega
      exact(nb7 k q fun hA=>by have:=(oldA.out k hA).1;omega).trans (e.block k hk)
     have c70:w7.cell? ⟨p,0,none⟩=some (.int .i64 a):=by simp[World.cell?,box7]
     have c71:w7.cell? ⟨p,1,none⟩=some (.int .i64 b):=by simp[World.cell?,box7]
     have gS:¬Sq1 g':=fun q=>by
      rcases at7 with h|h
      ·exact pqA.out.apart.2.2.1 g' h q
      ·have h1:=tA.out.2.1.lt g' q;rw[h]at h1;simp at h1;omega
     have sA:Aside (Rk.Has (w7.alloc (.cells #[.int .i64 a,.int .i64 b] 101)) B Sq1 K' (N-(m+1))∧OwnR 3 (w7.alloc (.cells #[.int .i64 a,.int .i64 b] 101)) B (some ⟨g',0,none⟩) (m+1) cap' (fun i=>.int .i64 (xs.getD i 0:Nat))∧(w7.alloc (.cells #[.int .i64 a,.int .i64 b] 101)).heap[w7.heap.size]? = some (.cells #[.int .i64 a,.int .i64 b] 101 (0,0))∧(∀k,Sq1 k→k<w7.heap.size)∧g'<w7.heap.size∧¬Sq1 g'∧Below B w2 (w7.alloc (.cells #[.int .i64 a,.int .i64 b] 101))∧B≤w7.heap.size∧(∀k,Sq1 k→B≤k)):=by
      have hBs:B≤w7.heap.size:=by have:=B7.size;have:=hBA.out;omega
      refine⟨has7.new _,(o7.congr fun i hi=>?_).new _,heap_alloc_new _ _,has7.lt,(o7.block g' ⟨_,rfl,rfl⟩).2,gS,B7.alloc hBs _,hBs,pqA.out.old⟩;by_cases e:i=m
      ·rw[if_pos e,e,tA.out.2.2]
      ·rw[if_neg e]
     have ppA:Aside (PopP (plK v c N) N (m+1) xs K'):=tA.out.1;clear o7 wt7 at7 nb7 hp box7 has7 B7 gS oldA pqA tA hB1;go_upto_region 13 with fail
     clear c70 c71;generalize (w7.alloc (.cells #[.int .i64 a,.int .i64 b] 101))=w8 at sA ⊢;obtain⟨p1,hp1⟩:∃p,w7.heap.size=p:=⟨_,rfl⟩
     rw[hp1]at sA
     conv in (occs := *) (Value.pointer (some ⟨w7.heap.size, 0, none⟩)) => all_goals rw [hp1]
     clear hp1;have h8:=sA.out.1;by_cases more:m+1<N
     ·obtain⟨r,hr⟩:∃r,N-(m+1)=r+1:=⟨N-(m+1)-1,by omega⟩
      rw[hr]at h8;have KP:=Rk.pop_some h8 (by omega);have moreA:Aside (m+1<N∧N-(m+1)=r+1):=⟨more,hr⟩
      clear h8 more hr
      go_wp2_with (first
       | (go_at_call 49;refine KP.mono ?_;clear KP;rintro e w9 ⟨x,rfl,tp,h9,m9⟩;have b9:w9.heap[p1]? = some (.cells #[.int .i64 a,.int .i64 b] 101 (0,0)):=(m9.block p1 (Array.getElem?_eq_some_iff.1 sA.out.2.2.1).1 (fun q=>Nat.lt_irrefl _ (sA.out.2.2.2.1 _ q))).trans sA.out.2.2.1;have c0:w9.cell? ⟨p1,0,none⟩=some (.int .i64 a):=(by simp[World.cell?,b9]);have c1:w9.cell? ⟨p1,1,none⟩=some (.int .i64 b):=(by simp[World.cell?,b9]);have f0:w9.frozen? ⟨p1,0,none⟩=false:=(by simp[World.frozen?,b9]);have f1:w9.frozen? ⟨p1,1,none⟩=false:=(by simp[World.frozen?,b9]);have fA:Aside ((K' x.1=some x.2∧∀id key,K' id=some key→Rk.bet (id,key) x=false)∧Rk.Has w9 B Sq1 (Rk.at1 K' x.1 none) r∧Rk.Moved Sq1 w8 w9∧w9.heap[p1]? = some (.cells #[.int .i64 a,.int .i64 b] 101 (0,0))):=⟨tp,h9,m9,b9⟩;clear tp h9 m9 b9))
      go_roundg (gk-1)
      case measure=>have:=hmA.out;have:=hltA.out;omega
      case rel =>
       obtain⟨tp,h9,m9,b9⟩:=fA.out;obtain⟨h8,o8,b8,lt8,gl,gS,B8,hBs,old⟩:=sA.out;obtain⟨hm1,hr⟩:=moreA.out;have:=hmA.out;obtain⟨y,hy,hyN,pp⟩:=ppA.out.step domA.out tp.1 tp.2;have pl:p1<w8.heap.size:=(Array.getElem?_eq_some_iff.1 b8).1;refine⟨m+1,cap',p1,some ⟨g',0,none⟩,x.1,x.2,by omega,rfl,by rw[decide_eq_true hm1],rfl,Sq1,⟨xs ++ [y],Rk.at1 K' x.1 none,?_,?_,?_,fun _=>?_⟩,box_set b9 _ _,⟨fun q=>Nat.lt_irrefl _ (lt8 _ q),fun⟨_,e,e2⟩=>?_,fun k ⟨_,e,e2⟩=>?_,hBs⟩,old,?_⟩
       ·rw[show min (m+1+1) N=m+1+1 by omega];exact pp
       ·rw[show N-(m+1+1)=r by omega];exact h9.box (fun q=>Nat.lt_irrefl _ (lt8 _ q)) _ _
       ·refine(o8.kept fun k hk=>?_).congr fun i hi=>?_
        ·obtain⟨_,e,e2⟩:=hk;cases e;have e2:g'=k:=e2;rw[box_far _ (by omega)];exact m9.block k (by rw[← e2];have:=(o8.block g' ⟨_,rfl,rfl⟩).2;exact this) (by rw[← e2];exact gS)
        ·rw[getD_snoc,if_neg (by rw[ppA.out.len];omega)]
       ·rw[getD_snoc,ppA.out.len,if_pos rfl];exact hy
       ·cases e;have e2:g'=p1:=e2;omega
       ·cases e;have e2:g'=k:=e2;rw[← e2];exact gS
       ·refine B8.trans ⟨m9.os,m9.tape,m9.output,by simp[World.setCell];exact m9.size,fun k hk=>?_⟩;rw[box_far _ (by omega)];exact m9.block k (by omega) fun q=>by have:=old k q;omega
     ·have e0:N-(m+1)=0:=by omega
      rw[e0]at h8;have KP:=Rk.pop_none h8;have moreA:Aside (m+1=N):=by show m+1=N;have:=hltA.out;omega
      clear h8 more e0
      go_wp2_with (first
       | (go_at_call 49;refine KP.mono ?_;clear KP;rintro e w9 ⟨rfl,B9⟩;have b9:w9.heap[p1]? = some (.cells #[.int .i64 a,.int .i64 b] 101 (0,0)):=(B9.block p1 (Array.getElem?_eq_some_iff.1 sA.out.2.2.1).1).trans sA.out.2.2.1;have c0:w9.cell? ⟨p1,0,none⟩=some (.int .i64 a):=(by simp[World.cell?,b9]);have c1:w9.cell? ⟨p1,1,none⟩=some (.int .i64 b):=(by simp[World.cell?,b9]);have f0:w9.frozen? ⟨p1,0,none⟩=false:=(by simp[World.frozen?,b9]);have f1:w9.frozen? ⟨p1,1,none⟩=false:=(by simp[World.frozen?,b9]);have fA:Aside (Below w8.heap.size w8 w9∧w9.heap[p1]? = some (.cells #[.int .i64 a,.int .i64 b] 101 (0,0))):=⟨B9,b9⟩;clear B9 b9))
      go_roundg (gk-1)
      case measure=>have:=hmA.out;have:=hltA.out;omega
      case rel =>
       obtain⟨B9,b9⟩:=fA.out;obtain⟨h8,o8,b8,lt8,gl,gS,B8,hBs,old⟩:=sA.out;have hm1:=moreA.out;have:=hmA.out;have pl:p1<w8.heap.size:=(Array.getElem?_eq_some_iff.1 b8).1;refine⟨m+1,cap',p1,some ⟨g',0,none⟩,0,0,by omega,rfl,by rw[decide_eq_false (by omega)],rfl,Sq1,⟨xs,K',?_,?_,?_,fun q=>absurd q (by omega)⟩,box_set b9 _ _,⟨fun q=>Nat.lt_irrefl _ (lt8 _ q),fun⟨_,e,e2⟩=>?_,fun k ⟨_,e,e2⟩=>?_,hBs⟩,old,?_⟩
       ·rw[show min (m+1+1) N=m+1 by omega];exact ppA.out
       ·rw[show N-(m+1+1)=N-(m+1) by omega];exact(h8.below B9).box (fun q=>Nat.lt_irrefl _ (lt8 _ q)) _ _
       ·refine o8.kept fun k hk=>?_
        obtain⟨_,e,e2⟩:=hk;cases e;have e2:g'=k:=e2;rw[box_far _ (by omega)];exact B9.block k (by rw[← e2];have:=(o8.block g' ⟨_,rfl,rfl⟩).2;exact this)
       ·cases e;have e2:g'=p1:=e2;omega
       ·cases e;have e2:g'=k:=e2;rw[← e2];exact gS
       ·refine B8.trans ⟨B9.os,B9.tape,B9.output,by simp[World.setCell];exact B9.size,fun k hk=>?_⟩;rw[box_far _ (by omega)];exact B9.block k (by omega)
    ·obtain⟨Sq1,pq⟩:=hP.out;rw[decide_eq_false hlt];have em:m=N:=by omega
     have fin:Aside (∃xs,PlanIs (plK v c N) N xs∧OwnR 3 wr B ad1 N cap1 (fun i=>.int .i64 (xs.getD i 0:Nat))∧Below B w2 wr):=by
      obtain⟨xs,K',pp,hh,ow,ha⟩:=pq.tell;rw[em]at pp ow;rw[show min (N+1) N=N by omega]at pp;exact⟨xs,pp.plan,ow,pq.below⟩
     rw[em];clear pq hP hlt em hmn hmA
     go_wp2_with fail
     go_ret2
     obtain⟨xs,pl,ow,bl⟩:=fin.out;have hBw:w.heap.size≤B:=by have:=B12.out.size;have:=hBA.out;omega
     refine⟨ad1,cap1,xs,ks,rfl,kA.out.1,kA.out.2,by rw[hcA.out];exact pl,?_,?_⟩
     ·exact ow.lower hBw
     ·exact B12.out.trans ⟨bl.os,bl.tape,bl.output,bl.size,fun k hk=>bl.block k (by omega)⟩
end
end Go.Proofs.YtnnmdkaoiofabaaGreat.Sf
