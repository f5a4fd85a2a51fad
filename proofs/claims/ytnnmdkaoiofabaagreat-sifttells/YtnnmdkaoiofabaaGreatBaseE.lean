/-
  Tables of 256 truth values as four words of 64 bits: plain facts, no program. A statement whose order Go leaves open, walked operation by operation: what each operation leaves behind, whatever came before it beyond what it waits for. What each function of the reference of tables returns. Two tables compared, as arrays are. What each function of the reference of tables returns: the second part. What Fix of the reference returns. What Fix of the reference returns: variables within a word. What the reference's quantifiers and restrictions return. What the reference's other functions return. What the reference's other functions return: the second part. What the reference's Compose, Next and Prev return. Whether a table stands in a slice of tables. Slices of tables that a call makes and appends to. What Parts of the reference returns: the unlike inner functions under an order.
-/
import Derived.WalkKit
import Derived.Laws.BitsAllLaws
import Derived.Orders
import Derived.RegionTactic
import Derived.Test.YtnnmdkaoiofabaaGreatProg
import Derived.Handy
import Derived.Deep.OwnRows
import Derived.Deep.RegionWith
import Derived.Deep.LoopGhost
import Derived.BigRegion
import Derived.Deep.RegionHeld3
import Derived.Deep.AppendLies
import Derived.Deep.DeepCutAuto
namespace Go.Proofs.YtnnmdkaoiofabaaGreat.Rf
open Go Go.RowKit
def mk (f:Nat→Bool):Nat→Nat
 | 0=>0
 | n+1=>mk f n ||| (if f n then 2^n else 0)
theorem mk_bit (f:Nat→Bool) (n i:Nat):(mk f n).testBit i=(decide (i<n) && f i):=by
 induction n with
 | zero=>simp[mk]
 | succ n ih =>
  rw[mk,Nat.testBit_or,ih];by_cases h:i=n
  ·subst h;by_cases hf:f i <;> simp[hf]
  ·have h1:(if f n then 2^n else 0:Nat).testBit i=false:=by
    by_cases hf:f n
    ·rw[if_pos hf,Nat.testBit_two_pow];simp;omega
    ·rw[if_neg hf];simp
   rw[h1,Bool.or_false];congr 1;simp;omega
theorem mk_lt (f:Nat→Bool) (n:Nat):mk f n<2^n:=by
 apply Nat.lt_pow_two_of_testBit;intro i hi;rw[mk_bit];simp;omega
theorem mk_congr {f g:Nat→Bool}{n:Nat}(h:∀i,i<n→f i=g i):mk f n=mk g n:=by
 apply Nat.eq_of_testBit_eq;intro i;rw[mk_bit,mk_bit];by_cases hi:i<n <;> simp[hi,h i]
theorem mk_of (x n:Nat) (h:x<2^n):mk x.testBit n=x:=by
 apply Nat.eq_of_testBit_eq;intro i;rw[mk_bit];by_cases hi:i<n
 ·simp[hi]
 ·have:x.testBit i=false:=Nat.testBit_lt_two_pow (Nat.lt_of_lt_of_le h (Nat.pow_le_pow_right (by decide) (by omega)));simp[this]
theorem mk_inj {f g:Nat→Bool}{n:Nat}(h:mk f n=mk g n):∀i,i<n→f i=g i:=by
 intro i hi;have:=congrArg (fun x=>x.testBit i) h;simpa[mk_bit,hi]using this
def word (F:Nat→Bool) (k:Nat):Nat:=mk (fun i=>F (64*k+i)) 64
theorem word_lt (F:Nat→Bool) (k:Nat):word F k<18446744073709551616:=mk_lt _ 64
theorem word_congr {F G:Nat→Bool}{k:Nat}(h:∀i,i<64→F (64*k+i)=G (64*k+i)):word F k=word G k:=mk_congr h
theorem word_congr' {F G:Nat→Bool}{k j:Nat}(h:∀i,i<64→F (64*k+i)=G (64*j+i)):word F k=word G j:=mk_congr h
theorem word_bit (F:Nat→Bool) (k i:Nat):(word F k).testBit i=(decide (i<64) && F (64*k+i)):=mk_bit _ _ _
def tab (F:Nat→Bool):Value:=.agg #[.int .u64 (word F 0:Int),.int .u64 (word F 1:Int),.int .u64 (word F 2:Int),.int .u64 (word F 3:Int)]
theorem word_ext {F G:Nat→Bool}(h:∀x,x<256→F x=G x){k:Nat}(hk:k<4):word F k=word G k:=word_congr fun i hi=>h _ (by omega)
theorem tab_ext {F G:Nat→Bool}(h:∀x,x<256→F x=G x):tab F=tab G:=by
 unfold tab;rw[word_ext h (show 0<4 by decide),word_ext h (show 1<4 by decide),word_ext h (show 2<4 by decide),word_ext h (show 3<4 by decide)]
theorem tab_inj {F G:Nat→Bool}(h0:word F 0=word G 0) (h1:word F 1=word G 1) (h2:word F 2=word G 2) (h3:word F 3=word G 3):∀x,x<256→F x=G x:=by
 intro x hx;have key:∀k,word F k=word G k→∀i,i<64→F (64*k+i)=G (64*k+i):=fun k h i hi=>mk_inj h i hi
 have:x=64*(x / 64)+x % 64:=by omega
 have hk:x / 64=0∨x / 64=1∨x / 64=2∨x / 64=3:=by omega
 rw[this];rcases hk with e|e|e|e <;> rw[e]
 ·exact key 0 h0 _ (by omega)
 ·exact key 1 h1 _ (by omega)
 ·exact key 2 h2 _ (by omega)
 ·exact key 3 h3 _ (by omega)
def ofWords (a b c d:Nat):Nat→Bool:=fun x=>if x<64 then a.testBit x else if x<128 then b.testBit (x-64)else if x<192 then c.testBit (x-128)else d.testBit (x-192)
theorem word_of (a b c d:Nat) (ha:a<18446744073709551616) (hb:b<18446744073709551616) (hc:c<18446744073709551616) (hd:d<18446744073709551616) :
  word (ofWords a b c d) 0=a∧word (ofWords a b c d) 1=b∧word (ofWords a b c d) 2=c∧word (ofWords a b c d) 3=d:=by
 refine⟨?_,?_,?_,?_⟩
 ·rw[← mk_of a 64 ha];exact mk_congr fun i hi=>by simp only[ofWords,Nat.mul_zero,Nat.zero_add];rw[if_pos hi,mk_of a 64 ha]
 ·rw[← mk_of b 64 hb];exact mk_congr fun i hi=>by simp only[ofWords];rw[if_neg (by omega),if_pos (by omega),mk_of b 64 hb,show 64*1+i-64=i by omega]
 ·rw[← mk_of c 64 hc];exact mk_congr fun i hi=>by simp only[ofWords];rw[if_neg (by omega),if_neg (by omega),if_pos (by omega),mk_of c 64 hc,show 64*2+i-128=i by omega]
 ·rw[← mk_of d 64 hd];exact mk_congr fun i hi=>by simp only[ofWords];rw[if_neg (by omega),if_neg (by omega),if_neg (by omega),mk_of d 64 hd,show 64*3+i-192=i by omega]
theorem word_and (F G:Nat→Bool) (k:Nat):word F k &&& word G k=word (fun x=>F x && G x) k:=by
 apply Nat.eq_of_testBit_eq;intro i;rw[Nat.testBit_and,word_bit,word_bit,word_bit];cases decide (i<64) <;> simp
theorem word_or (F G:Nat→Bool) (k:Nat):word F k ||| word G k=word (fun x=>F x || G x) k:=by
 apply Nat.eq_of_testBit_eq;intro i;rw[Nat.testBit_or,word_bit,word_bit,word_bit];cases decide (i<64) <;> simp
theorem word_not (F:Nat→Bool) (k:Nat):18446744073709551615-word F k=word (fun x=>!F x) k:=by
 apply Nat.eq_of_testBit_eq;intro i;rw[word_bit,show (18446744073709551615:Nat)-word F k=2^64-(word F k+1) by omega,Nat.testBit_two_pow_sub_succ (word_lt F k),word_bit];cases h:decide (i<64) <;> simp_all
theorem and_words (F G:Nat→Bool) (k:Nat):bits .and .u64 (word F k:Int) (word G k:Int)=(word (fun x=>F x && G x) k:Int):=by rw[u64_and_nat _ _ (word_lt F k) (word_lt G k),word_and]
theorem or_words (F G:Nat→Bool) (k:Nat):bits .or .u64 (word F k:Int) (word G k:Int)=(word (fun x=>F x || G x) k:Int):=by rw[u64_or_nat _ _ (word_lt F k) (word_lt G k),word_or]
theorem word_set (F:Nat→Bool) (k i:Nat) (hi:i<64):word F k ||| 2^i=word (fun x=>F x || decide (x=64*k+i)) k:=by
 apply Nat.eq_of_testBit_eq;intro j;rw[Nat.testBit_or,word_bit,word_bit,Nat.testBit_two_pow];by_cases hj:j<64
 ·by_cases e:i=j <;> simp[hj,e]
  intro _;omega
 ·simp[hj];omega
theorem set_bit (F:Nat→Bool) (k i:Nat) (hi:i<64):bits .or .u64 (word F k:Int) (IntKind.u64.wrap (2^i))=(word (fun x=>F x || decide (x=64*k+i)) k:Int):=by
 have h1:(2:Nat)^i<18446744073709551616:=Nat.pow_lt_pow_right (a:=2) (by decide) hi;have h2:IntKind.u64.wrap (2^i)=((2^i:Nat):Int):=by
  rw[IntKind.wrap_u64]
  have:(2:Int)^i=((2^i:Nat):Int):=by push_cast;rfl
  rw[this];exact Int.emod_eq_of_lt (Int.natCast_nonneg _) (Int.ofNat_lt.2 h1)
 rw[h2,u64_or_nat _ _ (word_lt F k) h1,word_set F k i hi]
theorem word_far (F:Nat→Bool) (k y:Nat) (hy:y / 64≠k):word (fun x=>F x || decide (x=y)) k=word F k:=by
 apply word_congr;intro i hi
 have:¬ 64*k+i=y:=by omega
 simp[this]
theorem mk_zero (n:Nat):mk (fun _=>false) n=0:=by
 induction n with
 | zero=>rfl
 | succ n ih=>simp[mk,ih]
theorem word_zero (k:Nat):word (fun _=>false) k=0:=mk_zero 64
theorem upto_step (f:Nat→Bool) (k y:Nat):((decide (y<k) && f y) || (decide (y=k) && f k))=(decide (y<k+1) && f y):=by
 by_cases h:y=k
 ·subst h;simp
 ·by_cases h2:y<k
  ·have:y<k+1:=by omega
   simp[h,h2,this]
  ·have:¬y<k+1:=by omega
   simp[h,h2,this]
theorem upto_all (f:Nat→Bool) (y:Nat) (hy:y<256):(decide (y<256) && f y)=f y:=by simp[hy]
def mix (k:Nat) (F G:Nat→Bool):Nat→Bool:=fun x=>if x<64*k then G x else F x
theorem mix_now (k:Nat) (F G:Nat→Bool):word (mix k F G) k=word F k:=word_congr fun i _=>by simp only[mix];rw[if_neg (by omega)]
theorem mix_next (k:Nat) (F G:Nat→Bool):word (mix (k+1) F G) k=word G k:=word_congr fun i _=>by simp only[mix];rw[if_pos (by omega)]
theorem mix_else (k j:Nat) (F G:Nat→Bool) (h:j≠k):word (mix k F G) j=word (mix (k+1) F G) j:=word_congr fun i _=>by
 simp only[mix];by_cases hj:j<k
 ·rw[if_pos (by omega),if_pos (by omega)]
 ·rw[if_neg (by omega),if_neg (by omega)]
theorem mix_none (F G:Nat→Bool) (x:Nat):F x=mix 0 F G x:=by simp[mix]
theorem mix_all (F G:Nat→Bool) (x:Nat) (h:x<256):mix 4 F G x=G x:=by simp only[mix];rw[if_pos (by omega)]
theorem not_words (F:Nat→Bool) (k:Nat):bits .xor .u64 IntKind.u64.max (word F k:Int)=(word (fun x=>!F x) k:Int):=by
 rw[show IntKind.u64.max=((18446744073709551615:Nat):Int)from rfl,u64_xor_nat _ _ (by decide) (word_lt F k)];congr 1;apply Nat.eq_of_testBit_eq;intro i;rw[Nat.testBit_xor,word_bit,word_bit,show (18446744073709551615:Nat)=2^64-1 from rfl,Nat.testBit_two_pow_sub_one];cases decide (i<64) <;> simp
def fixAt (v:Nat) (b:Bool) (x:Nat):Nat:=if x / 2^v % 2=1 then (if b then x else x-2^v)else (if b then x+2^v else x)
def fixF (F:Nat→Bool) (v:Nat) (b:Bool):Nat→Bool:=fun x=>F (fixAt v b x)
theorem fix6 (F:Nat→Bool) (b:Bool) (k:Nat) (hk:k<4):word (fixF F 6 b) k=word F (if k % 2=1 then (if b then k else k-1)else (if b then k+1 else k)):=by
 apply word_congr';intro i hi;simp only[fixF,fixAt];have h:(64*k+i) / 2^6 % 2=k % 2:=by omega
 rw[h];by_cases h1:k % 2=1
 ·rw[if_pos h1,if_pos h1];cases b
  ·simp only[Bool.false_eq_true,if_false];exact congrArg F (by omega)
  ·simp only[if_true]
 ·rw[if_neg h1,if_neg h1];cases b
  ·simp only[Bool.false_eq_true,if_false]
  ·simp only[if_true];exact congrArg F (by omega)
theorem fix7 (F:Nat→Bool) (b:Bool) (k:Nat) (hk:k<4):word (fixF F 7 b) k=word F (if k / 2 % 2=1 then (if b then k else k-2)else (if b then k+2 else k)):=by
 apply word_congr';intro i hi;simp only[fixF,fixAt];have h:(64*k+i) / 2^7 % 2=k / 2 % 2:=by omega
 rw[h];by_cases h1:k / 2 % 2=1
 ·rw[if_pos h1,if_pos h1];cases b
  ·simp only[Bool.false_eq_true,if_false];exact congrArg F (by omega)
  ·simp only[if_true]
 ·rw[if_neg h1,if_neg h1];cases b
  ·simp only[Bool.false_eq_true,if_false]
  ·simp only[if_true];exact congrArg F (by omega)
def M (v:Nat):Nat→Bool:=fun y=>decide (y / 2^v % 2=1)
theorem M_bit (v y:Nat):y.testBit v=M v y:=by rw[Nat.testBit_eq_decide_div_mod_eq];rfl
theorem M_word (v k i:Nat) (hv:v<6):M v (64*k+i)=M v i:=by
 have h:v=0∨v=1∨v=2∨v=3∨v=4∨v=5:=by omega
 unfold M;rcases h with rfl|rfl|rfl|rfl|rfl|rfl <;> (congr 1;simp;omega)
theorem and_pow (x v:Nat) (hx:x<64) (hv:v<6):bits .and .u64 (x:Int) ((2^v:Nat):Int)=if M v x then ((2^v:Nat):Int)else 0:=by
 have h1:(2:Nat)^v<18446744073709551616:=Nat.pow_lt_pow_right (a:=2) (by decide) (show v<64 by omega);have h2:x &&& 2^v=if M v x then 2^v else 0:=by
  apply Nat.eq_of_testBit_eq;intro i;rw[Nat.testBit_and,Nat.testBit_two_pow];by_cases h:v=i
  ·subst h;rw[M_bit];cases M v x <;> simp
  ·cases M v x <;> simp[h]
 rw[u64_and_nat _ _ (by omega) h1,h2];cases M v x <;> simp
theorem and_mask (F:Nat→Bool) (v k:Nat) (hv:v<6):word F k &&& word (M v) 0=word (fun x=>F x && M v x) k:=by
 apply Nat.eq_of_testBit_eq;intro i;rw[Nat.testBit_and,word_bit,word_bit,word_bit,M_word v k i hv,Nat.mul_zero,Nat.zero_add];cases decide (i<64) <;> simp
theorem andNot_mask (F:Nat→Bool) (v k:Nat) (hv:v<6):word F k &&& (18446744073709551615-word (M v) 0)=word (fun x=>F x && !M v x) k:=by
 rw[word_not];apply Nat.eq_of_testBit_eq;intro i;rw[Nat.testBit_and,word_bit,word_bit,word_bit,M_word v k i hv,Nat.mul_zero,Nat.zero_add];cases decide (i<64) <;> simp
theorem fix_up (F:Nat→Bool) (v k:Nat) (hv:v<6):word (fun x=>F x && M v x) k ||| word (fun x=>F x && M v x) k / 2^(2^v)=word (fixF F v true) k:=by
 apply Nat.eq_of_testBit_eq;intro i;rw[Nat.testBit_or,Nat.testBit_div_two_pow,word_bit,word_bit,word_bit];simp only[fixF,fixAt];have hM:=M_word v k i hv;have hM2:=M_word v k (i+2^v) hv;by_cases hi:i<64
 ·simp only[hi,decide_true,Bool.true_and,hM];by_cases hb:M v i=true
  ·have hb':(64*k+i) / 2^v % 2=1:=by rw[← hM]at hb;simpa[M]using hb
   have hn:M v (64*k+(i+2^v))=false:=by
    have h:v=0∨v=1∨v=2∨v=3∨v=4∨v=5:=by omega
    unfold M;rcases h with rfl|rfl|rfl|rfl|rfl|rfl <;> (simp at hb' ⊢;omega)
   rw[hn,hb,if_pos hb'];simp
  ·have hb0:M v i=false:=by simpa using hb
   have hb':¬(64*k+i) / 2^v % 2=1:=by rw[← hM]at hb0;simpa[M]using hb0
   have hn:M v (64*k+(i+2^v))=true∧i+2^v<64:=by
    have h:v=0∨v=1∨v=2∨v=3∨v=4∨v=5:=by omega
    unfold M;rcases h with rfl|rfl|rfl|rfl|rfl|rfl <;> (simp at hb' ⊢;omega)
   rw[hn.1,hb0,if_neg hb'];simp[hn.2,Nat.add_assoc]
 ·have:¬i+2^v<64:=Nat.not_lt.2 (Nat.le_trans (Nat.not_lt.1 hi) (Nat.le_add_right _ _));simp[hi,this]
theorem fix_down (F:Nat→Bool) (v k:Nat) (hv:v<6):word (fun x=>F x && !M v x) k ||| word (fun x=>F x && !M v x) k*2^(2^v) % 18446744073709551616=word (fixF F v false) k:=by
 apply Nat.eq_of_testBit_eq;intro i;rw[Nat.testBit_or,show (18446744073709551616:Nat)=2^64 from rfl,Nat.testBit_mod_two_pow,Nat.testBit_mul_two_pow,word_bit,word_bit,word_bit];simp only[fixF,fixAt];have hM:=M_word v k i hv;by_cases hi:i<64
 ·simp only[hi,decide_true,Bool.true_and,hM];by_cases hb:M v i=true
  ·have hb':(64*k+i) / 2^v % 2=1:=by rw[← hM]at hb;simpa[M]using hb
   have hn:M v (64*k+(i-2^v))=false∧2^v≤i∧i-2^v<64∧64*k+(i-2^v)=64*k+i-2^v:=by
    have h:v=0∨v=1∨v=2∨v=3∨v=4∨v=5:=by omega
    unfold M;rcases h with rfl|rfl|rfl|rfl|rfl|rfl <;> (simp at hb' ⊢;omega)
   rw[hn.1,hb,if_pos hb'];simp[hn.2.1,hn.2.2.1,hn.2.2.2]
  ·have hb0:M v i=false:=by simpa using hb
   have hb':¬(64*k+i) / 2^v % 2=1:=by rw[← hM]at hb0;simpa[M]using hb0
   rw[hb0,if_neg hb'];have hn:2^v≤i→M v (64*k+(i-2^v))=true:=by
    have h:v=0∨v=1∨v=2∨v=3∨v=4∨v=5:=by omega
    unfold M;rcases h with rfl|rfl|rfl|rfl|rfl|rfl <;> (simp at hb' ⊢;omega)
   by_cases hle:2^v≤i
   ·simp[hn hle]
   ·simp[hle]
 ·simp[hi]
def countUpto (F:Nat→Bool):Nat→Nat
 | 0=>0
 | k+1=>countUpto F k+(if F k then 1 else 0)
theorem below {n:Nat}(p:Nat→Bool) (k:Nat) (h:(List.range k).all p=true) (hn:n<k):p n=true:=
 List.all_eq_true.1 h n (List.mem_range.2 hn)
def halfN (x:Nat):Nat:=x % 2+2*(x / 4 % 2)+4*(x / 16 % 2)+8*(x / 64 % 2)
theorem var_bit (v x:Nat) (hx:x<256):(bits .and .i64 ((x:Int) / 2^v) 1 == 1)=M v x:=by
 have h1:((x:Int) / 2^v)=((x / 2^v:Nat):Int):=by push_cast;rfl
 have h2:x / 2^v<256:=Nat.lt_of_le_of_lt (Nat.div_le_self _ _) hx;have h3:bits .and .i64 ((x / 2^v:Nat):Int) 1=((x / 2^v % 2:Nat):Int):=by
  generalize x / 2^v=y at h2;simpa using below (fun y=>decide (bits .and .i64 (y:Int) 1=((y % 2:Nat):Int))) 256 (by kernel_rfl) h2
 rw[h1,h3];unfold M;have h4:x / 2^v % 2<2:=Nat.mod_lt _ (by decide);by_cases h:x / 2^v % 2=1
 ·simp[h]
 ·have h0:x / 2^v % 2=0:=by omega
  simp[h0]
def oddUpto (F G:Nat→Bool):Nat→Nat→Bool
 | 0,_=>false
 | k+1,i=>oddUpto F G k i || (F k && G k && decide (i=halfN (k / 2)))
def nextF (F G:Nat→Bool):Nat→Bool:=fun x=>oddUpto F G 256 (halfN x)
end Go.Proofs.YtnnmdkaoiofabaaGreat.Rf
namespace Go.Proofs.YtnnmdkaoiofabaaGreat.Rf
open Go
section
variable {P:Program}{ops:Array Oper}{Q:Exit→Act→World→Prop}
def toCome (n:Nat) (listed:Array Bool):List Nat:=(List.range n).filter fun j=>!listed.getD j true
theorem toCome_set {n i:Nat}{listed:Array Bool}(hn:listed.size=n) (hi:listed.getD i true=false):(toCome n (listed.setIfInBounds i true)).length<(toCome n listed).length:=by
 have hlt:i<listed.size:=by
  rcases Nat.lt_or_ge i listed.size with h|h
  ·exact h
  ·simp[Array.getElem?_eq_none h]at hi
 have e:toCome n (listed.setIfInBounds i true)=(toCome n listed).filter fun j=>decide (j≠i):=by
  unfold toCome;rw[List.filter_filter];apply List.filter_congr;intro j _;by_cases h:i=j
  ·subst h;simp[hlt]
  ·rw[getD_set_ne true h]
   have:j≠i:=fun e=>h e.symm
   simp[this]
 rw[e,List.length_filter_lt_length_iff_exists];refine⟨i,?_,by simp⟩;unfold toCome;rw[List.mem_filter,List.mem_range];exact⟨by omega,by rw[hi];rfl⟩
def waitsBack (ops:Array Oper):Bool:=(List.range ops.size).all fun i=>((ops[i]?).map (·.after.all fun e=>decide (e.on<i))).getD true
theorem ready_some {listed:Array Bool}(hw:waitsBack ops=true) (hn:listed.size=ops.size) (h:Region.ready .any ops listed=[]):∀j,j<ops.size→listed.getD j false=true:=by
 intro j;induction j using Nat.strongRecOn with
 | _ j ih =>
  intro hj;by_cases hl:listed.getD j true=false
  ·have ho:ops[j]? = some ops[j]:=Array.getElem?_eq_getElem hj
   have:j∈Region.ready .any ops listed:=by
    rw[mem_ready];refine⟨hl,_,ho,fun e he _=>?_⟩;have h1:=List.all_eq_true.1 hw j (List.mem_range.2 hj);rw[ho]at h1;simp only[Option.map_some,Option.getD_some,Array.all_eq_true_iff_forall_mem,decide_eq_true_eq]at h1;have h2:=h1 e he;exact ih e.on h2 (by omega)
   rw[h]at this;cases this
  ·have hlt:j<listed.size:=by omega
   simp[hlt]at hl ⊢;exact hl
end
end Go.Proofs.YtnnmdkaoiofabaaGreat.Rf
namespace Go.Proofs.YtnnmdkaoiofabaaGreat.Rf
open Go Go.RowKit
def IsTab (w:World) (b:Nat) (F:Nat→Bool):Prop:=w.heap[b]? = some (.cells #[.int .u64 (word F 0:Int),.int .u64 (word F 1:Int),.int .u64 (word F 2:Int),.int .u64 (word F 3:Int)] 24 (0,0))
theorem IsTab.cell {w:World}{b:Nat}{F:Nat→Bool}(h:IsTab w b F){k:Nat}(hk:k<4):w.cell? ⟨b,k,none⟩=some (.int .u64 (word F k:Int)):=by
 unfold IsTab at h
 have:k=0∨k=1∨k=2∨k=3:=by omega
 rcases this with rfl|rfl|rfl|rfl <;> simp[World.cell?,h]
theorem IsTab.free {w:World}{b:Nat}{F:Nat→Bool}(h:IsTab w b F) (k:Nat):w.frozen? ⟨b,k,none⟩=false:=by
 unfold IsTab at h;simp[World.frozen?,h]
theorem IsTab.lt {w:World}{b:Nat}{F:Nat→Bool}(h:IsTab w b F):b<w.heap.size:=(Array.getElem?_eq_some_iff.1 h).1
theorem IsTab.below {w w':World}{b B:Nat}{F:Nat→Bool}(h:IsTab w b F) (k:Below B w w') (hb:b<B):IsTab w' b F:=(k.block b hb).trans h
theorem IsTab.drew {w:World}{b:Nat}{F:Nat→Bool}(h:IsTab w b F):IsTab w.drew b F:=h
theorem IsTab.new (w:World) (F:Nat→Bool):IsTab (w.alloc (.cells #[.int .u64 (word F 0:Int),.int .u64 (word F 1:Int),.int .u64 (word F 2:Int),.int .u64 (word F 3:Int)] 24)) w.heap.size F:=Go.Deep.blk_alloc_new _ _
theorem IsTab.alloc {w:World}{b:Nat}{F:Nat→Bool}(h:IsTab w b F) (o:Obj):IsTab (w.alloc o) b F:=(Below.heap_alloc _ _ _ h.lt).trans h
theorem IsTab.other {w:World}{b:Nat}{F:Nat→Bool}(h:IsTab w b F){a:Addr}(ha:b≠a.block) (v:Value):IsTab (w.setCell a v) b F:=(Below.heap_setCell _ _ _ _ ha).trans h
theorem IsTab.ext {w:World}{b:Nat}{F G:Nat→Bool}(h:IsTab w b F) (e:∀x,x<256→F x=G x):IsTab w b G:=by
 unfold IsTab at h ⊢;rw[h,word_ext e (show 0<4 by decide),word_ext e (show 1<4 by decide),word_ext e (show 2<4 by decide),word_ext e (show 3<4 by decide)]
theorem IsTab.set {w:World}{b:Nat}{F:Nat→Bool}(h:IsTab w b F){k:Nat}(hk:k<4) (G:Nat→Bool) (hG:∀j,j<4→j≠k→word F j=word G j):IsTab (w.setCell ⟨b,k,none⟩ (.int .u64 (word G k:Int))) b G:=by
 unfold IsTab at h ⊢;have h4:k=0∨k=1∨k=2∨k=3:=by omega
 rcases h4 with rfl|rfl|rfl|rfl
 ·simp[World.setCell,Array.getElem?_modify,h,hG 1 (by decide) (by decide),hG 2 (by decide) (by decide),hG 3 (by decide) (by decide)]
 ·simp[World.setCell,Array.getElem?_modify,h,hG 0 (by decide) (by decide),hG 2 (by decide) (by decide),hG 3 (by decide) (by decide)]
 ·simp[World.setCell,Array.getElem?_modify,h,hG 0 (by decide) (by decide),hG 1 (by decide) (by decide),hG 3 (by decide) (by decide)]
 ·simp[World.setCell,Array.getElem?_modify,h,hG 0 (by decide) (by decide),hG 1 (by decide) (by decide),hG 2 (by decide) (by decide)]
structure Turned (b:Nat) (w w':World):Prop where
 os:w'.os=w.os
 tape:w'.tape=w.tape
 output:w'.output=w.output
 size:w.heap.size≤w'.heap.size
 block:∀k,k<w.heap.size→k≠b→w'.heap[k]? = w.heap[k]?
theorem Turned.below {b B:Nat}{w w':World}(h:Turned b w w') (hB:B≤w.heap.size) (hb:B≤b):Below B w w':=
 ⟨h.os,h.tape,h.output,h.size,fun k hk=>h.block k (by omega) (by omega)⟩
theorem Turned.refl (b:Nat) (w:World):Turned b w w:=⟨rfl,rfl,rfl,Nat.le_refl _,fun _ _ _=>rfl⟩
theorem Turned.tab {b c:Nat}{w w':World}{F:Nat→Bool}(h:Turned b w w') (k:IsTab w c F) (hc:c≠b):IsTab w' c F:=(h.block c k.lt hc).trans k
theorem set_any (b:Nat) (F:Nat→Bool) (x:Nat) (hx:x<256) (v:Bool) (w:World) (h:IsTab w b F) :
  Calls Tryz.prog 73 #[.pointer (some ⟨b,0,none⟩),.int .u8 (x:Int),.bool v] w fun e w'=>e = .returned (.tuple #[])∧IsTab w' b (fun y=>F y || (decide (y=x) && v))∧Turned b w w':=by
 have hc:=h.cell (k:=x / 64) (by omega);have hf:=h.free (x / 64);have hi:((x:Int) / 64).toNat=x / 64:=by omega
 have hlt:(x:Int) / 64<4:=by omega
 cases v with
 | false =>
  go_enter Tryz.func73,Tryz.ntmps73
  go_wp2
  go_end0
  exact⟨rfl,h.ext fun y _=>by simp,Turned.refl _ _⟩
 | true =>
  go_enter Tryz.func73,Tryz.ntmps73
  go_wp2
  go_region
  go_end0
  rw[set_bit F (x / 64) (x % 64) (by omega),show 64*(x / 64)+x % 64=x by omega];refine⟨rfl,?_,⟨rfl,rfl,rfl,by simp[World.setCell],fun k _ hk=>Below.heap_setCell _ _ _ _ hk⟩⟩;have h5:=h.set (k:=x / 64) (by omega) (fun y=>F y || decide (y=x)) (fun j hj hne=>(word_far F j x (fun e=>hne e.symm)).symm);exact(h5.ext fun y _=>by simp)
theorem IsTab.zero {w:World}{b:Nat}(h:w.heap[b]? = some (.cells #[.int .u64 0,.int .u64 0,.int .u64 0,.int .u64 0] 24 (0,0))):IsTab w b (fun _=>false):=by
 unfold IsTab;rw[word_zero,word_zero,word_zero,word_zero];exact h
theorem results_cell1 {fn:Func}{p:Tmp}{ty:TypeId}(h:fn.results=#[.cell p ty]) (tmps:Array Value) (P:Program) (w:World) :
  (results fn tmps).run P w=((asAddr (tmps.getD p undef)).run P w).andThen fun a w₁=>((loadVar ty a).run P w₁):=by
 simp only[results,h];simp[Sem.run_bind,Result.andThen]
theorem results_tab {fn:Func}{p:Tmp}(h:fn.results=#[.cell p 24]){tmps:Array Value}{w:World}{b:Nat}{F:Nat→Bool}(hp:tmps.getD p undef = .pointer (some ⟨b,0,none⟩)) (hT:IsTab w b F) :
  (results fn tmps).run Tryz.prog w = .ok (tab F) w:=by
 have c0:=hT.cell (show 0<4 by decide);have c1:=hT.cell (show 1<4 by decide);have c2:=hT.cell (show 2<4 by decide);have c3:=hT.cell (show 3<4 by decide);rw[results_cell1 h,hp];unfold tab;go_simp
def laid (w:World) (b:Nat) (G:Nat→Bool):World:=(((w.setCell ⟨b,0,none⟩ (.int .u64 (word G 0:Int))).setCell ⟨b,1,none⟩ (.int .u64 (word G 1:Int))).setCell ⟨b,2,none⟩ (.int .u64 (word G 2:Int))).setCell ⟨b,3,none⟩ (.int .u64 (word G 3:Int))
theorem laid_tab {w:World}{b:Nat}{F:Nat→Bool}(h:IsTab w b F) (G:Nat→Bool):IsTab (laid w b G) b G:=by
 unfold laid IsTab at *;simp[World.setCell,Array.getElem?_modify,h]
theorem laid_turned (w:World) (b:Nat) (G:Nat→Bool):Turned b w (laid w b G):=by
 unfold laid;refine⟨rfl,rfl,rfl,by simp[World.setCell],fun k _ hk=>?_⟩;rw[Below.heap_setCell _ _ _ _ hk,Below.heap_setCell _ _ _ _ hk,Below.heap_setCell _ _ _ _ hk,Below.heap_setCell _ _ _ _ hk]
theorem const_any (v:Bool) (w:World) :
  Calls Tryz.prog 76 #[.bool v] w fun e w'=>e = .returned (tab (fun _=>v))∧Below w.heap.size w w':=by
 go_enter Tryz.func76,Tryz.ntmps76
 go_wp2_with fail
 go_loopg [4] 256 (fun g si wr=>∃k:Nat,k+g=256∧si = .int .i64 (k:Int)∧IsTab wr (w.heap.size+1) (fun y=>decide (y<k) && v)∧IsTab wr w.heap.size (fun _=>false)∧Below w.heap.size w wr)
 case atStart =>
  refine⟨0,by omega,rfl,?_,?_,((Below.refl _ w).alloc (Nat.le_refl _) _).alloc (by simp) _⟩
  ·refine(IsTab.zero ?_).ext fun y _=>by simp
   rw[show w.heap.size+1=(w.alloc (.cells #[.int .u64 0,.int .u64 0,.int .u64 0,.int .u64 0] 24)).heap.size by simp];exact Go.Deep.blk_alloc_new _ _
  ·exact(IsTab.zero (Go.Deep.blk_alloc_new _ _)).alloc _
 case round =>
  obtain⟨k,hk,rfl,hT,hZ,hB⟩:=hrel;have hK:Aside (k+gk=256):=hk;clear hk;by_cases hk9:k<256
  ·have hk9':(k:Int)<256:=by omega
   have hw:IntKind.u8.wrap (k:Int)=(k:Int):=by rw[IntKind.wrap_u8];omega
   go_wp2_with (first
    | (go_at_call 73;refine(set_any (w.heap.size+1) _ k hk9 v _ hT).mono ?_;rintro e w6 ⟨rfl,h6,t6⟩))
   go_roundg (gk-1)
   case measure=>have:=hK.out;omega
   case rel =>
    have hk:=hK.out;exact⟨k+1,by omega,rfl,h6.ext fun y _=>upto_step (fun _=>v) k y,t6.tab hZ (by omega),hB.trans (t6.below hB.size (by omega))⟩
  ·obtain rfl:k=256:=by have:=hK.out;omega
   have c0:=hT.cell (show 0<4 by decide);have c1:=hT.cell (show 1<4 by decide);have c2:=hT.cell (show 2<4 by decide);have c3:=hT.cell (show 3<4 by decide);have z0:=hZ.cell (show 0<4 by decide);have z1:=hZ.cell (show 1<4 by decide);have z2:=hZ.cell (show 2<4 by decide);have z3:=hZ.cell (show 3<4 by decide);have y0:=hZ.free 0;have y1:=hZ.free 1;have y2:=hZ.free 2;have y3:=hZ.free 3
   go_wp2_with fail
   refine bodyPost_ret (results_tab rfl rfl (laid_tab hZ (fun y=>decide (y<256) && v))) rfl ⟨?_,hB.trans ((laid_turned _ _ _).below hB.size (Nat.le_refl _))⟩;rw[tab_ext fun y hy=>upto_all (fun _=>v) y hy]
theorem IsTab.mixed {w:World}{b k:Nat}{F G:Nat→Bool}(h:IsTab w b (mix k F G)) (hk:k<4):IsTab (w.setCell ⟨b,k,none⟩ (.int .u64 (word G k:Int))) b (mix (k+1) F G):=by
 rw[← mix_next k F G];exact h.set hk _ (fun j _ hj=>mix_else k j F G hj)
theorem IsTab.newAt {w:World}{n:Nat}(hn:w.heap.size=n) (F:Nat→Bool):IsTab (w.alloc (.cells #[.int .u64 (word F 0:Int),.int .u64 (word F 1:Int),.int .u64 (word F 2:Int),.int .u64 (word F 3:Int)] 24)) n F:=by
 subst hn;exact IsTab.new w F
theorem IsTab.zeroAt {w:World}{n:Nat}(hn:w.heap.size=n):IsTab (w.alloc (.cells #[.int .u64 0,.int .u64 0,.int .u64 0,.int .u64 0] 24)) n (fun _=>false):=by
 subst hn;exact IsTab.zero (Go.Deep.blk_alloc_new _ _)
theorem not_any (F:Nat→Bool) (w:World) :
  Calls Tryz.prog 110 #[tab F] w fun e w'=>e = .returned (tab (fun x=>!F x))∧Below w.heap.size w w':=by
 have R:Hid (tab (fun x=>!F x)=tab (mix 4 F fun x=>!F x)):=(tab_ext fun x hx=>mix_all F (fun x=>!F x) x hx).symm;rw[R.out];clear R
 conv in #[tab F] => unfold tab
 go_enter Tryz.func110,Tryz.ntmps110
 go_wp2_with fail
 go_loopg [3] 4 (fun g si wr=>∃k:Nat,k+g=4∧si = .int .i64 (k:Int)∧IsTab wr w.heap.size (mix k F fun x=>!F x)∧IsTab wr (w.heap.size+1) (fun _=>false)∧Below w.heap.size w wr)
 case atStart =>
  exact⟨0,by omega,rfl,((IsTab.new w F).alloc _).ext fun y _=>mix_none F _ y,IsTab.zeroAt (by simp),((Below.refl _ w).alloc (Nat.le_refl _) _).alloc (by simp) _⟩
 case round =>
  obtain⟨k,hk,rfl,hT,hZ,hB⟩:=hrel;have hK:Aside (k+gk=4):=hk;clear hk;by_cases hk9:k<4
  ·have hk9':(k:Int)<4:=by omega
   have c0:=hT.cell hk9;rw[mix_now]at c0;have f0:=hT.free k
   go_wp2_with fail
   rw[not_words F k];go_roundg (gk-1)
   case measure=>have:=hK.out;omega
   case rel =>
    have hk:=hK.out;exact⟨k+1,by omega,rfl,hT.mixed hk9,hZ.other (by simp) _,hB.setCell (Nat.le_refl _) _⟩
  ·obtain rfl:k=4:=by have:=hK.out;omega
   have c0:=hT.cell (show 0<4 by decide);have c1:=hT.cell (show 1<4 by decide);have c2:=hT.cell (show 2<4 by decide);have c3:=hT.cell (show 3<4 by decide);have z0:=hZ.cell (show 0<4 by decide);have z1:=hZ.cell (show 1<4 by decide);have z2:=hZ.cell (show 2<4 by decide);have z3:=hZ.cell (show 3<4 by decide);have y0:=hZ.free 0;have y1:=hZ.free 1;have y2:=hZ.free 2;have y3:=hZ.free 3
   go_wp2_with fail
   exact bodyPost_ret (results_tab rfl rfl (laid_tab hZ _)) rfl ⟨rfl,hB.trans ((laid_turned _ _ _).below hB.size (Nat.le_succ _))⟩
theorem and_any (F G:Nat→Bool) (w:World) :
  Calls Tryz.prog 32 #[tab F,tab G] w fun e w'=>e = .returned (tab (fun x=>F x && G x))∧Below w.heap.size w w':=by
 have R:Hid (tab (fun x=>F x && G x)=tab (mix 4 F fun x=>F x && G x)):=(tab_ext fun x hx=>mix_all F (fun x=>F x && G x) x hx).symm;rw[R.out];clear R
 conv in #[tab F, tab G] => unfold tab
 go_enter Tryz.func32,Tryz.ntmps32
 go_wp2_with fail
 go_loopg [5] 4 (fun g si wr=>∃k:Nat,k+g=4∧si = .int .i64 (k:Int)∧IsTab wr w.heap.size (mix k F fun x=>F x && G x)∧IsTab wr (w.heap.size+1) G∧IsTab wr (w.heap.size+2) (fun _=>false)∧Below w.heap.size w wr)
 case atStart =>
  exact⟨0,by omega,rfl,(((IsTab.new w F).alloc _).alloc _).ext fun y _=>mix_none F _ y,(IsTab.newAt (by simp) G).alloc _,IsTab.zeroAt (by simp),(((Below.refl _ w).alloc (Nat.le_refl _) _).alloc (by simp) _).alloc (by simp;omega) _⟩
 case round =>
  obtain⟨k,hk,rfl,hT,hU,hZ,hB⟩:=hrel;have hK:Aside (k+gk=4):=hk;clear hk;by_cases hk9:k<4
  ·have hk9':(k:Int)<4:=by omega
   have c0:=hT.cell hk9;rw[mix_now]at c0;have d0:=hU.cell hk9;have f0:=hT.free k
   go_wp2_with fail
   go_region
   rw[and_words F G k]
   go_wp2_with fail
   go_roundg (gk-1)
   case measure=>have:=hK.out;omega
   case rel =>
    have hk:=hK.out;exact⟨k+1,by omega,rfl,(hT.mixed hk9).drew,(hU.other (by simp) _).drew,(hZ.other (by simp) _).drew,(hB.setCell (Nat.le_refl _) _).drew⟩
  ·obtain rfl:k=4:=by have:=hK.out;omega
   have c0:=hT.cell (show 0<4 by decide);have c1:=hT.cell (show 1<4 by decide);have c2:=hT.cell (show 2<4 by decide);have c3:=hT.cell (show 3<4 by decide);have z0:=hZ.cell (show 0<4 by decide);have z1:=hZ.cell (show 1<4 by decide);have z2:=hZ.cell (show 2<4 by decide);have z3:=hZ.cell (show 3<4 by decide);have y0:=hZ.free 0;have y1:=hZ.free 1;have y2:=hZ.free 2;have y3:=hZ.free 3
   go_wp2_with fail
   exact bodyPost_ret (results_tab rfl rfl (laid_tab hZ _)) rfl ⟨rfl,hB.trans ((laid_turned _ _ _).below hB.size (by omega))⟩
theorem or_any (F G:Nat→Bool) (w:World) :
  Calls Tryz.prog 31 #[tab F,tab G] w fun e w'=>e = .returned (tab (fun x=>F x || G x))∧Below w.heap.size w w':=by
 have R:Hid (tab (fun x=>F x || G x)=tab (mix 4 F fun x=>F x || G x)):=(tab_ext fun x hx=>mix_all F (fun x=>F x || G x) x hx).symm;rw[R.out];clear R
 conv in #[tab F, tab G] => unfold tab
 go_enter Tryz.func31,Tryz.ntmps31
 go_wp2_with fail
 go_loopg [5] 4 (fun g si wr=>∃k:Nat,k+g=4∧si = .int .i64 (k:Int)∧IsTab wr w.heap.size (mix k F fun x=>F x || G x)∧IsTab wr (w.heap.size+1) G∧IsTab wr (w.heap.size+2) (fun _=>false)∧Below w.heap.size w wr)
 case atStart =>
  exact⟨0,by omega,rfl,(((IsTab.new w F).alloc _).alloc _).ext fun y _=>mix_none F _ y,(IsTab.newAt (by simp) G).alloc _,IsTab.zeroAt (by simp),(((Below.refl _ w).alloc (Nat.le_refl _) _).alloc (by simp) _).alloc (by simp;omega) _⟩
 case round =>
  obtain⟨k,hk,rfl,hT,hU,hZ,hB⟩:=hrel;have hK:Aside (k+gk=4):=hk;clear hk;by_cases hk9:k<4
  ·have hk9':(k:Int)<4:=by omega
   have c0:=hT.cell hk9;rw[mix_now]at c0;have d0:=hU.cell hk9;have f0:=hT.free k
   go_wp2_with fail
   go_region
   rw[or_words F G k]
   go_wp2_with fail
   go_roundg (gk-1)
   case measure=>have:=hK.out;omega
   case rel =>
    have hk:=hK.out;exact⟨k+1,by omega,rfl,(hT.mixed hk9).drew,(hU.other (by simp) _).drew,(hZ.other (by simp) _).drew,(hB.setCell (Nat.le_refl _) _).drew⟩
  ·obtain rfl:k=4:=by have:=hK.out;omega
   have c0:=hT.cell (show 0<4 by decide);have c1:=hT.cell (show 1<4 by decide);have c2:=hT.cell (show 2<4 by decide);have c3:=hT.cell (show 3<4 by decide);have z0:=hZ.cell (show 0<4 by decide);have z1:=hZ.cell (show 1<4 by decide);have z2:=hZ.cell (show 2<4 by decide);have z3:=hZ.cell (show 3<4 by decide);have y0:=hZ.free 0;have y1:=hZ.free 1;have y2:=hZ.free 2;have y3:=hZ.free 3
   go_wp2_with fail
   exact bodyPost_ret (results_tab rfl rfl (laid_tab hZ _)) rfl ⟨rfl,hB.trans ((laid_turned _ _ _).below hB.size (by omega))⟩
end Go.Proofs.YtnnmdkaoiofabaaGreat.Rf
namespace Go.Proofs.YtnnmdkaoiofabaaGreat.Rf
open Go Go.RowKit
theorem size22 : (sizeOf 22).run Tryz.prog=fun w=>.ok 1 w:=by
 funext w;have h:(Tryz.prog.info? 22).map (·.size)=some 1:=by kernel_rfl
 obtain⟨i,hi,hs⟩:=Option.map_eq_some_iff.1 h;simp[sizeOf,typeInfo,hi,hs]
theorem part22 (xs:Array Value) (k:Nat) (a:Int) (hx:xs[k]? = some (.int .u64 a)) (w:World):(part 22 xs k).run Tryz.prog w = .ok (.int .u64 a) w:=by
 simp[part,hx]
theorem equal_words (a0 a1 a2 a3 b0 b1 b2 b3:Int) (w:World) :
  (Op.equalIn 10000 24 (.agg #[.int .u64 a0,.int .u64 a1,.int .u64 a2,.int .u64 a3]) (.agg #[.int .u64 b0,.int .u64 b1,.int .u64 b2,.int .u64 b3])).run Tryz.prog w
   = .ok (a0 == b0 && (a1 == b1 && (a2 == b2 && a3 == b3))) w:=by
 have hi:∀(a b:Int) (w:World),(Op.equalIn 9999 22 (.int .u64 a) (.int .u64 b)).run Tryz.prog w = .ok (a == b) w:=fun a b w=>run_equalIn_int w 9998 22 .u64 .u64 a b Tryz.underlying22
 rw[show (10000:Nat)=9999+1 from rfl];generalize 9999=d at hi;have h1:=size22;simp only[Op.equalIn,Sem.run_bind,run_underlying Tryz.underlying24,Result.andThen_ok,h1];have hr:(List.range' 0 4 1)=[0,1,2,3]:=rfl;rw[Std.Legacy.Range.forIn_eq_forIn_range',show Std.Legacy.Range.size [:4]=4 from rfl,hr];have p0:=fun w=>part22 #[.int .u64 a0,.int .u64 a1,.int .u64 a2,.int .u64 a3] 0 a0 rfl w
 have p1:=fun w=>part22 #[.int .u64 a0,.int .u64 a1,.int .u64 a2,.int .u64 a3] 1 a1 rfl w
 have p2:=fun w=>part22 #[.int .u64 a0,.int .u64 a1,.int .u64 a2,.int .u64 a3] 2 a2 rfl w
 have p3:=fun w=>part22 #[.int .u64 a0,.int .u64 a1,.int .u64 a2,.int .u64 a3] 3 a3 rfl w
 have q0:=fun w=>part22 #[.int .u64 b0,.int .u64 b1,.int .u64 b2,.int .u64 b3] 0 b0 rfl w
 have q1:=fun w=>part22 #[.int .u64 b0,.int .u64 b1,.int .u64 b2,.int .u64 b3] 1 b1 rfl w
 have q2:=fun w=>part22 #[.int .u64 b0,.int .u64 b1,.int .u64 b2,.int .u64 b3] 2 b2 rfl w
 have q3:=fun w=>part22 #[.int .u64 b0,.int .u64 b1,.int .u64 b2,.int .u64 b3] 3 b3 rfl w
 simp only[List.forIn_cons,List.forIn_nil,Sem.run_bind,Nat.mul_one,p0,q0,hi,Result.andThen_ok,Sem.run_ite,Sem.run_pure];cases e0:a0 == b0 <;> cases e1:a1 == b1 <;> cases e2:a2 == b2 <;> cases e3:a3 == b3 <;> simp[Result.andThen,p1,p2,p3,q1,q2,q3,hi,e1,e2,e3]
def same (F G:Nat→Bool):Bool:=((word F 0:Int) == (word G 0:Int)) && (((word F 1:Int) == (word G 1:Int)) && (((word F 2:Int) == (word G 2:Int)) && ((word F 3:Int) == (word G 3:Int))))
theorem same_iff (F G:Nat→Bool):same F G=true↔∀x,x<256→F x=G x:=by
 unfold same;simp only[Bool.and_eq_true,beq_iff_eq,Int.natCast_inj];constructor
 ·rintro⟨h0,h1,h2,h3⟩;exact tab_inj h0 h1 h2 h3
 ·intro h;exact⟨word_ext h (by decide),word_ext h (by decide),word_ext h (by decide),word_ext h (by decide)⟩
theorem equal_tab (F G:Nat→Bool) (w:World):(Op.equalIn 10000 24 (tab F) (tab G)).run Tryz.prog w = .ok (same F G) w:=equal_words _ _ _ _ _ _ _ _ w
end Go.Proofs.YtnnmdkaoiofabaaGreat.Rf
namespace Go.Proofs.YtnnmdkaoiofabaaGreat.Rf
open Go Go.RowKit
theorem IsTab.kept {w w':World}{b:Nat}{F:Nat→Bool}(h:IsTab w b F) (k:Below w.heap.size w w'):IsTab w' b F:=(k.block b h.lt).trans h
def valAt (u:World) (b k:Nat):Value:=(u.cell? ⟨b,k,none⟩).getD undef
structure Sit (w:World) (R:Nat) (u:World):Prop where
 turned:Turned R w u
 room:∃F,IsTab u R F
theorem Sit.call {w u u':World}{R:Nat}(k:Below u.heap.size u u') (h:Sit w R u):Sit w R u':=by
 obtain⟨F,hF⟩:=h.room;refine⟨⟨k.os.trans h.turned.os,k.tape.trans h.turned.tape,k.output.trans h.turned.output,Nat.le_trans h.turned.size k.size,fun i hi hne=>?_⟩,⟨F,hF.kept k⟩⟩;rw[k.block i (Nat.lt_of_lt_of_le hi h.turned.size)];exact h.turned.block i hi hne
theorem Sit.start {w:World}{R:Nat}{F:Nat→Bool}(h:IsTab w R F):Sit w R w.drew:=⟨⟨rfl,rfl,rfl,Nat.le_refl _,fun _ _ _=>rfl⟩,⟨F,h⟩⟩
theorem Sit.cell {w u:World}{R b:Nat}{F:Nat→Bool}(h:IsTab w b F) (hb:b≠R){k:Nat}(hk:k<4) (s:Sit w R u):u.cell? ⟨b,k,none⟩=some (.int .u64 (word F k:Int)):=(s.turned.tab h hb).cell hk
theorem Sit.place {w u:World}{R:Nat}{k:Nat}(hk:k<4) (s:Sit w R u):u.cell? ⟨R,k,none⟩=some (valAt u R k):=by
 obtain⟨F,hF⟩:=s.room;unfold valAt;rw[hF.cell hk];rfl
theorem Sit.free {w u:World}{R:Nat}(k:Nat) (s:Sit w R u):u.frozen? ⟨R,k,none⟩=false:=by
 obtain⟨F,hF⟩:=s.room;exact hF.free k
theorem Sit.laid {w u:World}{R:Nat}(s:Sit w R u) (G:Nat→Bool):Sit w R (laid u R G):=by
 obtain⟨F,hF⟩:=s.room;have t:=laid_turned u R G;exact⟨⟨t.os.trans s.turned.os,t.tape.trans s.turned.tape,t.output.trans s.turned.output,Nat.le_trans s.turned.size t.size,fun i hi hne=>(t.block i (Nat.lt_of_lt_of_le hi s.turned.size) hne).trans (s.turned.block i hi hne)⟩,⟨G,laid_tab hF G⟩⟩
theorem ite_any (F G H:Nat→Bool) (w:World) :
  Calls Tryz.prog 111 #[tab F,tab G,tab H] w fun e w'=>e = .returned (tab (fun x=>(F x && G x) || (!F x && H x)))∧Below w.heap.size w w':=by
 conv in #[tab F, tab G, tab H] => unfold tab
 go_enter Tryz.func111,Tryz.ntmps111
 go_wp2_with fail
 have B0:=((((Below.refl _ w).alloc (Nat.le_refl _) (.cells #[.int .u64 (word F 0:Int),.int .u64 (word F 1:Int),.int .u64 (word F 2:Int),.int .u64 (word F 3:Int)] 24)).alloc (by simp) (.cells #[.int .u64 (word G 0:Int),.int .u64 (word G 1:Int),.int .u64 (word G 2:Int),.int .u64 (word G 3:Int)] 24)).alloc (by simp;omega) (.cells #[.int .u64 (word H 0:Int),.int .u64 (word H 1:Int),.int .u64 (word H 2:Int),.int .u64 (word H 3:Int)] 24)).alloc (by simp;omega) (.cells #[.int .u64 0,.int .u64 0,.int .u64 0,.int .u64 0] 24)
 have TF:=(((IsTab.new w F).alloc (.cells #[.int .u64 (word G 0:Int),.int .u64 (word G 1:Int),.int .u64 (word G 2:Int),.int .u64 (word G 3:Int)] 24)).alloc (.cells #[.int .u64 (word H 0:Int),.int .u64 (word H 1:Int),.int .u64 (word H 2:Int),.int .u64 (word H 3:Int)] 24)).alloc (.cells #[.int .u64 0,.int .u64 0,.int .u64 0,.int .u64 0] 24)
 have TG:=((IsTab.newAt (w:=w.alloc (.cells #[.int .u64 (word F 0:Int),.int .u64 (word F 1:Int),.int .u64 (word F 2:Int),.int .u64 (word F 3:Int)] 24)) (n:=w.heap.size+1) (by simp) G).alloc (.cells #[.int .u64 (word H 0:Int),.int .u64 (word H 1:Int),.int .u64 (word H 2:Int),.int .u64 (word H 3:Int)] 24)).alloc (.cells #[.int .u64 0,.int .u64 0,.int .u64 0,.int .u64 0] 24)
 have TH:=(IsTab.newAt (w:=(w.alloc (.cells #[.int .u64 (word F 0:Int),.int .u64 (word F 1:Int),.int .u64 (word F 2:Int),.int .u64 (word F 3:Int)] 24)).alloc (.cells #[.int .u64 (word G 0:Int),.int .u64 (word G 1:Int),.int .u64 (word G 2:Int),.int .u64 (word G 3:Int)] 24)) (n:=w.heap.size+2) (by simp) H).alloc (.cells #[.int .u64 0,.int .u64 0,.int .u64 0,.int .u64 0] 24)
 have TZ:=IsTab.zeroAt (w:=((w.alloc (.cells #[.int .u64 (word F 0:Int),.int .u64 (word F 1:Int),.int .u64 (word F 2:Int),.int .u64 (word F 3:Int)] 24)).alloc (.cells #[.int .u64 (word G 0:Int),.int .u64 (word G 1:Int),.int .u64 (word G 2:Int),.int .u64 (word G 3:Int)] 24)).alloc (.cells #[.int .u64 (word H 0:Int),.int .u64 (word H 1:Int),.int .u64 (word H 2:Int),.int .u64 (word H 3:Int)] 24)) (n:=w.heap.size+3) (by simp)
 generalize (((w.alloc (.cells #[.int .u64 (word F 0:Int),.int .u64 (word F 1:Int),.int .u64 (word F 2:Int),.int .u64 (word F 3:Int)] 24)).alloc (.cells #[.int .u64 (word G 0:Int),.int .u64 (word G 1:Int),.int .u64 (word G 2:Int),.int .u64 (word G 3:Int)] 24)).alloc (.cells #[.int .u64 (word H 0:Int),.int .u64 (word H 1:Int),.int .u64 (word H 2:Int),.int .u64 (word H 3:Int)] 24)).alloc (.cells #[.int .u64 0,.int .u64 0,.int .u64 0,.int .u64 0] 24)=w4 at B0 TF TG TH TZ ⊢
 have l0:∀u,Sit w4 (w.heap.size+3) u→u.cell? ⟨w.heap.size,0,none⟩=some (.int .u64 (word F 0:Int)):=fun u s=>s.cell TF (by omega) (by decide)
 have l1:∀u,Sit w4 (w.heap.size+3) u→u.cell? ⟨w.heap.size,1,none⟩=some (.int .u64 (word F 1:Int)):=fun u s=>s.cell TF (by omega) (by decide)
 have l2:∀u,Sit w4 (w.heap.size+3) u→u.cell? ⟨w.heap.size,2,none⟩=some (.int .u64 (word F 2:Int)):=fun u s=>s.cell TF (by omega) (by decide)
 have l3:∀u,Sit w4 (w.heap.size+3) u→u.cell? ⟨w.heap.size,3,none⟩=some (.int .u64 (word F 3:Int)):=fun u s=>s.cell TF (by omega) (by decide)
 have m0:∀u,Sit w4 (w.heap.size+3) u→u.cell? ⟨w.heap.size+1,0,none⟩=some (.int .u64 (word G 0:Int)):=fun u s=>s.cell TG (by omega) (by decide)
 have m1:∀u,Sit w4 (w.heap.size+3) u→u.cell? ⟨w.heap.size+1,1,none⟩=some (.int .u64 (word G 1:Int)):=fun u s=>s.cell TG (by omega) (by decide)
 have m2:∀u,Sit w4 (w.heap.size+3) u→u.cell? ⟨w.heap.size+1,2,none⟩=some (.int .u64 (word G 2:Int)):=fun u s=>s.cell TG (by omega) (by decide)
 have m3:∀u,Sit w4 (w.heap.size+3) u→u.cell? ⟨w.heap.size+1,3,none⟩=some (.int .u64 (word G 3:Int)):=fun u s=>s.cell TG (by omega) (by decide)
 have n0:∀u,Sit w4 (w.heap.size+3) u→u.cell? ⟨w.heap.size+2,0,none⟩=some (.int .u64 (word H 0:Int)):=fun u s=>s.cell TH (by omega) (by decide)
 have n1:∀u,Sit w4 (w.heap.size+3) u→u.cell? ⟨w.heap.size+2,1,none⟩=some (.int .u64 (word H 1:Int)):=fun u s=>s.cell TH (by omega) (by decide)
 have n2:∀u,Sit w4 (w.heap.size+3) u→u.cell? ⟨w.heap.size+2,2,none⟩=some (.int .u64 (word H 2:Int)):=fun u s=>s.cell TH (by omega) (by decide)
 have n3:∀u,Sit w4 (w.heap.size+3) u→u.cell? ⟨w.heap.size+2,3,none⟩=some (.int .u64 (word H 3:Int)):=fun u s=>s.cell TH (by omega) (by decide)
 have r0:∀u,Sit w4 (w.heap.size+3) u→u.cell? ⟨w.heap.size+3,0,none⟩=some (valAt u (w.heap.size+3) 0):=fun u s=>s.place (by decide)
 have r1:∀u,Sit w4 (w.heap.size+3) u→u.cell? ⟨w.heap.size+3,1,none⟩=some (valAt u (w.heap.size+3) 1):=fun u s=>s.place (by decide)
 have r2:∀u,Sit w4 (w.heap.size+3) u→u.cell? ⟨w.heap.size+3,2,none⟩=some (valAt u (w.heap.size+3) 2):=fun u s=>s.place (by decide)
 have r3:∀u,Sit w4 (w.heap.size+3) u→u.cell? ⟨w.heap.size+3,3,none⟩=some (valAt u (w.heap.size+3) 3):=fun u s=>s.place (by decide)
 have rf:∀k u,Sit w4 (w.heap.size+3) u→u.frozen? ⟨w.heap.size+3,k,none⟩=false:=fun k u s=>s.free k
 go_region_held3 (fun u=>Sit w4 (w.heap.size+3) u) (first|exact Sit.start TZ|exact Sit.call (by assumption) (by assumption)|exact Sit.laid (by assumption) _) (first
  | (go_at_call 32;refine(and_any _ _ _).mono ?_;rintro e w6 ⟨rfl,b6⟩)
  | (go_at_call 110;refine(not_any _ _).mono ?_;rintro e w6 ⟨rfl,b6⟩)
  | (go_at_call 31;refine(or_any _ _ _).mono ?_;unfold tab;rintro e w6 ⟨rfl,b6⟩))
 have S6:Sit w4 (w.heap.size+3) w6:=Sit.call b6 (Sit.call (by assumption) (Sit.call (by assumption) (Sit.call (by assumption) (Sit.start TZ))));obtain⟨F',hF'⟩:=S6.room
 go_wp2_with fail
 exact bodyPost_ret (results_tab rfl rfl (laid_tab hF' _)) rfl ⟨rfl,B0.trans ((S6.laid _).turned.below B0.size (by omega))⟩
end Go.Proofs.YtnnmdkaoiofabaaGreat.Rf
namespace Go.Proofs.YtnnmdkaoiofabaaGreat.Rf
open Go Go.RowKit
theorem IsTab.copy {w:World}{b:Nat}{F:Nat→Bool}(h:IsTab w b F):w.cell? ⟨b,0,none⟩=some (.int .u64 (word F 0:Int))∧w.cell? ⟨b,1,none⟩=some (.int .u64 (word F 1:Int))∧w.cell? ⟨b,2,none⟩=some (.int .u64 (word F 2:Int))∧w.cell? ⟨b,3,none⟩=some (.int .u64 (word F 3:Int)):=⟨h.cell (by decide),h.cell (by decide),h.cell (by decide),h.cell (by decide)⟩
theorem fix_none (F:Nat→Bool) (v:Int) (b:Bool) (hv:v<0∨8≤v) (w:World) :
  Calls Tryz.prog 40 #[tab F,.int .i64 v,.bool b] w fun e w'=>e = .returned (tab F)∧Below w.heap.size w w':=by
 conv in #[tab F, Value.int IntKind.i64 v, Value.bool b] => unfold tab
 go_enter Tryz.func40,Tryz.ntmps40
 go_wp2_with fail
 all_goals exact bodyPost_ret (results_tab rfl rfl (IsTab.newAt (by simp) F)) rfl ⟨rfl,((Below.refl _ w).alloc (Nat.le_refl _) _).alloc (by simp) _⟩
theorem IsTab.wordsAt {w:World}{n:Nat}(hn:w.heap.size=n) (G:Nat→Bool){a b c d:Nat}(h0:word G 0=a) (h1:word G 1=b) (h2:word G 2=c) (h3:word G 3=d):IsTab (w.alloc (.cells #[.int .u64 (a:Int),.int .u64 (b:Int),.int .u64 (c:Int),.int .u64 (d:Int)] 24)) n G:=by
 subst h0 h1 h2 h3;exact IsTab.newAt hn G
theorem fix_6_false (F:Nat→Bool) (w:World) :
  Calls Tryz.prog 40 #[tab F,.int .i64 6,.bool false] w fun e w'=>e = .returned (tab (fixF F 6 false))∧Below w.heap.size w w':=by
 have a0:bits .and .i64 0 1=0:=by decide
 have o0:bits .or .i64 0 1=1:=by decide
 have a1:bits .and .i64 1 1=1:=by decide
 have a2:bits .and .i64 2 1=0:=by decide
 have o2:bits .or .i64 2 1=3:=by decide
 have a3:bits .and .i64 3 1=1:=by decide
 conv in #[tab F, Value.int IntKind.i64 6, Value.bool false] => unfold tab
 go_enter Tryz.func40,Tryz.ntmps40
 go_wp2_with fail
 refine wp_loop_rounds 5 ?_;rw[rounds_succ]
 go_wp2_with fail
 rw[rounds_succ]
 go_wp2_with fail
 rw[rounds_succ]
 go_wp2_with fail
 rw[rounds_succ]
 go_wp2_with fail
 rw[rounds_succ]
 go_wp2_with fail
 exact bodyPost_ret (results_tab rfl rfl (IsTab.wordsAt (by simp) (fixF F 6 false) (fix6 F false 0 (by decide)) (fix6 F false 1 (by decide)) (fix6 F false 2 (by decide)) (fix6 F false 3 (by decide)))) rfl ⟨rfl,((Below.refl _ w).alloc (Nat.le_refl _) _).alloc (by simp) _⟩
theorem fix_6_true (F:Nat→Bool) (w:World) :
  Calls Tryz.prog 40 #[tab F,.int .i64 6,.bool true] w fun e w'=>e = .returned (tab (fixF F 6 true))∧Below w.heap.size w w':=by
 have a0:bits .and .i64 0 1=0:=by decide
 have o0:bits .or .i64 0 1=1:=by decide
 have a1:bits .and .i64 1 1=1:=by decide
 have a2:bits .and .i64 2 1=0:=by decide
 have o2:bits .or .i64 2 1=3:=by decide
 have a3:bits .and .i64 3 1=1:=by decide
 conv in #[tab F, Value.int IntKind.i64 6, Value.bool true] => unfold tab
 go_enter Tryz.func40,Tryz.ntmps40
 go_wp2_with fail
 refine wp_loop_rounds 5 ?_;rw[rounds_succ]
 go_wp2_with fail
 rw[rounds_succ]
 go_wp2_with fail
 rw[rounds_succ]
 go_wp2_with fail
 rw[rounds_succ]
 go_wp2_with fail
 rw[rounds_succ]
 go_wp2_with fail
 exact bodyPost_ret (results_tab rfl rfl (IsTab.wordsAt (by simp) (fixF F 6 true) (fix6 F true 0 (by decide)) (fix6 F true 1 (by decide)) (fix6 F true 2 (by decide)) (fix6 F true 3 (by decide)))) rfl ⟨rfl,((Below.refl _ w).alloc (Nat.le_refl _) _).alloc (by simp) _⟩
theorem fix_7_false (F:Nat→Bool) (w:World) :
  Calls Tryz.prog 40 #[tab F,.int .i64 7,.bool false] w fun e w'=>e = .returned (tab (fixF F 7 false))∧Below w.heap.size w w':=by
 have a0:bits .and .i64 0 2=0:=by decide
 have o0:bits .or .i64 0 2=2:=by decide
 have a1:bits .and .i64 1 2=0:=by decide
 have o1:bits .or .i64 1 2=3:=by decide
 have a2:bits .and .i64 2 2=2:=by decide
 have a3:bits .and .i64 3 2=2:=by decide
 conv in #[tab F, Value.int IntKind.i64 7, Value.bool false] => unfold tab
 go_enter Tryz.func40,Tryz.ntmps40
 go_wp2_with fail
 refine wp_loop_rounds 5 ?_;rw[rounds_succ]
 go_wp2_with fail
 rw[rounds_succ]
 go_wp2_with fail
 rw[rounds_succ]
 go_wp2_with fail
 rw[rounds_succ]
 go_wp2_with fail
 rw[rounds_succ]
 go_wp2_with fail
 exact bodyPost_ret (results_tab rfl rfl (IsTab.wordsAt (by simp) (fixF F 7 false) (fix7 F false 0 (by decide)) (fix7 F false 1 (by decide)) (fix7 F false 2 (by decide)) (fix7 F false 3 (by decide)))) rfl ⟨rfl,((Below.refl _ w).alloc (Nat.le_refl _) _).alloc (by simp) _⟩
theorem fix_7_true (F:Nat→Bool) (w:World) :
  Calls Tryz.prog 40 #[tab F,.int .i64 7,.bool true] w fun e w'=>e = .returned (tab (fixF F 7 true))∧Below w.heap.size w w':=by
 have a0:bits .and .i64 0 2=0:=by decide
 have o0:bits .or .i64 0 2=2:=by decide
 have a1:bits .and .i64 1 2=0:=by decide
 have o1:bits .or .i64 1 2=3:=by decide
 have a2:bits .and .i64 2 2=2:=by decide
 have a3:bits .and .i64 3 2=2:=by decide
 conv in #[tab F, Value.int IntKind.i64 7, Value.bool true] => unfold tab
 go_enter Tryz.func40,Tryz.ntmps40
 go_wp2_with fail
 refine wp_loop_rounds 5 ?_;rw[rounds_succ]
 go_wp2_with fail
 rw[rounds_succ]
 go_wp2_with fail
 rw[rounds_succ]
 go_wp2_with fail
 rw[rounds_succ]
 go_wp2_with fail
 rw[rounds_succ]
 go_wp2_with fail
 exact bodyPost_ret (results_tab rfl rfl (IsTab.wordsAt (by simp) (fixF F 7 true) (fix7 F true 0 (by decide)) (fix7 F true 1 (by decide)) (fix7 F true 2 (by decide)) (fix7 F true 3 (by decide)))) rfl ⟨rfl,((Below.refl _ w).alloc (Nat.le_refl _) _).alloc (by simp) _⟩
end Go.Proofs.YtnnmdkaoiofabaaGreat.Rf
namespace Go.Proofs.YtnnmdkaoiofabaaGreat.Rf
open Go Go.RowKit
theorem mask_set (v x:Nat) (hx:x<64) (h:M v x=true):bits .or .u64 (word (fun y=>decide (y<x) && M v y) 0:Int) (IntKind.u64.wrap (2^x))=(word (fun y=>decide (y<x+1) && M v y) 0:Int):=by
 rw[set_bit _ 0 x hx];congr 1;apply word_congr;intro i _;have:=upto_step (M v) x (64*0+i);rw[h,Bool.and_true]at this;simpa using this
theorem mask_skip (v x:Nat) (h:M v x=false):word (fun y=>decide (y<x) && M v y) 0=word (fun y=>decide (y<x+1) && M v y) 0:=by
 apply word_congr;intro i _;have:=upto_step (M v) x (64*0+i);rw[h,Bool.and_false,Bool.or_false]at this;exact this
theorem mask_all (v:Nat):word (fun y=>decide (y<64) && M v y) 0=word (M v) 0:=word_congr fun i hi=>by simp[hi]
theorem up_int (F:Nat→Bool) (v k S:Nat) (hv:v<6) (hS:2^v=S):bits .or .u64 (word (fun x=>F x && M v x) k:Int) ((word (fun x=>F x && M v x) k:Int) / 2^S)=(word (fixF F v true) k:Int):=by
 subst hS;have h1:((word (fun x=>F x && M v x) k:Int) / 2^(2^v))=((word (fun x=>F x && M v x) k / 2^(2^v):Nat):Int):=by push_cast;rfl
 rw[h1,u64_or_nat _ _ (word_lt _ k) (Nat.lt_of_le_of_lt (Nat.div_le_self _ _) (word_lt _ k)),fix_up F v k hv]
theorem down_int (F:Nat→Bool) (v k S:Nat) (hv:v<6) (hS:2^v=S):bits .or .u64 (word (fun x=>F x && !M v x) k:Int) (IntKind.u64.wrap ((word (fun x=>F x && !M v x) k:Int)*2^S))=(word (fixF F v false) k:Int):=by
 subst hS;have h1:IntKind.u64.wrap ((word (fun x=>F x && !M v x) k:Int)*2^(2^v))=((word (fun x=>F x && !M v x) k*2^(2^v) % 18446744073709551616:Nat):Int):=by
  have h2:(word (fun x=>F x && !M v x) k:Int)*2^(2^v)=((word (fun x=>F x && !M v x) k*2^(2^v):Nat):Int):=by push_cast;rfl
  rw[IntKind.wrap_u64,h2];exact(Int.natCast_emod _ 18446744073709551616).symm
 rw[h1,u64_or_nat _ _ (word_lt _ k) (Nat.mod_lt _ (by decide)),fix_down F v k hv]
set_option maxHeartbeats 1600000 in
theorem fix_low_true (F:Nat→Bool) (v:Nat) (hv:v<6) (w:World) :
  Calls Tryz.prog 40 #[tab F,.int .i64 (v:Int),.bool true] w fun e w'=>e = .returned (tab (fixF F v true))∧Below w.heap.size w w':=by
 have R:Hid (tab (fixF F v true)=tab (mix 4 F (fixF F v true))):=(tab_ext fun x hx=>mix_all F (fixF F v true) x hx).symm;rw[R.out];clear R;obtain⟨S,hS⟩:∃S:Nat,2^v=S:=⟨_,rfl⟩
 have hS1:S≤32:=by rw[← hS];exact Nat.pow_le_pow_right (n:=2) (by decide) (show v≤5 by omega)
 have hS0:0<S:=by rw[← hS];exact Nat.pow_pos (by decide)
 have hSS:IntKind.u64.wrap (2^v)=(S:Int):=by
  have h2:(2:Int)^v=((2^v:Nat):Int):=by push_cast;rfl
  rw[h2,hS,IntKind.wrap_u64];omega
 have hSA:Hid (2^v=S):=hS;clear hS;have hv6:decide ((6:Int)≤(v:Int))=false:=by simp;omega
 conv in #[tab F, Value.int IntKind.i64 (v : Int), Value.bool true] => unfold tab
 go_enter Tryz.func40,Tryz.ntmps40
 go_wp2_with fail
 have TF:=(IsTab.new w F).alloc (.cells #[.int .u64 0,.int .u64 0,.int .u64 0,.int .u64 0] 24);have TZ:=IsTab.zeroAt (w:=w.alloc (.cells #[.int .u64 (word F 0:Int),.int .u64 (word F 1:Int),.int .u64 (word F 2:Int),.int .u64 (word F 3:Int)] 24)) (n:=w.heap.size+1) (by simp);have B0:=((Below.refl _ w).alloc (Nat.le_refl _) (.cells #[.int .u64 (word F 0:Int),.int .u64 (word F 1:Int),.int .u64 (word F 2:Int),.int .u64 (word F 3:Int)] 24)).alloc (by simp) (.cells #[.int .u64 0,.int .u64 0,.int .u64 0,.int .u64 0] 24)
 generalize (w.alloc (.cells #[.int .u64 (word F 0:Int),.int .u64 (word F 1:Int),.int .u64 (word F 2:Int),.int .u64 (word F 3:Int)] 24)).alloc (.cells #[.int .u64 0,.int .u64 0,.int .u64 0,.int .u64 0] 24)=w4 at TF TZ B0 ⊢;go_loopg [10,12] 64 (fun g sm sx wr=>∃x:Nat,x+g=64∧sx = .int .u64 (x:Int)∧sm = .int .u64 (word (fun y=>decide (y<x) && M v y) 0:Int)∧wr=w4)
 case atStart=>exact⟨0,by omega,rfl,by simp[word_zero],rfl⟩
 case round =>
  obtain⟨x,hx,rfl,rfl,rfl⟩:=hrel;have hX:Aside (x+gk=64):=hx;clear hx;by_cases hx9:x<64
  ·have hx9':(x:Int)<64:=by omega
   have ha:=and_pow x v hx9 hv;rw[hSA.out]at ha;cases hm:M v x with
   | true =>
    rw[hm,if_pos rfl]at ha;have hne:((S:Int) != 0)=true:=by simp;omega
    have hor:=mask_set v x hx9 hm
    go_wp2_with fail
    go_roundg (gk-1)
    case measure=>have:=hX.out;omega
    case rel=>have:=hX.out;exact⟨x+1,by omega,rfl,rfl,rfl⟩
   | false =>
    rw[hm,if_neg (by decide)]at ha
    go_wp2_with fail
    go_roundg (gk-1)
    case measure=>have:=hX.out;omega
    case rel=>have:=hX.out;exact⟨x+1,by omega,rfl,by rw[mask_skip v x hm],rfl⟩
  ·obtain rfl:x=64:=by have:=hX.out;omega
   rw[mask_all]
   go_wp2_with fail
   go_loopg [13] 4 (fun g si wr=>∃k:Nat,k+g=4∧si = .int .i64 (k:Int)∧IsTab wr w.heap.size (mix k F (fixF F v true))∧IsTab wr (w.heap.size+1) (fun _=>false)∧Below w.heap.size w wr)
   case atStart=>exact⟨0,by omega,rfl,TF.ext fun y _=>mix_none F _ y,TZ,B0⟩
   case round =>
    obtain⟨k,hk,rfl,hT,hZ,hB⟩:=hrel;have hK:Aside (k+gk=4):=hk;clear hk;by_cases hk9:k<4
    ·have hk9':(k:Int)<4:=by omega
     have c0:=hT.cell hk9;rw[mix_now]at c0;have f0:=hT.free k;have e1:bits .and .u64 (word F k:Int) (word (M v) 0:Int)=(word (fun x=>F x && M v x) k:Int):=by rw[u64_and_nat _ _ (word_lt F k) (word_lt _ 0),and_mask F v k hv]
     go_wp2_with fail
     rw[up_int F v k S hv hSA.out];go_roundg (gk-1)
     case measure=>have:=hK.out;omega
     case rel =>
      have hk:=hK.out;exact⟨k+1,by omega,rfl,hT.mixed hk9,hZ.other (by simp) _,hB.setCell (Nat.le_refl _) _⟩
    ·obtain rfl:k=4:=by have:=hK.out;omega
     obtain⟨c0,c1,c2,c3⟩:=hT.copy;obtain⟨z0,z1,z2,z3⟩:=hZ.copy;have y0:=hZ.free 0;have y1:=hZ.free 1;have y2:=hZ.free 2;have y3:=hZ.free 3
     go_wp2_with fail
     exact bodyPost_ret (results_tab rfl rfl (laid_tab hZ _)) rfl ⟨rfl,hB.trans ((laid_turned _ _ _).below hB.size (Nat.le_succ _))⟩
set_option maxHeartbeats 1600000 in
theorem fix_low_false (F:Nat→Bool) (v:Nat) (hv:v<6) (w:World) :
  Calls Tryz.prog 40 #[tab F,.int .i64 (v:Int),.bool false] w fun e w'=>e = .returned (tab (fixF F v false))∧Below w.heap.size w w':=by
 have R:Hid (tab (fixF F v false)=tab (mix 4 F (fixF F v false))):=(tab_ext fun x hx=>mix_all F (fixF F v false) x hx).symm;rw[R.out];clear R;obtain⟨S,hS⟩:∃S:Nat,2^v=S:=⟨_,rfl⟩
 have hS1:S≤32:=by rw[← hS];exact Nat.pow_le_pow_right (n:=2) (by decide) (show v≤5 by omega)
 have hS0:0<S:=by rw[← hS];exact Nat.pow_pos (by decide)
 have hSS:IntKind.u64.wrap (2^v)=(S:Int):=by
  have h2:(2:Int)^v=((2^v:Nat):Int):=by push_cast;rfl
  rw[h2,hS,IntKind.wrap_u64];omega
 have hSA:Hid (2^v=S):=hS;clear hS;have hv6:decide ((6:Int)≤(v:Int))=false:=by simp;omega
 conv in #[tab F, Value.int IntKind.i64 (v : Int), Value.bool false] => unfold tab
 go_enter Tryz.func40,Tryz.ntmps40
 go_wp2_with fail
 have TF:=(IsTab.new w F).alloc (.cells #[.int .u64 0,.int .u64 0,.int .u64 0,.int .u64 0] 24);have TZ:=IsTab.zeroAt (w:=w.alloc (.cells #[.int .u64 (word F 0:Int),.int .u64 (word F 1:Int),.int .u64 (word F 2:Int),.int .u64 (word F 3:Int)] 24)) (n:=w.heap.size+1) (by simp);have B0:=((Below.refl _ w).alloc (Nat.le_refl _) (.cells #[.int .u64 (word F 0:Int),.int .u64 (word F 1:Int),.int .u64 (word F 2:Int),.int .u64 (word F 3:Int)] 24)).alloc (by simp) (.cells #[.int .u64 0,.int .u64 0,.int .u64 0,.int .u64 0] 24)
 generalize (w.alloc (.cells #[.int .u64 (word F 0:Int),.int .u64 (word F 1:Int),.int .u64 (word F 2:Int),.int .u64 (word F 3:Int)] 24)).alloc (.cells #[.int .u64 0,.int .u64 0,.int .u64 0,.int .u64 0] 24)=w4 at TF TZ B0 ⊢;go_loopg [10,12] 64 (fun g sm sx wr=>∃x:Nat,x+g=64∧sx = .int .u64 (x:Int)∧sm = .int .u64 (word (fun y=>decide (y<x) && M v y) 0:Int)∧wr=w4)
 case atStart=>exact⟨0,by omega,rfl,by simp[word_zero],rfl⟩
 case round =>
  obtain⟨x,hx,rfl,rfl,rfl⟩:=hrel;have hX:Aside (x+gk=64):=hx;clear hx;by_cases hx9:x<64
  ·have hx9':(x:Int)<64:=by omega
   have ha:=and_pow x v hx9 hv;rw[hSA.out]at ha;cases hm:M v x with
   | true =>
    rw[hm,if_pos rfl]at ha;have hne:((S:Int) != 0)=true:=by simp;omega
    have hor:=mask_set v x hx9 hm
    go_wp2_with fail
    go_roundg (gk-1)
    case measure=>have:=hX.out;omega
    case rel=>have:=hX.out;exact⟨x+1,by omega,rfl,rfl,rfl⟩
   | false =>
    rw[hm,if_neg (by decide)]at ha
    go_wp2_with fail
    go_roundg (gk-1)
    case measure=>have:=hX.out;omega
    case rel=>have:=hX.out;exact⟨x+1,by omega,rfl,by rw[mask_skip v x hm],rfl⟩
  ·obtain rfl:x=64:=by have:=hX.out;omega
   rw[mask_all]
   go_wp2_with fail
   go_loopg [13] 4 (fun g si wr=>∃k:Nat,k+g=4∧si = .int .i64 (k:Int)∧IsTab wr w.heap.size (mix k F (fixF F v false))∧IsTab wr (w.heap.size+1) (fun _=>false)∧Below w.heap.size w wr)
   case atStart=>exact⟨0,by omega,rfl,TF.ext fun y _=>mix_none F _ y,TZ,B0⟩
   case round =>
    obtain⟨k,hk,rfl,hT,hZ,hB⟩:=hrel;have hK:Aside (k+gk=4):=hk;clear hk;by_cases hk9:k<4
    ·have hk9':(k:Int)<4:=by omega
     have c0:=hT.cell hk9;rw[mix_now]at c0;have f0:=hT.free k;have e1:bits .andNot .u64 (word F k:Int) (word (M v) 0:Int)=(word (fun x=>F x && !M v x) k:Int):=by rw[u64_andNot_nat _ _ (word_lt F k) (word_lt _ 0),andNot_mask F v k hv]
     go_wp2_with fail
     rw[down_int F v k S hv hSA.out];go_roundg (gk-1)
     case measure=>have:=hK.out;omega
     case rel =>
      have hk:=hK.out;exact⟨k+1,by omega,rfl,hT.mixed hk9,hZ.other (by simp) _,hB.setCell (Nat.le_refl _) _⟩
    ·obtain rfl:k=4:=by have:=hK.out;omega
     obtain⟨c0,c1,c2,c3⟩:=hT.copy;obtain⟨z0,z1,z2,z3⟩:=hZ.copy;have y0:=hZ.free 0;have y1:=hZ.free 1;have y2:=hZ.free 2;have y3:=hZ.free 3
     go_wp2_with fail
     exact bodyPost_ret (results_tab rfl rfl (laid_tab hZ _)) rfl ⟨rfl,hB.trans ((laid_turned _ _ _).below hB.size (Nat.le_succ _))⟩
theorem fix_any (F:Nat→Bool) (v:Nat) (hv:v<8) (b:Bool) (w:World) :
  Calls Tryz.prog 40 #[tab F,.int .i64 (v:Int),.bool b] w fun e w'=>e = .returned (tab (fixF F v b))∧Below w.heap.size w w':=by
 by_cases h6:v<6
 ·cases b
  ·exact fix_low_false F v h6 w
  ·exact fix_low_true F v h6 w
 ·have h:v=6∨v=7:=by omega
  rcases h with rfl|rfl
  ·cases b
   ·exact fix_6_false F w
   ·exact fix_6_true F w
  ·cases b
   ·exact fix_7_false F w
   ·exact fix_7_true F w
end Go.Proofs.YtnnmdkaoiofabaaGreat.Rf
namespace Go.Proofs.YtnnmdkaoiofabaaGreat.Rf
open Go Go.RowKit
theorem below_far {a b c:World}(h:Below a.heap.size a b) (k:Below b.heap.size b c):Below a.heap.size a c:=
 h.trans (k.mono h.size)
end Go.Proofs.YtnnmdkaoiofabaaGreat.Rf
namespace Go.Proofs.YtnnmdkaoiofabaaGreat.Rf
open Go Go.RowKit
theorem var_any (v:Nat) (hv:v<8) (w:World) :
  Calls Tryz.prog 33 #[.int .i64 (v:Int)] w fun e w'=>e = .returned (tab (M v))∧Below w.heap.size w w':=by
 have R:Hid (tab (M v)=tab (fun y=>decide (y<256) && M v y)):=(tab_ext fun y hy=>upto_all (M v) y hy).symm;rw[R.out];clear R;have hv':(v:Int)<8:=by omega
 go_enter Tryz.func33,Tryz.ntmps33
 go_wp2_with fail
 have TZ:=((IsTab.zeroAt (w:=w) (n:=w.heap.size) (by simp)).alloc (.cells #[.int .u64 0,.int .u64 0,.int .u64 0,.int .u64 0] 24))
 have TZ1:=(IsTab.zeroAt (w:=(w.alloc (.cells #[.int .u64 0,.int .u64 0,.int .u64 0,.int .u64 0] 24))) (n:=w.heap.size+1) (by simp))
 have B0:=(((Below.refl _ w).alloc (Nat.le_refl _) (.cells #[.int .u64 0,.int .u64 0,.int .u64 0,.int .u64 0] 24)).alloc (by simp) (.cells #[.int .u64 0,.int .u64 0,.int .u64 0,.int .u64 0] 24))
 generalize ((w.alloc (.cells #[.int .u64 0,.int .u64 0,.int .u64 0,.int .u64 0] 24)).alloc (.cells #[.int .u64 0,.int .u64 0,.int .u64 0,.int .u64 0] 24))=w4 at  B0 TZ TZ1 ⊢;go_loopg [4] 256 (fun g si wr=>∃k:Nat,k+g=256∧si = .int .i64 (k:Int)∧IsTab wr (w.heap.size+1) (fun y=>decide (y<k) && M v y)∧IsTab wr w.heap.size (fun _=>false)∧Below w.heap.size w wr)
 case atStart=>exact⟨0,by omega,rfl,TZ1.ext fun y _=>by simp,TZ,B0⟩
 case round =>
  obtain⟨k,hk,rfl,hT,hZ,hB⟩:=hrel;have hK:Aside (k+gk=256):=hk;clear hk;by_cases hk9:k<256
  ·have hk9':(k:Int)<256:=by omega
   have hw:IntKind.u8.wrap (k:Int)=(k:Int):=by rw[IntKind.wrap_u8];omega
   have hb:=var_bit v k hk9;have hS:=upto_step (M v) k;generalize M v k=m at hb hS
   go_wp2_with (first
    | (go_at_call 73;refine(set_any (w.heap.size+1) _ k hk9 m _ hT).mono ?_;rintro e w6 ⟨rfl,h6,t6⟩))
   go_roundg (gk-1)
   case measure=>have:=hK.out;omega
   case rel =>
    have hk:=hK.out;exact⟨k+1,by omega,rfl,h6.ext fun y _=>hS y,t6.tab hZ (by omega),hB.trans (t6.below hB.size (by omega))⟩
  ·obtain rfl:k=256:=by have:=hK.out;omega
   have hd:decide ((256:Int)<256)=false:=by decide
   obtain⟨c0,c1,c2,c3⟩:=hT.copy;obtain⟨z0,z1,z2,z3⟩:=hZ.copy;have y0:=hZ.free 0;have y1:=hZ.free 1;have y2:=hZ.free 2;have y3:=hZ.free 3
   go_wp2_with fail
   exact bodyPost_ret (results_tab rfl rfl (laid_tab hZ _)) rfl ⟨rfl,hB.trans ((laid_turned _ _ _).below hB.size (by omega))⟩
def supUpto (F:Nat→Bool):Nat→Nat
 | 0=>0
 | v+1=>if same (fixF F v false) (fixF F v true)then supUpto F v else supUpto F v ||| 2^v
theorem sup_lt (F:Nat→Bool) (v:Nat) (hv:v≤8):supUpto F v<2^8:=by
 induction v with
 | zero=>simp[supUpto]
 | succ v ih =>
  rw[supUpto];split
  ·exact ih (by omega)
  ·exact Nat.or_lt_two_pow (ih (by omega)) (Nat.pow_lt_pow_right (by decide) (by omega))
end Go.Proofs.YtnnmdkaoiofabaaGreat.Rf
namespace Go.Proofs.YtnnmdkaoiofabaaGreat.Rf
open Go Go.RowKit
def TabsAt (w:World) (ad:Option Addr) (n:Nat) (T:Nat→Nat→Bool):Prop:=
 n=0∨∃b off,ad=some ⟨b,off,none⟩∧b<w.heap.size∧∀i,i<n→∀k,k<4→w.cell? ⟨b,off+i*4+k,none⟩=some (.int .u64 (word (T i) k:Int))
theorem TabsAt.kept {w w':World}{ad:Option Addr}{n:Nat}{T:Nat→Nat→Bool}(h:TabsAt w ad n T) (k:Below w.heap.size w w'):TabsAt w' ad n T:=by
 rcases h with h|⟨b,off,e,hb,hc⟩
 ·exact .inl h
 ·exact .inr ⟨b,off,e,Nat.lt_of_lt_of_le hb k.size,fun i hi j hj=>by rw[k.cell hb];exact hc i hi j hj⟩
theorem TabsAt.drew {w:World}{ad:Option Addr}{n:Nat}{T:Nat→Nat→Bool}(h:TabsAt w ad n T):TabsAt w.drew ad n T:=h
theorem TabsAt.get {w:World}{b off n:Nat}{T:Nat→Nat→Bool}(h:TabsAt w (some ⟨b,off,none⟩) n T){i:Nat}(hi:i<n):w.cell? ⟨b,off+i*4,none⟩=some (.int .u64 (word (T i) 0:Int))∧w.cell? ⟨b,off+i*4+1,none⟩=some (.int .u64 (word (T i) 1:Int))∧w.cell? ⟨b,off+i*4+2,none⟩=some (.int .u64 (word (T i) 2:Int))∧w.cell? ⟨b,off+i*4+3,none⟩=some (.int .u64 (word (T i) 3:Int)):=by
 rcases h with h|⟨b',off',e,_,hc⟩
 ·omega
 ·injection e with e
  injection e with e1 e2
  subst e1 e2;exact⟨hc i hi 0 (by decide),hc i hi 1 (by decide),hc i hi 2 (by decide),hc i hi 3 (by decide)⟩
theorem TabsAt.some {w:World}{ad:Option Addr}{n:Nat}{T:Nat→Nat→Bool}(h:TabsAt w ad n T) (hn:0<n):∃b off,ad = .some ⟨b,off,none⟩∧b<w.heap.size:=by
 rcases h with h|⟨b,off,e,hb,_⟩
 ·omega
 ·exact⟨b,off,e,hb⟩
def hasUpto (T:Nat→Nat→Bool) (F:Nat→Bool):Nat→Bool
 | 0=>false
 | i+1=>hasUpto T F i || same (T i) F
theorem has_of {T:Nat→Nat→Bool}{F:Nat→Bool}{i n:Nat}(hi:i<n) (h:same (T i) F=true):hasUpto T F n=true:=by
 induction n with
 | zero=>omega
 | succ n ih =>
  rw[hasUpto];by_cases e:i=n
  ·subst e;simp[h]
  ·simp[ih (by omega)]
set_option maxHeartbeats 800000 in
theorem in_any (ad:Option Addr) (n cap:Nat) (T:Nat→Nat→Bool) (F:Nat→Bool) (hn:n≤1000000) (w:World) (h:TabsAt w ad n T) :
  Calls Tryz.prog 92 #[.slice ad n cap,tab F] w fun e w'=>e = .returned (.bool (hasUpto T F n))∧Below w.heap.size w w':=by
 conv in #[Value.slice ad n cap, tab F] => unfold tab
 go_enter Tryz.func92,Tryz.ntmps92
 go_wp2_with fail
 have TF:=IsTab.new w F;have B0:=(Below.refl _ w).alloc (Nat.le_refl _) (.cells #[.int .u64 (word F 0:Int),.int .u64 (word F 1:Int),.int .u64 (word F 2:Int),.int .u64 (word F 3:Int)] 24);have hA:=h.kept B0;generalize w.alloc (.cells #[.int .u64 (word F 0:Int),.int .u64 (word F 1:Int),.int .u64 (word F 2:Int),.int .u64 (word F 3:Int)] 24)=w4 at TF B0 hA ⊢;go_loopg [5] n (fun g si wr=>∃k:Nat,k+g=n∧si = .int .i64 (k:Int)∧hasUpto T F k=false∧IsTab wr w.heap.size F∧TabsAt wr ad n T∧Below w.heap.size w wr)
 case atStart=>exact⟨0,by omega,rfl,rfl,TF,hA,B0⟩
 case round =>
  clear TF hA B0;obtain⟨k,hk,rfl,hs,hF,hA,hB⟩:=hrel;have hK:Aside (k+gk=n):=hk;have hS:Aside (hasUpto T F k=false):=hs;clear hk hs;by_cases hk9:k<n
  ·have hA0:=hA;rcases hA with h0|⟨b,off,rfl,hb,hc⟩
   ·omega
   ·have hk9':(k:Int)<(n:Int):=by omega
    obtain⟨c0,c1,c2,c3⟩:=hF.copy;have d0:wr.cell? ⟨b,off+k*4,none⟩=some (.int .u64 (word (T k) 0:Int)):=hc k hk9 0 (by decide);have d1:=hc k hk9 1 (by decide);have d2:=hc k hk9 2 (by decide);have d3:=hc k hk9 3 (by decide);have heq:∀w,(Op.equalIn 10000 24 (tab (T k)) (tab F)).run Tryz.prog w = .ok (same (T k) F) w:=fun w=>equal_tab _ _ w
    have hU:Aside (hasUpto T F (k+1)=(hasUpto T F k || same (T k) F)):=rfl;unfold tab at heq;cases hm:same (T k) F with
    | true =>
     have hm':Aside (same (T k) F=true):=hm;simp only[hm]at heq;clear hm
     go_wp2_with fail
     go_region
     go_wp2_with fail
     go_ret
     exact⟨by rw[has_of hk9 hm'.out];rfl,hB.drew⟩
    | false =>
     have hm':Aside (same (T k) F=false):=hm;simp only[hm]at heq;clear hm
     go_wp2_with fail
     go_region
     go_wp2_with fail
     go_roundg (gk-1)
     case measure=>have:=hK.out;omega
     case rel =>
      have:=hK.out;exact⟨k+1,by omega,rfl,by rw[hU.out,hS.out,hm'.out];rfl,hF.drew,hA0.drew,hB.drew⟩
  ·obtain rfl:k=n:=by have:=hK.out;omega
   go_wp2_with fail
   go_ret
   exact⟨by rw[hS.out];rfl,hB⟩
end Go.Proofs.YtnnmdkaoiofabaaGreat.Rf
namespace Go.Proofs.YtnnmdkaoiofabaaGreat.Rf
open Go Go.RowKit
def cells4 (F:Nat→Bool):List Value:=[.int .u64 (word F 0:Int),.int .u64 (word F 1:Int),.int .u64 (word F 2:Int),.int .u64 (word F 3:Int)]
def cellsL (ts:List (Nat→Bool)):List Value:=ts.flatMap cells4
theorem cellsL_append (ts:List (Nat→Bool)) (F:Nat→Bool):cellsL (ts ++ [F])=cellsL ts ++ cells4 F:=by simp[cellsL,List.flatMap_append]
theorem cellsL_get (ts:List (Nat→Bool)) (i:Nat) (hi:i<ts.length) (k:Nat) (hk:k<4):(cellsL ts)[i*4+k]? = some (.int .u64 (word (ts.getD i fun _=>false) k:Int)):=by
 induction ts generalizing i with
 | nil=>simp at hi
 | cons t ts ih =>
  rw[cellsL,List.flatMap_cons];cases i with
  | zero =>
   have h4:k=0∨k=1∨k=2∨k=3:=by omega
   rcases h4 with rfl|rfl|rfl|rfl <;> simp[cells4]
  | succ i =>
   rw[List.getElem?_append_right (by simp[cells4];omega)];have e:(i+1)*4+k-(cells4 t).length=i*4+k:=by simp[cells4];omega
   rw[e];have:=ih i (by simpa using hi);rw[cellsL]at this;rw[this];simp
def Own (w:World) (B:Nat) (ad:Option Addr) (ts:List (Nat→Bool)) (cap:Nat):Prop:=w.ownsRow B 24 4 (.slice ad ts.length cap) ts.length (cellsL ts)
theorem Own.tabs {w:World}{B:Nat}{ad:Option Addr}{ts:List (Nat→Bool)}{cap:Nat}(h:Own w B ad ts cap):TabsAt w ad ts.length (fun i=>ts.getD i fun _=>false):=by
 by_cases h0:ts.length=0
 ·exact .inl h0
 ·obtain⟨g,cap',hv,_,hlt⟩:=World.ownsRow.form h (by omega);have had:ad=some ⟨g,0,none⟩:=by injection hv
  have hcap:cap=cap':=by injection hv
  subst had;refine .inr ⟨g,0,rfl,hlt,fun i hi k hk=>?_⟩;rw[Nat.zero_add,World.ownsRow.cellAt h (i*4+k) (by omega)];exact cellsL_get ts i hi k hk
theorem Own.nil (w:World) (B:Nat):Own w B none [] 0:=World.ownsRow_nil w B 24 4
theorem Own.block {w:World}{B:Nat}{ad:Option Addr}{ts:List (Nat→Bool)}{cap:Nat}(h:Own w B ad ts cap):∀a,ad=some a→B≤a.block∧a.block<w.heap.size:=by
 intro a ha;subst ha;exact World.ownsRow.lt h a.block rfl
theorem Own.kept {w w':World}{B:Nat}{ad:Option Addr}{ts:List (Nat→Bool)}{cap:Nat}(h:Own w B ad ts cap) (k:∀a,ad=some a→w'.heap[a.block]? = w.heap[a.block]?):Own w' B ad ts cap:=by
 obtain⟨h1,h2⟩:=h;refine⟨h1,?_⟩;rcases h2 with h2|⟨g,cap',cur,hv,hb,hh,r⟩
 ·exact .inl h2
 ·have had:ad=some ⟨g,0,none⟩:=by injection hv
  exact .inr ⟨g,cap',cur,hv,hb,(k _ had).trans hh,r⟩
theorem Own.below {w w':World}{B:Nat}{ad:Option Addr}{ts:List (Nat→Bool)}{cap:Nat}(h:Own w B ad ts cap) (k:Below w.heap.size w w'):Own w' B ad ts cap:=
 h.kept fun a ha=>k.block _ (h.block a ha).2
theorem Own.new {w:World}{B:Nat}{ad:Option Addr}{ts:List (Nat→Bool)}{cap:Nat}(h:Own w B ad ts cap) (o:Obj):Own (w.alloc o) B ad ts cap:=
 h.kept fun a ha=>Below.heap_alloc _ _ _ (h.block a ha).2
theorem Own.grown {w w':World}{B:Nat}{ad:Option Addr}{ts:List (Nat→Bool)}{cap:Nat}(h:Own w B ad ts cap){row:Option Nat}(g:w.grownBy w' row) (hne:∀a,ad=some a→some a.block≠row):Own w' B ad ts cap:=
 h.kept fun a ha=>g.block _ (h.block a ha).2 (hne a ha)
def addN (ts:List (Nat→Bool)) (F:Nat→Bool):List (Nat→Bool):=if hasUpto (fun i=>ts.getD i fun _=>false) F ts.length then ts else ts ++ [F]
theorem addN_le (ts:List (Nat→Bool)) (F:Nat→Bool):(addN ts F).length≤ts.length+1:=by
 unfold addN;split <;> simp
theorem info24 : (Tryz.prog.info? 24).map (fun i=>(i.zero,i.size,i.bytes))=some (some (.agg #[.int .u64 0,.int .u64 0,.int .u64 0,.int .u64 0]),4,32):=by kernel_rfl
def blockOf (ad:Option Addr):Option Nat:=ad.map (·.block)
theorem Own.blockGe {w:World}{B:Nat}{ad:Option Addr}{ts:List (Nat→Bool)}{cap:Nat}(h:Own w B ad ts cap):∀k,blockOf ad=some k→B≤k∧k<w.heap.size:=by
 intro k hk;cases ad with
 | none=>simp[blockOf]at hk
 | some a =>
  have:a.block=k:=by simpa[blockOf]using hk
  rw[← this];exact h.block a rfl
def Apart (a b:Option Addr):Prop:=∀k,blockOf a=some k→blockOf b≠some k
theorem Apart.nil (a:Option Addr):Apart a none:=fun _ _ h=>by simp[blockOf]at h
theorem Apart.symm {a b:Option Addr}(h:Apart a b):Apart b a:=fun k hb ha=>h k ha hb
theorem Own.aside {w w':World}{B:Nat}{ada adx:Option Addr}{xs:List (Nat→Bool)}{capx:Nat}(h:Own w B adx xs capx) (ha:Apart ada adx) (g:w.grownBy w' (blockOf ada)):Own w' B adx xs capx:=
 h.grown g fun a e he=>by subst e;exact ha a.block he.symm rfl
theorem Apart.after {w:World}{B g:Nat}{ada adx:Option Addr}{xs:List (Nat→Bool)}{capx:Nat}(hax:Apart ada adx) (ox:Own w B adx xs capx) (h:blockOf ada=some g∨g=w.heap.size):Apart (some ⟨g,0,none⟩) adx:=by
 intro k hk hx;have e:g=k:=by simpa[blockOf]using hk
 subst e;rcases h with h|h
 ·exact hax g h hx
 ·have:=(ox.blockGe g hx).2;omega
theorem IsTab.aside {w w':World}{b:Nat}{F:Nat→Bool}{ad:Option Addr}(h:IsTab w b F) (hb:blockOf ad≠some b) (g:w.grownBy w' (blockOf ad)):IsTab w' b F:=
 (g.block b h.lt fun e=>hb e.symm).trans h
theorem block_after {w:World}{g b:Nat}{ad:Option Addr}(hb:blockOf ad≠some b) (hlt:b<w.heap.size) (h:blockOf ad=some g∨g=w.heap.size):blockOf (some ⟨g,0,none⟩)≠some b:=by
 intro e;have e':g=b:=by simpa[blockOf]using e
 subst e';rcases h with h|h
 ·exact hb h
 ·omega
theorem append_tab {w:World}{B:Nat}{ad:Option Addr}{ts:List (Nat→Bool)}{cap:Nat}(hown:Own w B ad ts cap) (F:Nat→Bool) (blk:Nat) (hblk:IsTab w blk F) (hn:ts.length≤1000000) (hB:B≤w.heap.size)
  {ops:Array Oper} {rest:List Oper} {o:Oper} {a:Act} {Q:Exit→Act→World→Prop} (hgd:o.guard=none) (s x:Operand)
  (ho:o.op = .call { callee:=.builtin .append,args:=#[s,x],argTypes:=#[33,33] }) (hs:a.eval s = .slice ad ts.length cap) (hx:a.eval x = .slice (some ⟨blk,0,none⟩) 1 1)
  (h:∀g cap' w',Own w' B (some ⟨g,0,none⟩) (ts ++ [F]) cap'→w.grownBy w' (blockOf ad)→(blockOf ad=some g∨g=w.heap.size)→g<w'.heap.size→wpList Tryz.prog ops Q rest (a.put o.dst (.slice (some ⟨g,0,none⟩) (ts.length+1) cap')) w') :
  wpList Tryz.prog ops Q (o :: rest) a w:=by
 obtain⟨i,hi,hzz⟩:=Option.map_eq_some_iff.1 info24;simp only[Prod.mk.injEq]at hzz;obtain⟨hz,hsz,hby⟩:=hzz;have hblk':w.heap[blk]? = some (.cells #[.int .u64 (word F 0:Int),.int .u64 (word F 1:Int),.int .u64 (word F 2:Int),.int .u64 (word F 3:Int)] 24 (0,0)):=hblk;have hob:(Value.slice ad ts.length cap).ownBlock=blockOf ad:=by cases ad <;> rfl
 refine wpList_append_lies (P:=Tryz.prog) w hgd s x 33 ho B 24 i _ 4 32 Tryz.underlying33 hi hz hsz hby (by kernel_rfl) (by decide) (.slice ad ts.length cap) ts.length (cellsL ts) hs hown ⟨blk,0,none⟩ 1 1 (cells4 F) hx rfl (World.news_of_block hblk') ?_ (by decide) ?_ ?_ hB w.heap.size rfl ?_
 ·intro u hu;simp only[cells4,List.mem_cons,List.not_mem_nil,or_false]at hu;rcases hu with rfl|rfl|rfl|rfl <;> rfl
 ·simp only[maxLen];omega
 ·omega
 ·intro g cap' w' o1 o2 o3 o4;rw[hob]at o2 o3;refine h g cap' w' ?_ o2 o3 o4;unfold Own;rw[cellsL_append,List.length_append];exact o1
end Go.Proofs.YtnnmdkaoiofabaaGreat.Rf
namespace Go.Proofs.YtnnmdkaoiofabaaGreat.Rf
open Go Go.RowKit
def fixI (F:Nat→Bool) (v:Int) (b:Bool):Nat→Bool:=if 0≤v∧v<8 then fixF F v.toNat b else F
theorem fix_int (F:Nat→Bool) (v:Int) (b:Bool) (w:World) :
  Calls Tryz.prog 40 #[tab F,.int .i64 v,.bool b] w fun e w'=>e = .returned (tab (fixI F v b))∧Below w.heap.size w w':=by
 unfold fixI;by_cases h:0≤v∧v<8
 ·rw[if_pos h];have hv:v=((v.toNat:Nat):Int):=by omega
  have:=fix_any F v.toNat (by omega) b w;rw[← hv]at this;exact this
 ·rw[if_neg h];exact fix_none F v b (by omega) w
def dedup (T:Nat→Nat→Bool):Nat→List (Nat→Bool)
 | 0=>[]
 | k+1=>addN (dedup T k) (T k)
theorem dedup_le (T:Nat→Nat→Bool) (k:Nat):(dedup T k).length≤k:=by
 induction k with
 | zero=>exact Nat.le_refl _
 | succ k ih=>rw[dedup];have:=addN_le (dedup T k) (T k);omega
theorem addN_skip {ts:List (Nat→Bool)}{F:Nat→Bool}(h:hasUpto (fun i=>ts.getD i fun _=>false) F ts.length=true):addN ts F=ts:=by unfold addN;rw[if_pos h]
theorem addN_new {ts:List (Nat→Bool)}{F:Nat→Bool}(h:hasUpto (fun i=>ts.getD i fun _=>false) F ts.length=false):addN ts F=ts ++ [F]:=by unfold addN;rw[h];rfl
def IntsAt (w:World) (ad:Option Addr) (n:Nat) (V:Nat→Int):Prop:=
 n=0∨∃b off,ad=some ⟨b,off,none⟩∧b<w.heap.size∧∀i,i<n→w.cell? ⟨b,off+i,none⟩=some (.int .i64 (V i))
theorem IntsAt.kept {w w':World}{ad:Option Addr}{n:Nat}{V:Nat→Int}(h:IntsAt w ad n V) (k:Below w.heap.size w w'):IntsAt w' ad n V:=by
 rcases h with h|⟨b,off,e,hb,hc⟩
 ·exact .inl h
 ·exact .inr ⟨b,off,e,Nat.lt_of_lt_of_le hb k.size,fun i hi=>by rw[k.cell hb];exact hc i hi⟩
theorem IntsAt.get {w:World}{b off n:Nat}{V:Nat→Int}(h:IntsAt w (some ⟨b,off,none⟩) n V){i:Nat}(hi:i<n):w.cell? ⟨b,off+i,none⟩=some (.int .i64 (V i)):=by
 rcases h with h|⟨b',off',e,_,hc⟩
 ·omega
 ·injection e with e
  injection e with e1 e2
  subst e1 e2;exact hc i hi
theorem IntsAt.some {w:World}{ad:Option Addr}{n:Nat}{V:Nat→Int}(h:IntsAt w ad n V) (hn:0<n):∃b off,ad = .some ⟨b,off,none⟩∧b<w.heap.size:=by
 rcases h with h|⟨b,off,e,hb,_⟩
 ·omega
 ·exact⟨b,off,e,hb⟩
def isC (F:Nat→Bool):Bool:=same F (fun _=>false) || same F (fun _=>true)
def allStep (a:List (Nat→Bool)) (F:Nat→Bool):List (Nat→Bool):=if isC F then a else addN a F
def nextStep (last:Bool) (v:Int) (x:List (Nat→Bool)) (F:Nat→Bool):List (Nat→Bool):=if last then x else addN (addN x (fixI F v false)) (fixI F v true)
def lvA (a0 ts:List (Nat→Bool)):Nat→List (Nat→Bool)
 | 0=>a0
 | i+1=>allStep (lvA a0 ts i) (ts.getD i fun _=>false)
def lvX (last:Bool) (v:Int) (ts:List (Nat→Bool)):Nat→List (Nat→Bool)
 | 0=>[]
 | i+1=>nextStep last v (lvX last v ts i) (ts.getD i fun _=>false)
theorem lvA_le (a0 ts:List (Nat→Bool)) (i:Nat):(lvA a0 ts i).length≤a0.length+i:=by
 induction i with
 | zero=>exact Nat.le_refl _
 | succ i ih =>
  rw[lvA,allStep];split
  ·omega
  ·have:=addN_le (lvA a0 ts i) (ts.getD i fun _=>false);omega
theorem lvX_le (last:Bool) (v:Int) (ts:List (Nat→Bool)) (i:Nat):(lvX last v ts i).length≤2*i:=by
 induction i with
 | zero=>exact Nat.le_refl _
 | succ i ih =>
  rw[lvX,nextStep];split
  ·omega
  ·have h1:=addN_le (lvX last v ts i) (fixI (ts.getD i fun _=>false) v false);have h2:=addN_le (addN (lvX last v ts i) (fixI (ts.getD i fun _=>false) v false)) (fixI (ts.getD i fun _=>false) v true);omega
def prt (V:Nat→Int) (n:Nat) (ts0:List (Nat→Bool)):Nat→List (Nat→Bool)×List (Nat→Bool)
 | 0=>([],ts0)
 | k+1=>(lvA (prt V n ts0 k).1 (prt V n ts0 k).2 (prt V n ts0 k).2.length,lvX (decide (k=n) || decide (k=8)) (V k) (prt V n ts0 k).2 (prt V n ts0 k).2.length)
theorem prt_le (V:Nat→Int) (n:Nat) (ts0:List (Nat→Bool)) (h0:ts0.length≤1000) (k:Nat):(prt V n ts0 k).1.length≤1000*2^k∧(prt V n ts0 k).2.length≤1000*2^k:=by
 induction k with
 | zero=>simp[prt];exact h0
 | succ k ih =>
  have h1:=lvA_le (prt V n ts0 k).1 (prt V n ts0 k).2 (prt V n ts0 k).2.length;have h2:=lvX_le (decide (k=n) || decide (k=8)) (V k) (prt V n ts0 k).2 (prt V n ts0 k).2.length;rw[Nat.pow_succ];simp only[prt];omega
theorem prt_small (V:Nat→Int) (n:Nat) (ts0:List (Nat→Bool)) (h0:ts0.length≤1000) (k:Nat) (hk:k≤8):(prt V n ts0 k).1.length≤256000∧(prt V n ts0 k).2.length≤256000:=by
 have h:=prt_le V n ts0 h0 k;have h2:2^k≤256:=Nat.pow_le_pow_right (n:=2) (i:=k) (j:=8) (by decide) hk;omega
end Go.Proofs.YtnnmdkaoiofabaaGreat.Rf
