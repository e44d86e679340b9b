import Derived.Test.YthakgdfmbknakaaGreatDoorC15
import Derived.Deep.Upon
set_option linter.all false
set_option maxHeartbeats 40000000
set_option maxRecDepth 100000
open Go.Proofs.Tryz
open Or (inl inr)
open Nat (le_refl le_trans zero_le lt_of_lt_of_le lt_succ_self)
open List (length_append length_cons mem_cons_self mem_cons_of_mem mem_singleton cons_append mem_cons length_nil map_append length_map nil_append)
namespace Go.Proofs.YthakgdfmbknakaaGreatDoor
open Bool (and_eq_true)
open List (count_cons getElem?_eq_getElem getElem?_map getElem_mem length_take replicate take_add_one take_length)
open MapKept (heap_alloc)
open World (cell? ownsRow_nil)
open Builtin (append_)
open Value (ownBlock slice)
open Tryz (infoPtr)
section
open Go.RowKit
def Ih(x:Nd):Bool:=decide (x.txt.length<=100) && decide (x.ps.length<=100) && match x.k,x.ps with
 |5,ps=>ps.length==1
 |6,ps=>ps.length==2
 |8,ps=>ps.length==3
 |9,ps=>ps.length==2
 |11,ps=>ps.length==2
 |13,ps=>ps.length==2
 |15,a::r=>decide (a.k≠16) && r.all fun x=>x.k==16
 |16,ps=>ps.length==2
 |0,_=>true
 |2,_=>true
 |3,_=>true
 |14,_=>true
 |_,_=>false
def Ej{x:Nd}(h:Ih x=true):oA x.k x.ps/\x.txt.length<=100000000/\x.ps.length<=1000000:=by
 obtain⟨k,t,ps⟩:=x;simp only[Ih,and_eq_true,decide_eq_true_eq]at h;obtain⟨⟨h1,h2⟩,h3⟩:=h;refine⟨?_,by dsimp only;omega,by dsimp only;omega⟩;dsimp only;split at h3<;>first|(simp only[and_eq_true,decide_eq_true_eq]at h3;exact⟨_,_,rfl,h3.1,fun x hx=>by simpa using List.all_eq_true.1 h3.2 x hx⟩)|simpa [oA]using h3|simp[oA]at *|trivial
def Ix(p:Nd):Bool:=p.all.all fun x=>decide (x.txt.length<=100) && decide (x.ps.length<=100) && (x.k==3 && x.ps.isEmpty || x.k==14)
def yC:Nat->Nd->Bool
 |0,_=>false
 |n+1,.mk k t ps=>decide (t.length<=100) && decide (ps.length<=100) && match k,ps with
  |0,_=>true
  |2,_=>true
  |3,_=>true
  |14,ps=>ps.all (yC n)
  |5,[a]=>yC n a
  |6,[a,b]=>yC n a && yC n b
  |9,[a,b]=>yC n a && yC n b
  |11,[a,b]=>yC n a && yC n b
  |13,[a,b]=>yC n a && yC n b
  |8,[c,a,b]=>yC n c && (yC n a && yC n b)
  |15,a::rows=>yC n a && (decide (a.k<=15) && rows.all fun r=>match r with
   |.mk 16 _ [p,e]=>Ix p && yC n e
   |_=>false)
  |_,_=>false
def Ex{p:Nd}(h:Ix p=true):KG p:=fun x hx=>by
 have:=List.all_eq_true.1 h x hx;simp only[and_eq_true,Bool.or_eq_true,decide_eq_true_eq,beq_iff_eq,List.isEmpty_iff]at this;obtain⟨⟨h1,h2⟩,h3⟩:=this;exact⟨by omega,by omega,by omega,fun h=>h3.elim (·.2) fun e=>absurd e h⟩
def Dy:∀(n:Nat)(nd:Nd),yC n nd=true->∀m,XSh m nd:=by
 intro n
 induction n with
 |zero=>intro nd h;cases h
 |succ n ih=>
  intro nd h m
  cases m with
  |zero=>trivial
  |succ m=>
   obtain⟨k,t,ps⟩:=nd;simp only[yC,and_eq_true,decide_eq_true_eq]at h;obtain⟨⟨h1,h2⟩,h3⟩:=h;have g1:t.length<=100000000:=by omega
   have g2:ps.length<=1000000:=by omega
   split at h3
   ·exact(⟨g1,g2,trivial⟩:_/\_/\True)
   ·exact(⟨g1,g2,trivial⟩:_/\_/\True)
   ·exact(⟨g1,g2,trivial⟩:_/\_/\True)
   ·exact(⟨g1,g2,fun p hp=>ih p (List.all_eq_true.1 h3 p hp) m⟩:_/\_/\∀p∈_,XSh m p)
   ·exact(⟨g1,g2,ih _ h3 m⟩:_/\_/\XSh m _)
   iterate 4
    ·rw[and_eq_true]at h3;exact(⟨g1,g2,ih _ h3.1 m,ih _ h3.2 m⟩:_/\_/\XSh m _/\XSh m _)
   ·rw[and_eq_true,and_eq_true]at h3;exact(⟨g1,g2,ih _ h3.1 m,ih _ h3.2.1 m,ih _ h3.2.2 m⟩:_/\_/\XSh m _/\XSh m _/\XSh m _)
   ·simp only[and_eq_true,decide_eq_true_eq]at h3;refine(⟨g1,g2,ih _ h3.1 m,h3.2.1,fun r hr=>?_⟩:_/\_/\XSh m _/\_/\∀r∈(_:List Nd),∃t p e,r=Nd.mk 16 t [p,e]/\KG p/\XSh m e);have h4:=List.all_eq_true.1 h3.2.2 r hr;split at h4
    ·rw[and_eq_true]at h4;exact⟨_,_,_,rfl,Ex h4.1,ih _ h4.2 m⟩
    ·cases h4
   ·cases h3
def Dr(nd:Nd):Bool:=decide (nd.k=17\/nd.k=7) && decide (nd.txt.length<=100) && match nd.ps with
 |[a]=>a.all.all Ih && decide (a.all.length<=1000) && yC 30 a && decide (a.ht<=1000) && decide (a.sz<=1000)
 |_=>false
def VU{nd:Nd}(h:Dr nd=true):jM nd:=by
 obtain⟨k,t,ps⟩:=nd;simp only[Dr,and_eq_true,decide_eq_true_eq]at h;obtain⟨⟨h1,h2⟩,h3⟩:=h;have Ri:k≠18:=by omega
 split at h3
 ·rename_i a;simp only[and_eq_true,decide_eq_true_eq]at h3;obtain⟨⟨⟨⟨h4,h5⟩,h6⟩,h7⟩,h8⟩:=h3;exact⟨⟨by dsimp only;omega,by dsimp only;omega,fun _=>⟨a,[],rfl,fun x hx=>Ej (List.all_eq_true.1 h4 x hx),by omega⟩,fun h=>absurd h Ri⟩,fun h=>absurd h Ri,fun h=>absurd h Ri,fun _=>⟨a,[],rfl,Dy 30 a h6,by omega,by omega⟩,fun h=>absurd h Ri⟩
 ·cases h3
def pG:∀nd∈bO,jM nd:=by
 intro nd Ul;rw[bO,mem_cons]at Ul;rcases Ul with rfl|Ul
 ·refine⟨⟨inr (inr (inr rfl)),by decide,fun h=>absurd rfl h,fun _=>⟨by decide,by decide,by decide⟩⟩,fun _=>⟨by decide,?_⟩,fun _=>by decide,fun h=>absurd rfl h,fun _=>⟨?_,?_⟩⟩
  ·unfold XI;decide
  ·unfold LH;decide
  ·unfold LH;decide
 ·refine VU ?_;revert nd
  decide +kernel
end
section
def iF:List UInt8:=[116,121,112,101,32,108,105,115,116,32,39,97,32,61,32,78,105,108,32,124,32,67,111,110,115,32,39,97,32,40,108,105,115,116,32,39,97,41,32,46,10,108,101,116,32,114,101,99,32,114,101,97,100,32,117,32,61,32,108,101,116,32,99,32,61,32,103,101,116,32,40,41,32,105,110,32,105,102,32,99,32,60,32,48,32,116,104,101,110,32,78,105,108,32,101,108,115,101,32,67,111,110,115,32,99,32,40,114,101,97,100,32,40,41,41,32,46,10,108,101,116,32,114,101,99,32,105,110,115,101,114,116,32,120,32,108,32,61,32,109,97,116,99,104,32,108,32,119,105,116,104,32,124,32,78,105,108,32,45,62,32,67,111,110,115,32,120,32,78,105,108,32,124,32,67,111,110,115,32,121,32,114,32,45,62,32,105,102,32,121,32,60,32,120,32,116,104,101,110,32,67,111,110,115,32,121,32,40,105,110,115,101,114,116,32,120,32,114,41,32,101,108,115,101,32,67,111,110,115,32,120,32,108,32,101,110,100,32,46,10,108,101,116,32,114,101,99,32,115,111,114,116,32,108,32,61,32,109,97,116,99,104,32,108,32,119,105,116,104,32,124,32,78,105,108,32,45,62,32,78,105,108,32,124,32,67,111,110,115,32,120,32,114,32,45,62,32,105,110,115,101,114,116,32,120,32,40,115,111,114,116,32,114,41,32,101,110,100,32,46,10,108,101,116,32,114,101,99,32,101,97,99,104,32,102,32,108,32,61,32,109,97,116,99,104,32,108,32,119,105,116,104,32,124,32,78,105,108,32,45,62,32,40,41,32,124,32,67,111,110,115,32,120,32,114,32,45,62,32,102,32,120,32,59,32,101,97,99,104,32,102,32,114,32,101,110,100,32,46,10,100,111,32,101,97,99,104,32,112,117,116,32,40,115,111,114,116,32,40,114,101,97,100,32,40,41,41,41,32,46]
end
section
open Go.RowKit
def SU:nO iF=(Dk,0,0):=by decide +kernel
def GF:(dB 0 ahead bO).1=(0,0):=by decide +kernel
section
variable {w:World}
def SRd(w:World)(pb:Nat)(u:World):Prop:=∃tb v bl,Db bO w pb tb v v bl bO.length u
def pX(w:World):Calls prog 8 #[.string (bs iF)] w fun e u=>∃pb,e=.returned (.tuple #[aA pb,.int .i64 0,.int .i64 0])/\Hid (SRd w pb u):=by
 have hP:Calls prog 14 #[.string (bs iF)] w fun e u=>∃a c,e=.returned (.tuple #[.slice a bO.length c,.int .i64 0,.int .i64 0])/\Calls prog 15 #[] u fun e u2=>∃tb,e=.returned (.map (some tb))/\∃LD:Nat->World->Prop,Hid (LD 0 (u2.alloc (.cells #[.slice a bO.length c,.slice none 0 0,.map (some tb)] jW))) /\
   (∀i wr,LD i wr->i<bO.length->∃g b,a=some ⟨g,0,none⟩/\wr.cell? ⟨g,i,none⟩=some (aA b)/\g<wr.heap.size/\Calls prog 16 #[aA u2.heap.size,aA b] wr fun e v=>e=.returned (.int .i64 0)/\Hid (LD (i+1) v))/\∀wr,LD bO.length wr->SRd w u2.heap.size wr:=by
  refine(QW w (by rw[show (bs iF).data.toList=iF by simp[bs]];exact SU) YL (by decide +kernel) (by decide)).mono ?_;rintro e u⟨a,n,c,rfl,hq⟩;obtain⟨ps,Jn,Ub⟩:=hq.out.sn;have hb:=hq.out.bl;have Pq:AB.AD u bO ps:=Ub.now;have hl:=Pq.len;clear Ub hq
  obtain rfl:n=bO.length:=by
   rcases aD Jn with⟨h,h0⟩|⟨g,cap,h⟩<;>cases h<;>omega
  refine⟨a,c,rfl,(sJ u).mono ?_⟩;rintro e u2⟨hk,tb,ad,rk,rfl,Pv,Um,ht,Jz⟩;have Ke:=hb.size;have Yu:=hk.size;refine⟨tb,rfl,fun i wr=>Db bO w u2.heap.size tb (.slice a bO.length c) (.slice a bO.length c) ps i wr,aC (Db.start pG Jn Pq hb hk ht Jz Um rfl),fun i wr h hi=>?_,fun wr h=>⟨_,_,_,h⟩⟩;obtain⟨g,b,e1,e2,e3,hc⟩:=Db.step pG (by decide) (by omega) (by omega) h hi;refine⟨g,b,e1,e2,e3,hc.mono ?_⟩;rintro e v⟨er,rfl,Z8,Zm,Xv,Rw⟩
  have h0:er=0:=Decidable.byContradiction fun Ju=>by
   have:=congrArg Prod.fst (Xv Ju);rw[GF]at this;exact Ju (Prod.mk.inj this).2.symm
  subst h0;exact⟨rfl,Rw rfl⟩
 have HP:=aC hP;clear hP;have hn:bO.length<=9223372036854775807:=by decide
 generalize SRd w=Q at *;generalize bO.length=n at *;unfold aA at *;go_enter func8,ntmps8;go_wp2_with fail;refine(HP.out).mono ?_;rintro e u⟨a,c,rfl,hc⟩;have HC:=aC hc;clear hc HP;go_wp2_with fail;refine(HC.out).mono ?_;rintro e u2⟨tb,rfl,LD,HL,hs,he⟩;have HS:=aC hs;have HE:=aC he;clear hs he HC;go_wp2_with fail
 go_loopg [28] n (fun gk v wr=>∃i,v=.int .i64 (i:Nat)/\i+gk=n/\Hid (LD i wr))
 case atStart=>exact⟨0,rfl,by omega,HL⟩
 case round=>
  clear HL;obtain⟨i,rfl,hi,HL⟩:=hrel
  by_cases Js:i<n
  ·obtain⟨g,b,rfl,f1,f2,hc⟩:=HS.out _ _ HL.out Js;have Jt:(i:Int)<(n:Int):=by omega
   have HC:=aC hc;clear hc HS HE HL;go_wp2_with fail;refine(HC.out).mono ?_;rintro e w2⟨rfl,HL⟩;clear HC;go_wp2_with fail
   go_roundg (n-(i+1))
   case rel=>exact⟨i+1,by simp,by omega,HL⟩
   case measure=>omega
  ·have Kg:i=n:=by omega
   subst Kg;have Jt:¬(i:Int)<(i:Int):=by omega
   have HQ:=aC (HE.out _ HL.out);clear HS HE HL;go_wp2;exact⟨rfl,_,(by simp[results,results8,go_sem]),_,rfl,HQ⟩
end
end
section
namespace Sorter
def IR(x c:UInt8):∀l,(pN x l).count c=(x::l).count c:=by
 intro l
 induction l with
 |nil=>rfl
 |cons y r ih=>
  rw[pN]
  split
  ·rw[count_cons,ih,count_cons,count_cons,count_cons];omega
  ·rfl
def sortL_count(c:UInt8):∀l,(sortL l).count c=l.count c:=by
 intro l
 induction l with
 |nil=>rfl
 |cons x r ih=>rw[sortL,IR,count_cons,count_cons,ih]
def UW{x y:UInt8}:∀{l:List UInt8},y∈pN x l->y=x\/y∈l:=by
 intro l
 induction l with
 |nil=>intro h;exact inl (mem_singleton.1 h)
 |cons z r ih=>
  intro h;rw[pN]at h;split at h
  ·rcases mem_cons.1 h with rfl|h
   ·exact inr (mem_cons_self ..)
   ·rcases ih h with h|h
    ·exact inl h
    ·exact inr (mem_cons_of_mem _ h)
  ·rcases mem_cons.1 h with rfl|h
   ·exact inl rfl
   ·exact inr h
def zP(x:UInt8):∀l:List UInt8,l.Pairwise (fun a b=>a.toNat<=b.toNat)->(pN x l).Pairwise (fun a b=>a.toNat<=b.toNat):=by
 intro l
 induction l with
 |nil=>intro _;exact List.pairwise_singleton _ _
 |cons y r ih=>
  intro h;obtain⟨h1,h2⟩:=List.pairwise_cons.1 h;rw[pN]
  split
  ·rename_i Js;refine List.pairwise_cons.2 ⟨fun z hz=>?_,ih h2⟩;rcases UW hz with rfl|hz
   ·omega
   ·exact h1 z hz
  ·rename_i Js;refine List.pairwise_cons.2 ⟨fun z hz=>?_,h⟩;rcases mem_cons.1 hz with rfl|hz
   ·omega
   ·have:=h1 z hz;omega
def sortL_sorted:∀l:List UInt8,(sortL l).Pairwise (fun a b=>a.toNat<=b.toNat):=by
 intro l
 induction l with
 |nil=>exact List.Pairwise.nil
 |cons x r ih=>exact zP x _ ih
end Sorter
end
section
open Go.RowKit
def Fo:Fixed jW:=by unfold Fixed;decide
def GI(I:Nm)(hI:I.length<=24)(w:World):∃dn:Int,Calls prog 7 #[.string (bs iF),.string (bs I),.int .i64 ((4000:Nat):Int)] w fun e w'=>e=.returned (.tuple #[.agg #[.string (bs (Sorter.sortL I)),.int .i64 0,.int .i64 dn],.int .i64 0,.int .i64 0])/\Below w.heap.size w w':=by
 obtain⟨N,m,Jo,Qg⟩:=Sorter.run I hI;have Jo:=Jo 0;rw[Nat.add_zero]at Jo;refine⟨m.done,Gi (n:=4000) (by omega) fun v=>?_⟩;refine(pX v).mono ?_;rintro e u⟨pb,rfl,H⟩;obtain⟨tb',dv',bl,hR⟩:=H.out;obtain⟨ad,rk,bv',Lu,_⟩:=hR.ps;have g1:=Lu.prog;have g2:=hR.rw;have g3:=hR.tr;refine⟨pb,rfl,hR.bw,fun u2 Rl=>?_⟩;clear H hR Lu;have hk:∀(k:Nat)(c:Array Value)(t:TypeId)(f:Nat×Nat),u.heap[k]?=some (.cells c t f)->u2.heap[k]?=u.heap[k]?:=fun k c t f hc=>Rl.block k (aB hc) id;have p2:=(hk _ _ _ _ g1).trans g1;have Jm:=g3.len;have Ju:=(show bO≠[] by decide)
 obtain⟨g,cap,Z9⟩:∃g cap,dv'=.slice (some ⟨g,0,none⟩) bl.length cap:=by
  rcases aD g2 with⟨_,h⟩|h
  ·exact absurd (List.length_eq_zero_iff.1 (by rw[<- Jm];exact h)) Ju
  ·exact h
 subst Z9;rw[<- Qg];refine yU Fo p2 (fun u3 mb hu3 hlow Mp=>?_);have Le:∀(k:Nat)(c:Array Value)(t:TypeId)(f:Nat×Nat),u.heap[k]?=some (.cells c t f)->u3.heap[k]?=u.heap[k]?:=fun k c t f hc=>(hu3.block k (lt_of_lt_of_le (aB hc) Rl.size) id).trans (hk k c t f hc);refine XF (B:=u2.heap.size) hlow (steps:=4000) (I:=I) (out:=m) (l:=bO) (N:=N) Mp (by omega) (by omega) (inr ⟨g,0,cap,by rw[Jm],Ju,?_⟩) YN (by show jX N (rI I 4000) (St.ev (eX [gP,sN,rV] (bO)) 3 [])=_;rw[NK];exact Jo);have g2':=aE g2 (w':=u3) fun k c f _ hc=>Le k c _ f hc;have g3':AB.AD u3 (bO) bl:=g3.kept (fun k c f hc=>Le k c _ f hc) (fun k c f hc=>Le k c _ f hc);rcases g2'.2 with⟨e,_⟩|⟨g',cap',cur,e,_,Ng,Wk,_,Rh,Lo⟩
 ·cases e
 ·have:g=g'/\cap=cap':=by simp at e;exact e
  obtain⟨rfl,rfl⟩:=this;refine⟨⟨cur,Ng,fun j nd hj=>?_⟩,by rw[<- Jm];exact Wk,(show bO.length<=100000 by decide)⟩;obtain⟨b,hb,Lr⟩:=g3'.at hj;refine⟨b,?_,Lr⟩;have Mc:=(List.getElem?_eq_some_iff.1 hb).1;have h8:(bl.map aA)[j]?=some (aA b):=by rw[getElem?_map,hb];rfl
  rw[<- Lo,List.getElem?_take_of_lt (by omega)]at h8;rw[Nat.zero_add]
  simpa using h8
end
section
open Go.RowKit
def WK(u:World)(x y:Value):(u.alloc (.cells #[x,y] cF)).drew.cell? ⟨u.heap.size,0,none⟩=some x/\(u.alloc (.cells #[x,y] cF)).drew.cell? ⟨u.heap.size,1,none⟩=some y:=by
 have h:(u.alloc (.cells #[x,y] cF)).drew.heap[u.heap.size]?=some (.cells #[x,y] cF (0,0)):=(heap_alloc _ _).1;exact⟨by simp only[cell?,h];rfl,by simp only[cell?,h];rfl⟩
end
section
open Go.RowKit
def Jc(p:PS):Bool:=p.binds.all fun b=>decide (b.2<p.sto.nodes.length) && decide (b.1.length<=100) && match wr p.sto dF [] b.2 with
 |some (t,ls)=>t==p.sto.text b.2 && decide (ls.length<=200) && decide (t.length<=1000) && !t.isEmpty
 |none=>false
def Eg{p:PS}(h:Jc p=true):XJ p:=fun b hb=>by
 have:=List.all_eq_true.1 h b hb;simp only[and_eq_true,decide_eq_true_eq]at this;obtain⟨⟨h1,h2⟩,h3⟩:=this;split at h3
 ·rename_i t ls hw;simp only[and_eq_true,decide_eq_true_eq,beq_iff_eq,Bool.not_eq_true',List.isEmpty_eq_false_iff]at h3;obtain⟨⟨⟨rfl,h4⟩,h5⟩,h6⟩:=h3;exact⟨h1,by omega,ls,hw,h4,by omega,h6⟩
 ·cases h3
def iX:List Nm:=[[114,101,97,100,32,58,32,117,110,105,116,32,45,62,32,108,105,115,116,32,105,110,116],[105,110,115,101,114,116,32,58,32,105,110,116,32,45,62,32,108,105,115,116,32,105,110,116,32,45,62,32,108,105,115,116,32,105,110,116],[115,111,114,116,32,58,32,108,105,115,116,32,105,110,116,32,45,62,32,108,105,115,116,32,105,110,116],[101,97,99,104,32,58,32,40,39,97,32,45,62,32,117,110,105,116,41,32,45,62,32,108,105,115,116,32,39,97,32,45,62,32,117,110,105,116]]
def GG:cZ (dB 0 ahead bO).2=iX:=by decide +kernel
def SP:XJ (dB 0 ahead bO).2:=Eg (by decide +kernel)
def wB(w:World) :
  Calls prog 8 #[.string (bs iF)] w fun e u=>∃pb a m c,e=.returned (.tuple #[aA pb,.int .i64 0,.int .i64 0])/\u.cell? ⟨pb,1,none⟩=some (.slice a m c)/\m<=9223372036854775807/\∃LD:Nat->Value->World->Prop,Hid (LD 0 (.slice none 0 0) u) /\
    (∀k v u,LD k v u->k<m->∃g tx bt,a=some ⟨g,0,none⟩/\u.cell? ⟨g,k*2,none⟩=some (.string tx)/\u.cell? ⟨g,k*2+1,none⟩=some (aA bt)/\g<u.heap.size/\tx.size<=100000000 /\
     Calls prog 9 #[aA bt] (u.alloc (.cells #[.string tx,aA bt] cF)).drew fun e u1=>∃sx,e=.returned (.string sx)/\sx.size<=100000000000/\(u1.cell? ⟨u.heap.size,0,none⟩=some (.string tx)/\u1.cell? ⟨u.heap.size,1,none⟩=some (aA bt)) /\
      ((u1.alloc (.cells #[.string (tx++⟨#[32,58,32]⟩++sx)] aI)).cell? ⟨u.heap.size,0,none⟩=some (.string tx)/\(u1.alloc (.cells #[.string (tx++⟨#[32,58,32]⟩++sx)] aI)).cell? ⟨u.heap.size,1,none⟩=some (aA bt)) /\
      ∃v' u2,(append_ #[22,22] 22 #[v,.slice (some ⟨u1.heap.size,0,none⟩) 1 1]).run prog (u1.alloc (.cells #[.string (tx++⟨#[32,58,32]⟩++sx)] aI))=.ok v' u2/\(u2.cell? ⟨u.heap.size,0,none⟩=some (.string tx)/\u2.cell? ⟨u.heap.size,1,none⟩=some (aA bt))/\Hid (LD (k+1) v' u2)) /\
    ∀v u,LD m v u->Hid (Below w.heap.size w u/\u.ownsRow w.heap.size aI 1 v iX.length (iX.map bM)):=by
 refine(pX w).mono ?_;rintro e u⟨pb,rfl,H⟩;obtain⟨tb,dv,bl,hR⟩:=H.out;obtain⟨ad,rk,bv,Lu,Um,_⟩:=hR.ps;rw[take_length]at Lu;have h2:=(xG pG).arrow;have hn:(dB 0 ahead bO).2.binds.length<=100000:=by decide +kernel
 have hT:=SP;have hL:=GG;generalize (dB 0 ahead bO).2=p at *;generalize nS bO=ar at *
 obtain⟨a,m,c,Zm,hm⟩:∃a m c,bv=.slice a m c/\m=p.binds.length:=by
  rcases aD Lu.row with⟨h,h0⟩|⟨g,cap,h⟩
  ·exact⟨none,0,0,h,h0.symm⟩
  ·exact⟨_,_,_,h,rfl⟩
 refine⟨pb,a,m,c,rfl,?_,by omega,fun k v u=>It ar ad rk p bv w k v u,aC ⟨Lu.sto,Lu.row,ownsRow_nil _ _ _ _,hR.bw⟩,fun k v u h hk=>yQ h Um hT h2 (by omega) hn Zm,fun v u h=>aC ⟨h.bw,?_⟩⟩
 ·rw[<- Zm];simp[cell?,Lu.prog]
 ·have hl:(cZ p).length=m:=by unfold cZ;rw[length_map];exact hm.symm
  have:=h.ln;rw[List.take_of_length_le (by omega),hL]at this;rw[hL]at hl;rw[hl];exact this
def KB(w:World):Calls prog 4 #[.string (bs iF)] w fun e u=>∃v,e=.returned (.tuple #[v,.int .i64 0,.int .i64 0])/\Hid (Below w.heap.size w u/\u.ownsRow w.heap.size aI 1 v iX.length (iX.map bM)):=by
 have HF:=aC (wB w);unfold aA at *;go_enter func4,ntmps4;go_wp2_with fail;refine(HF.out).mono ?_;rintro e u⟨pb,a,m,c,rfl,c1,hm,LD,HL,hs,he⟩;have HS:=aC hs;have HE:=aC he;have e0:((0:Int) != 0)=false:=by decide
 clear hs he HF;go_wp2_with fail
 go_loopg [8,26] m (fun gk v8 v26 wr=>∃k,v26=.int .i64 (k:Nat)/\k+gk=m/\Hid (LD k v8 wr))
 case atStart=>exact⟨0,rfl,by omega,HL⟩
 case round=>
  clear HL;obtain⟨k,rfl,hk,HL⟩:=hrel
  by_cases Js:k<m
  ·obtain⟨g,tx,bt,rfl,f1,f2,f3,f4,hc⟩:=HS.out _ _ _ HL.out Js;have Jt:(k:Int)<(m:Int):=by omega
   have HC:=aC hc;have z1:tx.size+3<=9223372036854775807:=by omega
   obtain⟨c1a,c2a⟩:=WK wr (.string tx) (.pointer (some ⟨bt,0,none⟩));clear hc HS HE HL;go_wp2_with fail
   go_region_held_law (fun w'=>w'.cell? ⟨wr.heap.size,0,none⟩=some (.string tx)/\w'.cell? ⟨wr.heap.size,1,none⟩=some (.pointer (some ⟨bt,0,none⟩))) (first|with_reducible exact⟨c1a,c2a⟩|with_reducible exact L9.out|with_reducible exact HD2.out)
    (first|(go_at_call 9;refine(HC.out).mono ?_;rintro e u1⟨sx,rfl,z2,⟨c1a,c2a⟩,Nv,v2,u2,Jo,Ym,HL⟩;have L9:=aC Nv;have HD2:=aC Ym;have z3:tx.size+3+sx.size<=9223372036854775807:=(by omega);clear Nv Ym HC)|(refine lB rfl _ _ _ rfl (by simp[Act.eval,Act.put]) (by simp[Act.eval,Act.put]) Jo ?_))
   all_goals
    go_wp2_with fail
    go_roundg (m-(k+1))
    case rel=>exact⟨k+1,by simp,by omega,HL⟩
    case measure=>omega
  ·have Zb:k=m:=by omega
   subst Zb;have Jt:¬(k:Int)<(k:Int):=by omega
   have HQ:=HE.out _ _ HL.out;clear HS HE HL;go_wp2;exact⟨rfl,_,(by simp[results,results4,go_sem]),_,rfl,HQ⟩
end
section
open Go.RowKit
section
variable {w:World}{nb mb:Nat}
def QM(h:w.cell? ⟨nb,0,none⟩=some (.int .i64 14)):Calls prog 22 #[aA nb] w fun e u=>e=.returned (aA nb)/\u=w:=by
 unfold aA at *;go_enter func22,ntmps22;go_wp2;refine bodyPost_ret (v:=.pointer (some ⟨nb,0,none⟩)) (by simp[results,results22,go_sem]) rfl ⟨rfl,rfl⟩
def QL(h:w.cell? ⟨nb,0,none⟩=some (.int .i64 3)):Calls prog 22 #[aA nb] w fun e u=>e=.returned (.pointer none)/\u=w:=by
 unfold aA at *;go_enter func22,ntmps22;go_wp2;refine bodyPost_ret (v:=.pointer none) (by simp[results,results22,go_sem]) rfl ⟨rfl,rfl⟩
def sK{t1 t2:ByteArray}{k:Int}(h1:w.cell? ⟨nb,0,none⟩=some (.int .i64 k))(h2:w.cell? ⟨mb,0,none⟩=some (.int .i64 k))(h3:w.cell? ⟨nb,1,none⟩=some (.string t1))(h4:w.cell? ⟨mb,1,none⟩=some (.string t2)):Calls prog 84 #[aA nb,aA mb] w fun e u=>e=.returned (.bool (t1.toList==t2.toList))/\Kn (fun _=>False) w u:=by
 have e1:(k==k)=true:=by simp
 have HV:=aC (show ∀n,Kn (fun _=>False) w (w.drewN n)from fun _=>⟨rfl,rfl,rfl,le_refl _,fun _ _ _=>rfl⟩);unfold aA at *;go_enter func84,ntmps84;go_wp2_with fail
 go_quiet (fail)
 all_goals
  go_wp2;refine bodyPost_ret (v:=.bool (t1.toList==t2.toList)) (by simp[results,results84,go_sem]) rfl ⟨rfl,HV.out _⟩
end
end
section
open Go.RowKit
section
variable {w:World}{nb mb:Nat}
def FO{t1 t2:ByteArray}{k:Int}(h1:w.cell? ⟨nb,0,none⟩=some (.int .i64 k))(h2:w.cell? ⟨mb,0,none⟩=some (.int .i64 k))(h3:w.cell? ⟨nb,1,none⟩=some (.string t1))(h4:w.cell? ⟨mb,1,none⟩=some (.string t2))(Ju:(t1.toList==t2.toList)=false):Calls prog 54 #[aA nb,aA mb,.slice none 0 0] w fun e u=>e=.returned (.tuple #[.slice none 0 0,.bool false])/\Kn (fun _=>False) w u:=by
 have hI:∀u,Kn (fun _=>False) w u->Calls prog 84 #[aA nb,aA mb] u fun e v=>e=.returned (.bool false)/\Hid (Kn (fun _=>False) w v):=fun u hu=>by
  refine(sK (hu.cell id h1) (hu.cell id h2) (hu.cell id h3) (hu.cell id h4)).mono ?_;rintro e v⟨rfl,hv⟩;exact⟨by rw[Ju],aC (hu.trans hv)⟩
 have HI:=aC hI;have HV:=aC (Kn.AH w);have HR:=aC (Kn.refl (fun _=>False) w);clear hI h1 h2 h3 h4 Ju;unfold aA at *;go_enter func54,ntmps54;go_wp2_with fail;refine(HI.out _ HR.out).mono ?_;rintro e u⟨rfl,HQ⟩;go_wp2_with fail
 go_loopg [2,8,9] 0 (fun gk v2 v8 v9 wr=>v2=.slice none 0 0/\v8=.bool false/\v9=.int .i64 0/\wr=u)
 case atStart=>exact⟨rfl,rfl,rfl,rfl⟩
 case round=>
  obtain⟨rfl,rfl,rfl,rfl⟩:=hrel;go_wp2;exact⟨rfl,_,(by simp[results,results54,go_sem]),rfl,HQ.out⟩
end
end
section
open Go.RowKit
abbrev iP:TypeId:=118
abbrev mZ:TypeId:=79
abbrev gW:Value:=.pointer none
def Ba:(prog.info? iP).map (fun i=>(i.zero,i.size,i.bytes))=some (some (.slice none 0 0),1,24):=by kernel_rfl
section
variable {w u:World}{nb mb:Nat}
def XB{v z z0:Value}{n k:Nat}{xs:List Value}{sty ety ty:TypeId}(hk:Kn (fun _=>False) w u)(hr:u.ownsRow w.heap.size ety 1 v n xs)(hn:n<=1000)(hu:prog.underlying sty=some (.slice ety))
  (hi:(prog.info? ety).map (fun i=>(i.zero,i.size,i.bytes))=some (some z0,1,k)) (hb:k<=24) (hz:z.oneCell'=true) (Og:z0.cells.size=1) :
  ∃v' u',(append_ #[sty,sty] ty #[v,.slice (some ⟨u.heap.size,0,none⟩) 1 1]).run prog (u.alloc (.cells #[z] ety))=.ok v' u'/\Kn (fun _=>False) w u'/\u'.ownsRow w.heap.size ety 1 v' (n+1) (xs++[z])/\∀q,q<u.heap.size->v.ownBlock≠some q->u'.heap[q]?=u.heap[q]?:=by
 obtain⟨i0,B8,Y5,Tz,Rd⟩:=info_parts hi;have Ks:∀j y,[z][j]?=some y->(u.alloc (.cells #[z] ety)).cell? ((⟨u.heap.size,0,none⟩:Addr).add j)=some y:=fun j y hj=>fK rfl (by simpa using hj);have Qh:∀y∈[z],y.oneCell'=true:=by intro y hy;simp at hy;subst hy;exact hz
 have Ra:w.heap.size<=u.heap.size:=hk.size;have hmul:(n+1)*k<=140737488355328:=le_trans (Nat.mul_le_mul (show n+1<=1001 by omega) hb) (by decide);obtain⟨v',u',Jo,Nf,Pe,_⟩:=run_append_own (P:=prog) (u.alloc (.cells #[z] ety)) w.heap.size sty ty ety i0 z0 1 k hu B8 Y5 Tz Rd Og (by decide) v n _ (hr.alloc _) ⟨u.heap.size,0,none⟩ 1 1 [z] rfl Ks Qh (by unfold maxLen;omega) hmul (by rw[aK];omega)
 exact⟨v',u',Jo,(hk.alloc _).grown Pe fun q e=>inr (hr.lt q e).1,Nf,fun q hq Ju=>by
  rw[Pe.block q (by rw[aK];omega) (fun e=>Ju e.symm),Below.heap_alloc _ _ _ hq]⟩
def RR(B:Nat)(w:World)(v:Value)(xss:List (List Value)):Prop:=
 ∃vs:List Value,w.ownsRow B iP 1 v xss.length vs/\∀(i:Nat)(xs:List Value),xss[i]?=some xs->∃s,vs[i]?=some s/\w.ownsRow 0 aH 1 s xs.length xs
def fI{D:Nat->Prop}{B:Nat}{t:TypeId}{v:Value}{n:Nat}{xs:List Value}(hk:Kn D w u)(hD:∀k,¬D k)(h:w.ownsRow B t 1 v n xs):u.ownsRow B t 1 v n xs:=
 aE h fun q _ _ _ hc=>hk.block q (aB hc) (hD q)
def rQ{B:Nat}{t:TypeId}{v:Value}{n:Nat}{xs:List Value}(h:w.ownsRow B t 1 v n xs):w.ownsRow 0 t 1 v n xs:=by
 refine⟨h.1,h.2.imp id ?_⟩;rintro⟨g,cap,cur,h1,_,h2⟩;exact⟨g,cap,cur,h1,zero_le _,h2⟩
def RR.kept{B:Nat}{v:Value}{xss:List (List Value)}(hk:Kn (fun _=>False) w u)(h:RR B w v xss):RR B u v xss:=by
 obtain⟨vs,h1,h2⟩:=h;refine⟨vs,fI hk (fun _=>id) h1,fun i xs hi=>?_⟩;obtain⟨s,e1,e2⟩:=h2 i xs hi;exact⟨s,e1,fI hk (fun _=>id) e2⟩
def RR.more{v z:Value}{xss:List (List Value)}{xs:List Value}{ty:TypeId}(hk:Kn (fun _=>False) w u)(h:RR w.heap.size u v xss)(hz:u.ownsRow 0 aH 1 z xs.length xs)(hn:xss.length<=1000) :
  ∃v' u',(append_ #[mZ,mZ] ty #[v,.slice (some ⟨u.heap.size,0,none⟩) 1 1]).run prog (u.alloc (.cells #[z] iP))=.ok v' u'/\Kn (fun _=>False) w u'/\RR w.heap.size u' v' (xss++[xs]):=by
 obtain⟨vs,h1,h2⟩:=h
 have Qh:z.oneCell'=true:=by
  rcases aD hz with⟨rfl,_⟩|⟨g,cap,rfl⟩<;>rfl
 obtain⟨v',u',e1,e2,e3,e4⟩:=XB (ty:=ty) hk h1 hn underlying79 Ba (by decide) Qh rfl
 have hs:∀{s:Value}{ys:List Value},u.ownsRow 0 aH 1 s ys.length ys->u'.ownsRow 0 aH 1 s ys.length ys:=fun {s ys} hr=>
  aE hr fun q c f _ hc=>e4 q (aB hc) fun e=>by
   rcases h1.2 with⟨h,_⟩|⟨g,cap,cur,h,_,hg,_⟩
   ·subst h;simp[ownBlock]at e
   ·subst h;obtain rfl:g=q:=by simpa [ownBlock]using e
    rw[hc]at hg;exact absurd (aN hg) (by decide)
 have hl:vs.length=xss.length:=by have:=h1.1;omega
 refine⟨v',u',e1,e2,vs++[z],by rw[length_append];exact e3,fun i ys hi=>?_⟩;rcases Nat.lt_or_ge i xss.length with Js|hge
 ·rw[List.getElem?_append_left Js]at hi;obtain⟨s,f1,f2⟩:=h2 i ys hi;exact⟨s,by rw[List.getElem?_append_left (by omega)];exact f1,hs f2⟩
 ·rw[List.getElem?_append_right hge]at hi
  have h0:i-xss.length=0:=by
   have:=(List.getElem?_eq_some_iff.1 hi).1;simp at this;omega
  rw[h0]at hi;have:xs=ys:=by simpa using hi
  subst this;exact⟨z,by rw[List.getElem?_append_right (by omega),hl,h0];rfl,hs hz⟩
def RR.start(B:Nat)(w:World):RR B w (.slice none 0 0) []:=⟨[],ownsRow_nil _ _ _ _,fun i xs h=>by simp at h⟩
def RR.form{B:Nat}{v:Value}{xss:List (List Value)}(h:RR B w v xss):∃a c,v=.slice a xss.length c:=by
 obtain⟨vs,h1,_⟩:=h;rcases aD h1 with⟨rfl,h0⟩|⟨g,cap,rfl⟩
 ·exact⟨_,_,by rw[h0]⟩
 ·exact⟨_,_,rfl⟩
def RR.at{B i:Nat}{v:Value}{xss:List (List Value)}{xs:List Value}(h:RR B w v xss)(hi:xss[i]?=some xs):∃g c a n c',v=.slice (some ⟨g,0,none⟩) xss.length c/\g<w.heap.size/\w.cell? ⟨g,i,none⟩=some (.slice a n c')/\w.ownsRow 0 aH 1 (.slice a n c') xs.length xs/\n=xs.length:=by
 obtain⟨vs,h1,h2⟩:=h;obtain⟨s,e1,e2⟩:=h2 i xs hi;have Js:=(List.getElem?_eq_some_iff.1 hi).1;obtain⟨g,c,rfl,hc⟩:=dI h1 (by omega);rcases aD e2 with⟨rfl,h0⟩|⟨g',cap,rfl⟩
 ·exact⟨g,c,_,_,_,rfl,(h1.lt g rfl).2,hc i _ e1,e2,h0.symm⟩
 ·exact⟨g,c,_,_,_,rfl,(h1.lt g rfl).2,hc i _ e1,e2,rfl⟩
def FP(w:World):Calls prog 54 #[gW,aA nb,.slice none 0 0] w fun e u=>∃a n c,e=.returned (.tuple #[.slice a n c,.bool true])/\Kn (fun _=>False) w u/\u.ownsRow w.heap.size aH 1 (.slice a n c) 1 [aA nb]:=by
 have ha:∃v' u',(append_ #[iP,iP] iP #[.slice none 0 0,.slice (some ⟨w.heap.size,0,none⟩) 1 1]).run prog (w.alloc (.cells #[aA nb] aH))=.ok v' u'/\Kn (fun _=>False) w u'/\u'.ownsRow w.heap.size aH 1 v' 1 [aA nb]:=by
  obtain⟨v',u',h1,h2,h3,_⟩:=XB (w:=w) (n:=0) (xs:=[]) (z:=aA nb) (sty:=iP) (ty:=iP) (Kn.refl _ w) (ownsRow_nil _ _ _ _) (by omega) underlying118 infoPtr (by decide) rfl rfl;exact⟨v',u',h1,h2,h3⟩
 obtain⟨v',u',h1,h2,h3⟩:=ha
 obtain⟨a,n,c,rfl⟩:∃a n c,v'=.slice a n c:=by
  rcases aD h3 with⟨rfl,_⟩|⟨g,cap,rfl⟩<;>exact⟨_,_,_,rfl⟩
 have HR:=aC h1;have HQ:=aC (And.intro h2 h3);clear h1 h2 h3;unfold aA gW at *;go_enter func54,ntmps54
 go_wp2_with (at_builtin;refine aU rfl _ _ _ rfl (by simp[Act.eval,Act.put]) (by simp[Act.eval,Act.put]) HR.out ?_)
 exact⟨rfl,_,(by simp[results,results54,go_sem]),_,_,_,rfl,HQ.out⟩
def TT{g n c i b:Nat}(h1:w.cell? ⟨nb,2,none⟩=some (.slice (some ⟨g,0,none⟩) n c))(hg:g<w.heap.size)(h2:w.cell? ⟨g,i,none⟩=some (aA b))(h3:w.cell? ⟨b,0,none⟩=some (.int .i64 3))(hi:i<n)(hn:n<=1000) :
  Calls prog 85 #[aA nb,.int .i64 (i:Nat)] w fun e u=>e=.returned gW/\u=w:=by
 have hA:=QL h3;have HA:=aC hA;have Js:(i:Int)<(n:Int):=by omega
 clear hA h3;unfold aA gW at *;go_enter func85,ntmps85;go_wp2_with fail;refine(HA.out).mono ?_;rintro e u⟨rfl,rfl⟩;go_wp2;exact⟨rfl,_,(by simp[results,results85,go_sem]),rfl,rfl⟩
end
end
section
open Go.RowKit
section
variable {w u:World}{nb mb:Nat}
def rO{pv:Value}{bl:List Nat}(hr:w.ownsRow 0 aH 1 pv bl.length (bl.map aA))(hl:bl.length<=1000)(hw:∀b∈bl,∀u,Kn (fun _=>False) w u->Calls prog 54 #[aA nb,aA b,.slice none 0 0] u fun e v=>e=.returned (.tuple #[.slice none 0 0,.bool false])/\Kn (fun _=>False) u v) :
  Calls prog 24 #[aA nb,pv] w fun e u=>e=.returned (.slice none 0 0)/\Kn (fun _=>False) w u:=by
 obtain⟨a,cap,rfl,ha⟩:∃a cap,pv=.slice a bl.length cap/\(0<bl.length->∃g,a=some ⟨g,0,none⟩):=by
  rcases aD hr with⟨h,h0⟩|⟨g,cap,h⟩
  ·exact⟨none,0,by rw[h,h0],fun h=>by omega⟩
  ·exact⟨_,cap,h,fun _=>⟨g,rfl⟩⟩
 have hs:∀i wr,Kn (fun _=>False) w wr->i<bl.length->∃g b,a=some ⟨g,0,none⟩/\wr.cell? ⟨g,i,none⟩=some (aA b)/\g<wr.heap.size/\Calls prog 54 #[aA nb,aA b,.slice none 0 0] wr fun e v=>e=.returned (.tuple #[.slice none 0 0,.bool false])/\Hid (Kn (fun _=>False) w v):=by
  intro i wr hk hi;obtain⟨g,rfl⟩:=ha (by omega);have Jn:=fI hk (fun _=>id) hr;refine⟨g,bl[i],rfl,?_,(Jn.lt g rfl).2,(hw _ (getElem_mem hi) wr hk).mono ?_⟩
  ·rw[Jn.cellAt i (by omega),getElem?_map,getElem?_eq_getElem hi];rfl
  ·rintro e v⟨rfl,hv⟩;exact⟨rfl,hk.trans hv⟩
 have HS:=aC hs;have HK:=aC (Kn.refl (fun _=>False) w);clear hs hr hw ha;generalize Kn (fun _=>False) w=KK at *;generalize bl.length=pn at *;unfold aA at *;go_enter func24,ntmps24;go_wp2_with fail
 go_loopg [5,12] pn (fun gk v3 v12 wr=>∃i:Nat,v12=.int .i64 (i:Nat)/\v3=.slice none 0 0/\i+gk=pn/\Hid (KK wr))
 case atStart=>exact⟨0,rfl,rfl,by omega,HK⟩
 case round=>
  obtain⟨i,rfl,rfl,hi,Kd⟩:=hrel
  by_cases Js:i<pn
  ·obtain⟨g,b,rfl,e1,e2,hc⟩:=HS.out _ _ Kd.out Js;have Jt:(i:Int)<(pn:Int):=by omega
   have HC:=aC hc;clear hc HS Kd HK;go_wp2_with fail;refine(HC.out).mono ?_;rintro e u⟨rfl,HL⟩;clear HC;go_wp2_with fail
   go_roundg (pn-(i+1))
   case rel=>exact⟨i+1,by simp,rfl,by omega,HL⟩
   case measure=>omega
  ·have Jt:¬(i:Int)<(pn:Int):=by omega
   clear HS HK;go_wp2;refine bodyPost_ret (v:=.slice none 0 0) (by simp[results,results24,go_sem]) rfl ⟨rfl,Kd.out⟩
def rP{pv:Value}{bl:List Nat}(hr:w.ownsRow 0 aH 1 pv bl.length (bl.map aA))(hl:bl.length<=1000) :
  Calls prog 24 #[gW,pv] w fun e u=>∃a n c,e=.returned (.slice a n c)/\Kn (fun _=>False) w u/\RR w.heap.size u (.slice a n c) (bl.map fun b=>[aA b]):=by
 obtain⟨a,cap,rfl,ha⟩:∃a cap,pv=.slice a bl.length cap/\(0<bl.length->∃g,a=some ⟨g,0,none⟩):=by
  rcases aD hr with⟨h,h0⟩|⟨g,cap,h⟩
  ·exact⟨none,0,by rw[h,h0],fun h=>by omega⟩
  ·exact⟨_,cap,h,fun _=>⟨g,rfl⟩⟩
 obtain⟨LD,Tp⟩:∃LD:Nat->Value->World->Prop,LD=fun i v wr=>Kn (fun _=>False) w wr/\RR w.heap.size wr v ((bl.take i).map fun b=>[aA b]):=⟨_,rfl⟩
 have hs:∀i v wr,LD i v wr->i<bl.length->∃g b,a=some ⟨g,0,none⟩/\wr.cell? ⟨g,i,none⟩=some (aA b)/\g<wr.heap.size/\Calls prog 54 #[gW,aA b,.slice none 0 0] wr fun e u=>∃a n c,e=.returned (.tuple #[.slice a n c,.bool true]) /\
   ∃v' u',(append_ #[mZ,mZ] mZ #[v,.slice (some ⟨u.heap.size,0,none⟩) 1 1]).run prog (u.alloc (.cells #[.slice a n c] iP))=.ok v' u'/\Hid (LD (i+1) v' u'):=by
  intro i v wr Kl hi;rw[Tp]at Kl;obtain⟨hk,Uy⟩:=Kl;obtain⟨g,rfl⟩:=ha (by omega);have Jn:=fI hk (fun _=>id) hr;refine⟨g,bl[i],rfl,?_,(Jn.lt g rfl).2,(FP wr).mono ?_⟩
  ·rw[Jn.cellAt i (by omega),getElem?_map,getElem?_eq_getElem hi];rfl
  ·rintro e u⟨a',n',c',rfl,Jy,ho⟩;obtain⟨v',u',f1,f2,f3⟩:=RR.more (ty:=mZ) (hk.trans Jy) (Uy.kept Jy) (xs:=[aA bl[i]]) (rQ ho) (by rw[length_map,length_take];omega);refine⟨a',n',c',rfl,v',u',f1,aC ?_⟩;rw[Tp];refine⟨f2,?_⟩;rw[take_add_one,getElem?_eq_getElem hi,map_append];exact f3
 have Jp:∀v wr,LD bl.length v wr->∃a n c,v=.slice a n c/\Kn (fun _=>False) w wr/\RR w.heap.size wr (.slice a n c) (bl.map fun b=>[aA b]):=by
  intro v wr h;rw[Tp]at h;obtain⟨h1,h2⟩:=h;rw[take_length]at h2;obtain⟨a,c,rfl⟩:=h2.form;exact⟨_,_,_,rfl,h1,h2⟩
 have HS:=aC hs;have HF:=aC Jp;have HK:=aC (show LD 0 (.slice none 0 0) w by rw[Tp];exact⟨Kn.refl _ _,RR.start _ _⟩);clear hs Jp hr ha Tp;generalize hQ:(fun(v:Value) (u:World)=>∃a n c,v=.slice a n c/\Kn (fun _=>False) w u/\RR w.heap.size u (.slice a n c) (bl.map fun b=>[aA b]))=Q;generalize bl.length=pn at *;unfold aA gW at *;go_enter func24,ntmps24;go_wp2_with fail
 go_loopg [5,12] pn (fun gk v3 v12 wr=>∃i:Nat,v12=.int .i64 (i:Nat)/\i+gk=pn/\Hid (LD i v3 wr))
 case atStart=>exact⟨0,rfl,by omega,HK⟩
 case round=>
  obtain⟨i,rfl,hi,Kd⟩:=hrel
  by_cases Js:i<pn
  ·obtain⟨g,b,rfl,e1,e2,hc⟩:=HS.out _ _ _ Kd.out Js;have Jt:(i:Int)<(pn:Int):=by omega
   have HC:=aC hc;clear hc HS Kd HK HF;go_wp2_with fail;refine(HC.out).mono ?_;rintro e u⟨a',n',c',rfl,v',u',Jo,HL⟩;have HR:=aC Jo;clear HC Jo
   go_wp2_with (at_builtin;refine aU rfl _ _ _ rfl (by simp[Act.eval,Act.put]) (by simp[Act.eval,Act.put]) HR.out ?_)
   go_roundg (pn-(i+1))
   case rel=>exact⟨i+1,by simp,by omega,HL⟩
   case measure=>omega
  ·have Kg:i=pn:=by omega
   subst Kg;have Jt:¬(i:Int)<(i:Int):=by omega
   obtain⟨av,nv,cv,rfl,hf⟩:=HF.out _ _ Kd.out;have HQ:=aC hf;clear hf HS HK HF Kd;go_wp2;refine bodyPost_ret (v:=.slice av nv cv) (by simp[results,results24,go_sem]) rfl ⟨_,_,_,rfl,HQ.out⟩
def aF.fa1:aF 52:=enters func52 (by kernel_rfl) rfl
def Bm(w:World):Calls prog 52 #[gW] w fun e u=>e=.returned (.bool false)/\u=w:=by
 unfold gW;go_enter func52,ntmps52;go_wp2;exact⟨rfl,_,(by simp[results,results52,go_sem]),rfl,rfl⟩
def Bl(w:World):Calls prog 52 #[aA nb] w fun e u=>e=.returned (.bool true)/\u=w:=by
 unfold aA;go_enter func52,ntmps52;go_wp2;exact⟨rfl,_,(by simp[results,results52,go_sem]),rfl,rfl⟩
abbrev PT:Value:=.func (.func 52) #[] #[]
def VG{a:Option Addr}{n c:Nat}(hr:w.ownsRow 0 aH 1 (.slice a n c) n (replicate n gW))(hn:n<=1000) :
  Calls prog 51 #[.slice a n c,PT] w fun e u=>e=.returned (.int .i64 (-1))/\u=w:=by
 have hs:∀i,i<n->∃g,a=some ⟨g,0,none⟩/\w.cell? ⟨g,i,none⟩=some gW/\g<w.heap.size:=by
  intro i hi;obtain⟨g,cap,e,hc⟩:=dI hr (by omega);cases e;exact⟨g,rfl,hc i _ (by rw[List.getElem?_replicate,if_pos hi]),(hr.lt g rfl).2⟩
 have HS:=aC hs;have HC:=aC (Bm w);have hE:=fun(args:Array Value) (w:World)=>aF.fa1 args w;clear hs hr;unfold gW PT at *;go_enter func51,ntmps51;go_wp2_with fail
 go_loopg [8] n (fun gk v7 wr=>∃i:Nat,v7=.int .i64 (i:Nat)/\i+gk=n/\wr=w)
 case atStart=>exact⟨0,rfl,by omega,rfl⟩
 case round=>
  obtain⟨i,rfl,hi,rfl⟩:=hrel
  by_cases Js:i<n
  ·obtain⟨g,rfl,e1,e2⟩:=HS.out _ Js;have Jt:(i:Int)<(n:Int):=by omega
   go_wp2_with fail;refine(HC.out).mono ?_;rintro e u⟨rfl,rfl⟩;go_wp2_with fail
   go_roundg (n-(i+1))
   case rel=>exact⟨i+1,by simp,by omega,rfl⟩
   case measure=>omega
  ·have Jt:¬(i:Int)<(n:Int):=by omega
   go_wp2;exact⟨rfl,_,(by simp[results,results51,go_sem]),rfl,rfl⟩
def PB{a:Option Addr}{n c:Nat}(hr:w.ownsRow 0 aH 1 (.slice a n c) 1 [aA nb]) :
  Calls prog 51 #[.slice a n c,PT] w fun e u=>e=.returned (.int .i64 0)/\u=w:=by
 obtain⟨g,cap,e,hc⟩:=dI hr (by decide);cases e;have e1:w.cell? ⟨g,0,none⟩=some (aA nb):=hc 0 _ rfl;have e2:g<w.heap.size:=(hr.lt g rfl).2;have HC:=aC (Bl (nb:=nb) w);have hE:=fun(args:Array Value) (w:World)=>aF.fa1 args w;clear hr hc;unfold aA PT at *;go_enter func51,ntmps51;go_wp2_with fail
 go_loopg [8] 0 (fun gk v7 wr=>v7=.int .i64 0/\wr=w)
 case atStart=>exact⟨rfl,rfl⟩
 case round=>
  obtain⟨rfl,rfl⟩:=hrel;go_wp2_with fail;refine(HC.out).mono ?_;rintro e u⟨rfl,rfl⟩;go_wp2;exact⟨rfl,_,(by simp[results,results51,go_sem]),rfl,rfl⟩
def EC(vv:Value)(w:World):Calls prog 23 #[vv,.slice none 0 0] w fun e u=>e=.returned (.bool false)/\u=w:=by
 go_enter func23,ntmps23;go_wp2;exact⟨rfl,_,(by simp[results,results23,go_sem]),rfl,rfl⟩
def zZ{vv v:Value}{B m:Nat}(hr:RR B w v [replicate m gW])(hm:m<=1000):Calls prog 23 #[vv,v] w fun e u=>e=.returned (.bool true)/\u=w:=by
 obtain⟨g,c,a,n,c',rfl,hg,hc,ho,hn⟩:=hr.at (i:=0) rfl;rw[List.length_replicate]at hn ho;subst hn;have HI:=aC (VG ho hm);clear ho hr;simp only[length_cons,length_nil,Nat.zero_add];unfold PT at *;go_enter func23,ntmps23;go_wp2_with fail;refine(HI.out).mono ?_;rintro e u⟨rfl,rfl⟩;go_wp2;exact⟨rfl,_,(by simp[results,results23,go_sem]),rfl,rfl⟩
end
end
section
open Go.RowKit
section
variable {w u:World}{nb mb:Nat}
structure FL(w:World)(b:Nat)(nm:Nm)(pl:List Nat):Prop where
 c0:w.cell? ⟨b,0,none⟩=some (.int .i64 14)
 c1:w.cell? ⟨b,1,none⟩=some (.string (bs nm))
 row:∃pv,w.cell? ⟨b,2,none⟩=some pv/\w.ownsRow 0 aH 1 pv pl.length (pl.map aA)
 var:∀p∈pl,w.cell? ⟨p,0,none⟩=some (.int .i64 3)
 len:pl.length<=1000
def FL.kept{b:Nat}{nm:Nm}{pl:List Nat}(h:FL w b nm pl)(hk:Kn (fun _=>False) w u):FL u b nm pl:=by
 obtain⟨pv,e1,e2⟩:=h.row;exact⟨hk.cell id h.c0,hk.cell id h.c1,⟨pv,hk.cell id e1,fI hk (fun _=>id) e2⟩,fun p hp=>hk.cell id (h.var p hp),h.len⟩
def FL.of{b:Nat}{nm:Nm}{ps:List Nd}(h:AB w (.mk 14 nm ps) b)(hv:∀p∈ps,p.k=3)(hl:ps.length<=1000):∃pl,FL w b nm pl/\pl.length=ps.length:=by
 obtain⟨pv,bl,n1,n2,n3⟩:=h.inv;refine⟨bl,⟨by simp[cell?,n1],by simp[cell?,n1],⟨pv,by simp[cell?,n1],n2⟩,fun p hp=>?_,by rw[n3.len];exact hl⟩,n3.len⟩;obtain⟨i,hi⟩:=List.getElem?_of_mem hp;have Lc:=(List.getElem?_eq_some_iff.1 hi).1;have Rn:ps[i]?=some (ps[i]'(by rw[<- n3.len];exact Lc)):=getElem?_eq_getElem _;obtain⟨b',hb,hm⟩:=n3.at Rn;have hk:=hv _ (List.mem_of_getElem? Rn);generalize ps[i]'(by rw[<- n3.len];exact Lc)=q at hm hk;rw[hi]at hb;cases hb;obtain⟨k,t,s⟩:=q;obtain⟨_,_,m1,_,_⟩:=hm.inv;simp only[Nd.k]at hk;subst hk;simp[cell?,m1]
def FL.same{b b':Nat}{nm nm':Nm}{pl pl':List Nat}(h:FL w b nm pl)(h':FL w b' nm' pl'):Calls prog 84 #[aA b,aA b'] w fun e u=>e=.returned (.bool (nm==nm'))/\Kn (fun _=>False) w u:=by
 refine(sK h.c0 h'.c0 h.c1 h'.c1).mono ?_;rintro e u⟨rfl,hk⟩;exact⟨by rw[MD],hk⟩
def aF.aa1:aF 122:=enters func122 (by kernel_rfl) rfl
def Cy{b q:Nat}{nm nm':Nm}{pl pl':List Nat}(h:FL w b nm pl)(h':FL w nb nm' pl')(Ju:(nm==nm')=false)(hq:w.cell? ⟨q,0,none⟩=some (aA nb)):Calls prog 122 #[aA b,aA q] w fun e u=>e=.returned (.bool false)/\Kn (fun _=>False) w u:=by
 have hS:∀u,Kn (fun _=>False) w u->Calls prog 84 #[aA b,aA nb] u fun e v=>e=.returned (.bool false)/\Hid (Kn (fun _=>False) w v):=fun u hu=>by
  refine((h.kept hu).same (h'.kept hu)).mono ?_;rintro e v⟨rfl,hv⟩;exact⟨by rw[Ju],hu.trans hv⟩
 have HS:=aC hS;have HR:=aC (Kn.refl (fun _=>False) w);have HD:=aC (Kn.AH w);clear hS h h';generalize Kn (fun _=>False) w=KK at *;unfold aA at *;go_enter func122,ntmps122;go_wp2_with fail
 first
 |refine(HS.out _ HR.out).mono ?_
 |refine(HS.out _ HD.out).mono ?_
 rintro e u⟨rfl,HL⟩;go_wp2;exact⟨rfl,_,(by simp[results,results122,go_sem]),rfl,HL.out⟩
def PC{a:Option Addr}{n c q:Nat}{bl:List Nat}(hr:w.ownsRow 0 aH 1 (.slice a n c) bl.length (bl.map aA))(hn:bl.length<=1000)(hc:∀b∈bl,∀u,Kn (fun _=>False) w u->Calls prog 122 #[aA b,aA q] u fun e v=>e=.returned (.bool false)/\Kn (fun _=>False) u v) :
  Calls prog 166 #[.slice a n c,.func (.func 122) #[] #[aA q]] w fun e u=>e=.returned (.int .i64 (-1))/\Kn (fun _=>False) w u:=by
 have Uc:n=bl.length:=by
  rcases aD hr with⟨h,h0⟩|⟨g,cap,h⟩<;>cases h
  ·exact h0.symm
  ·rfl
 subst Uc
 have hs:∀i wr,Kn (fun _=>False) w wr->i<bl.length->∃g b,a=some ⟨g,0,none⟩/\wr.cell? ⟨g,i,none⟩=some (aA b)/\g<wr.heap.size/\Calls prog 122 #[aA b,aA q] wr fun e v=>e=.returned (.bool false)/\Hid (Kn (fun _=>False) w v):=by
  intro i wr hk hi;have Jn:=fI hk (fun _=>id) hr;obtain⟨g,cap,e,Jw⟩:=dI Jn (by omega);cases e;refine⟨g,bl[i],rfl,Jw i _ (by rw[getElem?_map,getElem?_eq_getElem hi];rfl),(Jn.lt g rfl).2,(hc _ (getElem_mem hi) wr hk).mono ?_⟩;rintro e v⟨rfl,hv⟩;exact⟨rfl,hk.trans hv⟩
 have HS:=aC hs;have HR:=aC (Kn.refl (fun _=>False) w);have hE:=fun(args:Array Value) (w:World)=>aF.aa1 args w;clear hs hr hc;generalize bl.length=n at *;generalize Kn (fun _=>False) w=KK at *;unfold aA at *;go_enter func166,ntmps166;go_wp2_with fail
 go_loopg [8] n (fun gk v7 wr=>∃i:Nat,v7=.int .i64 (i:Nat)/\i+gk=n/\Hid (KK wr))
 case atStart=>exact⟨0,rfl,by omega,HR⟩
 case round=>
  obtain⟨i,rfl,hi,Kd⟩:=hrel
  by_cases Js:i<n
  ·obtain⟨g,b,rfl,e1,e2,hc⟩:=HS.out _ _ Kd.out Js;have Jt:(i:Int)<(n:Int):=by omega
   have HC:=aC hc;clear hc HS Kd;go_wp2_with fail;refine(HC.out).mono ?_;rintro e u⟨rfl,HL⟩;go_wp2_with fail
   go_roundg (n-(i+1))
   case rel=>exact⟨i+1,by simp,by omega,HL⟩
   case measure=>omega
  ·have Jt:¬(i:Int)<(n:Int):=by omega
   go_wp2;exact⟨rfl,_,(by simp[results,results166,go_sem]),rfl,Kd.out⟩
def uM{v f:Value}{Q:World->Prop}(h:Calls prog 166 #[v,f] w fun e u=>e=.returned (.int .i64 (-1))/\Q u) :
  Calls prog 121 #[v,f] w fun e u=>e=.returned (.bool false)/\Q u:=by
 have H:=aC h;clear h;go_enter func121,ntmps121;go_wp2_with fail;refine(H.out).mono ?_;rintro e u⟨rfl,hq⟩;go_wp2;exact⟨rfl,_,(by simp[results,results121,go_sem]),rfl,hq⟩
def Dif(w:World)(bl:List Nat)(nms:Nat->Nm):Prop:=bl.length<=100/\(∀(i:Nat)(b:Nat),bl[i]?=some b->∃pl,FL w b (nms i) pl)/\∀i j,i≠j->i<bl.length->j<bl.length->(nms i==nms j)=false
def WS(w:World)(v:Value)(t:TypeId):(w.alloc (.cells #[v] t)).cell? ⟨w.heap.size,0,none⟩=some v:=(aP ((heap_alloc w _).1) 0).trans rfl
def EW{v:Value}{bl:List Nat}{B:Nat}{nms:Nat->Nm}(hr:RR B w v (bl.map fun b=>[aA b]))(hd:Dif w bl nms) :
  Calls prog 80 #[v,.int .i64 0] w fun e u=>∃a n c,e=.returned (.slice a n c)/\Hid (Kn (fun _=>False) w u/\u.ownsRow w.heap.size aH 1 (.slice a n c) bl.length (bl.map aA)):=by
 obtain⟨a,cap,rfl⟩:=hr.form;rw[length_map];have hl:=hd.1;obtain⟨LD,Tp⟩:∃LD:Nat->Value->World->Prop,LD=fun i v wr=>Kn (fun _=>False) w wr/\wr.ownsRow w.heap.size aH 1 v (bl.take i).length ((bl.take i).map aA):=⟨_,rfl⟩
 have hs:∀i v wr,LD i v wr->i<bl.length->∃g b sa sc,a=some ⟨g,0,none⟩/\wr.cell? ⟨g,i,none⟩=some (.slice (some ⟨sa,0,none⟩) 1 sc)/\g<wr.heap.size/\wr.cell? ⟨sa,0,none⟩=some (aA b)/\sa<wr.heap.size /\
   (wr.alloc (.cells #[aA b] aH)).cell? ⟨wr.heap.size,0,none⟩=some (aA b)/\Calls prog 121 #[v,.func (.func 122) #[] #[aA wr.heap.size]] (wr.alloc (.cells #[aA b] aH)) fun e u=>e=.returned (.bool false)/\u.cell? ⟨wr.heap.size,0,none⟩=some (aA b) /\
    ∃v' u',(append_ #[41,41] 41 #[v,.slice (some ⟨u.heap.size,0,none⟩) 1 1]).run prog (u.alloc (.cells #[aA b] aH))=.ok v' u'/\Hid (LD (i+1) v' u'):=by
  intro i v wr Kl hi;rw[Tp]at Kl;obtain⟨hk,Jn⟩:=Kl;have Up:bl[i]?=some bl[i]:=getElem?_eq_getElem hi;obtain⟨g,c,sa,n,sc,e1,e2,e3,e4,e5⟩:=(hr.kept hk).at (i:=i) (xs:=[aA bl[i]]) (by rw[getElem?_map,Up];rfl);cases e1;obtain⟨sg,scap,e6,Jw⟩:=dI e4 (by simp);cases e6;have Z4:Kn (fun _=>False) wr (wr.alloc (.cells #[aA bl[i]] aH)):=(Kn.refl _ wr).alloc _;have Lw:=WS wr (aA bl[i]) aH;obtain⟨pl,Zk⟩:=hd.2.1 i _ Up;have Yr:∃va vn vc,v=.slice va vn vc:=by rcases aD Jn with⟨rfl,_⟩|⟨g,cap,rfl⟩<;>exact⟨_,_,_,rfl⟩
  obtain⟨va,vn,vc,rfl⟩:=Yr;refine⟨g,bl[i],sg,sc,rfl,e3,e2,Jw 0 _ rfl,(e4.lt sg rfl).2,Lw,(uM (PC (q:=wr.heap.size) (rQ (fI Z4 (fun _=>id) Jn)) (by rw[length_take];omega) fun b hb u hu=>?_)).mono ?_⟩
  ·obtain⟨j,hj⟩:=List.getElem?_of_mem hb;have Mc:j<i:=by have:=(List.getElem?_eq_some_iff.1 hj).1;rw[length_take]at this;omega
   rw[List.getElem?_take_of_lt Mc]at hj;obtain⟨pl',hcn'⟩:=hd.2.1 j b hj;have Ju:=hd.2.2 j i (by omega) (by omega) hi;have Nn:=(hk.trans Z4).trans hu;exact Cy (hcn'.kept Nn) (Zk.kept Nn) Ju (hu.cell id Lw)
  ·rintro e u⟨rfl,Nn⟩;have Nq:=(hk.trans Z4).trans Nn;obtain⟨v',u',f1,f2,f3,_⟩:=XB (z:=aA bl[i]) (ty:=41) Nq (fI (Z4.trans Nn) (fun _=>id) Jn) (by rw[length_take];omega) underlying41 infoPtr (by decide) rfl rfl;refine⟨rfl,Nn.cell id Lw,v',u',f1,aC ?_⟩;rw[Tp];refine⟨f2,?_⟩;rw[take_add_one,Up,length_append,map_append];exact f3
 have Jp:∀v wr,LD bl.length v wr->∃a n c,v=.slice a n c/\Hid (Kn (fun _=>False) w wr/\wr.ownsRow w.heap.size aH 1 (.slice a n c) bl.length (bl.map aA)):=by
  intro v wr h;rw[Tp]at h;obtain⟨h1,h2⟩:=h;rw[take_length]at h2;rcases aD h2 with⟨rfl,_⟩|⟨g,cap,rfl⟩<;>exact⟨_,_,_,rfl,h1,h2⟩
 have HS:=aC hs;have HF:=aC Jp;have HK:=aC (show LD 0 (.slice none 0 0) w by rw[Tp];exact⟨Kn.refl _ _,ownsRow_nil _ _ _ _⟩);clear hs Jp hr Tp hd;generalize bl.length=pn at *;unfold aA at *;go_enter func80,ntmps80;go_wp2_with fail
 go_loopg [5,11] pn (fun gk v5 v11 wr=>∃i:Nat,v11=.int .i64 (i:Nat)/\i+gk=pn/\Hid (LD i v5 wr))
 case atStart=>exact⟨0,rfl,by omega,HK⟩
 case round=>
  obtain⟨i,rfl,hi,Kd⟩:=hrel
  by_cases Js:i<pn
  ·obtain⟨g,b,sa,sc,rfl,e1,e2,e3,e4,e5,hc⟩:=HS.out _ _ _ Kd.out Js;have Jt:(i:Int)<(pn:Int):=by omega
   have HC:=aC hc;clear hc HS Kd HK HF;go_wp2_with fail;refine(HC.out).mono ?_;rintro e u⟨rfl,d1,v',u',Jo,HL⟩;have HR:=aC Jo;clear Jo HC
   go_wp2_with (at_builtin;refine aU rfl _ _ _ rfl (by simp[Act.eval,Act.put]) (by simp[Act.eval,Act.put]) HR.out ?_)
   go_roundg (pn-(i+1))
   case rel=>exact⟨i+1,by simp,by omega,HL⟩
   case measure=>omega
  ·have Kg:i=pn:=by omega
   subst Kg;have Jt:¬(i:Int)<(i:Int):=by omega
   obtain⟨av,nv,cv,rfl,HQ⟩:=HF.out _ _ Kd.out;clear HS HK HF Kd;go_wp2;exact⟨rfl,_,(by simp[results,results80,go_sem]),_,_,_,rfl,HQ⟩
end
end
section
open Go.RowKit
section
variable {w u:World}{nb mb:Nat}
def WZ(w:World)(a:Option Addr)(c:Nat):(append_ #[iP,iP] iP #[.slice none 0 0,.slice a 0 c]).run prog w=.ok (.slice none 0 0) w:=by
 obtain⟨i0,B8,Y5,Tz,Rd⟩:=info_parts infoPtr
 exact run_append_nothing w _ _ _ _ i0 underlying118 B8 none 0 0 (le_refl _) _ (by
  cases a with
  |none=>exact Src.ofNil w underlying118 c
  |some a=>exact Src.ofSlice w underlying118 a 0 c [] (by simp) (fun j u h=>by simp at h) (fun u h=>by simp at h))
def PD(w:World):Calls prog 167 #[.slice none 0 0,.int .i64 0] w fun e u=>e=.returned (.slice none 0 0)/\u=w:=by
 go_enter func167,ntmps167;go_wp2;exact⟨rfl,_,(by simp[results,results167,go_sem]),rfl,rfl⟩
def EI{q c0 c1:Nat}{a0 a1:Option Addr}(h0:w.cell? ⟨q,0,none⟩=some (.slice a0 0 c0))(h1:w.cell? ⟨q,1,none⟩=some (.slice a1 0 c1))(hq:q<w.heap.size):Calls prog 123 #[.slice (some ⟨q,0,none⟩) 2 2] w fun e u=>e=.returned (.slice none 0 0)/\u=w:=by
 have hs:∀i,i<2->∃a c,w.cell? ⟨q,i,none⟩=some (.slice a 0 c):=fun i hi=>by
  match i,hi with
  |0,_=>exact⟨_,_,h0⟩
  |1,_=>exact⟨_,_,h1⟩
 have HS:=aC hs;have HG:=aC (PD w);have HA:=aC (WZ w);clear hs h0 h1;go_enter func123,ntmps123;go_wp2_with fail
 go_loopg [3,11] 2 (fun gk v3 v11 wr=>∃i:Nat,v11=.int .i64 (i:Nat)/\v3=.int .i64 0/\i+gk=2/\wr=w)
 case atStart=>exact⟨0,rfl,rfl,rfl,rfl⟩
 case round=>
  obtain⟨i,rfl,rfl,hi,rfl⟩:=hrel
  by_cases Js:i<2
  ·obtain⟨a,c,e1⟩:=HS.out i Js;have Jt:(i:Int)<2:=by omega
   have hlt4:i<2:=Js;go_wp2_with fail
   go_roundg (2-(i+1))
   case rel=>exact⟨i+1,by simp,rfl,by omega,rfl⟩
   case measure=>omega
  ·have Jt:¬(i:Int)<2:=by omega
   go_wp2_with fail;refine(HG.out).mono ?_;rintro e u⟨rfl,rfl⟩;clear HG;go_wp2_with fail
   go_loopg [6,27] 2 (fun gk v6 v27 wr=>∃i:Nat,v27=.int .i64 (i:Nat)/\v6=.slice none 0 0/\i+gk=2/\wr=u)
   case atStart=>exact⟨0,rfl,rfl,rfl,rfl⟩
   case round=>
    clear Js Jt hi;obtain⟨j,rfl,rfl,hj,rfl⟩:=hrel
    by_cases Js:j<2
    ·obtain⟨a,c,e1⟩:=HS.out j Js;have Jt:(j:Int)<2:=by omega
     have HR:=aC (HA.out a c)
     go_wp2_with (at_builtin;refine aU rfl _ _ _ rfl (by simp[Act.eval,Act.put]) (by simp[Act.eval,Act.put]) HR.out ?_)
     go_roundg (2-(j+1))
     case rel=>exact⟨j+1,by simp,rfl,by omega,rfl⟩
     case measure=>omega
    ·have Jt:¬(j:Int)<2:=by omega
     go_wp2;exact⟨rfl,_,(by simp[results,results123,go_sem]),rfl,rfl⟩
def xK(w:World)(j m i:Nat)(v:Value)(wr:World):Prop:=Kn (fun _=>False) w wr/\(i<=j->v=.slice none 0 0)/\(j<i->RR w.heap.size wr v [replicate m gW])
def xK.on{j m i:Nat}{v:Value}{wr:World}(h:xK w j m i v wr)(hk:Kn (fun _=>False) wr u)(hi:i≠j):xK w j m (i+1) v u:=
 ⟨h.1.trans hk,fun h1=>h.2.1 (by omega),fun h1=>(h.2.2 (by omega)).kept hk⟩
def xL(w:World)(i:Nat)(v:Value)(wr:World):Prop:=Kn (fun _=>False) w wr/\wr.ownsRow w.heap.size aH 1 v i (replicate i gW)
def xL.more{i:Nat}{v:Value}{wr:World}(h:xL w i v wr)(hi:i<=1000):∃v' u,(append_ #[iP,iP] iP #[v,.slice (some ⟨wr.heap.size,0,none⟩) 1 1]).run prog (wr.alloc (.cells #[gW] aH))=.ok v' u/\Hid (xL w (i+1) v' u):=by
 obtain⟨v',u,f1,f2,f3,_⟩:=XB (z:=gW) (sty:=iP) (ty:=iP) h.1 h.2 hi underlying118 infoPtr (by decide) rfl rfl;exact⟨v',u,f1,aC ⟨f2,by rw[List.replicate_succ'];exact f3⟩⟩
def tW{v:Value}{bl pl:List Nat}{B j b:Nat}{nms:Nat->Nm}(hr:RR B w v (bl.map fun b=>[aA b]))(hd:Dif w bl nms)(hj:bl[j]?=some b)(hb:FL w b (nms j) pl) :
  Calls prog 83 #[v,.int .i64 0,aA b] w fun e u=>∃a n c,e=.returned (.slice a n c)/\Hid (Kn (fun _=>False) w u/\RR w.heap.size u (.slice a n c) [replicate pl.length gW]):=by
 obtain⟨a,cap,rfl⟩:=hr.form;rw[length_map];have hl:=hd.1;have Mc:=(List.getElem?_eq_some_iff.1 hj).1;have Nb:=hb.len
 have hs:∀i v wr,xK w j pl.length i v wr->i<bl.length->∃g c sa sc,a=some ⟨g,0,none⟩/\wr.cell? ⟨g,i,none⟩=some (.slice (some ⟨sa,0,none⟩) 1 sc)/\g<wr.heap.size/\wr.cell? ⟨sa,0,none⟩=some (aA c)/\sa<wr.heap.size/\1<=sc/\sc<=9223372036854775807 /\
   Calls prog 84 #[aA c,aA b] wr fun e u=>(i≠j/\e=.returned (.bool false)/\Hid (xK w j pl.length (i+1) v u))\/(i=j/\c=b/\e=.returned (.bool true)/\v=.slice none 0 0/\Hid (∀a1 c1,Calls prog 123 #[.slice (some ⟨u.heap.size,0,none⟩) 2 2] (u.alloc (.cells #[.slice (some ⟨sa,0,none⟩) 0 sc,.slice a1 0 c1] iP)).drew fun e z2=>e=.returned (.slice none 0 0)/\Hid (xL w 0 (.slice none 0 0) z2))):=by
  intro i v wr Kl hi;have Up:bl[i]?=some bl[i]:=getElem?_eq_getElem hi;obtain⟨g,c,sa,n,sc,e1,e2,e3,e4,e5⟩:=(hr.kept Kl.1).at (i:=i) (xs:=[aA bl[i]]) (by rw[getElem?_map,Up];rfl);cases e1;obtain⟨sg,scap,e6,Jw⟩:=dI e4 (by simp);cases e6;obtain⟨pl',Zk⟩:=hd.2.1 i _ Up
  have Oc:1<=sc/\sc<=9223372036854775807:=by
   rcases e4.2 with⟨h,_⟩|⟨g2,cap2,cur,h,_,_,h1,h2,_⟩
   ·cases h
   ·cases h;exact⟨h1,by unfold maxLen at h2;omega⟩
  refine⟨g,bl[i],sg,sc,rfl,e3,e2,Jw 0 _ rfl,(e4.lt sg rfl).2,Oc.1,Oc.2,((Zk.kept Kl.1).same (hb.kept Kl.1)).mono ?_⟩;rintro e u⟨rfl,Nn⟩
  by_cases Qy:i=j
  ·subst Qy;refine inr ⟨rfl,by rw[hj]at Up;exact(Option.some.inj Up).symm,by simp,Kl.2.1 (le_refl _),aC fun a1 c1=>?_⟩;have hz:=(heap_alloc u (.cells #[.slice (some ⟨sg,0,none⟩) 0 sc,.slice a1 0 c1] iP)).1;refine(EI (w:=(u.alloc (.cells #[.slice (some ⟨sg,0,none⟩) 0 sc,.slice a1 0 c1] iP)).drew) (q:=u.heap.size) ((aP hz 0).trans rfl) ((aP hz 1).trans rfl) (aB hz)).mono ?_;rintro e z⟨rfl,rfl⟩;exact⟨rfl,aC ⟨((Kl.1.trans Nn).alloc _).drew,ownsRow_nil _ _ _ _⟩⟩
  ·exact inl ⟨Qy,by rw[hd.2.2 i j Qy hi Mc],aC (Kl.on Nn Qy)⟩
 have hn:∀wr,Kn (fun _=>False) w wr->∃q m,wr.cell? ⟨b,2,none⟩=some (.slice q pl.length m):=by
  intro wr hk;obtain⟨pv,e1,e2⟩:=(hb.kept hk).row;rcases aD e2 with⟨rfl,h0⟩|⟨g,cap,rfl⟩
  ·exact⟨none,0,by rw[e1,h0]⟩
  ·exact⟨_,_,e1⟩
 have Kg:∀i v wr,xL w i v wr->i<pl.length->Calls prog 85 #[aA b,.int .i64 (i:Nat)] wr fun e u=>e=.returned gW/\u=wr/\∃v' u,(append_ #[iP,iP] iP #[v,.slice (some ⟨wr.heap.size,0,none⟩) 1 1]).run prog (wr.alloc (.cells #[gW] aH))=.ok v' u/\Hid (xL w (i+1) v' u):=by
  intro i v wr h hi;obtain⟨pv,e1,e2⟩:=(hb.kept h.1).row;obtain⟨g,cap,rfl,Jw⟩:=dI e2 (by omega);have Rn:pl[i]?=some pl[i]:=getElem?_eq_getElem hi;refine(TT e1 (e2.lt g rfl).2 (Jw i _ (by rw[getElem?_map,Rn];rfl)) ((hb.kept h.1).var _ (getElem_mem hi)) hi Nb).mono ?_;rintro e u⟨rfl,rfl⟩;exact⟨rfl,rfl,h.more (by omega)⟩
 have Rx:∀v wr,xL w pl.length v wr->∃va vn vc,v=.slice va vn vc/\∃v' u,(append_ #[mZ,mZ] mZ #[.slice none 0 0,.slice (some ⟨wr.heap.size,0,none⟩) 1 1]).run prog (wr.alloc (.cells #[.slice va vn vc] iP))=.ok v' u/\Hid (xK w j pl.length (j+1) v' u):=by
  intro v wr h;obtain⟨va,vn,vc,rfl⟩:∃va vn vc,v=.slice va vn vc:=by rcases aD h.2 with⟨rfl,_⟩|⟨g,cap,rfl⟩<;>exact⟨_,_,_,rfl⟩
  obtain⟨v',u',f1,f2,f3⟩:=RR.more (ty:=mZ) h.1 (RR.start _ _) (xs:=replicate pl.length gW) (by rw[List.length_replicate];exact rQ h.2) (by simp);exact⟨va,vn,vc,rfl,v',u',f1,aC ⟨f2,fun h=>by omega,fun _=>f3⟩⟩
 have Jp:∀v wr,xK w j pl.length bl.length v wr->∃a n c,v=.slice a n c/\Hid (Kn (fun _=>False) w wr/\RR w.heap.size wr (.slice a n c) [replicate pl.length gW]):=by
  intro v wr h;have h2:=h.2.2 Mc;obtain⟨a,c,rfl⟩:=h2.form;exact⟨_,_,_,rfl,aC ⟨h.1,h2⟩⟩
 have HS:=aC hs;have HN:=aC hn;have HIN:=aC Kg;have Pu:=aC Rx;have HF0:=aC Jp;have HK:=aC (show xK w j pl.length 0 (.slice none 0 0) w from⟨Kn.refl _ _,fun _=>rfl,fun h=>by omega⟩);have HVK:=aC (fun(i:Nat) (v:Value) (wr:World) (h:xL w i v wr)=>h.1);clear hs hn Kg Rx Jp hr hd hb hj;generalize bl.length=pn at *;generalize xK w j pl.length=LD at *;generalize hQ:(fun(v:Value) (u:World)=>Hid (Kn (fun _=>False) w u/\RR w.heap.size u v [replicate pl.length gW]))=QQ at *;have HF:Hid (∀v wr,LD pn v wr->∃a n c,v=.slice a n c/\QQ (.slice a n c) wr):=by rw[<- hQ];exact HF0
 have Z7:∀a n c u,QQ (.slice a n c) u->Hid (Kn (fun _=>False) w u/\RR w.heap.size u (.slice a n c) [replicate pl.length gW]):=fun a n c u h=>by rw[<- hQ]at h;exact h
 have HGO:=aC Z7;clear Z7 HF0 hQ;generalize xL w=LI at *;generalize pl.length=pm at *;unfold aA gW at *;go_enter func83,ntmps83;go_wp2_with fail
 go_loopg [7,15] pn (fun gk v7 v15 wr=>∃i:Nat,v15=.int .i64 (i:Nat)/\i+gk=pn/\Hid (LD i v7 wr))
 case atStart=>exact⟨0,rfl,by omega,HK⟩
 case round=>
  clear HK;obtain⟨i,rfl,hi,Kd⟩:=hrel
  by_cases Js:i<pn
  ·obtain⟨g,c,sa,sc,rfl,e1,e2,e3,e4,e5,e6,hc⟩:=HS.out _ _ _ Kd.out Js;have Jt:(i:Int)<(pn:Int):=by omega
   have HC:=aC hc;clear hc HS Kd HF;go_wp2_with fail;refine(HC.out).mono ?_;rintro e u (⟨Ju,rfl,HL⟩|⟨rfl,rfl,rfl,rfl,HL⟩)
   ·clear HC;go_wp2_with fail
    go_roundg (pn-(i+1))
    case rel=>exact⟨i+1,by simp,by omega,HL⟩
    case measure=>omega
   ·clear HC;have Li:sc=1\/¬sc=1:=Decidable.em _;rcases Li with rfl|Li
    all_goals
     go_wp2_with fail
     go_region_with ((with_reducible refine(HL.out _ _).mono ?_);rintro e z2⟨rfl,HZ⟩)
     obtain⟨q,m,d1⟩:=HN.out _ (HVK.out _ _ _ HZ.out);clear HL e1 e2 e3 e4 HN HVK;go_wp2_with fail;clear d1
     go_loopg [11,45] pm (fun gk v11 v45 wr=>∃k:Nat,v45=.int .i64 (k:Nat)/\k+gk=pm/\Hid (LI k v11 wr))
     case atStart=>exact⟨0,rfl,by omega,HZ⟩
     case round=>
      clear HZ;obtain⟨k,rfl,hk,Zv⟩:=hrel
      by_cases Mq:k<pm
      ·have F0:(k:Int)<(pm:Int):=by omega
       have HC:=aC (HIN.out _ _ _ Zv.out Mq);clear HIN Zv Pu;go_wp2_with fail;refine(HC.out).mono ?_;rintro e z⟨rfl,rfl,v',u',Jo,Nw⟩;have HR:=aC Jo;clear Jo HC
       go_wp2_with (at_builtin;refine aU rfl _ _ _ rfl (by simp[Act.eval,Act.put]) (by simp[Act.eval,Act.put]) HR.out ?_)
       go_roundg (pm-(k+1))
       case rel=>exact⟨k+1,by simp,by omega,Nw⟩
       case measure=>omega
      ·have Mj:k=pm:=by omega
       subst Mj;have F0:¬(k:Int)<(k:Int):=by omega
       obtain⟨va,vn,vc,rfl,v',u',Jo,Nw⟩:=Pu.out _ _ Zv.out;have HR:=aC Jo;clear Jo HIN Zv Pu
       go_wp2_with (at_builtin;refine aU rfl _ _ _ rfl (by simp[Act.eval,Act.put]) (by simp[Act.eval,Act.put]) HR.out ?_)
       go_roundg (pn-(i+1))
       case rel=>exact⟨i+1,by simp,by omega,Nw⟩
       case measure=>omega
  ·have Kg:i=pn:=by omega
   subst Kg;have Jt:¬(i:Int)<(i:Int):=by omega
   obtain⟨av,nv,cv,rfl,HQ⟩:=HF.out _ _ Kd.out;clear HS HF Kd;go_wp2;exact⟨rfl,_,(by simp[results,results83,go_sem]),_,_,_,rfl,HGO.out _ _ _ _ HQ⟩
end
end
section
open Go.RowKit
abbrev eP:TypeId:=36
abbrev vV(pb:Nat):Value:=.func (.func 12) #[aA pb] #[]
def aF.vars:aF 12:=enters func12 (by kernel_rfl) rfl
section
variable {w u:World}{nb mb pb:Nat}
def uS(w:World)(pb:Nat)(nm:Nm)(n:Nat):Prop:=∀u,Kn (fun _=>False) w u->Calls prog 12 #[aA pb,.string (bs nm)] u fun e v=>e=.returned (.int .i64 n)/\Kn (fun _=>False) u v
def uS.kept{nm:Nm}{n:Nat}(h:uS w pb nm n)(hk:Kn (fun _=>False) w u):uS u pb nm n:=fun v hv=>h v (hk.trans hv)
def Dif.kept{bl:List Nat}{nms:Nat->Nm}(h:Dif w bl nms)(hk:Kn (fun _=>False) w u):Dif u bl nms:=⟨h.1,fun i b hi=>(h.2.1 i b hi).imp fun _ h=>h.kept hk,h.2.2⟩
def QA{nm:Nm}{pl:List Nat}{n:Nat}(hc:FL w nb nm pl)(hv:uS w pb nm n):Calls prog 81 #[vV pb,aA nb] w fun e u=>e=.returned (.int .i64 n)/\Hid (Kn (fun _=>False) w u):=by
 have z0:=hc.c0;have z1:=hc.c1;have HC:=aC (hv w (Kn.refl _ _));have hE:=fun(args:Array Value) (w:World)=>aF.vars args w;clear hc hv;generalize bs nm=tx at *;unfold vV aA at *;go_enter func81,ntmps81;go_wp2_with fail;refine(HC.out).mono ?_;rintro e u⟨rfl,hk⟩;go_wp2;exact⟨rfl,_,(by simp[results,results81,go_sem]),rfl,aC hk⟩
def wU{v:Value}{bl:List Nat}{B:Nat}{nms:Nat->Nm}(hr:RR B w v (bl.map fun b=>[aA b]))(hd:Dif w bl nms)(hn:0<bl.length)(hv:uS w pb (nms 0) bl.length) :
  Calls prog 53 #[vV pb,v,.int .i64 0] w fun e u=>e=.returned (.bool true)/\Hid (Kn (fun _=>False) w u):=by
 obtain⟨va,vc,rfl⟩:=hr.form;rw[length_map];have hl:=hd.1
 have hA:Calls prog 80 #[.slice va bl.length vc,.int .i64 0] w fun e u=>∃g b c,e=.returned (.slice (some ⟨g,0,none⟩) bl.length c)/\u.cell? ⟨g,0,none⟩=some (aA b)/\g<u.heap.size/\Calls prog 81 #[vV pb,aA b] u fun e u2=>e=.returned (.int .i64 bl.length)/\∃LD:World->Prop,Hid (LD u2) /\
   (∀wr i,LD wr->i<bl.length->∃b,wr.cell? ⟨g,i,none⟩=some (aA b)/\g<wr.heap.size/\Calls prog 83 #[.slice va bl.length vc,.int .i64 0,aA b] wr fun e z=>∃a n c,e=.returned (.slice a n c)/\Calls prog 23 #[vV pb,.slice a n c] z fun e y=>e=.returned (.bool true)/\Hid (LD y))/\∀wr,LD wr->Hid (Kn (fun _=>False) w wr):=by
  have h0:=EW hr hd;rw[length_map]at hr;rw[length_map]at h0;refine h0.mono ?_;rintro e u⟨a,n,c,rfl,hq⟩;obtain⟨hk,Jn⟩:=hq.out;obtain⟨g,cap,e,Jw⟩:=dI Jn (by omega);cases e;have Ps:bl[0]?=some bl[0]:=getElem?_eq_getElem hn;obtain⟨pl0,Nh⟩:=hd.2.1 0 _ Ps;refine⟨g,bl[0],c,rfl,Jw 0 _ (by rw[getElem?_map,Ps];rfl),(Jn.lt g rfl).2,(QA (Nh.kept hk) (hv.kept hk)).mono ?_⟩;rintro e u2⟨rfl,Jy⟩;refine⟨rfl,fun wr=>Kn (fun _=>False) w wr/\Kn (fun _=>False) u wr,aC ⟨hk.trans Jy.out,Jy.out⟩,?_,fun wr h=>aC h.1⟩;rintro wr i⟨Nq,Nn⟩ hi;have Up:bl[i]?=some bl[i]:=getElem?_eq_getElem hi;have A2:=fI Nn (fun _=>id) Jn;obtain⟨pl,Zk⟩:=hd.2.1 i _ Up;have Y7:=tW (hr.kept Nq) (hd.kept Nq) Up (Zk.kept Nq);refine⟨bl[i],?_,(A2.lt g rfl).2,Y7.mono ?_⟩
  ·have:=(dI A2 (by omega));obtain⟨g2,cap2,e,Zl⟩:=this;cases e;exact Zl i _ (by rw[getElem?_map,Up];rfl)
  ·rintro e z⟨a,n,c,rfl,hz⟩;refine⟨a,n,c,rfl,(zZ hz.out.2 Zk.len).mono ?_⟩;rintro e y⟨rfl,rfl⟩;exact⟨rfl,aC ⟨Nq.trans hz.out.1,Nn.trans hz.out.1⟩⟩
 have HC:=aC hA;clear hA hr hd hv;generalize bl.length=n at *;have P3:¬((n:Int)<(n:Int)):=by omega
 have Te:0<n:=hn;generalize Kn (fun _=>False) w=KK at *;unfold vV aA at *;go_enter func53,ntmps53;go_wp2_with fail;refine(HC.out).mono ?_;rintro e u⟨g,b,c,rfl,e1,e2,hc⟩;have HC:=aC hc;clear hc;go_wp2_with fail;refine(HC.out).mono ?_;rintro e u2⟨rfl,LD,HL,Jz,Rx⟩;have Km:=aC Jz;have Pu:=aC Rx;clear Jz Rx HC e1 e2;go_wp2_with fail
 go_loopg [28] n (fun gk v28 wr=>∃i:Nat,v28=.int .i64 (i:Nat)/\i+gk=n/\Hid (LD wr))
 case atStart=>exact⟨0,rfl,by omega,HL⟩
 case round=>
  clear HL;obtain⟨i,rfl,hi,Kd⟩:=hrel
  by_cases Js:i<n
  ·obtain⟨b',e1,e2,hc⟩:=Km.out _ _ Kd.out Js;have Jt:(i:Int)<(n:Int):=by omega
   have HC:=aC hc;clear hc Km Pu Kd;go_wp2_with fail;refine(HC.out).mono ?_;rintro e z⟨a,m,c,rfl,hc⟩;have HC:=aC hc;clear hc;go_wp2_with fail;refine(HC.out).mono ?_;rintro e y⟨rfl,HL⟩;clear HC;go_wp2_with fail
   go_roundg (n-(i+1))
   case rel=>exact⟨i+1,by simp,by omega,HL⟩
   case measure=>omega
  ·have Jt:¬(i:Int)<(n:Int):=by omega
   have HQ:=Pu.out _ Kd.out;clear Km Pu Kd;go_wp2;exact⟨rfl,_,(by simp[results,results53,go_sem]),rfl,HQ⟩
def JA{v:Value}{bl:List Nat}{B:Nat}{nms:Nat->Nm}(hr:RR B w v (bl.map fun b=>[aA b]))(hd:Dif w bl nms)(hn:0<bl.length)(hv:uS w pb (nms 0) bl.length) :
  Calls prog 23 #[vV pb,v] w fun e u=>e=.returned (.bool true)/\Hid (Kn (fun _=>False) w u):=by
 have HA:=aC (wU hr hd hn hv);have Ps:bl[0]?=some bl[0]:=getElem?_eq_getElem hn;obtain⟨g,c,a,n,c',rfl,hg,hc,ho,Ld⟩:=hr.at (i:=0) (xs:=[aA bl[0]]) (by rw[getElem?_map,Ps];rfl);have HI:=aC (PB ho);have hl:=hd.1;clear ho hr hd hv Ps Ld;rw[length_map]at *;generalize bl.length=m at *;have z1:((m:Int)==0)=false:=by simp;omega
 have z2:¬((m:Int)=0):=by omega
 have z3:0<m:=hn;generalize Kn (fun _=>False) w=KK at *;unfold PT at *;go_enter func23,ntmps23;go_wp2_with fail;refine(HI.out).mono ?_;rintro e u⟨rfl,rfl⟩;clear HI;go_wp2_with fail;refine(HA.out).mono ?_;rintro e u⟨rfl,HQ⟩;go_wp2;exact⟨rfl,_,(by simp[results,results23,go_sem]),rfl,HQ⟩
end
end
section
open Go.RowKit
section
variable {w u:World}{nb mb pb:Nat}
def Kn.CC{D:Nat->Prop}{a v:World}(h:Kn D a v){p:Addr}(hp:a.heap.size<=p.block)(x:Value):Kn D a (v.setCell p x):=
 ⟨h.os,h.tape,h.output,by have:=h.size;simpa [World.setCell]using this,fun k hk hd=>by
  rw[Below.heap_setCell _ _ _ _ (by omega)];exact h.block k hk hd⟩
def LG{b:Nat}{nm:Nm}{ps:List Nd}{e:Nd}(h:AB w (.mk 16 [] [.mk 14 nm ps,e]) b)(hv:∀p∈ps,p.k=3)(hl:ps.length<=1000):∃g c p pl,w.cell? ⟨b,2,none⟩=some (.slice (some ⟨g,0,none⟩) 2 c)/\w.cell? ⟨g,0,none⟩=some (aA p)/\g<w.heap.size/\FL w p nm pl:=by
 obtain⟨pv,bl,n1,n2,n3⟩:=h.inv;have Jm:=n3.len;rw[length_cons,length_cons,length_nil]at Jm;obtain⟨p,hp,hm⟩:=n3.at (i:=0) rfl;obtain⟨pl,hc,_⟩:=FL.of hm hv hl;obtain⟨g,c,rfl,Jw⟩:=dI n2 (by omega);exact⟨g,c,p,pl,by rw[aP n1 2,Jm];rfl,Jw 0 _ (by rw[getElem?_map,hp];rfl),(n2.lt g rfl).2,hc⟩
structure Iw(w w2:World)(bl:List Nat)(i:Nat)(v:Value)(wr:World):Prop where
 kn:Kn (fun _=>False) w wr
 k2:Kn (fun _=>False) w2 wr
 row:wr.ownsRow w2.heap.size aH 1 v i ((bl.take i).map aA)
def XO{sc e1 e2:Nd}{n1 n2:Nm}{ps1 ps2:List Nd}(h:AB w (.mk 15 [] [sc,.mk 16 [] [.mk 14 n1 ps1,e1],.mk 16 [] [.mk 14 n2 ps2,e2]]) nb)(hk:sc.k<=15)(Rs:∀p∈ps1,p.k=3)(Qu:∀p∈ps2,p.k=3)(Si:ps1.length<=1000)(Mb:ps2.length<=1000)(Ju:(n1==n2)=false)(hv:uS w pb n1 2) :
  Calls prog 11 #[aA nb,vV pb] w fun e u=>e=.returned (.agg #[.bool false,.slice none 0 0])/\Hid (Kn (fun _=>False) w u):=by
 obtain⟨w2,Qc⟩:∃w2,w2=(w.alloc (.cells #[.bool false,.slice none 0 0] eP)).alloc (.cells #[.bool false,.slice none 0 0] eP):=⟨_,rfl⟩;have Za:Kn (fun _=>False) w w2:=by rw[Qc];exact((Kn.refl _ w).alloc _).alloc _
 have Ke:w2.heap.size=w.heap.size+2:=by rw[Qc];simp
 have Kz:w2.heap[w.heap.size+1]?=some (.cells #[.bool false,.slice none 0 0] eP (0,0)):=by
  rw[Qc];have:=(heap_alloc (w.alloc (.cells #[.bool false,.slice none 0 0] eP)) (.cells #[.bool false,.slice none 0 0] eP)).1
  simpa using this
 have Ps:w2.heap[w.heap.size]?=some (.cells #[.bool false,.slice none 0 0] eP (0,0)):=by
  rw[Qc,Below.heap_alloc _ _ _ (by simp)];exact(heap_alloc w _).1
 have Kg:∀k,k<w.heap.size->w2.heap[k]?=w.heap[k]?:=fun k hk=>Za.block k hk id;have Ly:AB w2 (.mk 15 [] [sc,.mk 16 [] [.mk 14 n1 ps1,e1],.mk 16 [] [.mk 14 n2 ps2,e2]]) nb:=AB.kept (fun k _ _ hc=>Kg k (aB hc)) (fun k _ _ hc=>Kg k (aB hc)) _ _ h;have hO:=jK (kk:=16) Ly (by simp) (fun p hp=>by simp at hp;rcases hp with rfl|rfl|rfl<;>first|omega|(show 16<=1000;decide)) (by decide)
 have Uk:(n2==n1)=false:=by
  cases h2:(n2==n1)with
  |false=>rfl
  |true=>rw[eq_of_beq h2]at Ju;simp at Ju
 have hon:only 16 [sc,.mk 16 [] [.mk 14 n1 ps1,e1],.mk 16 [] [.mk 14 n2 ps2,e2]]=[.mk 16 [] [.mk 14 n1 ps1,e1],.mk 16 [] [.mk 14 n2 ps2,e2]]:=by
  have:(sc.k==16)=false:=by simp;omega
  simp[only,List.filter,this,Nd.k]
 rw[hon]at hO
 have hA:Calls prog 21 #[aA nb,.int .i64 16] w2 fun e u=>∃g c,e=.returned (.slice (some ⟨g,0,none⟩) 2 c)/\∃LD:Nat->Value->World->Prop,Hid (LD 0 (.slice none 0 0) u) /\
   (∀i v wr,LD i v wr->i<2->∃a g2 c2 p,wr.cell? ⟨g,i,none⟩=some (aA a)/\g<wr.heap.size/\wr.cell? ⟨a,2,none⟩=some (.slice (some ⟨g2,0,none⟩) 2 c2)/\wr.cell? ⟨g2,0,none⟩=some (aA p)/\g2<wr.heap.size/\Calls prog 22 #[aA p] wr fun e u=>e=.returned (aA p)/\Calls prog 24 #[aA p,v] u fun e u=>e=.returned (.slice none 0 0)/\Calls prog 23 #[vV pb,.slice none 0 0] u fun e y=>e=.returned (.bool false) /\
    ∃v' u',(append_ #[41,41] 41 #[v,.slice (some ⟨y.heap.size,0,none⟩) 1 1]).run prog (y.alloc (.cells #[aA p] aH))=.ok v' u'/\Hid (LD (i+1) v' u')) /\
   ∀v wr,LD 2 v wr->Calls prog 24 #[gW,v] wr fun e u=>∃a n c,e=.returned (.slice a n c)/\Calls prog 23 #[vV pb,.slice a n c] u fun e y=>e=.returned (.bool true)/\Hid (Kn (fun _=>False) w2 y):=by
  refine hO.mono ?_;rintro e u⟨a,n,c,rfl,l,Jr,Pq,Nn⟩;have Rf:=Pq.len;rw[show ([.mk 16 [] [.mk 14 n1 ps1,e1],.mk 16 [] [.mk 14 n2 ps2,e2]]:List Nd).length=2 from rfl]at Rf;obtain⟨g,cap,e,Jw⟩:=dI Jr (by omega);cases e;obtain⟨a1,Uq,Sr⟩:=Pq.at (i:=0) rfl;obtain⟨a2,Qp,Ly⟩:=Pq.at (i:=1) rfl;obtain⟨g1,c1,p1,pl1,q1,q2,q3,q4⟩:=LG Sr Rs Si;obtain⟨g2,c2,p2,pl2,r1,r2,r3,r4⟩:=LG Ly Qu Mb
  have hdif:Dif u [p1,p2] (fun i=>if i=0 then n1 else n2):=by
   refine⟨by simp,fun i b hi=>?_,fun i j Qy hi hj=>?_⟩
   ·match i,hi with
    |0,hi=>cases hi;exact⟨pl1,q4⟩
    |1,hi=>cases hi;exact⟨pl2,r4⟩
   ·simp only[length_cons,length_nil]at hi hj
    match i,j,hi,hj,Qy with
    |0,1,_,_,_=>exact Ju
    |1,0,_,_,_=>exact Uk
    |0,0,_,_,h=>exact absurd rfl h
    |1,1,_,_,h=>exact absurd rfl h
  have hfr:∀i,i<2->∃a g2 c2 p nm pl,u.cell? ⟨g,i,none⟩=some (aA a)/\u.cell? ⟨a,2,none⟩=some (.slice (some ⟨g2,0,none⟩) 2 c2)/\u.cell? ⟨g2,0,none⟩=some (aA p)/\g2<u.heap.size/\[p1,p2][i]?=some p/\FL u p nm pl/\(i=1->nm=n2):=fun i hi=>by
   match i,hi with
   |0,_=>exact⟨a1,g1,c1,p1,n1,pl1,Jw 0 _ (by rw[getElem?_map,Uq];rfl),q1,q2,q3,rfl,q4,fun h=>by omega⟩
   |1,_=>exact⟨a2,g2,c2,p2,n2,pl2,Jw 1 _ (by rw[getElem?_map,Qp];rfl),r1,r2,r3,rfl,r4,fun _=>rfl⟩
  rw[Rf];refine⟨g,_,rfl,fun i v wr=>Iw u u [p1,p2] i v wr,aC ⟨Kn.refl _ _,Kn.refl _ _,ownsRow_nil _ _ _ _⟩,?_,?_⟩
  ·rintro i v wr Kl hi;obtain⟨a,g2,c2,p,nm,pl,s1,s2,s3,s4,s5,s6,s7⟩:=hfr i hi;have hk:=Kl.kn;refine⟨a,g2,c2,p,hk.cell id s1,lt_of_lt_of_le (Jr.lt g rfl).2 hk.size,hk.cell id s2,hk.cell id s3,lt_of_lt_of_le s4 hk.size,(QM (hk.cell id s6.c0)).mono ?_⟩;rintro e z⟨rfl,rfl⟩;have Js:([p1,p2].take i).length=i:=by simp;omega
   refine⟨rfl,(rO (bl:=[p1,p2].take i) (by rw[Js];exact rQ Kl.row) (by omega) fun b hb y hy=>?_).mono ?_⟩
   ·match i,hi with
    |0,_=>simp at hb
    |1,_=>
     simp at hb;subst hb;have hn:=s7 rfl;subst hn;have hx:=hk.trans hy;refine(FO (hx.cell id s6.c0) (hx.cell id q4.c0) (hx.cell id s6.c1) (hx.cell id q4.c1) (by rw[MD];exact Uk)).mono ?_;rintro e v⟨rfl,h⟩;exact⟨rfl,h⟩
   ·rintro e y⟨rfl,hy⟩;refine⟨rfl,(EC _ y).mono ?_⟩;rintro e y2⟨rfl,rfl⟩;obtain⟨v',u',f1,f2,f3,_⟩:=XB (z:=aA p) (ty:=41) (hk.trans hy) (fI hy (fun _=>id) Kl.row) (by omega) underlying41 infoPtr (by decide) rfl rfl;refine⟨rfl,v',u',f1,aC ⟨f2,f2,?_⟩⟩;rw[take_add_one,s5,map_append];exact f3
  ·rintro v wr Kl;refine(rP (bl:=[p1,p2]) (rQ Kl.row) (by simp)).mono ?_;rintro e z⟨a,n,c,rfl,Vt,Uy⟩;have Vb:=Kl.kn.trans Vt;refine⟨a,n,c,rfl,(JA Uy (hdif.kept Vb) (by simp) ((hv.kept (Za.trans Nn)).kept Vb)).mono ?_⟩;rintro e y⟨rfl,J7⟩;exact⟨rfl,aC ((Nn.trans Vb).trans J7.out)⟩
 have Jp:∀y,Kn (fun _=>False) w2 y->y.cell? ⟨w.heap.size+1,0,none⟩=some (.bool false)/\y.cell? ⟨w.heap.size+1,1,none⟩=some (.slice none 0 0)/\y.cell? ⟨w.heap.size,0,none⟩=some (.bool false)/\y.cell? ⟨w.heap.size,1,none⟩=some (.slice none 0 0)/\y.frozen? ⟨w.heap.size+1,0,none⟩=false/\y.frozen? ⟨w.heap.size,0,none⟩=false/\y.frozen? ⟨w.heap.size,1,none⟩=false:=fun y hy=>
  ⟨hy.cell id ((aP Kz 0).trans rfl),hy.cell id ((aP Kz 1).trans rfl),hy.cell id ((aP Ps 0).trans rfl),hy.cell id ((aP Ps 1).trans rfl),cP ((hy.block _ (aB Kz) id).trans Kz) 0,cP ((hy.block _ (aB Ps) id).trans Ps) 0,cP ((hy.block _ (aB Ps) id).trans Ps) 1⟩
 have HC:=aC hA;have HF:=aC Jp;have HW:=aC Qc;have HK:=aC Za;clear hA Jp h Ly hO hon hv Rs Qu Kg Ps Kz Qc Za Ju Uk;unfold vV gW aA at *;go_enter func11,ntmps11;go_wp2_with fail;rw[show ((w.alloc (Obj.cells #[Value.bool false,slice none 0 0] eP)).alloc (Obj.cells #[Value.bool false,slice none 0 0] eP))=w2 from HW.out.symm];refine(HC.out).mono ?_;rintro e u⟨g,c,rfl,LD,HL,Jz,Rx⟩;have Km:=aC Jz;have Pu:=aC Rx;clear Jz Rx HC HW;go_wp2_with fail
 go_loopg [6,13] 2 (fun gk v6 v13 wr=>∃i:Nat,v13=.int .i64 (i:Nat)/\i+gk=2/\Hid (LD i v6 wr))
 case atStart=>exact⟨0,rfl,rfl,HL⟩
 case round=>
  clear HL;obtain⟨i,rfl,hi,Kd⟩:=hrel
  by_cases Js:i<2
  ·obtain⟨a,g2,c2,p,d1,d2,d3,d4,d5,hc⟩:=Km.out _ _ _ Kd.out Js;have Jt:(i:Int)<2:=by omega
   have HC:=aC hc;clear hc Km Pu Kd HF HK;go_wp2_with fail;refine(HC.out).mono ?_;rintro e z⟨rfl,hc⟩;have HC:=aC hc;clear hc;go_wp2_with fail;refine(HC.out).mono ?_;rintro e z⟨rfl,hc⟩;have HC:=aC hc;clear hc;go_wp2_with fail;refine(HC.out).mono ?_;rintro e y⟨rfl,v',u',Jo,HL⟩;have HR:=aC Jo;clear Jo HC
   go_wp2_with (at_builtin;refine aU rfl _ _ _ rfl (by simp[Act.eval,Act.put]) (by simp[Act.eval,Act.put]) HR.out ?_)
   go_roundg (2-(i+1))
   case rel=>exact⟨i+1,by simp,by omega,HL⟩
   case measure=>omega
  ·have Kg:i=2:=by omega
   subst Kg;have HC:=aC (Pu.out _ _ Kd.out);clear Km Pu Kd;go_wp2_with fail;refine(HC.out).mono ?_;rintro e z⟨a,m,c',rfl,hc⟩;have HC:=aC hc;clear hc;go_wp2_with fail;refine(HC.out).mono ?_;rintro e y⟨rfl,HQ⟩;obtain⟨f1,f2,f3,f4,f5,f6,f7⟩:=HF.out _ HQ.out;clear HC HF;have HG:=aC (HK.out.trans HQ.out);clear HQ HK;go_wp2_with fail;exact⟨rfl,_,(by simp[results,results11,go_sem,f1,f2,f3,f4]),rfl,aC (((HG.out.CC (p:=⟨w.heap.size+1,0,none⟩) (Nat.le_succ _) _).CC (p:=⟨w.heap.size,0,none⟩) (le_refl _) _).CC (p:=⟨w.heap.size,1,none⟩) (le_refl _) _)⟩
end
end
section
open Go.RowKit
section
variable {w:World}{ad:List Nat}{tb pb:Nat}{A:Env}{m:Mg}{nm:Nm}{dv bv:Value}
def MW(s:ByteArray)(a1:Option Addr)(n1 c1:Nat)(a2:Option Addr)(n2 c2:Nat)(i:Int)(u:World):(Instr.field 82 (.agg #[.string s,.slice a1 n1 c1,.slice a2 n2 c2,.int .i64 i]) 3).run prog u=.ok (.int .i64 i) u:=by
 simp[Instr.field,run_underlying underlying82,go_sem,asAgg]
def xM(hp:w.heap[pb]?=some (.cells #[dv,bv,.map (some tb)] jW (0,0)))(ht:Tab ad tb A w)(hx:cL (1,nm))(hg:A.get (1,nm)=some m) :
  Calls prog 12 #[aA pb,.string (bs nm)] w fun e u=>e=.returned (.int .i64 m.vr.sibs)/\Kn (fun _=>False) w u:=by
 obtain⟨n,f,hm,hf⟩:=ht
 obtain⟨v,Yl,lv,pv,pbl,hv,_,Sq,Nf,Re⟩:∃v,f (1,nm)=some v/\fE ad w m v:=by
  rcases hf _ hx with⟨h1,_⟩|⟨m',v,h1,h2,h3⟩
  ·rw[hg]at h1;cases h1
  ·rw[hg]at h1;cases h1;exact⟨v,h2,h3⟩
 have Kt:∀{t:TypeId}{v:Value}{k:Nat}{xs:List Value},w.ownsRow 0 t 1 v k xs->∃a c,v=.slice a k c:=fun {t v k xs} ho=>by
  rcases aD ho with⟨h,h0⟩|⟨g,cap,h⟩
  ·exact⟨none,0,by rw[h,h0]⟩
  ·exact⟨_,cap,h⟩
 obtain⟨a1,k1,rfl⟩:=Kt Sq;obtain⟨a2,k2,rfl⟩:=Kt Nf
 obtain⟨sp,Sw⟩:∃sp,SW ad m.scheme=.pointer sp:=by
  cases m.scheme with
  |none=>exact⟨none,rfl⟩
  |some t=>exact⟨some _,rfl⟩
 rw[Sw]at hv;subst hv
 have Qg:∀u,Kn (fun _=>False) w u->u.cell? ⟨pb,2,none⟩=some (.map (some tb))/\(Instr.lookup dA (.map (some tb)) (.agg #[.int .i64 1,.string (bs nm)]) false).run prog u=.ok (.agg #[.pointer sp,.string (bs m.vr.data),.slice a1 m.vr.AE.length k1,.slice a2 pbl.length k2,.int .i64 m.vr.sibs,.int .i64 m.AE]) u/\Hid (Kn (fun _=>False) w u):=fun u hu=>by
  have hl:=jE (hm.kept (hu.block tb hm.lt id)) hx false;rw[Yl]at hl;refine⟨?_,by simpa using hl,aC hu⟩;simp[cell?,hu.block pb (aB hp) id,hp]
 have hK:=fun(u:World)=>lY (bs nm) u;have Kv:∀u o u',Kn (fun _=>False) w u->u'=World.alloc u o->Kn (fun _=>False) w u':=fun u o u' hu e=>by rw[e];exact hu.alloc _
 have HO:=aC Qg;have HK:=aC hK;have Ni:=aC Kv;have Mi:=aC (Kn.AH w);clear Qg hK Kv hp hm hf Yl Sq Nf Re Kt hx hg;generalize (m.vr.sibs:Int)=sb at *;generalize (m.AE:Int)=lt at *;generalize Kn (fun _=>False) w=V at *;generalize bs nm=tx at *;generalize bs m.vr.data=dt at *;generalize m.vr.AE.length=ln at *;generalize pbl.length=pn at *;have T0:=fun u=>vE sp dt a1 ln k1 a2 pn k2 sb lt u;have hfld3:=fun u=>MW dt a1 ln k1 a2 pn k2 sb u;obtain⟨c0a,lka,_⟩:=HO.out _ Mi.out;unfold aA at *;go_enter func12,ntmps12;go_wp2_with fail
 go_region_held3 (fun w'=>w'.cell? ⟨pb,2,none⟩=some (.map (some tb))/\(Instr.lookup dA (.map (some tb)) (.agg #[.int .i64 1,.string tx]) false).run prog w'=.ok (.agg #[.pointer sp,.string dt,.slice a1 ln k1,.slice a2 pn k2,.int .i64 sb,.int .i64 lt]) w'/\Hid (V w'))
  (first|with_reducible exact⟨c0a,lka,Mi⟩)
  (first|(go_at_call 25;refine(HK.out _).mono ?_;rintro e u⟨rfl,hu⟩;have Mi:=aC (Ni.out _ _ _ Mi.out hu);obtain⟨c0a,lka,_⟩:=HO.out _ Mi.out;clear hu))
 all_goals
  go_wp2;exact⟨rfl,_,(by simp[results,results12,go_sem]),rfl,Mi.out⟩
end
end
section
open Go.RowKit Go.Shelf
abbrev kH:TypeId:=27
def NC:prog.underlying kH=some (.slice eP):=by kernel_rfl
def VA:(prog.info? eP).map (fun i=>(i.zero,i.size,i.bytes))=some (some (.agg #[.bool false,.slice none 0 0]),2,32):=by kernel_rfl
def mrow:Nat->List Value
 |0=>[]
 |k+1=>mrow k++[.bool false,.slice none 0 0]
def mts(l:List Nd):Nat:=(l.filter fun n=>n.k==15).length
def Hi(x:Nd):Bool:=match x with
 |.mk 15 [] [sc,.mk 16 [] [.mk 14 n1 ps1,_],.mk 16 [] [.mk 14 n2 ps2,_]]=>decide (sc.k<=15) && ps1.all (fun p=>p.k==3) && ps2.all (fun p=>p.k==3) && decide (ps1.length<=1000) && decide (ps2.length<=1000) && !(n1==n2) && n1==[78,105,108]
 |_=>false
section
variable {w W:World}{nb pb:Nat}
def Df{x:Nd}(h:AB w x nb)(hb:Hi x=true)(hv:uS w pb [78,105,108] 2):Calls prog 11 #[aA nb,vV pb] w fun e u=>e=.returned (.agg #[.bool false,.slice none 0 0])/\Hid (Kn (fun _=>False) w u):=by
 unfold Hi at hb;split at hb
 ·simp only[and_eq_true,decide_eq_true_eq,Bool.not_eq_true',beq_iff_eq]at hb;obtain⟨⟨⟨⟨⟨⟨h1,h2⟩,h3⟩,h4⟩,h5⟩,h6⟩,rfl⟩:=hb;exact XO h h1 (fun p hp=>by simpa using List.all_eq_true.1 h2 p hp) (fun p hp=>by simpa using List.all_eq_true.1 h3 p hp) h4 h5 h6 hv
 ·cases hb
def tZ{base n:Nat}{v:Value}{xs:List Value}(Jr:w.ownsRow base eP 2 v n xs)(hn:n<=1000)(hb:base<=w.heap.size) :
  ∃v' w',(append_ #[kH,kH] kH #[v,.slice (some ⟨w.heap.size,0,none⟩) 1 1]).run prog (w.alloc (.cells #[.bool false,.slice none 0 0] eP))=.ok v' w'/\w'.ownsRow base eP 2 v' (n+1) (xs++[.bool false,.slice none 0 0])/\(w.alloc (.cells #[.bool false,.slice none 0 0] eP)).grownBy w' v.ownBlock:=by
 obtain⟨i0,hi,Og,Lz,Nj⟩:=info_parts VA;obtain⟨v',w',hr,Nf,Pe,_⟩:=run_append_own (P:=prog) (w.alloc (.cells #[.bool false,.slice none 0 0] eP)) base kH kH eP i0 (.agg #[.bool false,.slice none 0 0]) 2 32 NC hi Og Lz Nj rfl (by decide) v n xs (Jr.alloc _) ⟨w.heap.size,0,none⟩ 1 1 [.bool false,.slice none 0 0] rfl (fun j u hj=>fK rfl (by simpa using hj)) (by intro u hu;simp at hu;rcases hu with rfl|rfl<;>rfl) (by unfold maxLen;omega) (by omega) (by simp;omega);exact⟨v',w',hr,Nf,Pe⟩
structure Dd(u:World)(pb k:Nat)(W:World):Prop where
 kn:Kn (fun _=>False) u W
 b1:W.cell? ⟨u.heap.size,0,none⟩=some (aA pb)
 bx:∃v,Boxed W (u.heap.size+1) kH v/\W.ownsRow (u.heap.size+1) eP 2 v k (mrow k)
 sz:u.heap.size+2<=W.heap.size
def Dd.on{u:World}{k:Nat}{V:World}(h:Dd u pb k W)(hk:∀(q:Nat)(c:Array Value)(T:TypeId)(f:Nat×Nat),W.heap[q]?=some (.cells c T f)->V.heap[q]?=W.heap[q]?)(hn:Kn (fun _=>False) u V)(hs:W.heap.size<=V.heap.size):Dd u pb k V:=by
 obtain⟨v,h1,h2⟩:=h.bx;refine⟨hn,?_,⟨v,(hk _ _ _ _ h1).trans h1,aE h2 fun q c f _ hc=>hk q c _ f hc⟩,le_trans h.sz hs⟩;have hb:=h.b1;unfold cell? at hb ⊢
 cases hq:W.heap[u.heap.size]? with
 |none=>rw[hq]at hb;cases hb
 |some o=>
  rw[hq]at hb
  cases o with
  |cells c T f=>rw[hk _ _ _ _ hq,hq];exact hb
  |_=>cases hb
def UH{u:World}{k:Nat}{x:Nd}{b:Nat}(h:Dd u pb k W)(hm:AB W x b)(hk:k<=1000)(hv:uS u pb [78,105,108] 2)(h15:x.k=15->Hi x=true) :
  ∃va vn vc,W.cell? ⟨u.heap.size+1,0,none⟩=some (.slice va vn vc)/\W.cell? ⟨u.heap.size,0,none⟩=some (aA pb)/\W.cell? ⟨b,0,none⟩=some (.int .i64 x.k) /\
   (x.k=15->Calls prog 11 #[aA b,vV pb] W.drew fun e z=>e=.returned (.agg #[.bool false,.slice none 0 0])/\z.cell? ⟨u.heap.size+1,0,none⟩=some (.slice va vn vc)/\z.cell? ⟨u.heap.size,0,none⟩=some (aA pb)/\(z.alloc (.cells #[.bool false,.slice none 0 0] eP)).cell? ⟨u.heap.size+1,0,none⟩=some (.slice va vn vc)/\(z.alloc (.cells #[.bool false,.slice none 0 0] eP)).cell? ⟨u.heap.size,0,none⟩=some (aA pb) /\
    ∃g n' c' w1,(append_ #[kH,kH] kH #[.slice va vn vc,.slice (some ⟨z.heap.size,0,none⟩) 1 1]).run prog (z.alloc (.cells #[.bool false,.slice none 0 0] eP))=.ok (.slice (some ⟨g,0,none⟩) n' c') w1/\w1.cell? ⟨u.heap.size+1,0,none⟩=some (.slice va vn vc)/\w1.frozen? ⟨u.heap.size+1,0,none⟩=false /\
     Hid (KeepsOthers W (w1.setCell ⟨u.heap.size+1,0,none⟩ (.slice (some ⟨g,0,none⟩) n' c'))/\fD W (w1.setCell ⟨u.heap.size+1,0,none⟩ (.slice (some ⟨g,0,none⟩) n' c'))/\Dd u pb (k+1) (w1.setCell ⟨u.heap.size+1,0,none⟩ (.slice (some ⟨g,0,none⟩) n' c')))):=by
 obtain⟨v,Lw,Jn⟩:=h.bx
 obtain⟨va,vn,vc,rfl⟩:∃a n c,v=.slice a n c:=by
  rcases aD Jn with⟨rfl,_⟩|⟨g,cap,rfl⟩<;>exact⟨_,_,_,rfl⟩
 have Kz:=h.b1;refine⟨va,vn,vc,Lw.cell,Kz,?_,fun hk15=>?_⟩
 ·obtain⟨q1,q2,q3⟩:=x;obtain⟨_,_,n1,_,_⟩:=hm.inv;simp[cell?,n1]
 ·refine(Df (w:=W.drew) (AB.kept (w:=W) (w':=W.drew) (fun _ _ _ _=>rfl) (fun _ _ _ _=>rfl) _ _ hm) (h15 hk15) (hv.kept h.kn.drew)).mono ?_;rintro e z⟨rfl,hz⟩;have Vt:Kn (fun _=>False) W z:=(Kn.AH W).trans hz.out;have Ke:=h.sz;have t7:z.ownsRow (u.heap.size+1) eP 2 (.slice va vn vc) k (mrow k):=aE Jn fun q c f _ hc=>Vt.block q (aB hc) id;have c8:Boxed z (u.heap.size+1) kH (.slice va vn vc):=(Vt.block _ Lw.lt id).trans Lw;have Sf:u.heap.size+1<=z.heap.size:=by have:=Vt.size;omega
  obtain⟨v',w1,f1,f2,f3⟩:=tZ t7 hk Sf;obtain⟨g,c',rfl⟩:=ownsRow_succ f2;obtain⟨p1,p2,p3,p4,p5⟩:=c8.appended (by decide) t7 Sf (le_refl _) f2 f3;have hza:Kn (fun _=>False) z (z.alloc (.cells #[.bool false,.slice none 0 0] eP)):=(Kn.refl _ z).alloc _;have Y3:=Vt.cell id Kz
  have R0:Kn (fun _=>False) u (w1.setCell ⟨u.heap.size+1,0,none⟩ (.slice (some ⟨g,0,none⟩) (k+1) c')):=by
   have ha:=h.kn.trans Vt;exact⟨p5.os.trans ha.os,p5.tape.trans ha.tape,p5.output.trans ha.output,le_trans ha.size p5.size,fun q hq _=>(p5.block q (by omega)).trans (ha.block q hq id)⟩
  refine⟨rfl,c8.cell,Y3,hza.cell id c8.cell,hza.cell id Y3,g,k+1,c',w1,f1,p1.cell,p1.frozen,aC ⟨?_,?_,R0,?_,⟨_,p2,p3⟩,le_trans Ke (le_trans Vt.size p4.size)⟩⟩
  ·exact⟨le_trans Vt.size p4.size,fun q o ho hc=>p4.same q o ((Vt.block q (aB ho) id).trans ho) hc⟩
  ·refine⟨le_trans Vt.size p4.size,fun q c t f ht hc=>?_⟩;have T4:=(Vt.block q (aB hc) id).trans hc
   rw[Below.heap_setCell _ _ _ _ (fun e=>by
    rw[e,show z.heap[u.heap.size+1]?=_ from c8]at T4
    rcases ht with rfl|rfl<;>exact absurd (aN T4) (by decide)),f3.block q (by have:=aB T4;simp;omega) (fun e=>?_),Below.heap_alloc _ _ _ (aB T4),Vt.block q (aB hc) id]
   rcases t7.2 with⟨h1,_⟩|⟨g2,cap,cur,h1,_,Sj,_⟩
   ·cases h1;simp[ownBlock]at e
   ·cases h1;obtain rfl:q=g2:=by simpa [ownBlock]using e
    rw[T4]at Sj;rcases ht with rfl|rfl<;>exact absurd (aN Sj) (by decide)
  ·have:(w1.setCell ⟨u.heap.size+1,0,none⟩ (.slice (some ⟨g,0,none⟩) (k+1) c')).heap[u.heap.size]?=z.heap[u.heap.size]?:=p5.block _ (lt_succ_self _);unfold cell? at Y3 ⊢;rw[this];exact Y3
end
end
section
open Go.RowKit Go.Shelf
attribute [local go_sem] Oper.semAt_some
section
variable {w W:World}{nb pb:Nat}
def Ib(B:Nat)(ds:List Nat)(W:World):Prop:=ds.Nodup/\∀D∈ds,B<=D/\W.heap[D]?=some (.deferred (some []))
def Pm(x:Nd):Prop:=x.k=15->Hi x=true
structure xR(u W1:World)(pb k:Nat)(ds:List Nat){w0:World}(pre:List (eN w0 Pm))(W:World):Prop where
 ma:Dd u pb (k+mts (pre.map (·.1.1))) W
 tr:fD W1 W
 sz:W1.heap.size<=W.heap.size
 dl:Ib (u.heap.size+2) ds W
def xR.own{u W1 w0:World}{k B:Nat}{ds:List Nat}(hB:u.heap.size+2<=B)(hd:∀D∈ds,D<B):OwnFrom B (xR u W1 pb k ds (w0:=w0)):=by
 rintro pre W W' row⟨h2,h3,h7,h8⟩ hg hr
 have hc:∀(k:Nat)(c:Array Value)(t:TypeId)(f:Nat×Nat),W.heap[k]?=some (.cells c t f)->W'.heap[k]?=W.heap[k]?:=fun k c t f hk=>by
  refine hg.block k (aB hk) fun e=>?_;obtain⟨_,o,ho,hn⟩:=hr k e.symm;rw[hk]at ho;cases ho;cases hn
 exact⟨h2.on hc (h2.kn.grown hg fun k e=>inr (by have:=(hr k e).1;omega)) hg.size,h3.trans ⟨hg.size,fun k c t f _ hk=>hc k c t f hk⟩,le_trans h7 hg.size,h8.1,fun D hD=>⟨(h8.2 D hD).1,(hg.block D (aB (h8.2 D hD).2) fun e=>by have:=(hr D e.symm).1;have:=hd D hD;omega).trans (h8.2 D hD).2⟩⟩
def OV{F:Fence}{n B:Nat}{fn:Func}{tmps:Array Value}{R:Ending->World->Prop}{P:World->Prop}(hs:∀W D,B<=D->W.heap[D]?=some (.deferred (some []))->P W->P (W.putObj D (.deferred none)))(he:∀W,P W->LeavesIn F n prog fn tmps R [] .returning W) :
  ∀(ds:List Nat)(W:World),Ib B ds W->P W->LeavesInM F n prog fn tmps R (ds.map fun D=>{ target:=.collected D,args:=#[] }) .returning W:=by
 intro ds
 induction ds with
 |nil=>intro W _ h;exact he W h
 |cons D ds ih=>
  intro W hd hp;obtain⟨hn,hd⟩:=hd;obtain⟨h1,h2⟩:=hd D (mem_cons_self ..);rw[List.nodup_cons]at hn;refine⟨by simp,.inl ⟨_,_,rfl,run_takeDeferred h2,ih _ ⟨hn.2,fun E hE=>?_⟩ (hs W D h1 h2 hp)⟩⟩;obtain⟨h3,h4⟩:=hd E (mem_cons_of_mem _ hE);exact⟨h3,(World.putObj_heap_other (fun e=>hn.1 (by first|exact e ▸ hE|exact e.symm ▸ hE))).trans h4⟩
def UE(l:List Nd)(x:Nd):mts (l++[x])=mts l+if x.k=15 then 1 else 0:=by
 unfold mts;rw[List.filter_append,length_append]
 by_cases h:x.k=15<;>simp[List.filter_cons,h]
def ST:∀nd∈bO,∀x∈nd.all,x.k=15->Hi x=true:=by decide +kernel
def GE:∀nd∈bO,nd.all.length<=100:=by decide +kernel
def SQ:((dB 0 ahead bO).2.env.get (1,[78,105,108])).map (fun m=>m.vr.sibs)=some 2:=by decide +kernel
def jD(i:Nat):Nat:=((bO.take i).map fun d=>mts d.all).sum
def UF:∀j,j<7->jD j<=10:=by decide +kernel
def Fd(l:List Nd):mts l<=l.length:=List.length_filter_le _ _
def UG{u:World}(h:SRd w pb u):Below w.heap.size w u/\uS u pb [78,105,108] 2/\∃g cap,u.cell? ⟨pb,0,none⟩=some (.slice (some ⟨g,0,none⟩) 6 cap)/\pb<u.heap.size /\
  ∀W,Kn (fun _=>False) u W->∀j,j<6->∃b nd,W.cell? ⟨g,j,none⟩=some (aA b)/\g<W.heap.size/\AB W nd b/\bO[j]?=some nd:=by
 obtain⟨tb,dv,bl,hR⟩:=h;obtain⟨ad,rk,bv,Lu,Um,_⟩:=hR.ps;rw[take_length]at Lu;have Jm:=hR.tr.len;have h6:bO.length=6:=rfl
 obtain⟨m,Sr,Ly⟩:∃m,(dB 0 ahead bO).2.env.get (1,[78,105,108])=some m/\m.vr.sibs=2:=by
  have:=SQ
  cases hq:(dB 0 ahead bO).2.env.get (1,[78,105,108])with
  |none=>rw[hq]at this;cases this
  |some m=>rw[hq]at this;exact⟨m,rfl,Option.some.inj this⟩
 obtain⟨g,cap,Z9⟩:∃g cap,dv=.slice (some ⟨g,0,none⟩) 6 cap:=by
  rcases aD hR.rw with⟨_,h⟩|⟨g,cap,h⟩
  ·omega
  ·exact⟨g,cap,by rw[h,Jm,h6]⟩
 subst Z9;refine⟨hR.bw,fun v hv=>?_,g,cap,by simp[cell?,Lu.prog],aB Lu.prog,fun W hW j hj=>?_⟩
 ·have:=xM (nm:=[78,105,108]) ((hv.block _ (aB Lu.prog) id).trans Lu.prog) (Lu.tab.stays hv) ⟨show 1<3 by decide,by decide⟩ Sr;rw[Ly]at this;exact this
 ·have Jn:=aE hR.rw (w':=W) fun q c f _ hc=>hW.block q (aB hc) id;have Z6:j<bO.length:=by omega
  obtain⟨b,hb,hm⟩:=hR.tr.at (getElem?_eq_getElem Z6);refine⟨b,bO[j],?_,(Jn.lt g rfl).2,AB.kept (fun q _ _ hc=>hW.block q (aB hc) id) (fun q _ _ hc=>hW.block q (aB hc) id) _ _ hm,getElem?_eq_getElem Z6⟩;rw[Jm,h6]at Jn;obtain⟨g2,cap2,e,Jw⟩:=dI Jn (by omega);cases e;exact Jw j _ (by rw[getElem?_map,hb];rfl)
attribute [local go_sem ↓] mO
def xS(w:World):Calls prog 6 #[.string (bs iF)] w fun e u=>∃a n c,e=.returned (.tuple #[.slice a n c,.int .i64 0,.int .i64 0])/\Hid (Below w.heap.size w u/\u.ownsRow w.heap.size eP 2 (.slice a n c) 3 (mrow 3)):=by
 have HR:=aC (pX w);have HMF:=aC (fun pb u (h:SRd w pb u)=>UG h);refine(callsIn_wide (n:=5)).1 ?_;refine callsIn_of_wp_marks func6 rfl trivial ?_ rfl;simp only[ntmps6,List.size_toArray,length_cons,length_nil,Nat.reduceAdd,Nat.reduceSub,Array.replicate_succ,Array.replicate_zero,List.push_toArray,List.append_toArray,nil_append,cons_append];unfold aA at *
 gi_wp2_with (refine⟨trivial,?_⟩;gi_at_call 8;refine(callsIn_wide.2 HR.out).mono ?_;rintro e u⟨pb,rfl,HS⟩;obtain⟨Kx,Zw,g,cap,c0,c1,hdc⟩:=HMF.out _ _ HS.out;have HB:=aC Kx;have HV:=aC Zw;have HD:=aC hdc;clear Kx Zw hdc HMF HR HS)
 obtain⟨wl,Nx⟩:∃wl,wl=(u.alloc (.cells #[.pointer (some ⟨pb,0,none⟩)] 38)).alloc (.cells #[.slice none 0 0] kH):=⟨_,rfl⟩;have M3:((u.alloc (.cells #[.pointer (some ⟨pb,0,none⟩)] 38)).alloc (.cells #[.slice none 0 0] 27))=wl:=Nx.symm;rw[M3]
 have HM0:Hid (Dd u pb (jD 0) wl):=by
  have Kz:wl.heap[u.heap.size]?=some (.cells #[aA pb] 38 (0,0)):=by
   rw[Nx,Below.heap_alloc _ _ _ (by simp)];exact(heap_alloc u _).1
  refine⟨by rw[Nx];exact((Kn.refl _ u).alloc _).alloc _,(aP Kz 0).trans rfl,⟨.slice none 0 0,?_,ownsRow_nil _ _ _ _⟩,by rw[Nx];simp⟩;have:=(heap_alloc (u.alloc (.cells #[.pointer (some ⟨pb,0,none⟩)] 38)) (.cells #[.slice none 0 0] kH)).1;rw[Nx];simpa [Boxed]using this
 clear Nx M3;refine wpIn_loop (fun a wr=>∃(j:Nat) (ds:List Nat) (u10 u11 u28 u29 u30 u31 u32 u34 u35 u36 u37 u38 u39 u40 u41 u42 u43 u44 u45 u46:Value),j<=6/\a={ tmps:=#[.string (bs iF),undef,.slice none 0 0,.int .i64 0,.int .i64 0,.pointer (some ⟨u.heap.size,0,none⟩),.int .i64 0,.int .i64 0,.pointer (some ⟨u.heap.size+1,0,none⟩),undef,u10,u11,.tuple #[.pointer (some ⟨pb,0,none⟩),.int .i64 0,.int .i64 0],.string (bs iF),.tuple #[.pointer (some ⟨pb,0,none⟩),.int .i64 0,.int .i64 0],.pointer (some ⟨pb,0,none⟩),.int .i64 0,.int .i64 0,.int .i64 0,.bool false,undef,undef,.pointer (some ⟨pb,0,none⟩),.pointer (some ⟨pb,0,none⟩),.pointer (some ⟨pb,0,none⟩),.slice (some ⟨g,0,none⟩) 6 cap,.int .i64 6,.int .i64 (j:Nat),u28,u29,u30,u31,u32,undef,u34,u35,u36,u37,u38,u39,u40,u41,u42,u43,u44,u45,u46,undef],defers:=ds.map fun D=>{ target:=.collected D,args:=#[] } }/\Hid (Dd u pb (jD j) wr)/\Hid (Ib (u.heap.size+2) ds wr)) (fun a _=>(6-intOf (a.tmps.getD 27 undef)).toNat) ⟨0,[],_,_,_,_,_,_,_,_,_,_,_,_,_,_,_,_,_,_,_,_,by omega,rfl,HM0,aC ⟨List.nodup_nil,fun D h=>by cases h⟩⟩ ?_;rintro _ wr⟨j,ds,u10,u11,u28,u29,u30,u31,u32,u34,u35,u36,u37,u38,u39,u40,u41,u42,u43,u44,u45,u46,hj,rfl,HM,HT⟩;clear HM0
 by_cases Js:j<6
 ·obtain⟨b,nd,d1,d2,d3,d4⟩:=HD.out _ HM.out.kn j Js;have Jt:(j:Int)<6:=by omega
  have HN:=aC d3;clear d3
  gi_wp2_with (refine⟨trivial,?_⟩;gi_at_call 10;refine(xI Fence.wide _ trivial rfl _ _).mono ?_;rintro e w'⟨rfl,rfl⟩)
  obtain⟨W1,Ql⟩:∃W1,W1=wr.alloc (.cells #[aA b] aH):=⟨_,rfl⟩;rw[<- Ql];have Kj:Kn (fun _=>False) wr W1:=by rw[Ql];exact(Kn.refl _ wr).alloc _
  have Li:W1.heap.size=wr.heap.size+1:=by rw[Ql];simp
  have Ke:=HM.out.sz;have Jv:=List.mem_of_getElem? d4;have hN1:AB W1 nd b:=AB.kept (fun q _ _ hc=>Kj.block q (aB hc) id) (fun q _ _ hc=>Kj.block q (aB hc) id) _ _ HN.out;have Jz:=mP (Px:=Pm) Fence.wide rfl (5-1) trivial trivial rfl wr.heap.size nd b W1 hN1 (fun x hx=>ST nd Jv x hx) (by rw[Ql];exact(heap_alloc wr _).1);have a9:∀D∈ds,D<W1.heap.size:=fun D hD=>by have:=aB (HT.out.2 D hD).2;omega
  have Ss:xR u W1 pb (jD j) ds (w0:=W1) [] W1:=⟨HM.out.on (fun q _ _ _ hc=>Kj.block q (aB hc) id) (HM.out.kn.trans Kj) Kj.size,fD.refl _,le_refl _,HT.out.1,fun D hD=>⟨(HT.out.2 D hD).1,(Kj.block D (aB (HT.out.2 D hD).2) id).trans (HT.out.2 D hD).2⟩⟩;have Jr:OwnFrom W1.heap.size (xR u W1 pb (jD j) ds (w0:=W1)):=xR.own (by omega) a9;have Ol:∀(W:World)(l:Nat)(o o':Obj),W1.heap.size<=l->W.heap[l]?=some o->o.isCells=false->o.isWalk=false->fD W (W.putObj l o'):=fun W l o o' _ hl hc _=>fD.putObj o' hl hc
  refine wpIn_rangeFunc_ownG rfl (by omega) (gf:=19) (lb:=#[.pointer (some ⟨wr.heap.size,0,none⟩)]) ?hg trivial (enters_of func19 (by kernel_rfl) rfl)
   Jz fD.trans Ol (Below.refl _ _) (fun _=>rfl) (xR u W1 pb (jD j) ds) (fun _ _ _=>False) Jr (fun _ _ _ _ _ hs _ _=>hs) Ss
   (fun x=>{ tmps:=#[.string (bs iF),undef,.slice none 0 0,.int .i64 0,.int .i64 0,.pointer (some ⟨u.heap.size,0,none⟩),.int .i64 0,.int .i64 0,.pointer (some ⟨u.heap.size+1,0,none⟩),undef,.pointer (some ⟨b,0,none⟩),.pointer (some ⟨x.1.2,0,none⟩),.tuple #[.pointer (some ⟨pb,0,none⟩),.int .i64 0,.int .i64 0],.string (bs iF),.tuple #[.pointer (some ⟨pb,0,none⟩),.int .i64 0,.int .i64 0],.pointer (some ⟨pb,0,none⟩),.int .i64 0,.int .i64 0,.int .i64 0,.bool false,undef,undef,.pointer (some ⟨pb,0,none⟩),.pointer (some ⟨pb,0,none⟩),.pointer (some ⟨pb,0,none⟩),.slice (some ⟨g,0,none⟩) 6 cap,.int .i64 6,.int .i64 (j:Nat),.bool true,.pointer (some ⟨g,j,none⟩),.pointer (some ⟨b,0,none⟩),.pointer (some ⟨b,0,none⟩),.func (.func 19) #[] #[.pointer (some ⟨wr.heap.size,0,none⟩)],.pointer (some ⟨x.1.2,0,none⟩),u34,u35,u36,u37,u38,u39,u40,u41,u42,u43,u44,u45,u46,undef],defers:=[] }) ?assign ?body ?done ?stop
  case hg=>simp[go_sem,Act.eval]
  case assign=>
   intro lr x W K hK;unfold ED aA
   gi_wp2
   exact hK
  case body=>
   intro lr pre x W hI Jm;obtain⟨B4,So,M8,Tk⟩:=hI;have hxm:AB W x.1.1 x.1.2:=So.tree x.2.1
   have Ti:jD j+mts (pre.map (·.1.1))<=1000:=by
    have h1:=UF j (by omega);have h2:=Fd (pre.map (·.1.1));have h3:=GE nd Jv;rw[length_map]at h2;omega
   obtain⟨va,vn,vc,f1,f2,f3,Mq⟩:=UH B4 hxm Ti HV.out x.2.2;have Ub:mts ((pre++[x]).map (·.1.1))=mts (pre.map (·.1.1))+if x.1.1.k=15 then 1 else 0:=by rw[map_append];exact UE _ _
   have Me:Hid (x.1.1.k≠15->KeepsFrom W1.heap.size W W/\fD W W/\xR u W1 pb (jD j) ds (pre++[x]) W):=aC fun h=>⟨KeepsFrom.refl _ _,fD.refl _,by rw[Ub,if_neg h];exact B4,So,M8,Tk⟩;have HYE:Hid (x.1.1.k=15->∀V,KeepsOthers W V->fD W V->Dd u pb (jD j+mts (pre.map (·.1.1))+1) V->KeepsFrom W1.heap.size W V/\fD W V/\xR u W1 pb (jD j) ds (pre++[x]) V):=aC fun h V h1 h2 h3=>⟨h1.from _,h2,by rw[Ub,if_pos h];exact h3,So.trans h2,le_trans M8 h1.size,Tk.1,fun D hD=>⟨(Tk.2 D hD).1,h1.same D _ (Tk.2 D hD).2 rfl⟩⟩;have HLK:=aC Mq;clear Mq Ub B4 So M8 Tk hxm Jz Ss Jr Ol HM HT HN HD HV HB hN1 Kj;generalize xR u W1 pb (jD j) ds (w0:=W1)=I at *;generalize x.1.1.k=k at *;unfold vV aA at *
   by_cases hk:k=15
   ·subst hk;have HC:=aC (HLK.out rfl);have HY:=aC (HYE.out rfl);clear HLK Me HYE;have e1:W.drew.cell? ⟨u.heap.size+1,0,none⟩=some (.slice va vn vc):=f1;have e2:W.drew.cell? ⟨u.heap.size,0,none⟩=some (.pointer (some ⟨pb,0,none⟩)):=f2;have Vs:∀(fn:Fn)(first cap:Array Value)(w:World),(Instr.makeFunc fn first cap).run prog w=.ok (.func fn first cap) w:=fun _ _ _ _=>rfl
    gi_wp2_with fail
    gi_region_with (first|(refine⟨trivial,?_⟩;gi_at_call 11;refine(CallsIn.inRound lr (callsIn_wide.2 HC.out)).mono ?_;clear HC;rintro e z⟨rfl,z1,z2,z3,z4,gg,n',c',w1,Jo,z5,z6,HG⟩;rw[mO]at Jo))
    all_goals
     gi_wp2
     exact HY.out _ HG.out.1 HG.out.2.1 HG.out.2.2
   ·have e1:((k:Int)==15)=false:=by simp only[beq_eq_false_iff_ne,ne_eq];omega
    have HG:=aC (Me.out hk);clear Me HLK HYE
    gi_wp2
    exact HG.out
  case done=>
   rintro D xs W hD Uv⟨B4,So,M8,Tk⟩ hK;rw[Uv]at B4
   have hj1:jD (j+1)=jD j+mts nd.all:=by
    unfold jD;rw[take_add_one,d4];simp
   rw[<- hj1]at B4;have HM2:=aC B4
   have HT2:Hid (Ib (u.heap.size+2) (D::ds) W):=aC ⟨List.nodup_cons.2 ⟨fun h=>by have:=a9 D h;omega,Tk.1⟩,fun E hE=>by
    rcases mem_cons.1 hE with rfl|hE
    ·exact⟨by omega,hK⟩
    ·exact Tk.2 E hE⟩
   clear B4 So M8 Tk Jz Ss Jr Ol HM HT HN HD HV HB hN1 Kj hK Uv hj1
   gi_wp2
   refine⟨⟨j+1,D::ds,_,_,_,_,_,_,_,_,_,_,_,_,_,_,_,_,_,_,_,_,by omega,rfl,HM2,HT2⟩,?_⟩;simp[intOf];omega
  case stop=>
   intro D c pre W _ _ h _;exact h.elim
 ·obtain rfl:j=6:=by omega
  obtain⟨v,Lw,Jn⟩:=HM.out.bx;have h3:jD 6=3:=by decide +kernel
  rw[h3]at Jn;have Nh:=Lw.cell
  obtain⟨va,vn,vc,rfl⟩:∃a n c,v=.slice a n c:=by
   rcases aD Jn with⟨rfl,_⟩|⟨g,cap,rfl⟩<;>exact⟨_,_,_,rfl⟩
  have HP:=aC (And.intro HM.out.kn Jn);have We:=HB.out;clear Jn Lw HM HD HV
  gi_wp2
  refine OV (B:=u.heap.size+2) (P:=fun W=>Kn (fun _=>False) u W/\W.ownsRow (u.heap.size+1) eP 2 (.slice va vn vc) 3 (mrow 3)) ?_ ?_ ds wr HT.out HP.out
  ·rintro W D hD hK⟨k1,k2⟩;exact⟨k1.grown (grownBy_putObj' W D _) fun k e=>inr (by cases e;omega),ownsRow_putObj k2 _ hK rfl⟩
  ·rintro W⟨k1,k2⟩;have Ke:=We.size;exact⟨_,(by simp[results,results6,go_sem]),va,vn,vc,rfl,aC ⟨⟨k1.os.trans We.os,k1.tape.trans We.tape,k1.output.trans We.output,le_trans We.size k1.size,fun k hk=>(k1.block k (by omega) id).trans (We.block k hk)⟩,bN k2 (by omega)⟩⟩
end
end
end Go.Proofs.YthakgdfmbknakaaGreatDoor
