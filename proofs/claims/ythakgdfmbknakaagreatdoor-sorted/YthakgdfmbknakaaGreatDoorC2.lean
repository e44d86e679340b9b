import Derived.Test.YthakgdfmbknakaaGreatDoorC1
import Derived.LaidEqlPtr
set_option linter.all false
set_option maxHeartbeats 40000000
set_option maxRecDepth 100000
open Go.Proofs.Tryz
open Or (inl inr)
open Nat (le_refl le_trans zero_le lt_of_lt_of_le lt_succ_self)
open List (length_append mem_cons_self mem_cons_of_mem mem_singleton mem_cons map_cons)
namespace Go.Proofs.YthakgdfmbknakaaGreatDoor
open TS (AT AX BB BD)
open MapKept (heap_alloc heap_set)
open Result (andThen)
open World (cell?)
open Instr (findAsking findKey findNow lookup)
open ChangeMaps (setBlock)
section
open Go.RowKit
abbrev aT:TypeId:=113
abbrev aG:TypeId:=47
def bH(ad:List Nat)(i:Nat):Nat:=(ad[i]?).getD 0
def aM(ad:List Nat)(i:Nat):Value:=aA (bH ad i)
def aN{c c':Array Value}{t t':TypeId}{f f':Nat×Nat}(h:some (Obj.cells c t f)=some (Obj.cells c' t' f')):t=t':=by
 simp at h;exact h.2.1
structure Kn(D:Nat->Prop)(w w':World):Prop where
 os:w'.os=w.os
 tape:w'.tape=w.tape
 output:w'.output=w.output
 size:w.heap.size<=w'.heap.size
 block:∀k,k<w.heap.size->¬D k->w'.heap[k]?=w.heap[k]?
def Kn.refl(D:Nat->Prop)(w:World):Kn D w w:=⟨rfl,rfl,rfl,le_refl _,fun _ _ _=>rfl⟩
def Kn.trans{D:Nat->Prop}{a b c:World}(h:Kn D a b)(k:Kn D b c):Kn D a c:=
 ⟨k.os.trans h.os,k.tape.trans h.tape,k.output.trans h.output,le_trans h.size k.size,fun i hi hr=>(k.block i (lt_of_lt_of_le hi h.size) hr).trans (h.block i hi hr)⟩
def Kn.trans'{D D':Nat->Prop}{a b c:World}(h:Kn D a b)(k:Kn D' b c)(hD:∀i,i<a.heap.size->D' i->D i):Kn D a c:=
 ⟨k.os.trans h.os,k.tape.trans h.tape,k.output.trans h.output,le_trans h.size k.size,fun i hi hr=>(k.block i (lt_of_lt_of_le hi h.size) (fun e=>hr (hD i hi e))).trans (h.block i hi hr)⟩
def Kn.wide{D D':Nat->Prop}{a b:World}(h:Kn D a b)(hD:∀i,i<a.heap.size->D i->D' i):Kn D' a b:=
 ⟨h.os,h.tape,h.output,h.size,fun i hi hr=>h.block i hi fun e=>hr (hD i hi e)⟩
def Kn.AP{D:Nat->Prop}{w w':World}(h:Below w.heap.size w w'):Kn D w w':=⟨h.os,h.tape,h.output,h.size,fun k hk _=>h.block k hk⟩
def Kn.alloc{D:Nat->Prop}{a w:World}(h:Kn D a w)(o:Obj):Kn D a (w.alloc o):=
 h.trans (Kn.AP ((Below.refl _ _).alloc (le_refl _) o))
def Kn.drew{D:Nat->Prop}{a w:World}(h:Kn D a w):Kn D a w.drew:=⟨h.os,h.tape,h.output,h.size,h.block⟩
def Kn.set{D:Nat->Prop}{a w:World}(h:Kn D a w){p:Addr}(hp:D p.block\/a.heap.size<=p.block)(v:Value):Kn D a (w.setCell p v):=
 ⟨h.os,h.tape,h.output,by have:=h.size;simpa [World.setCell]using this,fun k hk Qw=>by
  rw[Below.heap_setCell _ _ _ _ (fun e=>by subst e;rcases hp with hp|hp;exact Qw hp;omega)];exact h.block k hk Qw⟩
def Kn.grown{D:Nat->Prop}{a w w':World}{row:Option Nat}(h:Kn D a w)(hg:w.grownBy w' row)(hr:∀k,row=some k->D k\/a.heap.size<=k):Kn D a w':=
 ⟨hg.os.trans h.os,hg.tape.trans h.tape,hg.output.trans h.output,le_trans h.size hg.size,fun k hk Qw=>by
  rw[hg.block k (lt_of_lt_of_le hk h.size) (fun e=>by rcases hr k e.symm with h1|h1;exact Qw h1;omega)]
  exact h.block k hk Qw⟩
def xQ(ad:List Nat)(X:Nat->Prop)(rk:Nat->Nat)(U:TS)(w:World)(i:Nat):Prop:=
 ∃pv fv,w.heap[bH ad i]?=some (.cells #[.string (bs (U.node i).name),pv,fv,.int .i64 (U.node i).depth] aT (0,0)) /\
  w.ownsRow 0 aG 1 pv (U.node i).parts.length ((U.node i).parts.map (aM ad))/\(∀g,pv.ownBlock=some g->¬X g) /\
  ((U.root i=i/\fv=.pointer none)\/(U.root i≠i/\∃j,j<U.nodes.length/\fv=aM ad j/\U.root j=U.root i/\rk j<rk i))
structure aO(ar:Nm->Nat)(ad:List Nat)(X:Nat->Prop)(rk:Nat->Nat)(U:TS)(w:World):Prop where
 ok:U.Ok ar
 len:ad.length=U.nodes.length
 lt:ad.Pairwise (· < ·)
 node:∀i,i<U.nodes.length->xQ ad X rk U w i
variable {ar:Nm->Nat}{ad:List Nat}{X:Nat->Prop}{rk:Nat->Nat}{U:TS}{w w':World}{i j:Nat}
def dE(h:i<ad.length):bH ad i∈ad:=by
 unfold bH;rw[List.getElem?_eq_getElem h];exact List.getElem_mem h
def kW(hp:ad.Pairwise (· < ·))(hi:i<ad.length)(hj:j<ad.length)(h:bH ad i=bH ad j):i=j:=by
 unfold bH at h;rw[List.getElem?_eq_getElem hi,List.getElem?_eq_getElem hj]at h;simp only[Option.getD_some]at h;rw[List.pairwise_iff_getElem]at hp;rcases Nat.lt_trichotomy i j with h1|h1|h1
 ·have:=hp i j hi hj h1;omega
 ·exact h1
 ·have:=hp j i hj hi h1;omega
def aO.mem_of(h:aO ar ad X rk U w){b:Nat}(hb:b∈ad):∃i,i<U.nodes.length/\bH ad i=b:=by
 obtain⟨i,hi⟩:=List.getElem?_of_mem hb;refine⟨i,?_,by unfold bH;rw[hi];rfl⟩;rw[<- h.len];exact(List.getElem?_eq_some_iff.1 hi).1
def aO.isT(h:aO ar ad X rk U w){b:Nat}(hb:b∈ad):∃c f,w.heap[b]?=some (.cells c aT f):=by
 obtain⟨i,hi,rfl⟩:=h.mem_of hb;obtain⟨pv,fv,h1,_⟩:=h.node i hi;exact⟨_,_,h1⟩
def aO.BJ(h:aO ar ad X rk U w){b:Nat}(hb:b∈ad):b<w.heap.size:=by
 obtain⟨c,f,hc⟩:=h.isT hb;exact aB hc
def aO.BI(h:aO ar ad X rk U w){b:Nat}{o:Obj}(hb:w.heap[b]?=some o)(ho:∀c f,o≠.cells c aT f):b∉ad:=fun hm=>by
 obtain⟨c,f,hc⟩:=h.isT hm;rw[hb]at hc;exact ho c f (Option.some.inj hc)
def xQ.kept(h:xQ ad X rk U w i)(h1:∀c f,w.heap[bH ad i]?=some (.cells c aT f)->w'.heap[bH ad i]?=w.heap[bH ad i]?)(h2:∀k c f,¬X k->w.heap[k]?=some (.cells c aG f)->w'.heap[k]?=w.heap[k]?):xQ ad X rk U w' i:=by
 obtain⟨pv,fv,a1,a2,a3,a4⟩:=h;exact⟨pv,fv,(h1 _ _ a1).trans a1,aE a2 fun k c f hk hc=>h2 k c f (a3 k hk) hc,a3,a4⟩
def aO.kept(h:aO ar ad X rk U w)(h1:∀k,k∈ad->w'.heap[k]?=w.heap[k]?)(h2:∀k c f,¬X k->w.heap[k]?=some (.cells c aG f)->w'.heap[k]?=w.heap[k]?):aO ar ad X rk U w':=
 ⟨h.ok,h.len,h.lt,fun i hi=>(h.node i hi).kept (fun _ _ _=>h1 _ (dE (by rw[h.len];exact hi))) h2⟩
def aO.below(h:aO ar ad X rk U w)(hb:Below w.heap.size w w'):aO ar ad X rk U w':=
 h.kept (fun k hk=>hb.block k (h.BJ hk)) (fun k _ _ _ hc=>hb.block k (aB hc))
def aO.alloc(h:aO ar ad X rk U w)(o:Obj):aO ar ad X rk U (w.alloc o):=h.below ((Below.refl _ _).alloc (le_refl _) o)
def aO.cells(h:aO ar ad X rk U w)(hi:i<U.nodes.length):∃pv fv,w.heap[bH ad i]?=some (.cells #[.string (bs (U.node i).name),pv,fv,.int .i64 (U.node i).depth] aT (0,0)) /\
  w.ownsRow 0 aG 1 pv (U.node i).parts.length ((U.node i).parts.map (aM ad))/\((U.root i=i/\fv=.pointer none)\/(U.root i≠i/\∃j,j<U.nodes.length/\fv=aM ad j/\U.root j=U.root i/\rk j<rk i)):=by
 obtain⟨pv,fv,a1,a2,_,a4⟩:=h.node i hi;exact⟨pv,fv,a1,a2,a4⟩
def aO.rank(h:aO ar ad X rk U w):∀(n i:Nat),rk i<=n->i<U.nodes.length->rk (U.root i)<=rk i:=by
 intro n
 induction n with
 |zero=>
  intro i hn hi;obtain⟨pv,fv,_,_,⟨h1,_⟩|⟨_,j,_,_,_,h5⟩⟩:=h.cells hi
  ·rw[h1];exact le_refl _
  ·omega
 |succ n ih=>
  intro i hn hi;obtain⟨pv,fv,_,_,⟨h1,_⟩|⟨_,j,h2,_,h4,h5⟩⟩:=h.cells hi
  ·rw[h1];exact le_refl _
  ·have:=ih j (by omega) h2;rw[h4]at this;omega
def aO.CG(h:aO ar ad X rk U w)(hi:i<U.nodes.length)(Ju:U.root i≠i):aO ar ad X rk U (w.setCell ⟨bH ad i,2,none⟩ (aM ad (U.root i))):=by
 have Lc:i<ad.length:=by rw[h.len];exact hi
 refine⟨h.ok,h.len,h.lt,fun k hk=>?_⟩;have Lv:k<ad.length:=by rw[h.len];exact hk
 have Pw:∀(p:Nat)(c:Array Value)(f:Nat×Nat),¬X p->w.heap[p]?=some (.cells c aG f)->(w.setCell ⟨bH ad i,2,none⟩ (aM ad (U.root i))).heap[p]?=w.heap[p]?:=fun p c f _ hc=>by
  refine Below.heap_setCell _ _ _ _ (fun e=>?_);obtain⟨c2,f2,Mv⟩:=h.isT (dE Lc);rw[e,Mv]at hc;exact absurd (aN hc) (by decide)
 by_cases J8:k=i
 ·subst J8;obtain⟨pv,fv,a1,a2,a3,a4⟩:=h.node k hk;refine⟨pv,aM ad (U.root k),?_,aE a2 fun q c f hq hc=>Pw q c f (a3 q hq) hc,a3,inr ⟨Ju,U.root k,h.ok.AK hk,rfl,h.ok.AZ k,?_⟩⟩
  ·rw[heap_setCell_same _ _ _ _ _ _ a1];rfl
  ·rcases a4 with⟨h1,_⟩|⟨_,j,h2,_,h4,h5⟩
   ·exact absurd h1 Ju
   ·have:=h.rank (rk j) j (le_refl _) h2;rw[h4]at this;omega
 ·refine(h.node k hk).kept (fun c f _=>Below.heap_setCell _ _ _ _ (fun e=>J8 (kW h.lt Lv Lc e))) Pw
def aO.AG(h:aO ar ad X rk U w)(hi:i<U.nodes.length)(d:Nat):aO ar ad X rk (U.AG i d) (w.setCell ⟨bH ad i,3,none⟩ (.int .i64 d)):=by
 have Lc:i<ad.length:=by rw[h.len];exact hi
 have Kv:=Alike.AG U i d;refine⟨h.ok.alike Kv,by rw[Kv.len];exact h.len,h.lt,fun k hk=>?_⟩;rw[Kv.len]at hk;have Lv:k<ad.length:=by rw[h.len];exact hk
 have Pw:∀(p:Nat)(c:Array Value)(f:Nat×Nat),¬X p->w.heap[p]?=some (.cells c aG f)->(w.setCell ⟨bH ad i,3,none⟩ (.int .i64 d)).heap[p]?=w.heap[p]?:=fun p c f _ hc=>by
  refine Below.heap_setCell _ _ _ _ (fun e=>?_);obtain⟨c2,f2,Mv⟩:=h.isT (dE Lc);rw[e,Mv]at hc;exact absurd (aN hc) (by decide)
 obtain⟨pv,fv,a1,a2,a3,a4⟩:=h.node k hk;have Mz:∀x,(U.AG i d).root x=U.root x:=fun x=>Kv.root x;have Jm:=Kv.len
 by_cases J8:k=i
 ·subst J8;refine⟨pv,fv,?_,?_,a3,?_⟩
  ·rw[heap_setCell_same _ _ _ _ _ _ a1,AX,if_pos ⟨rfl,hi⟩];rfl
  ·rw[Kv.parts];exact aE a2 fun q c f hq hc=>Pw q c f (a3 q hq) hc
  ·simp only[Mz,Jm];exact a4
 ·have hn:(U.AG i d).node k=U.node k:=by rw[AX,if_neg (fun e=>J8 e.1)]
  refine⟨pv,fv,?_,?_,a3,?_⟩
  ·rw[Below.heap_setCell _ _ _ _ (fun e=>J8 (kW h.lt Lv Lc e)),hn];exact a1
  ·rw[hn];exact aE a2 fun q c f hq hc=>Pw q c f (a3 q hq) hc
  ·simp only[Mz,Jm];exact a4
def aO.found(h:aO ar ad X rk U w){t o:Nat}(ht:t<U.nodes.length)(ho:o<U.nodes.length)(hl:U.AC t=true)(h1:U.root t=t)(h2:U.root o=o)(Ju:t≠o) :
  aO ar ad X (fun x=>if U.root x=t then rk x+rk o+1 else rk x) (U.found t o) (w.setCell ⟨bH ad t,2,none⟩ (aM ad o)):=by
 have Oh:t<ad.length:=by rw[h.len];exact ht
 refine⟨h.ok.found ht ho hl h1 h2 Ju,h.len,h.lt,fun k hk=>?_⟩;have hk:k<U.nodes.length:=hk;have Lv:k<ad.length:=by rw[h.len];exact hk
 have Pw:∀(p:Nat)(c:Array Value)(f:Nat×Nat),¬X p->w.heap[p]?=some (.cells c aG f)->(w.setCell ⟨bH ad t,2,none⟩ (aM ad o)).heap[p]?=w.heap[p]?:=fun p c f _ hc=>by
  refine Below.heap_setCell _ _ _ _ (fun e=>?_);obtain⟨c2,f2,Mv⟩:=h.isT (dE Oh);rw[e,Mv]at hc;exact absurd (aN hc) (by decide)
 obtain⟨pv,fv,a1,a2,a3,a4⟩:=h.node k hk
 by_cases F5:k=t
 ·subst F5;refine⟨pv,aM ad o,?_,aE a2 fun q c f hq hc=>Pw q c f (a3 q hq) hc,a3,inr ⟨?_,o,ho,rfl,?_,?_⟩⟩
  ·rw[heap_setCell_same _ _ _ _ _ _ a1];rfl
  ·rw[AT,if_pos h1];exact Ne.symm Ju
  ·rw[AT,AT,if_pos h1,h2,if_neg (Ne.symm Ju)]
  ·simp only;rw[h2,if_neg (Ne.symm Ju),if_pos h1];omega
 ·refine⟨pv,fv,?_,aE a2 fun q c f hq hc=>Pw q c f (a3 q hq) hc,a3,?_⟩
  ·rw[Below.heap_setCell _ _ _ _ (fun e=>F5 (kW h.lt Lv Oh e))];exact a1
  ·rcases a4 with⟨b1,b2⟩|⟨b1,j,b2,b3,b4,b5⟩
   ·refine inl ⟨?_,b2⟩;rw[AT,b1,if_neg F5]
   ·refine inr ⟨?_,j,b2,b3,?_,?_⟩
    ·rw[AT]
     split
     ·rintro rfl;exact b1 h2
     ·exact b1
    ·rw[AT,AT,b4]
    ·simp only[b4]
     split
     ·omega
     ·exact b5
def aO.new(h:aO ar ad X rk U w){t:TN}{pv:Value}(hp:∀p∈t.parts,p<U.nodes.length)(h0:t.name=[]->t.parts=[])(ha:t.name≠[]->t.parts.length=ar t.name)
  (hr:w.ownsRow 0 aG 1 pv t.parts.length (t.parts.map (aM ad))) (hX:∀g,pv.ownBlock=some g->¬X g) :
  aO ar (ad++[w.heap.size]) X rk (U.new t).2 (w.alloc (.cells #[.string (bs t.name),pv,.pointer none,.int .i64 t.depth] aT)):=by
 have hA:∀k,k<U.nodes.length->bH (ad++[w.heap.size]) k=bH ad k:=fun k hk=>by
  unfold bH;rw[List.getElem?_append_left (by rw[h.len];exact hk)]
 have hN:bH (ad++[w.heap.size]) U.nodes.length=w.heap.size:=by
  unfold bH;rw[<- h.len];simp
 have hV:∀(l:List Nat),(∀p∈l,p<U.nodes.length)->l.map (aM (ad++[w.heap.size]))=l.map (aM ad):=fun l hl=>by
  refine List.map_congr_left fun p hp=>?_;unfold aM;rw[hA p (hl p hp)]
 have Mz:∀x,(U.new t).2.root x=U.root x:=fun x=>rfl;refine⟨h.ok.new hp h0 ha,by rw[BD,length_append,h.len];rfl,?_,fun k hk=>?_⟩
 ·refine List.pairwise_append.2 ⟨h.lt,by simp,fun a ha b hb=>?_⟩;rw[mem_singleton.1 hb];exact h.BJ ha
 ·rw[BD]at hk;have M9:=fun(q:Nat) (hq:q<w.heap.size)=>Below.heap_alloc w (.cells #[.string (bs t.name),pv,.pointer none,.int .i64 t.depth] aT) q hq
  by_cases Mj:k=U.nodes.length
  ·subst Mj;refine⟨pv,.pointer none,?_,?_,hX,inl ⟨?_,rfl⟩⟩
   ·rw[hN,BB,if_pos rfl];exact(heap_alloc w _).1
   ·rw[BB,if_pos rfl,hV _ hp];exact hr.alloc _
   ·rw[Mz];exact NO h.ok.fnd (le_refl _)
  ·have Ze:k<U.nodes.length:=by omega
   obtain⟨pw,fv,a1,a2,a3,a4⟩:=h.node k Ze;refine⟨pw,fv,?_,?_,a3,?_⟩
   ·rw[hA k Ze,BB,if_neg Mj,M9 _ (aB a1)];exact a1
   ·rw[BB,if_neg Mj,hV _ (fun p hp=>h.ok.AQ Ze hp)];exact a2.alloc _
   ·simp only[Mz,BD];rcases a4 with b|⟨b1,j,b2,b3,b4,b5⟩
    ·exact inl b
    ·exact inr ⟨b1,j,by omega,by rw[b3];unfold aM;rw[hA j b2],b4,b5⟩
end
section
open Go.RowKit
abbrev eE:TypeId:=87
def UR:laidOutB prog=true:=by kernel_rfl
def Av:WideMaps.KeyLaw prog eE:=
 deep_law_laid UR (m:=5) (by decide) (by
                         have:decide (eE<prog.types.size)=true:=by kernel_rfl
                         simpa using this) (by kernel_rfl) (by kernel_rfl)
end
section
open Go.RowKit
def AB(w:World):Nd->Nat->Prop
 |.mk k txt ps,b=>∃(pv:Value) (bs':List Nat),w.heap[b]?=some (.cells #[.int .i64 k,.string (bs txt),pv] cS (0,0))/\w.ownsRow 0 aH 1 pv bs'.length (bs'.map aA)/\AD ps bs'
 where
 AD:List Nd->List Nat->Prop
  |[],[]=>True
  |p::ps,b::bs'=>AB w p b/\AD ps bs'
  |_,_=>False
def AB.inv{w:World}{k:Nat}{txt:Nm}{ps:List Nd}{b:Nat}(h:AB w (.mk k txt ps) b):∃(pv:Value) (bs':List Nat),w.heap[b]?=some (.cells #[.int .i64 k,.string (bs txt),pv] cS (0,0))/\w.ownsRow 0 aH 1 pv bs'.length (bs'.map aA)/\AB.AD w ps bs':=by
 rw[AB]at h;exact h
def AB.mk{w:World}{k:Nat}{txt:Nm}{ps:List Nd}{b:Nat}{pv:Value}{bs':List Nat}(h1:w.heap[b]?=some (.cells #[.int .i64 k,.string (bs txt),pv] cS (0,0)))(h2:w.ownsRow 0 aH 1 pv bs'.length (bs'.map aA))(h3:AB.AD w ps bs'):AB w (.mk k txt ps) b:=by
 rw[AB];exact⟨pv,bs',h1,h2,h3⟩
def AB.AD.len{w:World}:∀{ps:List Nd}{l:List Nat},AB.AD w ps l->l.length=ps.length:=by
 intro ps
 induction ps with
 |nil=>intro l h;cases l with
  |nil=>rfl
  |cons=>simp[AB.AD]at h
 |cons p r ih=>intro l h;cases l with
  |nil=>simp[AB.AD]at h
  |cons b l=>rw[AB.AD]at h;simp[ih h.2]
def AB.AD.at{w:World}:∀{ps:List Nd}{l:List Nat},AB.AD w ps l->∀{i:Nat}{p:Nd},ps[i]?=some p->∃b,l[i]?=some b/\AB w p b:=by
 intro ps
 induction ps with
 |nil=>intro l _ i p hp;simp at hp
 |cons q r ih=>intro l h i p hp;cases l with
  |nil=>simp[AB.AD]at h
  |cons b l=>
   rw[AB.AD]at h
   cases i with
   |zero=>simp at hp;subst hp;exact⟨b,rfl,h.1⟩
   |succ i=>simp at hp;simpa using ih h.2 hp
def AB.kept{w w':World}(h1:∀(k:Nat)(c:Array Value)(f:Nat×Nat),w.heap[k]?=some (.cells c cS f)->w'.heap[k]?=w.heap[k]?)(h2:∀(k:Nat)(c:Array Value)(f:Nat×Nat),w.heap[k]?=some (.cells c aH f)->w'.heap[k]?=w.heap[k]?) :
  ∀(t:Nd)(b:Nat),AB w t b->AB w' t b:=
 Nd.rec (motive_1:=fun t=>∀b,AB w t b->AB w' t b) (motive_2:=fun ps=>∀l,AB.AD w ps l->AB.AD w' ps l)
  (fun k txt ps ih b h=>by
   obtain⟨pv,l,a1,a2,a3⟩:=h.inv
   exact AB.mk ((h1 _ _ _ a1).trans a1) (aE a2 fun q c f _ hc=>h2 q c f hc) (ih l a3))
  (fun l h=>by cases l with
   |nil=>simp[AB.AD]
   |cons=>simp[AB.AD]at h)
  (fun p r ihp ihr l h=>by cases l with
   |nil=>simp[AB.AD]at h
   |cons b l=>rw[AB.AD]at h ⊢;exact⟨ihp b h.1,ihr l h.2⟩)
def AB.AD.kept{w w':World}(h1:∀(k:Nat)(c:Array Value)(f:Nat×Nat),w.heap[k]?=some (.cells c cS f)->w'.heap[k]?=w.heap[k]?)(h2:∀(k:Nat)(c:Array Value)(f:Nat×Nat),w.heap[k]?=some (.cells c aH f)->w'.heap[k]?=w.heap[k]?) :
  ∀{ps:List Nd}{l:List Nat},AB.AD w ps l->AB.AD w' ps l:=by
 intro ps
 induction ps with
 |nil=>intro l h;cases l with
  |nil=>simp[AB.AD]
  |cons=>simp[AB.AD]at h
 |cons p r ih=>intro l h;cases l with
  |nil=>simp[AB.AD]at h
  |cons b l=>rw[AB.AD]at h ⊢;exact⟨AB.kept h1 h2 p b h.1,ih h.2⟩
end
section
open Go.RowKit
def eL(x:Ky):Value:=.agg #[.int .i64 x.1,.string (bs x.2)]
def cL(x:Ky):Prop:=x.1<3/\x.2.length<=100000000
def IL : (match prog.underlying eE with | some (.struct fs) => some (fs.toList.map fun f => (f.name != "_", f.type, f.offset)) | _ => none) = some [(true, 85, 0), (true, aI, 1)] := by kernel_rfl
def US:prog.keyType eE=true:=by kernel_rfl
def OW:(prog.cellsOf eE,prog.cellsOf 85,prog.cellsOf aI)=(2,1,1):=by kernel_rfl
def LV:prog.underlying aI=some .string:=by kernel_rfl
def UT:∃d,prog.types.size+1=d+2:=⟨prog.types.size-1,by
 have:decide (1<=prog.types.size)=true:=by kernel_rfl
 have:1<=prog.types.size:=of_decide_eq_true this
 omega⟩
def Fj(x:Ky)(h:cL x):∃l,keyOf prog eE (eL x)=some l:=by
 obtain⟨sp,nm⟩:=x;obtain⟨h1,h2⟩:=h;simp only at h1 h2;have hf:=IL;have hc:=OW;simp only[Prod.mk.injEq]at hc;obtain⟨Ny,Mv,Xr⟩:=hc;obtain⟨d,hd⟩:=UT
 cases hu:prog.underlying eE with
 |none=>rw[hu]at hf;cases hf
 |some D=>
  cases D with
  |struct fs=>
   rw[hu]at hf
   have hf : fs.toList.map (fun f => (f.name != "_", f.type, f.offset)) = [(true, 85, 0), (true, aI, 1)] := by simpa using hf
   match hfs:fs.toList,hf with
   |[],hf=>simp at hf
   |[_],hf=>simp at hf
   |_::_::_::_,hf=>simp at hf
   |[f1,f2],hf=>
    simp only[map_cons,List.map_nil,List.cons.injEq,Prod.mk.injEq,and_true]at hf;obtain⟨⟨a1,a2,a3⟩,b1,b2,b3⟩:=hf
    have Mh : fs.all (fun f => f.name != "_") = true := by
     rw[<- Array.all_toList,hfs];simp[a1,b1]
    have hwf:(Lit.int .i64 (sp:Int)).wf=true:=by
     have:sp=0\/sp=1\/sp=2:=by omega
     rcases this with rfl|rfl|rfl<;>decide
    have Ke:(bs nm).size<=maxLen:=by
     have:(bs nm).size=nm.length:=by simp[bs,ByteArray.size]
     rw[this];unfold maxLen;omega
    have k1:prog.keyLits (d+1) 85 [.int .i64 sp]=some [.int .i64 sp]:=by
     simp[Program.keyLits,hwf]
    have k2:prog.keyLits (d+1) aI [.string (bs nm)]=some [.string nm]:=by
     simp[Program.keyLits,Ke,dD]
    have hL:prog.keyLits (d+2) eE [.int .i64 sp,.string (bs nm)]=some [.int .i64 sp,.string nm]:=by
     unfold Program.keyLits;simp only[hu];rw[if_pos ⟨by rw[Ny];rfl,Mh⟩,hfs];simp only[List.mapM_cons,List.mapM_nil,a2,a3,b2,b3,Mv,Xr,List.drop_zero,List.drop_succ_cons,List.take_succ_cons,List.take_zero,k1,k2];rfl
    refine⟨.string (keyBytes [.int .i64 sp,.string nm]),?_⟩;unfold keyOf eL;simp only[hu,US,Value.formed,Ny,Bool.true_and];rw[hd];simp[Value.cells,hL]
  |_=>rw[hu]at hf;cases hf
def Au{a b:Ky}(h:eL a=eL b):a=b:=by
 unfold eL at h;simp only[Value.agg.injEq,Array.mk.injEq,List.cons.injEq,Value.int.injEq,Value.string.injEq,and_true,true_and]at h;obtain⟨h1,h2⟩:=h;have h1:a.1=b.1:=by omega
 have h2:a.2=b.2:=by
  have:=congrArg (fun b=>b.data.toList) h2
  simpa [bs]using this
 exact Prod.ext h1 h2
def jZ:jL prog eE cL (fun _ _=>True) eL:=jL.of_law Av Fj (fun _ _ h=>Au h)
end
section
open Go.RowKit
abbrev dA:TypeId:=44
abbrev iK:TypeId:=84
def SW(ad:List Nat):Option Nat->Value
 |none=>.pointer none
 |some t=>aM ad t
def fE(ad:List Nat)(w:World)(m:Mg)(v:Value):Prop:=
 ∃lv pv bl,v=.agg #[SW ad m.scheme,.string (bs m.vr.data),lv,pv,.int .i64 m.vr.sibs,.int .i64 m.AE]/\(∀t,m.scheme=some t->t<ad.length) /\
  w.ownsRow 0 aI 1 lv m.vr.AE.length (m.vr.AE.map bM)/\w.ownsRow 0 aH 1 pv bl.length (bl.map aA)/\AB.AD w m.vr.parts bl
def Tab(ad:List Nat)(tb:Nat)(A:Env)(w:World):Prop:=
 ∃n f,aQ cL eL w tb n f/\∀x,cL x->(A.get x=none/\f x=none)\/∃m v,A.get x=some m/\f x=some v/\fE ad w m v
def Tab.raw{ad:List Nat}{tb:Nat}{A:Env}{w:World}(h:Tab ad tb A w):∃n f,aQ cL eL w tb n f:=by
 obtain⟨n,f,h1,_⟩:=h;exact⟨n,f,h1⟩
def fE.kept{ad ad':List Nat}{w w':World}{m:Mg}{v:Value}(h:fE ad w m v)(ha:∀i,i<ad.length->bH ad' i=bH ad i)(hl:ad.length<=ad'.length)(h0:∀(k:Nat)(c:Array Value)(f:Nat×Nat),w.heap[k]?=some (.cells c aI f)->w'.heap[k]?=w.heap[k]?)
  (h1:∀(k:Nat)(c:Array Value)(f:Nat×Nat),w.heap[k]?=some (.cells c cS f)->w'.heap[k]?=w.heap[k]?) (h2:∀(k:Nat)(c:Array Value)(f:Nat×Nat),w.heap[k]?=some (.cells c aH f)->w'.heap[k]?=w.heap[k]?):fE ad' w' m v:=by
 obtain⟨lv,pv,bl,e1,e2,e3,e4,e5⟩:=h;refine⟨lv,pv,bl,?_,fun t ht=>lt_of_lt_of_le (e2 t ht) hl,aE e3 fun k c f _ hc=>h0 k c f hc,aE e4 fun k c f _ hc=>h2 k c f hc,e5.kept h1 h2⟩;rw[e1];congr 3
 cases hm:m.scheme with
 |none=>rfl
 |some t=>show aA (bH ad t)=aA (bH ad' t);rw[ha t (e2 t hm)]
def bJ{w w':World}{b k:Nat}{c:Array Value}{t:TypeId}{f:Nat×Nat}(h:w.mapTurned w' b)(hc:w.heap[k]?=some (.cells c t f)):w'.heap[k]?=w.heap[k]?:=by
 obtain⟨es,clock,es',clock',hb,rfl⟩:=h;refine(heap_set hb).2 k (fun e=>?_);subst e;rw[hb]at hc;cases hc
def fE.AM{ad:List Nat}{w w':World}{b:Nat}{m:Mg}{v:Value}(h:fE ad w m v)(ht:w.mapTurned w' b):fE ad w' m v:=
 h.kept (fun _ _=>rfl) (le_refl _) (fun _ _ _ hc=>bJ ht hc) (fun _ _ _ hc=>bJ ht hc) (fun _ _ _ hc=>bJ ht hc)
def iR:prog.underlying dA=some (.map eE iK):=by kernel_rfl
def Am(w:World):(zeroValue iK).run prog w=.ok (.agg #[.pointer none,.string ⟨#[]⟩,.slice none 0 0,.slice none 0 0,.int .i64 0,.int .i64 0]) w:=by
 have h:(prog.info? iK).map (fun i=>i.zero)=some (some (.agg #[.pointer none,.string ⟨#[]⟩,.slice none 0 0,.slice none 0 0,.int .i64 0,.int .i64 0])):=by kernel_rfl
 cases hi:prog.info? iK with
 |none=>rw[hi]at h;cases h
 |some j=>
  rw[hi]at h;have hz:j.zero=some (.agg #[.pointer none,.string ⟨#[]⟩,.slice none 0 0,.slice none 0 0,.int .i64 0,.int .i64 0]):=by simpa using h
  simp[zeroValue,typeInfo,hi,hz,andThen]
end
section
open Go.RowKit
def gE(s:ByteArray)(a:Option Addr)(n c:Nat)(w:World) :
  Calls prog 71 #[.string s,.slice a n c] w fun e w'=>e=.returned (aA w.heap.size)/\w'=w.alloc (.cells #[.string s,.slice a n c,.pointer none,.int .i64 0] aT):=by
 unfold aA;generalize hQ:(fun(e:Ending) (w':World)=>e=.returned (.pointer (some ⟨w.heap.size,0,none⟩))/\w'=w.alloc (.cells #[.string s,.slice a n c,.pointer none,.int .i64 0] aT))=Q;go_enter func71,ntmps71;go_wp2;rw[<- hQ];exact⟨rfl,rfl⟩
def kD(d:Nat)(w:World) :
  Calls prog 70 #[.int .i64 d] w fun e w'=>e=.returned (aA w.heap.size)/\w'=w.alloc (.cells #[.string (bs []),.slice none 0 0,.pointer none,.int .i64 d] aT):=by
 unfold aA;generalize hQ:(fun(e:Ending) (w':World)=>e=.returned (.pointer (some ⟨w.heap.size,0,none⟩))/\w'=w.alloc (.cells #[.string (bs []),.slice none 0 0,.pointer none,.int .i64 d] aT))=Q;go_enter func70,ntmps70;go_wp2;rw[<- hQ];exact⟨rfl,rfl⟩
variable {ar:Nm->Nat}{ad:List Nat}{X:Nat->Prop}{rk:Nat->Nat}{U:TS}{w w':World}{i j:Nat}
def aO.cell(h:aO ar ad X rk U w)(hi:i<U.nodes.length):∃pv fv,
  w.cell? ⟨bH ad i,0,none⟩=some (.string (bs (U.node i).name))/\w.cell? ⟨bH ad i,1,none⟩=some pv/\w.cell? ⟨bH ad i,2,none⟩=some fv/\w.cell? ⟨bH ad i,3,none⟩=some (.int .i64 (U.node i).depth) /\
  w.frozen? ⟨bH ad i,2,none⟩=false/\w.frozen? ⟨bH ad i,3,none⟩=false /\
  w.ownsRow 0 aG 1 pv (U.node i).parts.length ((U.node i).parts.map (aM ad))/\((U.root i=i/\fv=.pointer none)\/(U.root i≠i/\∃j,j<U.nodes.length/\fv=aM ad j/\U.root j=U.root i/\rk j<rk i)):=by
 obtain⟨pv,fv,h1,h2,h3⟩:=h.cells hi;refine⟨pv,fv,?_,?_,?_,?_,?_,?_,h2,h3⟩
 ·simp[cell?,h1]
 ·simp[cell?,h1]
 ·simp[cell?,h1]
 ·simp[cell?,h1]
 ·exact frozen_of_row _ _ _ _ _ h1
 ·exact frozen_of_row _ _ _ _ _ h1
def WN(l:Nm):(bs l).toList.isEmpty=(l==[]):=by
 rw[ByteArray.toList_eq,dD];cases l<;>rfl
def cH(h:aO ar ad X rk U w)(hi:i<U.nodes.length) :
  Calls prog 45 #[aM ad i] w fun e w'=>e=.returned (.bool (U.AC i))/\w'=w:=by
 obtain⟨pv,fv,h1,_⟩:=h.cell hi;have hb:(bs (U.node i).name).toList.isEmpty=U.AC i:=WN _;unfold aM aA;generalize hQ:(fun(e:Ending) (w':World)=>e=.returned (.bool (U.AC i))/\w'=w)=Q;clear h;generalize bH ad i=b at *;generalize bs (U.node i).name=nm at *;go_enter func45,ntmps45;go_wp2;rw[<- hQ];exact⟨by rw[<- hb];rfl,rfl⟩
def bG(ar:Nm->Nat)(ad:List Nat)(X:Nat->Prop)(rk:Nat->Nat)(U:TS)(i:Nat)(w:World)(e:Ending)(w':World):Prop:=
 e=.returned (aM ad (U.root i))/\aO ar ad X rk U w'/\Kn (·∈ad) w w'/\w'.heap.size=w.heap.size
def dX:∀(n:Nat)(i:Nat)(w:World),rk i<n->aO ar ad X rk U w->i<U.nodes.length->Calls prog 44 #[aM ad i] w (bG ar ad X rk U i w):=by
 intro n
 induction n with
 |zero=>intro i w hn;omega
 |succ n ih=>
  intro i w hn h hi;obtain⟨pv,fv,h1,h2,h3,h4,h5,h6,h7,h8⟩:=h.cell hi;rcases h8 with⟨hr,rfl⟩|⟨hr,j,hj,rfl,hjr,Uz⟩
  ·have hq:bG ar ad X rk U i w (.returned (aM ad i)) w:=⟨by rw[hr],h,Kn.refl _ _,rfl⟩;have HQ:=aC hq;clear hq h h1 h2 h4 h5 h6 h7 ih;unfold aM aA at *;generalize bG ar ad X rk U i w=Q at *;generalize bH ad i=b at *;go_enter func44,ntmps44;go_wp2;exact HQ.out
  ·have hc:=ih j w (by omega) h hj;have Jv:bH ad i∈ad:=dE (by rw[h.len];exact hi)
   have hq:∀e w1,bG ar ad X rk U j w e w1->e=.returned (aM ad (U.root i))/\w1.frozen? ⟨bH ad i,2,none⟩=false/\(w1.cell? ⟨bH ad i,2,none⟩).isSome=true/\bG ar ad X rk U i w (.returned (aM ad (U.root i))) (w1.setCell ⟨bH ad i,2,none⟩ (aM ad (U.root i))):=by
    rintro e w1⟨a1,a2,a3,a4⟩;obtain⟨_,fv2,_,_,c3,_,c5,_⟩:=a2.cell hi;refine⟨by rw[a1,hjr],c5,by rw[c3];rfl,rfl,a2.CG hi hr,a3.set (inl Jv) _,by simp[a4]⟩
   have HC:=aC hc;have HQ:=aC hq;clear hq hc h h1 h2 h4 h6 h7 ih Jv;unfold aM aA at *;generalize bG ar ad X rk U i w=Q at *;generalize bG ar ad X rk U j w=Q1 at *;generalize bH ad i=b at *;generalize bH ad j=b1 at *;generalize bH ad (U.root i)=b2 at *;go_enter func44,ntmps44;go_wp2_with fail;refine(HC.out).mono ?_;intro e w1 ha;obtain⟨rfl,hf,hs,hq⟩:=HQ.out e w1 ha;have HF:=aC hq;clear ha hq HQ HC;obtain⟨old,hold⟩:=Option.isSome_iff_exists.1 hs;go_wp2;exact HF.out
end
section
open Go.RowKit
def Gb{a b:List UInt8}(h:a≠b):((bs a).toList==(bs b).toList)=false:=by rw[MD];simpa using h
def xA(l:List UInt8):(bs l).size=l.length:=by simp[bs,ByteArray.size]
end
section
open Go.RowKit
def aF(K:Nat):Prop:=∀(args:Array Value)(w:World),(callFunc K args).run prog w=.ok (.enter K args) w
def enters {K : Nat} {fn : Func} {c : Code} (hf : prog.funcs[K]? = some fn) (Sz : (fn.name == "runtime.NumGoroutine") = false) (hb : fn.body = some c) : aF K := by
 intro args w
 have h1 : fn.name ≠ "runtime.NumGoroutine" := by simpa using Sz
 simp[callFunc,hf,h1,hb]
def aU{ops:Array Oper}{rest:List Oper}{o:Oper}{a:Act}{Q:Exit->Act->World->Prop}{w w':World}{v' vs vx:Value}(Vx:o.guard=none)(s x:Operand)(ts:Array TypeId)
  (ho:o.op=.call { callee:=.builtin .append,args:=#[s,x],argTypes:=ts }) (hs:a.eval s=vs) (hx:a.eval x=vx) (hr:(Builtin.append_ ts o.type #[vs,vx]).run prog w=.ok v' w') (h:wpList prog ops Q rest (a.put o.dst v') w'):wpList prog ops Q (o::rest) a w:=by
 refine wpList_plain Vx fun K hK=>?_;unfold Oper.wp execOp;simp only[ho,resolve,invoke,builtin,Sem.run_bind,Sem.run_pure,Result.andThen_ok,List.map_toArray,map_cons,List.map_nil,hs,hx,hr];exact hK _ _ h
def dI{w:World}{base:Nat}{t:TypeId}{v:Value}{n:Nat}{xs:List Value}(h:w.ownsRow base t 1 v n xs)(hn:n≠0):∃g cap,v=.slice (some ⟨g,0,none⟩) n cap/\∀j x,xs[j]?=some x->w.cell? ⟨g,j,none⟩=some x:=by
 rcases aD h with⟨_,h0⟩|⟨g,cap,rfl⟩
 ·exact absurd h0 hn
 ·refine⟨g,cap,rfl,fun j x hx=>?_⟩;have:=h.cells (g:=g) rfl j x hx;have e:(⟨g,0,none⟩:Addr).add j=⟨g,j,none⟩:=by unfold Addr.add;split<;>simp_all
  rw[e]at this;exact this
end
section
open Go.RowKit
structure Visits(ar:Nm->Nat)(ad:List Nat)(X:Nat->Prop)(rk:Nat->Nat)(U:TS)(K:Nat)(cap:Array Value)(T:List Nat->Nat->Bool)(D:Nat->Prop)(τ:List Nat->TS)(Z:List Nat->World->Prop)(G:List Nat->Prop):Prop where
 enters:aF K
 good:∀acc r,G acc->T acc r=true->G (acc++[r])
 alike:∀acc,Alike U (τ acc)
 ads:∀k∈ad,D k
 rows:∀acc w k c f,aO ar ad X rk (τ acc) w->Z acc w->D k->w.heap[k]?≠some (.cells c aG f)
 stays:∀acc w w',Z acc w->aO ar ad X rk (τ acc) w->Kn (·∈ad) w w'->Z acc w'
 visit:∀acc r w,G acc->aO ar ad X rk (τ acc) w->Z acc w->r<U.nodes.length->U.root r=r->Calls prog K (#[aM ad r]++cap) w fun e w'=>e=.returned (.bool (T acc r))/\aO ar ad X rk (τ (acc++[r])) w'/\Z (acc++[r]) w'/\Kn D w w'
def gU(ar:Nm->Nat)(ad:List Nat)(X:Nat->Prop)(rk:Nat->Nat)(D:Nat->Prop)(τ:List Nat->TS)(Z:List Nat->World->Prop)(acc':List Nat)(b:Bool)(w:World)(e:Ending)(w':World):Prop:=
 e=.returned (.bool b)/\aO ar ad X rk (τ acc') w'/\Z acc' w'/\Kn D w w'
section
variable {ar:Nm->Nat}{ad:List Nat}{X:Nat->Prop}{rk:Nat->Nat}{U:TS}{K:Nat}{cap:Array Value}{T:List Nat->Nat->Bool}{D:Nat->Prop}{τ:List Nat->TS}{Z:List Nat->World->Prop}{G:List Nat->Prop}
def bI{w:World}{base size n:Nat}{e:TypeId}{v:Value}{xs:List Value}(h:w.ownsRow base e size v n xs):n<=9223372036854775807:=by
 rcases h.2 with⟨_,rfl⟩|⟨g,cap,cur,_,_,_,h1,h2,_⟩
 ·omega
 ·unfold maxLen at h2;omega
def RN{g:List Nat->Nat->Option (List Nat×Bool)}:∀{ps:List Nat}{acc acc':List Nat},wk.wkL g acc ps=some (acc',true)->(∀p∈ps,∀a a',g a p=some (a',true)->G a->G a')->G acc->G acc':=by
 intro ps
 induction ps with
 |nil=>intro acc acc' h _ hg;rw[wk.wkL]at h;cases h;exact hg
 |cons p r ih=>
  intro acc acc' h hp hg;rw[wk.wkL]at h
  cases hx:g acc p with
  |none=>rw[hx]at h;cases h
  |some y=>
   obtain⟨a1,b1⟩:=y;rw[hx]at h
   cases b1 with
   |false=>cases h
   |true=>exact ih h (fun q hq=>hp q (mem_cons_of_mem _ hq)) (hp p (mem_cons_self ..) _ _ hx hg)
def XW(Rw:∀acc r,G acc->T acc r=true->G (acc++[r])):∀{n:Nat}{acc acc':List Nat}{i:Nat},wk U T n acc i=some (acc',true)->G acc->G acc':=by
 intro n
 induction n with
 |zero=>intro acc acc' i h;cases h
 |succ n ih=>
  intro acc acc' i h hg;rw[wk]at h;split at h
  ·rename_i hT;exact RN h (fun p _ a a' hx=>ih hx) (Rw _ _ hg hT)
  ·cases h
def QT(ar:Nm->Nat)(ad:List Nat)(X:Nat->Prop)(rk:Nat->Nat)(U:TS)(T:List Nat->Nat->Bool)(D:Nat->Prop)(τ:List Nat->TS)(Z:List Nat->World->Prop)(G:List Nat->Prop)(n:Nat)(w:World)(pv:Value)(ps acc':List Nat)(b:Bool)(k:Nat)(wr:World):Prop:=
 ∃acck,wk.wkL (wk U T n) acck (ps.drop k)=some (acc',b)/\G acck/\aO ar ad X rk (τ acck) wr/\Z acck wr/\Kn D w wr/\wr.ownsRow 0 aG 1 pv ps.length (ps.map (aM ad))
def nV(V:Visits ar ad X rk U K cap T D τ Z G):∀(n:Nat)(acc:List Nat)(i:Nat)(w:World)(acc':List Nat)(b:Bool),wk U T n acc i=some (acc',b)->i<U.nodes.length->G acc->aO ar ad X rk (τ acc) w->Z acc w ->
  Calls prog 117 #[aM ad i,.func (.func K) #[] cap] w (gU ar ad X rk D τ Z acc' b w):=by
 intro n
 induction n with
 |zero=>intro acc i w acc' b h;cases h
 |succ n ih=>
  intro acc i w acc' b Qr hi hG hS hZ;have Kv:=V.alike acc;have hr:=hS.ok.AK (by rw[Kv.len];exact hi);have Uy:=hS.ok.AZ i;rw[Kv.root,Kv.len]at hr;rw[Kv.root,Kv.root]at Uy;have Mz:=dX (rk i+1) i w (lt_succ_self _) hS (by rw[Kv.len];exact hi);have hE:=fun(args:Array Value) (w:World)=>V.enters args w
  have h1:∀e w1,bG ar ad X rk (τ acc) i w e w1->e=.returned (aM ad (U.root i))/\aO ar ad X rk (τ acc) w1/\Z acc w1/\Kn D w w1:=by
   rintro e w1⟨a1,a2,a3,_⟩;exact⟨by rw[a1,Kv.root],a2,V.stays acc w w1 hZ hS a3,a3.wide fun k _ hk=>V.ads k hk⟩
  have h2:=fun w1 hs hz=>V.visit acc (U.root i) w1 hG hs hz hr Uy;rw[wk]at Qr;have HR:=aC Mz;have H1:=aC h1;have H2:=aC h2;generalize hrt:U.root i=r at *;clear Mz h1 h2
  cases hT:T acc r with
  |false=>
   rw[hT]at Qr H2;obtain⟨rfl,rfl⟩:acc++[r]=acc'/\false=b:=by simpa using Qr
   have hQ:∀w',aO ar ad X rk (τ (acc++[r])) w'->Z (acc++[r]) w'->Kn D w w'->gU ar ad X rk D τ Z (acc++[r]) false w (.returned (.bool false)) w':=fun w' a c d=>⟨rfl,a,c,d⟩;have HQ:=aC hQ;clear hQ;unfold aM aA at *;generalize bG ar ad X rk (τ acc) i w=Q1 at *;generalize gU ar ad X rk D τ Z (acc++[r]) false w=Q at *;clear ih hS hZ Kv Qr V hG;go_enter func117,ntmps117;go_wp2_with fail;refine(HR.out).mono ?_;intro e w1 ha;obtain⟨rfl,Li,Lz,Kj⟩:=H1.out e w1 ha;have HV:=aC (H2.out w1 Li Lz);have HK:=aC Kj;clear ha Li Lz Kj H1 H2 HR;go_wp2_with fail;refine(HV.out).mono ?_;rintro e w2⟨rfl,Rm,Nj,Jy⟩;have HF:=aC (HQ.out w2 Rm Nj (HK.out.trans Jy));clear Rm Nj Jy HQ HK HV;go_wp2;exact HF.out
  |true=>
   rw[hT]at Qr H2;have hG1:G (acc++[r]):=V.good _ _ hG hT;have Rw:=V.good;have Wl:wk.wkL (wk U T n) (acc++[r]) (U.node r).parts=some (acc',b):=by simpa using Qr
   have hQ:∀w' b',aO ar ad X rk (τ acc') w'->Z acc' w'->Kn D w w'->b'=b->gU ar ad X rk D τ Z acc' b w (.returned (.bool b')) w':=fun w' b' a c d e=>⟨by rw[e],a,c,d⟩
   have hP:∀w2,aO ar ad X rk (τ (acc++[r])) w2->Z (acc++[r]) w2->∃pv,w2.cell? ⟨bH ad r,1,none⟩=some pv/\w2.ownsRow 0 aG 1 pv (U.node r).parts.length ((U.node r).parts.map (aM ad)):=by
    intro w2 Rm _;have Qp:=V.alike (acc++[r]);obtain⟨pv,fv,_,c2,_,_,_,_,c7,_⟩:=Rm.cell (i:=r) (by rw[Qp.len];exact hr);rw[Qp.parts]at c7;exact⟨pv,c2,c7⟩
   have Nb:∀p∈(U.node r).parts,p<U.nodes.length:=by
    intro p hp;have:=hS.ok.AQ (i:=r) (by rw[Kv.len];exact hr) (by rw[Kv.parts];exact hp)
    rwa [Kv.len]at this
   have Jn:∀acc2 wa wb pv m xs,aO ar ad X rk (τ acc2) wa->Z acc2 wa->Kn D wa wb->wa.ownsRow 0 aG 1 pv m xs->wb.ownsRow 0 aG 1 pv m xs:=by
    intro acc2 wa wb pv m xs hs hz hk ho;refine aE ho fun k c f _ hc=>hk.block k (aB hc) fun hd=>V.rows acc2 wa k c f hs hz hd hc
   have Zt:=aC ih;have HQ:=aC hQ;have HP:=aC hP;have Ya:=aC Jn;clear hQ hP Jn ih;generalize (U.node r).parts=ps at *
   have Kp:∀pv k p wr,ps[k]?=some p->QT ar ad X rk U T D τ Z G n w pv ps acc' b k wr->∃acck acc2 b2,wk U T n acck p=some (acc2,b2)/\G acck/\aO ar ad X rk (τ acck) wr/\Z acck wr /\
     ∀e wr2,gU ar ad X rk D τ Z acc2 b2 wr e wr2->e=.returned (.bool b2)/\(b2=false->aO ar ad X rk (τ acc') wr2/\Z acc' wr2/\Kn D w wr2/\b=false)/\(b2=true->QT ar ad X rk U T D τ Z G n w pv ps acc' b (k+1) wr2):=by
    rintro pv k p wr hp⟨acck,h1,Ov,h2,h3,h4,h5⟩;have Lv:=(List.getElem?_eq_some_iff.1 hp).1
    have hd:ps.drop k=p::ps.drop (k+1):=by
     rw[List.drop_eq_getElem_cons Lv];rw[List.getElem?_eq_getElem Lv]at hp;rw[Option.some.inj hp]
    rw[hd,wk.wkL]at h1
    cases hw:wk U T n acck p with
    |none=>rw[hw]at h1;cases h1
    |some y=>
     obtain⟨acc2,b2⟩:=y;rw[hw]at h1;refine⟨acck,acc2,b2,hw,Ov,h2,h3,?_⟩;rintro e wr2⟨e1,e2,e3,e4⟩;refine⟨e1,fun hb=>?_,fun hb=>?_⟩
     ·subst hb;obtain⟨rfl,rfl⟩:acc2=acc'/\false=b:=by simpa using h1
      exact⟨e2,e3,h4.trans e4,rfl⟩
     ·subst hb;exact⟨acc2,h1,XW Rw hw Ov,e2,e3,h4.trans e4,Ya.out acck wr wr2 pv _ _ h2 h3 e4 h5⟩
   have Mu:∀pv wr,QT ar ad X rk U T D τ Z G n w pv ps acc' b ps.length wr->aO ar ad X rk (τ acc') wr/\Z acc' wr/\Kn D w wr/\true=b:=by
    rintro pv wr⟨acck,h1,_,h2,h3,h4,_⟩;rw[List.drop_length,wk.wkL]at h1;obtain⟨rfl,rfl⟩:acck=acc'/\true=b:=by simpa using h1
    exact⟨h2,h3,h4,rfl⟩
   have Jz:∀pv w2,aO ar ad X rk (τ (acc++[r])) w2->Z (acc++[r]) w2->Kn D w w2->w2.ownsRow 0 aG 1 pv ps.length (ps.map (aM ad))->QT ar ad X rk U T D τ Z G n w pv ps acc' b 0 w2:=fun pv w2 a1 a2 a3 a4=>⟨acc++[r],Wl,hG1,a1,a2,a3,a4⟩;have Jr:∀pv k wr,QT ar ad X rk U T D τ Z G n w pv ps acc' b k wr->wr.ownsRow 0 aG 1 pv ps.length (ps.map (aM ad)):=fun pv k wr ⟨_,_,_,_,_,_,h⟩=>h;have Ku:=aC Kp;have Lx:=aC Mu;have Km:=aC Jz;have Mk:=aC Jr;have i7:=aC Nb;clear Kp Mu Jz Jr Wl Nb Ya Rw hG1 hG;generalize bG ar ad X rk (τ acc) i w=Q1 at *;generalize hQQ:gU ar ad X rk D τ Z acc' b w=Q at *;clear hS hZ Kv Qr V hQQ;unfold aM aA at *;go_enter func117,ntmps117;go_wp2_with fail;refine(HR.out).mono ?_;intro e w1 ha;obtain⟨rfl,Li,Lz,Kj⟩:=H1.out e w1 ha;have HV:=aC (H2.out w1 Li Lz);have HK:=aC Kj;clear ha Li Lz Kj H1 H2 HR;go_wp2_with fail;refine(HV.out).mono ?_;rintro e w2⟨rfl,Rm,Nj,Jy⟩;obtain⟨pv,hc,Qv⟩:=HP.out w2 Rm Nj;have Kd:=aC (Km.out pv w2 Rm Nj (HK.out.trans Jy) Qv);rcases aD Qv with⟨rfl,Ou⟩|⟨g,cap2,rfl⟩
   ·have Lu:ps=[]:=List.length_eq_zero_iff.1 Ou;subst Lu;have HF:=aC (Lx.out _ w2 Kd.out);clear Rm Nj Jy HK HV HP Kd Qv Km Ku Lx Mk Zt i7;go_wp2_with fail;refine wp_loop_rounds 1 ?_;rw[rounds_succ];go_wp2;obtain⟨f1,f2,f3,f4⟩:=HF.out;exact HQ.out _ _ f1 f2 f3 f4
   ·have hplen:ps.length<=9223372036854775807:=bI Qv;clear Rm Nj Jy HK HV HP Qv Km;generalize A6:ps.length=pn at *;go_wp2_with fail
    go_loopg [18] pn (fun gk v18 wr=>∃k,v18=.int .i64 (k:Nat)/\k+gk=pn/\Hid (QT ar ad X rk U T D τ Z G n w (.slice (some ⟨g,0,none⟩) pn cap2) ps acc' b k wr))
    case atStart=>exact⟨0,rfl,by omega,Kd⟩
    case round=>
     clear Kd;obtain⟨k,rfl,hk,Kd⟩:=hrel
     by_cases Js:k<pn
     ·have Lv:k<ps.length:=by omega
      have hp:ps[k]?=some ps[k]:=List.getElem?_eq_getElem Lv;generalize ps[k]=p at hp;have Nb:=i7.out p (List.mem_of_getElem? hp);obtain⟨acck,acc2,b2,hw,Ov,hs,hz,Ml⟩:=Ku.out _ k p wr hp Kd.out
      have Kh:wr.cell? ⟨g,k,none⟩=some (.pointer (some ⟨bH ad p,0,none⟩)):=by
       have:=(Mk.out _ k wr Kd.out).cellAt k (by omega);rw[this,List.getElem?_map,hp];rfl
      have Qo:g<wr.heap.size:=((Mk.out _ k wr Kd.out).lt g rfl).2;have HC:=aC (Zt.out acck p wr acc2 b2 hw Nb Ov hs hz);have Vk:=aC Ml;have Jt:(k:Int)<(pn:Int):=by omega
      clear hw Ov hs hz Ml Kd hp Nb Ku Lx Mk Zt i7;go_wp2_with fail;refine(HC.out).mono ?_;intro e wr2 ha;obtain⟨rfl,Ld,Pj⟩:=Vk.out e wr2 ha
      cases b2 with
      |false=>
       have HF:=aC (Ld rfl);clear ha Ld Pj HC Vk;go_wp2;obtain⟨f1,f2,f3,f4⟩:=HF.out;exact HQ.out _ _ f1 f2 f3 f4.symm
      |true=>
       have HF:=aC (Pj rfl);clear ha Ld Pj HC Vk;go_wp2_with fail
       go_roundg (pn-(k+1))
       case rel=>exact⟨k+1,by simp,by omega,HF⟩
       case measure=>omega
     ·have Mj:k=pn:=by omega
      subst Mj;have HF:=aC (Lx.out _ wr Kd.out);have Jt:¬(k:Int)<(k:Int):=by omega
      clear Kd Ku Lx Mk Zt i7;go_wp2;obtain⟨f1,f2,f3,f4⟩:=HF.out;exact HQ.out _ _ f1 f2 f3 f4
end
end
section
open Go.RowKit
abbrev bU:TypeId:=3
section
variable {ar:Nm->Nat}{ad:List Nat}{X:Nat->Prop}{rk:Nat->Nat}{U:TS}{w w':World}{i:Nat}
def eK(ar:Nm->Nat)(ad:List Nat)(X:Nat->Prop)(rk:Nat->Nat)(U:TS)(v:Value)(w:World)(e:Ending)(w':World):Prop:=
 e=.returned v/\aO ar ad X rk U w'/\Kn (·∈ad) w w'
def aF.fits1:aF 118:=enters func118 (by kernel_rfl) rfl
def PR(x:Value)(sb m:Nat)(w:World)(hm:m<1000)(h:w.heap[sb]?=some (.cells #[.int .i64 m] bU (0,0))) :
  Calls prog 118 #[x,.pointer (some ⟨sb,0,none⟩)] w fun e w'=>e=.returned (.bool (decide (m+1<=eR)))/\w'=w.setCell ⟨sb,0,none⟩ (.int .i64 (m+1:Nat)):=by
 have c0:w.cell? ⟨sb,0,none⟩=some (.int .i64 m):=by simp[cell?,h]
 have f0:w.frozen? ⟨sb,0,none⟩=false:=frozen_of_row _ _ _ _ _ h;generalize hQ:(fun(e:Ending) (w':World)=>e=.returned (.bool (decide (m+1<=eR)))/\w'=w.setCell ⟨sb,0,none⟩ (.int .i64 (m+1:Nat)))=Q;clear h;go_enter func118,ntmps118;go_wp2;rw[<- hQ];refine⟨?_,by rw[Int.natCast_add];rfl⟩
 have hd:decide ((m:Int)+1<=200)=decide (m+1<=eR):=by
  congr 1;exact propext ⟨fun h=>by unfold eR;omega,fun h=>by unfold eR at h;omega⟩
 show Ending.returned (.bool (decide ((m:Int)+1<=200)))=_;rw[hd]
def jI{sb:Nat}{c:Array Value}{t:TypeId}{f:Nat×Nat}(ht:t≠aT)(h:w.heap[sb]?=some (.cells c t f))(hs:aO ar ad X rk U w):sb∉ad:=fun hm=>by
 obtain⟨c2,f2,h2⟩:=hs.isT hm;rw[h]at h2;exact ht (aN h2)
def aO.box{sb:Nat}{c:Array Value}{t:TypeId}{f:Nat×Nat}(hs:aO ar ad X rk U w)(ht:t≠aT)(Oq:t≠aG)(h:w.heap[sb]?=some (.cells c t f))(o:Nat)(v:Value):aO ar ad X rk U (w.setCell ⟨sb,o,none⟩ v):=
 hs.kept (fun k hk=>Below.heap_setCell _ _ _ _ (fun e=>jI ht h hs (by have e:k=sb:=e;rw[<- e];exact hk))) (fun k c2 f2 _ hc=>Below.heap_setCell _ _ _ _ (fun e=>by
  have e:k=sb:=e;rw[e,h]at hc
  exact Oq (aN hc)))
def zY(sb:Nat):Visits ar ad X rk U 118 #[.pointer (some ⟨sb,0,none⟩)] oK (fun k=>k∈ad\/k=sb) (fun _=>U) (fun acc w=>w.heap[sb]?=some (.cells #[.int .i64 acc.length] bU (0,0))) (fun acc=>acc.length<=eR) where
 enters:=aF.fits1
 good acc r _ h:=by simp only[oK,decide_eq_true_eq]at h;rw[length_append];exact h
 alike _:=Alike.refl _
 ads k hk:=inl hk
 rows acc w k c f hs hz hd hc:=by
  rcases hd with hd|rfl
  ·obtain⟨c2,f2,h2⟩:=hs.isT hd;rw[hc]at h2;exact absurd (aN h2) (by decide)
  ·rw[hz]at hc;exact absurd (aN hc) (by decide)
 stays acc w w' hz hs hk:=by rw[hk.block sb (aB hz) (jI (by decide) hz hs)];exact hz
 visit acc r w hg hs hz hr Uy:=by
  refine(PR (aM ad r) sb acc.length w (by unfold eR at hg;omega) hz).mono ?_;rintro e w'⟨rfl,rfl⟩;refine⟨rfl,hs.box (by decide) (by decide) hz 0 _,?_,(Kn.refl _ w).set (inl (inr rfl)) _⟩;rw[heap_setCell_same _ _ _ _ _ _ hz,length_append];rfl
def gU.toB{b:Bool}{D:Nat->Prop}{τ:List Nat->TS}{Z:List Nat->World->Prop}{acc':List Nat}{w0 w1:World}{e:Ending}(h:gU ar ad X rk D τ Z acc' b w1 e w')(h0:Kn (·∈ad) w0 w1)(hD:∀k,k<w0.heap.size->D k->k∈ad):e=.returned (.bool b)/\aO ar ad X rk (τ acc') w'/\Kn (·∈ad) w0 w':=by
 obtain⟨h1,h2,_,h4⟩:=h;exact⟨h1,h2,h0.trans' h4 fun k hk hd=>hD k hk hd⟩
def oZ(h:aO ar ad X rk U w)(hi:i<U.nodes.length):Calls prog 77 #[aM ad i] w (eK ar ad X rk U (.bool (U.fits i)) w):=by
 obtain⟨acc',Qr⟩:=U.BR i;have h1:=h.alloc (.cells #[.int .i64 0] bU);have hb:(w.alloc (.cells #[.int .i64 0] bU)).heap[w.heap.size]?=some (.cells #[.int .i64 ([]:List Nat).length] bU (0,0)):=(heap_alloc w _).1;have hc:=nV (zY (ar:=ar) (ad:=ad) (X:=X) (rk:=rk) (U:=U) w.heap.size) dF [] i (w.alloc (.cells #[.int .i64 0] bU)) acc' (U.fits i) Qr hi (zero_le _) h1 hb
 have hq:∀e w',gU ar ad X rk (fun k=>k∈ad\/k=w.heap.size) (fun _=>U) (fun acc w1=>w1.heap[w.heap.size]?=some (.cells #[.int .i64 acc.length] bU (0,0))) acc' (U.fits i) (w.alloc (.cells #[.int .i64 0] bU)) e w'->e=.returned (.bool (U.fits i))/\eK ar ad X rk U (.bool (U.fits i)) w (.returned (.bool (U.fits i))) w':=by
  intro e w' ha
  obtain⟨a1,a2,a3⟩:=ha.toB (w0:=w) ((Kn.refl _ w).alloc _) (fun k hk hd=>by
   rcases hd with hd|rfl
   ·exact hd
   ·omega)
  exact⟨a1,rfl,a2,a3⟩
 have HC:=aC hc;have HQ:=aC hq;clear hc hq hb h1 h Qr;generalize eK ar ad X rk U (.bool (U.fits i)) w=Q at *;generalize gU ar ad X rk (fun k=>k∈ad\/k=w.heap.size) (fun _=>U) (fun acc w1=>w1.heap[w.heap.size]?=some (.cells #[.int .i64 acc.length] bU (0,0))) acc' (U.fits i) (w.alloc (.cells #[.int .i64 0] bU))=Q1 at *;generalize U.fits i=ft at *;unfold aM aA at *;go_enter func77,ntmps77;go_wp2_with fail;refine(HC.out).mono ?_;intro e w1 ha;obtain⟨rfl,hq⟩:=HQ.out e w1 ha;have HF:=aC hq;clear ha hq HQ HC;go_wp2;exact HF.out
def aF.has1:aF 164:=enters func164 (by kernel_rfl) rfl
def VH(h:aO ar ad X rk U w)(hi:i<U.nodes.length) :
  Calls prog 164 #[aM ad i] w fun e w'=>e=.returned (.bool (!U.AC i))/\w'=w:=by
 have hc:=cH h hi;have HC:=aC hc;clear hc h;generalize hQ:(fun(e:Ending) (w':World)=>e=.returned (.bool (!U.AC i))/\w'=w)=Q;generalize U.AC i=lt at *;unfold aM aA at *;go_enter func164,ntmps164;go_wp2_with fail;refine(HC.out).mono ?_;rintro e w1⟨rfl,rfl⟩;go_wp2;rw[<- hQ];exact⟨rfl,rfl⟩
def IT:Visits ar ad X rk U 164 #[] (fun _ j=>!U.AC j) (·∈ad) (fun _=>U) (fun _ _=>True) (fun _=>True) where
 enters:=aF.has1
 good _ _ _ _:=trivial
 alike _:=Alike.refl _
 ads _ hk:=hk
 rows acc w k c f hs _ hd hc:=by
  obtain⟨c2,f2,h2⟩:=hs.isT hd;rw[hc]at h2;exact absurd (aN h2) (by decide)
 stays _ _ _ _ _ _:=trivial
 visit acc r w _ hs _ hr _:=by
  refine(VH hs hr).mono ?_;rintro e w'⟨rfl,rfl⟩;exact⟨rfl,hs,trivial,Kn.refl _ _⟩
def tO(h:aO ar ad X rk U w)(hi:i<U.nodes.length)(hf:U.fits i=true):Calls prog 116 #[aM ad i] w (eK ar ad X rk U (.bool (U.AW i)) w):=by
 obtain⟨acc',b,Qr⟩:=TS.BW hf (fun _ j=>!U.AC j);have hb:U.AW i=!b:=by unfold TS.AW;rw[Qr];cases b<;>rfl
 have hc:=nV (IT (ar:=ar) (ad:=ad) (X:=X) (rk:=rk) (U:=U)) dF [] i w acc' b Qr hi trivial h trivial
 have hq:∀e w',gU ar ad X rk (·∈ad) (fun _=>U) (fun _ _=>True) acc' b w e w'->e=.returned (.bool b)/\eK ar ad X rk U (.bool (!b)) w (.returned (.bool (!b))) w':=by
  intro e w' ha;obtain⟨a1,a2,a3⟩:=ha.toB (w0:=w) (Kn.refl _ w) (fun k _ hd=>hd);exact⟨a1,rfl,a2,a3⟩
 rw[hb];have HC:=aC hc;have HQ:=aC hq;clear hc hq h Qr hb hf;generalize eK ar ad X rk U (.bool (!b)) w=Q at *;generalize gU ar ad X rk (·∈ad) (fun _=>U) (fun _ _=>True) acc' b w=Q1 at *;unfold aM aA at *;go_enter func116,ntmps116;go_wp2_with fail;refine(HC.out).mono ?_;intro e w1 ha;obtain⟨rfl,hq⟩:=HQ.out e w1 ha;have HF:=aC hq;clear ha hq HQ HC;go_wp2;exact HF.out
end
end
section
open Go.RowKit
section
variable {ar:Nm->Nat}{ad:List Nat}{X:Nat->Prop}{rk:Nat->Nat}{U:TS}{w w':World}{i:Nat}
def aF.EA:aF 213:=enters func213 (by kernel_rfl) rfl
def aO.drewN(h:aO ar ad X rk U w)(n:Nat):aO ar ad X rk U (w.drewN n):=h.kept (fun _ _=>rfl) (fun _ _ _ _ _=>rfl)
def Kn.drewN{D:Nat->Prop}{a:World}(h:Kn D a w)(n:Nat):Kn D a (w.drewN n):=⟨h.os,h.tape,h.output,h.size,h.block⟩
def OD{db d:Nat}(h:aO ar ad X rk U w)(hi:i<U.nodes.length)(hb:w.heap[db]?=some (.cells #[.int .i64 d] bU (0,0))) :
  Calls prog 213 #[aM ad i,.pointer (some ⟨db,0,none⟩)] w (eK ar ad X rk (if (U.AC i && decide (d<U.depth i))=true then U.AG i gJ else U) (.bool true) w):=by
 have hc:=fun n=>cH (h.drewN n) hi;obtain⟨pv,fv,_,_,_,c3,_,f3,_,_⟩:=h.cell hi;have cd:w.cell? ⟨db,0,none⟩=some (.int .i64 d):=by simp[cell?,hb]
 have Sk:(U.node i).depth=U.depth i:=rfl;rw[Sk]at c3;have Jv:bH ad i∈ad:=dE (by rw[h.len];exact hi)
 have Yg:∀n,(U.AC i && decide (d<U.depth i))=false->eK ar ad X rk (if (U.AC i && decide (d<U.depth i))=true then U.AG i gJ else U) (.bool true) w (.returned (.bool true)) (w.drewN n):=fun n hf=>by
  rw[hf];exact⟨rfl,h.drewN n,(Kn.refl _ w).drewN n⟩
 have Ki:∀n,(U.AC i && decide (d<U.depth i))=true->eK ar ad X rk (if (U.AC i && decide (d<U.depth i))=true then U.AG i gJ else U) (.bool true) w (.returned (.bool true)) ((w.drewN n).setCell ⟨bH ad i,3,none⟩ (.int .i64 gJ)):=fun n hf=>by
  rw[hf];exact⟨rfl,(h.drewN n).AG hi gJ,((Kn.refl _ w).drewN n).set (inl Jv) _⟩
 have HC:=aC hc;have i6:=aC Yg;have HQ2:=aC Ki;clear hc h hb Sk Yg Ki Jv;generalize eK ar ad X rk (if (U.AC i && decide (d<U.depth i))=true then U.AG i gJ else U) (.bool true) w=Q at *;generalize U.depth i=dp at *;generalize U.AC i=lt at *;unfold aM aA at *;generalize bH ad i=b at *
 cases lt with
 |false=>
  go_enter func213,ntmps213;go_wp2_with fail
  go_quiet (first|(go_at_call 45;refine Calls.quiet_of_same (HC.out _)))
  go_wp2;exact i6.out _ rfl
 |true=>
  by_cases hd:d<dp
  ·have Ym:(d:Int)<(dp:Int):=by omega
   have hd3:decide (d<dp)=true:=decide_eq_true hd;go_enter func213,ntmps213;go_wp2_with fail
   go_quiet (first|(go_at_call 45;refine Calls.quiet_of_same (HC.out _)))
   go_wp2;exact HQ2.out _ (by rw[hd3];rfl)
  ·have Ym:¬(d:Int)<(dp:Int):=by omega
   have hd3:decide (d<dp)=false:=decide_eq_false hd;have hd4:decide ((d:Int)<(dp:Int))=false:=decide_eq_false Ym;go_enter func213,ntmps213;go_wp2_with fail
   go_quiet (first|(go_at_call 45;refine Calls.quiet_of_same (HC.out _)))
   go_wp2;exact i6.out _ (by rw[hd3];rfl)
def zA(db d:Nat):Visits ar ad X rk U 213 #[.pointer (some ⟨db,0,none⟩)] (fun _ _=>true) (fun k=>k∈ad\/k=db) (fun acc=>opened U d acc) (fun _ w=>w.heap[db]?=some (.cells #[.int .i64 d] bU (0,0))) (fun _=>True) where
 enters:=aF.EA
 good _ _ _ _:=trivial
 alike acc:=gI acc U d
 ads k hk:=inl hk
 rows acc w k c f hs hz hd hc:=by
  rcases hd with hd|rfl
  ·obtain⟨c2,f2,h2⟩:=hs.isT hd;rw[hc]at h2;exact absurd (aN h2) (by decide)
  ·rw[hz]at hc;exact absurd (aN hc) (by decide)
 stays acc w w' hz hs hk:=by rw[hk.block db (aB hz) (jI (by decide) hz hs)];exact hz
 visit acc r w _ hs hz hr Uy:=by
  have Jm:=(gI acc U d).len;have Lj:r<(opened U d acc).nodes.length:=by rw[Jm];exact hr
  refine(OD hs Lj hz).mono ?_;rintro e w'⟨rfl,h2,h3⟩;rw[yZ];exact⟨rfl,h2,by rw[h3.block db (aB hz) (jI (by decide) hz hs)];exact hz,h3.wide fun k _ hk=>inl hk⟩
def XN(d:Nat)(h:aO ar ad X rk U w)(hi:i<U.nodes.length)(hf:U.fits i=true):Calls prog 163 #[aM ad i,.int .i64 d] w (eK ar ad X rk (U.AV d i) (.tuple #[]) w):=by
 have Qr:=TS.BV hf;have h1:=h.alloc (.cells #[.int .i64 d] bU);have hb:(w.alloc (.cells #[.int .i64 d] bU)).heap[w.heap.size]?=some (.cells #[.int .i64 d] bU (0,0)):=(heap_alloc w _).1;have hc:=nV (zA (ar:=ar) (ad:=ad) (X:=X) (rk:=rk) (U:=U) w.heap.size d) dF [] i (w.alloc (.cells #[.int .i64 d] bU)) (U.pre i) true Qr hi trivial h1 hb
 have hq:∀e w',gU ar ad X rk (fun k=>k∈ad\/k=w.heap.size) (fun acc=>opened U d acc) (fun _ w1=>w1.heap[w.heap.size]?=some (.cells #[.int .i64 d] bU (0,0))) (U.pre i) true (w.alloc (.cells #[.int .i64 d] bU)) e w'->e=.returned (.bool true)/\eK ar ad X rk (U.AV d i) (.tuple #[]) w (.returned (.tuple #[])) w':=by
  intro e w' ha
  obtain⟨a1,a2,a3⟩:=ha.toB (w0:=w) ((Kn.refl _ w).alloc _) (fun k hk hd=>by
   rcases hd with hd|rfl
   ·exact hd
   ·omega)
  exact⟨a1,rfl,a2,a3⟩
 have HC:=aC hc;have HQ:=aC hq;clear hc hq hb h1 h Qr hf;generalize eK ar ad X rk (U.AV d i) (.tuple #[]) w=Q at *;generalize gU ar ad X rk (fun k=>k∈ad\/k=w.heap.size) (fun acc=>opened U d acc) (fun _ w1=>w1.heap[w.heap.size]?=some (.cells #[.int .i64 d] bU (0,0))) (U.pre i) true (w.alloc (.cells #[.int .i64 d] bU))=Q1 at *;unfold aM aA at *;go_enter func163,ntmps163;go_wp2_with fail;refine(HC.out).mono ?_;intro e w1 ha;obtain⟨rfl,hq⟩:=HQ.out e w1 ha;have HF:=aC hq;clear ha hq HQ HC;go_wp2
 first|exact HF.out|(go_ret3;exact HF.out)|(go_end0;exact HF.out)
end
end
section
open Go.RowKit Go.MapKept
def fY(b:Nat):Value:=.pointer (some ⟨b,0,none⟩)
def fH(w:World)(b:Nat):Prop:=∃c t,w.heap[b]?=some (.cells c t (0,0))
def pI{P:Program}{k e:TypeId}{j:TypeInfo}(hk:P.underlying k=some (.pointer e))(hj:P.info? e=some j)(Ke:j.size≠0){w:World}{x y:Nat}(hx:fH w x)(hy:fH w y):(Op.equal k (fY x) (fY y)).run P w=.ok (decide (x=y)) w:=by
 by_cases he:x=y
 ·subst he
  have h:∀d:Nat,(Op.equalIn (d+1) k (fY x) (fY x)).run P w=.ok true w:=fun d=>by
   simp[Op.equalIn,fY,run_underlying hk,sizeOf,typeInfo,hj,run_sameAddr_same]
  simp[Op.equal,Op.maxDepth,h 9999]
 ·obtain⟨cx,tx,hx⟩:=hx;obtain⟨cy,ty,hy⟩:=hy;have Ju:(⟨x,0,none⟩:Addr)≠⟨y,0,none⟩:=fun e=>he (by simpa using e)
  have h:∀d:Nat,(Op.equalIn (d+1) k (fY x) (fY y)).run P w=.ok false w:=fun d=>by
   simp[Op.equalIn,fY,run_underlying hk,sizeOf,typeInfo,hj,Ke,run_sameAddr_other w Ju hx hy]
  simp[Op.equal,Op.maxDepth,h 9999,he]
def ZU{P:Program}{k e:TypeId}{j:TypeInfo}(hk:P.underlying k=some (.pointer e))(hj:P.info? e=some j)(Ke:j.size≠0){w:World}{x:Nat}(hx:fH w x):∀(es:List MapEntry)(i:Nat),(∀e∈es,∃y,fH w y/\e.key=fY y) ->
  ((findAsking k (fY x) es i).run P w=.ok none w/\∀e∈es,e.key≠fY x)\/∃j' e',(findAsking k (fY x) es i).run P w=.ok (some (i+j',e'.val)) w/\es[j']?=some e'/\e'.key=fY x:=by
 intro es
 induction es with
 |nil=>intro i _;exact inl ⟨by simp[findAsking],by simp⟩
 |cons a r ih=>
  intro i h;obtain⟨y,hy,ey⟩:=h a (mem_cons_self ..);have heq:=pI hk hj Ke hx hy
  by_cases he:x=y
  ·subst he;exact inr ⟨0,a,by simp[findAsking,ey,heq,andThen],rfl,ey⟩
  ·have hane:a.key≠fY x:=by rw[ey];intro e2;exact he (by simpa [fY]using e2.symm)
   rcases ih (i+1) (fun e he=>h e (mem_cons_of_mem _ he))with⟨h1,h2⟩|⟨j',e',h1,h2,h3⟩
   ·refine inl ⟨by simp[findAsking,ey,heq,he,h1,andThen],fun e he=>?_⟩;rcases mem_cons.1 he with rfl|he
    ·exact hane
    ·exact h2 e he
   ·exact inr ⟨j'+1,e',by simp[findAsking,ey,heq,he,h1,andThen];omega,by simpa using h2,h3⟩
def NX{P:Program}{k e:TypeId}{j:TypeInfo}(hk:P.underlying k=some (.pointer e))(hj:P.info? e=some j)(Ke:j.size≠0):jL P k (fun _:Nat=>True) fH fY where
 inj _ _ h:=by simpa [fY]using h
 check w em x _:=by
  unfold Instr.checkKey;simp[run_underlying hk,andThen,fY]
 find w x _ hx es K6:=by
  cases es with
  |nil=>exact inl ⟨by simp[findKey,run_underlying hk,findNow,andThen],by simp⟩
  |cons a r=>
   have Sy:findNow (.pointer e) (fY x) (a::r) 0=none:=by
    simp[findNow,Instr.sameNow]
   have Jo:(findKey k (fY x) (a::r)).run P w=(findAsking k (fY x) (a::r)).run P w:=by
    simp[findKey,run_underlying hk,Sy,andThen]
   rw[Jo];rcases ZU hk hj Ke hx (a::r) 0 (fun e he=>by obtain⟨y,_,hy,ey⟩:=K6 e he;exact⟨y,hy,ey⟩)with h|⟨j',e',h1,h2⟩
   ·exact inl h
   ·exact inr ⟨j',e',by simpa using h1,h2⟩
 stays w x _:=by
  unfold Instr.keyThatStays;simp[Instr.sameBits,fY]
end
section
open Go.RowKit
section
variable {ar:Nm->Nat}{ad:List Nat}{X:Nat->Prop}{rk:Nat->Nat}{U:TS}{w w':World}{i:Nat}
def aF.DD:aF 286:=enters func286 (by kernel_rfl) rfl
def kK:(prog.info? aT).map (fun j=>j.size)=some 4:=by kernel_rfl
def qB:prog.underlying aG=some (.pointer aT):=by kernel_rfl
def ZS{b1 b2:Nat}{w:World}(h1:fH w b1)(h2:fH w b2):(binOp .neq aG (.pointer (some ⟨b1,0,none⟩)) (.pointer (some ⟨b2,0,none⟩))).run prog w=.ok (.bool (decide (b1≠b2))) w:=by
 obtain⟨j,hj⟩:∃j,prog.info? aT=some j:=by
  cases hx:prog.info? aT with
  |none=>have:=kK;rw[hx]at this;cases this
  |some j=>exact⟨j,rfl⟩
 have Ke:j.size≠0:=by
  have:=kK;rw[hj]at this;have h4:j.size=4:=by simpa using this
  omega
 have:=pI qB hj Ke h1 h2;unfold fY at this;simp only[binOp];simp[this,andThen]
def ZT{b1 b2:Nat}{w:World}(h1:fH w b1)(h2:fH w b2):(binOp .eql aG (.pointer (some ⟨b1,0,none⟩)) (.pointer (some ⟨b2,0,none⟩))).run prog w=.ok (.bool (decide (b1=b2))) w:=by
 obtain⟨j,hj⟩:∃j,prog.info? aT=some j:=by
  cases hx:prog.info? aT with
  |none=>have:=kK;rw[hx]at this;cases this
  |some j=>exact⟨j,rfl⟩
 have Ke:j.size≠0:=by
  have:=kK;rw[hj]at this;have h4:j.size=4:=by simpa using this
  omega
 have:=pI qB hj Ke h1 h2;unfold fY at this;simp only[binOp];simp[this,andThen]
def aO.isVar(h:aO ar ad X rk U w)(hi:i<U.nodes.length):fH w (bH ad i):=by
 obtain⟨pv,fv,h1,_⟩:=h.cells hi;exact⟨_,_,h1⟩
def GB{tbx t:Nat}(h:aO ar ad X rk U w)(hi:i<U.nodes.length)(ht:t<U.nodes.length)(hb:w.heap[tbx]?=some (.cells #[aM ad t] aG (0,0))) :
  Calls prog 286 #[aM ad i,.pointer (some ⟨tbx,0,none⟩)] w (eK ar ad X rk (if U.AC i then U.AG i (min (U.depth i) (U.depth t))else U) (.bool (i != t)) w):=by
 have hc:=cH h hi;obtain⟨pv,fv,_,_,_,c3,_,f3,_,_⟩:=h.cell hi;obtain⟨pv2,fv2,_,_,_,t3,_,_,_,_⟩:=h.cell ht;have cd:w.cell? ⟨tbx,0,none⟩=some (aM ad t):=by simp[cell?,hb]
 have Sk:(U.node i).depth=U.depth i:=rfl;have Xn:(U.node t).depth=U.depth t:=rfl;rw[Sk]at c3;rw[Xn]at t3
 have Ju:∀w',aO ar ad X rk (if U.AC i then U.AG i (min (U.depth i) (U.depth t))else U) w'->(binOp .neq aG (.pointer (some ⟨bH ad i,0,none⟩)) (.pointer (some ⟨bH ad t,0,none⟩))).run prog w'=.ok (.bool (i != t)) w':=fun w' hs=>by
  have Jm:(if U.AC i then U.AG i (min (U.depth i) (U.depth t))else U).nodes.length=U.nodes.length:=by
   split
   ·exact(Alike.AG _ _ _).len
   ·rfl
  rw[ZS (hs.isVar (by rw[Jm];exact hi)) (hs.isVar (by rw[Jm];exact ht))];congr 2
  by_cases he:i=t
  ·subst he;simp
  ·have:bH ad i≠bH ad t:=fun e=>he (kW h.lt (by rw[h.len];exact hi) (by rw[h.len];exact ht) e);simp[he,this]
 have Jv:bH ad i∈ad:=dE (by rw[h.len];exact hi);have Pv:tbx∉ad:=jI (by decide) hb h;have HC:=aC hc;have Yb:=aC Ju
 cases hl:U.AC i with
 |false=>
  rw[hl]at HC Yb;have hq:eK ar ad X rk U (.bool (i != t)) w (.returned (.bool (i != t))) w:=⟨rfl,h,Kn.refl _ _⟩;have Jo:=Yb.out w h;simp only[Bool.false_eq_true,if_false];have HQ:=aC hq;clear hc Ju Yb hq h hb Jv Pv Sk Xn c3 f3 t3;generalize eK ar ad X rk U (.bool (i != t)) w=Q at *;generalize (i != t)=bv at *;unfold aM aA at *;generalize bH ad i=b at *;generalize bH ad t=b2 at *;go_enter func286,ntmps286;go_wp2_with fail;refine(HC.out).mono ?_;rintro e w1⟨rfl,rfl⟩;go_wp2;exact HQ.out
 |true=>
  rw[hl]at HC Yb
  have hq:aO ar ad X rk (U.AG i (min (U.depth i) (U.depth t))) (w.setCell ⟨bH ad i,3,none⟩ (.int .i64 ((min (U.depth i) (U.depth t):Nat)))).drew/\Kn (·∈ad) w (w.setCell ⟨bH ad i,3,none⟩ (.int .i64 ((min (U.depth i) (U.depth t):Nat)))).drew/\(w.setCell ⟨bH ad i,3,none⟩ (.int .i64 ((min (U.depth i) (U.depth t):Nat)))).drew.cell? ⟨tbx,0,none⟩=some (aM ad t):=by
   refine⟨(h.AG hi _).kept (fun _ _=>rfl) (fun _ _ _ _ _=>rfl),((Kn.refl _ w).set (inl Jv) _).drew,?_⟩
   have e1:(w.setCell ⟨bH ad i,3,none⟩ (.int .i64 ((min (U.depth i) (U.depth t):Nat)))).drew.heap[tbx]?=some (.cells #[aM ad t] aG (0,0)):=by
    show (w.setCell ⟨bH ad i,3,none⟩ (.int .i64 ((min (U.depth i) (U.depth t):Nat)))).heap[tbx]?=_;rw[Below.heap_setCell _ _ _ _ (fun e=>Pv (by have e:tbx=bH ad i:=e;rw[e];exact Jv))];exact hb
   simp[cell?,e1]
  have Jp:∀w',aO ar ad X rk (U.AG i (min (U.depth i) (U.depth t))) w'->Kn (·∈ad) w w'->eK ar ad X rk (U.AG i (min (U.depth i) (U.depth t))) (.bool (i != t)) w (.returned (.bool (i != t))) w':=fun w' a b=>⟨rfl,a,b⟩;simp only[if_true]at Yb ⊢;have Xj:((min (U.depth i) (U.depth t):Nat):Int)=min (U.depth i:Int) (U.depth t:Int):=by omega
  rw[Xj]at hq;have HQ:=aC hq;have HF:=aC Jp;clear hc Ju hq Jp h hb Jv Pv Sk Xn Xj;generalize eK ar ad X rk (U.AG i (min (U.depth i) (U.depth t))) (.bool (i != t)) w=Q at *;generalize (i != t)=bv at *;generalize aO ar ad X rk (U.AG i (min (U.depth i) (U.depth t)))=SS at *;generalize hdi:U.depth i=di at *;generalize hdt:U.depth t=dt at *;unfold aM aA at *;generalize bH ad i=b at *;generalize bH ad t=b2 at *;go_enter func286,ntmps286;go_wp2_with fail;refine(HC.out).mono ?_;rintro e w1⟨rfl,rfl⟩;go_wp2_with fail
  go_region
  obtain⟨q1,q2,q3⟩:=HQ.out;have HR:=aC (Yb.out _ q1);have HFF:=aC (HF.out _ q1 q2);clear q1 q2 HQ Yb HF HC c3 f3 t3 cd;generalize (w1.setCell ⟨b,3,none⟩ (.int .i64 (min (di:Int) (dt:Int)))).drew=w3 at *;have Jo:=HR.out;go_wp2;exact HFF.out
end
end
section
open Go.RowKit
def gL(s:ByteArray)(w:World):Calls prog 36 #[.string s] w fun e w'=>e=.returned (.agg #[.int .i64 0,.string s])/\w'=w.alloc (.cells #[.int .i64 0,.string s] eE):=by
 go_enter func36,ntmps36;go_wp2;refine bodyPost_ret (v:=.agg #[.int .i64 0,.string s]) (by simp[results,results36,go_sem]) rfl ⟨rfl,rfl⟩
def lY(s:ByteArray)(w:World):Calls prog 25 #[.string s] w fun e w'=>e=.returned (.agg #[.int .i64 1,.string s])/\w'=w.alloc (.cells #[.int .i64 1,.string s] eE):=by
 go_enter func25,ntmps25;go_wp2;refine bodyPost_ret (v:=.agg #[.int .i64 1,.string s]) (by simp[results,results25,go_sem]) rfl ⟨rfl,rfl⟩
def jG(s:ByteArray)(w:World):Calls prog 35 #[.string s] w fun e w'=>e=.returned (.agg #[.int .i64 2,.string s])/\w'=w.alloc (.cells #[.int .i64 2,.string s] eE):=by
 go_enter func35,ntmps35;go_wp2;refine bodyPost_ret (v:=.agg #[.int .i64 2,.string s]) (by simp[results,results35,go_sem]) rfl ⟨rfl,rfl⟩
section
variable {tb n:Nat}{f:Ky->Option Value}{w:World}{x:Ky}
def jE(h:aQ cL eL w tb n f)(hx:cL x)(c:Bool):(lookup dA (.map (some tb)) (.agg #[.int .i64 x.1,.string (bs x.2)]) c).run prog w=.ok (if c then .tuple #[(f x).getD (.agg #[.pointer none,.string ⟨#[]⟩,.slice none 0 0,.slice none 0 0,.int .i64 0,.int .i64 0]),.bool (f x).isSome]else(f x).getD (.agg #[.pointer none,.string ⟨#[]⟩,.slice none 0 0,.slice none 0 0,.int .i64 0,.int .i64 0])) w:=
 h.look jZ iR (Am w) hx trivial (fun _ _=>trivial) c
def aQ.alloc(h:aQ cL eL w tb n f)(o:Obj):aQ cL eL (w.alloc o) tb n f:=h.kept (Below.heap_alloc _ _ _ h.lt)
def Six(v:Value):Prop:=∃(p:Option Addr) (t:ByteArray) (a1:Option Addr) (n1 c1:Nat) (a2:Option Addr) (n2 c2:Nat) (i j:Int),v=.agg #[.pointer p,.string t,.slice a1 n1 c1,.slice a2 n2 c2,.int .i64 i,.int .i64 j]
def fE.six{ad:List Nat}{m:Mg}{v:Value}(h:fE ad w m v):Six v:=by
 obtain⟨lv,pv,bl,rfl,_,e3,e4,_⟩:=h
 have Xb:∃p,SW ad m.scheme=.pointer p:=by
  cases m.scheme with
  |none=>exact⟨none,rfl⟩
  |some t=>exact⟨_,rfl⟩
 obtain⟨p,hp⟩:=Xb;rw[hp];rcases aD e3 with⟨rfl,_⟩|⟨g,cap,rfl⟩<;>rcases aD e4 with⟨rfl,_⟩|⟨g',cap',rfl⟩<;>exact⟨_,_,_,_,_,_,_,_,_,_,rfl⟩
def Dg(h:aQ cL eL w tb n f)(hx:cL x)(hs:∀v,f x=some v->Six v):Calls prog 154 #[.map (some tb),eL x] w fun e w'=>e=.returned (.bool (f x).isSome)/\Below w.heap.size w w':=by
 have hl:=jE (h.alloc (.cells #[.int .i64 x.1,.string (bs x.2)] eE)) hx true;simp only[if_true]at hl
 obtain⟨g0,g1,a1,n1,c1,a2,n2,c2,g4,g5,hg⟩:Six ((f x).getD (.agg #[.pointer none,.string ⟨#[]⟩,.slice none 0 0,.slice none 0 0,.int .i64 0,.int .i64 0])):=by
  cases hf:f x with
  |none=>exact⟨_,_,_,_,_,_,_,_,_,_,rfl⟩
  |some v=>exact hs v hf
 rw[hg]at hl;unfold eL;have hb:Below w.heap.size w ((w.alloc (.cells #[.int .i64 x.1,.string (bs x.2)] eE)).alloc (.cells #[.pointer g0,.string g1,.slice a1 n1 c1,.slice a2 n2 c2,.int .i64 g4,.int .i64 g5] iK)):=((Below.refl _ w).alloc (le_refl _) _).alloc (by simp) _;have HB:=aC hb;clear h hx hs hg hb;generalize hQ:(fun(e:Ending) (w':World)=>e=.returned (.bool (f x).isSome)/\Below w.heap.size w w')=Q;generalize (f x).isSome=sm at *;generalize x.1=sp at *;generalize bs x.2=nm at *;go_enter func154,ntmps154;go_wp2;rw[<- hQ];exact⟨rfl,HB.out⟩
end
end
section
open Go.RowKit
def turned_ne'{w:World}{b:Nat}{es es':Array MapEntry}{clock clock':Nat}(hm:w.heap[b]?=some (.map es clock))(k:Nat)(hk:k≠b):(setBlock w b (.map es' clock')).heap[k]?=w.heap[k]?:=
 (heap_set hm).2 k hk
def Kn.AM{D:Nat->Prop}{a w w':World}{b:Nat}(h:Kn D a w)(ht:w.mapTurned w' b)(hb:D b\/a.heap.size<=b):Kn D a w':=by
 obtain⟨es,clock,es',clock',hm,rfl⟩:=ht;refine⟨h.os,h.tape,h.output,?_,fun k Kj Jy=>?_⟩
 ·have:=h.size;simpa [setBlock]using this
 ·rw[turned_ne' hm k (fun e=>by subst e;rcases hb with hb|hb;exact Jy hb;omega)];exact h.block k Kj Jy
def eZ{w w':World}{b k:Nat}(h:w.mapTurned w' b)(hk:k≠b):w'.heap[k]?=w.heap[k]?:=by
 obtain⟨es,clock,es',clock',hb,rfl⟩:=h;exact(heap_set hb).2 k hk
def jP{w w':World}{b:Nat}(h:w.mapTurned w' b):w'.heap.size=w.heap.size:=by
 obtain⟨es,clock,es',clock',hb,rfl⟩:=h;simp[setBlock]
def bC(w:World)(o:Obj)(k:Nat):(w.alloc o).heap[k]?=if k=w.heap.size then some o else w.heap[k]?:=by
 split
 ·next h=>subst h;exact(heap_alloc w o).1
 ·next h=>
  by_cases hk:k<w.heap.size
  ·exact Below.heap_alloc _ _ _ hk
  ·rw[Array.getElem?_eq_none (by simp;omega),Array.getElem?_eq_none (by omega)]
def aK(w:World)(o:Obj):(w.alloc o).heap.size=w.heap.size+1:=by simp
def lK(W:Nat):Value:=.func (.func 203) #[] #[.pointer (some ⟨W+4,0,none⟩),.pointer (some ⟨W+3,0,none⟩),.pointer (some ⟨W,0,none⟩),.pointer (some ⟨W+1,0,none⟩)]
structure Unb(tb:Nat)(x:Ky)(old:Option Value)(W:Nat)(w:World):Prop where
 tab:w.heap[W]?=some (.cells #[.map (some tb)] dA (0,0))
 key:w.heap[W+1]?=some (.cells #[.int .i64 x.1,.string (bs x.2)] eE (0,0))
 bef:∃(p:Option Addr) (t:ByteArray) (a1:Option Addr) (n1 c1:Nat) (a2:Option Addr) (n2 c2:Nat) (i j:Int),w.heap[W+3]?=some (.cells #[.pointer p,.string t,.slice a1 n1 c1,.slice a2 n2 c2,.int .i64 i,.int .i64 j] iK (0,0))/\∀v,old=some v->v=.agg #[.pointer p,.string t,.slice a1 n1 c1,.slice a2 n2 c2,.int .i64 i,.int .i64 j]
 was:w.heap[W+4]?=some (.cells #[.bool old.isSome] 4 (0,0))
def Unb.kept{tb:Nat}{x:Ky}{old:Option Value}{W:Nat}{w w':World}(h:Unb tb x old W w)(hk:∀k,W<=k->k<W+5->w'.heap[k]?=w.heap[k]?):Unb tb x old W w':=by
 obtain⟨h1,h2,⟨p,t,a1,n1,c1,a2,n2,c2,i,j,h3,Xz⟩,h4⟩:=h;exact⟨(hk _ (by omega) (by omega)).trans h1,(hk _ (by omega) (by omega)).trans h2,⟨p,t,a1,n1,c1,a2,n2,c2,i,j,(hk _ (by omega) (by omega)).trans h3,Xz⟩,(hk _ (by omega) (by omega)).trans h4⟩
section
variable {tb n:Nat}{f:Ky->Option Value}{w:World}{x:Ky}
def pA(h:aQ cL eL w tb n f)(hx:cL x)(hs:∀v,f x=some v->Six v){m:Value}(hm:Six m) :
  Calls prog 156 #[.map (some tb),eL x,m] w fun e w'=>e=.returned (lK w.heap.size)/\(∃n',aQ cL eL w' tb n' (fun y=>if y=x then some m else f y))/\Unb tb x (f x) w.heap.size w'/\w'.heap.size=w.heap.size+5/\Kn (·=tb) w w':=by
 obtain⟨p0,s0,u1,v1,d1,u2,v2,d2,i0,j0,rfl⟩:=hm;generalize hQ:(fun(e:Ending) (w':World)=>e=.returned (lK w.heap.size)/\(∃n',aQ cL eL w' tb n' (fun y=>if y=x then some (.agg #[.pointer p0,.string s0,.slice u1 v1 d1,.slice u2 v2 d2,.int .i64 i0,.int .i64 j0])else f y))/\Unb tb x (f x) w.heap.size w'/\w'.heap.size=w.heap.size+5/\Kn (·=tb) w w')=Q;unfold eL
 obtain⟨g0,g1,a1,n1,c1,a2,n2,c2,g4,g5,hg⟩:Six ((f x).getD (.agg #[.pointer none,.string ⟨#[]⟩,.slice none 0 0,.slice none 0 0,.int .i64 0,.int .i64 0])):=by
  cases hf:f x with
  |none=>exact⟨_,_,_,_,_,_,_,_,_,_,rfl⟩
  |some v=>exact hs v hf
 have hl:∀w',aQ cL eL w' tb n f->(lookup dA (.map (some tb)) (.agg #[.int .i64 x.1,.string (bs x.2)]) true).run prog w'=.ok (.tuple #[.agg #[.pointer g0,.string g1,.slice a1 n1 c1,.slice a2 n2 c2,.int .i64 g4,.int .i64 g5],.bool (f x).isSome]) w':=fun w' h'=>by
  have:=jE h' hx true;rw[if_pos rfl,hg]at this;exact this
 have Si:=hl _ (((h.alloc (.cells #[.map (some tb)] dA)).alloc (.cells #[.int .i64 x.1,.string (bs x.2)] eE)).alloc (.cells #[.pointer p0,.string s0,.slice u1 v1 d1,.slice u2 v2 d2,.int .i64 i0,.int .i64 j0] iK));have h5:=((((h.alloc (.cells #[.map (some tb)] dA)).alloc (.cells #[.int .i64 x.1,.string (bs x.2)] eE)).alloc (.cells #[.pointer p0,.string s0,.slice u1 v1 d1,.slice u2 v2 d2,.int .i64 i0,.int .i64 j0] iK)).alloc (.cells #[.pointer g0,.string g1,.slice a1 n1 c1,.slice a2 n2 c2,.int .i64 g4,.int .i64 g5] iK)).alloc (.cells #[.bool (f x).isSome] 4);obtain⟨w6,Qd,Tb,Pn⟩:=h5.store jZ iR (v:=.agg #[.pointer p0,.string s0,.slice u1 v1 d1,.slice u2 v2 d2,.int .i64 i0,.int .i64 j0]) hx trivial (fun _ _=>trivial);unfold eL at Qd;have Ke:=jP Pn;have Oh:=h.lt
 have Jp:(∃n',aQ cL eL w6 tb n' (fun y=>if y=x then some (.agg #[.pointer p0,.string s0,.slice u1 v1 d1,.slice u2 v2 d2,.int .i64 i0,.int .i64 j0])else f y))/\Unb tb x (f x) w.heap.size w6/\w6.heap.size=w.heap.size+5/\Kn (·=tb) w w6:=by
  refine⟨⟨_,Tb⟩,⟨?_,?_,⟨g0,g1,a1,n1,c1,a2,n2,c2,g4,g5,?_,?_⟩,?_⟩,?_,?_⟩
  ·rw[eZ Pn (by omega)];simp only[bC,aK];repeat (first|rw[if_neg (by omega)]|(rw[if_pos trivial];done)|rw[if_pos (by omega)])
  ·rw[eZ Pn (by omega)];simp only[bC,aK];repeat (first|rw[if_neg (by omega)]|(rw[if_pos trivial];done)|rw[if_pos (by omega)])
  ·rw[eZ Pn (by omega)];simp only[bC,aK];repeat (first|rw[if_neg (by omega)]|(rw[if_pos trivial];done)|rw[if_pos (by omega)])
  ·intro v hv;rw[hv]at hg;exact hg
  ·rw[eZ Pn (by omega)];simp only[bC,aK];repeat (first|rw[if_neg (by omega)]|(rw[if_pos trivial];done)|rw[if_pos (by omega)])
  ·rw[Ke];simp
  ·exact((((((Kn.refl _ w).alloc _).alloc _).alloc _).alloc _).alloc _).AM Pn (inl rfl)
 have HF:=aC Jp;clear h hs hg hl h5 Tb Pn Jp Ke Oh;have hq:Q (.returned (lK w.heap.size)) w6:=by rw[<- hQ];exact⟨rfl,HF.out⟩
 have HQ:=aC hq;clear HF hq hQ;generalize (f x).isSome=sm at *;generalize Sw:x.1=sp at *;generalize Lr:bs x.2=nm at *;clear Sw Lr;go_enter func156,ntmps156;go_wp2;exact HQ.out
end
end
section
structure Pt where
 nm:Nm
 n:Nat
structure Cd where
 op:Nat
 n:Int
 nm:Nm
 ps:List Cd
 pts:List Pt
structure RV where
 tag:Nat
 n:Int
 nm:Nm
 ps:List RV
 sc:Nat
 cd:List Cd
def RV.num(n:Int):RV:=⟨0,n,[],[],0,[]⟩
def RV.bool(b:Bool):RV:=⟨1,if b then 1 else 0,[],[],0,[]⟩
def RV.unit:RV:=⟨2,0,[],[],0,[]⟩
def RV.data(nm:Nm)(ps:List RV):RV:=⟨3,0,nm,ps,0,[]⟩
def RV.fn(c:Cd)(sc:Nat):RV:=⟨4,0,[],[],sc,[c]⟩
def RV.put:RV:=⟨5,0,[],[],0,[]⟩
def RV.get:RV:=⟨6,0,[],[],0,[]⟩
def RV.ref:RV:=⟨7,0,[],[],0,[]⟩
def RV.none:RV:=⟨9,0,[],[],0,[]⟩
def RV.bad:RV:=⟨10,0,[],[],0,[]⟩
def PX(l:Nm):Int:=l.foldl (fun a c=>10*a+(c.toNat-48:Nat)) 0
def ZV(k:Nat)(txt:Nm):Int:=if k=0 then PX txt else if k=1 then(if txt=[116,114,117,101]then 1 else 0)else 0
def fL:Nat->List Nm->Nd->Cd
 |0,_,_=>⟨2,0,[],[],[]⟩
 |n+1,A,.mk k txt ps=>
  match k,ps with
  |3,_=>⟨3,((A.idxOf? txt).getD 0:Nat),txt,[],[]⟩
  |5,[a]=>⟨5,0,txt,[fL n (txt::A) a],[]⟩
  |6,[a,b]=>⟨6,0,txt,[fL n A a,fL n (txt::A) b],[]⟩
  |7,[a,b]=>⟨7,0,txt,[fL n (txt::A) a,fL n (txt::A) b],[]⟩
  |15,a::rows=>⟨15,0,[],fL n A a::(only 16 rows).map (fun r=>match r.ps with|[p,e]=>fL n ((bK p).foldl (fun A v=>v::A) A) e|_=>⟨2,0,[],[],[]⟩),(only 16 rows).map (fun r=>match r.ps with|p::_=>⟨p.txt,p.ps.length⟩|[]=>⟨[],0⟩)⟩
  |k,ps=>⟨k,ZV k txt,txt,ps.map (fL n A),[]⟩
def eX(A:List Nm):List Nd->Cd
 |[]=>⟨2,0,[],[],[]⟩
 |.mk 17 _ (a::_)::r=>⟨9,0,[],[fL (a.ht+1) A a,eX A r],[]⟩
 |.mk 6 txt (a::_)::r=>⟨6,0,txt,[fL (a.ht+1) A a,eX (txt::A) r],[]⟩
 |.mk 7 txt (a::_)::r=>⟨7,0,txt,[fL (a.ht+1) (txt::A) a,eX (txt::A) r],[]⟩
 |_::r=>eX A r
structure Mach where
 input:Nm
 output:Nm
 most:Nat
 done:Nat
 scopes:List (RV×Nat)
def Mach.with(m:Mach)(v:RV)(sc:Nat):Nat×Mach:=(m.scopes.length+1,{ m with scopes:=m.scopes++[(v,sc)] })
def Mach.out(m:Mach):Nat->Nat->RV
 |0,sc=>if sc=0 then RV.bad else((m.scopes[sc-1]?).map Prod.fst).getD RV.bad
 |k+1,sc=>if sc=0 then RV.bad else Mach.out m k (((m.scopes[sc-1]?).map Prod.snd).getD 0)
structure Fr where
 op:Nat
 cds:List Cd
 pts:List Pt
 sc:Nat
 vs:List RV
 nm:Nm
structure St where
 cd:List Cd
 sc:Nat
 v:RV
 k:List Fr
def St.ev(c:Cd)(sc:Nat)(k:List Fr):St:=⟨[c],sc,RV.none,k⟩
def St.go(v:RV)(k:List Fr):St:=⟨[],0,v,k⟩
def jS(pts:List Pt)(cds:List Cd)(v:RV):Option Cd:=
 match pts,cds with
 |p::ps,c::cs=>if p.nm=v.nm then(if p.n=v.ps.length then some c else none)else jS ps cs v
 |_,_=>none
def Mach.withs(m:Mach)(sc:Nat):List RV->Nat×Mach
 |[]=>(sc,m)
 |v::vs=>let x:=m.with v sc;Mach.withs x.2 x.1 vs
def call(m:Mach)(f a:RV)(k:List Fr):Nat ⊕ (Mach×St):=
 if f.tag=4 then
  match f.cd with
  |[c]=>let x:=m.with a f.sc;.inr (x.2,St.ev c x.1 (⟨13,[],[],0,[],[]⟩::k))
  |_=>.inl 3
 else if f.tag=5 then(if a.tag=0 then .inr ({ m with output:=m.output++[UInt8.ofNat (a.n % 256).toNat] },St.go RV.unit k)else .inl 3)
 else if f.tag=6 then
  match m.input with
  |[]=>.inr (m,St.go (RV.num (-1)) k)
  |c::r=>.inr ({ m with input:=r },St.go (RV.num c.toNat) k)
 else .inl 3
def jQ(m:Mach)(s:St):Nat ⊕ (Mach×St):=
 match s.cd with
 |c::_=>
  match c.op,c.ps with
  |0,_=>.inr (m,St.go (RV.num c.n) s.k)
  |2,_=>.inr (m,St.go RV.unit s.k)
  |3,_=>if 9<=(m.out c.n.toNat s.sc).tag then .inl 3 else .inr (m,St.go (m.out c.n.toNat s.sc) s.k)
  |5,[a]=>.inr (m,St.go (RV.fn a s.sc) s.k)
  |13,[a,b]=>.inr (m,St.ev a s.sc (⟨0,[b],[],s.sc,[],[]⟩::s.k))
  |6,[a,b]=>.inr (m,St.ev a s.sc (⟨2,[b],[],s.sc,[],[]⟩::s.k))
  |7,[a,b]=>let x:=m.with RV.none s.sc;.inr (x.2,St.ev a x.1 (⟨3,[b],[],x.1,[],[]⟩::s.k))
  |8,[a,b,d]=>.inr (m,St.ev a s.sc (⟨4,[b,d],[],s.sc,[],[]⟩::s.k))
  |9,[a,b]=>.inr (m,St.ev a s.sc (⟨5,[b],[],s.sc,[],[]⟩::s.k))
  |11,[a,b]=>.inr (m,St.ev a s.sc (⟨9,[b],[],s.sc,[],[]⟩::s.k))
  |14,[]=>.inr (m,St.go (RV.data c.nm []) s.k)
  |14,a::r=>.inr (m,St.ev a s.sc (⟨11,r,[],s.sc,[],c.nm⟩::s.k))
  |15,a::r=>.inr (m,St.ev a s.sc (⟨12,r,c.pts,s.sc,[],[]⟩::s.k))
  |_,_=>.inl 3
 |[]=>
  match s.k with
  |[]=>.inl 0
  |f::k=>
   match f.op,f.cds with
   |0,[b]=>.inr (m,St.ev b f.sc (⟨1,[],[],0,[s.v],[]⟩::k))
   |1,_=>if m.done=m.most then .inl 2 else call { m with done:=m.done+1 } (f.vs.headD RV.none) s.v k
   |2,[b]=>let x:=m.with s.v f.sc;.inr (x.2,St.ev b x.1 k)
   |3,[b]=>.inr ({ m with scopes:=m.scopes.modify (f.sc-1) (fun x=>(s.v,x.2)) },St.ev b f.sc k)
   |4,[a,b]=>if s.v.tag=1 then .inr (m,St.ev (if s.v.n=1 then a else b) f.sc k)else .inl 3
   |5,[b]=>.inr (m,St.ev b f.sc k)
   |9,[b]=>.inr (m,St.ev b f.sc (⟨10,[],[],0,[s.v],[]⟩::k))
   |10,_=>if (f.vs.headD RV.none).tag=0 then(if s.v.tag=0 then .inr (m,St.go (RV.bool (decide ((f.vs.headD RV.none).n<s.v.n))) k)else .inl 3)else .inl 3
   |11,[]=>.inr (m,St.go (RV.data f.nm (f.vs++[s.v])) k)
   |11,a::r=>.inr (m,St.ev a f.sc (⟨11,r,[],f.sc,f.vs++[s.v],f.nm⟩::k))
   |12,_=>
    if s.v.tag=3 then
     match jS f.pts f.cds s.v with
     |none=>.inl 3
     |some c=>let x:=m.withs f.sc s.v.ps;.inr (x.2,St.ev c x.1 k)
    else .inl 3
   |13,_=>.inr (m,St.go s.v k)
   |_,_=>.inl 3
def jX:Nat->Mach->St->Option (Nat×Mach)
 |0,_,_=>none
 |n+1,m,s=>
  match jQ m s with
  |.inl e=>some (e,m)
  |.inr (m',s')=>jX n m' s'
def rV:Nm:=[112,117,116]
def sN:Nm:=[103,101,116]
def rI(input:Nm)(steps:Nat):Mach:=⟨input,[],steps,0,[(RV.put,0),(RV.get,1),(RV.ref,2)]⟩
def Ei(l:List Nd):St:=St.ev (eX [gP,sN,rV] l) 3 []
end
section
open Go.RowKit
abbrev aW:TypeId:=131
abbrev aZ:TypeId:=177
abbrev aV:TypeId:=135
abbrev bD:TypeId:=176
abbrev bL:TypeId:=173
abbrev dJ:TypeId:=123
abbrev iE:TypeId:=139
abbrev pD:TypeId:=235
abbrev kF:TypeId:=5
abbrev nA:TypeId:=129
abbrev iD:TypeId:=267
abbrev dU:TypeId:=201
abbrev cW:TypeId:=225
abbrev rF:TypeId:=260
abbrev kG:TypeId:=223
abbrev dT:TypeId:=263
abbrev lM:TypeId:=266
abbrev kQ:TypeId:=264
def FK(v:Value):Prop:=(∃t x,v=.iface t x)\/v=.nilIface
def QX(n:Int):Prop:=-9223372036854775808<=n/\n<=9223372036854775807
def jB(n:Int):Value:=.iface 2 (.int .i64 n)
def qJ(b:Bool):Value:=.iface 4 (.bool b)
def iW:Value:=.iface 167 (.agg #[])
def tQ(K:Nat)(l:List Nat):Value:=.func (.func K) #[] (l.map aA).toArray
def eT(mb:Nat):Value:=.func (.func 55) #[aA mb] #[]
def rX:Value:=.func (.func 250) #[] #[]
def Fixed(t:TypeId):Prop:=t≠bD/\t≠bL/\t≠dJ/\t≠kF/\t≠nA
def pZ(t:TypeId)(v:Value):Prop:=Fixed t\/(t=bL/\v≠.nilIface)
structure eS(u w:World):Prop where
 os:u.os=w.os
 tape:u.tape=w.tape
 output:u.output=w.output
def eS.refl(w:World):eS w w:=⟨rfl,rfl,rfl⟩
def eS.trans{a b c:World}(h:eS b a)(k:eS c b):eS c a:=⟨k.os.trans h.os,k.tape.trans h.tape,k.output.trans h.output⟩
structure HEq(u w:World):Prop where
 heap:u.heap=w.heap
 so:eS u w
def HEq.drew(w:World):HEq w.drew w:=⟨rfl,rfl,rfl,rfl⟩
def HEq.refl(w:World):HEq w w:=⟨rfl,rfl,rfl,rfl⟩
structure PEq(u w:World)(o:Obj):Prop where
 heap:u.heap=w.heap.push o
 so:eS u w
def PEq.alloc(w:World)(o:Obj):PEq (w.alloc o) w o:=⟨rfl,rfl,rfl,rfl⟩
structure KR(B:Nat)(w w':World):Prop where
 size:w.heap.size<=w'.heap.size
 block:∀(k:Nat)(c:Array Value)(t:TypeId)(f:Nat×Nat),Fixed t->w.heap[k]?=some (.cells c t f)->w'.heap[k]?=w.heap[k]?
 vals:∀(k:Nat)(c:Array Value)(f:Nat×Nat),w.heap[k]?=some (.cells c bL f)->∃c',w'.heap[k]?=some (.cells c' bL f)/\c'.size=c.size/\∀(i:Nat)(x:Value),c[i]?=some x->x≠.nilIface->c'[i]?=some x
 low:∀k,k<B->k<w.heap.size->w'.heap[k]?=w.heap[k]?
 so:eS w' w
def KR.same{B:Nat}{w u:World}(hs:w.heap.size<=u.heap.size)(e:∀(k:Nat)(c:Array Value)(t:TypeId)(f:Nat×Nat),Fixed t\/t=bL->w.heap[k]?=some (.cells c t f)->u.heap[k]?=w.heap[k]?)(l:∀k,k<B->k<w.heap.size->u.heap[k]?=w.heap[k]?)(so:eS u w):KR B w u:=
 ⟨hs,fun k c t f ht hc=>e k c t f (inl ht) hc,fun k c f hc=>⟨c,(e k c _ f (inr rfl) hc).trans hc,rfl,fun _ _ h _=>h⟩,l,so⟩
def KR.refl(B:Nat)(w:World):KR B w w:=.same (le_refl _) (fun _ _ _ _ _ _=>rfl) (fun _ _ _=>rfl) (.refl w)
def KR.trans{B:Nat}{a b c:World}(h:KR B a b)(k:KR B b c):KR B a c:=⟨le_trans h.size k.size,fun i x t f ht hx=>by
 have h1:=h.block i x t f ht hx
 rw[k.block i x t f ht (h1.trans hx),h1],fun i x f hx=>by
 obtain⟨x1,p1,p2,p3⟩:=h.vals i x f hx;obtain⟨x2,q1,q2,q3⟩:=k.vals i x1 f p1
 exact⟨x2,q1,q2.trans p2,fun j y hy hn=>q3 j y (p3 j y hy hn) hn⟩,fun i hi hl=>(k.low i hi (lt_of_lt_of_le hl h.size)).trans (h.low i hi hl),h.so.trans k.so⟩
def aS{w u:World}{o:Obj}(h:PEq u w o){k:Nat}(hk:k<w.heap.size):u.heap[k]?=w.heap[k]?:=by
 rw[h.heap,Array.getElem?_push,if_neg (by omega)]
def bT{w u:World}{o:Obj}(h:PEq u w o):u.heap[w.heap.size]?=some o:=by rw[h.heap,Array.getElem?_push,if_pos rfl]
def bP{w u:World}{o:Obj}(h:PEq u w o):u.heap.size=w.heap.size+1:=by rw[h.heap,Array.size_push]
def KR.push{B:Nat}{a w u:World}{o:Obj}(h:KR B a w)(e:PEq u w o):KR B a u:=
 h.trans (.same (by rw[bP e];omega) (fun k c t f _ hc=>aS e (aB hc)) (fun k _ hl=>aS e hl) e.so)
def KR.turn{B:Nat}{a w u:World}{b:Nat}{c:Array Value}{t:TypeId}{f:Nat×Nat}(h:KR B a w)(hB:B<=b)(hb:w.heap[b]?=some (.cells c t f))(ht:¬Fixed t)(hv:t≠bL)(hs:u.heap.size=w.heap.size)(e:∀k,k≠b->u.heap[k]?=w.heap[k]?)(so:eS u w):KR B a u:=
 h.trans (.same (by omega) (fun k c' t' f' ht' hc=>e k fun hk=>by
  subst hk;rw[hb]at hc;have hq:=aN hc;rcases ht' with h|h
  ·exact ht (by rw[hq];exact h)
  ·exact hv (by rw[hq];exact h)) (fun k hk _=>e k (by omega)) so)
def KR.fill{B:Nat}{a w u:World}{g n:Nat}{c c2:Array Value}{f:Nat×Nat}(h:KR B a w)(hB:B<=g)(hg:w.heap[g]?=some (.cells c bL f))(hn:c[n]?=some .nilIface)(hs:u.heap.size=w.heap.size)(e:∀k,k≠g->u.heap[k]?=w.heap[k]?)(hu:u.heap[g]?=some (.cells c2 bL f))(h2:c2.size=c.size)(h3:∀i,i≠n->c2[i]?=c[i]?)(so:eS u w):KR B a u:=
 h.trans ⟨by omega,fun k c' t' f' ht hc=>e k fun hk=>by subst hk;rw[hg]at hc;exact ht.2.1 (aN hc).symm,fun k c' f' hc=>by
  by_cases hk:k=g
  ·subst hk;rw[hg]at hc;have Nr:c'=c/\f'=f:=by simp at hc;exact⟨hc.1.symm,hc.2.symm⟩
   obtain⟨rfl,rfl⟩:=Nr;refine⟨c2,hu,h2,fun i x hx Ju=>?_⟩;rw[h3 i fun e=>by subst e;rw[hn]at hx;exact Ju (Option.some.inj hx).symm];exact hx
  ·exact⟨c',(e k hk).trans hc,rfl,fun _ _ h _=>h⟩,fun k hk _=>e k (by omega),so⟩
def Bxs(w:World):List (TypeId×Value)->List Nat->Prop
 |[],[]=>True
 |(t,v)::r,b::l=>w.heap[b]?=some (.cells #[v] t (0,0))/\pZ t v/\Bxs w r l
 |_,_=>False
def KR.box{B:Nat}{w u:World}(hk:KR B w u){b:Nat}{t:TypeId}{v:Value}(h:w.heap[b]?=some (.cells #[v] t (0,0)))(ft:pZ t v):u.heap[b]?=some (.cells #[v] t (0,0)):=by
 rcases ft with ft|⟨rfl,hv⟩
 ·exact(hk.block b _ _ _ ft h).trans h
 ·obtain⟨c',h1,h2,h3⟩:=hk.vals b _ _ h;have:=h3 0 v rfl hv
  have hc:c'=#[v]:=by
   apply Array.ext
   ·exact h2
   ·intro i h4 h5;have hi:i=0:=by simp at h5;exact h5
    subst hi;rw[Array.getElem?_eq_getElem h4]at this;exact Option.some.inj this
  rw[h1,hc]
def Bxs.kept{w w':World}{B:Nat}(hk:KR B w w'):∀{r:List (TypeId×Value)}{l:List Nat},Bxs w r l->Bxs w' r l:=by
 intro r
 induction r with
 |nil=>intro l h;cases l with|nil=>trivial|cons=>exact h.elim
 |cons x r ih=>
  intro l h;obtain⟨t,v⟩:=x
  cases l with
  |nil=>exact h.elim
  |cons b l=>exact⟨hk.box h.1 h.2.1,h.2.1,ih h.2.2⟩
def Clo(w:World)(v:Value)(K:Nat)(r:List (TypeId×Value)):Prop:=aF K/\∃l,v=tQ K l/\Bxs w r l
def Clo.kept{w w':World}{B:Nat}(hk:KR B w w'){v:Value}{K:Nat}{r:List (TypeId×Value)}(h:Clo w v K r):Clo w' v K r:=by
 obtain⟨h0,l,h1,h2⟩:=h;exact⟨h0,l,h1,h2.kept hk⟩
def Each{α:Type}{β:Type}(R:α->β->Prop):List α->List β->Prop
 |[],[]=>True
 |a::r,b::l=>R a b/\Each R r l
 |_,_=>False
def Each.imp{α:Type}{β:Type}{R S:α->β->Prop}(hi:∀a b,R a b->S a b):∀{r:List α}{l:List β},Each R r l->Each S r l:=by
 intro r
 induction r with
 |nil=>intro l h;cases l with|nil=>trivial|cons=>exact h.elim
 |cons x r ih=>
  intro l h
  cases l with
  |nil=>exact h.elim
  |cons b l=>exact⟨hi _ _ h.1,ih h.2⟩
def IZ(mb:Nat)(c:Cd)(xs:List Value):Option (Nat×List (TypeId×Value)):=
 match c.op,xs with
 |0,[]=>some (125,[(bL,jB c.n)])
 |2,[]=>some (125,[(bL,iW)])
 |3,[]=>some (169,[(3,.int .i64 c.n)])
 |5,[x]=>some (171,[(aW,x)])
 |6,[x,y]=>some (189,[(aW,x),(aW,y)])
 |7,[x,y]=>some (187,[(aW,x),(aW,y)])
 |8,[x,y,z]=>some (234,[(aW,x),(aW,y),(aW,z)])
 |9,[x,y]=>some (126,[(aW,x),(aW,y)])
 |11,[x,y]=>some (241,[(aW,x),(aW,y),(pD,rX)])
 |13,[x,y]=>some (231,[(aW,x),(aW,y),(1,eT mb)])
 |_,_=>none
def FA(w:World)(nm:Nm):List Value->Value->Prop
 |[],v=>Clo w v 226 [(aI,.string (bs nm))]
 |x::r,v=>∃u,FA w nm r u/\Clo w v 228 [(aW,x),(iD,u)]
def QV(w:World)(p:Pt)(v:Value):Prop:=
 p.n<=1000/\∃sl,Clo w v 278 [(aI,.string (bs p.nm)),(rF,sl)]/\((p.n=0/\∃a c,sl=.slice a 0 c)\/∃g cap cs,sl=.slice (some ⟨g,0,none⟩) p.n cap/\w.heap[g]?=some (.cells cs kG (0,0))/\∀i,i<p.n->cs[i]?=some (tQ 223 []))
def jV(w:World)(pts:List Pt)(xs:List Value)(v:Value):Prop:=
 pts.length=xs.length/\xs.length<=1000/\∃g cap cs,v=.slice (some ⟨g,0,none⟩) xs.length cap/\w.heap[g]?=some (.cells cs cW (0,0))/\∀(i:Nat)(p:Pt)(x:Value),pts[i]?=some p->xs[i]?=some x->∃pv,cs[i*2]?=some pv/\cs[i*2+1]?=some x/\QV w p pv
def FA.kept{w u:World}{B:Nat}(hk:KR B w u){nm:Nm}:∀{xs:List Value}{v:Value},FA w nm xs v->FA u nm xs v:=by
 intro xs
 induction xs with
 |nil=>intro v h;exact Clo.kept hk h
 |cons x r ih=>intro v h;obtain⟨q,h1,h2⟩:=h;exact⟨q,ih h1,h2.kept hk⟩
def Fs:Fixed kG:=by unfold Fixed;decide
def Fq:Fixed cW:=by unfold Fixed;decide
def Bk:Fixed lM:=by unfold Fixed;decide
def QV.kept{w u:World}{B:Nat}(hk:KR B w u){p:Pt}{v:Value}(h:QV w p v):QV u p v:=by
 obtain⟨hn,sl,h1,h2⟩:=h;refine⟨hn,sl,h1.kept hk,?_⟩;rcases h2 with h2|⟨g,cap,cs,h3,h4,h5⟩
 ·exact inl h2
 ·exact inr ⟨g,cap,cs,h3,(hk.block _ _ _ _ Fs h4).trans h4,h5⟩
def jV.kept{w u:World}{B:Nat}(hk:KR B w u){pts:List Pt}{xs:List Value}{v:Value}(h:jV w pts xs v):jV u pts xs v:=by
 obtain⟨h0,hl,g,cap,cs,h1,h2,h3⟩:=h;refine⟨h0,hl,g,cap,cs,h1,(hk.block _ _ _ _ Fq h2).trans h2,fun i p x hp hx=>?_⟩;obtain⟨pv,q1,q2,q3⟩:=h3 i p x hp hx;exact⟨pv,q1,q2,q3.kept hk⟩
def Ie(mb:Nat)(w:World)(c:Cd)(xs:List Value)(v:Value):Prop:=
 (∃K bl,IZ mb c xs=some (K,bl)/\Clo w v K bl)\/(c.op=14/\xs.length<=1000/\∃u,FA w c.nm xs u/\Clo w v 230 [(iD,u)])\/(c.op=15/\∃x r u,xs=x::r/\jV w c.pts r u/\Clo w v 175 [(aW,x),(dU,u)])
def Ie.kept{mb:Nat}{w u:World}{B:Nat}(hk:KR B w u){c:Cd}{xs:List Value}{v:Value}(h:Ie mb w c xs v):Ie mb u c xs v:=by
 rcases h with⟨K,bl,h1,h2⟩|⟨h0,hl,q,h1,h2⟩|⟨h0,x,r,q,h1,h2,h3⟩
 ·exact inl ⟨K,bl,h1,h2.kept hk⟩
 ·exact inr (inl ⟨h0,hl,q,h1.kept hk,h2.kept hk⟩)
 ·exact inr (inr ⟨h0,x,r,q,h1,h2.kept hk,h3.kept hk⟩)
def pB(mb:Nat)(w:World):Nat->Cd->Value->Prop
 |0,_,_=>False
 |n+1,c,v=>(QX c.n/\(c.op=3->0<=c.n/\c.n.toNat<=1000000))/\∃xs,Each (pB mb w n) c.ps xs/\Ie mb w c xs v
def pB.kept{mb:Nat}{w w':World}{B:Nat}(hk:KR B w w'):∀(n:Nat)(c:Cd)(v:Value),pB mb w n c v->pB mb w' n c v:=by
 intro n
 induction n with
 |zero=>intro c v h;exact h.elim
 |succ n ih=>
  intro c v h;obtain⟨h0,xs,h1,h2⟩:=h;exact⟨h0,xs,h1.imp ih,h2.kept hk⟩
def pB.succ{mb:Nat}{w:World}:∀(n:Nat)(c:Cd)(v:Value),pB mb w n c v->pB mb w (n+1) c v:=by
 intro n
 induction n with
 |zero=>intro c v h;exact h.elim
 |succ n ih=>
  intro c v h;obtain⟨h0,xs,h1,h2⟩:=h;exact⟨h0,xs,h1.imp ih,h2⟩
def pB.le{mb:Nat}{w:World}{n k:Nat}{c:Cd}{v:Value}(h:pB mb w n c v)(hk:n<=k):pB mb w k c v:=by
 induction k with
 |zero=>
      have:n=0:=by omega
      subst this;exact h
 |succ k ih=>
  by_cases he:n=k+1
  ·subst he;exact h
  ·exact(ih (by omega)).succ
def tS(sa:List Nat)(sc:Nat)(v:Value):Prop:=(sc=0/\v=.pointer none)\/∃b,sc≠0/\sa[sc-1]?=some b/\v=aA b
def tS.app{sa:List Nat}{sc:Nat}{v:Value}(l:List Nat)(h:tS sa sc v):tS (sa++l) sc v:=by
 rcases h with h|⟨b,h0,h1,h2⟩
 ·exact inl h
 ·exact inr ⟨b,h0,by rw[List.getElem?_append_left (List.getElem?_eq_some_iff.1 h1).1];exact h1,h2⟩
def tS.ptr{sa:List Nat}{sc:Nat}{v:Value}(h:tS sa sc v):∃p,v=.pointer p:=by
 rcases h with⟨_,h⟩|⟨b,_,_,h⟩
 ·exact⟨_,h⟩
 ·exact⟨_,h⟩
def kY(w:World)(xs:List Value)(sl:Value):Prop:=
 (xs=[]/\sl=.slice none 0 0)\/∃g cap cs,sl=.slice (some ⟨g,0,none⟩) xs.length cap/\w.heap[g]?=some (.cells cs bL (0,0))/\∀(i:Nat)(x:Value),xs[i]?=some x->cs[i]?=some x
def VMd(mb:Nat)(sa:List Nat)(w:World):Nat->RV->Value->Prop
 |0,_,_=>False
 |n+1,r,v=>(r.tag=0/\v=jB r.n/\QX r.n)\/(r.tag=1/\v=qJ (decide (r.n=1)))\/(r.tag=2/\v=iW) \/
  (r.tag=4/\∃n c x sv fv,r.cd=[c]/\pB mb w n c x/\tS sa r.sc sv/\Clo w fv 172 [(aW,x),(aV,sv)]/\v=.iface iE fv) \/
  (r.tag=5/\v=.iface iE (.func (.func 61) #[aA mb] #[]))\/(r.tag=6/\v=.iface iE (.func (.func 62) #[aA mb] #[]))\/(r.tag=7/\v=.iface iE (.func (.func 63) #[] #[])) \/
  (r.tag=3/\∃b sl xs,v=.iface kQ (aA b)/\w.heap[b]?=some (.cells #[.string (bs r.nm),sl] lM (0,0))/\Each (VMd mb sa w n) r.ps xs/\kY w xs sl)
def VMd.ifc{mb:Nat}{sa:List Nat}{w:World}{n:Nat}{r:RV}{v:Value}(h:VMd mb sa w n r v):∃t x,v=.iface t x:=by
 cases n with
 |zero=>exact h.elim
 |succ n=>
  rcases h with⟨_,h,_⟩|⟨_,h⟩|⟨_,h⟩|⟨_,_,_,_,_,_,_,_,_,_,h⟩|⟨_,h⟩|⟨_,h⟩|⟨_,h⟩|⟨_,_,_,_,h,_⟩
  all_goals exact⟨_,_,h⟩
def kY.kept{w u:World}{B:Nat}(hk:KR B w u){xs:List Value}{sl:Value}(hn:∀x∈xs,x≠.nilIface)(h:kY w xs sl):kY u xs sl:=by
 rcases h with h|⟨g,cap,cs,h1,h2,h3⟩
 ·exact inl h
 ·obtain⟨c',q1,_,q3⟩:=hk.vals _ _ _ h2;exact inr ⟨g,cap,c',h1,q1,fun i x hx=>q3 i x (h3 i x hx) (hn x (List.mem_of_getElem? hx))⟩
def Each.right{α β:Type}{R:α->β->Prop}{Q:β->Prop}(hq:∀a b,R a b->Q b):∀{l:List α}{r:List β},Each R l r->∀b∈r,Q b:=by
 intro l
 induction l with
 |nil=>intro r h b hb;cases r with|nil=>cases hb|cons=>exact h.elim
 |cons a l ih=>
  intro r h b hb
  cases r with
  |nil=>exact h.elim
  |cons c r=>
   rcases mem_cons.1 hb with rfl|hb
   ·exact hq _ _ h.1
   ·exact ih h.2 b hb
def qX{v:Value}(h:∃t x,v=.iface t x):v≠.nilIface:=by obtain⟨t,x,rfl⟩:=h;intro e;cases e
def VMd.kept{mb:Nat}{sa:List Nat}{w w':World}{B:Nat}(hk:KR B w w')(l:List Nat):∀(n:Nat)(r:RV)(v:Value),VMd mb sa w n r v->VMd mb (sa++l) w' n r v:=by
 intro n
 induction n with
 |zero=>intro r v h;exact h.elim
 |succ n ih=>
  intro r v h;rcases h with h|h|h|⟨h1,n,c,x,sv,fv,h2,h3,h4,h5,h6⟩|h|h|h|⟨h1,b,sl,xs,h2,h3,h4,h5⟩
  ·exact inl h
  ·exact inr (inl h)
  ·exact inr (inr (inl h))
  ·exact inr (inr (inr (inl ⟨h1,n,c,x,sv,fv,h2,h3.kept hk,h4.app l,h5.kept hk,h6⟩)))
  ·exact inr (inr (inr (inr (inl h))))
  ·exact inr (inr (inr (inr (inr (inl h)))))
  ·exact inr (inr (inr (inr (inr (inr (inl h))))))
  ·exact inr (inr (inr (inr (inr (inr (inr ⟨h1,b,sl,xs,h2,(hk.block _ _ _ _ Bk h3).trans h3,h4.imp ih,h5.kept hk (h4.right fun _ _ hq=>qX hq.ifc)⟩))))))
def VM(mb:Nat)(sa:List Nat)(w:World)(r:RV)(v:Value):Prop:=∃n,VMd mb sa w n r v
def VM.ifc{mb:Nat}{sa:List Nat}{w:World}{r:RV}{v:Value}(h:VM mb sa w r v):∃t x,v=.iface t x:=h.elim fun _ h=>h.ifc
def VM.nn{mb:Nat}{sa:List Nat}{w:World}{r:RV}{v:Value}(h:VM mb sa w r v):v≠.nilIface:=qX h.ifc
def VM.ifv{mb:Nat}{sa:List Nat}{w:World}{r:RV}{v:Value}(h:VM mb sa w r v):FK v:=inl h.ifc
def VM.kept{mb:Nat}{sa:List Nat}{w w':World}{B:Nat}(hk:KR B w w')(l:List Nat){r:RV}{v:Value}(h:VM mb sa w r v):VM mb (sa++l) w' r v:=h.elim fun n h=>⟨n,h.kept hk l⟩
def VM0(mb:Nat)(sa:List Nat)(w:World)(r:RV)(v:Value):Prop:=VM mb sa w r v\/(r.tag=9/\v=.nilIface)
def VM0.kept{mb:Nat}{sa:List Nat}{w w':World}{B:Nat}(hk:KR B w w')(l:List Nat){r:RV}{v:Value}(h:VM0 mb sa w r v):VM0 mb (sa++l) w' r v:=by
 rcases h with h|h
 ·exact inl (h.kept hk l)
 ·exact inr h
def Fp(mb:Nat)(f:Fr)(xs ys:List Value)(sv tv:Value):Option (Nat×List (TypeId×Value)):=
 match f.op,xs,ys with
 |0,[x],[]=>some (232,[(aW,x),(aV,sv),(1,eT mb),(aZ,tv)])
 |1,[],[y]=>some (233,[(1,eT mb),(bL,y),(aZ,tv)])
 |2,[x],[]=>some (190,[(aW,x),(aV,sv),(aZ,tv)])
 |3,[x],[]=>if f.sc=0 then none else some (188,[(aV,sv),(aW,x),(aZ,tv)])
 |4,[x,y],[]=>some (235,[(aW,x),(aV,sv),(aZ,tv),(aW,y)])
 |5,[x],[]=>some (127,[(aW,x),(aV,sv),(aZ,tv)])
 |9,[x],[]=>some (242,[(aW,x),(aV,sv),(aZ,tv),(pD,rX)])
 |10,[],[y]=>some (243,[(aZ,tv),(pD,rX),(bL,y)])
 |13,[],[]=>some (220,[(aZ,tv)])
 |_,_,_=>none
def fP(mb:Nat)(w:World)(c:Cd)(v:Value):Prop:=∃n,pB mb w n c v
def fP.kept{mb:Nat}{w w':World}{B:Nat}(hk:KR B w w')(c:Cd)(v:Value)(h:fP mb w c v):fP mb w' c v:=h.elim fun n hn=>⟨n,hn.kept hk⟩
def FE(B:Nat)(w:World)(ow ow':List Nat)(ys:List Value)(av:Value):Prop:=
 (ys=[]/\av=.slice none 0 0/\ow=ow')\/∃g cs,av=.slice (some ⟨g,0,none⟩) ys.length cs.size/\w.heap[g]?=some (.cells cs bL (0,0))/\B<=g/\ys.length<=cs.size/\cs.size<=maxLen/\(∀(i:Nat)(y:Value),ys[i]?=some y->cs[i]?=some y)/\(∀i,ys.length<=i->i<cs.size->cs[i]?=some .nilIface)/\ow=g::ow'/\g∉ow'
def lF(B mb:Nat)(sa:List Nat)(w:World):List Nat->List Fr->Value->Prop
 |ow,[],v=>ow=[]/\Clo w v 93 []
 |ow,f::k,v=>∃xs ys sv tv ow',Each (fP mb w) f.cds xs/\Each (VM mb sa w) f.vs ys/\tS sa f.sc sv/\lF B mb sa w ow' k tv /\
  ((ow=ow'/\∃K bl,Fp mb f xs ys sv tv=some (K,bl)/\Clo w v K bl)\/(ow=ow'/\f.op=12/\∃u,jV w f.pts xs u/\Clo w v 176 [(dU,u),(aV,sv),(aZ,tv)]) \/
   (f.op=11/\ys.length+xs.length<=1000/\∃u av,FA w f.nm xs u/\FE B w ow ow' ys av/\Clo w v 229 [(iD,u),(aV,sv),(dT,av),(aZ,tv)]))
def lF.kept{B mb:Nat}{sa:List Nat}{w w':World}(hk:KR B w w')(l:List Nat):∀(k:List Fr)(ow:List Nat)(v:Value),(∀b∈ow,∀c f,w.heap[b]?=some (.cells c bL f)->w'.heap[b]?=w.heap[b]?)->lF B mb sa w ow k v->lF B mb (sa++l) w' ow k v:=by
 intro k
 induction k with
 |nil=>intro ow v _ h;exact⟨h.1,Clo.kept hk h.2⟩
 |cons f k ih=>
  intro ow v ho h;obtain⟨xs,ys,sv,tv,ow',h1,h2,h3,h4,h5⟩:=h;refine⟨xs,ys,sv,tv,ow',h1.imp (fP.kept hk),h2.imp (fun _ _=>VM.kept hk l),h3.app l,?_⟩;rcases h5 with⟨rfl,K,bl,q1,q2⟩|⟨rfl,q0,u,q1,q2⟩|⟨q0,ql,u,av,q1,q2,q3⟩
  ·exact⟨ih _ _ ho h4,inl ⟨rfl,K,bl,q1,q2.kept hk⟩⟩
  ·exact⟨ih _ _ ho h4,inr (inl ⟨rfl,q0,u,q1.kept hk,q2.kept hk⟩)⟩
  ·rcases q2 with⟨rfl,rfl,rfl⟩|⟨g,cs,p1,p2,p3,p4,p5,p6,p7,rfl,p9⟩
   ·exact⟨ih _ _ ho h4,inr (inr ⟨q0,ql,u,_,q1.kept hk,inl ⟨rfl,rfl,rfl⟩,q3.kept hk⟩)⟩
   ·exact⟨ih _ _ (fun b hb=>ho b (mem_cons_of_mem _ hb)) h4,inr (inr ⟨q0,ql,u,_,q1.kept hk,inr ⟨g,cs,p1,(ho g (mem_cons_self ..) _ _ p2).trans p2,p3,p4,p5,p6,p7,rfl,p9⟩,q3.kept hk⟩)⟩
structure RM(B mb:Nat)(sa:List Nat)(m:Mach)(w:World):Prop where
 mach:∃ov,w.heap[mb]?=some (.cells #[.string (bs m.input),ov,.int .i64 m.most,.int .i64 m.done] dJ (0,0))/\w.ownsRow B kF 1 ov m.output.length (m.output.map fun c=>.int .u8 c.toNat)
 slen:sa.length=m.scopes.length
 sdis:sa.Nodup
 scope:∀(i:Nat)(v:RV)(o:Nat),m.scopes[i]?=some (v,o)->∃b x ov,sa[i]?=some b/\w.heap[b]?=some (.cells #[x,ov] bD (0,0))/\VM0 mb sa w v x/\tS sa o ov
 inp:m.input.length<=1000000
 out:m.output.length<=m.done
 don:m.done<=m.most
 mst:m.most<=4000
 lowm:B<=mb
 lows:∀b∈sa,B<=b
 lowb:B<=w.heap.size
end
end Go.Proofs.YthakgdfmbknakaaGreatDoor
