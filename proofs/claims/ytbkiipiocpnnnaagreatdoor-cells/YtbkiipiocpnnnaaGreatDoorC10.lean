import Derived.Test.YtbkiipiocpnnnaaGreatDoorC9
set_option linter.all false
set_option maxHeartbeats 40000000
set_option maxRecDepth 100000
open Go.Proofs.Tryz
open Or (inl inr)
open Nat (le_refl le_trans lt_of_lt_of_le)
open List (append_nil mem_append mem_singleton)
namespace Go.Proofs.YtbkiipiocpnnnaaGreatDoor
open Go.RowKit
abbrev tyCode:TypeId:=107
abbrev tyNext:TypeId:=149
abbrev tyScopeP:TypeId:=111
abbrev tyScope:TypeId:=148
abbrev tyVal:TypeId:=145
abbrev tyCell:TypeId:=152
abbrev tyCellP:TypeId:=150
abbrev tyMach:TypeId:=99
abbrev tyFn:TypeId:=115
abbrev tyOper:TypeId:=204
abbrev tyRB:TypeId:=5
abbrev tyBld:TypeId:=105
def IfV(v:Value):Prop:=(∃t x,v=.iface t x)\/v=.nilIface
def InI(n:Int):Prop:=-9223372036854775808<=n/\n<=9223372036854775807
def numV(n:Int):Value:=.iface 2 (.int .i64 n)
def boolV(b:Bool):Value:=.iface 4 (.bool b)
def unitV:Value:=.iface 139 (.agg #[])
def fnV(K:Nat)(l:List Nat):Value:=.func (.func K) #[] (l.map ptrV).toArray
def stepV(mb:Nat):Value:=.func (.func 40) #[ptrV mb] #[]
def operV(s:Nm):Value:=.func (.func (if s=[43]then 221 else if s=[45]then 222 else if s=[42]then 223 else if s=[47]then 224 else if s=[61]then 226 else 227)) #[] #[]
def Fixed(t:TypeId):Prop:=t≠tyScope/\t≠tyCell/\t≠tyMach/\t≠tyRB/\t≠tyBld
structure SameO(u w:World):Prop where
 os:u.os=w.os
 tape:u.tape=w.tape
 output:u.output=w.output
theorem SameO.refl(w:World):SameO w w:=⟨rfl,rfl,rfl⟩
theorem SameO.trans{a b c:World}(h:SameO b a)(k:SameO c b):SameO c a:=⟨k.os.trans h.os,k.tape.trans h.tape,k.output.trans h.output⟩
structure HEq(u w:World):Prop where
 heap:u.heap=w.heap
 so:SameO u w
theorem HEq.drew(w:World):HEq w.drew w:=⟨rfl,rfl,rfl,rfl⟩
theorem HEq.refl(w:World):HEq w w:=⟨rfl,rfl,rfl,rfl⟩
structure PEq(u w:World)(o:Obj):Prop where
 heap:u.heap=w.heap.push o
 so:SameO u w
theorem PEq.alloc(w:World)(o:Obj):PEq (w.alloc o) w o:=⟨rfl,rfl,rfl,rfl⟩
structure KR(B:Nat)(w w':World):Prop where
 size:w.heap.size<=w'.heap.size
 block:∀(k:Nat)(c:Array Value)(t:TypeId)(f:Nat×Nat),Fixed t->w.heap[k]?=some (.cells c t f)->w'.heap[k]?=w.heap[k]?
 low:∀k,k<B->k<w.heap.size->w'.heap[k]?=w.heap[k]?
 so:SameO w' w
theorem KR.refl(B:Nat)(w:World):KR B w w:=⟨le_refl _,fun _ _ _ _ _ _=>rfl,fun _ _ _=>rfl,.refl w⟩
theorem KR.trans{B:Nat}{a b c:World}(h:KR B a b)(k:KR B b c):KR B a c:=⟨le_trans h.size k.size,fun i x t f ht hx=>by
 have h1:=h.block i x t f ht hx
 rw[k.block i x t f ht (h1.trans hx),h1],fun i hi hl=>(k.low i hi (lt_of_lt_of_le hl h.size)).trans (h.low i hi hl),h.so.trans k.so⟩
theorem KR.heap{B:Nat}{a b c:World}(h:KR B a b)(e:HEq c b):KR B a c:=⟨by rw[e.heap];exact h.size,by rw[e.heap];exact h.block,by rw[e.heap];exact h.low,h.so.trans e.so⟩
theorem push_old{w u:World}{o:Obj}(h:PEq u w o){k:Nat}(hk:k<w.heap.size):u.heap[k]?=w.heap[k]?:=by
 rw[h.heap,Array.getElem?_push,if_neg (by omega)]
theorem push_new{w u:World}{o:Obj}(h:PEq u w o):u.heap[w.heap.size]?=some o:=by rw[h.heap,Array.getElem?_push,if_pos rfl]
theorem push_size{w u:World}{o:Obj}(h:PEq u w o):u.heap.size=w.heap.size+1:=by rw[h.heap,Array.size_push]
theorem KR.push{B:Nat}{a w u:World}{o:Obj}(h:KR B a w)(e:PEq u w o):KR B a u:=
 h.trans ⟨by rw[push_size e];omega,fun k c t f _ hc=>push_old e (lt_of_heap hc),fun k _ hl=>push_old e hl,e.so⟩
theorem KR.turn{B:Nat}{a w u:World}{b:Nat}{c:Array Value}{t:TypeId}{f:Nat×Nat}(h:KR B a w)(hB:B<=b)(hb:w.heap[b]?=some (.cells c t f))(ht:¬Fixed t)(hs:u.heap.size=w.heap.size)(e:∀k,k≠b->u.heap[k]?=w.heap[k]?)(so:SameO u w):KR B a u:=
 h.trans ⟨by omega,fun k c' t' f' ht' hc=>e k fun hk=>by subst hk;rw[hb]at hc;exact ht (by rw[cells_ty hc];exact ht'),fun k hk _=>e k (by omega),so⟩
def Bxs(w:World):List (TypeId×Value)->List Nat->Prop
 |[],[]=>True
 |(t,v)::r,b::l=>w.heap[b]?=some (.cells #[v] t (0,0))/\Fixed t/\Bxs w r l
 |_,_=>False
theorem Bxs.kept{w w':World}{B:Nat}(hk:KR B w w'):∀{r:List (TypeId×Value)}{l:List Nat},Bxs w r l->Bxs w' r l:=by
 intro r
 induction r with
 |nil=>intro l h;cases l with|nil=>trivial|cons=>exact h.elim
 |cons x r ih=>
  intro l h
  obtain⟨t,v⟩:=x
  cases l with
  |nil=>exact h.elim
  |cons b l=>exact⟨(hk.block b _ _ _ h.2.1 h.1).trans h.1,h.2.1,ih h.2.2⟩
def Clo(w:World)(v:Value)(K:Nat)(r:List (TypeId×Value)):Prop:=Enters K/\∃l,v=fnV K l/\Bxs w r l
theorem Clo.kept{w w':World}{B:Nat}(hk:KR B w w'){v:Value}{K:Nat}{r:List (TypeId×Value)}(h:Clo w v K r):Clo w' v K r:=by
 obtain⟨h0,l,h1,h2⟩:=h;exact⟨h0,l,h1,h2.kept hk⟩
def Each{α:Type}{β:Type}(R:α->β->Prop):List α->List β->Prop
 |[],[]=>True
 |a::r,b::l=>R a b/\Each R r l
 |_,_=>False
theorem Each.imp{α:Type}{β:Type}{R S:α->β->Prop}(hi:∀a b,R a b->S a b):∀{r:List α}{l:List β},Each R r l->Each S r l:=by
 intro r
 induction r with
 |nil=>intro l h;cases l with|nil=>trivial|cons=>exact h.elim
 |cons x r ih=>
  intro l h
  cases l with
  |nil=>exact h.elim
  |cons b l=>exact⟨hi _ _ h.1,ih h.2⟩
def formOf(mb:Nat)(c:Cd)(xs:List Value):Option (Nat×List (TypeId×Value)):=
 match c.op,xs with
 |0,[]=>some (103,[(tyVal,numV c.n)])
 |1,[]=>some (103,[(tyVal,boolV (decide (c.n=1)))])
 |2,[]=>some (103,[(tyVal,unitV)])
 |3,[]=>some (145,[(3,.int .i64 c.n)])
 |5,[x]=>some (147,[(tyCode,x)])
 |6,[x,y]=>some (165,[(tyCode,x),(tyCode,y)])
 |7,[x,y]=>some (163,[(tyCode,x),(tyCode,y)])
 |8,[x,y,z]=>some (211,[(tyCode,x),(tyCode,y),(tyCode,z)])
 |9,[x,y]=>some (104,[(tyCode,x),(tyCode,y)])
 |10,[x,y]=>some (213,[(tyCode,x),(tyCode,y)])
 |11,[x,y]=>some (218,[(tyCode,x),(tyCode,y),(tyOper,operV c.nm)])
 |12,[x]=>some (216,[(tyCode,x)])
 |13,[x,y]=>some (208,[(tyCode,x),(tyCode,y),(1,stepV mb)])
 |_,_=>none
def CdM(mb:Nat)(w:World):Nat->Cd->Value->Prop
 |0,_,_=>False
 |n+1,c,v=>(InI c.n/\(c.op=3->0<=c.n/\c.n.toNat<=1000000))/\∃xs K bl,Each (CdM mb w n) c.ps xs/\formOf mb c xs=some (K,bl)/\Clo w v K bl
theorem CdM.kept{mb:Nat}{w w':World}{B:Nat}(hk:KR B w w'):∀(n:Nat)(c:Cd)(v:Value),CdM mb w n c v->CdM mb w' n c v:=by
 intro n
 induction n with
 |zero=>intro c v h;exact h.elim
 |succ n ih=>
  intro c v h
  obtain⟨h0,xs,K,bl,h1,h2,h3⟩:=h
  exact⟨h0,xs,K,bl,h1.imp ih,h2,h3.kept hk⟩
theorem CdM.succ{mb:Nat}{w:World}:∀(n:Nat)(c:Cd)(v:Value),CdM mb w n c v->CdM mb w (n+1) c v:=by
 intro n
 induction n with
 |zero=>intro c v h;exact h.elim
 |succ n ih=>
  intro c v h
  obtain⟨h0,xs,K,bl,h1,h2,h3⟩:=h
  exact⟨h0,xs,K,bl,h1.imp ih,h2,h3⟩
theorem CdM.le{mb:Nat}{w:World}{n k:Nat}{c:Cd}{v:Value}(h:CdM mb w n c v)(hk:n<=k):CdM mb w k c v:=by
 induction k with
 |zero=>
      have:n=0:=by omega
      subst this;exact h
 |succ k ih=>
  by_cases he:n=k+1
  ·subst he;exact h
  ·exact(ih (by omega)).succ
def ScV(sa:List Nat)(sc:Nat)(v:Value):Prop:=(sc=0/\v=.pointer none)\/∃b,sc≠0/\sa[sc-1]?=some b/\v=ptrV b
theorem ScV.app{sa:List Nat}{sc:Nat}{v:Value}(l:List Nat)(h:ScV sa sc v):ScV (sa++l) sc v:=by
 rcases h with h|⟨b,h0,h1,h2⟩
 ·exact inl h
 ·exact inr ⟨b,h0,by rw[List.getElem?_append_left (List.getElem?_eq_some_iff.1 h1).1];exact h1,h2⟩
theorem ScV.ptr{sa:List Nat}{sc:Nat}{v:Value}(h:ScV sa sc v):∃p,v=.pointer p:=by
 rcases h with⟨_,h⟩|⟨b,_,_,h⟩
 ·exact⟨_,h⟩
 ·exact⟨_,h⟩
def VM(mb:Nat)(sa ca:List Nat)(w:World)(r:RV)(v:Value):Prop:=
 (r.tag=0/\v=numV r.n/\InI r.n)\/(r.tag=1/\v=boolV (decide (r.n=1)))\/(r.tag=2/\v=unitV) \/
 (r.tag=4/\∃n c x sv fv,r.cd=[c]/\CdM mb w n c x/\ScV sa r.sc sv/\Clo w fv 148 [(tyCode,x),(tyScopeP,sv)]/\v=.iface tyFn fv) \/
 (r.tag=5/\v=.iface tyFn (.func (.func 46) #[ptrV mb] #[]))\/(r.tag=6/\v=.iface tyFn (.func (.func 47) #[ptrV mb] #[]))\/(r.tag=7/\v=.iface tyFn (.func (.func 48) #[] #[])) \/
 (r.tag=8/\∃b,ca[r.n.toNat]?=some b/\v=.iface tyCellP (ptrV b))\/(r.tag=9/\v=.nilIface)
theorem VM.ifv{mb:Nat}{sa ca:List Nat}{w:World}{r:RV}{v:Value}(h:VM mb sa ca w r v):IfV v:=by
 rcases h with⟨_,h,_⟩|⟨_,h⟩|⟨_,h⟩|⟨_,_,_,_,_,_,_,_,_,_,h⟩|⟨_,h⟩|⟨_,h⟩|⟨_,h⟩|⟨_,_,_,h⟩|⟨_,h⟩
 all_goals first|exact inr h|exact inl ⟨_,_,h⟩
theorem VM.kept{mb:Nat}{sa ca:List Nat}{w w':World}{B:Nat}(hk:KR B w w')(l l':List Nat){r:RV}{v:Value}(h:VM mb sa ca w r v):VM mb (sa++l) (ca++l') w' r v:=by
 rcases h with h|h|h|⟨h1,n,c,x,sv,fv,h2,h3,h4,h5,h6⟩|h|h|h|⟨h1,b,h2,h3⟩|h
 ·exact inl h
 ·exact inr (inl h)
 ·exact inr (inr (inl h))
 ·exact inr (inr (inr (inl ⟨h1,n,c,x,sv,fv,h2,h3.kept hk,h4.app l,h5.kept hk,h6⟩)))
 ·exact inr (inr (inr (inr (inl h))))
 ·exact inr (inr (inr (inr (inr (inl h)))))
 ·exact inr (inr (inr (inr (inr (inr (inl h))))))
 ·exact inr (inr (inr (inr (inr (inr (inr (inl ⟨h1,b,by rw[List.getElem?_append_left (List.getElem?_eq_some_iff.1 h2).1];exact h2,h3⟩)))))))
 ·exact inr (inr (inr (inr (inr (inr (inr (inr h)))))))
def frOf(mb:Nat)(f:Fr)(xs ys:List Value)(sv tv:Value):Option (Nat×List (TypeId×Value)):=
 match f.op,xs,ys with
 |0,[x],[]=>some (209,[(tyCode,x),(tyScopeP,sv),(1,stepV mb),(tyNext,tv)])
 |1,[],[y]=>some (210,[(1,stepV mb),(tyVal,y),(tyNext,tv)])
 |2,[x],[]=>some (166,[(tyCode,x),(tyScopeP,sv),(tyNext,tv)])
 |3,[x],[]=>if f.sc=0 then none else some (164,[(tyScopeP,sv),(tyCode,x),(tyNext,tv)])
 |4,[x,y],[]=>some (212,[(tyCode,x),(tyScopeP,sv),(tyNext,tv),(tyCode,y)])
 |5,[x],[]=>some (105,[(tyCode,x),(tyScopeP,sv),(tyNext,tv)])
 |6,[x],[]=>some (214,[(tyCode,x),(tyScopeP,sv),(tyNext,tv)])
 |7,[],[y]=>some (215,[(tyVal,y),(tyNext,tv)])
 |8,[],[]=>some (217,[(tyNext,tv)])
 |9,[x],[]=>some (219,[(tyCode,x),(tyScopeP,sv),(tyNext,tv),(tyOper,operV f.nm)])
 |10,[],[y]=>some (220,[(tyNext,tv),(tyOper,operV f.nm),(tyVal,y)])
 |13,[],[]=>some (197,[(tyNext,tv)])
 |_,_,_=>none
def CdX(mb:Nat)(w:World)(c:Cd)(v:Value):Prop:=∃n,CdM mb w n c v
theorem CdX.kept{mb:Nat}{w w':World}{B:Nat}(hk:KR B w w')(c:Cd)(v:Value)(h:CdX mb w c v):CdX mb w' c v:=h.elim fun n hn=>⟨n,hn.kept hk⟩
def NxM(mb:Nat)(sa ca:List Nat)(w:World):List Fr->Value->Prop
 |[],v=>Clo w v 74 []
 |f::k,v=>∃xs ys sv tv K bl,Each (CdX mb w) f.cds xs/\Each (VM mb sa ca w) f.vs ys/\ScV sa f.sc sv/\NxM mb sa ca w k tv/\frOf mb f xs ys sv tv=some (K,bl)/\Clo w v K bl
theorem NxM.kept{mb:Nat}{sa ca:List Nat}{w w':World}{B:Nat}(hk:KR B w w')(l l':List Nat):∀(k:List Fr)(v:Value),NxM mb sa ca w k v->NxM mb (sa++l) (ca++l') w' k v:=by
 intro k
 induction k with
 |nil=>intro v h;exact Clo.kept hk h
 |cons f k ih=>
  intro v h
  obtain⟨xs,ys,sv,tv,K,bl,h1,h2,h3,h4,h5,h6⟩:=h
  exact⟨xs,ys,sv,tv,K,bl,h1.imp (CdX.kept hk),h2.imp (fun _ _=>VM.kept hk l l'),h3.app l,ih _ h4,h5,h6.kept hk⟩
structure RM(B mb:Nat)(sa ca:List Nat)(m:Mach)(w:World):Prop where
 mach:∃ov,w.heap[mb]?=some (.cells #[.string (bs m.input),ov,.int .i64 m.most,.int .i64 m.done] tyMach (0,0))/\w.ownsRow B tyRB 1 ov m.output.length (m.output.map fun c=>.int .u8 c.toNat)
 slen:sa.length=m.scopes.length
 sdis:sa.Nodup
 scope:∀(i:Nat)(v:RV)(o:Nat),m.scopes[i]?=some (v,o)->∃b x ov,sa[i]?=some b/\w.heap[b]?=some (.cells #[x,ov] tyScope (0,0))/\VM mb sa ca w v x/\ScV sa o ov
 clen:ca.length=m.cells.length
 cdis:ca.Nodup
 cell:∀(i:Nat)(v:RV),m.cells[i]?=some v->∃b x,ca[i]?=some b/\w.heap[b]?=some (.cells #[x] tyCell (0,0))/\VM mb sa ca w v x
 inp:m.input.length<=1000000
 out:m.output.length<=m.done
 don:m.done<=m.most
 mst:m.most<=4000
 lowm:B<=mb
 lows:∀b∈sa,B<=b
 lowc:∀b∈ca,B<=b
 lowb:B<=w.heap.size
section
variable {B mb:Nat}{sa ca:List Nat}{m:Mach}{w u:World}
theorem VM.stay(hk:KR B w u){r:RV}{v:Value}(h:VM mb sa ca w r v):VM mb sa ca u r v:=by
 have:=h.kept hk [] []
 rw[append_nil,append_nil]at this;exact this
theorem NxM.stay(hk:KR B w u){k:List Fr}{v:Value}(h:NxM mb sa ca w k v):NxM mb sa ca u k v:=by
 have:=NxM.kept hk [] [] k v h
 rw[append_nil,append_nil]at this;exact this
theorem KR.more(hs:w.heap.size<=u.heap.size)(e:∀k,k<w.heap.size->u.heap[k]?=w.heap[k]?)(so:SameO u w):KR B w u:=⟨hs,fun k _ _ _ _ hc=>e k (lt_of_heap hc),fun k _ hl=>e k hl,so⟩
theorem RM.sc_lt(h:RM B mb sa ca m w){b:Nat}(hb:b∈sa):b<w.heap.size:=by
 obtain⟨i,hi,rfl⟩:=List.mem_iff_getElem.1 hb
 have hl:i<m.scopes.length:=by rw[<- h.slen];exact hi
 obtain⟨b,x,ov,h1,h2,_⟩:=h.scope i m.scopes[i].1 m.scopes[i].2 (List.getElem?_eq_getElem hl)
 rw[List.getElem?_eq_getElem hi]at h1
 cases h1
 exact lt_of_heap h2
theorem RM.ce_lt(h:RM B mb sa ca m w){b:Nat}(hb:b∈ca):b<w.heap.size:=by
 obtain⟨i,hi,rfl⟩:=List.mem_iff_getElem.1 hb
 have hl:i<m.cells.length:=by rw[<- h.clen];exact hi
 obtain⟨b,x,h1,h2,_⟩:=h.cell i m.cells[i] (List.getElem?_eq_getElem hl)
 rw[List.getElem?_eq_getElem hi]at h1
 cases h1
 exact lt_of_heap h2
theorem RM.more(h:RM B mb sa ca m w)(hs:w.heap.size<=u.heap.size)(e:∀k,k<w.heap.size->u.heap[k]?=w.heap[k]?)(so:SameO u w):RM B mb sa ca m u:=by
 have hk:KR B w u:=KR.more hs e so
 obtain⟨ov,h1,h2⟩:=h.mach
 refine⟨⟨ov,(e _ (lt_of_heap h1)).trans h1,ownsRow_kept h2 fun k c f _ hc=>e k (lt_of_heap hc)⟩,h.slen,h.sdis,fun i v o hi=>?_,h.clen,h.cdis,fun i v hi=>?_,h.inp,h.out,h.don,h.mst,h.lowm,h.lows,h.lowc,le_trans h.lowb hs⟩
 ·obtain⟨b,x,ov,h1,h2,h3,h4⟩:=h.scope i v o hi
  exact⟨b,x,ov,h1,(e _ (lt_of_heap h2)).trans h2,h3.stay hk,h4⟩
 ·obtain⟨b,x,h1,h2,h3⟩:=h.cell i v hi
  exact⟨b,x,h1,(e _ (lt_of_heap h2)).trans h2,h3.stay hk⟩
theorem RM.heap(h:RM B mb sa ca m w)(e:HEq u w):RM B mb sa ca m u:=h.more (by rw[e.heap];exact le_refl _) (fun k _=>by rw[e.heap]) e.so
theorem RM.push(h:RM B mb sa ca m w){o:Obj}(e:PEq u w o):RM B mb sa ca m u:=h.more (by rw[push_size e];omega) (fun k hk=>push_old e hk) e.so
theorem RM.with(h:RM B mb sa ca m w){v:RV}{x sv:Value}{sc:Nat}(hv:VM mb sa ca w v x)(ho:ScV sa sc sv)(e:PEq u w (.cells #[x,sv] tyScope (0,0))):RM B mb (sa++[w.heap.size]) ca (m.with v sc).2 u:=by
 have hp:=h.push e
 have hk:KR B w u:=(KR.refl B w).push e
 refine⟨hp.mach,?_,?_,fun i v' o hi=>?_,hp.clen,hp.cdis,fun i v' hi=>?_,h.inp,h.out,h.don,h.mst,h.lowm,fun b hb=>?_,h.lowc,hp.lowb⟩
 rotate_right
 ·rcases mem_append.1 hb with hb|hb
  ·exact h.lows b hb
  ·rw[mem_singleton.1 hb];exact h.lowb
 ·show (sa++[w.heap.size]).length=(m.scopes++[(v,sc)]).length
  simp[h.slen]
 ·rw[List.nodup_append]
  refine⟨h.sdis,by simp,fun a ha b hb=>?_⟩
  rw[mem_singleton]at hb
  subst hb
  have:=h.sc_lt ha
  omega
 ·replace hi:(m.scopes++[(v,sc)])[i]?=some (v',o):=hi
  by_cases hl:i<m.scopes.length
  ·rw[List.getElem?_append_left hl]at hi
   obtain⟨b,x',ov,h1,h2,h3,h4⟩:=hp.scope i v' o hi
   refine⟨b,x',ov,by rw[List.getElem?_append_left (by rw[h.slen];exact hl)];exact h1,h2,?_,h4.app _⟩
   have:=h3.kept (KR.refl B u) [w.heap.size] []
   rw[append_nil]at this;exact this
  ·have hi':i=m.scopes.length:=by
    have:=(List.getElem?_eq_some_iff.1 hi).1
    simp at this;omega
   subst hi'
   simp at hi
   obtain⟨rfl,rfl⟩:=hi
   refine⟨w.heap.size,x,sv,by rw[<- h.slen];simp,push_new e,?_,ho.app _⟩
   have:=hv.kept hk [w.heap.size] []
   rw[append_nil]at this;exact this
 ·obtain⟨b,x',h1,h2,h3⟩:=hp.cell i v' hi
  refine⟨b,x',h1,h2,?_⟩
  have:=h3.kept (KR.refl B u) [w.heap.size] []
  rw[append_nil]at this;exact this
theorem RM.ref(h:RM B mb sa ca m w){v:RV}{x:Value}(hv:VM mb sa ca w v x)(e:PEq u w (.cells #[x] tyCell (0,0))):RM B mb sa (ca++[w.heap.size]) { m with cells:=m.cells++[v] } u:=by
 have hp:=h.push e
 have hk:KR B w u:=(KR.refl B w).push e
 refine⟨hp.mach,h.slen,h.sdis,fun i v' o hi=>?_,?_,?_,fun i v' hi=>?_,h.inp,h.out,h.don,h.mst,h.lowm,h.lows,fun b hb=>?_,hp.lowb⟩
 rotate_right
 ·rcases mem_append.1 hb with hb|hb
  ·exact h.lowc b hb
  ·rw[mem_singleton.1 hb];exact h.lowb
 ·obtain⟨b,x',ov,h1,h2,h3,h4⟩:=hp.scope i v' o hi
  refine⟨b,x',ov,h1,h2,?_,h4⟩
  have:=h3.kept (KR.refl B u) [] [w.heap.size]
  rw[append_nil]at this;exact this
 ·simp[h.clen]
 ·rw[List.nodup_append]
  refine⟨h.cdis,by simp,fun a ha b hb=>?_⟩
  rw[mem_singleton]at hb
  subst hb
  have:=h.ce_lt ha
  omega
 ·replace hi:(m.cells++[v])[i]?=some v':=hi
  by_cases hl:i<m.cells.length
  ·rw[List.getElem?_append_left hl]at hi
   obtain⟨b,x',h1,h2,h3⟩:=hp.cell i v' hi
   refine⟨b,x',by rw[List.getElem?_append_left (by rw[h.clen];exact hl)];exact h1,h2,?_⟩
   have:=h3.kept (KR.refl B u) [] [w.heap.size]
   rw[append_nil]at this;exact this
  ·have hi':i=m.cells.length:=by
    have:=(List.getElem?_eq_some_iff.1 hi).1
    simp at this;omega
   subst hi'
   simp at hi
   subst hi
   refine⟨w.heap.size,x,by rw[<- h.clen];simp,push_new e,?_⟩
   have:=hv.kept hk [] [w.heap.size]
   rw[append_nil]at this;exact this
theorem nodup_ne{l:List Nat}(h:l.Nodup){i j a:Nat}(hi:l[i]?=some a)(hj:l[j]?=some a):i=j:=by
 obtain⟨h1,h2⟩:=List.getElem?_eq_some_iff.1 hi
 obtain⟨h3,h4⟩:=List.getElem?_eq_some_iff.1 hj
 have hp:=List.pairwise_iff_getElem.1 h
 rcases Nat.lt_trichotomy i j with hl|hl|hl
 ·exact absurd (h2.trans h4.symm) (hp i j h1 h3 hl)
 ·exact hl
 ·exact absurd (h4.trans h2.symm) (hp j i h3 h1 hl)
theorem RM.fill(h:RM B mb sa ca m w){v:RV}{x x0 ov:Value}{i b:Nat}(hv:VM mb sa ca w v x)(hb:sa[i]?=some b)(h0:w.heap[b]?=some (.cells #[x0,ov] tyScope (0,0)))(hs:u.heap.size=w.heap.size)(e:∀k,k≠b->u.heap[k]?=w.heap[k]?)(e0:u.heap[b]?=some (.cells #[x,ov] tyScope (0,0)))(so:SameO u w) :
  KR B w u/\RM B mb sa ca { m with scopes:=m.scopes.modify i (fun p=>(v,p.2)) } u:=by
 have hk:KR B w u:=(KR.refl B w).turn (h.lows b (List.mem_of_getElem? hb)) h0 (fun hf=>hf.1 rfl) hs e so
 obtain⟨o2,h1,h2⟩:=h.mach
 refine⟨hk,⟨o2,(e mb fun q=>by subst q;rw[h0]at h1;exact absurd (cells_ty h1) (by decide)).trans h1,ownsRow_kept h2 fun k c f _ hc=>e k fun q=>by subst q;rw[h0]at hc;exact absurd (cells_ty hc) (by decide)⟩,by rw[List.length_modify];exact h.slen,h.sdis,fun j v' o hj=>?_,h.clen,h.cdis,fun j v' hj=>?_,h.inp,h.out,h.don,h.mst,h.lowm,h.lows,h.lowc,by rw[hs];exact h.lowb⟩
 ·replace hj:(m.scopes.modify i (fun p=>(v,p.2)))[j]?=some (v',o):=hj
  rw[List.getElem?_modify]at hj
  cases hq:m.scopes[j]? with
  |none=>rw[hq]at hj;cases hj
  |some p=>
   rw[hq]at hj
   obtain⟨b',x',ov',q1,q2,q3,q4⟩:=h.scope j p.1 p.2 hq
   by_cases hij:i=j
   ·subst hij
    simp at hj
    obtain⟨rfl,rfl⟩:=hj
    rw[hb]at q1
    cases q1
    rw[h0]at q2
    have:ov'=ov:=by simp at q2;exact q2.2.symm
    subst this
    exact⟨b,x,ov',hb,e0,hv.stay hk,q4⟩
   ·simp[hij]at hj
    subst hj
    refine⟨b',x',ov',q1,(e b' fun q=>hij (nodup_ne h.sdis hb (q ▸ q1))).trans q2,q3.stay hk,q4⟩
 ·obtain⟨b',x',q1,q2,q3⟩:=h.cell j v' hj
  exact⟨b',x',q1,(e b' fun q=>by subst q;rw[h0]at q2;exact absurd (cells_ty q2) (by decide)).trans q2,q3.stay hk⟩
theorem RM.set(h:RM B mb sa ca m w){v:RV}{x x0:Value}{i b:Nat}(hv:VM mb sa ca w v x)(hb:ca[i]?=some b)(h0:w.heap[b]?=some (.cells #[x0] tyCell (0,0)))(hs:u.heap.size=w.heap.size)(e:∀k,k≠b->u.heap[k]?=w.heap[k]?)(e0:u.heap[b]?=some (.cells #[x] tyCell (0,0)))(so:SameO u w) :
  KR B w u/\RM B mb sa ca { m with cells:=m.cells.modify i (fun _=>v) } u:=by
 have hk:KR B w u:=(KR.refl B w).turn (h.lowc b (List.mem_of_getElem? hb)) h0 (fun hf=>hf.2.1 rfl) hs e so
 obtain⟨o2,h1,h2⟩:=h.mach
 refine⟨hk,⟨o2,(e mb fun q=>by subst q;rw[h0]at h1;exact absurd (cells_ty h1) (by decide)).trans h1,ownsRow_kept h2 fun k c f _ hc=>e k fun q=>by subst q;rw[h0]at hc;exact absurd (cells_ty hc) (by decide)⟩,h.slen,h.sdis,fun j v' o hj=>?_,by rw[List.length_modify];exact h.clen,h.cdis,fun j v' hj=>?_,h.inp,h.out,h.don,h.mst,h.lowm,h.lows,h.lowc,by rw[hs];exact h.lowb⟩
 ·obtain⟨b',x',ov',q1,q2,q3,q4⟩:=h.scope j v' o hj
  exact⟨b',x',ov',q1,(e b' fun q=>by subst q;rw[h0]at q2;exact absurd (cells_ty q2) (by decide)).trans q2,q3.stay hk,q4⟩
 ·replace hj:(m.cells.modify i (fun _=>v))[j]?=some v':=hj
  rw[List.getElem?_modify]at hj
  cases hq:m.cells[j]? with
  |none=>rw[hq]at hj;cases hj
  |some p=>
   rw[hq]at hj
   obtain⟨b',x',q1,q2,q3⟩:=h.cell j p hq
   by_cases hij:i=j
   ·subst hij
    simp at hj
    subst hj
    exact⟨b,x,hb,e0,hv.stay hk⟩
   ·simp[hij]at hj
    subst hj
    exact⟨b',x',q1,(e b' fun q=>hij (nodup_ne h.cdis hb (q ▸ q1))).trans q2,q3.stay hk⟩
theorem RM.field(h:RM B mb sa ca m w){m':Mach}{ov:Value}(hk:KR B w u)(hsc:m'.scopes=m.scopes)(hce:m'.cells=m.cells)(h1:u.heap[mb]?=some (.cells #[.string (bs m'.input),ov,.int .i64 m'.most,.int .i64 m'.done] tyMach (0,0)))(h2:u.ownsRow B tyRB 1 ov m'.output.length (m'.output.map fun c=>.int .u8 c.toNat))
  (e:∀(k:Nat)(c:Array Value)(t:TypeId)(f:Nat×Nat),t=tyScope\/t=tyCell->w.heap[k]?=some (.cells c t f)->u.heap[k]?=w.heap[k]?) (hi:m'.input.length<=1000000) (ho:m'.output.length<=m'.done) (hd:m'.done<=m'.most) (hm:m'.most<=4000):RM B mb sa ca m' u:=by
 refine⟨⟨ov,h1,h2⟩,by rw[hsc];exact h.slen,h.sdis,fun j v' o hj=>?_,by rw[hce];exact h.clen,h.cdis,fun j v' hj=>?_,hi,ho,hd,hm,h.lowm,h.lows,h.lowc,le_trans h.lowb hk.size⟩
 ·rw[hsc]at hj
  obtain⟨b',x',ov',q1,q2,q3,q4⟩:=h.scope j v' o hj
  exact⟨b',x',ov',q1,(e b' _ _ _ (inl rfl) q2).trans q2,q3.stay hk,q4⟩
 ·rw[hce]at hj
  obtain⟨b',x',q1,q2,q3⟩:=h.cell j v' hj
  exact⟨b',x',q1,(e b' _ _ _ (inr rfl) q2).trans q2,q3.stay hk⟩
end
theorem cell_up{w:World}{o:Obj}{b i:Nat}{v:Value}(h:w.cell? ⟨b,i,none⟩=some v):(w.alloc o).cell? ⟨b,i,none⟩=some v:=by
 have hb:b<w.heap.size:=by
  unfold World.cell? at h
  cases hc:w.heap[b]? with
  |none=>simp[hc]at h
  |some o=>exact lt_of_heap hc
 have:(w.alloc o).heap[b]?=w.heap[b]?:=Below.heap_alloc _ _ _ hb
 unfold World.cell? at h ⊢
 rw[show (w.alloc o).heap[b]?=w.heap[b]? from this];exact h
def RQ(P:Value->World->Prop):Ending->World->Prop:=fun e w'=>∃rv,e=.returned rv/\P rv w'
section
variable {b1 b2 b3 K K':Nat}{p:Option Addr}{cs cs':Array Value}{w:World}{P:Value->World->Prop}
theorem w_let(h1:w.cell? ⟨b1,0,none⟩=some (.func (.func K) #[] cs))(HE:Enters K)
  (hc:Calls prog K (#[.pointer p,.func (.func 166) #[] #[ptrV b2,ptrV w.heap.size,ptrV (w.heap.size+1)]]++cs) ((w.alloc (.cells #[.pointer p] tyScopeP)).alloc (.cells #[.func (.func K') #[] cs'] tyNext)) (RQ P)) :
  Calls prog 165 #[.pointer p,.func (.func K') #[] cs',ptrV b1,ptrV b2] w (RQ P):=by
 have hE:=fun(args:Array Value) (w:World)=>HE args w
 have c1:=cell_up (o:=.cells #[.func (.func K') #[] cs'] tyNext) (cell_up (o:=.cells #[.pointer p] tyScopeP) h1)
 have HC:=hide hc
 clear hc HE h1
 unfold ptrV at *
 go_enter func165,ntmps165
 go_wp2_with fail
 refine(HC.out).mono ?_
 rintro e w'⟨rv,rfl,hq⟩
 go_wp2
 refine bodyPost_ret (v:=rv) (by simp[results,results165,go_sem]) rfl ⟨rv,rfl,hq⟩
theorem w_set(h1:w.cell? ⟨b1,0,none⟩=some (.func (.func K) #[] cs))(HE:Enters K)
  (hc:Calls prog K (#[.pointer p,.func (.func 214) #[] #[ptrV b2,ptrV w.heap.size,ptrV (w.heap.size+1)]]++cs) ((w.alloc (.cells #[.pointer p] tyScopeP)).alloc (.cells #[.func (.func K') #[] cs'] tyNext)) (RQ P)) :
  Calls prog 213 #[.pointer p,.func (.func K') #[] cs',ptrV b1,ptrV b2] w (RQ P):=by
 have hE:=fun(args:Array Value) (w:World)=>HE args w
 have c1:=cell_up (o:=.cells #[.func (.func K') #[] cs'] tyNext) (cell_up (o:=.cells #[.pointer p] tyScopeP) h1)
 have HC:=hide hc
 clear hc HE h1
 unfold ptrV at *
 go_enter func213,ntmps213
 go_wp2_with fail
 refine(HC.out).mono ?_
 rintro e w'⟨rv,rfl,hq⟩
 go_wp2
 refine bodyPost_ret (v:=rv) (by simp[results,results213,go_sem]) rfl ⟨rv,rfl,hq⟩
theorem w_seq(h1:w.cell? ⟨b1,0,none⟩=some (.func (.func K) #[] cs))(HE:Enters K)
  (hc:Calls prog K (#[.pointer p,.func (.func 105) #[] #[ptrV b2,ptrV w.heap.size,ptrV (w.heap.size+1)]]++cs) ((w.alloc (.cells #[.pointer p] tyScopeP)).alloc (.cells #[.func (.func K') #[] cs'] tyNext)) (RQ P)) :
  Calls prog 104 #[.pointer p,.func (.func K') #[] cs',ptrV b1,ptrV b2] w (RQ P):=by
 have hE:=fun(args:Array Value) (w:World)=>HE args w
 have c1:=cell_up (o:=.cells #[.func (.func K') #[] cs'] tyNext) (cell_up (o:=.cells #[.pointer p] tyScopeP) h1)
 have HC:=hide hc
 clear hc HE h1
 unfold ptrV at *
 go_enter func104,ntmps104
 go_wp2_with fail
 refine(HC.out).mono ?_
 rintro e w'⟨rv,rfl,hq⟩
 go_wp2
 refine bodyPost_ret (v:=rv) (by simp[results,results104,go_sem]) rfl ⟨rv,rfl,hq⟩
theorem w_choice(h1:w.cell? ⟨b1,0,none⟩=some (.func (.func K) #[] cs))(HE:Enters K)
  (hc:Calls prog K (#[.pointer p,.func (.func 212) #[] #[ptrV b2,ptrV w.heap.size,ptrV (w.heap.size+1),ptrV b3]]++cs) ((w.alloc (.cells #[.pointer p] tyScopeP)).alloc (.cells #[.func (.func K') #[] cs'] tyNext)) (RQ P)) :
  Calls prog 211 #[.pointer p,.func (.func K') #[] cs',ptrV b1,ptrV b2,ptrV b3] w (RQ P):=by
 have hE:=fun(args:Array Value) (w:World)=>HE args w
 have c1:=cell_up (o:=.cells #[.func (.func K') #[] cs'] tyNext) (cell_up (o:=.cells #[.pointer p] tyScopeP) h1)
 have HC:=hide hc
 clear hc HE
 unfold ptrV at *
 go_enter func211,ntmps211
 go_wp2_with fail
 refine(HC.out).mono ?_
 rintro e w'⟨rv,rfl,hq⟩
 go_wp2
 refine bodyPost_ret (v:=rv) (by simp[results,results211,go_sem]) rfl ⟨rv,rfl,hq⟩
theorem w_calc(h1:w.cell? ⟨b1,0,none⟩=some (.func (.func K) #[] cs))(HE:Enters K)
  (hc:Calls prog K (#[.pointer p,.func (.func 219) #[] #[ptrV b2,ptrV w.heap.size,ptrV (w.heap.size+1),ptrV b3]]++cs) ((w.alloc (.cells #[.pointer p] tyScopeP)).alloc (.cells #[.func (.func K') #[] cs'] tyNext)) (RQ P)) :
  Calls prog 218 #[.pointer p,.func (.func K') #[] cs',ptrV b1,ptrV b2,ptrV b3] w (RQ P):=by
 have hE:=fun(args:Array Value) (w:World)=>HE args w
 have c1:=cell_up (o:=.cells #[.func (.func K') #[] cs'] tyNext) (cell_up (o:=.cells #[.pointer p] tyScopeP) h1)
 have HC:=hide hc
 clear hc HE
 unfold ptrV at *
 go_enter func218,ntmps218
 go_wp2_with fail
 refine(HC.out).mono ?_
 rintro e w'⟨rv,rfl,hq⟩
 go_wp2
 refine bodyPost_ret (v:=rv) (by simp[results,results218,go_sem]) rfl ⟨rv,rfl,hq⟩
theorem w_apply(h1:w.cell? ⟨b1,0,none⟩=some (.func (.func K) #[] cs))(HE:Enters K)
  (hc:Calls prog K (#[.pointer p,.func (.func 209) #[] #[ptrV b2,ptrV w.heap.size,ptrV b3,ptrV (w.heap.size+1)]]++cs) ((w.alloc (.cells #[.pointer p] tyScopeP)).alloc (.cells #[.func (.func K') #[] cs'] tyNext)) (RQ P)) :
  Calls prog 208 #[.pointer p,.func (.func K') #[] cs',ptrV b1,ptrV b2,ptrV b3] w (RQ P):=by
 have hE:=fun(args:Array Value) (w:World)=>HE args w
 have c1:=cell_up (o:=.cells #[.func (.func K') #[] cs'] tyNext) (cell_up (o:=.cells #[.pointer p] tyScopeP) h1)
 have HC:=hide hc
 clear hc HE
 unfold ptrV at *
 go_enter func208,ntmps208
 go_wp2_with fail
 refine(HC.out).mono ?_
 rintro e w'⟨rv,rfl,hq⟩
 go_wp2
 refine bodyPost_ret (v:=rv) (by simp[results,results208,go_sem]) rfl ⟨rv,rfl,hq⟩
theorem w_fetch(h1:w.cell? ⟨b1,0,none⟩=some (.func (.func K) #[] cs))(HE:Enters K)
  (hc:Calls prog K (#[.pointer p,.func (.func 217) #[] #[ptrV w.heap.size]]++cs) (w.alloc (.cells #[.func (.func K') #[] cs'] tyNext)) (RQ P)) :
  Calls prog 216 #[.pointer p,.func (.func K') #[] cs',ptrV b1] w (RQ P):=by
 have hE:=fun(args:Array Value) (w:World)=>HE args w
 have c1:=cell_up (o:=.cells #[.func (.func K') #[] cs'] tyNext) h1
 have HC:=hide hc
 clear hc HE
 unfold ptrV at *
 go_enter func216,ntmps216
 go_wp2_with fail
 refine(HC.out).mono ?_
 rintro e w'⟨rv,rfl,hq⟩
 go_wp2
 refine bodyPost_ret (v:=rv) (by simp[results,results216,go_sem]) rfl ⟨rv,rfl,hq⟩
theorem w_always{x:Value}(h1:w.cell? ⟨b1,0,none⟩=some x)(HE:Enters K)
  (hc:Calls prog K (#[x]++cs) (w) (RQ P)) :
  Calls prog 103 #[.pointer p,.func (.func K) #[] cs,ptrV b1] w (RQ P):=by
 have hE:=fun(args:Array Value) (w:World)=>HE args w
 have HC:=hide hc
 clear hc HE
 unfold ptrV at *
 go_enter func103,ntmps103
 go_wp2_with fail
 refine(HC.out).mono ?_
 rintro e w'⟨rv,rfl,hq⟩
 go_wp2
 refine bodyPost_ret (v:=rv) (by simp[results,results103,go_sem]) rfl ⟨rv,rfl,hq⟩
theorem w_fun(HE:Enters K)
  (hc:Calls prog K (#[.iface tyFn (.func (.func 148) #[] #[ptrV b1,ptrV w.heap.size])]++cs) (w.alloc (.cells #[.pointer p] tyScopeP)) (RQ P)) :
  Calls prog 147 #[.pointer p,.func (.func K) #[] cs,ptrV b1] w (RQ P):=by
 have hE:=fun(args:Array Value) (w:World)=>HE args w
 have HC:=hide hc
 clear hc HE
 unfold ptrV at *
 go_enter func147,ntmps147
 go_wp2_with fail
 refine(HC.out).mono ?_
 rintro e w'⟨rv,rfl,hq⟩
 go_wp2
 refine bodyPost_ret (v:=rv) (by simp[results,results147,go_sem]) rfl ⟨rv,rfl,hq⟩
theorem w_seq1{x kv:Value}(h1:w.cell? ⟨b1,0,none⟩=some (.func (.func K) #[] cs))(h2:w.cell? ⟨b2,0,none⟩=some (.pointer p))(h3:w.cell? ⟨b3,0,none⟩=some kv)(HE:Enters K)
  (hc:Calls prog K (#[.pointer p,kv]++cs) (w) (RQ P)) :
  Calls prog 105 #[x,ptrV b1,ptrV b2,ptrV b3] w (RQ P):=by
 have hE:=fun(args:Array Value) (w:World)=>HE args w
 have HC:=hide hc
 clear hc HE
 unfold ptrV at *
 go_enter func105,ntmps105
 go_wp2_with fail
 refine(HC.out).mono ?_
 rintro e w'⟨rv,rfl,hq⟩
 go_wp2
 refine bodyPost_ret (v:=rv) (by simp[results,results105,go_sem]) rfl ⟨rv,rfl,hq⟩
theorem w_set1{x:Value}(hx:IfV x)(h1:w.cell? ⟨b1,0,none⟩=some (.func (.func K) #[] cs))(h2:w.cell? ⟨b2,0,none⟩=some (.pointer p))(HE:Enters K)
  (hc:Calls prog K (#[.pointer p,.func (.func 215) #[] #[ptrV w.heap.size,ptrV b3]]++cs) (w.alloc (.cells #[x] tyVal)) (RQ P)) :
  Calls prog 214 #[x,ptrV b1,ptrV b2,ptrV b3] w (RQ P):=by
 have hE:=fun(args:Array Value) (w:World)=>HE args w
 have c1:=cell_up (o:=.cells #[x] tyVal) h1
 have c2:=cell_up (o:=.cells #[x] tyVal) h2
 rcases hx with⟨tx,vx,rfl⟩|rfl
 all_goals
  have HC:=hide hc
  clear hc HE
  unfold ptrV at *
  go_enter func214,ntmps214
  go_wp2_with fail
  refine(HC.out).mono ?_
  rintro e w'⟨rv,rfl,hq⟩
  go_wp2
  refine bodyPost_ret (v:=rv) (by simp[results,results214,go_sem]) rfl ⟨rv,rfl,hq⟩
theorem w_apply1{x:Value}{b4:Nat}(hx:IfV x)(h1:w.cell? ⟨b1,0,none⟩=some (.func (.func K) #[] cs))(h2:w.cell? ⟨b2,0,none⟩=some (.pointer p))(HE:Enters K)
  (hc:Calls prog K (#[.pointer p,.func (.func 210) #[] #[ptrV b3,ptrV w.heap.size,ptrV b4]]++cs) (w.alloc (.cells #[x] tyVal)) (RQ P)) :
  Calls prog 209 #[x,ptrV b1,ptrV b2,ptrV b3,ptrV b4] w (RQ P):=by
 have hE:=fun(args:Array Value) (w:World)=>HE args w
 have c1:=cell_up (o:=.cells #[x] tyVal) h1
 have c2:=cell_up (o:=.cells #[x] tyVal) h2
 rcases hx with⟨tx,vx,rfl⟩|rfl
 all_goals
  have HC:=hide hc
  clear hc HE
  unfold ptrV at *
  go_enter func209,ntmps209
  go_wp2_with fail
  refine(HC.out).mono ?_
  rintro e w'⟨rv,rfl,hq⟩
  go_wp2
  refine bodyPost_ret (v:=rv) (by simp[results,results209,go_sem]) rfl ⟨rv,rfl,hq⟩
theorem w_calc1{x:Value}{b4:Nat}(hx:IfV x)(h1:w.cell? ⟨b1,0,none⟩=some (.func (.func K) #[] cs))(h2:w.cell? ⟨b2,0,none⟩=some (.pointer p))(HE:Enters K)
  (hc:Calls prog K (#[.pointer p,.func (.func 220) #[] #[ptrV b3,ptrV b4,ptrV w.heap.size]]++cs) (w.alloc (.cells #[x] tyVal)) (RQ P)) :
  Calls prog 219 #[x,ptrV b1,ptrV b2,ptrV b3,ptrV b4] w (RQ P):=by
 have hE:=fun(args:Array Value) (w:World)=>HE args w
 have c1:=cell_up (o:=.cells #[x] tyVal) h1
 have c2:=cell_up (o:=.cells #[x] tyVal) h2
 rcases hx with⟨tx,vx,rfl⟩|rfl
 all_goals
  have HC:=hide hc
  clear hc HE
  unfold ptrV at *
  go_enter func219,ntmps219
  go_wp2_with fail
  refine(HC.out).mono ?_
  rintro e w'⟨rv,rfl,hq⟩
  go_wp2
  refine bodyPost_ret (v:=rv) (by simp[results,results219,go_sem]) rfl ⟨rv,rfl,hq⟩
theorem w_later11{x:Value}(h1:w.cell? ⟨b1,0,none⟩=some (.func (.func K) #[] cs))(h2:w.cell? ⟨b2,0,none⟩=some x)(HE:Enters K)
  (hc:Calls prog K (#[x]++cs) (w) (RQ P)) :
  Calls prog 198 #[ptrV b1,ptrV b2] w (RQ P):=by
 have hE:=fun(args:Array Value) (w:World)=>HE args w
 have HC:=hide hc
 clear hc HE
 unfold ptrV at *
 go_enter func198,ntmps198
 go_wp2_with fail
 refine(HC.out).mono ?_
 rintro e w'⟨rv,rfl,hq⟩
 go_wp2
 refine bodyPost_ret (v:=rv) (by simp[results,results198,go_sem]) rfl ⟨rv,rfl,hq⟩
end
end Go.Proofs.YtbkiipiocpnnnaaGreatDoor
