import Derived.Test.YthakgdfmbknakaaGreatDoorC3
import Derived.Laws.BytesString
import Derived.RegionTactic
import Derived.Defers
set_option linter.all false
set_option maxHeartbeats 40000000
set_option maxRecDepth 100000
open Go.Proofs.Tryz
open Or (inl inr)
open Nat (le_refl le_trans lt_succ_self)
open List (append_nil length_append length_cons mem_cons_self mem_cons_of_mem mem_append mem_singleton append_assoc cons_append length_map map_cons nil_append)
namespace Go.Proofs.YthakgdfmbknakaaGreatDoor
open Value (ownBlock)
open UInt8 (ofNat)
open List (getElem?_eq_getElem lookup_cons mem_append_left)
open St (ev)
open World (cell?)
open Option (any_some getD_some isSome_none isSome_some map_some)
section
open Go.RowKit
def KR.cell{B:Nat}{w u:World}(hk:KR B w u){b:Nat}{t:TypeId}{v:Value}(ft:pZ t v)(e:w.heap[b]?=some (.cells #[v] t (0,0))):u.cell? ⟨b,0,none⟩=some v:=(aP (hk.box e ft) 0).trans rfl
def AL{w:World}{b:Nat}{t:TypeId}{v:Value}(e:w.heap[b]?=some (.cells #[v] t (0,0))):w.cell? ⟨b,0,none⟩=some v:=(aP e 0).trans rfl
def Aa{B:Nat}{w:World}{v:Value}{n:Nat}{xs:List Value}(h:w.ownsRow B kF 1 v n xs){k:Nat}{c:Array Value}{t:TypeId}{f:Nat×Nat}(ht:t≠kF)(hc:w.heap[k]?=some (.cells c t f))(e:v.ownBlock=some k):False:=by
 rcases h.2 with⟨rfl,_⟩|⟨g,cap,cur,rfl,_,Ng,_⟩
 ·simp[ownBlock]at e
 ·have:g=k:=by simpa [ownBlock]using e
  subst this;rw[Ng]at hc;exact ht (aN hc).symm
def Ac{B:Nat}{w:World}{v:Value}{n:Nat}{xs:List Value}(h:w.ownsRow B kF 1 v n xs){k:Nat}(hk:k<B)(e:v.ownBlock=some k):False:=by
 rcases h.2 with⟨rfl,_⟩|⟨g,cap,cur,rfl,hg,_⟩
 ·simp[ownBlock]at e
 ·have:g=k:=by simpa [ownBlock]using e
  omega
section
variable {B mb N:Nat}{out:Mach}{sa:List Nat}{m:Mach}{w u:World}{c:Cd}{sc:Nat}{k:List Fr}{cv sv kv:Value}
def RM.tick(h:RM B mb sa m w)(hd:m.done≠m.most):∃i0 o0,w.heap[mb]?=some (.cells #[i0,o0,.int .i64 m.most,.int .i64 m.done] dJ (0,0))/\∀u,Upd w u mb (.cells #[i0,o0,.int .i64 m.most,.int .i64 (m.done+1:Nat)] dJ (0,0))->KZ B w u/\RM B mb sa { m with done:=m.done+1 } u:=by
 obtain⟨ov,h1,h2⟩:=h.mach;refine⟨_,_,h1,fun u hu=>?_⟩;have hk:KZ B w u:=(KZ.refl B w).turn h.lowm h1 (fun hf=>hf.2.2.1 rfl) (by decide) hu.size hu.rest hu.so
 have Ju:∀(k:Nat)(c:Array Value)(t:TypeId)(f:Nat×Nat),t≠dJ->w.heap[k]?=some (.cells c t f)->u.heap[k]?=w.heap[k]?:=fun k c t f ht hc=>hu.rest k fun e=>by
  subst e;rw[h1]at hc;exact ht (aN hc).symm
 refine⟨hk,h.field hk.kr rfl hu.here (aE h2 fun k c f _ hc=>Ju k c _ f (by decide) hc) (fun k c f hc=>Ju k c _ f (by decide) hc) h.inp ?_ ?_ h.mst⟩
 ·have:=h.out;show m.output.length<=m.done+1;omega
 ·have:=h.don;show m.done+1<=m.most;omega
def VM.cases{r:RV}{v:Value}(h:VM mb sa w r v):(r.tag=0/\v=jB r.n/\QX r.n)\/(r.tag=1/\v=qJ (decide (r.n=1)))\/(r.tag=2/\v=iW) \/
  (r.tag=4/\∃n c x sv fv,r.cd=[c]/\pB mb w n c x/\tS sa r.sc sv/\Clo w fv 172 [(aW,x),(aV,sv)]/\v=.iface iE fv) \/
  (r.tag=5/\v=.iface iE (.func (.func 61) #[aA mb] #[]))\/(r.tag=6/\v=.iface iE (.func (.func 62) #[aA mb] #[]))\/(r.tag=7/\v=.iface iE (.func (.func 63) #[] #[])) \/
  (r.tag=3/\∃b sl xs,v=.iface kQ (aA b)/\w.heap[b]?=some (.cells #[.string (bs r.nm),sl] lM (0,0))/\Each (VM mb sa w) r.ps xs/\kY w xs sl):=by
 obtain⟨n,h⟩:=h
 cases n with
 |zero=>exact h.elim
 |succ n=>
  rcases h with h|h|h|h|h|h|h|⟨h1,b,sl,xs,h2,h3,h4,h5⟩
  ·exact inl h
  ·exact inr (inl h)
  ·exact inr (inr (inl h))
  ·exact inr (inr (inr (inl h)))
  ·exact inr (inr (inr (inr (inl h))))
  ·exact inr (inr (inr (inr (inr (inl h)))))
  ·exact inr (inr (inr (inr (inr (inr (inl h))))))
  ·exact inr (inr (inr (inr (inr (inr (inr ⟨h1,b,sl,xs,h2,h3,h4.imp fun _ _ h=>⟨n,h⟩,h5⟩))))))
def VM.num0{r:RV}{v:Value}(h:VM mb sa w r v)(ht:r.tag=0):v=jB r.n:=by
 rcases h.cases with h|h|h|h|h|h|h|h
 all_goals first|exact h.2.1|(have:=h.1;omega)
def VM.DW{r:RV}{v:Value}(h:VM mb sa w r v)(ht:r.tag=1):v=qJ (decide (r.n=1)):=by
 rcases h.cases with h|h|h|h|h|h|h|h
 all_goals first|exact h.2|(have:=h.1;omega)
def VM.DO{r:RV}{v:Value}(h:VM mb sa w r v)(ht:r.tag=3):∃b sl xs,v=.iface kQ (aA b)/\w.heap[b]?=some (.cells #[.string (bs r.nm),sl] lM (0,0))/\Each (VM mb sa w) r.ps xs/\kY w xs sl:=by
 rcases h.cases with h|h|h|h|h|h|h|h
 all_goals first|exact h.2|(have:=h.1;omega)
def Ci{K':Nat}{cs':Array Value}{rf r:RV}{x y:Value}(hG:Hw B mb out N)(Wm:FK x)(Tq:aF K')(hV:VM mb sa w r x){ow:List Nat}(hT:lF B mb sa w ow k (.func (.func K') #[] cs'))(Yr:VM mb sa w rf y)(O1:m.output.length<=m.done)
  (hl:∀e,call { m with done:=m.done+1 } rf r k=.inl e->(0,out)=(e,m)) (Uy:∀m' s',call { m with done:=m.done+1 } rf r k=.inr (m',s')->jX N m' s'=some (0,out)) :
  ∃K2 fs2 cs2,y=.iface iE (.func (.func K2) fs2 cs2)/\aF K2/\∀u,KZ B w u->RM B mb sa { m with done:=m.done+1 } u->Calls prog K2 (fs2++(#[x,.func (.func K') #[] cs']++cs2)) u (RQ (jJ B mb (N+1) out w)):=by
 rcases Yr.cases with h|h|h|⟨ht,n,c,xc,sv,fv,T6,m7,Ye,⟨hEf,l,rfl,hb⟩,rfl⟩|⟨ht,rfl⟩|⟨ht,rfl⟩|h|h
 ·have:=hl 3 (by unfold call;rw[if_neg (by omega),if_neg (by omega),if_neg (by omega)]);cases this
 ·have:=hl 3 (by unfold call;rw[if_neg (by omega),if_neg (by omega),if_neg (by omega)]);cases this
 ·have:=hl 3 (by unfold call;rw[if_neg (by omega),if_neg (by omega),if_neg (by omega)]);cases this
 ·
  obtain⟨b1,b2,rfl,e1,e2⟩:=hb.two;refine⟨_,_,_,rfl,hEf,fun u ku mu=>?_⟩;have Lj:=Uy _ _ (by unfold call;rw[if_pos ht,T6]);have q1:PEq (u.alloc (.cells #[x] bL)) u (.cells #[x] bL (0,0)):=PEq.alloc _ _;have q2:PEq ((u.alloc (.cells #[x] bL)).alloc (.cells #[.func (.func K') #[] cs'] aZ)) (u.alloc (.cells #[x] bL)) (.cells #[.func (.func K') #[] cs'] aZ (0,0)):=PEq.alloc _ _;have s1:=bP q1;have k1:=(KZ.refl B u).push q1;have k2:=k1.push q2;have kw:=ku.trans k2;have o1:((u.alloc (.cells #[x] bL)).alloc (.cells #[.func (.func K') #[] cs'] aZ)).heap[u.heap.size]?=some (.cells #[x] bL (0,0)):=(aS q2 (by omega)).trans (bT q1);have o2:((u.alloc (.cells #[x] bL)).alloc (.cells #[.func (.func K') #[] cs'] aZ)).heap[u.heap.size+1]?=some (.cells #[.func (.func K') #[] cs'] aZ (0,0)):=by rw[<- s1];exact bT q2
  exact XZ Wm ⟨kw.kr,sa,_,(mu.push q1).push q2,inr ⟨N,by omega,inl ⟨c,r,rf.sc,k,xc,x,sv,_,ow,⟨aF.fun2,[b1,b2,u.heap.size,u.heap.size+1],rfl,kw.kr.box e1 cO,cO,kw.kr.box e2 iH,iH,o1,oJ hV.nn,o2,eC,trivial⟩,⟨n,m7.kept kw.kr⟩,Ye,hV.stay kw.kr,hT.stay kw,Lj⟩⟩⟩
 ·
  refine⟨_,_,_,rfl,aF.mput,fun u ku mu=>?_⟩
  by_cases h0:r.tag=0
  ·have Lj:=Uy _ _ (by unfold call;rw[if_neg (by omega),if_pos ht,if_pos h0]);obtain rfl:=hV.num0 h0;obtain⟨ov,h1,h2⟩:=mu.mach;have Xg:=mu.out;have a9:=mu.don;have hml:=mu.mst;refine Gr (xs:=m.output.map fun c=>.int .u8 c.toNat) h1 mu.lowb (by rw[length_map];exact h2) (by rw[length_map];exact le_trans Xg (le_trans a9 hml)) Tq (fun u' ov' Wh V8 Ke hold J2=>?_);have Z5:∀(kk:Nat)(c:Array Value)(t:TypeId)(f:Nat×Nat),t≠dJ->t≠kF->u.heap[kk]?=some (.cells c t f)->u'.heap[kk]?=u.heap[kk]?:=fun kk c t f h3 h4 hc=>hold kk (aB hc) (fun e=>by subst e;rw[h1]at hc;exact h3 (aN hc).symm) (fun e=>Aa h2 h4 hc e);have kuu:KZ B u u':=⟨.same Ke (fun kk c t f Qz hc=>by rcases Qz with Qz|rfl;exact Z5 kk c t f Qz.2.2.1 Qz.2.2.2.1 hc;exact Z5 kk c _ f (by decide) (by decide) hc) (fun kk hkB hl=>hold kk hl (fun e=>by have:=mu.lowm;omega) (fun e=>Ac h2 hkB e)) J2,fun kk c f hc=>Z5 kk c _ f (by decide) (by decide) hc⟩
   have mu':RM B mb sa { m with done:=m.done+1,output:=m.output++[ofNat (r.n % 256).toNat] } u':=by
    refine mu.field kuu.kr rfl Wh ?_ (fun kk c f hc=>Z5 kk c _ f (by decide) (by decide) hc) mu.inp ?_ mu.don mu.mst
    ·rw[length_map]at V8
     have hby:Value.int IntKind.u8 (r.n % 256)=.int .u8 ((ofNat (r.n % 256).toNat).toNat:Int):=by
      congr 1
      have:(ofNat (r.n % 256).toNat).toNat=(r.n % 256).toNat:=by
       rw[UInt8.toNat_ofNat'];omega
      rw[this];omega
     rw[hby]at V8
     simpa using V8
    ·show (m.output++[_]).length<=m.done+1;have hb:=O1;rw[length_append,List.length_singleton];omega
   obtain⟨K2,cs2,Md,Mt,Jq⟩:=hG sa _ u' RV.unit k iW _ ow mu' VM.unit (hT.stay (ku.trans kuu)) Lj;cases Md;exact cJ (ku.trans kuu).kr Jq
  ·have:=hl 3 (by unfold call;rw[if_neg (by omega),if_pos ht,if_neg h0]);cases this
 ·
  refine⟨_,_,_,rfl,aF.mget,fun u ku mu=>?_⟩;obtain⟨ov,h1,h2⟩:=mu.mach;refine Gt h1 Tq mu.inp ?_
  cases hi:m.input with
  |nil=>
   have Lj:=Uy { m with done:=m.done+1 } (St.go (RV.num (-1)) k) (by unfold call;rw[if_neg (by omega),if_neg (by omega),if_pos ht];simp only[hi]);refine inl ⟨rfl,fun u' Ns=>?_⟩;have ku':=ku.heap Ns;obtain⟨K2,cs2,Md,Mt,Jq⟩:=hG sa _ u' (RV.num (-1)) k (jB (-1)) _ ow (mu.heap Ns) (VM.num (by unfold QX;omega)) (hT.stay ku') Lj;cases Md;exact cJ ku'.kr Jq
  |cons c0 rr=>
   have Lj:=Uy { m with done:=m.done+1,input:=rr } (St.go (RV.num c0.toNat) k) (by unfold call;rw[if_neg (by omega),if_neg (by omega),if_pos ht];simp only[hi]);refine inr ⟨c0,rr,rfl,fun u' Ns=>?_⟩;have kuu:KZ B u u':=(KZ.refl B u).turn mu.lowm h1 (fun hf=>hf.2.2.1 rfl) (by decide) Ns.size Ns.rest Ns.so
   have Ju:∀(kk:Nat)(c:Array Value)(t:TypeId)(f:Nat×Nat),t≠dJ->u.heap[kk]?=some (.cells c t f)->u'.heap[kk]?=u.heap[kk]?:=fun kk c t f htm hc=>Ns.rest kk fun e=>by
    subst e;rw[h1]at hc;exact htm (aN hc).symm
   have mu':RM B mb sa { m with done:=m.done+1,input:=rr } u':=by
    refine mu.field kuu.kr rfl Ns.here (aE h2 fun kk c f _ hc=>Ju kk c _ f (by decide) hc) (fun kk c f hc=>Ju kk c _ f (by decide) hc) ?_ mu.out mu.don mu.mst;have:=mu.inp
    show rr.length<=_;have h3:m.input.length<=1000000:=this;rw[hi,length_cons]at h3;omega
   obtain⟨K2,cs2,Md,Mt,Jq⟩:=hG sa _ u' (RV.num c0.toNat) k (jB c0.toNat) _ ow mu' (VM.num (by have:=c0.toNat_lt;unfold QX;omega)) (hT.stay (ku.trans kuu)) Lj;cases Md;exact cJ (ku.trans kuu).kr Jq
 ·have:=hl 3 (by unfold call;rw[if_neg (by have:=h.1;omega),if_neg (by have:=h.1;omega),if_neg (by have:=h.1;omega)]);cases this
 ·have:=hl 3 (by unfold call;rw[if_neg (by have:=h.1;omega),if_neg (by have:=h.1;omega),if_neg (by have:=h.1;omega)]);cases this
def Each.snoc{α β:Type}{R:α->β->Prop}{a:α}{b:β}(h:R a b):∀{l:List α}{r:List β},Each R l r->Each R (l++[a]) (r++[b]):=by
 intro l
 induction l with
 |nil=>intro r h1;cases r with|nil=>exact⟨h,trivial⟩|cons=>exact h1.elim
 |cons x l ih=>intro r h1;cases r with|nil=>exact h1.elim|cons y r=>exact⟨h1.1,ih h1.2⟩
def Each.len{α β:Type}{R:α->β->Prop}:∀{l:List α}{r:List β},Each R l r->l.length=r.length:=by
 intro l
 induction l with
 |nil=>intro r h1;cases r with|nil=>rfl|cons=>exact h1.elim
 |cons x l ih=>intro r h1;cases r with|nil=>exact h1.elim|cons y r=>rw[length_cons,length_cons,ih h1.2]
def Each.at{α β:Type}{R:α->β->Prop}:∀{l:List α}{r:List β},Each R l r->∀{i:Nat}{a:α},l[i]?=some a->∃b,r[i]?=some b/\R a b:=by
 intro l
 induction l with
 |nil=>intro r _ i a h;simp at h
 |cons x l ih=>
  intro r h1 i a h
  cases r with
  |nil=>exact h1.elim
  |cons y r=>
   cases i with
   |zero=>simp at h;subst h;exact⟨y,rfl,h1.1⟩
   |succ i=>exact ih h1.2 (by simpa using h)
def FE.more{ow ow':List Nat}{ys:List Value}{av:Value}(h:FE B w ow ow' ys av)(e:∀k,k<w.heap.size->u.heap[k]?=w.heap[k]?):FE B u ow ow' ys av:=by
 rcases h with h|⟨g,cs,h1,h2,h3⟩
 ·exact inl h
 ·exact inr ⟨g,cs,h1,(e g (aB h2)).trans h2,h3⟩
def ZW{v:RV}{c:Cd}:∀{pts:List Pt}{cds:List Cd},jS pts cds v=some c->∃(j:Nat) (p:Pt),pts[j]?=some p/\cds[j]?=some c/\p.nm=v.nm/\p.n=v.ps.length/\∀(i:Nat)(q:Pt),i<j->pts[i]?=some q->q.nm≠v.nm:=by
 intro pts
 induction pts with
 |nil=>intro cds h;cases h
 |cons p ps ih=>
  intro cds h
  cases cds with
  |nil=>cases h
  |cons d ds=>
   rw[jS]at h;split at h
   ·rename_i hn;split at h
    ·rename_i hl;cases h;exact⟨0,p,rfl,rfl,hn,hl,fun i q hi _=>by omega⟩
    ·cases h
   ·rename_i hn;obtain⟨j,q,h1,h2,h3,h4,h5⟩:=ih h;refine⟨j+1,q,h1,h2,h3,h4,fun i q' hi hq=>?_⟩
    cases i with
    |zero=>simp at hq;subst hq;exact hn
    |succ i=>exact h5 i q' (by omega) hq
def rC(m:Mach)(v:RV):∀(l:List RV)(sc:Nat),m.withs sc (l++[v])=(m.withs sc l).2.with v (m.withs sc l).1:=by
 intro l
 induction l generalizing m with
 |nil=>intro sc;rfl
 |cons a l ih=>intro sc;show (m.with a sc).2.withs (m.with a sc).1 (l++[v])=_;rw[ih];rfl
def tI.rm{xs:List Value}{vs:List RV}{sc:Nat}{sv:Value}(hM:RM B mb sa m w)(hS:tS sa sc sv)(hv:Each (VM mb sa w) vs xs):∀{n:Nat}{u:World}{v:Value},n<=vs.length->tI w xs sv n u v->∃l,RM B mb (sa++l) (m.withs sc (vs.take n)).2 u/\tS (sa++l) (m.withs sc (vs.take n)).1 v/\KZ B w u:=by
 intro n
 induction n with
 |zero=>intro u v _ h;obtain⟨h1,rfl⟩:=h;exact⟨[],by rw[append_nil];exact hM.heap h1,by rw[append_nil];exact hS,(KZ.refl B w).heap h1⟩
 |succ n ih=>
  intro u v hn h;obtain⟨u1,v1,x,h1,h2,rfl,h3⟩:=h;obtain⟨l,q1,q2,q3⟩:=ih (by omega) h1;have Zw:vs[n]?=some vs[n]:=getElem?_eq_getElem (by omega);obtain⟨x',hx',Ux⟩:=hv.at Zw;rw[h2]at hx';cases hx';have Lo:vs.take (n+1)=vs.take n++[vs[n]]:=by rw[List.take_add_one,Zw];rfl
  refine⟨l++[u1.heap.size],?_,?_,q3.push h3⟩
  ·rw[Lo,rC,<- append_assoc];exact q1.with (inl (Ux.kept q3.kr l)) q2 h3
  ·rw[Lo,rC,<- append_assoc];refine inr ⟨u1.heap.size,by show (m.withs sc (vs.take n)).2.scopes.length+1≠0;omega,?_,rfl⟩
   show (sa++l++[u1.heap.size])[(m.withs sc (vs.take n)).2.scopes.length+1-1]?=_;rw[<- q1.slen,Nat.add_sub_cancel];simp
def OJ{K' b1 b2 b3:Nat}{cs':Array Value}{r:RV}{x wv:Value}{p:Option Addr}{pts:List Pt}{cds:List Cd}{xs:List Value}{fsc:Nat}{ow:List Nat}(hE:Hx B mb out N)(hM:RM B mb sa m w)(hV:VM mb sa w r x)(Wm:FK x)(Tq:aF K')(ht:r.tag=3)(hx:Each (fP mb w) cds xs)(hS:tS sa fsc (.pointer p))(hT:lF B mb sa w ow k (.func (.func K') #[] cs'))(hw:jV w pts xs wv)
  (e1:w.heap[b1]?=some (.cells #[wv] dU (0,0))) (e2:w.heap[b2]?=some (.cells #[.pointer p] aV (0,0))) (e3:w.heap[b3]?=some (.cells #[.func (.func K') #[] cs'] aZ (0,0))) (E3:jS pts cds r=some c) (Lj:jX N (m.withs fsc r.ps).2 (ev c (m.withs fsc r.ps).1 k)=some (0,out)) :
  Calls prog 176 (#[x]++([b1,b2,b3].map aA).toArray) w (RQ (jJ B mb (N+1) out w)):=by
 obtain⟨db,sl,vs,rfl,hdb,Yq,Vp⟩:=hV.DO ht;obtain⟨h0,hl,g,cap,cs,rfl,hg,Jn⟩:=hw;obtain⟨j,pt,j1,j2,j3,j4,j5⟩:=ZW E3;have Mc:j<xs.length:=by rw[<- h0];exact(List.getElem?_eq_some_iff.1 j1).1
 have Qs:=Yq.len
 have O0:∀i q,pts[i]?=some q->∃a1 a2 ps Kb csb,w.cell? ⟨g,i*2,none⟩=some (.func (.func 278) #[] #[aA a1,aA a2])/\w.cell? ⟨g,i*2+1,none⟩=some (.func (.func Kb) #[] csb)/\aF Kb/\xs[i]?=some (.func (.func Kb) #[] csb)/\w.heap[a1]?=some (.cells #[.string (bs q.nm)] aI (0,0))/\w.heap[a2]?=some (.cells #[ps] rF (0,0))/\q.n<=1000/\((q.n=0/\∃a c,ps=.slice a 0 c)\/∃g cap cs,ps=.slice (some ⟨g,0,none⟩) q.n cap/\w.heap[g]?=some (.cells cs kG (0,0))/\∀i,i<q.n->cs[i]?=some (tQ 223 [])):=fun i q hq=>by
  have Lc:i<xs.length:=by rw[<- h0];exact(List.getElem?_eq_some_iff.1 hq).1
  have Jw:=hx.len;obtain⟨y,hy,l7⟩:=hx.at (getElem?_eq_getElem (show i<cds.length by omega));obtain⟨pv,q1,q2,hqn,sl2,⟨_,l2,rfl,Mf⟩,q3⟩:=Jn i q y hq hy;obtain⟨a1,a2,rfl,f1,f2⟩:=Mf.two;obtain⟨Kb,csb,rfl,Zp⟩:=l7.elim fun n h=>h.form;exact⟨a1,a2,sl2,Kb,csb,(aP hg _).trans q1,(aP hg _).trans q2,Zp,hy,f1,f2,hqn,q3⟩
 have kq:∀{u:World}{k:Nat}{o:Obj},Kn (fun _=>False) w u->w.heap[k]?=some o->u.heap[k]?=some o:=fun hk h=>(hk.block _ (aB h) id).trans h;obtain⟨y,hy,l7⟩:=hx.at j2;refine MU (j:=j) Wm (AL e1) (AL e2) (AL e3) Mc hl (fun i hi=>?_) ?_
 ·obtain⟨a1,a2,ps,Kb,csb,p1,p2,p3,p4,p5,p6,p8,p7⟩:=O0 i _ (getElem?_eq_getElem (show i<pts.length by omega));refine⟨_,_,Kb,csb,p1,p2,aF.pcon,fun u hk=>(TQ (ps:=ps) (kq hk hdb) (AL (kq hk p5)) (Gb fun e=>j5 i _ hi (getElem?_eq_getElem (by omega)) e.symm)).mono ?_⟩;rintro e u'⟨rfl,h⟩;exact⟨rfl,h.kn⟩
 ·obtain⟨a1,a2,ps,Kb,csb,p1,p2,p3,p4,p5,p6,p8,p7⟩:=O0 j _ j1;rw[p4]at hy;cases hy;refine⟨_,_,Kb,csb,p1,p2,aF.pcon,p3,fun u hk=>?_⟩;have ks:KZ B w u:=.more hk.size (fun k h=>hk.block k h id) ⟨hk.os,hk.tape,hk.output⟩;have t8:=Vp.kept ks.kr (Yq.right fun _ _ h=>h.nn);refine(TR (xs:=vs) (kq hk hdb) t8 (Yq.right fun _ _ h=>h.ifv) ?_ (by rw[<- j3];exact AL (kq hk p5)) (AL (kq hk p6)) ?_).mono ?_
  ·rw[<- Qs,<- j4];exact p8
  ·rw[<- Qs,<- j4];rcases p7 with h|⟨g,cap,cs,h1,h2,h3⟩
   ·exact inl h
   ·exact inr ⟨g,cap,cs,h1,kq hk h2,h3⟩
  ·rintro e u'⟨q,rfl,M2⟩;have n9:Each (VM mb sa u) r.ps vs:=Yq.imp fun _ _ h=>VM.stay ks.kr h;obtain⟨l,m1,m2,m3⟩:=tI.rm (hM.more hk.size (fun k h=>hk.block k h id) ⟨hk.os,hk.tape,hk.output⟩) hS n9 (by omega) M2;rw[<- Qs,List.take_length]at m1 m2;refine⟨q,rfl,M2.kn,aC ?_⟩;have ks2:=ks.trans m3;obtain⟨K2,cs2,Md,Mt,Jq⟩:=hE _ _ u' c _ k _ _ _ ow m1 (fP.kept ks2.kr _ _ l7) m2 (hT.app ks2 l) Lj;cases Md;exact cJ ks2.kr Jq
def Bg(hE:Hx B mb out N)(hG:Hw B mb out N):Hw B mb out (N+1):=by
 intro sa m w r k x kv ow hM hV hK hr;have Wm:=hV.ifv
 cases k with
 |nil=>
  obtain⟨_,Wg,l,rfl,hb⟩:=hK;refine⟨_,_,rfl,Wg,?_⟩
  match l,hb with
  |[],_=>
   have ho:=gH hr (e:=0) rfl;cases ho;exact Gv ⟨KR.refl B w,sa,_,hM,inl ⟨rfl,rfl⟩⟩
 |cons f k=>
 obtain⟨xs,ys,sv,tv,ow',hx,hy,hS,hT,hF⟩:=hK;obtain⟨p,rfl⟩:=hS.ptr;obtain⟨K',cs',rfl,Tq⟩:=hT.form;obtain⟨op,cds,pts,fsc,vs,nm⟩:=f;have q1:PEq (w.alloc (.cells #[x] bL)) w (.cells #[x] bL (0,0)):=PEq.alloc _ _;have kq:=(KZ.refl B w).push q1;rcases hF with⟨rfl,K,bl,hf,Wg,l,rfl,hb⟩|⟨rfl,hop,wv,hw,Wg,l,rfl,hb⟩|⟨hop,Jm,wv,av,hw,how,Wg,l,rfl,hb⟩
 ·refine⟨K,(l.map aA).toArray,rfl,Wg,?_⟩;unfold Fp at hf;split at hf
  all_goals try (split at hf)
  all_goals cases hf
  ·
   rename_i y hop;have hop:op=0:=hop;subst hop;obtain⟨d1,rfl,Nv⟩:=hx.one;obtain rfl:=hy.nil;obtain⟨b1,b2,b3,b4,rfl,e1,e2,e3,e4⟩:=hb.four;have Lj:=bV hr (m':=m) (s':=ev d1 fsc (⟨1,[],[],0,[r],[]⟩::k)) rfl
   have Ml:lF B mb sa (w.alloc (.cells #[x] bL)) ow (⟨1,[],[],0,[r],[]⟩::k) (tQ 233 [b3,w.heap.size,b4]):=
    ⟨[],[x],.pointer none,.func (.func K') #[] cs',ow,trivial,⟨hV.stay kq.kr,trivial⟩,inl ⟨rfl,rfl⟩,hT.stay kq,inl ⟨rfl,_,_,rfl,aF.DA,_,rfl,(aS q1 (aB e3)).trans e3,IW,bT q1,oJ hV.nn,(aS q1 (aB e4)).trans e4,eC,trivial⟩⟩
   obtain⟨K2,cs2,Md,Mt,Jq⟩:=hE sa m _ d1 fsc _ y _ _ ow (hM.push q1) (Nv.kept kq.kr) hS Ml Lj;subst Md;exact SA Wm (AL e1) (AL e2) Mt (cJ kq.kr Jq)
  ·
   rename_i y hop;have hop:op=1:=hop;subst hop;obtain rfl:=hx.nil;obtain⟨rf,rfl,Yr⟩:=hy.one;obtain⟨b1,b2,b3,rfl,e1,e2,e3⟩:=hb.three
   by_cases hd:m.done=m.most
   ·have:=gH hr (e:=2) (if_pos hd);cases this
   have Jz:jQ m (St.go r (⟨1,[],pts,fsc,[rf],nm⟩::k))=call { m with done:=m.done+1 } rf r k:=if_neg hd;obtain⟨i0,o0,h0,M5⟩:=hM.tick hd;have hD:m.done<=4000:=le_trans hM.don hM.mst;have Jq:∃K2 fs2 cs2,y=.iface iE (.func (.func K2) fs2 cs2)/\aF K2/\∀u,KZ B w u->RM B mb sa { m with done:=m.done+1 } u->Calls prog K2 (fs2++(#[x,.func (.func K') #[] cs']++cs2)) u (RQ (jJ B mb (N+1) out w)):=Ci hG Wm Tq hV hT Yr hM.out (fun e he=>by rw[<- Jz]at he;exact gH hr he) (fun m' s' he=>by rw[<- Jz]at he;exact bV hr he);obtain⟨K2,fs2,cs2,rfl,Mt,Mv⟩:=Jq;refine RZ (fs:=fs2) (cs:=cs2) (kv:=.func (.func K') #[] cs') (AL e1) Mt ((SO h0 hd hD).mono ?_);rintro e u⟨rfl,hu⟩;obtain⟨ku,mu⟩:=M5 u hu;exact⟨rfl,⟨ku.kr.cell (oJ Yr.nn) e2,ku.kr.cell eC e3⟩,fun u' Ns=>Mv u' (ku.heap Ns) (mu.heap Ns)⟩
  ·
   rename_i y hop;have hop:op=2:=hop;subst hop;obtain⟨d1,rfl,Nv⟩:=hx.one;obtain rfl:=hy.nil;obtain⟨b1,b2,b3,rfl,e1,e2,e3⟩:=hb.three;have Lj:=bV hr (m':=(m.with r fsc).2) (s':=ev d1 (m.with r fsc).1 k) rfl;obtain⟨Ky,csy,l6,hEy⟩:=Nv.elim fun n h=>h.form;subst l6;refine Eb Wm (AL e1) (AL e2) (AL e3) hEy (fun u hu=>?_);have ku:=(KZ.refl B w).push hu;have Jm:(m.with r fsc).1=sa.length+1:=by show m.scopes.length+1=_;rw[hM.slen]
   have Xb:tS (sa++[w.heap.size]) (m.with r fsc).1 (aA w.heap.size):=by
    rw[Jm];exact inr ⟨_,by omega,by simp,rfl⟩
   have Vb:lF B mb (sa++[w.heap.size]) u ow k (.func (.func K') #[] cs'):=hT.app ku _;obtain⟨K2,cs2,Md,Mt,Jq⟩:=hE _ _ u d1 _ k _ _ _ ow (hM.with (inl hV) hS hu) (Nv.kept ku.kr) Xb Vb Lj;cases Md;refine Jq.mono ?_;rintro e w'⟨rv,rfl,hp⟩;have Py:=hp.up ku.kr;exact⟨rv,rfl,Py,Py.1.cell cO e1,Py.1.cell iH e2,Py.1.cell eC e3⟩
  ·
   rename_i y hop t0;have hop:op=3:=hop;subst hop;obtain⟨d1,rfl,Nv⟩:=hx.one;obtain rfl:=hy.nil;obtain⟨b1,b2,b3,rfl,e1,e2,e3⟩:=hb.three;have Lj:=bV hr (m':={ m with scopes:=m.scopes.modify (fsc-1) (fun x=>(r,x.2)) }) (s':=ev d1 fsc k) rfl;obtain⟨Ky,csy,l6,hEy⟩:=Nv.elim fun n h=>h.form;subst l6;rcases hS with⟨h0,hp0⟩|⟨sb,h0,Wj,hp0⟩
   ·exact absurd h0 t0
   ·have N9:p=some ⟨sb,0,none⟩:=by simpa [aA]using hp0
    subst N9;have Js:fsc-1<m.scopes.length:=by rw[<- hM.slen];exact(List.getElem?_eq_some_iff.1 Wj).1
    obtain⟨b',x0,ov,w1,w2,_,_⟩:=hM.scope (fsc-1) _ _ (getElem?_eq_getElem Js);rw[Wj]at w1;cases w1;have C2:=fun(u:World) (hu:Upd w u sb (.cells #[x,ov] bD (0,0)))=>hM.fill (u:=u) hV Wj w2 hu.size hu.rest hu.here hu.so;refine Ea (K:=Ky) (cs:=csy) (kv:=.func (.func K') #[] cs') Wm w2 (AL e1) (fun u hu=>?_) hEy (fun u hu=>?_)
    ·have ku:=(C2 u hu).1;exact⟨ku.kr.cell iH e1,ku.kr.cell cO e2,ku.kr.cell eC e3⟩
    ·obtain⟨ku,mu⟩:=C2 u hu;obtain⟨K2,cs2,Md,Mt,Jq⟩:=hE sa _ u d1 fsc k _ (aA sb) _ ow mu (Nv.kept ku.kr) (inr ⟨sb,h0,Wj,rfl⟩) (hT.stay ku) Lj;cases Md;exact cJ ku.kr Jq
  ·
   rename_i y z hop;have hop:op=4:=hop;subst hop;obtain⟨d1,d2,rfl,Nv,Ym⟩:=hx.two;obtain rfl:=hy.nil;obtain⟨b1,b2,b3,b4,rfl,e1,e2,e3,e4⟩:=hb.four
   by_cases ht:r.tag=1
   ·have Lj:=bV hr (m':=m) (s':=ev (if r.n=1 then d1 else d2) fsc k) (if_pos ht);have hxv:=hV.DW ht;subst hxv
    by_cases h1:r.n=1
    ·rw[if_pos h1]at Lj;obtain⟨K2,cs2,Md,Mt,Jq⟩:=hE sa m w d1 fsc k y _ _ ow hM Nv hS hT Lj;subst Md;exact uV (decide (r.n=1)) (by rw[if_pos (by simpa using h1)];exact AL e1) (AL e2) (AL e3) Mt (cJ (KR.refl B w) Jq)
    ·rw[if_neg h1]at Lj;obtain⟨K2,cs2,Md,Mt,Jq⟩:=hE sa m w d2 fsc k z _ _ ow hM Ym hS hT Lj;subst Md;exact uV (decide (r.n=1)) (by rw[if_neg (by simpa using h1)];exact AL e4) (AL e2) (AL e3) Mt (cJ (KR.refl B w) Jq)
   ·have:=gH hr (e:=3) (if_neg ht);cases this
  ·
   rename_i y hop;have hop:op=5:=hop;subst hop;obtain⟨d1,rfl,Nv⟩:=hx.one;obtain rfl:=hy.nil;obtain⟨b1,b2,b3,rfl,e1,e2,e3⟩:=hb.three;have Lj:=bV hr (m':=m) (s':=ev d1 fsc k) rfl;obtain⟨K2,cs2,Md,Mt,Jq⟩:=hE sa m w d1 fsc k y _ _ ow hM Nv hS hT Lj;subst Md;exact Dz (AL e1) (AL e2) (AL e3) Mt (cJ (KR.refl B w) Jq)
  ·
   rename_i y hop;have hop:op=9:=hop;subst hop;obtain⟨d1,rfl,Nv⟩:=hx.one;obtain rfl:=hy.nil;obtain⟨b1,b2,b3,b4,rfl,e1,e2,e3,e4⟩:=hb.four;have Lj:=bV hr (m':=m) (s':=ev d1 fsc (⟨10,[],[],0,[r],[]⟩::k)) rfl
   have Ml:lF B mb sa (w.alloc (.cells #[x] bL)) ow (⟨10,[],[],0,[r],[]⟩::k) (tQ 243 [b3,b4,w.heap.size]):=
    ⟨[],[x],.pointer none,.func (.func K') #[] cs',ow,trivial,⟨hV.stay kq.kr,trivial⟩,inl ⟨rfl,rfl⟩,hT.stay kq,inl ⟨rfl,_,_,rfl,aF.DV,_,rfl,(aS q1 (aB e3)).trans e3,eC,(aS q1 (aB e4)).trans e4,wT,bT q1,oJ hV.nn,trivial⟩⟩
   obtain⟨K2,cs2,Md,Mt,Jq⟩:=hE sa m _ d1 fsc _ y _ _ ow (hM.push q1) (Nv.kept kq.kr) hS Ml Lj;subst Md;exact YC Wm (AL e1) (AL e2) Mt (cJ kq.kr Jq)
  ·
   rename_i y hop;have hop:op=10:=hop;subst hop;obtain rfl:=hx.nil;obtain⟨rf,rfl,Yr⟩:=hy.one;obtain⟨b1,b2,b3,rfl,e1,e2,e3⟩:=hb.three
   by_cases ht:rf.tag=0
   ·by_cases Oq:r.tag=0
    ·have Lj:=bV hr (m':=m) (s':=St.go (RV.bool (decide (rf.n<r.n))) k) ((if_pos ht).trans (if_pos Oq));obtain rfl:=Yr.num0 ht;obtain rfl:=hV.num0 Oq;refine YB (AL e1) (AL e2) (AL e3) Tq aF.op6 (fun u _=>Hg _ _ u) (fun u hu=>?_);have ku:=(KZ.refl B w).heap hu;obtain⟨K2,cs2,Md,Mt,Jq⟩:=hG sa m u _ k _ _ ow (hM.heap hu) (VM.bool _) (hT.stay ku) Lj;cases Md;refine Jq.mono ?_;rintro e w'⟨rv,rfl,hp⟩;have Py:=hp.up ku.kr;exact⟨rv,rfl,Py,Py.1.cell eC e1,Py.1.cell wT e2,Py.1.cell (oJ Yr.nn) e3⟩
    ·have:=gH hr (e:=3) ((if_pos ht).trans (if_neg Oq));cases this
   ·have:=gH hr (e:=3) (if_neg ht);cases this
  ·
   rename_i hop;have hop:op=13:=hop;subst hop;obtain rfl:=hx.nil;obtain rfl:=hy.nil;obtain⟨b1,rfl,e1⟩:=hb.one;have Lj:=bV hr (m':=m) (s':=St.go r k) rfl;refine RP Wm ⟨kq.kr,sa,m,hM.push q1,inr ⟨N,by omega,inr ⟨r,x,k,_,ow,⟨aF.DE,[b1,w.heap.size],rfl,(aS q1 (aB e1)).trans e1,eC,bT q1,oJ hV.nn,trivial⟩,hV.stay kq.kr,hT.stay kq,Lj⟩⟩⟩
 ·
  have hop:op=12:=hop;subst hop;refine⟨_,_,rfl,Wg,?_⟩;obtain⟨b1,b2,b3,rfl,e1,e2,e3⟩:=hb.three
  by_cases ht:r.tag=3
  ·cases E3:jS pts cds r with
   |none=>have:=gH hr (e:=3) ((if_pos ht).trans (by show (match jS pts cds r with|none=>_|some c=>_)=_;rw[E3]));cases this
   |some c=>
    have Lj:=bV hr (m':=(m.withs fsc r.ps).2) (s':=ev c (m.withs fsc r.ps).1 k) ((if_pos ht).trans (by show (match jS pts cds r with|none=>_|some c=>_)=_;rw[E3];rfl));exact OJ hE hM hV Wm Tq ht hx hS hT hw e1 e2 e3 E3 Lj
  ·have:=gH hr (e:=3) (if_neg ht);cases this
 ·
  have hop:op=11:=hop;subst hop;refine⟨_,_,rfl,Wg,?_⟩;obtain⟨b1,b2,b3,b4,rfl,e1,e2,e3,e4⟩:=hb.four;obtain⟨Kw,csw,rfl,V4⟩:=hw.form;obtain⟨av',u,ow2,Jo,Nf,kr,Nu,Pp⟩:=JW (x:=x) how hT.CX (by omega) hM.lowb (by obtain⟨t,y,rfl⟩:=hV.ifc;rfl);have mu:RM B mb sa m u:=hM.other kr fun k c t f ht hc=>Pp k c t f (by rcases ht with rfl|rfl|rfl<;>decide) hc
  have hTu:lF B mb sa u ow' k (.func (.func K') #[] cs'):=by
   have:=lF.kept kr [] k ow' _ (fun b hb _ _ _=>Nu b hb) hT;rw[append_nil]at this;exact this
  have Yq:Each (VM mb sa u) (vs++[r]) (ys++[x]):=(hy.imp fun _ _ h=>VM.stay kr h).snoc (hV.stay kr)
  obtain⟨a',n',c',rfl,hn'⟩:∃a n c,av'=.slice a n c/\n=ys.length+1:=by
   rcases Nf with⟨h,_⟩|⟨g,cs,rfl,_⟩
   ·simp at h
   ·exact⟨_,_,_,rfl,by simp⟩
  refine YA (P:=jJ B mb (N+1) out w) Wm (AL e1) (AL e2) (AL e3) (AL e4) V4 Jo (kr.cell PG e1) (kr.cell iH e2) (kr.cell wS e3) (kr.cell eC e4) ?_
  have U1:∀{K:Nat}{args:Array Value}{u2:World},Calls prog K args u2 (RQ (jJ B mb (N+1) out w))->Calls prog K args u2 (RQ fun rv u'=>jJ B mb (N+1) out w rv u'/\u'.cell? ⟨b1,0,none⟩=some (.func (.func Kw) #[] csw)/\u'.cell? ⟨b2,0,none⟩=some (.pointer p)/\u'.cell? ⟨b3,0,none⟩=some av/\u'.cell? ⟨b4,0,none⟩=some (.func (.func K') #[] cs')):=fun h=>h.mono (by
   rintro e w'⟨rv,rfl,hp⟩
   exact⟨rv,rfl,hp,hp.1.cell PG e1,hp.1.cell iH e2,hp.1.cell wS e3,hp.1.cell eC e4⟩)
  refine U1 ?_
  cases xs with
  |nil=>
   obtain rfl:cds=[]:=hx.nil;have Lj:=bV hr (m':=m) (s':=St.go (RV.data nm (vs++[r])) k) rfl;obtain⟨_,lw,n6,I1⟩:=hw.kept kr;cases n6;obtain⟨c1,rfl,f1⟩:=I1.one;refine RX ((aP f1 0).trans rfl) Tq fun u2 hu=>?_;have hk:KZ B u u2:=(KZ.refl B u).push hu
   have Vp:kY u2 (ys++[x]) (.slice a' n' c'):=by
    rcases Nf with⟨h,_⟩|⟨g,cs,h1,h2,_,_,_,h3,_⟩
    ·simp at h
    ·exact inr ⟨g,_,cs,h1,(aS hu (aB h2)).trans h2,h3⟩
   obtain⟨K2,cs2,Md,Mt,Jq⟩:=hG sa m u2 (RV.data nm (vs++[r])) k _ _ ow' (mu.push hu) (VM.data (bT hu) (Yq.imp fun _ _ h=>VM.stay hk.kr h) Vp) (hTu.stay hk) Lj;cases Md;exact cJ (kr.trans hk.kr) Jq
  |cons y r'=>
   obtain⟨d1,ds,rfl,Nv,hds⟩:∃a rs,cds=a::rs/\fP mb w a y/\Each (fP mb w) rs r':=by
    cases cds with
    |nil=>exact hx.elim
    |cons a rs=>exact⟨a,rs,rfl,hx.1,hx.2⟩
   have Lj:=bV hr (m':=m) (s':=ev d1 fsc (⟨11,ds,[],fsc,vs++[r],nm⟩::k)) rfl;obtain⟨wv2,Qc,_,lw,n6,I1⟩:=hw.kept kr;cases n6;obtain⟨c1,c2,rfl,f1,f2⟩:=I1.two;obtain⟨Ka,csa,rfl,I5⟩:=Nv.elim fun n h=>h.form;have Wq:=SJ B u p (.slice a' n' c') (.func (.func K') #[] cs')
   have Ml:lF B mb sa _ ow2 (⟨11,ds,[],fsc,vs++[r],nm⟩::k) (tQ 229 [c2,u.heap.size,u.heap.size+1,u.heap.size+1+1]):=
    ⟨r',ys++[x],.pointer p,.func (.func K') #[] cs',ow',(hds.imp fun _ _ h=>fP.kept (kr.trans Wq.kr.kr) _ _ h),(Yq.imp fun _ _ h=>VM.stay Wq.kr.kr h),hS,hTu.stay Wq.kr,inr (inr ⟨rfl,by simp at Jm ⊢;omega,wv2,.slice a' n' c',Qc.kept Wq.kr.kr,Nf.more Wq.old,aF.CV,_,rfl,(Wq.old _ (aB f2)).trans f2,PG,Wq.sc,iH,Wq.vs,wS,Wq.nx,eC,trivial⟩)⟩
   obtain⟨K2,cs2,Md,Mt,Jq⟩:=hE sa m _ d1 fsc _ _ _ _ ow2 (Wq.rm mu) (fP.kept (kr.trans Wq.kr.kr) _ _ Nv) hS Ml Lj;cases Md;exact RU ((aP f1 0).trans rfl) I5 (cJ (kr.trans Wq.kr.kr) Jq)
end
end
section
open Go.RowKit
def Aj(w:World):(binOp BinOp.neq 172 .nilFunc .nilFunc).run prog w=.ok (.bool false) w:=by kernel_rfl
def Fb(K:Nat)(cs:Array Value)(w:World):(binOp BinOp.neq 172 (.func (.func K) #[] cs) .nilFunc).run prog w=.ok (.bool true) w:=by kernel_rfl
def rM(B mb:Nat)(out:Mach):∀N,Hx B mb out N/\Hw B mb out N:=by
 intro N
 induction N with
 |zero=>exact⟨fun _ _ _ _ _ _ _ _ _ _ _ _ _ _ h=>(by cases h),fun _ _ _ _ _ _ _ _ _ _ _ h=>(by cases h)⟩
 |succ N ih=>exact⟨Bo ih.1 ih.2,Bg ih.1 ih.2⟩
section
variable {B mb N:Nat}{out:Mach}{sa:List Nat}{m:Mach}{w u:World}
def nU.kr{x kv:Value}{p:Option Addr}{sb lb:Nat}(h:nU w u x p kv sb lb):KZ B w u:=KZ.more (by rw[h.1];omega) (fun k hl=>h.2.1 k hl) h.2.2.2.2.2
def nU.rm{x:Value}{K':Nat}{cs':Array Value}{p:Option Addr}{sb lb sc:Nat}{a:RV}(h:nU w u x p (.func (.func K') #[] cs') sb lb)(hM:RM B mb sa m w)(hV:VM mb sa w a x)(hS:tS sa sc (.pointer p)):RM B mb (sa++[sb]) (m.with a sc).2 u:=by
 obtain⟨h1,h2,h3,h4,⟨rfl,rfl⟩|⟨rfl,rfl⟩,so⟩:=h
 ·have q1:PEq (w.alloc (.cells #[x,.pointer p] bD)) w (.cells #[x,.pointer p] bD (0,0)):=PEq.alloc _ _;have s1:=bP q1;refine(hM.with (inl hV) hS q1).more (by omega) (fun k hk=>?_) ⟨so.os,so.tape,so.output⟩
  by_cases Jy:k<w.heap.size
  ·rw[h2 k Jy,aS q1 Jy]
  ·have:k=w.heap.size:=by omega
   subst this;rw[h3,bT q1]
 ·have q1:PEq (w.alloc (.cells #[.func (.func K') #[] cs'] aZ)) w (.cells #[.func (.func K') #[] cs'] aZ (0,0)):=PEq.alloc _ _;have q2:PEq ((w.alloc (.cells #[.func (.func K') #[] cs'] aZ)).alloc (.cells #[x,.pointer p] bD)) (w.alloc (.cells #[.func (.func K') #[] cs'] aZ)) (.cells #[x,.pointer p] bD (0,0)):=PEq.alloc _ _;have s1:=bP q1;have s2:=bP q2;have hw:=(hM.push q1).with (inl (hV.stay ((KR.refl B w).push q1))) hS q2;rw[s1]at hw;refine hw.more (by omega) (fun k hk=>?_) ⟨so.os,so.tape,so.output⟩
  by_cases Jy:k<w.heap.size
  ·rw[h2 k Jy,aS q2 (by omega),aS q1 Jy]
  ·by_cases Le:k=w.heap.size
   ·subst Le;rw[h4,aS q2 (by omega),bT q1]
   ·have:k=w.heap.size+1:=by omega
    subst this;rw[h3];have:=bT q2;rw[s1]at this;exact this.symm
def YX{rv:Value}(hM:RM B mb sa m w)(h:XM B mb sa w rv m N out):∃K cs,rv=.func (.func K) #[] cs/\aF K/\Calls prog K cs w (RQ (jJ B mb N out w)):=by
 rcases h with⟨c,a,sc,k,x,v,sv,kv,ow,⟨hE,l,rfl,hb⟩,hc,hs,hv,hk,hr⟩|⟨v,x,k,kv,ow,⟨hE,l,rfl,hb⟩,hv,hk,hr⟩
 ·obtain⟨b1,b2,b3,b4,rfl,e1,e2,e3,e4⟩:=hb.four;obtain⟨p,rfl⟩:=hs.ptr;obtain⟨K',cs',rfl,Tq⟩:=hk.form;obtain⟨Kc,csc,m7,hEc⟩:=hc.elim fun n h=>h.form;subst m7;refine⟨_,_,rfl,hE,?_⟩;refine RS hv.ifv (AL e1) (AL e2) (AL e3) (AL e4) hEc (fun u sb lb hl=>?_);have ku:KZ B w u:=hl.kr;have mu:=hl.rm hM hv hs;have Jm:(m.with a sc).1=sa.length+1:=by show m.scopes.length+1=_;rw[hM.slen]
  have Xb:tS (sa++[sb]) (m.with a sc).1 (aA sb):=by
   rw[Jm];exact inr ⟨_,by omega,by simp,rfl⟩
  have Vb:lF B mb (sa++[sb]) u ow (⟨13,[],[],0,[],[]⟩::k) (tQ 220 [lb]):=
   ⟨[],[],.pointer none,.func (.func K') #[] cs',ow,trivial,trivial,inl ⟨rfl,rfl⟩,hk.app ku [sb],inl ⟨rfl,_,_,rfl,aF.DF,_,rfl,hl.2.2.2.1,eC,trivial⟩⟩
  obtain⟨K2,cs2,Md,Mt,Jq⟩:=(rM B mb out N).1 _ _ u c _ _ _ _ _ ow mu (fP.kept ku.kr _ _ hc) Xb Vb hr;cases Md;refine Jq.mono ?_;rintro e w'⟨rv,rfl,hp⟩;have Py:jJ B mb N out w rv w':=⟨ku.kr.trans hp.1,hp.2⟩;exact⟨rv,rfl,Py,Py.1.cell cO e1,Py.1.cell iH e2,Py.1.cell (oJ hv.nn) e3,Py.1.cell eC e4⟩
 ·obtain⟨b1,b2,rfl,e1,e2⟩:=hb.two;obtain⟨K',cs',rfl,Tq⟩:=hk.form;refine⟨_,_,rfl,hE,?_⟩;obtain⟨K2,cs2,Md,Mt,Jq⟩:=(rM B mb out N).2 sa m w v k x _ ow hM hv hk hr;cases Md;exact MV (AL e1) (AL e2) Tq Jq
def ML(B mb:Nat)(out:Mach)(w:World)(gk:Nat)(v:Value)(wr:World):Prop:=
 KR B w wr/\∃sa m,RM B mb sa m wr/\((v=.nilFunc/\m=out)\/∃N,gk=N+1/\XM B mb sa wr v m N out)
def yI{c:Cd}{cv sv:Value}{sc:Nat}(hM:RM B mb sa m w)(hC:fP mb w c cv)(hS:tS sa sc sv)(hr:jX N m (ev c sc [])=some (0,out)) :
  Calls prog 59 #[cv,sv] w fun e w'=>e=.returned (.tuple #[])/\KR B w w'/\∃sa,RM B mb sa out w':=by
 obtain⟨p,rfl⟩:=hS.ptr;obtain⟨K,cs,rfl,hE,Jq⟩:=(rM B mb out N).1 sa m w c sc [] _ _ _ [] hM hC hS (show lF B mb sa w [] [] (tQ 93 [])from⟨rfl,aF.wend,[],rfl,trivial⟩) hr
 have h0:Calls prog K (#[.pointer p,.func (.func 93) #[] #[]]++cs) w (RQ fun v u=>∃gk,ML B mb out w gk v u):=Jq.mono (by
  rintro e w'⟨rv,rfl,h1,sa',m',h2,h3⟩;rcases h3 with h3|⟨N',_,h4⟩
  ·exact⟨rv,rfl,0,h1,sa',m',h2,inl h3⟩
  ·exact⟨rv,rfl,N'+1,h1,sa',m',h2,inr ⟨N',rfl,h4⟩⟩)
 have hs:∀gk v wr,ML B mb out w gk v wr->(v=.nilFunc/\KR B w wr/\∃sa,RM B mb sa out wr)\/∃K cs,v=.func (.func K) #[] cs/\aF K/\Calls prog K cs wr (RQ fun v' u=>∃g',g'<gk/\ML B mb out w g' v' u):=by
  rintro gk v wr⟨h1,sa',m',h2,⟨rfl,rfl⟩|⟨N',rfl,h4⟩⟩
  ·exact inl ⟨rfl,h1,sa',h2⟩
  ·obtain⟨K,cs,rfl,hE,hc⟩:=YX h2 h4;refine inr ⟨K,cs,rfl,hE,hc.mono ?_⟩;rintro e w'⟨rv,rfl,q1,sa2,m2,q2,q3⟩;rcases q3 with q3|⟨N2,q4,q5⟩
   ·exact⟨rv,rfl,0,by omega,h1.trans q1,sa2,m2,q2,inl q3⟩
   ·exact⟨rv,rfl,N2+1,by omega,h1.trans q1,sa2,m2,q2,inr ⟨N2,rfl,q5⟩⟩
 have V5:=fun(args:Array Value) (w:World)=>hE args w;have H0:=aC h0;have HS:=aC hs;clear hM hC hS hr Jq h0 hs hE;have HQ:=aC (show ∀wr,KR B w wr->(∃sa,RM B mb sa out wr)->(fun(e:Ending) (w':World)=>e=.returned (.tuple #[])/\KR B w w'/\∃sa,RM B mb sa out w') (.returned (.tuple #[])) wr from fun wr h1 h2=>⟨rfl,h1,h2⟩);generalize (fun(e:Ending) (w':World)=>e=.returned (.tuple #[])/\KR B w w'/\∃sa,RM B mb sa out w')=Q at *;go_enter func59,ntmps59;go_wp2_with fail;refine(H0.out).mono ?_;rintro e w1⟨v,rfl,gk0,hl⟩;have HL:=aC hl;have Ou:=Aj;have Ld:=Fb;clear H0 hl V5;go_wp2_with fail
 go_loopg [4] gk0 (fun gk v wr=>Hid (ML B mb out w gk v wr))
 case atStart=>exact HL
 case round=>
  clear HL;rename_i vl _;rcases HS.out _ _ _ hrel.out with⟨rfl,h1,h2⟩|⟨K2,cs2,rfl,Mt,hc⟩
  ·have HF:=aC (HQ.out _ h1 h2);clear HQ HS hrel h1 h2;go_wp2;refine bodyPost_end (v:=.tuple #[]) (by simp[results,results59,go_sem]) rfl HF.out
  ·have hEn2:=fun(args:Array Value) (w:World)=>Mt args w;have HC:=aC hc;clear hc Mt HQ HS hrel;go_wp2_with fail;refine(HC.out).mono ?_;rintro e w2⟨v2,rfl,g2,Un,Mb⟩;have Nw:=aC Mb;clear Mb HC;go_wp2_with fail
   go_roundg g2
   case rel=>exact Nw
   case measure=>exact Un
end
end
section
open Go.RowKit
def UC(s:ByteArray)(n:Int)(w:World):Calls prog 26 #[.string s,.int .i64 n] w fun e w'=>e=.returned (aA w.heap.size)/\w'=w.alloc (.cells #[.string s,.slice none 0 0,.int .i64 n,.int .i64 0] dJ):=by
 unfold aA;go_enter func26,ntmps26;go_wp2;refine bodyPost_ret (v:=.pointer (some ⟨w.heap.size,0,none⟩)) (by simp[results,results26,go_sem]) rfl ⟨rfl,rfl⟩
def Bp(w:World):(binOp BinOp.eql 20 .nilIface .nilIface).run prog w=.ok (.bool true) w:=by kernel_rfl
def QY(w:World):Calls prog 29 #[.nilIface] w fun e w'=>e=.returned (.int .i64 0)/\w'=w:=by
 have he:=Bp;go_enter func29,ntmps29;go_wp2;refine bodyPost_ret (v:=.int .i64 0) (by simp[results,results29,go_sem]) rfl ⟨rfl,rfl⟩
def TL:∀(l:List UInt8)(r:ByteArray),(l.map fun c=>(c.toNat:Int)).foldl (fun r n=>r.push (ofNat n.toNat)) r=⟨r.data++l.toArray⟩:=by
 intro l
 induction l with
 |nil=>intro r;simp
 |cons c t ih=>
  intro r;rw[map_cons,List.foldl_cons,ih];simp[ByteArray.push]
def WE{B:Nat}{u:World}{ov:Value}{l:List UInt8}(h:u.ownsRow B kF 1 ov l.length (l.map fun c=>.int .u8 c.toNat)):(convert 67 9 ov).run prog u=.ok (.string (bs l)) u:=by
 rcases aD h with⟨rfl,h0⟩|⟨g,cap,rfl⟩
 ·have:l=[]:=List.length_eq_zero_iff.1 h0;subst this;rw[run_convert_bytes_string u _ _ kF _ _ _ underlying67 (by kernel_rfl) underlying9];simp[Conv.bytesToString,bs];rfl
 ·rw[run_convert_bytes_string u _ _ kF _ _ _ underlying67 (by kernel_rfl) underlying9]
  have hl:(loadCells ⟨g,0,none⟩ l.length).run prog u=.ok ((l.map fun c=>(c.toNat:Int)).map (Value.int .u8)).toArray u:=by
   have:=run_loadCells_list (P:=prog) (w:=u) ⟨g,0,none⟩ (l.map fun c=>.int .u8 c.toNat) (h.cells (g:=g) rfl);rw[length_map]at this;rw[this,List.map_map];rfl
  rw[run_bytesToString u _ _ _ _ hl,TL];simp[bs,ByteArray.empty,ByteArray.emptyWithCapacity];rfl
def KF{B mb:Nat}{sa:List Nat}{m:Mach}{w:World}(h:RM B mb sa m w):Calls prog 28 #[aA mb,.int .i64 0] w fun e w'=>e=.returned (.agg #[.string (bs m.output),.int .i64 0,.int .i64 m.done])/\Kn (fun _=>False) w w':=by
 obtain⟨ov,h1,h2⟩:=h.mach;have a1:(w.alloc (.cells #[.string ⟨#[]⟩,.int .i64 0,.int .i64 0] 31)).heap[w.heap.size]?=some (.cells #[.string ⟨#[]⟩,.int .i64 0,.int .i64 0] 31 (0,0)):=by simp only[bC,if_pos]
 have Sr:(w.alloc (.cells #[.string ⟨#[]⟩,.int .i64 0,.int .i64 0] 31)).heap[mb]?=w.heap[mb]?:=by rw[bC,if_neg (by have:=aB h1;omega)]
 have Kj:Kn (fun _=>False) w (w.alloc (.cells #[.string ⟨#[]⟩,.int .i64 0,.int .i64 0] 31)):=(Kn.refl _ w).alloc _;have Sq:=h2.alloc (.cells #[.string ⟨#[]⟩,.int .i64 0,.int .i64 0] 31);generalize My:w.alloc (.cells #[.string ⟨#[]⟩,.int .i64 0,.int .i64 0] 31)=w1 at *;rw[h1]at Sr;have c1:w1.cell? ⟨mb,1,none⟩=some ov:=(aP Sr 1).trans rfl;have c3:w1.cell? ⟨mb,3,none⟩=some (.int .i64 m.done):=(aP Sr 3).trans rfl;have b0:w1.cell? ⟨w.heap.size,0,none⟩=some (.string ⟨#[]⟩):=(aP a1 0).trans rfl;have b1:w1.cell? ⟨w.heap.size,1,none⟩=some (.int .i64 0):=(aP a1 1).trans rfl;have b2:w1.cell? ⟨w.heap.size,2,none⟩=some (.int .i64 0):=(aP a1 2).trans rfl;have f0:w1.frozen? ⟨w.heap.size,0,none⟩=false:=cP a1 0;have f1:w1.frozen? ⟨w.heap.size,1,none⟩=false:=cP a1 1;have f2:w1.frozen? ⟨w.heap.size,2,none⟩=false:=cP a1 2;have hconv:(convert 67 9 ov).run prog w1.drew=.ok (.string (bs m.output)) w1.drew:=WE (u:=w1.drew) Sq;have HK:=aC Kj;clear h h1 h2 Sr Sq a1 Kj;generalize bs m.output=so at *;unfold aA;go_enter func28,ntmps28;go_wp2_with fail
 go_region
 all_goals
  go_wp2;refine bodyPost_ret (v:=.agg #[.string so,.int .i64 0,.int .i64 m.done]) (by simp[results,results28,go_sem,b0,b1,b2]) rfl ⟨rfl,?_⟩;exact((((HK.out).set (p:=⟨w.heap.size,0,none⟩) (inr (le_refl _)) _).set (p:=⟨w.heap.size,1,none⟩) (inr (le_refl _)) _).set (p:=⟨w.heap.size,2,none⟩) (inr (le_refl _)) _).drew
end
section
open Go.RowKit
section
variable {tb n:Nat}{f:Ky->Option Value}{w:World}{x:Ky}
def kN{W:Nat}{old:Option Value}{u:FrameMode}(h:aQ cL eL w tb n f)(hx:cL x)(hu:Unb tb x old W w) :
  CallsD prog 203 #[.pointer (some ⟨W+4,0,none⟩),.pointer (some ⟨W+3,0,none⟩),.pointer (some ⟨W,0,none⟩),.pointer (some ⟨W+1,0,none⟩)] u w fun e u' w'=>u'=u/\(fun(e:Ending) (w':World)=>e=.returned (.tuple #[])/\(∃n',aQ cL eL w' tb n' (fun y=>if y=x then old else f y))/\w.mapTurned w' tb) e w':=by
 obtain⟨h1,h2,⟨g0,g1,a1,n1,c1,a2,n2,c2,g4,g5,h3,Xz⟩,h4⟩:=hu;have k1:w.cell? ⟨W,0,none⟩=some (.map (some tb)):=by simp[cell?,h1]
 have k2:w.cell? ⟨W+1,0,none⟩=some (.int .i64 x.1):=by simp[cell?,h2]
 have k2':w.cell? ⟨W+1,1,none⟩=some (.string (bs x.2)):=by simp[cell?,h2]
 have k4:w.cell? ⟨W+4,0,none⟩=some (.bool old.isSome):=by simp[cell?,h4]
 have j0:w.cell? ⟨W+3,0,none⟩=some (.pointer g0):=by simp[cell?,h3]
 have j1:w.cell? ⟨W+3,1,none⟩=some (.string g1):=by simp[cell?,h3]
 have j2:w.cell? ⟨W+3,2,none⟩=some (.slice a1 n1 c1):=by simp[cell?,h3]
 have j3:w.cell? ⟨W+3,3,none⟩=some (.slice a2 n2 c2):=by simp[cell?,h3]
 have j4:w.cell? ⟨W+3,4,none⟩=some (.int .i64 g4):=by simp[cell?,h3]
 have j5:w.cell? ⟨W+3,5,none⟩=some (.int .i64 g5):=by simp[cell?,h3]
 cases old with
 |some v=>
  obtain rfl:=Xz v rfl;obtain⟨w6,Qd,Tb,Pn⟩:=h.store jZ iR (v:=.agg #[.pointer g0,.string g1,.slice a1 n1 c1,.slice a2 n2 c2,.int .i64 g4,.int .i64 g5]) hx trivial (fun _ _=>trivial);unfold eL at Qd;simp only[isSome_some]at k4;have HF:=aC (show (∃n',aQ cL eL w6 tb n' (fun y=>if y=x then some (.agg #[.pointer g0,.string g1,.slice a1 n1 c1,.slice a2 n2 c2,.int .i64 g4,.int .i64 g5])else f y))/\w.mapTurned w6 tb from⟨⟨_,Tb⟩,Pn⟩);generalize hQ:(fun(e:Ending) (w':World)=>e=.returned (.tuple #[])/\(∃n',aQ cL eL w' tb n' (fun y=>if y=x then some (.agg #[.pointer g0,.string g1,.slice a1 n1 c1,.slice a2 n2 c2,.int .i64 g4,.int .i64 g5])else f y))/\w.mapTurned w' tb)=Q;have HQ:=aC (show Q (.returned (.tuple #[])) w6 by rw[<- hQ];exact⟨rfl,HF.out⟩);clear h h1 h2 h3 Xz h4 Tb Pn HF hQ;generalize Sw:x.1=sp at *;generalize Lr:bs x.2=nm at *;clear Sw Lr
  go_enter_d func203,ntmps203
  go_wp2;refine bodyPost_ret (v:=.tuple #[]) (by simp[results,results203,go_sem]) rfl HQ.out
 |none=>
  obtain⟨w6,Qd,Tb,Pn⟩:=h.drop jZ iR hx trivial (fun _ _=>trivial) (P:=prog) 0;unfold eL at Qd;simp only[isSome_none]at k4;have HF:=aC (show (∃n',aQ cL eL w6 tb n' (fun y=>if y=x then none else f y))/\w.mapTurned w6 tb from⟨⟨_,Tb⟩,Pn⟩);generalize hQ:(fun(e:Ending) (w':World)=>e=.returned (.tuple #[])/\(∃n',aQ cL eL w' tb n' (fun y=>if y=x then none else f y))/\w.mapTurned w' tb)=Q;have HQ:=aC (show Q (.returned (.tuple #[])) w6 by rw[<- hQ];exact⟨rfl,HF.out⟩);clear h h1 h2 h3 Xz h4 Tb Pn HF hQ;generalize Sw:x.1=sp at *;generalize Lr:bs x.2=nm at *;clear Sw Lr
  go_enter_d func203,ntmps203
  go_wp2;refine bodyPost_end (v:=.tuple #[]) (by simp[results,results203,go_sem]) rfl HQ.out
end
end
section
open Go.RowKit
abbrev lL:TypeId:=127
def kP:prog.underlying lL=some (.map eE 3):=by kernel_rfl
def UV(w:World):(zeroValue 3).run prog w=.ok (.int .i64 0) w:=by
 have h:(prog.info? 3).map (fun i=>i.zero)=some (some (.int .i64 0)):=by kernel_rfl
 cases hi:prog.info? 3 with
 |none=>rw[hi]at h;cases h
 |some j=>
  rw[hi]at h;have hz:j.zero=some (.int .i64 0):=by simpa using h
  simp[zeroValue,typeInfo,hi,hz,Result.andThen]
def vF{tb n:Nat}{f:Ky->Option Value}{w:World}{x:Ky}(h:aQ cL eL w tb n f)(hx:cL x)(c:Bool):(Instr.lookup lL (.map (some tb)) (.agg #[.int .i64 x.1,.string (bs x.2)]) c).run prog w=.ok (if c then .tuple #[(f x).getD (.int .i64 0),.bool (f x).isSome]else(f x).getD (.int .i64 0)) w:=
 h.look jZ kP (UV w) hx trivial (fun _ _=>trivial) c
def ND(W:Nat):Value:=.func (.func 124) #[] #[.pointer (some ⟨W+3,0,none⟩),.pointer (some ⟨W+2,0,none⟩),.pointer (some ⟨W,0,none⟩),.pointer (some ⟨W+1,0,none⟩)]
structure FB(tb:Nat)(x:Ky)(old:Option Value)(W:Nat)(w:World):Prop where
 tab:w.heap[W]?=some (.cells #[.map (some tb)] lL (0,0))
 key:w.heap[W+1]?=some (.cells #[.int .i64 x.1,.string (bs x.2)] eE (0,0))
 bef:∃(i:Int),w.heap[W+2]?=some (.cells #[.int .i64 i] 3 (0,0))/\∀v,old=some v->v=.int .i64 i
 was:w.heap[W+3]?=some (.cells #[.bool old.isSome] 4 (0,0))
def FB.kept{tb:Nat}{x:Ky}{old:Option Value}{W:Nat}{w w':World}(h:FB tb x old W w)(hk:∀k,W<=k->k<W+4->w'.heap[k]?=w.heap[k]?):FB tb x old W w':=by
 obtain⟨h1,h2,⟨i,h3,Xz⟩,h4⟩:=h;exact⟨(hk _ (by omega) (by omega)).trans h1,(hk _ (by omega) (by omega)).trans h2,⟨i,(hk _ (by omega) (by omega)).trans h3,Xz⟩,(hk _ (by omega) (by omega)).trans h4⟩
section
variable {tb n:Nat}{f:Ky->Option Value}{w:World}{x:Ky}
def RB(h:aQ cL eL w tb n f)(hx:cL x)(hs:∀v,f x=some v->∃i,v=.int .i64 i){m:Value}(hm:∃i,m=.int .i64 i) :
  Calls prog 86 #[.map (some tb),eL x,m] w fun e w'=>e=.returned (ND w.heap.size)/\(∃n',aQ cL eL w' tb n' (fun y=>if y=x then some m else f y))/\FB tb x (f x) w.heap.size w'/\w'.heap.size=w.heap.size+4/\Kn (·=tb) w w':=by
 obtain⟨i0,rfl⟩:=hm;generalize hQ:(fun(e:Ending) (w':World)=>e=.returned (ND w.heap.size)/\(∃n',aQ cL eL w' tb n' (fun y=>if y=x then some (.int .i64 i0)else f y))/\FB tb x (f x) w.heap.size w'/\w'.heap.size=w.heap.size+4/\Kn (·=tb) w w')=Q;unfold eL
 obtain⟨g0,hg⟩:∃i,((f x).getD (.int .i64 0))=.int .i64 i:=by
  cases hf:f x with
  |none=>exact⟨_,rfl⟩
  |some v=>exact hs v hf
 have hl:∀w',aQ cL eL w' tb n f->(Instr.lookup lL (.map (some tb)) (.agg #[.int .i64 x.1,.string (bs x.2)]) true).run prog w'=.ok (.tuple #[.int .i64 g0,.bool (f x).isSome]) w':=fun w' h'=>by
  have:=vF h' hx true;rw[if_pos rfl,hg]at this;exact this
 have Si:=hl _ ((h.alloc (.cells #[.map (some tb)] lL)).alloc (.cells #[.int .i64 x.1,.string (bs x.2)] eE));have h5:=(((h.alloc (.cells #[.map (some tb)] lL)).alloc (.cells #[.int .i64 x.1,.string (bs x.2)] eE)).alloc (.cells #[.int .i64 g0] 3)).alloc (.cells #[.bool (f x).isSome] 4);obtain⟨w6,Qd,Tb,Pn⟩:=h5.store jZ kP (v:=.int .i64 i0) hx trivial (fun _ _=>trivial);unfold eL at Qd;have Ke:=jP Pn;have Oh:=h.lt
 have Jp:(∃n',aQ cL eL w6 tb n' (fun y=>if y=x then some (.int .i64 i0)else f y))/\FB tb x (f x) w.heap.size w6/\w6.heap.size=w.heap.size+4/\Kn (·=tb) w w6:=by
  refine⟨⟨_,Tb⟩,⟨?_,?_,⟨g0,?_,?_⟩,?_⟩,?_,?_⟩
  ·rw[eZ Pn (by omega)];simp only[bC,aK];repeat (first|rw[if_neg (by omega)]|(rw[if_pos trivial];done)|rw[if_pos (by omega)])
  ·rw[eZ Pn (by omega)];simp only[bC,aK];repeat (first|rw[if_neg (by omega)]|(rw[if_pos trivial];done)|rw[if_pos (by omega)])
  ·rw[eZ Pn (by omega)];simp only[bC,aK];repeat (first|rw[if_neg (by omega)]|(rw[if_pos trivial];done)|rw[if_pos (by omega)])
  ·intro v hv;rw[hv]at hg;exact hg
  ·rw[eZ Pn (by omega)];simp only[bC,aK];repeat (first|rw[if_neg (by omega)]|(rw[if_pos trivial];done)|rw[if_pos (by omega)])
  ·rw[Ke];simp
  ·exact(((((Kn.refl _ w).alloc _).alloc _).alloc _).alloc _).AM Pn (inl rfl)
 have HF:=aC Jp;clear h hs hg hl h5 Tb Pn Jp Ke Oh;have hq:Q (.returned (ND w.heap.size)) w6:=by rw[<- hQ];exact⟨rfl,HF.out⟩
 have HQ:=aC hq;clear HF hq hQ;generalize (f x).isSome=sm at *;generalize Sw:x.1=sp at *;generalize Lr:bs x.2=nm at *;clear Sw Lr;go_enter func86,ntmps86;go_wp2;exact HQ.out
def KQ{W:Nat}{old:Option Value}{u:FrameMode}(h:aQ cL eL w tb n f)(hx:cL x)(hu:FB tb x old W w) :
  CallsD prog 124 #[.pointer (some ⟨W+3,0,none⟩),.pointer (some ⟨W+2,0,none⟩),.pointer (some ⟨W,0,none⟩),.pointer (some ⟨W+1,0,none⟩)] u w fun e u' w'=>u'=u/\(fun(e:Ending) (w':World)=>e=.returned (.tuple #[])/\(∃n',aQ cL eL w' tb n' (fun y=>if y=x then old else f y))/\w.mapTurned w' tb) e w':=by
 obtain⟨h1,h2,⟨g0,h3,Xz⟩,h4⟩:=hu;have k1:w.cell? ⟨W,0,none⟩=some (.map (some tb)):=by simp[cell?,h1]
 have k2:w.cell? ⟨W+1,0,none⟩=some (.int .i64 x.1):=by simp[cell?,h2]
 have k2':w.cell? ⟨W+1,1,none⟩=some (.string (bs x.2)):=by simp[cell?,h2]
 have k4:w.cell? ⟨W+3,0,none⟩=some (.bool old.isSome):=by simp[cell?,h4]
 have j0:w.cell? ⟨W+2,0,none⟩=some (.int .i64 g0):=by simp[cell?,h3]
 cases old with
 |some v=>
  obtain rfl:=Xz v rfl;obtain⟨w6,Qd,Tb,Pn⟩:=h.store jZ kP (v:=.int .i64 g0) hx trivial (fun _ _=>trivial);unfold eL at Qd;simp only[isSome_some]at k4;have HF:=aC (show (∃n',aQ cL eL w6 tb n' (fun y=>if y=x then some (.int .i64 g0)else f y))/\w.mapTurned w6 tb from⟨⟨_,Tb⟩,Pn⟩);generalize hQ:(fun(e:Ending) (w':World)=>e=.returned (.tuple #[])/\(∃n',aQ cL eL w' tb n' (fun y=>if y=x then some (.int .i64 g0)else f y))/\w.mapTurned w' tb)=Q;have HQ:=aC (show Q (.returned (.tuple #[])) w6 by rw[<- hQ];exact⟨rfl,HF.out⟩);clear h h1 h2 h3 Xz h4 Tb Pn HF hQ;generalize Sw:x.1=sp at *;generalize Lr:bs x.2=nm at *;clear Sw Lr
  go_enter_d func124,ntmps124
  go_wp2;refine bodyPost_ret (v:=.tuple #[]) (by simp[results,results124,go_sem]) rfl HQ.out
 |none=>
  obtain⟨w6,Qd,Tb,Pn⟩:=h.drop jZ kP hx trivial (fun _ _=>trivial) (P:=prog) 0;unfold eL at Qd;simp only[isSome_none]at k4;have HF:=aC (show (∃n',aQ cL eL w6 tb n' (fun y=>if y=x then none else f y))/\w.mapTurned w6 tb from⟨⟨_,Tb⟩,Pn⟩);generalize hQ:(fun(e:Ending) (w':World)=>e=.returned (.tuple #[])/\(∃n',aQ cL eL w' tb n' (fun y=>if y=x then none else f y))/\w.mapTurned w' tb)=Q;have HQ:=aC (show Q (.returned (.tuple #[])) w6 by rw[<- hQ];exact⟨rfl,HF.out⟩);clear h h1 h2 h3 Xz h4 Tb Pn HF hQ;generalize Sw:x.1=sp at *;generalize Lr:bs x.2=nm at *;clear Sw Lr
  go_enter_d func124,ntmps124
  go_wp2;refine bodyPost_end (v:=.tuple #[]) (by simp[results,results124,go_sem]) rfl HQ.out
end
end
section
open Go.RowKit
abbrev Gx:TypeId:=309
def rE:prog.underlying Gx=some (.map aG aG):=by kernel_rfl
def SC:prog.underlying aG=some (.pointer aT):=by kernel_rfl
def rG:jL prog aG (fun _:Nat=>True) fH fY:=by
 have h:(prog.info? aT).map (fun i=>i.size)=some 4:=kK
 cases hi:prog.info? aT with
 |none=>rw[hi]at h;cases h
 |some j=>
  rw[hi]at h;have hz:j.size=4:=by simpa using h
  exact NX SC hi (by rw[hz];decide)
def wE(w:World):(zeroValue aG).run prog w=.ok (.pointer none) w:=by
 have h:(prog.info? aG).map (fun i=>i.zero)=some (some (.pointer none)):=by kernel_rfl
 cases hi:prog.info? aG with
 |none=>rw[hi]at h;cases h
 |some j=>
  rw[hi]at h;have hz:j.zero=some (.pointer none):=by simpa using h
  simp[zeroValue,typeInfo,hi,hz,Result.andThen]
def LMf(ad:List Nat)(m:List (Nat×Nat))(f:Nat->Option Value):Prop:=
 (∀i,i<ad.length->f (bH ad i)=(m.lookup i).map (aM ad))/\(∀b,(f b).isSome=true->b∈ad)/\∀p∈m,p.1<ad.length/\p.2<ad.length
def LM(ad:List Nat)(m:List (Nat×Nat))(lb:Nat)(w:World):Prop:=
 ∃n f,aQ (fun _:Nat=>True) fY w lb n f/\LMf ad m f
def LM.kept{ad:List Nat}{m:List (Nat×Nat)}{lb:Nat}{w w':World}(h:LM ad m lb w)(hk:w'.heap[lb]?=w.heap[lb]?):LM ad m lb w':=by
 obtain⟨n,f,h1,h2⟩:=h;exact⟨n,f,h1.kept hk,h2⟩
def LM.lt{ad:List Nat}{m:List (Nat×Nat)}{lb:Nat}{w:World}(h:LM ad m lb w):lb<w.heap.size:=by
 obtain⟨n,f,h1,_⟩:=h;exact h1.lt
def lU{m:List (Nat×Nat)}{i j:Nat}(h:m.lookup i=some j):(i,j)∈m:=by
 induction m with
 |nil=>cases h
 |cons p r ih=>
  obtain⟨a,b⟩:=p;rw[lookup_cons]at h
  by_cases he:i=a
  ·subst he;simp at h;subst h;exact mem_cons_self ..
  ·rw[beq_false_of_ne he]at h;exact mem_cons_of_mem _ (ih h)
def zG(m:List (Nat×Nat))(i j k:Nat):(m++[(i,j)]).lookup k=(m.lookup k).or (if k=i then some j else none):=by
 induction m with
 |nil=>
  rw[nil_append,lookup_cons]
  by_cases h:k=i
  ·subst h;simp
  ·rw[beq_false_of_ne h,if_neg h];rfl
 |cons p r ih=>
  obtain⟨a,b⟩:=p;rw[cons_append,lookup_cons,lookup_cons,ih]
  by_cases h:k=a
  ·subst h;simp
  ·rw[beq_false_of_ne h]
section
variable {ar:Nm->Nat}{ad:List Nat}{X:Nat->Prop}{rk:Nat->Nat}{U:TS}{w:World}{r lb d:Nat}{m:List (Nat×Nat)}
def aO.BE(h:aO ar ad X rk U w){b:Nat}(hb:b∈ad):fH w b:=by
 obtain⟨i,hi,rfl⟩:=h.mem_of hb;obtain⟨pv,fv,h1,_⟩:=h.node i hi;exact⟨_,_,h1⟩
def jU(l:List Nat){i:Nat}(hi:i<ad.length):bH (ad++l) i=bH ad i:=by
 unfold bH;rw[List.getElem?_append_left hi]
def eF(l:List Nat){i:Nat}(hi:i<ad.length):aM (ad++l) i=aM ad i:=by
 unfold aM;rw[jU l hi]
def fC(b:Nat):bH (ad++[b]) ad.length=b:=by unfold bH;simp
def LMf.more{f:Nat->Option Value}(h:LMf ad m f)(b:Nat)(hb:b∉ad):LMf (ad++[b]) m f:=by
 obtain⟨h2,h3,h4⟩:=h;refine⟨fun i hi=>?_,fun x hx=>mem_append_left _ (h3 x hx),fun p hp=>?_⟩
 ·rw[length_append,List.length_singleton]at hi
  by_cases Lc:i<ad.length
  ·rw[jU _ Lc,h2 i Lc]
   cases hl:m.lookup i with
   |none=>rfl
   |some j=>simp only[map_some];rw[eF _ (h4 _ (lU hl)).2]
  ·have:i=ad.length:=by omega
   subst this;rw[fC]
   have hf:f b=none:=by
    cases hfb:f b with
    |none=>rfl
    |some v=>exact absurd (h3 b (by rw[hfb];rfl)) hb
   rw[hf]
   cases hl:m.lookup ad.length with
   |none=>rfl
   |some j=>have:=(h4 _ (lU hl)).1;simp at this
 ·have:=h4 p hp;rw[length_append];omega
def LM.more(h:LM ad m lb w)(b:Nat)(hb:b∉ad):LM (ad++[b]) m lb w:=by
 obtain⟨n,f,h1,h2⟩:=h;exact⟨n,f,h1,h2.more b hb⟩
def LMf.add{f:Nat->Option Value}(h:LMf ad m f)(hp:ad.Pairwise (· < ·)){j:Nat}(hr:r<ad.length)(hj:j<ad.length)(hl:m.lookup r=none):LMf ad (m++[(r,j)]) (fun y=>if y=bH ad r then some (aM ad j)else f y):=by
 obtain⟨h2,h3,h4⟩:=h;refine⟨fun i hi=>?_,fun x hx=>?_,fun p hq=>?_⟩
 ·simp only;rw[zG]
  by_cases Zf:i=r
  ·subst Zf;rw[if_pos rfl,if_pos rfl,hl];rfl
  ·rw[if_neg (fun e=>Zf (kW hp hi hr e)),if_neg Zf,h2 i hi,Option.or_none]
 ·simp only at hx;split at hx
  ·next e=>subst e;exact dE hr
  ·exact h3 x hx
 ·rcases mem_append.1 hq with hq|hq
  ·exact h4 p hq
  ·rw[mem_singleton.1 hq];exact⟨hr,hj⟩
def mW(ar:Nm->Nat)(ad:List Nat)(X:Nat->Prop)(lb:Nat)(o:Nat×TS×List (Nat×Nat))(w:World)(e:Ending)(w':World):Prop:=
 ∃l rk',e=.returned (aM (ad++l) o.1)/\o.1<o.2.1.nodes.length/\aO ar (ad++l) X rk' o.2.1 w'/\LM (ad++l) o.2.2 lb w'/\Kn (fun k=>k∈ad\/k=lb) w w'/\∀b∈l,w.heap.size<=b
def IK(U:TS)(d:Nat)(m:List (Nat×Nat))(r:Nat):Nat×TS×List (Nat×Nat):=
 if U.depth r≠gJ then(r,U,m)
 else match m.lookup r with
  |some j=>(j,U,m)
  |none=>(U.nodes.length,(U.letter d).2,m++[(r,U.nodes.length)])
def nM(h:aO ar ad X rk U w)(hi:r<U.nodes.length)(hm:LM ad m lb w) :
  Calls prog 318 #[aM ad r,.int .i64 d,.map (some lb)] w (mW ar ad X lb (IK U d m r) w):=by
 obtain⟨pv,fv,_,_,_,c3,_,_,_,_⟩:=h.cell hi;have Sk:(U.node r).depth=U.depth r:=rfl;rw[Sk]at c3;have Lc:r<ad.length:=by rw[h.len];exact hi
 obtain⟨n,f,m1,m2,m3,m4⟩:=hm;have mf:LMf ad m f:=⟨m2,m3,m4⟩;have hS:∀w',aO ar ad X rk U w'->∀y,(f y).isSome=true->fH w' y:=fun w' h' y hy=>h'.BE (m3 y hy);have Lm:=m1.look rG rE (wE w) (x:=bH ad r) trivial (h.BE (dE Lc)) (hS w h) false;simp only[Bool.false_eq_true,if_false]at Lm;rw[m2 r Lc]at Lm;unfold IK
 by_cases hd:U.depth r=gJ
 ·rw[if_neg (fun e=>e hd)];rw[hd]at c3
  cases Mq:m.lookup r with
  |some j=>
   rw[Mq]at Lm;have hj:=(m4 _ (lU Mq)).2;have hq:mW ar ad X lb (j,U,m) w (.returned (aM ad j)) w:=⟨[],rk,by rw[append_nil],by rw[<- h.len];exact hj,by rw[append_nil];exact h,by rw[append_nil];exact⟨n,f,m1,m2,m3,m4⟩,Kn.refl _ _,by simp⟩;have HQ:=aC hq;clear mf hq h m1 m2 m3 m4 hS Mq hj hd;generalize mW ar ad X lb (j,U,m) w=Q at *;unfold aM aA fY at *;simp only[map_some,getD_some]at Lm;generalize bH ad r=b at *;generalize bH ad j=bj at *;go_enter func318,ntmps318;go_wp2;exact HQ.out
  |none=>
   rw[Mq]at Lm;have Lr:w.heap.size∉ad:=fun e=>Nat.lt_irrefl _ (h.BJ e);have Jz:=h.new (t:=⟨[],[],d⟩) (pv:=.slice none 0 0) (by simp) (fun _=>rfl) (fun e=>absurd rfl e) ⟨rfl,inl ⟨rfl,rfl⟩⟩ (fun g hg=>by simp[ownBlock]at hg);have My:=m1.kept (Below.heap_alloc w (.cells #[.string (bs []),.slice none 0 0,.pointer none,.int .i64 d] aT) _ m1.lt);have d8:∀y,(f y).isSome=true->fH (w.alloc (.cells #[.string (bs []),.slice none 0 0,.pointer none,.int .i64 d] aT)) y:=fun y hy=>Jz.BE (mem_append_left _ (m3 y hy));obtain⟨w2,Qd,Ly,Oq⟩:=My.store rG rE (x:=bH ad r) (v:=aA w.heap.size) trivial (Jz.BE (mem_append_left _ (dE Lc))) d8;have Wz:aO ar (ad++[w.heap.size]) X rk (U.letter d).2 w2:=Jz.kept (fun k hk=>by obtain⟨c,f,hc⟩:=Jz.isT hk;exact bJ Oq hc) (fun k c f _ hc=>bJ Oq hc)
   have hS2:∀y,((fun y=>if y=bH ad r then some (aA w.heap.size)else f y) y).isSome=true->fH w2 y:=fun y hy=>by
    simp only at hy;split at hy
    ·next e=>subst e;exact Wz.BE (mem_append_left _ (dE Lc))
    ·exact Wz.BE (mem_append_left _ (m3 y hy))
   have E8:=Ly.look rG rE (wE w2) (x:=bH ad r) trivial (Wz.BE (mem_append_left _ (dE Lc))) hS2 false;simp only[Bool.false_eq_true,if_false,if_true,getD_some]at E8
   have Yi:LM (ad++[w.heap.size]) (m++[(r,U.nodes.length)]) lb w2:=by
    have h1:=(mf.more w.heap.size Lr).add Jz.lt (r:=r) (j:=ad.length) (by rw[length_append];omega) (by simp) Mq;rw[jU _ Lc,show aM (ad++[w.heap.size]) ad.length=aA w.heap.size by unfold aM;rw[fC]]at h1;rw[<- h.len];exact⟨_,_,Ly,h1⟩
   have hq:mW ar ad X lb (U.nodes.length,(U.letter d).2,m++[(r,U.nodes.length)]) w (.returned (aA w.heap.size)) w2:=
    ⟨[w.heap.size],rk,by unfold aM;rw[<- h.len,fC],by simp[TS.letter,TS.new],Wz,Yi,(((Kn.refl _ w).alloc _).AM Oq (inl (inr rfl))),fun b hb=>by rw[mem_singleton.1 hb];exact le_refl _⟩
   have hc:=kD d w;have HC:=aC hc;have HQ:=aC hq;clear mf hc hq h m1 m2 m3 m4 hS Mq hd Lr Jz My d8 Ly Oq Wz hS2 Yi;generalize mW ar ad X lb (U.nodes.length,(U.letter d).2,m++[(r,U.nodes.length)]) w=Q at *;unfold aM aA fY at *;simp only[Option.map_none,Option.getD_none]at Lm;generalize bH ad r=b at *;go_enter func318,ntmps318;go_wp2_with fail;refine(HC.out).mono ?_;rintro e w1⟨rfl,rfl⟩;go_wp2;exact HQ.out
 ·rw[if_pos hd];have Ym:¬((U.depth r:Int)=9223372036854775807):=fun e=>hd (by unfold gJ;omega);have hq:mW ar ad X lb (r,U,m) w (.returned (aM ad r)) w:=⟨[],rk,by rw[append_nil],hi,by rw[append_nil];exact h,by rw[append_nil];exact⟨n,f,m1,m2,m3,m4⟩,Kn.refl _ _,by simp⟩;have HQ:=aC hq;clear mf hq h m1 m2 m3 m4 hS Lm Sk hd;generalize mW ar ad X lb (r,U,m) w=Q at *;generalize U.depth r=dp at *;unfold aM aA at *;generalize bH ad r=b at *;go_enter func318,ntmps318;go_wp2;exact HQ.out
end
end
section
open Go.RowKit
section
variable {ar:Nm->Nat}{ad:List Nat}{X:Nat->Prop}{rk:Nat->Nat}{U:TS}{w w':World}{i:Nat}
def wF(tbx t:Nat)(ht:t<U.nodes.length):Visits ar ad X rk U 286 #[.pointer (some ⟨tbx,0,none⟩)] (fun _ j=>j != t) (·∈ad) (fun acc=>lower U t acc) (fun _ w=>w.heap[tbx]?=some (.cells #[aM ad t] aG (0,0))) (fun _=>True) where
 enters:=aF.DD
 good _ _ _ _:=trivial
 alike acc:=iG acc U t
 ads k hk:=hk
 rows acc w k c f hs _ hd hc:=by
  obtain⟨c2,f2,h2⟩:=hs.isT hd;rw[hc]at h2;exact absurd (aN h2) (by decide)
 stays acc w w' hz hs hk:=by rw[hk.block tbx (aB hz) (jI (by decide) hz hs)];exact hz
 visit acc r w _ hs hz hr Uy:=by
  have Jm:=(iG acc U t).len;refine(GB hs (by rw[Jm];exact hr) (by rw[Jm];exact ht) hz).mono ?_;rintro e w'⟨rfl,h2,h3⟩;rw[IG];exact⟨rfl,h2,by rw[h3.block tbx (aB hz) (jI (by decide) hz hs)];exact hz,h3⟩
def mV(ar:Nm->Nat)(ad:List Nat)(X:Nat->Prop)(o:Option TS)(w:World)(e:Ending)(w':World):Prop:=
 Kn (·∈ad) w w'/\((o=none/\e=.returned (.bool false))\/∃U' rk',o=some U'/\e=.returned (.bool true)/\aO ar ad X rk' U' w')
def nY{t o:Nat}(h:aO ar ad X rk U w)(ht:t<U.nodes.length)(ho:o<U.nodes.length)(hl:U.AC t=true)(h1:U.root t=t)(h2:U.root o=o)(Ju:t≠o) :
  Calls prog 259 #[aM ad t,aM ad o] w (mV ar ad X (U.AJ t o) w):=by
 rw[TS.BL];have hF:=oZ (h.alloc (.cells #[aM ad t] aG)) ho;have Sl:(w.alloc (.cells #[aM ad t] aG)).heap[w.heap.size]?=some (.cells #[aM ad t] aG (0,0)):=(MapKept.heap_alloc w _).1;have V2:Kn (·∈ad) w (w.alloc (.cells #[aM ad t] aG)):=(Kn.refl _ w).alloc _
 cases hf:U.fits o with
 |false=>
  rw[hf]at hF;have hq:∀w1,eK ar ad X rk U (.bool false) (w.alloc (.cells #[aM ad t] aG)) (.returned (.bool false)) w1->mV ar ad X none w (.returned (.bool false)) w1:=fun w1 ha=>⟨V2.trans ha.2.2,inl ⟨rfl,rfl⟩⟩;simp only[Bool.false_and,Bool.false_eq_true,if_false];have HF:=aC hF;have HQ:=aC hq;clear hF hq h Sl V2;have Ui:∀e w1,eK ar ad X rk U (.bool false) (w.alloc (.cells #[aM ad t] aG)) e w1->e=.returned (.bool false):=fun e w1 ha=>ha.1;have Tt:=aC Ui;clear Ui;generalize mV ar ad X none w=Q at *;generalize U8:eK ar ad X rk U (.bool false) (w.alloc (.cells #[aM ad t] aG))=Q1 at *;clear U8;unfold aM aA at *;go_enter func259,ntmps259;go_wp2_with fail;refine(HF.out).mono ?_;intro e w1 ha;obtain rfl:=Tt.out e w1 ha;have HE:=aC (HQ.out w1 ha);clear ha HQ HF Tt;go_wp2;exact HE.out
 |true=>
  rw[hf]at hF;obtain⟨acc',b,Qr⟩:=TS.BW hf (fun _ j=>j != t)
  have hw:∀w1,eK ar ad X rk U (.bool true) (w.alloc (.cells #[aM ad t] aG)) (.returned (.bool true)) w1->Kn (·∈ad) w w1/\w1.heap[w.heap.size]?=some (.cells #[aM ad t] aG (0,0))/\Calls prog 117 #[aM ad o,.func (.func 286) #[] #[.pointer (some ⟨w.heap.size,0,none⟩)]] w1 (gU ar ad X rk (·∈ad) (fun acc=>lower U t acc) (fun _ w1=>w1.heap[w.heap.size]?=some (.cells #[aM ad t] aG (0,0))) acc' b w1):=by
   intro w1 ha
   have hz:w1.heap[w.heap.size]?=some (.cells #[aM ad t] aG (0,0)):=by
    rw[ha.2.2.block _ (aB Sl) (jI (by decide) Sl (h.alloc _))];exact Sl
   exact⟨V2.trans ha.2.2,hz,nV (wF w.heap.size t ht) dF [] o w1 acc' b Qr ho trivial ha.2.1 hz⟩
  have Ui:∀e w1,eK ar ad X rk U (.bool true) (w.alloc (.cells #[aM ad t] aG)) e w1->e=.returned (.bool true):=fun e w1 ha=>ha.1;have Sd:∀w1 e w2,gU ar ad X rk (·∈ad) (fun acc=>lower U t acc) (fun _ w1=>w1.heap[w.heap.size]?=some (.cells #[aM ad t] aG (0,0))) acc' b w1 e w2->e=.returned (.bool b)/\aO ar ad X rk (lower U t acc') w2/\w2.heap[w.heap.size]?=some (.cells #[aM ad t] aG (0,0))/\Kn (·∈ad) w1 w2:=fun w1 e w2 ha=>ha;rw[Qr]
  cases b with
  |false=>
   have hq:∀w1 w2,Kn (·∈ad) w w1->Kn (·∈ad) w1 w2->mV ar ad X none w (.returned (.bool false)) w2:=fun w1 w2 a b=>⟨a.trans b,inl ⟨rfl,rfl⟩⟩;simp only[Bool.true_and,any_some,Bool.false_eq_true,if_false];have HF:=aC hF;have HQ:=aC hq;have HW:=aC hw;have Tt:=aC Ui;have V9:=aC Sd;clear hF hq h Sl V2 hw Ui Sd Qr hf;generalize mV ar ad X none w=Q at *;generalize U8:eK ar ad X rk U (.bool true) (w.alloc (.cells #[aM ad t] aG))=Q1 at *;generalize U7:gU ar ad X rk (·∈ad) (fun acc=>lower U t acc) (fun _ w1=>w1.heap[w.heap.size]?=some (.cells #[aM ad t] aG (0,0))) acc' false=Q2 at *;clear U8 U7;unfold aM aA at *;go_enter func259,ntmps259;go_wp2_with fail;refine(HF.out).mono ?_;intro e w1 ha;obtain rfl:=Tt.out e w1 ha;obtain⟨k1,_,hc⟩:=HW.out w1 ha;have HC:=aC hc;have Vl:=aC k1;clear ha HF Tt HW hc k1;go_wp2_with fail;refine(HC.out).mono ?_;intro e w2 ha;obtain⟨rfl,_,_,k2⟩:=V9.out w1 e w2 ha;have HE:=aC (HQ.out w1 w2 Vl.out k2);clear ha HQ HC Vl V9 k2;go_wp2;exact HE.out
  |true=>
   have Qf:acc'=U.pre o:=by
    have h3:=KV Qr;rw[TS.BV hf]at h3;simp at h3;exact h3.symm
   subst Qf;have Kv:=iG (U.pre o) U t;have Jv:bH ad t∈ad:=dE (by rw[h.len];exact ht)
   have hq:∀w1 w2,Kn (·∈ad) w w1->Kn (·∈ad) w1 w2->aO ar ad X rk (lower U t (U.pre o)) w2->w2.heap[w.heap.size]?=some (.cells #[aM ad t] aG (0,0))->w2.cell? ⟨w.heap.size,0,none⟩=some (aM ad t)/\(∃old,w2.cell? ⟨bH ad t,2,none⟩=some old)/\w2.frozen? ⟨bH ad t,2,none⟩=false/\mV ar ad X (some ((lower U t (U.pre o)).found t o)) w (.returned (.bool true)) (w2.setCell ⟨bH ad t,2,none⟩ (aM ad o)):=by
    intro w1 w2 k1 k2 hs hz;obtain⟨pv,fv,_,_,c3,_,f3,_⟩:=hs.cell (i:=t) (by rw[Kv.len];exact ht);refine⟨by simp[cell?,hz],⟨fv,c3⟩,f3,(k1.trans k2).set (inl Jv) _,inr ⟨_,_,rfl,rfl,hs.found (by rw[Kv.len];exact ht) (by rw[Kv.len];exact ho) (by rw[Kv.AC];exact hl) (by rw[Kv.root];exact h1) (by rw[Kv.root];exact h2) Ju⟩⟩
   simp only[Bool.true_and,any_some,if_true];have HF:=aC hF;have HQ:=aC hq;have HW:=aC hw;have Tt:=aC Ui;have V9:=aC Sd;clear hF hq h Sl V2 hw Ui Sd Qr hf Kv Jv;generalize mV ar ad X (some ((lower U t (U.pre o)).found t o)) w=Q at *;generalize U8:eK ar ad X rk U (.bool true) (w.alloc (.cells #[aM ad t] aG))=Q1 at *;generalize U7:gU ar ad X rk (·∈ad) (fun acc=>lower U t acc) (fun _ w1=>w1.heap[w.heap.size]?=some (.cells #[aM ad t] aG (0,0))) (U.pre o) true=Q2 at *;clear U8 U7;unfold aM aA at *;go_enter func259,ntmps259;go_wp2_with fail;refine(HF.out).mono ?_;intro e w1 ha;obtain rfl:=Tt.out e w1 ha;obtain⟨k1,_,hc⟩:=HW.out w1 ha;have HC:=aC hc;have Vl:=aC k1;clear ha HF Tt HW hc k1;go_wp2_with fail;refine(HC.out).mono ?_;intro e w2 ha;obtain⟨rfl,s2,z2,k2⟩:=V9.out w1 e w2 ha;obtain⟨q1,⟨old,q2⟩,q3,q4⟩:=HQ.out w1 w2 Vl.out k2 s2 z2;have HE:=aC q4;clear ha HQ HC Vl V9 k2 s2 z2 q4;go_wp2;exact HE.out
end
end
section
structure gT(U τ:TS):Prop where
 len:τ.nodes.length=U.nodes.length
 given:τ.given=U.given
 name:∀i,(τ.node i).name=(U.node i).name
 parts:∀i,(τ.node i).parts=(U.node i).parts
def gT.refl(U:TS):gT U U:=⟨rfl,rfl,fun _=>rfl,fun _=>rfl⟩
def gT.trans{a b c:TS}(h:gT a b)(k:gT b c):gT a c:=⟨k.len.trans h.len,k.given.trans h.given,fun i=>(k.name i).trans (h.name i),fun i=>(k.parts i).trans (h.parts i)⟩
def Alike.DP{a b:TS}(h:Alike a b):gT a b:=⟨h.len,h.given,h.name,h.parts⟩
def nC{U U':TS}{t o:Nat}(h:U.AJ t o=some U'):gT U U':=by
 rw[TS.BL]at h;split at h
 ·cases h;exact(iG (U.pre o) U t).DP.trans ⟨rfl,rfl,fun _=>rfl,fun _=>rfl⟩
 ·cases h
def SG{g:TS->Nat->Nat->Nat->Option (TS×Nat)}(hg:∀U pl a b U' pl',g U pl a b=some (U',pl')->gT U U'/\pl<=pl') :
  ∀(az bs:List Nat)(U:TS)(pl:Nat)(U':TS)(pl':Nat),un.unL g U pl az bs=some (U',pl')->gT U U'/\pl<=pl':=by
 intro az
 induction az with
 |nil=>intro bs U pl U' pl' hs;rw[un.unL]at hs;cases hs;exact⟨gT.refl _,le_refl _⟩;intro _ _ _ _ h;cases h
 |cons a az ih=>
  intro bs U pl U' pl' hs
  cases bs with
  |nil=>rw[un.unL]at hs;cases hs;exact⟨gT.refl _,le_refl _⟩;intro _ _ _ _ _ h;cases h
  |cons b bs=>
   rw[un.unL]at hs
   cases B9:g U pl a b with
   |none=>rw[B9]at hs;cases hs
   |some x=>
    obtain⟨U1,pl1⟩:=x;rw[B9]at hs;obtain⟨s1,l1⟩:=hg U pl a b U1 pl1 B9;obtain⟨s2,l2⟩:=ih bs U1 pl1 U' pl' hs;exact⟨s1.trans s2,le_trans l1 l2⟩
def mI:∀(n:Nat)(U:TS)(pl a b:Nat)(U':TS)(pl':Nat),un n U pl a b=some (U',pl')->gT U U'/\pl<=pl':=by
 intro n
 induction n with
 |zero=>intro U pl a b U' pl' hs;cases hs
 |succ n ih=>
  intro U pl a b U' pl' hs;rw[un]at hs;split at hs
  ·cases hs;exact⟨gT.refl _,by omega⟩
  ·split at hs
   ·cases hs
   ·split at hs
    ·cases hx:U.AJ (U.root a) (U.root b)with
     |none=>rw[hx]at hs;cases hs
     |some y=>rw[hx]at hs;cases hs;exact⟨nC hx,by omega⟩
    ·split at hs
     ·cases hx:U.AJ (U.root b) (U.root a)with
      |none=>rw[hx]at hs;cases hs
      |some y=>rw[hx]at hs;cases hs;exact⟨nC hx,by omega⟩
     ·split at hs
      ·obtain⟨h1,h2⟩:=SG (fun U pl a b U' pl' h=>ih U pl a b U' pl' h) _ _ _ _ _ _ hs;exact⟨h1,by omega⟩
      ·cases hs
def NE{Aa B:Nat}{g:TS->Nat->Nat->Nat->Option (TS×Nat)}(hs:∀U pl a b U' pl',g U pl a b=some (U',pl')->gT U U')(hg:∀U pl a b U' pl',(∀i,(U.node i).parts.length<=Aa)->g U pl a b=some (U',pl')->pl'<=max (pl+1) B) :
  ∀(az bs:List Nat)(U:TS)(pl:Nat)(U':TS)(pl' k:Nat),(∀i,(U.node i).parts.length<=Aa)->pl<=B+k->un.unL g U pl az bs=some (U',pl')->pl'<=B+k+az.length:=by
 intro az
 induction az with
 |nil=>intro bs U pl U' pl' k _ hk h;rw[un.unL]at h;cases h;simpa using hk;intro _ _ _ _ h;cases h
 |cons a az ih=>
  intro bs U pl U' pl' k hA hk h
  cases bs with
  |nil=>rw[un.unL]at h;cases h;simp;omega;intro _ _ _ _ _ h;cases h
  |cons b bs=>
   rw[un.unL]at h
   cases B9:g U pl a b with
   |none=>rw[B9]at h;cases h
   |some x=>
    obtain⟨U1,pl1⟩:=x;rw[B9]at h;have s1:=hs U pl a b U1 pl1 B9;have l1:=hg U pl a b U1 pl1 hA B9;have:=ih bs U1 pl1 U' pl' (k+1) (fun i=>by rw[s1.parts];exact hA i) (by omega) h;rw[length_cons];omega
def SF{Aa:Nat}:∀(n:Nat)(U:TS)(pl a b:Nat)(U':TS)(pl':Nat),(∀i,(U.node i).parts.length<=Aa)->un n U pl a b=some (U',pl')->pl'<=max (pl+1) (201+n*Aa):=by
 intro n
 induction n with
 |zero=>intro U pl a b U' pl' _ hs;cases hs
 |succ n ih=>
  intro U pl a b U' pl' hA hs;rw[un]at hs;split at hs
  ·cases hs;omega
  ·split at hs
   ·cases hs
   ·rename_i Mo;split at hs
    ·cases hx:U.AJ (U.root a) (U.root b)with
     |none=>rw[hx]at hs;cases hs
     |some y=>rw[hx]at hs;cases hs;omega
    ·split at hs
     ·cases hx:U.AJ (U.root b) (U.root a)with
      |none=>rw[hx]at hs;cases hs
      |some y=>rw[hx]at hs;cases hs;omega
     ·split at hs
      ·have h1:=NE (Aa:=Aa) (B:=201+n*Aa) (fun U pl a b U' pl' h=>(mI n U pl a b U' pl' h).1) (fun U pl a b U' pl' h1 h2=>ih U pl a b U' pl' h1 h2) _ _ _ _ _ _ 0 hA (by unfold eR at Mo;omega) hs;have h2:=hA (U.root a);rw[Nat.succ_mul];omega
      ·cases hs
end
section
open Go.RowKit
def eJ(ar:Nm->Nat)(ad:List Nat)(X:Nat->Prop)(pb:Nat)(o:Option (TS×Nat))(w:World)(e:Ending)(w':World):Prop:=
 Kn (fun k=>k∈ad\/k=pb) w w'/\((o=none/\e=.returned (.bool false))\/∃U' pl' rk',o=some (U',pl')/\e=.returned (.bool true)/\aO ar ad X rk' U' w'/\w'.heap[pb]?=some (.cells #[.int .i64 pl'] bU (0,0)))
section
variable {ar:Nm->Nat}{ad:List Nat}{X:Nat->Prop}{rk:Nat->Nat}{U:TS}{w w':World}{a b pb pl:Nat}
structure eA(ar:Nm->Nat)(ad:List Nat)(X:Nat->Prop)(rk:Nat->Nat)(U:TS)(pb pl ra rb:Nat)(w w3:World):Prop where
 sto:aO ar ad X rk U w3
 box:w3.heap[pb]?=some (.cells #[.int .i64 (pl+1:Nat)] bU (0,0))
 kn:Kn (fun k=>k∈ad\/k=pb) w w3
def iT{ra rb:Nat}(hp:w.heap[pb]?=some (.cells #[.int .i64 pl] bU (0,0)))(h:aO ar ad X rk U w){w1:World}(h1:aO ar ad X rk U w1)(k1:Kn (·∈ad) w w1) :
  w1.cell? ⟨pb,0,none⟩=some (.int .i64 pl)/\w1.frozen? ⟨pb,0,none⟩=false/\eA ar ad X rk U pb pl ra rb w (w1.setCell ⟨pb,0,none⟩ (.int .i64 ((pl:Int)+1))):=by
 have hb:w1.heap[pb]?=some (.cells #[.int .i64 pl] bU (0,0)):=by rw[k1.block pb (aB hp) (jI (by decide) hp h)];exact hp
 refine⟨by simp[cell?,hb],frozen_of_row _ _ _ _ _ hb,h1.box (by decide) (by decide) hb 0 _,?_,Kn.set (D:=fun k=>k∈ad\/k=pb) (k1.wide fun k _ hk=>inl hk) (p:=⟨pb,0,none⟩) (inl (inr rfl)) _⟩;rw[heap_setCell_same _ _ _ _ _ _ hb];rfl
def Cn{l m:Nm}(h:bs l=bs m):l=m:=by
 have:=congrArg (fun b=>b.data.toList) h
 simpa [bs]using this
def eA.eql{ra rb:Nat}{w3:World}(h:eA ar ad X rk U pb pl ra rb w w3)(Qn:ra<U.nodes.length)(Qm:rb<U.nodes.length):(binOp .eql aG (.pointer (some ⟨bH ad ra,0,none⟩)) (.pointer (some ⟨bH ad rb,0,none⟩))).run prog w3=.ok (.bool (decide (ra=rb))) w3:=by
 rw[ZT (h.sto.isVar Qn) (h.sto.isVar Qm)];congr 2
 by_cases he:ra=rb
 ·subst he;simp
 ·have:bH ad ra≠bH ad rb:=fun e=>he (kW h.sto.lt (by rw[h.sto.len];exact Qn) (by rw[h.sto.len];exact Qm) e);simp[he,this]
def Ee(h:aO ar ad X rk U w)(ha:a<U.nodes.length)(hb:b<U.nodes.length)(hp:w.heap[pb]?=some (.cells #[.int .i64 pl] bU (0,0)))(Nb:pl<=1000000000)(he:U.root a=U.root b) :
  Calls prog 208 #[aM ad a,aM ad b,.pointer (some ⟨pb,0,none⟩)] w (eJ ar ad X pb (some (U,pl+1)) w):=by
 have Qn:=h.ok.AK ha;have Qm:=h.ok.AK hb;have Sa:=dX (rk a+1) a w (lt_succ_self _) h ha;have To:∀w1,aO ar ad X rk U w1->Calls prog 44 #[aM ad b] w1 (bG ar ad X rk U b w1):=fun w1 h1=>dX (rk b+1) b w1 (lt_succ_self _) h1 hb;have Ts:∀e w1,bG ar ad X rk U a w e w1->e=.returned (aM ad (U.root a))/\aO ar ad X rk U w1/\Kn (·∈ad) w w1:=fun e w1 x=>⟨x.1,x.2.1,x.2.2.1⟩;have Sc:∀w1,Kn (·∈ad) w w1->∀e w2,bG ar ad X rk U b w1 e w2->e=.returned (aM ad (U.root b))/\w2.cell? ⟨pb,0,none⟩=some (.int .i64 pl)/\w2.frozen? ⟨pb,0,none⟩=false/\eA ar ad X rk U pb pl (U.root a) (U.root b) w (w2.setCell ⟨pb,0,none⟩ (.int .i64 ((pl:Int)+1))):=fun w1 k1 e w2 x=>⟨x.1,iT hp h x.2.1 (k1.trans x.2.2.1)⟩;have Sb:∀w3,eA ar ad X rk U pb pl (U.root a) (U.root b) w w3->(binOp .eql aG (.pointer (some ⟨bH ad (U.root a),0,none⟩)) (.pointer (some ⟨bH ad (U.root b),0,none⟩))).run prog w3=.ok (.bool (decide (U.root a=U.root b))) w3:=fun w3 x=>x.eql Qn Qm;have Tr:∀w3,eA ar ad X rk U pb pl (U.root a) (U.root b) w w3->w3.cell? ⟨pb,0,none⟩=some (.int .i64 ((pl:Int)+1)):=fun w3 x=>by simp[cell?,x.box]
 have Jp:∀w3,eA ar ad X rk U pb pl (U.root a) (U.root b) w w3->eJ ar ad X pb (some (U,pl+1)) w (.returned (.bool true)) w3:=fun w3 x=>⟨x.kn,inr ⟨_,_,_,rfl,rfl,x.sto,x.box⟩⟩;have hd:decide (U.root a=U.root b)=true:=decide_eq_true he;have Kk:=aC Jp;clear Jp;have Tv:=aC Sa;have Tu:=aC To;have Oo:=aC Ts;have Qq:=aC Sc;have Rj:=aC Sb;have Ty:=aC Tr;clear Sa To Ts Sc Sb Tr hp he;generalize hu:eA ar ad X rk U pb pl (U.root a) (U.root b) w=Uu at *;generalize hq:eJ ar ad X pb (some (U,pl+1)) w=Q at *;generalize Nk:bG ar ad X rk U a w=Q1 at *;generalize Nc:bG ar ad X rk U b=Q2 at *;clear hq Nk Nc;unfold aM aA at *;go_enter func208,ntmps208;go_wp2_with fail;refine(Tv.out).mono ?_;intro e w1 x;obtain⟨rfl,s1,k1⟩:=Oo.out e w1 x;have Oe:=aC (Tu.out w1 s1);have HN:=aC (Qq.out w1 k1);clear x s1 k1 Tv Oo Tu Qq;go_wp2_with fail;refine(Oe.out).mono ?_;intro e w2 x;obtain⟨rfl,c2,f2,u3⟩:=HN.out e w2 x;have HU:=aC u3;clear x u3 Oe HN;have Qc:pl<2000000000:=by omega
 have Jo:=Rj.out _ HU.out;have K7:=Ty.out _ HU.out;have HE:=aC (Kk.out _ HU.out);clear Kk HU Rj Ty;rw[hd]at Jo;go_wp2;exact HE.out
def Ef(h:aO ar ad X rk U w)(ha:a<U.nodes.length)(hb:b<U.nodes.length)(hp:w.heap[pb]?=some (.cells #[.int .i64 pl] bU (0,0)))(Nb:pl<=1000000000)(he:U.root a≠U.root b)(Mo:200<pl+1) :
  Calls prog 208 #[aM ad a,aM ad b,.pointer (some ⟨pb,0,none⟩)] w (eJ ar ad X pb none w):=by
 have Qn:=h.ok.AK ha;have Qm:=h.ok.AK hb;have Sa:=dX (rk a+1) a w (lt_succ_self _) h ha;have To:∀w1,aO ar ad X rk U w1->Calls prog 44 #[aM ad b] w1 (bG ar ad X rk U b w1):=fun w1 h1=>dX (rk b+1) b w1 (lt_succ_self _) h1 hb;have Ts:∀e w1,bG ar ad X rk U a w e w1->e=.returned (aM ad (U.root a))/\aO ar ad X rk U w1/\Kn (·∈ad) w w1:=fun e w1 x=>⟨x.1,x.2.1,x.2.2.1⟩;have Sc:∀w1,Kn (·∈ad) w w1->∀e w2,bG ar ad X rk U b w1 e w2->e=.returned (aM ad (U.root b))/\w2.cell? ⟨pb,0,none⟩=some (.int .i64 pl)/\w2.frozen? ⟨pb,0,none⟩=false/\eA ar ad X rk U pb pl (U.root a) (U.root b) w (w2.setCell ⟨pb,0,none⟩ (.int .i64 ((pl:Int)+1))):=fun w1 k1 e w2 x=>⟨x.1,iT hp h x.2.1 (k1.trans x.2.2.1)⟩;have Sb:∀w3,eA ar ad X rk U pb pl (U.root a) (U.root b) w w3->(binOp .eql aG (.pointer (some ⟨bH ad (U.root a),0,none⟩)) (.pointer (some ⟨bH ad (U.root b),0,none⟩))).run prog w3=.ok (.bool (decide (U.root a=U.root b))) w3:=fun w3 x=>x.eql Qn Qm;have Tr:∀w3,eA ar ad X rk U pb pl (U.root a) (U.root b) w w3->w3.cell? ⟨pb,0,none⟩=some (.int .i64 ((pl:Int)+1)):=fun w3 x=>by simp[cell?,x.box]
 have Jp:∀w3,eA ar ad X rk U pb pl (U.root a) (U.root b) w w3->eJ ar ad X pb none w (.returned (.bool false)) w3:=fun w3 x=>⟨x.kn,inl ⟨rfl,rfl⟩⟩;have hd:decide (U.root a=U.root b)=false:=decide_eq_false he;have Ve:(200:Int)<(pl:Int)+1:=by omega
 have Kk:=aC Jp;clear Jp;have Tv:=aC Sa;have Tu:=aC To;have Oo:=aC Ts;have Qq:=aC Sc;have Rj:=aC Sb;have Ty:=aC Tr;clear Sa To Ts Sc Sb Tr hp he;generalize hu:eA ar ad X rk U pb pl (U.root a) (U.root b) w=Uu at *;generalize hq:eJ ar ad X pb none w=Q at *;generalize Nk:bG ar ad X rk U a w=Q1 at *;generalize Nc:bG ar ad X rk U b=Q2 at *;clear hq Nk Nc;unfold aM aA at *;go_enter func208,ntmps208;go_wp2_with fail;refine(Tv.out).mono ?_;intro e w1 x;obtain⟨rfl,s1,k1⟩:=Oo.out e w1 x;have Oe:=aC (Tu.out w1 s1);have HN:=aC (Qq.out w1 k1);clear x s1 k1 Tv Oo Tu Qq;go_wp2_with fail;refine(Oe.out).mono ?_;intro e w2 x;obtain⟨rfl,c2,f2,u3⟩:=HN.out e w2 x;have HU:=aC u3;clear x u3 Oe HN;have Qc:pl<2000000000:=by omega
 have Jo:=Rj.out _ HU.out;have K7:=Ty.out _ HU.out;have HE:=aC (Kk.out _ HU.out);clear Kk HU Rj Ty;rw[hd]at Jo;go_wp2;exact HE.out
def YG(h:aO ar ad X rk U w)(ha:a<U.nodes.length)(hb:b<U.nodes.length)(hp:w.heap[pb]?=some (.cells #[.int .i64 pl] bU (0,0)))(Nb:pl<=1000000000)(he:U.root a≠U.root b)(Mo:¬200<pl+1)(hl:U.AC (U.root a)=true) :
  Calls prog 208 #[aM ad a,aM ad b,.pointer (some ⟨pb,0,none⟩)] w (eJ ar ad X pb ((U.AJ (U.root a) (U.root b)).map (·,pl+1)) w):=by
 have Qn:=h.ok.AK ha;have Qm:=h.ok.AK hb;have Sa:=dX (rk a+1) a w (lt_succ_self _) h ha;have To:∀w1,aO ar ad X rk U w1->Calls prog 44 #[aM ad b] w1 (bG ar ad X rk U b w1):=fun w1 h1=>dX (rk b+1) b w1 (lt_succ_self _) h1 hb;have Ts:∀e w1,bG ar ad X rk U a w e w1->e=.returned (aM ad (U.root a))/\aO ar ad X rk U w1/\Kn (·∈ad) w w1:=fun e w1 x=>⟨x.1,x.2.1,x.2.2.1⟩;have Sc:∀w1,Kn (·∈ad) w w1->∀e w2,bG ar ad X rk U b w1 e w2->e=.returned (aM ad (U.root b))/\w2.cell? ⟨pb,0,none⟩=some (.int .i64 pl)/\w2.frozen? ⟨pb,0,none⟩=false/\eA ar ad X rk U pb pl (U.root a) (U.root b) w (w2.setCell ⟨pb,0,none⟩ (.int .i64 ((pl:Int)+1))):=fun w1 k1 e w2 x=>⟨x.1,iT hp h x.2.1 (k1.trans x.2.2.1)⟩;have Sb:∀w3,eA ar ad X rk U pb pl (U.root a) (U.root b) w w3->(binOp .eql aG (.pointer (some ⟨bH ad (U.root a),0,none⟩)) (.pointer (some ⟨bH ad (U.root b),0,none⟩))).run prog w3=.ok (.bool (decide (U.root a=U.root b))) w3:=fun w3 x=>x.eql Qn Qm;have Tr:∀w3,eA ar ad X rk U pb pl (U.root a) (U.root b) w w3->w3.cell? ⟨pb,0,none⟩=some (.int .i64 ((pl:Int)+1)):=fun w3 x=>by simp[cell?,x.box]
 have Lc:∀w3,eA ar ad X rk U pb pl (U.root a) (U.root b) w w3->Calls prog 45 #[aM ad (U.root a)] w3 fun e w'=>e=.returned (.bool true)/\w'=w3:=fun w3 x=>by rw[<- hl];exact cH x.sto (by assumption)
 have Jz:∀w3,eA ar ad X rk U pb pl (U.root a) (U.root b) w w3->Calls prog 259 #[aM ad (U.root a),aM ad (U.root b)] w3 (mV ar ad X (U.AJ (U.root a) (U.root b)) w3):=fun w3 x=>nY x.sto (by assumption) (by assumption) hl (h.ok.AZ _) (h.ok.AZ _) (by first|exact he|exact Ne.symm he)
 have Jp:∀w3 e w4,eA ar ad X rk U pb pl (U.root a) (U.root b) w w3->mV ar ad X (U.AJ (U.root a) (U.root b)) w3 e w4->∃v,e=.returned (.bool v)/\eJ ar ad X pb ((U.AJ (U.root a) (U.root b)).map (·,pl+1)) w (.returned (.bool v)) w4:=by
  rintro w3 e w4 x⟨k4,⟨h1,h2⟩|⟨U',rk',h1,h2,h3⟩⟩
  ·exact⟨false,h2,x.kn.trans (k4.wide fun k _ hk=>inl hk),inl ⟨by rw[h1];rfl,rfl⟩⟩
  ·refine⟨true,h2,x.kn.trans (k4.wide fun k _ hk=>inl hk),inr ⟨U',pl+1,rk',by rw[h1];rfl,rfl,h3,?_⟩⟩;rw[k4.block pb (aB x.box) (jI (by decide) x.box x.sto)];exact x.box
 have hd:decide (U.root a=U.root b)=false:=decide_eq_false he;have Ve:¬(200:Int)<(pl:Int)+1:=by omega
 have X7:=aC Lc;have Km:=aC Jz;have Kk:=aC Jp;clear Jp Lc Jz;have Tv:=aC Sa;have Tu:=aC To;have Oo:=aC Ts;have Qq:=aC Sc;have Rj:=aC Sb;have Ty:=aC Tr;clear Sa To Ts Sc Sb Tr hp he;generalize hu:eA ar ad X rk U pb pl (U.root a) (U.root b) w=Uu at *;generalize hq:eJ ar ad X pb ((U.AJ (U.root a) (U.root b)).map (·,pl+1)) w=Q at *;generalize Nk:bG ar ad X rk U a w=Q1 at *;generalize Nc:bG ar ad X rk U b=Q2 at *;clear hq Nk Nc;unfold aM aA at *;go_enter func208,ntmps208;go_wp2_with fail;refine(Tv.out).mono ?_;intro e w1 x;obtain⟨rfl,s1,k1⟩:=Oo.out e w1 x;have Oe:=aC (Tu.out w1 s1);have HN:=aC (Qq.out w1 k1);clear x s1 k1 Tv Oo Tu Qq;go_wp2_with fail;refine(Oe.out).mono ?_;intro e w2 x;obtain⟨rfl,c2,f2,u3⟩:=HN.out e w2 x;have HU:=aC u3;clear x u3 Oe HN;have Qc:pl<2000000000:=by omega
 have Jo:=Rj.out _ HU.out;have K7:=Ty.out _ HU.out;have HU2:=HU;have Wr:=aC (X7.out _ HU.out);have Y0:=aC (Km.out _ HU.out);have HE:=aC (fun e w4=>Kk.out _ e w4 HU.out);clear Kk HU Rj Ty X7 Km HU2;generalize hs:mV ar ad X (U.AJ (U.root a) (U.root b))=Q5 at *;clear hs;rw[hd]at Jo;go_wp2_with fail;generalize w2.setCell ⟨pb,0,none⟩ (.int .i64 ((pl:Int)+1))=w3 at *;refine(Wr.out).mono ?_;rintro e w4⟨rfl,Uw⟩;subst w4;go_wp2_with fail;refine(Y0.out).mono ?_;intro e w4 y;obtain⟨v,rfl,hq⟩:=HE.out e w4 y;have HF:=aC hq;clear y hq HE Y0 Wr;go_wp2;exact HF.out
def YF(h:aO ar ad X rk U w)(ha:a<U.nodes.length)(hb:b<U.nodes.length)(hp:w.heap[pb]?=some (.cells #[.int .i64 pl] bU (0,0)))(Nb:pl<=1000000000)(he:U.root a≠U.root b)(Mo:¬200<pl+1)(Pk:U.AC (U.root a)=false)(hl:U.AC (U.root b)=true) :
  Calls prog 208 #[aM ad a,aM ad b,.pointer (some ⟨pb,0,none⟩)] w (eJ ar ad X pb ((U.AJ (U.root b) (U.root a)).map (·,pl+1)) w):=by
 have Qn:=h.ok.AK ha;have Qm:=h.ok.AK hb;have Sa:=dX (rk a+1) a w (lt_succ_self _) h ha;have To:∀w1,aO ar ad X rk U w1->Calls prog 44 #[aM ad b] w1 (bG ar ad X rk U b w1):=fun w1 h1=>dX (rk b+1) b w1 (lt_succ_self _) h1 hb;have Ts:∀e w1,bG ar ad X rk U a w e w1->e=.returned (aM ad (U.root a))/\aO ar ad X rk U w1/\Kn (·∈ad) w w1:=fun e w1 x=>⟨x.1,x.2.1,x.2.2.1⟩;have Sc:∀w1,Kn (·∈ad) w w1->∀e w2,bG ar ad X rk U b w1 e w2->e=.returned (aM ad (U.root b))/\w2.cell? ⟨pb,0,none⟩=some (.int .i64 pl)/\w2.frozen? ⟨pb,0,none⟩=false/\eA ar ad X rk U pb pl (U.root a) (U.root b) w (w2.setCell ⟨pb,0,none⟩ (.int .i64 ((pl:Int)+1))):=fun w1 k1 e w2 x=>⟨x.1,iT hp h x.2.1 (k1.trans x.2.2.1)⟩;have Sb:∀w3,eA ar ad X rk U pb pl (U.root a) (U.root b) w w3->(binOp .eql aG (.pointer (some ⟨bH ad (U.root a),0,none⟩)) (.pointer (some ⟨bH ad (U.root b),0,none⟩))).run prog w3=.ok (.bool (decide (U.root a=U.root b))) w3:=fun w3 x=>x.eql Qn Qm;have Tr:∀w3,eA ar ad X rk U pb pl (U.root a) (U.root b) w w3->w3.cell? ⟨pb,0,none⟩=some (.int .i64 ((pl:Int)+1)):=fun w3 x=>by simp[cell?,x.box]
 have Ol:∀w3,eA ar ad X rk U pb pl (U.root a) (U.root b) w w3->Calls prog 45 #[aM ad (U.root a)] w3 fun e w'=>e=.returned (.bool false)/\w'=w3:=fun w3 x=>by rw[<- Pk];exact cH x.sto Qn
 have HNL:=aC Ol;clear Ol;have Lc:∀w3,eA ar ad X rk U pb pl (U.root a) (U.root b) w w3->Calls prog 45 #[aM ad (U.root b)] w3 fun e w'=>e=.returned (.bool true)/\w'=w3:=fun w3 x=>by rw[<- hl];exact cH x.sto (by assumption)
 have Jz:∀w3,eA ar ad X rk U pb pl (U.root a) (U.root b) w w3->Calls prog 259 #[aM ad (U.root b),aM ad (U.root a)] w3 (mV ar ad X (U.AJ (U.root b) (U.root a)) w3):=fun w3 x=>nY x.sto (by assumption) (by assumption) hl (h.ok.AZ _) (h.ok.AZ _) (by first|exact he|exact Ne.symm he)
 have Jp:∀w3 e w4,eA ar ad X rk U pb pl (U.root a) (U.root b) w w3->mV ar ad X (U.AJ (U.root b) (U.root a)) w3 e w4->∃v,e=.returned (.bool v)/\eJ ar ad X pb ((U.AJ (U.root b) (U.root a)).map (·,pl+1)) w (.returned (.bool v)) w4:=by
  rintro w3 e w4 x⟨k4,⟨h1,h2⟩|⟨U',rk',h1,h2,h3⟩⟩
  ·exact⟨false,h2,x.kn.trans (k4.wide fun k _ hk=>inl hk),inl ⟨by rw[h1];rfl,rfl⟩⟩
  ·refine⟨true,h2,x.kn.trans (k4.wide fun k _ hk=>inl hk),inr ⟨U',pl+1,rk',by rw[h1];rfl,rfl,h3,?_⟩⟩;rw[k4.block pb (aB x.box) (jI (by decide) x.box x.sto)];exact x.box
 have hd:decide (U.root a=U.root b)=false:=decide_eq_false he;have Ve:¬(200:Int)<(pl:Int)+1:=by omega
 have X7:=aC Lc;have Km:=aC Jz;have Kk:=aC Jp;clear Jp Lc Jz;have Tv:=aC Sa;have Tu:=aC To;have Oo:=aC Ts;have Qq:=aC Sc;have Rj:=aC Sb;have Ty:=aC Tr;clear Sa To Ts Sc Sb Tr hp he;generalize hu:eA ar ad X rk U pb pl (U.root a) (U.root b) w=Uu at *;generalize hq:eJ ar ad X pb ((U.AJ (U.root b) (U.root a)).map (·,pl+1)) w=Q at *;generalize Nk:bG ar ad X rk U a w=Q1 at *;generalize Nc:bG ar ad X rk U b=Q2 at *;clear hq Nk Nc;unfold aM aA at *;go_enter func208,ntmps208;go_wp2_with fail;refine(Tv.out).mono ?_;intro e w1 x;obtain⟨rfl,s1,k1⟩:=Oo.out e w1 x;have Oe:=aC (Tu.out w1 s1);have HN:=aC (Qq.out w1 k1);clear x s1 k1 Tv Oo Tu Qq;go_wp2_with fail;refine(Oe.out).mono ?_;intro e w2 x;obtain⟨rfl,c2,f2,u3⟩:=HN.out e w2 x;have HU:=aC u3;clear x u3 Oe HN;have Qc:pl<2000000000:=by omega
 have Jo:=Rj.out _ HU.out;have K7:=Ty.out _ HU.out;have HU2:=HU;have Wr:=aC (X7.out _ HU.out);have Y0:=aC (Km.out _ HU.out);have HE:=aC (fun e w4=>Kk.out _ e w4 HU.out);have Uf:=aC (HNL.out _ HU.out);clear HNL;clear Kk HU Rj Ty X7 Km HU2;generalize hs:mV ar ad X (U.AJ (U.root b) (U.root a))=Q5 at *;clear hs;rw[hd]at Jo;go_wp2_with fail;generalize w2.setCell ⟨pb,0,none⟩ (.int .i64 ((pl:Int)+1))=w3 at *;refine(Uf.out).mono ?_;rintro e w4⟨rfl,Uw⟩;subst w4;go_wp2_with fail;refine(Wr.out).mono ?_;rintro e w4⟨rfl,Uw⟩;subst w4;go_wp2_with fail;refine(Y0.out).mono ?_;intro e w4 y;obtain⟨v,rfl,hq⟩:=HE.out e w4 y;have HF:=aC hq;clear y hq HE Y0 Wr;go_wp2;exact HF.out
def SE(h:aO ar ad X rk U w)(ha:a<U.nodes.length)(hb:b<U.nodes.length)(hp:w.heap[pb]?=some (.cells #[.int .i64 pl] bU (0,0)))(Nb:pl<=1000000000)(he:U.root a≠U.root b)(Mo:¬200<pl+1)(Pk:U.AC (U.root a)=false)(Si:U.AC (U.root b)=false)(Uc:(U.node (U.root a)).name≠(U.node (U.root b)).name) :
  Calls prog 208 #[aM ad a,aM ad b,.pointer (some ⟨pb,0,none⟩)] w (eJ ar ad X pb none w):=by
 have Qn:=h.ok.AK ha;have Qm:=h.ok.AK hb;have Sa:=dX (rk a+1) a w (lt_succ_self _) h ha;have To:∀w1,aO ar ad X rk U w1->Calls prog 44 #[aM ad b] w1 (bG ar ad X rk U b w1):=fun w1 h1=>dX (rk b+1) b w1 (lt_succ_self _) h1 hb;have Ts:∀e w1,bG ar ad X rk U a w e w1->e=.returned (aM ad (U.root a))/\aO ar ad X rk U w1/\Kn (·∈ad) w w1:=fun e w1 x=>⟨x.1,x.2.1,x.2.2.1⟩;have Sc:∀w1,Kn (·∈ad) w w1->∀e w2,bG ar ad X rk U b w1 e w2->e=.returned (aM ad (U.root b))/\w2.cell? ⟨pb,0,none⟩=some (.int .i64 pl)/\w2.frozen? ⟨pb,0,none⟩=false/\eA ar ad X rk U pb pl (U.root a) (U.root b) w (w2.setCell ⟨pb,0,none⟩ (.int .i64 ((pl:Int)+1))):=fun w1 k1 e w2 x=>⟨x.1,iT hp h x.2.1 (k1.trans x.2.2.1)⟩;have Sb:∀w3,eA ar ad X rk U pb pl (U.root a) (U.root b) w w3->(binOp .eql aG (.pointer (some ⟨bH ad (U.root a),0,none⟩)) (.pointer (some ⟨bH ad (U.root b),0,none⟩))).run prog w3=.ok (.bool (decide (U.root a=U.root b))) w3:=fun w3 x=>x.eql Qn Qm;have Tr:∀w3,eA ar ad X rk U pb pl (U.root a) (U.root b) w w3->w3.cell? ⟨pb,0,none⟩=some (.int .i64 ((pl:Int)+1)):=fun w3 x=>by simp[cell?,x.box]
 have Xi:∀w3,eA ar ad X rk U pb pl (U.root a) (U.root b) w w3->Calls prog 45 #[aM ad (U.root a)] w3 fun e w'=>e=.returned (.bool false)/\w'=w3:=fun w3 x=>by rw[<- Pk];exact cH x.sto Qn
 have Xh:∀w3,eA ar ad X rk U pb pl (U.root a) (U.root b) w w3->Calls prog 45 #[aM ad (U.root b)] w3 fun e w'=>e=.returned (.bool false)/\w'=w3:=fun w3 x=>by rw[<- Si];exact cH x.sto Qm
 have Lr:∀w3,eA ar ad X rk U pb pl (U.root a) (U.root b) w w3->w3.cell? ⟨bH ad (U.root a),0,none⟩=some (.string (bs (U.node (U.root a)).name))/\w3.cell? ⟨bH ad (U.root b),0,none⟩=some (.string (bs (U.node (U.root b)).name)):=fun w3 x=>by
  obtain⟨_,_,c1,_⟩:=x.sto.cell Qn;obtain⟨_,_,c2,_⟩:=x.sto.cell Qm;exact⟨c1,c2⟩
 have hd:decide (U.root a=U.root b)=false:=decide_eq_false he;have Ve:¬(200:Int)<(pl:Int)+1:=by omega
 have Yn:=aC Xi;have W9:=aC Xh;have Sv:=aC Lr;clear Xi Xh Lr;have Jp:∀w3,eA ar ad X rk U pb pl (U.root a) (U.root b) w w3->∀n,eJ ar ad X pb none w (.returned (.bool false)) (w3.drewN n):=fun w3 x n=>⟨x.kn.drewN n,inl ⟨rfl,rfl⟩⟩
 have hbq:((bs (U.node (U.root a)).name).toList==(bs (U.node (U.root b)).name).toList)=false:=by
  rw[ByteArray.toList_eq,ByteArray.toList_eq,dD,dD]
  simpa using Uc
 have Kk:=aC Jp;clear Jp;have Tv:=aC Sa;have Tu:=aC To;have Oo:=aC Ts;have Qq:=aC Sc;have Rj:=aC Sb;have Ty:=aC Tr;clear Sa To Ts Sc Sb Tr hp he;generalize hu:eA ar ad X rk U pb pl (U.root a) (U.root b) w=Uu at *;generalize hq:eJ ar ad X pb none w=Q at *;generalize Nk:bG ar ad X rk U a w=Q1 at *;generalize Nc:bG ar ad X rk U b=Q2 at *;clear hq Nk Nc;unfold aM aA at *;go_enter func208,ntmps208;go_wp2_with fail;refine(Tv.out).mono ?_;intro e w1 x;obtain⟨rfl,s1,k1⟩:=Oo.out e w1 x;have Oe:=aC (Tu.out w1 s1);have HN:=aC (Qq.out w1 k1);clear x s1 k1 Tv Oo Tu Qq;go_wp2_with fail;refine(Oe.out).mono ?_;intro e w2 x;obtain⟨rfl,c2,f2,u3⟩:=HN.out e w2 x;have HU:=aC u3;clear x u3 Oe HN;have Qc:pl<2000000000:=by omega
 have Jo:=Rj.out _ HU.out;have K7:=Ty.out _ HU.out;have Ue:=aC (Yn.out _ HU.out);have Oe:=aC (W9.out _ HU.out);obtain⟨n1,n2⟩:=Sv.out _ HU.out;have HE:=aC (Kk.out _ HU.out);clear Kk HU Rj Ty Yn W9 Sv;rw[hd]at Jo;generalize bs (U.node (U.root a)).name=x1 at *;generalize bs (U.node (U.root b)).name=x2 at *;go_wp2_with fail;generalize w2.setCell ⟨pb,0,none⟩ (.int .i64 ((pl:Int)+1))=w3 at *;refine(Ue.out).mono ?_;rintro e w4⟨rfl,Uw⟩;subst w4;go_wp2_with fail;refine(Oe.out).mono ?_;rintro e w4⟨rfl,Uw⟩;subst w4;go_wp2_with fail
 go_quiet (fail)
 go_wp2;exact HE.out _
end
end
end Go.Proofs.YthakgdfmbknakaaGreatDoor
