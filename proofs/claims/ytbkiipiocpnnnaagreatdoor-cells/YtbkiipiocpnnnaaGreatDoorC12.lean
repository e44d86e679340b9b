import Derived.Test.YtbkiipiocpnnnaaGreatDoorC11
set_option linter.all false
set_option maxHeartbeats 40000000
set_option maxRecDepth 100000
open Go.Proofs.Tryz
open Or (inl inr)
open List (append_nil)
namespace Go.Proofs.YtbkiipiocpnnnaaGreatDoor
open Go.RowKit
theorem Enters.always:Enters 103:=enters func103 (by kernel_rfl) rfl
theorem Enters.variable:Enters 145:=enters func145 (by kernel_rfl) rfl
theorem Enters.fun:Enters 147:=enters func147 (by kernel_rfl) rfl
theorem Enters.let:Enters 165:=enters func165 (by kernel_rfl) rfl
theorem Enters.rec:Enters 163:=enters func163 (by kernel_rfl) rfl
theorem Enters.choice:Enters 211:=enters func211 (by kernel_rfl) rfl
theorem Enters.seq:Enters 104:=enters func104 (by kernel_rfl) rfl
theorem Enters.set:Enters 213:=enters func213 (by kernel_rfl) rfl
theorem Enters.calc:Enters 218:=enters func218 (by kernel_rfl) rfl
theorem Enters.fetch:Enters 216:=enters func216 (by kernel_rfl) rfl
theorem Enters.apply:Enters 208:=enters func208 (by kernel_rfl) rfl
theorem Enters.let1:Enters 166:=enters func166 (by kernel_rfl) rfl
theorem Enters.rec1:Enters 164:=enters func164 (by kernel_rfl) rfl
theorem Enters.choice1:Enters 212:=enters func212 (by kernel_rfl) rfl
theorem Enters.seq1:Enters 105:=enters func105 (by kernel_rfl) rfl
theorem Enters.set1:Enters 214:=enters func214 (by kernel_rfl) rfl
theorem Enters.set2:Enters 215:=enters func215 (by kernel_rfl) rfl
theorem Enters.calc1:Enters 219:=enters func219 (by kernel_rfl) rfl
theorem Enters.calc2:Enters 220:=enters func220 (by kernel_rfl) rfl
theorem Enters.fetch1:Enters 217:=enters func217 (by kernel_rfl) rfl
theorem Enters.apply1:Enters 209:=enters func209 (by kernel_rfl) rfl
theorem Enters.apply2:Enters 210:=enters func210 (by kernel_rfl) rfl
theorem Enters.later1:Enters 197:=enters func197 (by kernel_rfl) rfl
theorem Enters.later2:Enters 198:=enters func198 (by kernel_rfl) rfl
theorem Enters.fun1:Enters 148:=enters func148 (by kernel_rfl) rfl
theorem Enters.fun2:Enters 149:=enters func149 (by kernel_rfl) rfl
theorem Enters.newCell:Enters 48:=enters func48 (by kernel_rfl) rfl
theorem Enters.wend:Enters 74:=enters func74 (by kernel_rfl) rfl
theorem Enters.mput:Enters 46:=enters func46 (by kernel_rfl) rfl
theorem Enters.mget:Enters 47:=enters func47 (by kernel_rfl) rfl
def RestM(mb:Nat)(sa ca:List Nat)(w:World)(rv:Value)(m:Mach)(N:Nat)(out:Mach):Prop:=
 (∃c a sc k x v sv kv,Clo w rv 149 [(tyCode,x),(tyScopeP,sv),(tyVal,v),(tyNext,kv)]/\CdX mb w c x/\ScV sa sc sv/\VM mb sa ca w a v/\NxM mb sa ca w k kv/\runR N (m.with a sc).2 (St.ev c (m.with a sc).1 (⟨13,[],[],0,[],[]⟩::k))=some (0,out)) \/
 (∃v x k kv,Clo w rv 198 [(tyNext,kv),(tyVal,x)]/\VM mb sa ca w v x/\NxM mb sa ca w k kv/\runR N m (St.go v k)=some (0,out))
def PostR(B mb N:Nat)(out:Mach)(w0:World)(rv:Value)(w':World):Prop:=
 KR B w0 w'/\∃sa ca m,RM B mb sa ca m w'/\((rv=.nilFunc/\m=out)\/∃N',N'<N/\RestM mb sa ca w' rv m N' out)
theorem PostR.up{B mb N:Nat}{out:Mach}{w u:World}{rv:Value}{w':World}(hk:KR B w u)(h:PostR B mb N out u rv w'):PostR B mb (N+1) out w rv w':=by
 obtain⟨h1,sa,ca,m,h2,h3⟩:=h
 refine⟨hk.trans h1,sa,ca,m,h2,?_⟩
 rcases h3 with h3|⟨N',h4,h5⟩
 ·exact inl h3
 ·exact inr ⟨N',by omega,h5⟩
theorem callsUp{B mb N K:Nat}{out:Mach}{args:Array Value}{w u:World}(hk:KR B w u)(h:Calls prog K args u (RQ (PostR B mb N out u))):Calls prog K args u (RQ (PostR B mb (N+1) out w)):=
 h.mono (by rintro e w'⟨rv,rfl,hp⟩;exact⟨rv,rfl,hp.up hk⟩)
def Go1(v:Value)(args:Array Value)(w:World)(P:Value->World->Prop):Prop:=∃K cs,v=.func (.func K) #[] cs/\Enters K/\Calls prog K (args++cs) w (RQ P)
def EvG(B mb:Nat)(out:Mach)(N:Nat):Prop:=∀(sa ca:List Nat)(m:Mach)(w:World)(c:Cd)(sc:Nat)(k:List Fr)(cv sv kv:Value),RM B mb sa ca m w->CdX mb w c cv->ScV sa sc sv->NxM mb sa ca w k kv->runR N m (St.ev c sc k)=some (0,out)->Go1 cv #[sv,kv] w (PostR B mb N out w)
def GoG(B mb:Nat)(out:Mach)(N:Nat):Prop:=∀(sa ca:List Nat)(m:Mach)(w:World)(r:RV)(k:List Fr)(x kv:Value),RM B mb sa ca m w->VM mb sa ca w r x->NxM mb sa ca w k kv->runR N m (St.go r k)=some (0,out)->Go1 kv #[x] w (PostR B mb N out w)
theorem runR_inr{N:Nat}{m m':Mach}{s s':St}{r:Nat×Mach}(h:runR (N+1) m s=some r)(hs:stepR m s=.inr (m',s')):runR N m' s'=some r:=by
 rw[runR,hs]at h;exact h
theorem runR_inl{N e:Nat}{m:Mach}{s:St}{r:Nat×Mach}(h:runR (N+1) m s=some r)(hs:stepR m s=.inl e):r=(e,m):=by
 rw[runR,hs]at h;exact(Option.some.inj h).symm
theorem Bxs.one{w:World}{t:TypeId}{v:Value}{l:List Nat}(h:Bxs w [(t,v)] l):∃b,l=[b]/\w.heap[b]?=some (.cells #[v] t (0,0)):=by
 match l,h with
 |[b],h=>exact⟨b,rfl,h.1⟩
theorem Bxs.two{w:World}{t t2:TypeId}{v v2:Value}{l:List Nat}(h:Bxs w [(t,v),(t2,v2)] l):∃b b2,l=[b,b2]/\w.heap[b]?=some (.cells #[v] t (0,0))/\w.heap[b2]?=some (.cells #[v2] t2 (0,0)):=by
 match l,h with
 |[b,b2],h=>exact⟨b,b2,rfl,h.1,h.2.2.1⟩
theorem Bxs.three{w:World}{t t2 t3:TypeId}{v v2 v3:Value}{l:List Nat}(h:Bxs w [(t,v),(t2,v2),(t3,v3)] l):∃b b2 b3,l=[b,b2,b3]/\w.heap[b]?=some (.cells #[v] t (0,0))/\w.heap[b2]?=some (.cells #[v2] t2 (0,0))/\w.heap[b3]?=some (.cells #[v3] t3 (0,0)):=by
 match l,h with
 |[b,b2,b3],h=>exact⟨b,b2,b3,rfl,h.1,h.2.2.1,h.2.2.2.2.1⟩
theorem Bxs.four{w:World}{t t2 t3 t4:TypeId}{v v2 v3 v4:Value}{l:List Nat}(h:Bxs w [(t,v),(t2,v2),(t3,v3),(t4,v4)] l):∃b b2 b3 b4,l=[b,b2,b3,b4]/\w.heap[b]?=some (.cells #[v] t (0,0))/\w.heap[b2]?=some (.cells #[v2] t2 (0,0))/\w.heap[b3]?=some (.cells #[v3] t3 (0,0))/\w.heap[b4]?=some (.cells #[v4] t4 (0,0)):=by
 match l,h with
 |[b,b2,b3,b4],h=>exact⟨b,b2,b3,b4,rfl,h.1,h.2.2.1,h.2.2.2.2.1,h.2.2.2.2.2.2.1⟩
theorem fxCode:Fixed tyCode:=by unfold Fixed;decide
theorem fxNext:Fixed tyNext:=by unfold Fixed;decide
theorem fxScP:Fixed tyScopeP:=by unfold Fixed;decide
theorem fxVal:Fixed tyVal:=by unfold Fixed;decide
theorem fxOper:Fixed tyOper:=by unfold Fixed;decide
theorem fxStep:Fixed 1:=by unfold Fixed;decide
theorem fxInt:Fixed 3:=by unfold Fixed;decide
theorem NxM.form{mb:Nat}{sa ca:List Nat}{w:World}{k:List Fr}{v:Value}(h:NxM mb sa ca w k v):∃K cs,v=.func (.func K) #[] cs/\Enters K:=by
 cases k with
 |nil=>obtain⟨h0,l,rfl,_⟩:=h;exact⟨_,_,rfl,h0⟩
 |cons f k=>obtain⟨_,_,_,_,_,_,_,_,_,_,_,h0,l,rfl,_⟩:=h;exact⟨_,_,rfl,h0⟩
theorem Each.one{α β:Type}{R:α->β->Prop}{ps:List α}{x:β}(h:Each R ps [x]):∃a,ps=[a]/\R a x:=by
 match ps,h with
 |[a],h=>exact⟨a,rfl,h.1⟩
theorem Each.two{α β:Type}{R:α->β->Prop}{ps:List α}{x y:β}(h:Each R ps [x,y]):∃a b,ps=[a,b]/\R a x/\R b y:=by
 match ps,h with
 |[a,b],h=>exact⟨a,b,rfl,h.1,h.2.1⟩
theorem Each.three{α β:Type}{R:α->β->Prop}{ps:List α}{x y z:β}(h:Each R ps [x,y,z]):∃a b c,ps=[a,b,c]/\R a x/\R b y/\R c z:=by
 match ps,h with
 |[a,b,c],h=>exact⟨a,b,c,rfl,h.1,h.2.1,h.2.2.1⟩
theorem CdM.form{mb:Nat}{w:World}{d:Nat}{c:Cd}{v:Value}(h:CdM mb w d c v):∃K cs,v=.func (.func K) #[] cs/\Enters K:=by
 cases d with
 |zero=>exact h.elim
 |succ d=>obtain⟨_,_,_,_,_,_,h0,l,rfl,_⟩:=h;exact⟨_,_,rfl,h0⟩
theorem out_mem{B mb:Nat}{sa ca:List Nat}{m:Mach}{w:World}(hM:RM B mb sa ca m w):∀(n sc:Nat)(p:Option Addr),ScV sa sc (.pointer p)->¬(m.out n sc).tag=10->∃y,(∀u:World,HEq u w->OutC u n p y)/\VM mb sa ca w (m.out n sc) y:=by
 intro n
 induction n with
 |zero=>
  intro sc p hS ht
  rw[Mach.out]at ht ⊢
  by_cases h0:sc=0
  ·rw[if_pos h0]at ht;exact absurd rfl ht
  rw[if_neg h0]at ht ⊢
  cases hq:m.scopes[sc-1]? with
  |none=>rw[hq]at ht;exact absurd rfl ht
  |some q=>
   obtain⟨b,x,ov,q1,q2,q3,q4⟩:=hM.scope _ q.1 q.2 hq
   refine⟨x,fun u hu=>?_,q3⟩
   rcases hS with⟨h1,_⟩|⟨b',_,h2,h3⟩
   ·exact absurd h1 h0
   ·rw[q1]at h2
    cases h2
    refine⟨b,by simpa [ptrV]using h3,?_⟩
    rw[cell_of (c:=#[x,ov]) (t:=tyScope) (f:=(0,0)) (by rw[hu.heap];exact q2)];rfl
 |succ n ih=>
  intro sc p hS ht
  rw[Mach.out]at ht ⊢
  by_cases h0:sc=0
  ·rw[if_pos h0]at ht;exact absurd rfl ht
  rw[if_neg h0]at ht ⊢
  cases hq:m.scopes[sc-1]? with
  |none=>
   rw[hq]at ht
   exfalso
   refine ht ?_
   show (m.out n 0).tag=10
   cases n with
   |zero=>rw[Mach.out];rfl
   |succ n=>rw[Mach.out];rfl
  |some q=>
   rw[hq]at ht
   obtain⟨b,x,ov,q1,q2,q3,q4⟩:=hM.scope _ q.1 q.2 hq
   obtain⟨pp,rfl⟩:=q4.ptr
   obtain⟨y,y1,y2⟩:=ih q.2 pp q4 ht
   refine⟨y,fun u hu=>?_,y2⟩
   rcases hS with⟨h1,_⟩|⟨b',_,h2,h3⟩
   ·exact absurd h1 h0
   ·rw[q1]at h2
    cases h2
    refine⟨b,pp,by simpa [ptrV]using h3,?_,y1 u hu⟩
    rw[cell_of (c:=#[x,.pointer pp]) (t:=tyScope) (f:=(0,0)) (by rw[hu.heap];exact q2)];rfl
section
variable {B mb N:Nat}{out:Mach}{sa ca:List Nat}{m:Mach}{w u:World}{c:Cd}{sc:Nat}{k:List Fr}{cv sv kv:Value}
structure TwoB(B:Nat)(w u:World)(p:Option Addr)(kv:Value):Prop where
 kr:KR B w u
 sc:u.heap[w.heap.size]?=some (.cells #[.pointer p] tyScopeP (0,0))
 nx:u.heap[w.heap.size+1]?=some (.cells #[kv] tyNext (0,0))
 old:∀k,k<w.heap.size->u.heap[k]?=w.heap[k]?
 size:u.heap.size=w.heap.size+2
theorem twoB(B:Nat)(w:World)(p:Option Addr)(kv:Value):TwoB B w ((w.alloc (.cells #[.pointer p] tyScopeP)).alloc (.cells #[kv] tyNext)) p kv:=by
 have e1:PEq (w.alloc (.cells #[.pointer p] tyScopeP)) w (.cells #[.pointer p] tyScopeP (0,0)):=PEq.alloc _ _
 have e2:PEq ((w.alloc (.cells #[.pointer p] tyScopeP)).alloc (.cells #[kv] tyNext)) (w.alloc (.cells #[.pointer p] tyScopeP)) (.cells #[kv] tyNext (0,0)):=PEq.alloc _ _
 have s1:=push_size e1
 refine⟨((KR.refl B w).push e1).push e2,(push_old e2 (by omega)).trans (push_new e1),by rw[<- s1];exact push_new e2,fun k hk=>(push_old e2 (by omega)).trans (push_old e1 hk),by rw[push_size e2,s1]⟩
theorem TwoB.rm{p:Option Addr}{kv:Value}(h:TwoB B w u p kv)(hr:RM B mb sa ca m w):RM B mb sa ca m u:=hr.more (by rw[h.size];omega) h.old h.kr.so
theorem ev_step(hE:EvG B mb out N)(hG:GoG B mb out N):EvG B mb out (N+1):=by
 intro sa ca m w c sc k cv sv kv hM hC hS hK hr
 obtain⟨d,hC⟩:=hC
 cases d with
 |zero=>exact hC.elim
 |succ d=>
 obtain⟨⟨hin,hvar0⟩,xs,K,bl,hx,hf,hclo⟩:=hC
 obtain⟨hEK,l,rfl,hb⟩:=hclo
 obtain⟨p,rfl⟩:=hS.ptr
 obtain⟨K',cs',rfl,hEk⟩:=hK.form
 obtain⟨op,n,nm,ps,pts⟩:=c
 refine⟨K,(l.map ptrV).toArray,rfl,hEK,?_⟩
 unfold formOf at hf
 split at hf<;>cases hf
 ·
  rename_i hop
  have hop:op=0:=hop
  subst hop
  obtain⟨b1,rfl,e1⟩:=hb.one
  have hr':=runR_inr hr (m':=m) (s':=St.go (RV.num n) k) rfl
  obtain⟨K2,cs2,hkv,_,hcall⟩:=hG sa ca m w (RV.num n) k (numV n) _ hM (inl ⟨rfl,rfl,hin⟩) hK hr'
  cases hkv
  exact w_always ((cell_of e1 0).trans rfl) hEk (callsUp (KR.refl B w) hcall)
 ·
  rename_i hop
  have hop:op=1:=hop
  subst hop
  obtain⟨b1,rfl,e1⟩:=hb.one
  have hr':=runR_inr hr (m':=m) (s':=St.go (RV.bool (decide (n=1))) k) rfl
  obtain⟨K2,cs2,hkv,_,hcall⟩:=hG sa ca m w (RV.bool (decide (n=1))) k (boolV (decide (n=1))) _ hM (inr (inl ⟨rfl,by by_cases hn:n=1<;>simp[RV.bool,hn]⟩)) hK hr'
  cases hkv
  exact w_always ((cell_of e1 0).trans rfl) hEk (callsUp (KR.refl B w) hcall)
 ·
  rename_i hop
  have hop:op=2:=hop
  subst hop
  obtain⟨b1,rfl,e1⟩:=hb.one
  have hr':=runR_inr hr (m':=m) (s':=St.go (RV.unit) k) rfl
  obtain⟨K2,cs2,hkv,_,hcall⟩:=hG sa ca m w (RV.unit) k (unitV) _ hM (inr (inr (inl ⟨rfl,rfl⟩))) hK hr'
  cases hkv
  exact w_always ((cell_of e1 0).trans rfl) hEk (callsUp (KR.refl B w) hcall)
 ·
  rename_i hop
  have hop:op=3:=hop
  subst hop
  obtain⟨b1,rfl,e1⟩:=hb.one
  by_cases ht:(m.out n.toNat sc).tag=10
  ·have:=runR_inl hr (e:=3) (if_pos ht);cases this
  have hr':=runR_inr hr (m':=m) (s':=St.go (m.out n.toNat sc) k) (if_neg ht)
  have hn0:0<=n/\n.toNat<=1000000:=hvar0 rfl
  obtain⟨y,hy1,hy2⟩:=out_mem hM n.toNat sc p hS ht
  have hn:(.int .i64 n:Value)=.int .i64 (n.toNat:Nat):=by congr 1;omega
  refine w_var (y:=y) (n:=n) ((cell_of e1 0).trans rfl) hEk (fun u hu=>?_) (fun u hu=>?_)
  ·rw[hn]
   exact outwards_any hn0.2 (hy1 u hu)
  ·have hk:KR B w u:=(KR.refl B w).heap hu
   obtain⟨K2,cs2,hkv,_,hcall⟩:=hG sa ca m u (m.out n.toNat sc) k y _ (hM.heap hu) (hy2.stay hk) (hK.stay hk) hr'
   cases hkv
   exact callsUp hk hcall
 ·
  rename_i x hop
  have hop:op=5:=hop
  subst hop
  obtain⟨a,rfl,ha⟩:=hx.one
  obtain⟨b1,rfl,e1⟩:=hb.one
  have hr':=runR_inr hr (m':=m) (s':=St.go (RV.fn a sc) k) rfl
  have e2:PEq (w.alloc (.cells #[.pointer p] tyScopeP)) w (.cells #[.pointer p] tyScopeP (0,0)):=PEq.alloc _ _
  have hk:=(KR.refl B w).push e2
  have hv:VM mb sa ca (w.alloc (.cells #[.pointer p] tyScopeP)) (RV.fn a sc) (.iface tyFn (.func (.func 148) #[] #[ptrV b1,ptrV w.heap.size])):=
   inr (inr (inr (inl ⟨rfl,d,a,x,.pointer p,fnV 148 [b1,w.heap.size],rfl,ha.kept hk,hS,⟨Enters.fun1,_,rfl,(push_old e2 (lt_of_heap e1)).trans e1,fxCode,push_new e2,fxScP,trivial⟩,rfl⟩)))
  obtain⟨K2,cs2,hkv,_,hcall⟩:=hG sa ca m _ (RV.fn a sc) k _ _ (hM.push e2) hv (hK.stay hk) hr'
  cases hkv
  exact w_fun hEk (callsUp hk hcall)
 ·
  rename_i x y hop
  have hop:op=6:=hop
  subst hop
  obtain⟨a,a2,rfl,ha,ha2⟩:=hx.two
  obtain⟨b1,b2,rfl,e1,e2⟩:=hb.two
  have hr':=runR_inr hr (m':=m) (s':=St.ev a sc (⟨2,[a2],[],sc,[],[]⟩::k)) rfl
  have hT:=twoB B w p (.func (.func K') #[] cs')
  have hnx:NxM mb sa ca _ (⟨2,[a2],[],sc,[],[]⟩::k) (fnV 166 [b2,w.heap.size,w.heap.size+1]):=
   ⟨[y],[],.pointer p,.func (.func K') #[] cs',_,_,⟨⟨d,ha2.kept hT.kr⟩,trivial⟩,trivial,hS,hK.stay hT.kr,rfl,Enters.let1,_,rfl,(hT.old _ (lt_of_heap e2)).trans e2,fxCode,hT.sc,fxScP,hT.nx,fxNext,trivial⟩
  obtain⟨K2,cs2,hcv,hE2,hcall⟩:=hE sa ca m _ a sc _ x _ _ (hT.rm hM) ⟨d,ha.kept hT.kr⟩ hS hnx hr'
  subst hcv
  exact w_let ((cell_of e1 0).trans rfl) hE2 (callsUp hT.kr hcall)
 ·
  rename_i x y hop
  have hop:op=7:=hop
  subst hop
  obtain⟨a,a2,rfl,ha,ha2⟩:=hx.two
  obtain⟨b1,b2,rfl,e1,e2⟩:=hb.two
  have hr':=runR_inr hr (m':=(m.with RV.none sc).2) (s':=St.ev a (m.with RV.none sc).1 (⟨3,[a2],[],(m.with RV.none sc).1,[],[]⟩::k)) rfl
  obtain⟨Ka,csa,hxa,hEa⟩:=CdM.form ha
  subst hxa
  refine w_rec (K:=Ka) (cs:=csa) ((cell_of e1 0).trans rfl) hEa (fun u hu huo=>?_)
  have q1:PEq (w.alloc (.cells #[.func (.func K') #[] cs'] tyNext)) w (.cells #[.func (.func K') #[] cs'] tyNext (0,0)):=PEq.alloc _ _
  have q2:PEq ((w.alloc (.cells #[.func (.func K') #[] cs'] tyNext)).alloc (.cells #[.nilIface,.pointer p] tyScope)) (w.alloc (.cells #[.func (.func K') #[] cs'] tyNext)) (.cells #[.nilIface,.pointer p] tyScope (0,0)):=PEq.alloc _ _
  have q3:PEq u ((w.alloc (.cells #[.func (.func K') #[] cs'] tyNext)).alloc (.cells #[.nilIface,.pointer p] tyScope)) (.cells #[ptrV (w.heap.size+1)] tyScopeP (0,0)):=⟨hu,huo.os,huo.tape,huo.output⟩
  have s1:=push_size q1
  have s2:=push_size q2
  have k1:=(KR.refl B w).push q1
  have k2:=k1.push q2
  have k3:=k2.push q3
  have m1:=hM.push q1
  have hS1:ScV sa sc (.pointer p):=hS
  have m2:RM B mb (sa++[w.heap.size+1]) ca (m.with RV.none sc).2 ((w.alloc (.cells #[.func (.func K') #[] cs'] tyNext)).alloc (.cells #[.nilIface,.pointer p] tyScope)):=by
   have:=m1.with (v:=RV.none) (x:=.nilIface) (inr (inr (inr (inr (inr (inr (inr (inr ⟨rfl,rfl⟩)))))))) hS1 q2
   rw[s1]at this;exact this
  have m3:=m2.push q3
  have hlen:(m.with RV.none sc).1=sa.length+1:=by show m.scopes.length+1=_;rw[hM.slen]
  have hsc:ScV (sa++[w.heap.size+1]) (m.with RV.none sc).1 (ptrV (w.heap.size+1)):=by
   rw[hlen];exact inr ⟨_,by omega,by simp,rfl⟩
  have hkk:NxM mb (sa++[w.heap.size+1]) ca u k (.func (.func K') #[] cs'):=by
   have:=NxM.kept k3 [w.heap.size+1] [] k _ hK
   rw[append_nil]at this;exact this
  have o1:u.heap[w.heap.size]?=some (.cells #[.func (.func K') #[] cs'] tyNext (0,0)):=(push_old q3 (by omega)).trans ((push_old q2 (by omega)).trans (push_new q1))
  have o3:u.heap[w.heap.size+1+1]?=some (.cells #[ptrV (w.heap.size+1)] tyScopeP (0,0)):=by
   have:=push_new q3
   rw[s2,s1]at this;exact this
  have hnx:NxM mb (sa++[w.heap.size+1]) ca u (⟨3,[a2],[],(m.with RV.none sc).1,[],[]⟩::k) (fnV 164 [w.heap.size+1+1,b2,w.heap.size]):=
   ⟨[y],[],ptrV (w.heap.size+1),.func (.func K') #[] cs',164,[(tyScopeP,ptrV (w.heap.size+1)),(tyCode,y),(tyNext,.func (.func K') #[] cs')],⟨⟨d,ha2.kept k3⟩,trivial⟩,trivial,hsc,hkk,(by unfold frOf;exact if_neg (show ¬m.scopes.length+1=0 by omega)),Enters.rec1,_,rfl,o3,fxScP,(k3.block _ _ _ _ fxCode e2).trans e2,fxCode,o1,fxNext,trivial⟩
  obtain⟨K2,cs2,hcv,hE2,hcall⟩:=hE _ ca _ u a _ _ (.func (.func Ka) #[] csa) _ _ m3 ⟨d,ha.kept k3⟩ hsc hnx hr'
  cases hcv
  exact callsUp k3 hcall
 ·
  rename_i x y z hop
  have hop:op=8:=hop
  subst hop
  obtain⟨a,a2,a3,rfl,ha,ha2,ha3⟩:=hx.three
  obtain⟨b1,b2,b3,rfl,e1,e2,e3⟩:=hb.three
  have hr':=runR_inr hr (m':=m) (s':=St.ev a sc (⟨4,[a2,a3],[],sc,[],[]⟩::k)) rfl
  have hT:=twoB B w p (.func (.func K') #[] cs')
  have hnx:NxM mb sa ca _ (⟨4,[a2,a3],[],sc,[],[]⟩::k) (fnV 212 [b2,w.heap.size,w.heap.size+1,b3]):=
   ⟨[y,z],[],.pointer p,.func (.func K') #[] cs',_,_,⟨⟨d,ha2.kept hT.kr⟩,⟨d,ha3.kept hT.kr⟩,trivial⟩,trivial,hS,hK.stay hT.kr,rfl,Enters.choice1,_,rfl,(hT.old _ (lt_of_heap e2)).trans e2,fxCode,hT.sc,fxScP,hT.nx,fxNext,(hT.old _ (lt_of_heap e3)).trans e3,fxCode,trivial⟩
  obtain⟨K2,cs2,hcv,hE2,hcall⟩:=hE sa ca m _ a sc _ x _ _ (hT.rm hM) ⟨d,ha.kept hT.kr⟩ hS hnx hr'
  subst hcv
  exact w_choice ((cell_of e1 0).trans rfl) hE2 (callsUp hT.kr hcall)
 ·
  rename_i x y hop
  have hop:op=9:=hop
  subst hop
  obtain⟨a,a2,rfl,ha,ha2⟩:=hx.two
  obtain⟨b1,b2,rfl,e1,e2⟩:=hb.two
  have hr':=runR_inr hr (m':=m) (s':=St.ev a sc (⟨5,[a2],[],sc,[],[]⟩::k)) rfl
  have hT:=twoB B w p (.func (.func K') #[] cs')
  have hnx:NxM mb sa ca _ (⟨5,[a2],[],sc,[],[]⟩::k) (fnV 105 [b2,w.heap.size,w.heap.size+1]):=
   ⟨[y],[],.pointer p,.func (.func K') #[] cs',_,_,⟨⟨d,ha2.kept hT.kr⟩,trivial⟩,trivial,hS,hK.stay hT.kr,rfl,Enters.seq1,_,rfl,(hT.old _ (lt_of_heap e2)).trans e2,fxCode,hT.sc,fxScP,hT.nx,fxNext,trivial⟩
  obtain⟨K2,cs2,hcv,hE2,hcall⟩:=hE sa ca m _ a sc _ x _ _ (hT.rm hM) ⟨d,ha.kept hT.kr⟩ hS hnx hr'
  subst hcv
  exact w_seq ((cell_of e1 0).trans rfl) hE2 (callsUp hT.kr hcall)
 ·
  rename_i x y hop
  have hop:op=10:=hop
  subst hop
  obtain⟨a,a2,rfl,ha,ha2⟩:=hx.two
  obtain⟨b1,b2,rfl,e1,e2⟩:=hb.two
  have hr':=runR_inr hr (m':=m) (s':=St.ev a sc (⟨6,[a2],[],sc,[],[]⟩::k)) rfl
  have hT:=twoB B w p (.func (.func K') #[] cs')
  have hnx:NxM mb sa ca _ (⟨6,[a2],[],sc,[],[]⟩::k) (fnV 214 [b2,w.heap.size,w.heap.size+1]):=
   ⟨[y],[],.pointer p,.func (.func K') #[] cs',_,_,⟨⟨d,ha2.kept hT.kr⟩,trivial⟩,trivial,hS,hK.stay hT.kr,rfl,Enters.set1,_,rfl,(hT.old _ (lt_of_heap e2)).trans e2,fxCode,hT.sc,fxScP,hT.nx,fxNext,trivial⟩
  obtain⟨K2,cs2,hcv,hE2,hcall⟩:=hE sa ca m _ a sc _ x _ _ (hT.rm hM) ⟨d,ha.kept hT.kr⟩ hS hnx hr'
  subst hcv
  exact w_set ((cell_of e1 0).trans rfl) hE2 (callsUp hT.kr hcall)
 ·
  rename_i x y hop
  have hop:op=11:=hop
  subst hop
  obtain⟨a,a2,rfl,ha,ha2⟩:=hx.two
  obtain⟨b1,b2,b3,rfl,e1,e2,e3⟩:=hb.three
  have hr':=runR_inr hr (m':=m) (s':=St.ev a sc (⟨9,[a2],[],sc,[],nm⟩::k)) rfl
  have hT:=twoB B w p (.func (.func K') #[] cs')
  have hnx:NxM mb sa ca _ (⟨9,[a2],[],sc,[],nm⟩::k) (fnV 219 [b2,w.heap.size,w.heap.size+1,b3]):=
   ⟨[y],[],.pointer p,.func (.func K') #[] cs',_,_,⟨⟨d,ha2.kept hT.kr⟩,trivial⟩,trivial,hS,hK.stay hT.kr,rfl,Enters.calc1,_,rfl,(hT.old _ (lt_of_heap e2)).trans e2,fxCode,hT.sc,fxScP,hT.nx,fxNext,(hT.old _ (lt_of_heap e3)).trans e3,fxOper,trivial⟩
  obtain⟨K2,cs2,hcv,hE2,hcall⟩:=hE sa ca m _ a sc _ x _ _ (hT.rm hM) ⟨d,ha.kept hT.kr⟩ hS hnx hr'
  subst hcv
  exact w_calc ((cell_of e1 0).trans rfl) hE2 (callsUp hT.kr hcall)
 ·
  rename_i x hop
  have hop:op=12:=hop
  subst hop
  obtain⟨a,rfl,ha⟩:=hx.one
  obtain⟨b1,rfl,e1⟩:=hb.one
  have hr':=runR_inr hr (m':=m) (s':=St.ev a sc (⟨8,[],[],sc,[],[]⟩::k)) rfl
  have e2:PEq (w.alloc (.cells #[.func (.func K') #[] cs'] tyNext)) w (.cells #[.func (.func K') #[] cs'] tyNext (0,0)):=PEq.alloc _ _
  have hk:=(KR.refl B w).push e2
  have hnx:NxM mb sa ca (w.alloc (.cells #[.func (.func K') #[] cs'] tyNext)) (⟨8,[],[],sc,[],[]⟩::k) (fnV 217 [w.heap.size]):=
   ⟨[],[],.pointer p,.func (.func K') #[] cs',_,_,trivial,trivial,hS,hK.stay hk,rfl,Enters.fetch1,_,rfl,push_new e2,fxNext,trivial⟩
  obtain⟨K2,cs2,hcv,hE2,hcall⟩:=hE sa ca m _ a sc _ x _ _ (hM.push e2) ⟨d,ha.kept hk⟩ hS hnx hr'
  subst hcv
  exact w_fetch ((cell_of e1 0).trans rfl) hE2 (callsUp hk hcall)
 ·
  rename_i x y hop
  have hop:op=13:=hop
  subst hop
  obtain⟨a,a2,rfl,ha,ha2⟩:=hx.two
  obtain⟨b1,b2,b3,rfl,e1,e2,e3⟩:=hb.three
  have hr':=runR_inr hr (m':=m) (s':=St.ev a sc (⟨0,[a2],[],sc,[],[]⟩::k)) rfl
  have hT:=twoB B w p (.func (.func K') #[] cs')
  have hnx:NxM mb sa ca _ (⟨0,[a2],[],sc,[],[]⟩::k) (fnV 209 [b2,w.heap.size,b3,w.heap.size+1]):=
   ⟨[y],[],.pointer p,.func (.func K') #[] cs',_,_,⟨⟨d,ha2.kept hT.kr⟩,trivial⟩,trivial,hS,hK.stay hT.kr,rfl,Enters.apply1,_,rfl,(hT.old _ (lt_of_heap e2)).trans e2,fxCode,hT.sc,fxScP,(hT.old _ (lt_of_heap e3)).trans e3,fxStep,hT.nx,fxNext,trivial⟩
  obtain⟨K2,cs2,hcv,hE2,hcall⟩:=hE sa ca m _ a sc _ x _ _ (hT.rm hM) ⟨d,ha.kept hT.kr⟩ hS hnx hr'
  subst hcv
  exact w_apply ((cell_of e1 0).trans rfl) hE2 (callsUp hT.kr hcall)
end
end Go.Proofs.YtbkiipiocpnnnaaGreatDoor
