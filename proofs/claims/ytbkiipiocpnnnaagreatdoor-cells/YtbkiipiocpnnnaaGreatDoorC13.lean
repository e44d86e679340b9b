import Derived.Test.YtbkiipiocpnnnaaGreatDoorC12
import Derived.Laws.BytesString
import Derived.RegionTactic
import Derived.Defers
set_option linter.all false
set_option maxHeartbeats 40000000
set_option maxRecDepth 100000
open Go.Proofs.Tryz
open Or (inl inr)
open Nat (le_refl le_trans)
open List (append_nil length_append length_cons length_map map_cons)
namespace Go.Proofs.YtbkiipiocpnnnaaGreatDoor
open Go.RowKit
theorem KR.cell{B:Nat}{w u:World}(hk:KR B w u){b:Nat}{t:TypeId}{v:Value}(ft:Fixed t)(e:w.heap[b]?=some (.cells #[v] t (0,0))):u.cell? ⟨b,0,none⟩=some v:=(cell_of ((hk.block _ _ _ _ ft e).trans e) 0).trans rfl
theorem cell1{w:World}{b:Nat}{t:TypeId}{v:Value}(e:w.heap[b]?=some (.cells #[v] t (0,0))):w.cell? ⟨b,0,none⟩=some v:=(cell_of e 0).trans rfl
theorem Each.nil{α β:Type}{R:α->β->Prop}{ps:List α}(h:Each R ps ([]:List β)):ps=[]:=by
 match ps,h with
 |[],_=>rfl
theorem own_not{B:Nat}{w:World}{v:Value}{n:Nat}{xs:List Value}(h:w.ownsRow B tyRB 1 v n xs){k:Nat}{c:Array Value}{t:TypeId}{f:Nat×Nat}(ht:t≠tyRB)(hc:w.heap[k]?=some (.cells c t f))(e:v.ownBlock=some k):False:=by
 rcases h.2 with⟨rfl,_⟩|⟨g,cap,cur,rfl,_,hgg,_⟩
 ·simp[Value.ownBlock]at e
 ·have:g=k:=by simpa [Value.ownBlock]using e
  subst this
  rw[hgg]at hc;exact ht (cells_ty hc).symm
theorem own_low{B:Nat}{w:World}{v:Value}{n:Nat}{xs:List Value}(h:w.ownsRow B tyRB 1 v n xs){k:Nat}(hk:k<B)(e:v.ownBlock=some k):False:=by
 rcases h.2 with⟨rfl,_⟩|⟨g,cap,cur,rfl,hg,_⟩
 ·simp[Value.ownBlock]at e
 ·have:g=k:=by simpa [Value.ownBlock]using e
  omega
section
variable {B mb N:Nat}{out:Mach}{sa ca:List Nat}{m:Mach}{w u:World}{c:Cd}{sc:Nat}{k:List Fr}{cv sv kv:Value}
theorem RM.tick(h:RM B mb sa ca m w)(hd:m.done≠m.most):∃i0 o0,w.heap[mb]?=some (.cells #[i0,o0,.int .i64 m.most,.int .i64 m.done] tyMach (0,0))/\∀u,Upd w u mb (.cells #[i0,o0,.int .i64 m.most,.int .i64 (m.done+1:Nat)] tyMach (0,0))->KR B w u/\RM B mb sa ca { m with done:=m.done+1 } u:=by
 obtain⟨ov,h1,h2⟩:=h.mach
 refine⟨_,_,h1,fun u hu=>?_⟩
 have hk:KR B w u:=(KR.refl B w).turn h.lowm h1 (fun hf=>hf.2.2.1 rfl) hu.size hu.rest hu.so
 have hne:∀(k:Nat)(c:Array Value)(t:TypeId)(f:Nat×Nat),t≠tyMach->w.heap[k]?=some (.cells c t f)->u.heap[k]?=w.heap[k]?:=fun k c t f ht hc=>hu.rest k fun e=>by
  subst e;rw[h1]at hc;exact ht (cells_ty hc).symm
 refine⟨hk,h.field hk rfl rfl hu.here (ownsRow_kept h2 fun k c f _ hc=>hne k c _ f (by decide) hc) (fun k c t f ht hc=>hne k c t f (by rcases ht with rfl|rfl<;>decide) hc) h.inp ?_ ?_ h.mst⟩
 ·have:=h.out;show m.output.length<=m.done+1;omega
 ·have:=h.don;show m.done+1<=m.most;omega
theorem VM.cell8{r:RV}{v:Value}(h:VM mb sa ca w r v)(ht:r.tag=8):∃b,ca[r.n.toNat]?=some b/\v=.iface tyCellP (ptrV b):=by
 rcases h with h|h|h|h|h|h|h|h|h
 all_goals first|exact h.2|(have:=h.1;omega)
theorem VM.num0{r:RV}{v:Value}(h:VM mb sa ca w r v)(ht:r.tag=0):v=numV r.n:=by
 rcases h with h|h|h|h|h|h|h|h|h
 all_goals first|exact h.2.1|(have:=h.1;omega)
theorem call_of{K':Nat}{cs':Array Value}{rf r:RV}{x y:Value}(hG:GoG B mb out N)(hif:IfV x)(hEk:Enters K')(hV:VM mb sa ca w r x)(hT:NxM mb sa ca w k (.func (.func K') #[] cs'))(hvf:VM mb sa ca w rf y)(houtb:m.output.length<=m.done)
  (hl:∀e,call { m with done:=m.done+1 } rf r k=.inl e->(0,out)=(e,m)) (hrr:∀m' s',call { m with done:=m.done+1 } rf r k=.inr (m',s')->runR N m' s'=some (0,out)) :
  ∃K2 fs2 cs2,y=.iface tyFn (.func (.func K2) fs2 cs2)/\Enters K2/\∀u,KR B w u->RM B mb sa ca { m with done:=m.done+1 } u->Calls prog K2 (fs2++(#[x,.func (.func K') #[] cs']++cs2)) u (RQ (PostR B mb (N+1) out w)):=by
 rcases hvf with h|h|h|⟨ht,n,c,xc,sv,fv,hcd,hxc,hsv,⟨hEf,l,rfl,hb⟩,rfl⟩|⟨ht,rfl⟩|⟨ht,rfl⟩|⟨ht,rfl⟩|h|h
 ·have:=hl 3 (by unfold call;rw[if_neg (by omega),if_neg (by omega),if_neg (by omega),if_neg (by omega)]);cases this
 ·have:=hl 3 (by unfold call;rw[if_neg (by omega),if_neg (by omega),if_neg (by omega),if_neg (by omega)]);cases this
 ·have:=hl 3 (by unfold call;rw[if_neg (by omega),if_neg (by omega),if_neg (by omega),if_neg (by omega)]);cases this
 ·
  obtain⟨b1,b2,rfl,e1,e2⟩:=hb.two
  refine⟨_,_,_,rfl,hEf,fun u ku mu=>?_⟩
  have hr':=hrr _ _ (by unfold call;rw[if_pos ht,hcd])
  have q1:PEq (u.alloc (.cells #[x] tyVal)) u (.cells #[x] tyVal (0,0)):=PEq.alloc _ _
  have q2:PEq ((u.alloc (.cells #[x] tyVal)).alloc (.cells #[.func (.func K') #[] cs'] tyNext)) (u.alloc (.cells #[x] tyVal)) (.cells #[.func (.func K') #[] cs'] tyNext (0,0)):=PEq.alloc _ _
  have s1:=push_size q1
  have k1:=(KR.refl B u).push q1
  have k2:=k1.push q2
  have kw:=ku.trans k2
  have o1:((u.alloc (.cells #[x] tyVal)).alloc (.cells #[.func (.func K') #[] cs'] tyNext)).heap[u.heap.size]?=some (.cells #[x] tyVal (0,0)):=(push_old q2 (by omega)).trans (push_new q1)
  have o2:((u.alloc (.cells #[x] tyVal)).alloc (.cells #[.func (.func K') #[] cs'] tyNext)).heap[u.heap.size+1]?=some (.cells #[.func (.func K') #[] cs'] tyNext (0,0)):=by rw[<- s1];exact push_new q2
  exact w_fun11 hif ⟨kw,sa,ca,_,(mu.push q1).push q2,inr ⟨N,by omega,inl ⟨c,r,rf.sc,k,xc,x,sv,_,⟨Enters.fun2,[b1,b2,u.heap.size,u.heap.size+1],rfl,(kw.block _ _ _ _ fxCode e1).trans e1,fxCode,(kw.block _ _ _ _ fxScP e2).trans e2,fxScP,o1,fxVal,o2,fxNext,trivial⟩,⟨n,hxc.kept kw⟩,hsv,hV.stay kw,hT.stay kw,hr'⟩⟩⟩
 ·
  refine⟨_,_,_,rfl,Enters.mput,fun u ku mu=>?_⟩
  by_cases h0:r.tag=0
  ·have hr':=hrr _ _ (by unfold call;rw[if_neg (by omega),if_pos ht,if_pos h0])
   obtain rfl:=hV.num0 h0
   obtain⟨ov,h1,h2⟩:=mu.mach
   have hol:=mu.out
   have hdl:=mu.don
   have hml:=mu.mst
   refine w_put (xs:=m.output.map fun c=>.int .u8 c.toNat) h1 mu.lowb (by rw[length_map];exact h2) (by rw[length_map];exact le_trans hol (le_trans hdl hml)) hEk (fun u' ov' h1' h2' hsz hold hso=>?_)
   have kuu:KR B u u':=⟨hsz,fun kk c t f hfx hc=>hold kk (lt_of_heap hc) (fun e=>by subst e;rw[h1]at hc;exact hfx.2.2.1 (cells_ty hc).symm) (fun e=>own_not h2 hfx.2.2.2.1 hc e),fun kk hkB hl=>hold kk hl (fun e=>by have:=mu.lowm;omega) (fun e=>own_low h2 hkB e),hso⟩
   have mu':RM B mb sa ca { m with done:=m.done+1,output:=m.output++[UInt8.ofNat (r.n % 256).toNat] } u':=by
    refine mu.field kuu rfl rfl h1' ?_ (fun kk c t f hfx hc=>hold kk (lt_of_heap hc) (fun e=>by subst e;rw[h1]at hc;have:=(cells_ty hc).symm;rcases hfx with rfl|rfl<;>exact absurd this (by decide)) (fun e=>own_not h2 (by rcases hfx with rfl|rfl<;>decide) hc e)) mu.inp ?_ mu.don mu.mst
    ·rw[length_map]at h2'
     have hby:Value.int IntKind.u8 (r.n % 256)=.int .u8 ((UInt8.ofNat (r.n % 256).toNat).toNat:Int):=by
      congr 1
      have:(UInt8.ofNat (r.n % 256).toNat).toNat=(r.n % 256).toNat:=by
       rw[UInt8.toNat_ofNat'];omega
      rw[this];omega
     rw[hby]at h2'
     simpa using h2'
    ·show (m.output++[_]).length<=m.done+1
     have hb:=houtb
     rw[length_append,List.length_singleton]
     omega
   obtain⟨K2,cs2,hcv,hE2,hcall⟩:=hG sa ca _ u' RV.unit k unitV _ mu' (inr (inr (inl ⟨rfl,rfl⟩))) (hT.stay (ku.trans kuu)) hr'
   cases hcv
   exact callsUp (ku.trans kuu) hcall
  ·have:=hl 3 (by unfold call;rw[if_neg (by omega),if_pos ht,if_neg h0]);cases this
 ·
  refine⟨_,_,_,rfl,Enters.mget,fun u ku mu=>?_⟩
  obtain⟨ov,h1,h2⟩:=mu.mach
  refine w_get h1 hEk mu.inp ?_
  cases hi:m.input with
  |nil=>
   have hr':=hrr { m with done:=m.done+1 } (St.go (RV.num (-1)) k) (by unfold call;rw[if_neg (by omega),if_neg (by omega),if_pos ht];simp only[hi])
   refine inl ⟨rfl,fun u' hu'=>?_⟩
   have ku':=ku.heap hu'
   obtain⟨K2,cs2,hcv,hE2,hcall⟩:=hG sa ca _ u' (RV.num (-1)) k (numV (-1)) _ (mu.heap hu') (inl ⟨rfl,rfl,by show InI (-1);unfold InI;omega⟩) (hT.stay ku') hr'
   cases hcv
   exact callsUp ku' hcall
  |cons c0 rr=>
   have hr':=hrr { m with done:=m.done+1,input:=rr } (St.go (RV.num c0.toNat) k) (by unfold call;rw[if_neg (by omega),if_neg (by omega),if_pos ht];simp only[hi])
   refine inr ⟨c0,rr,rfl,fun u' hu'=>?_⟩
   have kuu:KR B u u':=(KR.refl B u).turn mu.lowm h1 (fun hf=>hf.2.2.1 rfl) hu'.size hu'.rest hu'.so
   have hne:∀(kk:Nat)(c:Array Value)(t:TypeId)(f:Nat×Nat),t≠tyMach->u.heap[kk]?=some (.cells c t f)->u'.heap[kk]?=u.heap[kk]?:=fun kk c t f htm hc=>hu'.rest kk fun e=>by
    subst e;rw[h1]at hc;exact htm (cells_ty hc).symm
   have mu':RM B mb sa ca { m with done:=m.done+1,input:=rr } u':=by
    refine mu.field kuu rfl rfl hu'.here (ownsRow_kept h2 fun kk c f _ hc=>hne kk c _ f (by decide) hc) (fun kk c t f htt hc=>hne kk c t f (by rcases htt with rfl|rfl<;>decide) hc) ?_ mu.out mu.don mu.mst
    have:=mu.inp
    show rr.length<=_
    have h3:m.input.length<=1000000:=this
    rw[hi,length_cons]at h3
    omega
   obtain⟨K2,cs2,hcv,hE2,hcall⟩:=hG sa ca _ u' (RV.num c0.toNat) k (numV c0.toNat) _ mu' (inl ⟨rfl,rfl,by have:=c0.toNat_lt;show InI _;unfold InI RV.num;dsimp only;omega⟩) (hT.stay (ku.trans kuu)) hr'
   cases hcv
   exact callsUp (ku.trans kuu) hcall
 ·
  refine⟨_,_,_,rfl,Enters.newCell,fun u ku mu=>?_⟩
  have hr':=hrr _ _ (by unfold call;rw[if_neg (by omega),if_neg (by omega),if_neg (by omega),if_pos ht])
  have q1:PEq (u.alloc (.cells #[x] tyCell)) u (.cells #[x] tyCell (0,0)):=PEq.alloc _ _
  have k1:=(KR.refl B u).push q1
  have kw:=ku.trans k1
  have m1:=mu.ref (hV.stay ku) q1
  have hv:VM mb sa (ca++[u.heap.size]) (u.alloc (.cells #[x] tyCell)) (RV.cell m.cells.length) (.iface tyCellP (ptrV u.heap.size)):=inr (inr (inr (inr (inr (inr (inr (inl ⟨rfl,u.heap.size,by
   show (ca++[u.heap.size])[((m.cells.length:Int)).toNat]?=_
   have:=mu.clen
   have h3:ca.length=m.cells.length:=this
   rw[Int.toNat_natCast,<- h3];simp,rfl⟩)))))))
  have hkk:NxM mb sa (ca++[u.heap.size]) (u.alloc (.cells #[x] tyCell)) k (.func (.func K') #[] cs'):=by
   have:=NxM.kept kw [] [u.heap.size] k _ hT
   rw[append_nil]at this;exact this
  obtain⟨K2,cs2,hcv,hE2,hcall⟩:=hG sa _ _ _ (RV.cell m.cells.length) k _ _ m1 hv hkk hr'
  cases hcv
  exact w_cell hif hEk (callsUp kw hcall)
 ·have:=hl 3 (by unfold call;rw[if_neg (by omega),if_neg (by omega),if_neg (by omega),if_neg (by omega)]);cases this
 ·have:=hl 3 (by unfold call;rw[if_neg (by omega),if_neg (by omega),if_neg (by omega),if_neg (by omega)]);cases this
theorem go_step(hE:EvG B mb out N)(hG:GoG B mb out N):GoG B mb out (N+1):=by
 intro sa ca m w r k x kv hM hV hK hr
 have hif:=hV.ifv
 cases k with
 |nil=>
  obtain⟨hEK,l,rfl,hb⟩:=hK
  refine⟨_,_,rfl,hEK,?_⟩
  match l,hb with
  |[],_=>
   have ho:=runR_inl hr (e:=0) rfl
   cases ho
   exact w_end ⟨KR.refl B w,sa,ca,_,hM,inl ⟨rfl,rfl⟩⟩
 |cons f k=>
 obtain⟨xs,ys,sv,tv,K,bl,hx,hy,hS,hT,hf,hEK,l,rfl,hb⟩:=hK
 obtain⟨p,rfl⟩:=hS.ptr
 obtain⟨K',cs',rfl,hEk⟩:=hT.form
 obtain⟨op,cds,pts,fsc,vs,nm⟩:=f
 refine⟨K,(l.map ptrV).toArray,rfl,hEK,?_⟩
 have q1:PEq (w.alloc (.cells #[x] tyVal)) w (.cells #[x] tyVal (0,0)):=PEq.alloc _ _
 have kq:=(KR.refl B w).push q1
 unfold frOf at hf
 split at hf
 all_goals try (split at hf)
 all_goals cases hf
 ·
  rename_i y hop
  have hop:op=0:=hop
  subst hop
  obtain⟨d1,rfl,hd1⟩:=hx.one
  obtain rfl:=hy.nil
  obtain⟨b1,b2,b3,b4,rfl,e1,e2,e3,e4⟩:=hb.four
  have hr':=runR_inr hr (m':=m) (s':=St.ev d1 fsc (⟨1,[],[],0,[r],[]⟩::k)) rfl
  have hnx:NxM mb sa ca (w.alloc (.cells #[x] tyVal)) (⟨1,[],[],0,[r],[]⟩::k) (fnV 210 [b3,w.heap.size,b4]):=
   ⟨[],[x],.pointer none,.func (.func K') #[] cs',_,_,trivial,⟨hV.stay kq,trivial⟩,inl ⟨rfl,rfl⟩,hT.stay kq,rfl,Enters.apply2,_,rfl,(push_old q1 (lt_of_heap e3)).trans e3,fxStep,push_new q1,fxVal,(push_old q1 (lt_of_heap e4)).trans e4,fxNext,trivial⟩
  obtain⟨K2,cs2,hcv,hE2,hcall⟩:=hE sa ca m _ d1 fsc _ y _ _ (hM.push q1) (hd1.kept kq) hS hnx hr'
  subst hcv
  exact w_apply1 hif (cell1 e1) (cell1 e2) hE2 (callsUp kq hcall)
 ·
  rename_i y hop
  have hop:op=1:=hop
  subst hop
  obtain rfl:=hx.nil
  obtain⟨rf,rfl,hvf⟩:=hy.one
  obtain⟨b1,b2,b3,rfl,e1,e2,e3⟩:=hb.three
  by_cases hd:m.done=m.most
  ·have:=runR_inl hr (e:=2) (if_pos hd);cases this
  have hst:stepR m (St.go r (⟨1,[],pts,fsc,[rf],nm⟩::k))=call { m with done:=m.done+1 } rf r k:=if_neg hd
  obtain⟨i0,o0,h0,htick⟩:=hM.tick hd
  have hD:m.done<=4000:=le_trans hM.don hM.mst
  have hcall:∃K2 fs2 cs2,y=.iface tyFn (.func (.func K2) fs2 cs2)/\Enters K2/\∀u,KR B w u->RM B mb sa ca { m with done:=m.done+1 } u->Calls prog K2 (fs2++(#[x,.func (.func K') #[] cs']++cs2)) u (RQ (PostR B mb (N+1) out w)):=call_of hG hif hEk hV hT hvf hM.out (fun e he=>by rw[<- hst]at he;exact runR_inl hr he) (fun m' s' he=>by rw[<- hst]at he;exact runR_inr hr he)
  obtain⟨K2,fs2,cs2,rfl,hE2,hc2⟩:=hcall
  refine w_apply2 (fs:=fs2) (cs:=cs2) (kv:=.func (.func K') #[] cs') (cell1 e1) hE2 ((step_any h0 hd hD).mono ?_)
  rintro e u⟨rfl,hu⟩
  obtain⟨ku,mu⟩:=htick u hu
  exact⟨rfl,⟨ku.cell fxVal e2,ku.cell fxNext e3⟩,fun u' hu'=>hc2 u' (ku.heap hu') (mu.heap hu')⟩
 ·
  rename_i y hop
  have hop:op=2:=hop
  subst hop
  obtain⟨d1,rfl,hd1⟩:=hx.one
  obtain rfl:=hy.nil
  obtain⟨b1,b2,b3,rfl,e1,e2,e3⟩:=hb.three
  have hr':=runR_inr hr (m':=(m.with r fsc).2) (s':=St.ev d1 (m.with r fsc).1 k) rfl
  obtain⟨Ky,csy,hyv,hEy⟩:=hd1.elim fun n h=>h.form
  subst hyv
  refine w_let1 hif (cell1 e1) (cell1 e2) (cell1 e3) hEy (fun u hu=>?_)
  have ku:=(KR.refl B w).push hu
  have hlen:(m.with r fsc).1=sa.length+1:=by show m.scopes.length+1=_;rw[hM.slen]
  have hsc:ScV (sa++[w.heap.size]) (m.with r fsc).1 (ptrV w.heap.size):=by
   rw[hlen];exact inr ⟨_,by omega,by simp,rfl⟩
  have hkk:NxM mb (sa++[w.heap.size]) ca u k (.func (.func K') #[] cs'):=by
   have:=NxM.kept ku [w.heap.size] [] k _ hT
   rw[append_nil]at this;exact this
  obtain⟨K2,cs2,hcv,hE2,hcall⟩:=hE _ ca _ u d1 _ k _ _ _ (hM.with hV hS hu) (hd1.kept ku) hsc hkk hr'
  cases hcv
  refine hcall.mono ?_
  rintro e w'⟨rv,rfl,hp⟩
  have hp':=hp.up ku
  exact⟨rv,rfl,hp',hp'.1.cell fxCode e1,hp'.1.cell fxScP e2,hp'.1.cell fxNext e3⟩
 ·
  rename_i y hop hsc0
  have hop:op=3:=hop
  subst hop
  obtain⟨d1,rfl,hd1⟩:=hx.one
  obtain rfl:=hy.nil
  obtain⟨b1,b2,b3,rfl,e1,e2,e3⟩:=hb.three
  have hr':=runR_inr hr (m':={ m with scopes:=m.scopes.modify (fsc-1) (fun x=>(r,x.2)) }) (s':=St.ev d1 fsc k) rfl
  obtain⟨Ky,csy,hyv,hEy⟩:=hd1.elim fun n h=>h.form
  subst hyv
  rcases hS with⟨h0,hp0⟩|⟨sb,h0,hsb,hp0⟩
  ·exact absurd h0 hsc0
  ·have hpp:p=some ⟨sb,0,none⟩:=by simpa [ptrV]using hp0
   subst hpp
   have hlt:fsc-1<m.scopes.length:=by rw[<- hM.slen];exact(List.getElem?_eq_some_iff.1 hsb).1
   obtain⟨b',x0,ov,w1,w2,_,_⟩:=hM.scope (fsc-1) _ _ (List.getElem?_eq_getElem hlt)
   rw[hsb]at w1
   cases w1
   have hfill:=fun(u:World) (hu:Upd w u sb (.cells #[x,ov] tyScope (0,0)))=>hM.fill (u:=u) hV hsb w2 hu.size hu.rest hu.here hu.so
   refine w_rec1 (K:=Ky) (cs:=csy) (kv:=.func (.func K') #[] cs') hif w2 (cell1 e1) (fun u hu=>?_) hEy (fun u hu=>?_)
   ·have ku:=(hfill u hu).1
    exact⟨ku.cell fxScP e1,ku.cell fxCode e2,ku.cell fxNext e3⟩
   ·obtain⟨ku,mu⟩:=hfill u hu
    obtain⟨K2,cs2,hcv,hE2,hcall⟩:=hE sa ca _ u d1 fsc k _ (ptrV sb) _ mu (hd1.kept ku) (inr ⟨sb,h0,hsb,rfl⟩) (hT.stay ku) hr'
    cases hcv
    exact callsUp ku hcall
 ·
  rename_i y z hop
  have hop:op=4:=hop
  subst hop
  obtain⟨d1,d2,rfl,hd1,hd2⟩:=hx.two
  obtain rfl:=hy.nil
  obtain⟨b1,b2,b3,b4,rfl,e1,e2,e3,e4⟩:=hb.four
  by_cases ht:r.tag=1
  ·have hr':=runR_inr hr (m':=m) (s':=St.ev (if r.n=1 then d1 else d2) fsc k) (if_pos ht)
   have hxv:x=boolV (decide (r.n=1)):=by
    rcases hV with h|h|h|h|h|h|h|h|h
    ·have:=h.1;omega
    ·exact h.2
    ·have:=h.1;omega
    ·have:=h.1;omega
    ·have:=h.1;omega
    ·have:=h.1;omega
    ·have:=h.1;omega
    ·have:=h.1;omega
    ·have:=h.1;omega
   subst hxv
   by_cases h1:r.n=1
   ·rw[if_pos h1]at hr'
    obtain⟨K2,cs2,hcv,hE2,hcall⟩:=hE sa ca m w d1 fsc k y _ _ hM hd1 hS hT hr'
    subst hcv
    exact w_choice1 (decide (r.n=1)) (by rw[if_pos (by simpa using h1)];exact cell1 e1) (cell1 e2) (cell1 e3) hE2 (callsUp (KR.refl B w) hcall)
   ·rw[if_neg h1]at hr'
    obtain⟨K2,cs2,hcv,hE2,hcall⟩:=hE sa ca m w d2 fsc k z _ _ hM hd2 hS hT hr'
    subst hcv
    exact w_choice1 (decide (r.n=1)) (by rw[if_neg (by simpa using h1)];exact cell1 e4) (cell1 e2) (cell1 e3) hE2 (callsUp (KR.refl B w) hcall)
  ·have:=runR_inl hr (e:=3) (if_neg ht);cases this
 ·
  rename_i y hop
  have hop:op=5:=hop
  subst hop
  obtain⟨d1,rfl,hd1⟩:=hx.one
  obtain rfl:=hy.nil
  obtain⟨b1,b2,b3,rfl,e1,e2,e3⟩:=hb.three
  have hr':=runR_inr hr (m':=m) (s':=St.ev d1 fsc k) rfl
  obtain⟨K2,cs2,hcv,hE2,hcall⟩:=hE sa ca m w d1 fsc k y _ _ hM hd1 hS hT hr'
  subst hcv
  exact w_seq1 (cell1 e1) (cell1 e2) (cell1 e3) hE2 (callsUp (KR.refl B w) hcall)
 ·
  rename_i y hop
  have hop:op=6:=hop
  subst hop
  obtain⟨d1,rfl,hd1⟩:=hx.one
  obtain rfl:=hy.nil
  obtain⟨b1,b2,b3,rfl,e1,e2,e3⟩:=hb.three
  have hr':=runR_inr hr (m':=m) (s':=St.ev d1 fsc (⟨7,[],[],0,[r],[]⟩::k)) rfl
  have hnx:NxM mb sa ca (w.alloc (.cells #[x] tyVal)) (⟨7,[],[],0,[r],[]⟩::k) (fnV 215 [w.heap.size,b3]):=
   ⟨[],[x],.pointer none,.func (.func K') #[] cs',_,_,trivial,⟨hV.stay kq,trivial⟩,inl ⟨rfl,rfl⟩,hT.stay kq,rfl,Enters.set2,_,rfl,push_new q1,fxVal,(push_old q1 (lt_of_heap e3)).trans e3,fxNext,trivial⟩
  obtain⟨K2,cs2,hcv,hE2,hcall⟩:=hE sa ca m _ d1 fsc _ y _ _ (hM.push q1) (hd1.kept kq) hS hnx hr'
  subst hcv
  exact w_set1 hif (cell1 e1) (cell1 e2) hE2 (callsUp kq hcall)
 ·
  rename_i y hop
  have hop:op=7:=hop
  subst hop
  obtain rfl:=hx.nil
  obtain⟨rf,rfl,hvf⟩:=hy.one
  obtain⟨b1,b2,rfl,e1,e2⟩:=hb.two
  by_cases ht:rf.tag=8
  ·have hr':=runR_inr hr (m':={ m with cells:=m.cells.modify rf.n.toNat (fun _=>r) }) (s':=St.go RV.unit k) (if_pos ht)
   obtain⟨cb,hcb,rfl⟩:=hvf.cell8 ht
   have hlt:rf.n.toNat<m.cells.length:=by rw[<- hM.clen];exact(List.getElem?_eq_some_iff.1 hcb).1
   obtain⟨b',x0,w1,w2,_⟩:=hM.cell rf.n.toNat _ (List.getElem?_eq_getElem hlt)
   rw[hcb]at w1
   cases w1
   have hfill:=fun(u:World) (hu:Upd w u cb (.cells #[x] tyCell (0,0)))=>hM.set (u:=u) hV hcb w2 hu.size hu.rest hu.here hu.so
   refine w_set2 (K:=K') (cs:=cs') hif w2 (cell1 e1) (fun u hu=>(hfill u hu).1.cell fxNext e2) hEk (fun u hu=>?_)
   obtain⟨ku,mu⟩:=hfill u hu
   obtain⟨K2,cs2,hcv,hE2,hcall⟩:=hG sa ca _ u RV.unit k unitV _ mu (inr (inr (inl ⟨rfl,rfl⟩))) (hT.stay ku) hr'
   cases hcv
   exact callsUp ku hcall
  ·have:=runR_inl hr (e:=3) (if_neg ht);cases this
 ·
  rename_i hop
  have hop:op=8:=hop
  subst hop
  obtain rfl:=hx.nil
  obtain rfl:=hy.nil
  obtain⟨b1,rfl,e1⟩:=hb.one
  by_cases ht:r.tag=8
  ·have hr':=runR_inr hr (m':=m) (s':=St.go ((m.cells[r.n.toNat]?).getD RV.none) k) (if_pos ht)
   obtain⟨cb,hcb,rfl⟩:=hV.cell8 ht
   have hlt:r.n.toNat<m.cells.length:=by rw[<- hM.clen];exact(List.getElem?_eq_some_iff.1 hcb).1
   obtain⟨b',x0,w1,w2,w3⟩:=hM.cell r.n.toNat _ (List.getElem?_eq_getElem hlt)
   rw[hcb]at w1
   cases w1
   rw[List.getElem?_eq_getElem hlt]at hr'
   refine w_fetch1 (cell1 w2) (cell1 e1) hEk (fun u hu=>?_)
   have ku:=(KR.refl B w).heap hu
   obtain⟨K2,cs2,hcv,hE2,hcall⟩:=hG sa ca m u _ k x0 _ (hM.heap hu) (w3.stay ku) (hT.stay ku) hr'
   cases hcv
   exact callsUp ku hcall
  ·have:=runR_inl hr (e:=3) (if_neg ht);cases this
 ·
  rename_i y hop
  have hop:op=9:=hop
  subst hop
  obtain⟨d1,rfl,hd1⟩:=hx.one
  obtain rfl:=hy.nil
  obtain⟨b1,b2,b3,b4,rfl,e1,e2,e3,e4⟩:=hb.four
  have hr':=runR_inr hr (m':=m) (s':=St.ev d1 fsc (⟨10,[],[],0,[r],nm⟩::k)) rfl
  have hnx:NxM mb sa ca (w.alloc (.cells #[x] tyVal)) (⟨10,[],[],0,[r],nm⟩::k) (fnV 220 [b3,b4,w.heap.size]):=
   ⟨[],[x],.pointer none,.func (.func K') #[] cs',_,_,trivial,⟨hV.stay kq,trivial⟩,inl ⟨rfl,rfl⟩,hT.stay kq,rfl,Enters.calc2,_,rfl,(push_old q1 (lt_of_heap e3)).trans e3,fxNext,(push_old q1 (lt_of_heap e4)).trans e4,fxOper,push_new q1,fxVal,trivial⟩
  obtain⟨K2,cs2,hcv,hE2,hcall⟩:=hE sa ca m _ d1 fsc _ y _ _ (hM.push q1) (hd1.kept kq) hS hnx hr'
  subst hcv
  exact w_calc1 hif (cell1 e1) (cell1 e2) hE2 (callsUp kq hcall)
 ·
  rename_i y hop
  have hop:op=10:=hop
  subst hop
  obtain rfl:=hx.nil
  obtain⟨rf,rfl,hvf⟩:=hy.one
  obtain⟨b1,b2,b3,rfl,e1,e2,e3⟩:=hb.three
  by_cases ht:rf.tag=0
  ·by_cases ht2:r.tag=0
   ·have hr':=runR_inr hr (m':=m) (s':=St.go (calcR nm rf.n r.n) k) ((if_pos ht).trans (if_pos ht2))
    obtain rfl:=hvf.num0 ht
    obtain rfl:=hV.num0 ht2
    obtain⟨Ko,z,ho1,ho2,ho3,ho4⟩:=oper_any nm (l:=rf.n) (r:=r.n) w
    rw[ho1]at e2
    refine w_calc2 (cell1 e1) (cell1 e2) (cell1 e3) hEk ho2 (fun u _=>ho4 u) (fun u hu=>?_)
    have ku:=(KR.refl B w).heap hu
    obtain⟨K2,cs2,hcv,hE2,hcall⟩:=hG sa ca m u _ k z _ (hM.heap hu) (ho3 mb sa ca u) (hT.stay ku) hr'
    cases hcv
    refine hcall.mono ?_
    rintro e w'⟨rv,rfl,hp⟩
    have hp':=hp.up ku
    exact⟨rv,rfl,hp',hp'.1.cell fxNext e1,hp'.1.cell fxOper e2,hp'.1.cell fxVal e3⟩
   ·have:=runR_inl hr (e:=3) ((if_pos ht).trans (if_neg ht2));cases this
  ·have:=runR_inl hr (e:=3) (if_neg ht);cases this
 ·
  rename_i hop
  have hop:op=13:=hop
  subst hop
  obtain rfl:=hx.nil
  obtain rfl:=hy.nil
  obtain⟨b1,rfl,e1⟩:=hb.one
  have hr':=runR_inr hr (m':=m) (s':=St.go r k) rfl
  refine w_later1 hif ⟨kq,sa,ca,m,hM.push q1,inr ⟨N,by omega,inr ⟨r,x,k,_,⟨Enters.later2,[b1,w.heap.size],rfl,(push_old q1 (lt_of_heap e1)).trans e1,fxNext,push_new q1,fxVal,trivial⟩,hV.stay kq,hT.stay kq,hr'⟩⟩⟩
end
theorem neq_nil(w:World):(binOp BinOp.neq 144 .nilFunc .nilFunc).run prog w=.ok (.bool false) w:=by kernel_rfl
theorem neq_fn(K:Nat)(cs:Array Value)(w:World):(binOp BinOp.neq 144 (.func (.func K) #[] cs) .nilFunc).run prog w=.ok (.bool true) w:=by kernel_rfl
theorem runs_all(B mb:Nat)(out:Mach):∀N,EvG B mb out N/\GoG B mb out N:=by
 intro N
 induction N with
 |zero=>exact⟨fun _ _ _ _ _ _ _ _ _ _ _ _ _ _ h=>(by cases h),fun _ _ _ _ _ _ _ _ _ _ _ h=>(by cases h)⟩
 |succ N ih=>exact⟨ev_step ih.1 ih.2,go_step ih.1 ih.2⟩
section
variable {B mb N:Nat}{out:Mach}{sa ca:List Nat}{m:Mach}{w u:World}
theorem Later2.kr{x kv:Value}{p:Option Addr}{sb lb:Nat}(h:Later2 w u x p kv sb lb):KR B w u:=⟨by rw[h.1];omega,fun k c t f _ hc=>h.2.1 k (lt_of_heap hc),fun k _ hl=>h.2.1 k hl,h.2.2.2.2.2⟩
theorem Later2.rm{x:Value}{K':Nat}{cs':Array Value}{p:Option Addr}{sb lb sc:Nat}{a:RV}(h:Later2 w u x p (.func (.func K') #[] cs') sb lb)(hM:RM B mb sa ca m w)(hV:VM mb sa ca w a x)(hS:ScV sa sc (.pointer p)):RM B mb (sa++[sb]) ca (m.with a sc).2 u:=by
 obtain⟨h1,h2,h3,h4,⟨rfl,rfl⟩|⟨rfl,rfl⟩,so⟩:=h
 ·have q1:PEq (w.alloc (.cells #[x,.pointer p] tyScope)) w (.cells #[x,.pointer p] tyScope (0,0)):=PEq.alloc _ _
  have s1:=push_size q1
  refine(hM.with hV hS q1).more (by omega) (fun k hk=>?_) ⟨so.os,so.tape,so.output⟩
  by_cases hk2:k<w.heap.size
  ·rw[h2 k hk2,push_old q1 hk2]
  ·have:k=w.heap.size:=by omega
   subst this
   rw[h3,push_new q1]
 ·have q1:PEq (w.alloc (.cells #[.func (.func K') #[] cs'] tyNext)) w (.cells #[.func (.func K') #[] cs'] tyNext (0,0)):=PEq.alloc _ _
  have q2:PEq ((w.alloc (.cells #[.func (.func K') #[] cs'] tyNext)).alloc (.cells #[x,.pointer p] tyScope)) (w.alloc (.cells #[.func (.func K') #[] cs'] tyNext)) (.cells #[x,.pointer p] tyScope (0,0)):=PEq.alloc _ _
  have s1:=push_size q1
  have s2:=push_size q2
  have hw:=(hM.push q1).with (hV.stay ((KR.refl B w).push q1)) hS q2
  rw[s1]at hw
  refine hw.more (by omega) (fun k hk=>?_) ⟨so.os,so.tape,so.output⟩
  by_cases hk2:k<w.heap.size
  ·rw[h2 k hk2,push_old q2 (by omega),push_old q1 hk2]
  ·by_cases hk3:k=w.heap.size
   ·subst hk3
    rw[h4,push_old q2 (by omega),push_new q1]
   ·have:k=w.heap.size+1:=by omega
    subst this
    rw[h3]
    have:=push_new q2
    rw[s1]at this;exact this.symm
theorem rest_of{rv:Value}(hM:RM B mb sa ca m w)(h:RestM mb sa ca w rv m N out):∃K cs,rv=.func (.func K) #[] cs/\Enters K/\Calls prog K cs w (RQ (PostR B mb N out w)):=by
 rcases h with⟨c,a,sc,k,x,v,sv,kv,⟨hE,l,rfl,hb⟩,hc,hs,hv,hk,hr⟩|⟨v,x,k,kv,⟨hE,l,rfl,hb⟩,hv,hk,hr⟩
 ·obtain⟨b1,b2,b3,b4,rfl,e1,e2,e3,e4⟩:=hb.four
  obtain⟨p,rfl⟩:=hs.ptr
  obtain⟨K',cs',rfl,hEk⟩:=hk.form
  obtain⟨Kc,csc,hxc,hEc⟩:=hc.elim fun n h=>h.form
  subst hxc
  refine⟨_,_,rfl,hE,?_⟩
  refine w_fun111 hv.ifv (cell1 e1) (cell1 e2) (cell1 e3) (cell1 e4) hEc (fun u sb lb hl=>?_)
  have ku:KR B w u:=hl.kr
  have mu:=hl.rm hM hv hs
  have hlen:(m.with a sc).1=sa.length+1:=by show m.scopes.length+1=_;rw[hM.slen]
  have hsc:ScV (sa++[sb]) (m.with a sc).1 (ptrV sb):=by
   rw[hlen];exact inr ⟨_,by omega,by simp,rfl⟩
  have hkk:NxM mb (sa++[sb]) ca u (⟨13,[],[],0,[],[]⟩::k) (fnV 197 [lb]):=by
   have:=NxM.kept ku [sb] [] k _ hk
   rw[append_nil]at this
   exact⟨[],[],.pointer none,.func (.func K') #[] cs',_,_,trivial,trivial,inl ⟨rfl,rfl⟩,this,rfl,Enters.later1,_,rfl,hl.2.2.2.1,fxNext,trivial⟩
  obtain⟨K2,cs2,hcv,hE2,hcall⟩:=(runs_all B mb out N).1 _ ca _ u c _ _ _ _ _ mu (hc.kept ku) hsc hkk hr
  cases hcv
  refine hcall.mono ?_
  rintro e w'⟨rv,rfl,hp⟩
  have hp':PostR B mb N out w rv w':=⟨ku.trans hp.1,hp.2⟩
  exact⟨rv,rfl,hp',hp'.1.cell fxCode e1,hp'.1.cell fxScP e2,hp'.1.cell fxVal e3,hp'.1.cell fxNext e4⟩
 ·obtain⟨b1,b2,rfl,e1,e2⟩:=hb.two
  obtain⟨K',cs',rfl,hEk⟩:=hk.form
  refine⟨_,_,rfl,hE,?_⟩
  obtain⟨K2,cs2,hcv,hE2,hcall⟩:=(runs_all B mb out N).2 sa ca m w v k x _ hM hv hk hr
  cases hcv
  exact w_later11 (cell1 e1) (cell1 e2) hEk hcall
def LoopR(B mb:Nat)(out:Mach)(w:World)(gk:Nat)(v:Value)(wr:World):Prop:=
 KR B w wr/\∃sa ca m,RM B mb sa ca m wr/\((v=.nilFunc/\m=out)\/∃N,gk=N+1/\RestM mb sa ca wr v m N out)
theorem workOut_any{c:Cd}{cv sv:Value}{sc:Nat}(hM:RM B mb sa ca m w)(hC:CdX mb w c cv)(hS:ScV sa sc sv)(hr:runR N m (St.ev c sc [])=some (0,out)) :
  Calls prog 44 #[cv,sv] w fun e w'=>e=.returned (.tuple #[])/\KR B w w'/\∃sa ca,RM B mb sa ca out w':=by
 obtain⟨p,rfl⟩:=hS.ptr
 obtain⟨K,cs,rfl,hE,hcall⟩:=(runs_all B mb out N).1 sa ca m w c sc [] _ _ _ hM hC hS (show NxM mb sa ca w [] (fnV 74 [])from⟨Enters.wend,[],rfl,trivial⟩) hr
 have h0:Calls prog K (#[.pointer p,.func (.func 74) #[] #[]]++cs) w (RQ fun v u=>∃gk,LoopR B mb out w gk v u):=hcall.mono (by
  rintro e w'⟨rv,rfl,h1,sa',ca',m',h2,h3⟩
  rcases h3 with h3|⟨N',_,h4⟩
  ·exact⟨rv,rfl,0,h1,sa',ca',m',h2,inl h3⟩
  ·exact⟨rv,rfl,N'+1,h1,sa',ca',m',h2,inr ⟨N',rfl,h4⟩⟩)
 have hs:∀gk v wr,LoopR B mb out w gk v wr->(v=.nilFunc/\KR B w wr/\∃sa ca,RM B mb sa ca out wr)\/∃K cs,v=.func (.func K) #[] cs/\Enters K/\Calls prog K cs wr (RQ fun v' u=>∃g',g'<gk/\LoopR B mb out w g' v' u):=by
  rintro gk v wr⟨h1,sa',ca',m',h2,⟨rfl,rfl⟩|⟨N',rfl,h4⟩⟩
  ·exact inl ⟨rfl,h1,sa',ca',h2⟩
  ·obtain⟨K,cs,rfl,hE,hc⟩:=rest_of h2 h4
   refine inr ⟨K,cs,rfl,hE,hc.mono ?_⟩
   rintro e w'⟨rv,rfl,q1,sa2,ca2,m2,q2,q3⟩
   rcases q3 with q3|⟨N2,q4,q5⟩
   ·exact⟨rv,rfl,0,by omega,h1.trans q1,sa2,ca2,m2,q2,inl q3⟩
   ·exact⟨rv,rfl,N2+1,by omega,h1.trans q1,sa2,ca2,m2,q2,inr ⟨N2,rfl,q5⟩⟩
 have hEn:=fun(args:Array Value) (w:World)=>hE args w
 have H0:=hide h0
 have HS:=hide hs
 clear hM hC hS hr hcall h0 hs hE
 have HQ:=hide (show ∀wr,KR B w wr->(∃sa ca,RM B mb sa ca out wr)->(fun(e:Ending) (w':World)=>e=.returned (.tuple #[])/\KR B w w'/\∃sa ca,RM B mb sa ca out w') (.returned (.tuple #[])) wr from fun wr h1 h2=>⟨rfl,h1,h2⟩)
 generalize (fun(e:Ending) (w':World)=>e=.returned (.tuple #[])/\KR B w w'/\∃sa ca,RM B mb sa ca out w')=Q at *
 go_enter func44,ntmps44
 go_wp2_with fail
 refine(H0.out).mono ?_
 rintro e w1⟨v,rfl,gk0,hl⟩
 have HL:=hide hl
 have hn0:=neq_nil
 have hn1:=neq_fn
 clear H0 hl hEn
 go_wp2_with fail
 go_loopg [4] gk0 (fun gk v wr=>Hid (LoopR B mb out w gk v wr))
 case atStart=>exact HL
 case round=>
  clear HL
  rename_i vl _
  rcases HS.out _ _ _ hrel.out with⟨rfl,h1,h2⟩|⟨K2,cs2,rfl,hE2,hc⟩
  ·have HF:=hide (HQ.out _ h1 h2)
   clear HQ HS hrel h1 h2
   go_wp2
   refine bodyPost_end (v:=.tuple #[]) (by simp[results,results44,go_sem]) rfl HF.out
  ·have hEn2:=fun(args:Array Value) (w:World)=>hE2 args w
   have HC:=hide hc
   clear hc hE2 HQ HS hrel
   go_wp2_with fail
   refine(HC.out).mono ?_
   rintro e w2⟨v2,rfl,g2,hg2,hl2⟩
   have HL2:=hide hl2
   clear hl2 HC
   go_wp2_with fail
   go_roundg g2
   case rel=>exact HL2
   case measure=>exact hg2
end
theorem newM_any(s:ByteArray)(n:Int)(w:World):Calls prog 15 #[.string s,.int .i64 n] w fun e w'=>e=.returned (ptrV w.heap.size)/\w'=w.alloc (.cells #[.string s,.slice none 0 0,.int .i64 n,.int .i64 0] tyMach):=by
 unfold ptrV
 go_enter func15,ntmps15
 go_wp2
 refine bodyPost_ret (v:=.pointer (some ⟨w.heap.size,0,none⟩)) (by simp[results,results15,go_sem]) rfl ⟨rfl,rfl⟩
theorem eql_nil(w:World):(binOp BinOp.eql 20 .nilIface .nilIface).run prog w=.ok (.bool true) w:=by kernel_rfl
theorem EndOf_nil(w:World):Calls prog 18 #[.nilIface] w fun e w'=>e=.returned (.int .i64 0)/\w'=w:=by
 have he:=eql_nil
 go_enter func18,ntmps18
 go_wp2
 refine bodyPost_ret (v:=.int .i64 0) (by simp[results,results18,go_sem]) rfl ⟨rfl,rfl⟩
theorem push_all:∀(l:List UInt8)(r:ByteArray),(l.map fun c=>(c.toNat:Int)).foldl (fun r n=>r.push (UInt8.ofNat n.toNat)) r=⟨r.data++l.toArray⟩:=by
 intro l
 induction l with
 |nil=>intro r;simp
 |cons c t ih=>
  intro r
  rw[map_cons,List.foldl_cons,ih]
  simp[ByteArray.push]
theorem conv_row{B:Nat}{u:World}{ov:Value}{l:List UInt8}(h:u.ownsRow B tyRB 1 ov l.length (l.map fun c=>.int .u8 c.toNat)):(convert 31 9 ov).run prog u=.ok (.string (bs l)) u:=by
 rcases ownsRow_forms h with⟨rfl,h0⟩|⟨g,cap,rfl⟩
 ·have:l=[]:=List.length_eq_zero_iff.1 h0
  subst this
  rw[run_convert_bytes_string u _ _ tyRB _ _ _ underlying31 (by kernel_rfl) underlying9]
  simp[Conv.bytesToString,bs]
  rfl
 ·rw[run_convert_bytes_string u _ _ tyRB _ _ _ underlying31 (by kernel_rfl) underlying9]
  have hl:(loadCells ⟨g,0,none⟩ l.length).run prog u=.ok ((l.map fun c=>(c.toNat:Int)).map (Value.int .u8)).toArray u:=by
   have:=run_loadCells_list (P:=prog) (w:=u) ⟨g,0,none⟩ (l.map fun c=>.int .u8 c.toNat) (h.cells (g:=g) rfl)
   rw[length_map]at this
   rw[this,List.map_map];rfl
  rw[run_bytesToString u _ _ _ _ hl,push_all]
  simp[bs,ByteArray.empty,ByteArray.emptyWithCapacity]
  rfl
theorem Result_any{B mb:Nat}{sa ca:List Nat}{m:Mach}{w:World}(h:RM B mb sa ca m w):Calls prog 17 #[ptrV mb,.int .i64 0] w fun e w'=>e=.returned (.agg #[.string (bs m.output),.int .i64 0,.int .i64 m.done])/\Kn (fun _=>False) w w':=by
 obtain⟨ov,h1,h2⟩:=h.mach
 have a1:(w.alloc (.cells #[.string ⟨#[]⟩,.int .i64 0,.int .i64 0] 28)).heap[w.heap.size]?=some (.cells #[.string ⟨#[]⟩,.int .i64 0,.int .i64 0] 28 (0,0)):=by simp only[alloc_heap,if_pos]
 have hm1:(w.alloc (.cells #[.string ⟨#[]⟩,.int .i64 0,.int .i64 0] 28)).heap[mb]?=w.heap[mb]?:=by rw[alloc_heap,if_neg (by have:=lt_of_heap h1;omega)]
 have hk1:Kn (fun _=>False) w (w.alloc (.cells #[.string ⟨#[]⟩,.int .i64 0,.int .i64 0] 28)):=(Kn.refl _ w).alloc _
 have ho1:=h2.alloc (.cells #[.string ⟨#[]⟩,.int .i64 0,.int .i64 0] 28)
 generalize hw1:w.alloc (.cells #[.string ⟨#[]⟩,.int .i64 0,.int .i64 0] 28)=w1 at *
 rw[h1]at hm1
 have c1:w1.cell? ⟨mb,1,none⟩=some ov:=(cell_of hm1 1).trans rfl
 have c3:w1.cell? ⟨mb,3,none⟩=some (.int .i64 m.done):=(cell_of hm1 3).trans rfl
 have b0:w1.cell? ⟨w.heap.size,0,none⟩=some (.string ⟨#[]⟩):=(cell_of a1 0).trans rfl
 have b1:w1.cell? ⟨w.heap.size,1,none⟩=some (.int .i64 0):=(cell_of a1 1).trans rfl
 have b2:w1.cell? ⟨w.heap.size,2,none⟩=some (.int .i64 0):=(cell_of a1 2).trans rfl
 have f0:w1.frozen? ⟨w.heap.size,0,none⟩=false:=froz_of a1 0
 have f1:w1.frozen? ⟨w.heap.size,1,none⟩=false:=froz_of a1 1
 have f2:w1.frozen? ⟨w.heap.size,2,none⟩=false:=froz_of a1 2
 have hconv:(convert 31 9 ov).run prog w1.drew=.ok (.string (bs m.output)) w1.drew:=conv_row (u:=w1.drew) ho1
 have HK:=hide hk1
 clear h h1 h2 hm1 ho1 a1 hk1
 generalize bs m.output=so at *
 unfold ptrV
 go_enter func17,ntmps17
 go_wp2_with fail
 go_region
 all_goals
  go_wp2
  refine bodyPost_ret (v:=.agg #[.string so,.int .i64 0,.int .i64 m.done]) (by simp[results,results17,go_sem,b0,b1,b2]) rfl ⟨rfl,?_⟩
  exact((((HK.out).set (p:=⟨w.heap.size,0,none⟩) (inr (le_refl _)) _).set (p:=⟨w.heap.size,1,none⟩) (inr (le_refl _)) _).set (p:=⟨w.heap.size,2,none⟩) (inr (le_refl _)) _).drew
section
variable {tb n:Nat}{f:Ky->Option Value}{w:World}{x:Ky}
theorem Bind1_end{W:Nat}{old:Option Value}{u:FrameMode}(h:MapHas okK kyV w tb n f)(hx:okK x)(hu:Unb tb x old W w) :
  CallsD prog 179 #[.pointer (some ⟨W+4,0,none⟩),.pointer (some ⟨W+3,0,none⟩),.pointer (some ⟨W,0,none⟩),.pointer (some ⟨W+1,0,none⟩)] u w fun e u' w'=>u'=u/\(fun(e:Ending) (w':World)=>e=.returned (.tuple #[])/\(∃n',MapHas okK kyV w' tb n' (fun y=>if y=x then old else f y))/\w.mapTurned w' tb) e w':=by
 obtain⟨h1,h2,⟨g0,g1,a1,n1,c1,a2,n2,c2,g4,g5,h3,h3'⟩,h4⟩:=hu
 have k1:w.cell? ⟨W,0,none⟩=some (.map (some tb)):=by simp[World.cell?,h1]
 have k2:w.cell? ⟨W+1,0,none⟩=some (.int .i64 x.1):=by simp[World.cell?,h2]
 have k2':w.cell? ⟨W+1,1,none⟩=some (.string (bs x.2)):=by simp[World.cell?,h2]
 have k4:w.cell? ⟨W+4,0,none⟩=some (.bool old.isSome):=by simp[World.cell?,h4]
 have j0:w.cell? ⟨W+3,0,none⟩=some (.pointer g0):=by simp[World.cell?,h3]
 have j1:w.cell? ⟨W+3,1,none⟩=some (.string g1):=by simp[World.cell?,h3]
 have j2:w.cell? ⟨W+3,2,none⟩=some (.slice a1 n1 c1):=by simp[World.cell?,h3]
 have j3:w.cell? ⟨W+3,3,none⟩=some (.slice a2 n2 c2):=by simp[World.cell?,h3]
 have j4:w.cell? ⟨W+3,4,none⟩=some (.int .i64 g4):=by simp[World.cell?,h3]
 have j5:w.cell? ⟨W+3,5,none⟩=some (.int .i64 g5):=by simp[World.cell?,h3]
 cases old with
 |some v=>
  obtain rfl:=h3' v rfl
  obtain⟨w6,hup,hm6,ht6⟩:=h.store ky_ops under_tab (v:=.agg #[.pointer g0,.string g1,.slice a1 n1 c1,.slice a2 n2 c2,.int .i64 g4,.int .i64 g5]) hx trivial (fun _ _=>trivial)
  unfold kyV at hup
  simp only[Option.isSome_some]at k4
  have HF:=hide (show (∃n',MapHas okK kyV w6 tb n' (fun y=>if y=x then some (.agg #[.pointer g0,.string g1,.slice a1 n1 c1,.slice a2 n2 c2,.int .i64 g4,.int .i64 g5])else f y))/\w.mapTurned w6 tb from⟨⟨_,hm6⟩,ht6⟩)
  generalize hQ:(fun(e:Ending) (w':World)=>e=.returned (.tuple #[])/\(∃n',MapHas okK kyV w' tb n' (fun y=>if y=x then some (.agg #[.pointer g0,.string g1,.slice a1 n1 c1,.slice a2 n2 c2,.int .i64 g4,.int .i64 g5])else f y))/\w.mapTurned w' tb)=Q
  have HQ:=hide (show Q (.returned (.tuple #[])) w6 by rw[<- hQ];exact⟨rfl,HF.out⟩)
  clear h h1 h2 h3 h3' h4 hm6 ht6 HF hQ
  generalize hsp:x.1=sp at *
  generalize hnm:bs x.2=nm at *
  clear hsp hnm
  go_enter_d func179,ntmps179
  go_wp2
  refine bodyPost_ret (v:=.tuple #[]) (by simp[results,results179,go_sem]) rfl HQ.out
 |none=>
  obtain⟨w6,hup,hm6,ht6⟩:=h.drop ky_ops under_tab hx trivial (fun _ _=>trivial) (P:=prog) 0
  unfold kyV at hup
  simp only[Option.isSome_none]at k4
  have HF:=hide (show (∃n',MapHas okK kyV w6 tb n' (fun y=>if y=x then none else f y))/\w.mapTurned w6 tb from⟨⟨_,hm6⟩,ht6⟩)
  generalize hQ:(fun(e:Ending) (w':World)=>e=.returned (.tuple #[])/\(∃n',MapHas okK kyV w' tb n' (fun y=>if y=x then none else f y))/\w.mapTurned w' tb)=Q
  have HQ:=hide (show Q (.returned (.tuple #[])) w6 by rw[<- hQ];exact⟨rfl,HF.out⟩)
  clear h h1 h2 h3 h3' h4 hm6 ht6 HF hQ
  generalize hsp:x.1=sp at *
  generalize hnm:bs x.2=nm at *
  clear hsp hnm
  go_enter_d func179,ntmps179
  go_wp2
  refine bodyPost_end (v:=.tuple #[]) (by simp[results,results179,go_sem]) rfl HQ.out
end
end Go.Proofs.YtbkiipiocpnnnaaGreatDoor
