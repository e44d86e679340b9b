import Derived.Test.YtcbppnefeonmgaaGreatDoorC4
set_option linter.all false
set_option maxHeartbeats 40000000
set_option maxRecDepth 100000
open Go.Proofs.Tryz
open Or (inl inr)
open Option (bind_eq_some_iff)
open Nat (le_refl le_trans lt_of_lt_of_le)
open List (length_append mem_singleton)
namespace Go.Proofs.YtcbppnefeonmgaaGreatDoor
open Go.RowKit
section
abbrev tyType:TypeId:=114
abbrev tyTypeP:TypeId:=47
def adA(ad:List Nat)(i:Nat):Nat:=(ad[i]?).getD 0
def adV(ad:List Nat)(i:Nat):Value:=ptrV (adA ad i)
theorem cells_ty{c c':Array Value}{t t':TypeId}{f f':Nat×Nat}(h:some (Obj.cells c t f)=some (Obj.cells c' t' f')):t=t':=by
 simp at h;exact h.2.1
structure Kn(D:Nat->Prop)(w w':World):Prop where
 os:w'.os=w.os
 tape:w'.tape=w.tape
 output:w'.output=w.output
 size:w.heap.size<=w'.heap.size
 block:∀k,k<w.heap.size->¬D k->w'.heap[k]?=w.heap[k]?
theorem Kn.refl(D:Nat->Prop)(w:World):Kn D w w:=⟨rfl,rfl,rfl,le_refl _,fun _ _ _=>rfl⟩
theorem Kn.trans{D:Nat->Prop}{a b c:World}(h:Kn D a b)(k:Kn D b c):Kn D a c:=
 ⟨k.os.trans h.os,k.tape.trans h.tape,k.output.trans h.output,le_trans h.size k.size,fun i hi hr=>(k.block i (lt_of_lt_of_le hi h.size) hr).trans (h.block i hi hr)⟩
theorem Kn.trans'{D D':Nat->Prop}{a b c:World}(h:Kn D a b)(k:Kn D' b c)(hD:∀i,i<a.heap.size->D' i->D i):Kn D a c:=
 ⟨k.os.trans h.os,k.tape.trans h.tape,k.output.trans h.output,le_trans h.size k.size,fun i hi hr=>(k.block i (lt_of_lt_of_le hi h.size) (fun e=>hr (hD i hi e))).trans (h.block i hi hr)⟩
theorem Kn.wide{D D':Nat->Prop}{a b:World}(h:Kn D a b)(hD:∀i,i<a.heap.size->D i->D' i):Kn D' a b:=
 ⟨h.os,h.tape,h.output,h.size,fun i hi hr=>h.block i hi fun e=>hr (hD i hi e)⟩
theorem Kn.of_below{D:Nat->Prop}{w w':World}(h:Below w.heap.size w w'):Kn D w w':=⟨h.os,h.tape,h.output,h.size,fun k hk _=>h.block k hk⟩
theorem Kn.alloc{D:Nat->Prop}{a w:World}(h:Kn D a w)(o:Obj):Kn D a (w.alloc o):=
 h.trans (Kn.of_below ((Below.refl _ _).alloc (le_refl _) o))
theorem Kn.drew{D:Nat->Prop}{a w:World}(h:Kn D a w):Kn D a w.drew:=⟨h.os,h.tape,h.output,h.size,h.block⟩
theorem Kn.set{D:Nat->Prop}{a w:World}(h:Kn D a w){p:Addr}(hp:D p.block\/a.heap.size<=p.block)(v:Value):Kn D a (w.setCell p v):=
 ⟨h.os,h.tape,h.output,by have:=h.size;simpa [World.setCell]using this,fun k hk hkr=>by
  rw[Below.heap_setCell _ _ _ _ (fun e=>by subst e;rcases hp with hp|hp;exact hkr hp;omega)];exact h.block k hk hkr⟩
theorem Kn.grown{D:Nat->Prop}{a w w':World}{row:Option Nat}(h:Kn D a w)(hg:w.grownBy w' row)(hr:∀k,row=some k->D k\/a.heap.size<=k):Kn D a w':=
 ⟨hg.os.trans h.os,hg.tape.trans h.tape,hg.output.trans h.output,le_trans h.size hg.size,fun k hk hkr=>by
  rw[hg.block k (lt_of_lt_of_le hk h.size) (fun e=>by rcases hr k e.symm with h1|h1;exact hkr h1;omega)]
  exact h.block k hk hkr⟩
def NodeAt(ad:List Nat)(X:Nat->Prop)(rk:Nat->Nat)(σ:TS)(w:World)(i:Nat):Prop:=
 ∃pv fv,w.heap[adA ad i]?=some (.cells #[.string (bs (σ.node i).name),pv,fv,.int .i64 (σ.node i).depth] tyType (0,0)) /\
  w.ownsRow 0 tyTypeP 1 pv (σ.node i).parts.length ((σ.node i).parts.map (adV ad))/\(∀g,pv.ownBlock=some g->¬X g) /\
  ((σ.root i=i/\fv=.pointer none)\/(σ.root i≠i/\∃j,j<σ.nodes.length/\fv=adV ad j/\σ.root j=σ.root i/\rk j<rk i))
structure StoM(ar:Nm->Nat)(ad:List Nat)(X:Nat->Prop)(rk:Nat->Nat)(σ:TS)(w:World):Prop where
 ok:σ.Ok ar
 len:ad.length=σ.nodes.length
 lt:ad.Pairwise (· < ·)
 node:∀i,i<σ.nodes.length->NodeAt ad X rk σ w i
variable {ar:Nm->Nat}{ad:List Nat}{X:Nat->Prop}{rk:Nat->Nat}{σ:TS}{w w':World}{i j:Nat}
theorem adA_mem(h:i<ad.length):adA ad i∈ad:=by
 unfold adA;rw[List.getElem?_eq_getElem h];exact List.getElem_mem h
theorem adA_inj(hp:ad.Pairwise (· < ·))(hi:i<ad.length)(hj:j<ad.length)(h:adA ad i=adA ad j):i=j:=by
 unfold adA at h
 rw[List.getElem?_eq_getElem hi,List.getElem?_eq_getElem hj]at h
 simp only[Option.getD_some]at h
 rw[List.pairwise_iff_getElem]at hp
 rcases Nat.lt_trichotomy i j with h1|h1|h1
 ·have:=hp i j hi hj h1;omega
 ·exact h1
 ·have:=hp j i hj hi h1;omega
theorem StoM.mem_of(h:StoM ar ad X rk σ w){b:Nat}(hb:b∈ad):∃i,i<σ.nodes.length/\adA ad i=b:=by
 obtain⟨i,hi⟩:=List.getElem?_of_mem hb
 refine⟨i,?_,by unfold adA;rw[hi];rfl⟩
 rw[<- h.len];exact(List.getElem?_eq_some_iff.1 hi).1
theorem StoM.isT(h:StoM ar ad X rk σ w){b:Nat}(hb:b∈ad):∃c f,w.heap[b]?=some (.cells c tyType f):=by
 obtain⟨i,hi,rfl⟩:=h.mem_of hb
 obtain⟨pv,fv,h1,_⟩:=h.node i hi
 exact⟨_,_,h1⟩
theorem StoM.ad_lt(h:StoM ar ad X rk σ w){b:Nat}(hb:b∈ad):b<w.heap.size:=by
 obtain⟨c,f,hc⟩:=h.isT hb
 exact lt_of_heap hc
theorem StoM.not_mem(h:StoM ar ad X rk σ w){b:Nat}{o:Obj}(hb:w.heap[b]?=some o)(ho:∀c f,o≠.cells c tyType f):b∉ad:=fun hm=>by
 obtain⟨c,f,hc⟩:=h.isT hm
 rw[hb]at hc
 exact ho c f (Option.some.inj hc)
theorem NodeAt.kept(h:NodeAt ad X rk σ w i)(h1:∀c f,w.heap[adA ad i]?=some (.cells c tyType f)->w'.heap[adA ad i]?=w.heap[adA ad i]?)(h2:∀k c f,¬X k->w.heap[k]?=some (.cells c tyTypeP f)->w'.heap[k]?=w.heap[k]?):NodeAt ad X rk σ w' i:=by
 obtain⟨pv,fv,a1,a2,a3,a4⟩:=h
 exact⟨pv,fv,(h1 _ _ a1).trans a1,ownsRow_kept a2 fun k c f hk hc=>h2 k c f (a3 k hk) hc,a3,a4⟩
theorem StoM.kept(h:StoM ar ad X rk σ w)(h1:∀k,k∈ad->w'.heap[k]?=w.heap[k]?)(h2:∀k c f,¬X k->w.heap[k]?=some (.cells c tyTypeP f)->w'.heap[k]?=w.heap[k]?):StoM ar ad X rk σ w':=
 ⟨h.ok,h.len,h.lt,fun i hi=>(h.node i hi).kept (fun _ _ _=>h1 _ (adA_mem (by rw[h.len];exact hi))) h2⟩
theorem StoM.below(h:StoM ar ad X rk σ w)(hb:Below w.heap.size w w'):StoM ar ad X rk σ w':=
 h.kept (fun k hk=>hb.block k (h.ad_lt hk)) (fun k _ _ _ hc=>hb.block k (lt_of_heap hc))
theorem StoM.alloc(h:StoM ar ad X rk σ w)(o:Obj):StoM ar ad X rk σ (w.alloc o):=h.below ((Below.refl _ _).alloc (le_refl _) o)
theorem StoM.cells(h:StoM ar ad X rk σ w)(hi:i<σ.nodes.length):∃pv fv,w.heap[adA ad i]?=some (.cells #[.string (bs (σ.node i).name),pv,fv,.int .i64 (σ.node i).depth] tyType (0,0)) /\
  w.ownsRow 0 tyTypeP 1 pv (σ.node i).parts.length ((σ.node i).parts.map (adV ad))/\((σ.root i=i/\fv=.pointer none)\/(σ.root i≠i/\∃j,j<σ.nodes.length/\fv=adV ad j/\σ.root j=σ.root i/\rk j<rk i)):=by
 obtain⟨pv,fv,a1,a2,_,a4⟩:=h.node i hi
 exact⟨pv,fv,a1,a2,a4⟩
theorem StoM.rank(h:StoM ar ad X rk σ w):∀(n i:Nat),rk i<=n->i<σ.nodes.length->rk (σ.root i)<=rk i:=by
 intro n
 induction n with
 |zero=>
  intro i hn hi
  obtain⟨pv,fv,_,_,⟨h1,_⟩|⟨_,j,_,_,_,h5⟩⟩:=h.cells hi
  ·rw[h1];exact le_refl _
  ·omega
 |succ n ih=>
  intro i hn hi
  obtain⟨pv,fv,_,_,⟨h1,_⟩|⟨_,j,h2,_,h4,h5⟩⟩:=h.cells hi
  ·rw[h1];exact le_refl _
  ·have:=ih j (by omega) h2
   rw[h4]at this
   omega
theorem StoM.shorten(h:StoM ar ad X rk σ w)(hi:i<σ.nodes.length)(hne:σ.root i≠i):StoM ar ad X rk σ (w.setCell ⟨adA ad i,2,none⟩ (adV ad (σ.root i))):=by
 have hil:i<ad.length:=by rw[h.len];exact hi
 refine⟨h.ok,h.len,h.lt,fun k hk=>?_⟩
 have hkl:k<ad.length:=by rw[h.len];exact hk
 have hrows:∀(p:Nat)(c:Array Value)(f:Nat×Nat),¬X p->w.heap[p]?=some (.cells c tyTypeP f)->(w.setCell ⟨adA ad i,2,none⟩ (adV ad (σ.root i))).heap[p]?=w.heap[p]?:=fun p c f _ hc=>by
  refine Below.heap_setCell _ _ _ _ (fun e=>?_)
  obtain⟨c2,f2,hc2⟩:=h.isT (adA_mem hil)
  rw[e,hc2]at hc
  exact absurd (cells_ty hc) (by decide)
 by_cases hki:k=i
 ·subst hki
  obtain⟨pv,fv,a1,a2,a3,a4⟩:=h.node k hk
  refine⟨pv,adV ad (σ.root k),?_,ownsRow_kept a2 fun q c f hq hc=>hrows q c f (a3 q hq) hc,a3,inr ⟨hne,σ.root k,h.ok.root_lt hk,rfl,h.ok.root_root k,?_⟩⟩
  ·rw[heap_setCell_same _ _ _ _ _ _ a1];rfl
  ·rcases a4 with⟨h1,_⟩|⟨_,j,h2,_,h4,h5⟩
   ·exact absurd h1 hne
   ·have:=h.rank (rk j) j (le_refl _) h2
    rw[h4]at this
    omega
 ·refine(h.node k hk).kept (fun c f _=>Below.heap_setCell _ _ _ _ (fun e=>hki (adA_inj h.lt hkl hil e))) hrows
theorem StoM.setDepth(h:StoM ar ad X rk σ w)(hi:i<σ.nodes.length)(d:Nat):StoM ar ad X rk (σ.setDepth i d) (w.setCell ⟨adA ad i,3,none⟩ (.int .i64 d)):=by
 have hil:i<ad.length:=by rw[h.len];exact hi
 have hal:=Alike.setDepth σ i d
 refine⟨h.ok.alike hal,by rw[hal.len];exact h.len,h.lt,fun k hk=>?_⟩
 rw[hal.len]at hk
 have hkl:k<ad.length:=by rw[h.len];exact hk
 have hrows:∀(p:Nat)(c:Array Value)(f:Nat×Nat),¬X p->w.heap[p]?=some (.cells c tyTypeP f)->(w.setCell ⟨adA ad i,3,none⟩ (.int .i64 d)).heap[p]?=w.heap[p]?:=fun p c f _ hc=>by
  refine Below.heap_setCell _ _ _ _ (fun e=>?_)
  obtain⟨c2,f2,hc2⟩:=h.isT (adA_mem hil)
  rw[e,hc2]at hc
  exact absurd (cells_ty hc) (by decide)
 obtain⟨pv,fv,a1,a2,a3,a4⟩:=h.node k hk
 have hroot:∀x,(σ.setDepth i d).root x=σ.root x:=fun x=>hal.root x
 have hlen:=hal.len
 by_cases hki:k=i
 ·subst hki
  refine⟨pv,fv,?_,?_,a3,?_⟩
  ·rw[heap_setCell_same _ _ _ _ _ _ a1,TS.setDepth_node,if_pos ⟨rfl,hi⟩];rfl
  ·rw[hal.parts];exact ownsRow_kept a2 fun q c f hq hc=>hrows q c f (a3 q hq) hc
  ·simp only[hroot,hlen];exact a4
 ·have hn:(σ.setDepth i d).node k=σ.node k:=by rw[TS.setDepth_node,if_neg (fun e=>hki e.1)]
  refine⟨pv,fv,?_,?_,a3,?_⟩
  ·rw[Below.heap_setCell _ _ _ _ (fun e=>hki (adA_inj h.lt hkl hil e)),hn];exact a1
  ·rw[hn];exact ownsRow_kept a2 fun q c f hq hc=>hrows q c f (a3 q hq) hc
  ·simp only[hroot,hlen];exact a4
theorem StoM.found(h:StoM ar ad X rk σ w){t o:Nat}(ht:t<σ.nodes.length)(ho:o<σ.nodes.length)(hl:σ.isLetter t=true)(h1:σ.root t=t)(h2:σ.root o=o)(hne:t≠o) :
  StoM ar ad X (fun x=>if σ.root x=t then rk x+rk o+1 else rk x) (σ.found t o) (w.setCell ⟨adA ad t,2,none⟩ (adV ad o)):=by
 have htl:t<ad.length:=by rw[h.len];exact ht
 refine⟨h.ok.found ht ho hl h1 h2 hne,h.len,h.lt,fun k hk=>?_⟩
 have hk:k<σ.nodes.length:=hk
 have hkl:k<ad.length:=by rw[h.len];exact hk
 have hrows:∀(p:Nat)(c:Array Value)(f:Nat×Nat),¬X p->w.heap[p]?=some (.cells c tyTypeP f)->(w.setCell ⟨adA ad t,2,none⟩ (adV ad o)).heap[p]?=w.heap[p]?:=fun p c f _ hc=>by
  refine Below.heap_setCell _ _ _ _ (fun e=>?_)
  obtain⟨c2,f2,hc2⟩:=h.isT (adA_mem htl)
  rw[e,hc2]at hc
  exact absurd (cells_ty hc) (by decide)
 obtain⟨pv,fv,a1,a2,a3,a4⟩:=h.node k hk
 by_cases hkt:k=t
 ·subst hkt
  refine⟨pv,adV ad o,?_,ownsRow_kept a2 fun q c f hq hc=>hrows q c f (a3 q hq) hc,a3,inr ⟨?_,o,ho,rfl,?_,?_⟩⟩
  ·rw[heap_setCell_same _ _ _ _ _ _ a1];rfl
  ·rw[TS.found_root,if_pos h1];exact Ne.symm hne
  ·rw[TS.found_root,TS.found_root,if_pos h1,h2,if_neg (Ne.symm hne)]
  ·simp only
   rw[h2,if_neg (Ne.symm hne),if_pos h1];omega
 ·refine⟨pv,fv,?_,ownsRow_kept a2 fun q c f hq hc=>hrows q c f (a3 q hq) hc,a3,?_⟩
  ·rw[Below.heap_setCell _ _ _ _ (fun e=>hkt (adA_inj h.lt hkl htl e))];exact a1
  ·rcases a4 with⟨b1,b2⟩|⟨b1,j,b2,b3,b4,b5⟩
   ·refine inl ⟨?_,b2⟩
    rw[TS.found_root,b1,if_neg hkt]
   ·refine inr ⟨?_,j,b2,b3,?_,?_⟩
    ·rw[TS.found_root]
     split
     ·rintro rfl;exact b1 h2
     ·exact b1
    ·rw[TS.found_root,TS.found_root,b4]
    ·simp only[b4]
     split
     ·omega
     ·exact b5
theorem StoM.new(h:StoM ar ad X rk σ w){t:TN}{pv:Value}(hp:∀p∈t.parts,p<σ.nodes.length)(h0:t.name=[]->t.parts=[])(ha:t.name≠[]->t.parts.length=ar t.name)
  (hr:w.ownsRow 0 tyTypeP 1 pv t.parts.length (t.parts.map (adV ad))) (hX:∀g,pv.ownBlock=some g->¬X g) :
  StoM ar (ad++[w.heap.size]) X rk (σ.new t).2 (w.alloc (.cells #[.string (bs t.name),pv,.pointer none,.int .i64 t.depth] tyType)):=by
 have hA:∀k,k<σ.nodes.length->adA (ad++[w.heap.size]) k=adA ad k:=fun k hk=>by
  unfold adA;rw[List.getElem?_append_left (by rw[h.len];exact hk)]
 have hN:adA (ad++[w.heap.size]) σ.nodes.length=w.heap.size:=by
  unfold adA;rw[<- h.len];simp
 have hV:∀(l:List Nat),(∀p∈l,p<σ.nodes.length)->l.map (adV (ad++[w.heap.size]))=l.map (adV ad):=fun l hl=>by
  refine List.map_congr_left fun p hp=>?_
  unfold adV;rw[hA p (hl p hp)]
 have hroot:∀x,(σ.new t).2.root x=σ.root x:=fun x=>rfl
 refine⟨h.ok.new hp h0 ha,by rw[TS.new_len,length_append,h.len];rfl,?_,fun k hk=>?_⟩
 ·refine List.pairwise_append.2 ⟨h.lt,by simp,fun a ha b hb=>?_⟩
  rw[mem_singleton.1 hb];exact h.ad_lt ha
 ·rw[TS.new_len]at hk
  have hstay:=fun(q:Nat) (hq:q<w.heap.size)=>Below.heap_alloc w (.cells #[.string (bs t.name),pv,.pointer none,.int .i64 t.depth] tyType) q hq
  by_cases hkn:k=σ.nodes.length
  ·subst hkn
   refine⟨pv,.pointer none,?_,?_,hX,inl ⟨?_,rfl⟩⟩
   ·rw[hN,TS.new_node,if_pos rfl];exact(MapKept.heap_alloc w _).1
   ·rw[TS.new_node,if_pos rfl,hV _ hp];exact hr.alloc _
   ·rw[hroot];exact rootL_out h.ok.fnd (le_refl _)
  ·have hk':k<σ.nodes.length:=by omega
   obtain⟨pw,fv,a1,a2,a3,a4⟩:=h.node k hk'
   refine⟨pw,fv,?_,?_,a3,?_⟩
   ·rw[hA k hk',TS.new_node,if_neg hkn,hstay _ (lt_of_heap a1)];exact a1
   ·rw[TS.new_node,if_neg hkn,hV _ (fun p hp=>h.ok.part_lt hk' hp)];exact a2.alloc _
   ·simp only[hroot,TS.new_len]
    rcases a4 with b|⟨b1,j,b2,b3,b4,b5⟩
    ·exact inl b
    ·exact inr ⟨b1,j,by omega,by rw[b3];unfold adV;rw[hA j b2],b4,b5⟩
end
def NMem(w:World):Nd->Nat->Prop
 |.mk k txt ps,b=>∃(pv:Value) (bs':List Nat),w.heap[b]?=some (.cells #[.int .i64 k,.string (bs txt),pv] tyTree (0,0))/\w.ownsRow 0 tyTreeP 1 pv bs'.length (bs'.map ptrV)/\NMems ps bs'
 where
 NMems:List Nd->List Nat->Prop
  |[],[]=>True
  |p::ps,b::bs'=>NMem w p b/\NMems ps bs'
  |_,_=>False
theorem NMem.inv{w:World}{k:Nat}{txt:Nm}{ps:List Nd}{b:Nat}(h:NMem w (.mk k txt ps) b):∃(pv:Value) (bs':List Nat),w.heap[b]?=some (.cells #[.int .i64 k,.string (bs txt),pv] tyTree (0,0))/\w.ownsRow 0 tyTreeP 1 pv bs'.length (bs'.map ptrV)/\NMem.NMems w ps bs':=by
 rw[NMem]at h;exact h
theorem NMem.mk{w:World}{k:Nat}{txt:Nm}{ps:List Nd}{b:Nat}{pv:Value}{bs':List Nat}(h1:w.heap[b]?=some (.cells #[.int .i64 k,.string (bs txt),pv] tyTree (0,0)))(h2:w.ownsRow 0 tyTreeP 1 pv bs'.length (bs'.map ptrV))(h3:NMem.NMems w ps bs'):NMem w (.mk k txt ps) b:=by
 rw[NMem];exact⟨pv,bs',h1,h2,h3⟩
theorem NMem.NMems.len{w:World}:∀{ps:List Nd}{l:List Nat},NMem.NMems w ps l->l.length=ps.length:=by
 intro ps
 induction ps with
 |nil=>intro l h;cases l with
  |nil=>rfl
  |cons=>simp[NMem.NMems]at h
 |cons p r ih=>intro l h;cases l with
  |nil=>simp[NMem.NMems]at h
  |cons b l=>rw[NMem.NMems]at h;simp[ih h.2]
theorem NMem.NMems.at{w:World}:∀{ps:List Nd}{l:List Nat},NMem.NMems w ps l->∀{i:Nat}{p:Nd},ps[i]?=some p->∃b,l[i]?=some b/\NMem w p b:=by
 intro ps
 induction ps with
 |nil=>intro l _ i p hp;simp at hp
 |cons q r ih=>intro l h i p hp;cases l with
  |nil=>simp[NMem.NMems]at h
  |cons b l=>
   rw[NMem.NMems]at h
   cases i with
   |zero=>simp at hp;subst hp;exact⟨b,rfl,h.1⟩
   |succ i=>simp at hp;simpa using ih h.2 hp
theorem NMem.kept{w w':World}(h1:∀(k:Nat)(c:Array Value)(f:Nat×Nat),w.heap[k]?=some (.cells c tyTree f)->w'.heap[k]?=w.heap[k]?)(h2:∀(k:Nat)(c:Array Value)(f:Nat×Nat),w.heap[k]?=some (.cells c tyTreeP f)->w'.heap[k]?=w.heap[k]?) :
  ∀(t:Nd)(b:Nat),NMem w t b->NMem w' t b:=
 Nd.rec (motive_1:=fun t=>∀b,NMem w t b->NMem w' t b) (motive_2:=fun ps=>∀l,NMem.NMems w ps l->NMem.NMems w' ps l)
  (fun k txt ps ih b h=>by
   obtain⟨pv,l,a1,a2,a3⟩:=h.inv
   exact NMem.mk ((h1 _ _ _ a1).trans a1) (ownsRow_kept a2 fun q c f _ hc=>h2 q c f hc) (ih l a3))
  (fun l h=>by cases l with
   |nil=>simp[NMem.NMems]
   |cons=>simp[NMem.NMems]at h)
  (fun p r ihp ihr l h=>by cases l with
   |nil=>simp[NMem.NMems]at h
   |cons b l=>rw[NMem.NMems]at h ⊢;exact⟨ihp b h.1,ihr l h.2⟩)
theorem NMem.NMems.kept{w w':World}(h1:∀(k:Nat)(c:Array Value)(f:Nat×Nat),w.heap[k]?=some (.cells c tyTree f)->w'.heap[k]?=w.heap[k]?)(h2:∀(k:Nat)(c:Array Value)(f:Nat×Nat),w.heap[k]?=some (.cells c tyTreeP f)->w'.heap[k]?=w.heap[k]?) :
  ∀{ps:List Nd}{l:List Nat},NMem.NMems w ps l->NMem.NMems w' ps l:=by
 intro ps
 induction ps with
 |nil=>intro l h;cases l with
  |nil=>simp[NMem.NMems]
  |cons=>simp[NMem.NMems]at h
 |cons p r ih=>intro l h;cases l with
  |nil=>simp[NMem.NMems]at h
  |cons b l=>rw[NMem.NMems]at h ⊢;exact⟨NMem.kept h1 h2 p b h.1,ih h.2⟩
def Le{α:Type}(a b:Option α):Prop:=∀x,a=some x->b=some x
theorem Le.refl{α:Type}(a:Option α):Le a a:=fun _ h=>h
theorem Le.bind{α β:Type}{a b:Option α}{f g:α->Option β}(h:Le a b)(hf:∀x,Le (f x) (g x)):Le (a.bind f) (b.bind g):=by
 intro x hx
 rw[bind_eq_some_iff]at hx ⊢
 obtain⟨y,hy,hx⟩:=hx
 exact⟨y,h y hy,hf y x hx⟩
theorem Le.cond{α:Type}{a b c d:Option α}(t:Bool)(h1:Le a b)(h2:Le c d):Le (bif t then a else c) (bif t then b else d):=by cases t<;>assumption
theorem Le.ite{α:Type}{a b c d:Option α}(p:Prop)[Decidable p](h1:Le a b)(h2:Le c d):Le (if p then a else c) (if p then b else d):=by split<;>assumption
theorem gtypes_mono:∀n,(∀ts,Le (G.atypes n ts) (G.atypes (n+1) ts))/\(∀ts,Le (G.atypes.typ1 n ts) (G.atypes.typ1 (n+1) ts))/\(∀ts,Le (G.atypes.typ n ts) (G.atypes.typ (n+1) ts)):=by
 intro n
 induction n with
 |zero=>exact⟨fun s x h=>by simp[G.atypes]at h,fun s x h=>by simp[G.atypes.typ1]at h,fun s x h=>by simp[G.atypes.typ]at h⟩
 |succ n ih=>
  obtain⟨i1,i2,i3⟩:=ih
  refine⟨fun s=>?_,fun s=>?_,fun s=>?_⟩
  ·rw[G.atypes.eq_2 s n,G.atypes.eq_2 s (n+1)]
   repeat' first|exact Le.refl _|exact i1 _|exact i2 _|exact i3 _|apply Le.cond|apply Le.ite|refine Le.bind ?_ (fun _=>?_)|split
  ·rw[G.atypes.typ1.eq_2 s n,G.atypes.typ1.eq_2 s (n+1)]
   repeat' first|exact Le.refl _|exact i1 _|exact i2 _|exact i3 _|apply Le.cond|apply Le.ite|refine Le.bind ?_ (fun _=>?_)|split
  ·rw[G.atypes.typ.eq_2 s n,G.atypes.typ.eq_2 s (n+1)]
   repeat' first|exact Le.refl _|exact i1 _|exact i2 _|exact i3 _|apply Le.cond|apply Le.ite|refine Le.bind ?_ (fun _=>?_)|split
theorem gpatterns_mono:∀n,(∀ts,Le (G.pattern n ts) (G.pattern (n+1) ts))/\(∀ts,Le (G.pattern.apatterns n ts) (G.pattern.apatterns (n+1) ts))/\(∀ts,Le (G.pattern.apattern n ts) (G.pattern.apattern (n+1) ts)):=by
 intro n
 induction n with
 |zero=>exact⟨fun s x h=>by simp[G.pattern]at h,fun s x h=>by simp[G.pattern.apatterns]at h,fun s x h=>by simp[G.pattern.apattern]at h⟩
 |succ n ih=>
  obtain⟨i1,i2,i3⟩:=ih
  refine⟨fun s=>?_,fun s=>?_,fun s=>?_⟩
  ·rw[G.pattern.eq_2 s n,G.pattern.eq_2 s (n+1)]
   repeat' first|exact Le.refl _|exact i1 _|exact i2 _|exact i3 _|apply Le.cond|apply Le.ite|refine Le.bind ?_ (fun _=>?_)|split
  ·rw[G.pattern.apatterns.eq_2 s n,G.pattern.apatterns.eq_2 s (n+1)]
   repeat' first|exact Le.refl _|exact i1 _|exact i2 _|exact i3 _|apply Le.cond|apply Le.ite|refine Le.bind ?_ (fun _=>?_)|split
  ·rw[G.pattern.apattern.eq_2 s n,G.pattern.apattern.eq_2 s (n+1)]
   repeat' first|exact Le.refl _|exact i1 _|exact i2 _|exact i3 _|apply Le.cond|apply Le.ite|refine Le.bind ?_ (fun _=>?_)|split
theorem gexprs_mono:∀n,(∀s,Le (G.binding n s) (G.binding (n+1) s))/\(∀s,Le (G.binding.expr n s) (G.binding.expr (n+1) s))/\(∀a s,Le (G.binding.set n a s) (G.binding.set (n+1) a s))/\(∀k s,Le (G.binding.level n k s) (G.binding.level (n+1) k s))/\(∀k a s,Le (G.binding.levels n k a s) (G.binding.levels (n+1) k a s))/\(∀s,Le (G.binding.app n s) (G.binding.app (n+1) s))/\(∀s,Le (G.binding.atoms n s) (G.binding.atoms (n+1) s))/\(∀s,Le (G.binding.atom n s) (G.binding.atom (n+1) s))/\(∀s,Le (G.binding.matches_ n s) (G.binding.matches_ (n+1) s))/\(∀s,Le (G.binding.rows n s) (G.binding.rows (n+1) s)):=by
 intro n
 induction n with
 |zero=>exact⟨fun s x h=>by simp[G.binding]at h,fun s x h=>by simp[G.binding.expr]at h,fun a s x h=>by simp[G.binding.set]at h,fun k s x h=>by simp[G.binding.level]at h,fun k a s x h=>by simp[G.binding.levels]at h,fun s x h=>by simp[G.binding.app]at h,fun s x h=>by simp[G.binding.atoms]at h,fun s x h=>by simp[G.binding.atom]at h,fun s x h=>by simp[G.binding.matches_]at h,fun s x h=>by simp[G.binding.rows]at h⟩
 |succ n ih=>
  obtain⟨i1,i2,j0,i4,i5,i6,i7,i8,i9,i3⟩:=ih
  have patP:=(gpatterns_mono n).1
  refine⟨fun s=>?_,fun s=>?_,fun a s=>?_,fun k s=>?_,fun k a s=>?_,fun s=>?_,fun s=>?_,fun s=>?_,fun s=>?_,fun s=>?_⟩
  ·rw[G.binding.eq_2 s n,G.binding.eq_2 s (n+1)]
   repeat' first|exact Le.refl _|exact i1 _|exact i2 _|exact i3 _|exact i4 _ _|exact i5 _ _ _|exact i6 _|exact i7 _|exact i8 _|exact i9 _|exact j0 _ _|exact patP _|apply Le.cond|apply Le.ite|refine Le.bind ?_ (fun _=>?_)|split
  ·rw[G.binding.expr.eq_2 s n,G.binding.expr.eq_2 s (n+1)]
   repeat' first|exact Le.refl _|exact i1 _|exact i2 _|exact i3 _|exact i4 _ _|exact i5 _ _ _|exact i6 _|exact i7 _|exact i8 _|exact i9 _|exact j0 _ _|exact patP _|apply Le.cond|apply Le.ite|refine Le.bind ?_ (fun _=>?_)|split
  ·rw[G.binding.set.eq_2 a s n,G.binding.set.eq_2 a s (n+1)]
   repeat' first|exact Le.refl _|exact i1 _|exact i2 _|exact i3 _|exact i4 _ _|exact i5 _ _ _|exact i6 _|exact i7 _|exact i8 _|exact i9 _|exact j0 _ _|exact patP _|apply Le.cond|apply Le.ite|refine Le.bind ?_ (fun _=>?_)|split
  ·rw[G.binding.level.eq_2 k s n,G.binding.level.eq_2 k s (n+1)]
   repeat' first|exact Le.refl _|exact i1 _|exact i2 _|exact i3 _|exact i4 _ _|exact i5 _ _ _|exact i6 _|exact i7 _|exact i8 _|exact i9 _|exact j0 _ _|exact patP _|apply Le.cond|apply Le.ite|refine Le.bind ?_ (fun _=>?_)|split
  ·rw[G.binding.levels.eq_2 k a s n,G.binding.levels.eq_2 k a s (n+1)]
   repeat' first|exact Le.refl _|exact i1 _|exact i2 _|exact i3 _|exact i4 _ _|exact i5 _ _ _|exact i6 _|exact i7 _|exact i8 _|exact i9 _|exact j0 _ _|exact patP _|apply Le.cond|apply Le.ite|refine Le.bind ?_ (fun _=>?_)|split
  ·rw[G.binding.app.eq_2 s n,G.binding.app.eq_2 s (n+1)]
   repeat' first|exact Le.refl _|exact i1 _|exact i2 _|exact i3 _|exact i4 _ _|exact i5 _ _ _|exact i6 _|exact i7 _|exact i8 _|exact i9 _|exact j0 _ _|exact patP _|apply Le.cond|apply Le.ite|refine Le.bind ?_ (fun _=>?_)|split
  ·rw[G.binding.atoms.eq_2 s n,G.binding.atoms.eq_2 s (n+1)]
   repeat' first|exact Le.refl _|exact i1 _|exact i2 _|exact i3 _|exact i4 _ _|exact i5 _ _ _|exact i6 _|exact i7 _|exact i8 _|exact i9 _|exact j0 _ _|exact patP _|apply Le.cond|apply Le.ite|refine Le.bind ?_ (fun _=>?_)|split
  ·rw[G.binding.atom.eq_2 s n,G.binding.atom.eq_2 s (n+1)]
   repeat' first|exact Le.refl _|exact i1 _|exact i2 _|exact i3 _|exact i4 _ _|exact i5 _ _ _|exact i6 _|exact i7 _|exact i8 _|exact i9 _|exact j0 _ _|exact patP _|apply Le.cond|apply Le.ite|refine Le.bind ?_ (fun _=>?_)|split
  ·rw[G.binding.matches_.eq_2 s n,G.binding.matches_.eq_2 s (n+1)]
   repeat' first|exact Le.refl _|exact i1 _|exact i2 _|exact i3 _|exact i4 _ _|exact i5 _ _ _|exact i6 _|exact i7 _|exact i8 _|exact i9 _|exact j0 _ _|exact patP _|apply Le.cond|apply Le.ite|refine Le.bind ?_ (fun _=>?_)|split
  ·rw[G.binding.rows.eq_2 s n,G.binding.rows.eq_2 s (n+1)]
   repeat' first|exact Le.refl _|exact i1 _|exact i2 _|exact i3 _|exact i4 _ _|exact i5 _ _ _|exact i6 _|exact i7 _|exact i8 _|exact i9 _|exact j0 _ _|exact patP _|apply Le.cond|apply Le.ite|refine Le.bind ?_ (fun _=>?_)|split
theorem gvariants_mono:∀n ts,Le (G.variants n ts) (G.variants (n+1) ts):=by
 intro n
 induction n with
 |zero=>intro s x h;simp[G.variants]at h
 |succ n ih=>
  intro s
  have i1:=(gtypes_mono n).1
  rw[G.variants.eq_2 s n,G.variants.eq_2 s (n+1)]
  repeat' first|exact Le.refl _|exact ih _|exact i1 _|apply Le.cond|refine Le.bind ?_ (fun _=>?_)
theorem gdecl_mono(ts:Toks)(n:Nat):Le (G.decl n ts) (G.decl (n+1) ts):=by
 have i1:=(gexprs_mono n).1
 have i2:=(gexprs_mono n).2.1
 have i3:=gvariants_mono n
 unfold G.decl
 repeat' first|exact Le.refl _|exact i1 _|exact i2 _|exact i3 _|apply Le.cond|refine Le.bind ?_ (fun _=>?_)
end Go.Proofs.YtcbppnefeonmgaaGreatDoor
