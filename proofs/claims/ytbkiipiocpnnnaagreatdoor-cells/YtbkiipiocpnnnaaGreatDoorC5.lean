import Derived.Test.YtbkiipiocpnnnaaGreatDoorC4
set_option linter.all false
set_option maxHeartbeats 40000000
set_option maxRecDepth 100000
open Go.Proofs.Tryz
open Or (inl inr)
open Nat (le_refl le_trans lt_of_lt_of_le)
open List (length_append length_cons mem_cons_self mem_cons_of_mem mem_singleton map_cons)
namespace Go.Proofs.YtbkiipiocpnnnaaGreatDoor
open Go.RowKit
section
abbrev tyType:TypeId:=94
abbrev tyTypeP:TypeId:=42
def adA(ad:List Nat)(i:Nat):Nat:=(ad[i]?).getD 0
def adV(ad:List Nat)(i:Nat):Value:=ptrV (adA ad i)
theorem cells_ty{c c':Array Value}{t t':TypeId}{f f':Nat×Nat}(h:some (Obj.cells c t f)=some (Obj.cells c' t' f')):t=t':=by
 simp at h;exact h.2.1
structure Kn(D:Nat->Prop)(w w':World):Prop where
 os:w'.os=w.os
 tape:w'.tape=w.tape
 output:w'.output=w.output
 size:w.heap.size<=w'.heap.size
 block:∀k,k<w.heap.size->¬D k->w'.heap[k]?=w.heap[k]?
theorem Kn.refl(D:Nat->Prop)(w:World):Kn D w w:=⟨rfl,rfl,rfl,le_refl _,fun _ _ _=>rfl⟩
theorem Kn.trans{D:Nat->Prop}{a b c:World}(h:Kn D a b)(k:Kn D b c):Kn D a c:=
 ⟨k.os.trans h.os,k.tape.trans h.tape,k.output.trans h.output,le_trans h.size k.size,fun i hi hr=>(k.block i (lt_of_lt_of_le hi h.size) hr).trans (h.block i hi hr)⟩
theorem Kn.trans'{D D':Nat->Prop}{a b c:World}(h:Kn D a b)(k:Kn D' b c)(hD:∀i,i<a.heap.size->D' i->D i):Kn D a c:=
 ⟨k.os.trans h.os,k.tape.trans h.tape,k.output.trans h.output,le_trans h.size k.size,fun i hi hr=>(k.block i (lt_of_lt_of_le hi h.size) (fun e=>hr (hD i hi e))).trans (h.block i hi hr)⟩
theorem Kn.wide{D D':Nat->Prop}{a b:World}(h:Kn D a b)(hD:∀i,i<a.heap.size->D i->D' i):Kn D' a b:=
 ⟨h.os,h.tape,h.output,h.size,fun i hi hr=>h.block i hi fun e=>hr (hD i hi e)⟩
theorem Kn.of_below{D:Nat->Prop}{w w':World}(h:Below w.heap.size w w'):Kn D w w':=⟨h.os,h.tape,h.output,h.size,fun k hk _=>h.block k hk⟩
theorem Kn.alloc{D:Nat->Prop}{a w:World}(h:Kn D a w)(o:Obj):Kn D a (w.alloc o):=
 h.trans (Kn.of_below ((Below.refl _ _).alloc (le_refl _) o))
theorem Kn.drew{D:Nat->Prop}{a w:World}(h:Kn D a w):Kn D a w.drew:=⟨h.os,h.tape,h.output,h.size,h.block⟩
theorem Kn.set{D:Nat->Prop}{a w:World}(h:Kn D a w){p:Addr}(hp:D p.block\/a.heap.size<=p.block)(v:Value):Kn D a (w.setCell p v):=
 ⟨h.os,h.tape,h.output,by have:=h.size;simpa [World.setCell]using this,fun k hk hkr=>by
  rw[Below.heap_setCell _ _ _ _ (fun e=>by subst e;rcases hp with hp|hp;exact hkr hp;omega)];exact h.block k hk hkr⟩
theorem Kn.grown{D:Nat->Prop}{a w w':World}{row:Option Nat}(h:Kn D a w)(hg:w.grownBy w' row)(hr:∀k,row=some k->D k\/a.heap.size<=k):Kn D a w':=
 ⟨hg.os.trans h.os,hg.tape.trans h.tape,hg.output.trans h.output,le_trans h.size hg.size,fun k hk hkr=>by
  rw[hg.block k (lt_of_lt_of_le hk h.size) (fun e=>by rcases hr k e.symm with h1|h1;exact hkr h1;omega)]
  exact h.block k hk hkr⟩
def NodeAt(ad:List Nat)(X:Nat->Prop)(rk:Nat->Nat)(σ:TS)(w:World)(i:Nat):Prop:=
 ∃pv fv,w.heap[adA ad i]?=some (.cells #[.string (bs (σ.node i).name),pv,fv,.int .i64 (σ.node i).depth] tyType (0,0)) /\
  w.ownsRow 0 tyTypeP 1 pv (σ.node i).parts.length ((σ.node i).parts.map (adV ad))/\(∀g,pv.ownBlock=some g->¬X g) /\
  ((σ.root i=i/\fv=.pointer none)\/(σ.root i≠i/\∃j,j<σ.nodes.length/\fv=adV ad j/\σ.root j=σ.root i/\rk j<rk i))
structure StoM(ar:Nm->Nat)(ad:List Nat)(X:Nat->Prop)(rk:Nat->Nat)(σ:TS)(w:World):Prop where
 ok:σ.Ok ar
 len:ad.length=σ.nodes.length
 lt:ad.Pairwise (· < ·)
 node:∀i,i<σ.nodes.length->NodeAt ad X rk σ w i
variable {ar:Nm->Nat}{ad:List Nat}{X:Nat->Prop}{rk:Nat->Nat}{σ:TS}{w w':World}{i j:Nat}
theorem adA_mem(h:i<ad.length):adA ad i∈ad:=by
 unfold adA;rw[List.getElem?_eq_getElem h];exact List.getElem_mem h
theorem adA_inj(hp:ad.Pairwise (· < ·))(hi:i<ad.length)(hj:j<ad.length)(h:adA ad i=adA ad j):i=j:=by
 unfold adA at h
 rw[List.getElem?_eq_getElem hi,List.getElem?_eq_getElem hj]at h
 simp only[Option.getD_some]at h
 rw[List.pairwise_iff_getElem]at hp
 rcases Nat.lt_trichotomy i j with h1|h1|h1
 ·have:=hp i j hi hj h1;omega
 ·exact h1
 ·have:=hp j i hj hi h1;omega
theorem StoM.mem_of(h:StoM ar ad X rk σ w){b:Nat}(hb:b∈ad):∃i,i<σ.nodes.length/\adA ad i=b:=by
 obtain⟨i,hi⟩:=List.getElem?_of_mem hb
 refine⟨i,?_,by unfold adA;rw[hi];rfl⟩
 rw[<- h.len];exact(List.getElem?_eq_some_iff.1 hi).1
theorem StoM.isT(h:StoM ar ad X rk σ w){b:Nat}(hb:b∈ad):∃c f,w.heap[b]?=some (.cells c tyType f):=by
 obtain⟨i,hi,rfl⟩:=h.mem_of hb
 obtain⟨pv,fv,h1,_⟩:=h.node i hi
 exact⟨_,_,h1⟩
theorem StoM.ad_lt(h:StoM ar ad X rk σ w){b:Nat}(hb:b∈ad):b<w.heap.size:=by
 obtain⟨c,f,hc⟩:=h.isT hb
 exact lt_of_heap hc
theorem StoM.not_mem(h:StoM ar ad X rk σ w){b:Nat}{o:Obj}(hb:w.heap[b]?=some o)(ho:∀c f,o≠.cells c tyType f):b∉ad:=fun hm=>by
 obtain⟨c,f,hc⟩:=h.isT hm
 rw[hb]at hc
 exact ho c f (Option.some.inj hc)
theorem NodeAt.kept(h:NodeAt ad X rk σ w i)(h1:∀c f,w.heap[adA ad i]?=some (.cells c tyType f)->w'.heap[adA ad i]?=w.heap[adA ad i]?)(h2:∀k c f,¬X k->w.heap[k]?=some (.cells c tyTypeP f)->w'.heap[k]?=w.heap[k]?):NodeAt ad X rk σ w' i:=by
 obtain⟨pv,fv,a1,a2,a3,a4⟩:=h
 exact⟨pv,fv,(h1 _ _ a1).trans a1,ownsRow_kept a2 fun k c f hk hc=>h2 k c f (a3 k hk) hc,a3,a4⟩
theorem StoM.kept(h:StoM ar ad X rk σ w)(h1:∀k,k∈ad->w'.heap[k]?=w.heap[k]?)(h2:∀k c f,¬X k->w.heap[k]?=some (.cells c tyTypeP f)->w'.heap[k]?=w.heap[k]?):StoM ar ad X rk σ w':=
 ⟨h.ok,h.len,h.lt,fun i hi=>(h.node i hi).kept (fun _ _ _=>h1 _ (adA_mem (by rw[h.len];exact hi))) h2⟩
theorem StoM.below(h:StoM ar ad X rk σ w)(hb:Below w.heap.size w w'):StoM ar ad X rk σ w':=
 h.kept (fun k hk=>hb.block k (h.ad_lt hk)) (fun k _ _ _ hc=>hb.block k (lt_of_heap hc))
theorem StoM.alloc(h:StoM ar ad X rk σ w)(o:Obj):StoM ar ad X rk σ (w.alloc o):=h.below ((Below.refl _ _).alloc (le_refl _) o)
theorem StoM.cells(h:StoM ar ad X rk σ w)(hi:i<σ.nodes.length):∃pv fv,w.heap[adA ad i]?=some (.cells #[.string (bs (σ.node i).name),pv,fv,.int .i64 (σ.node i).depth] tyType (0,0)) /\
  w.ownsRow 0 tyTypeP 1 pv (σ.node i).parts.length ((σ.node i).parts.map (adV ad))/\((σ.root i=i/\fv=.pointer none)\/(σ.root i≠i/\∃j,j<σ.nodes.length/\fv=adV ad j/\σ.root j=σ.root i/\rk j<rk i)):=by
 obtain⟨pv,fv,a1,a2,_,a4⟩:=h.node i hi
 exact⟨pv,fv,a1,a2,a4⟩
theorem StoM.rank(h:StoM ar ad X rk σ w):∀(n i:Nat),rk i<=n->i<σ.nodes.length->rk (σ.root i)<=rk i:=by
 intro n
 induction n with
 |zero=>
  intro i hn hi
  obtain⟨pv,fv,_,_,⟨h1,_⟩|⟨_,j,_,_,_,h5⟩⟩:=h.cells hi
  ·rw[h1];exact le_refl _
  ·omega
 |succ n ih=>
  intro i hn hi
  obtain⟨pv,fv,_,_,⟨h1,_⟩|⟨_,j,h2,_,h4,h5⟩⟩:=h.cells hi
  ·rw[h1];exact le_refl _
  ·have:=ih j (by omega) h2
   rw[h4]at this
   omega
theorem StoM.shorten(h:StoM ar ad X rk σ w)(hi:i<σ.nodes.length)(hne:σ.root i≠i):StoM ar ad X rk σ (w.setCell ⟨adA ad i,2,none⟩ (adV ad (σ.root i))):=by
 have hil:i<ad.length:=by rw[h.len];exact hi
 refine⟨h.ok,h.len,h.lt,fun k hk=>?_⟩
 have hkl:k<ad.length:=by rw[h.len];exact hk
 have hrows:∀(p:Nat)(c:Array Value)(f:Nat×Nat),¬X p->w.heap[p]?=some (.cells c tyTypeP f)->(w.setCell ⟨adA ad i,2,none⟩ (adV ad (σ.root i))).heap[p]?=w.heap[p]?:=fun p c f _ hc=>by
  refine Below.heap_setCell _ _ _ _ (fun e=>?_)
  obtain⟨c2,f2,hc2⟩:=h.isT (adA_mem hil)
  rw[e,hc2]at hc
  exact absurd (cells_ty hc) (by decide)
 by_cases hki:k=i
 ·subst hki
  obtain⟨pv,fv,a1,a2,a3,a4⟩:=h.node k hk
  refine⟨pv,adV ad (σ.root k),?_,ownsRow_kept a2 fun q c f hq hc=>hrows q c f (a3 q hq) hc,a3,inr ⟨hne,σ.root k,h.ok.root_lt hk,rfl,h.ok.root_root k,?_⟩⟩
  ·rw[heap_setCell_same _ _ _ _ _ _ a1];rfl
  ·rcases a4 with⟨h1,_⟩|⟨_,j,h2,_,h4,h5⟩
   ·exact absurd h1 hne
   ·have:=h.rank (rk j) j (le_refl _) h2
    rw[h4]at this
    omega
 ·refine(h.node k hk).kept (fun c f _=>Below.heap_setCell _ _ _ _ (fun e=>hki (adA_inj h.lt hkl hil e))) hrows
theorem StoM.setDepth(h:StoM ar ad X rk σ w)(hi:i<σ.nodes.length)(d:Nat):StoM ar ad X rk (σ.setDepth i d) (w.setCell ⟨adA ad i,3,none⟩ (.int .i64 d)):=by
 have hil:i<ad.length:=by rw[h.len];exact hi
 have hal:=Alike.setDepth σ i d
 refine⟨h.ok.alike hal,by rw[hal.len];exact h.len,h.lt,fun k hk=>?_⟩
 rw[hal.len]at hk
 have hkl:k<ad.length:=by rw[h.len];exact hk
 have hrows:∀(p:Nat)(c:Array Value)(f:Nat×Nat),¬X p->w.heap[p]?=some (.cells c tyTypeP f)->(w.setCell ⟨adA ad i,3,none⟩ (.int .i64 d)).heap[p]?=w.heap[p]?:=fun p c f _ hc=>by
  refine Below.heap_setCell _ _ _ _ (fun e=>?_)
  obtain⟨c2,f2,hc2⟩:=h.isT (adA_mem hil)
  rw[e,hc2]at hc
  exact absurd (cells_ty hc) (by decide)
 obtain⟨pv,fv,a1,a2,a3,a4⟩:=h.node k hk
 have hroot:∀x,(σ.setDepth i d).root x=σ.root x:=fun x=>hal.root x
 have hlen:=hal.len
 by_cases hki:k=i
 ·subst hki
  refine⟨pv,fv,?_,?_,a3,?_⟩
  ·rw[heap_setCell_same _ _ _ _ _ _ a1,TS.setDepth_node,if_pos ⟨rfl,hi⟩];rfl
  ·rw[hal.parts];exact ownsRow_kept a2 fun q c f hq hc=>hrows q c f (a3 q hq) hc
  ·simp only[hroot,hlen];exact a4
 ·have hn:(σ.setDepth i d).node k=σ.node k:=by rw[TS.setDepth_node,if_neg (fun e=>hki e.1)]
  refine⟨pv,fv,?_,?_,a3,?_⟩
  ·rw[Below.heap_setCell _ _ _ _ (fun e=>hki (adA_inj h.lt hkl hil e)),hn];exact a1
  ·rw[hn];exact ownsRow_kept a2 fun q c f hq hc=>hrows q c f (a3 q hq) hc
  ·simp only[hroot,hlen];exact a4
theorem StoM.found(h:StoM ar ad X rk σ w){t o:Nat}(ht:t<σ.nodes.length)(ho:o<σ.nodes.length)(hl:σ.isLetter t=true)(h1:σ.root t=t)(h2:σ.root o=o)(hne:t≠o) :
  StoM ar ad X (fun x=>if σ.root x=t then rk x+rk o+1 else rk x) (σ.found t o) (w.setCell ⟨adA ad t,2,none⟩ (adV ad o)):=by
 have htl:t<ad.length:=by rw[h.len];exact ht
 refine⟨h.ok.found ht ho hl h1 h2 hne,h.len,h.lt,fun k hk=>?_⟩
 have hk:k<σ.nodes.length:=hk
 have hkl:k<ad.length:=by rw[h.len];exact hk
 have hrows:∀(p:Nat)(c:Array Value)(f:Nat×Nat),¬X p->w.heap[p]?=some (.cells c tyTypeP f)->(w.setCell ⟨adA ad t,2,none⟩ (adV ad o)).heap[p]?=w.heap[p]?:=fun p c f _ hc=>by
  refine Below.heap_setCell _ _ _ _ (fun e=>?_)
  obtain⟨c2,f2,hc2⟩:=h.isT (adA_mem htl)
  rw[e,hc2]at hc
  exact absurd (cells_ty hc) (by decide)
 obtain⟨pv,fv,a1,a2,a3,a4⟩:=h.node k hk
 by_cases hkt:k=t
 ·subst hkt
  refine⟨pv,adV ad o,?_,ownsRow_kept a2 fun q c f hq hc=>hrows q c f (a3 q hq) hc,a3,inr ⟨?_,o,ho,rfl,?_,?_⟩⟩
  ·rw[heap_setCell_same _ _ _ _ _ _ a1];rfl
  ·rw[TS.found_root,if_pos h1];exact Ne.symm hne
  ·rw[TS.found_root,TS.found_root,if_pos h1,h2,if_neg (Ne.symm hne)]
  ·simp only
   rw[h2,if_neg (Ne.symm hne),if_pos h1];omega
 ·refine⟨pv,fv,?_,ownsRow_kept a2 fun q c f hq hc=>hrows q c f (a3 q hq) hc,a3,?_⟩
  ·rw[Below.heap_setCell _ _ _ _ (fun e=>hkt (adA_inj h.lt hkl htl e))];exact a1
  ·rcases a4 with⟨b1,b2⟩|⟨b1,j,b2,b3,b4,b5⟩
   ·refine inl ⟨?_,b2⟩
    rw[TS.found_root,b1,if_neg hkt]
   ·refine inr ⟨?_,j,b2,b3,?_,?_⟩
    ·rw[TS.found_root]
     split
     ·rintro rfl;exact b1 h2
     ·exact b1
    ·rw[TS.found_root,TS.found_root,b4]
    ·simp only[b4]
     split
     ·omega
     ·exact b5
theorem StoM.new(h:StoM ar ad X rk σ w){t:TN}{pv:Value}(hp:∀p∈t.parts,p<σ.nodes.length)(h0:t.name=[]->t.parts=[])(ha:t.name≠[]->t.parts.length=ar t.name)
  (hr:w.ownsRow 0 tyTypeP 1 pv t.parts.length (t.parts.map (adV ad))) (hX:∀g,pv.ownBlock=some g->¬X g) :
  StoM ar (ad++[w.heap.size]) X rk (σ.new t).2 (w.alloc (.cells #[.string (bs t.name),pv,.pointer none,.int .i64 t.depth] tyType)):=by
 have hA:∀k,k<σ.nodes.length->adA (ad++[w.heap.size]) k=adA ad k:=fun k hk=>by
  unfold adA;rw[List.getElem?_append_left (by rw[h.len];exact hk)]
 have hN:adA (ad++[w.heap.size]) σ.nodes.length=w.heap.size:=by
  unfold adA;rw[<- h.len];simp
 have hV:∀(l:List Nat),(∀p∈l,p<σ.nodes.length)->l.map (adV (ad++[w.heap.size]))=l.map (adV ad):=fun l hl=>by
  refine List.map_congr_left fun p hp=>?_
  unfold adV;rw[hA p (hl p hp)]
 have hroot:∀x,(σ.new t).2.root x=σ.root x:=fun x=>rfl
 refine⟨h.ok.new hp h0 ha,by rw[TS.new_len,length_append,h.len];rfl,?_,fun k hk=>?_⟩
 ·refine List.pairwise_append.2 ⟨h.lt,by simp,fun a ha b hb=>?_⟩
  rw[mem_singleton.1 hb];exact h.ad_lt ha
 ·rw[TS.new_len]at hk
  have hstay:=fun(q:Nat) (hq:q<w.heap.size)=>Below.heap_alloc w (.cells #[.string (bs t.name),pv,.pointer none,.int .i64 t.depth] tyType) q hq
  by_cases hkn:k=σ.nodes.length
  ·subst hkn
   refine⟨pv,.pointer none,?_,?_,hX,inl ⟨?_,rfl⟩⟩
   ·rw[hN,TS.new_node,if_pos rfl];exact(MapKept.heap_alloc w _).1
   ·rw[TS.new_node,if_pos rfl,hV _ hp];exact hr.alloc _
   ·rw[hroot];exact rootL_out h.ok.fnd (le_refl _)
  ·have hk':k<σ.nodes.length:=by omega
   obtain⟨pw,fv,a1,a2,a3,a4⟩:=h.node k hk'
   refine⟨pw,fv,?_,?_,a3,?_⟩
   ·rw[hA k hk',TS.new_node,if_neg hkn,hstay _ (lt_of_heap a1)];exact a1
   ·rw[TS.new_node,if_neg hkn,hV _ (fun p hp=>h.ok.part_lt hk' hp)];exact a2.alloc _
   ·simp only[hroot,TS.new_len]
    rcases a4 with b|⟨b1,j,b2,b3,b4,b5⟩
    ·exact inl b
    ·exact inr ⟨b1,j,by omega,by rw[b3];unfold adV;rw[hA j b2],b4,b5⟩
end
abbrev tyKey:TypeId:=69
theorem laidOutP:laidOutB prog=true:=by kernel_rfl
theorem key_law:WideMaps.KeyLaw prog tyKey:=
 deep_law_laid laidOutP (m:=5) (by decide) (by
                         have:decide (tyKey<prog.types.size)=true:=by kernel_rfl
                         simpa using this) (by kernel_rfl) (by kernel_rfl)
def NMem(w:World):Nd->Nat->Prop
 |.mk k txt ps,b=>∃(pv:Value) (bs':List Nat),w.heap[b]?=some (.cells #[.int .i64 k,.string (bs txt),pv] tyTree (0,0))/\w.ownsRow 0 tyTreeP 1 pv bs'.length (bs'.map ptrV)/\NMems ps bs'
 where
 NMems:List Nd->List Nat->Prop
  |[],[]=>True
  |p::ps,b::bs'=>NMem w p b/\NMems ps bs'
  |_,_=>False
theorem NMem.inv{w:World}{k:Nat}{txt:Nm}{ps:List Nd}{b:Nat}(h:NMem w (.mk k txt ps) b):∃(pv:Value) (bs':List Nat),w.heap[b]?=some (.cells #[.int .i64 k,.string (bs txt),pv] tyTree (0,0))/\w.ownsRow 0 tyTreeP 1 pv bs'.length (bs'.map ptrV)/\NMem.NMems w ps bs':=by
 rw[NMem]at h;exact h
theorem NMem.mk{w:World}{k:Nat}{txt:Nm}{ps:List Nd}{b:Nat}{pv:Value}{bs':List Nat}(h1:w.heap[b]?=some (.cells #[.int .i64 k,.string (bs txt),pv] tyTree (0,0)))(h2:w.ownsRow 0 tyTreeP 1 pv bs'.length (bs'.map ptrV))(h3:NMem.NMems w ps bs'):NMem w (.mk k txt ps) b:=by
 rw[NMem];exact⟨pv,bs',h1,h2,h3⟩
theorem NMem.NMems.len{w:World}:∀{ps:List Nd}{l:List Nat},NMem.NMems w ps l->l.length=ps.length:=by
 intro ps
 induction ps with
 |nil=>intro l h;cases l with
  |nil=>rfl
  |cons=>simp[NMem.NMems]at h
 |cons p r ih=>intro l h;cases l with
  |nil=>simp[NMem.NMems]at h
  |cons b l=>rw[NMem.NMems]at h;simp[ih h.2]
theorem NMem.NMems.at{w:World}:∀{ps:List Nd}{l:List Nat},NMem.NMems w ps l->∀{i:Nat}{p:Nd},ps[i]?=some p->∃b,l[i]?=some b/\NMem w p b:=by
 intro ps
 induction ps with
 |nil=>intro l _ i p hp;simp at hp
 |cons q r ih=>intro l h i p hp;cases l with
  |nil=>simp[NMem.NMems]at h
  |cons b l=>
   rw[NMem.NMems]at h
   cases i with
   |zero=>simp at hp;subst hp;exact⟨b,rfl,h.1⟩
   |succ i=>simp at hp;simpa using ih h.2 hp
theorem NMem.kept{w w':World}(h1:∀(k:Nat)(c:Array Value)(f:Nat×Nat),w.heap[k]?=some (.cells c tyTree f)->w'.heap[k]?=w.heap[k]?)(h2:∀(k:Nat)(c:Array Value)(f:Nat×Nat),w.heap[k]?=some (.cells c tyTreeP f)->w'.heap[k]?=w.heap[k]?) :
  ∀(t:Nd)(b:Nat),NMem w t b->NMem w' t b:=
 Nd.rec (motive_1:=fun t=>∀b,NMem w t b->NMem w' t b) (motive_2:=fun ps=>∀l,NMem.NMems w ps l->NMem.NMems w' ps l)
  (fun k txt ps ih b h=>by
   obtain⟨pv,l,a1,a2,a3⟩:=h.inv
   exact NMem.mk ((h1 _ _ _ a1).trans a1) (ownsRow_kept a2 fun q c f _ hc=>h2 q c f hc) (ih l a3))
  (fun l h=>by cases l with
   |nil=>simp[NMem.NMems]
   |cons=>simp[NMem.NMems]at h)
  (fun p r ihp ihr l h=>by cases l with
   |nil=>simp[NMem.NMems]at h
   |cons b l=>rw[NMem.NMems]at h ⊢;exact⟨ihp b h.1,ihr l h.2⟩)
theorem NMem.NMems.kept{w w':World}(h1:∀(k:Nat)(c:Array Value)(f:Nat×Nat),w.heap[k]?=some (.cells c tyTree f)->w'.heap[k]?=w.heap[k]?)(h2:∀(k:Nat)(c:Array Value)(f:Nat×Nat),w.heap[k]?=some (.cells c tyTreeP f)->w'.heap[k]?=w.heap[k]?) :
  ∀{ps:List Nd}{l:List Nat},NMem.NMems w ps l->NMem.NMems w' ps l:=by
 intro ps
 induction ps with
 |nil=>intro l h;cases l with
  |nil=>simp[NMem.NMems]
  |cons=>simp[NMem.NMems]at h
 |cons p r ih=>intro l h;cases l with
  |nil=>simp[NMem.NMems]at h
  |cons b l=>rw[NMem.NMems]at h ⊢;exact⟨NMem.kept h1 h2 p b h.1,ih h.2⟩
def kyV(x:Ky):Value:=.agg #[.int .i64 x.1,.string (bs x.2)]
def okK(x:Ky):Prop:=x.1<3/\x.2.length<=100000000
theorem key_fields : (match prog.underlying tyKey with | some (.struct fs) => some (fs.toList.map fun f => (f.name != "_", f.type, f.offset)) | _ => none) = some [(true, 67, 0), (true, tyStr, 1)] := by kernel_rfl
theorem key_type:prog.keyType tyKey=true:=by kernel_rfl
theorem key_cells:(prog.cellsOf tyKey,prog.cellsOf 67,prog.cellsOf tyStr)=(2,1,1):=by kernel_rfl
theorem key_deep:∃d,prog.types.size+1=d+2:=⟨prog.types.size-1,by
 have:decide (1<=prog.types.size)=true:=by kernel_rfl
 have:1<=prog.types.size:=of_decide_eq_true this
 omega⟩
theorem ky_key(x:Ky)(h:okK x):∃l,keyOf prog tyKey (kyV x)=some l:=by
 obtain⟨sp,nm⟩:=x
 obtain⟨h1,h2⟩:=h
 simp only at h1 h2
 have hf:=key_fields
 have hc:=key_cells
 simp only[Prod.mk.injEq]at hc
 obtain⟨hc1,hc2,hc3⟩:=hc
 obtain⟨d,hd⟩:=key_deep
 cases hu:prog.underlying tyKey with
 |none=>rw[hu]at hf;cases hf
 |some D=>
  cases D with
  |struct fs=>
   rw[hu]at hf
   have hf : fs.toList.map (fun f => (f.name != "_", f.type, f.offset)) = [(true, 67, 0), (true, tyStr, 1)] := by simpa using hf
   match hfs:fs.toList,hf with
   |[],hf=>simp at hf
   |[_],hf=>simp at hf
   |_::_::_::_,hf=>simp at hf
   |[f1,f2],hf=>
    simp only[map_cons,List.map_nil,List.cons.injEq,Prod.mk.injEq,and_true]at hf
    obtain⟨⟨a1,a2,a3⟩,b1,b2,b3⟩:=hf
    have hall : fs.all (fun f => f.name != "_") = true := by
     rw[<- Array.all_toList,hfs];simp[a1,b1]
    have hwf:(Lit.int .i64 (sp:Int)).wf=true:=by
     have:sp=0\/sp=1\/sp=2:=by omega
     rcases this with rfl|rfl|rfl<;>decide
    have hsz:(bs nm).size<=maxLen:=by
     have:(bs nm).size=nm.length:=by simp[bs,ByteArray.size]
     rw[this];unfold maxLen;omega
    have k1:prog.keyLits (d+1) 67 [.int .i64 sp]=some [.int .i64 sp]:=by
     simp[Program.keyLits,hwf]
    have k2:prog.keyLits (d+1) tyStr [.string (bs nm)]=some [.string nm]:=by
     simp[Program.keyLits,hsz,bs_data]
    have hL:prog.keyLits (d+2) tyKey [.int .i64 sp,.string (bs nm)]=some [.int .i64 sp,.string nm]:=by
     unfold Program.keyLits
     simp only[hu]
     rw[if_pos ⟨by rw[hc1];rfl,hall⟩,hfs]
     simp only[List.mapM_cons,List.mapM_nil,a2,a3,b2,b3,hc2,hc3,List.drop_zero,List.drop_succ_cons,List.take_succ_cons,List.take_zero,k1,k2]
     rfl
    refine⟨.string (keyBytes [.int .i64 sp,.string nm]),?_⟩
    unfold keyOf kyV
    simp only[hu,key_type,Value.formed,hc1,Bool.true_and]
    rw[hd]
    simp[Value.cells,hL]
  |_=>rw[hu]at hf;cases hf
theorem kyV_inj{a b:Ky}(h:kyV a=kyV b):a=b:=by
 unfold kyV at h
 simp only[Value.agg.injEq,Array.mk.injEq,List.cons.injEq,Value.int.injEq,Value.string.injEq,and_true,true_and]at h
 obtain⟨h1,h2⟩:=h
 have h1:a.1=b.1:=by omega
 have h2:a.2=b.2:=by
  have:=congrArg (fun b=>b.data.toList) h2
  simpa [bs]using this
 exact Prod.ext h1 h2
theorem ky_ops:KeyOps prog tyKey okK (fun _ _=>True) kyV:=KeyOps.of_law key_law ky_key (fun _ _ h=>kyV_inj h)
abbrev tyTab:TypeId:=39
abbrev tyMg:TypeId:=74
def schV(ad:List Nat):Option Nat->Value
 |none=>.pointer none
 |some t=>adV ad t
def MgAt(ad:List Nat)(w:World)(m:Mg)(v:Value):Prop:=
 ∃lv pv bl,v=.agg #[schV ad m.scheme,.string (bs m.vr.data),lv,pv,.int .i64 m.vr.sibs,.int .i64 m.letters]/\(∀t,m.scheme=some t->t<ad.length) /\
  w.ownsRow 0 tyStr 1 lv m.vr.letters.length (m.vr.letters.map strV)/\w.ownsRow 0 tyTreeP 1 pv bl.length (bl.map ptrV)/\NMem.NMems w m.vr.parts bl
def Tab(ad:List Nat)(tb:Nat)(ρ:Env)(w:World):Prop:=
 ∃n f,MapHas okK kyV w tb n f/\∀x,okK x->(ρ.get x=none/\f x=none)\/∃m v,ρ.get x=some m/\f x=some v/\MgAt ad w m v
theorem Tab.raw{ad:List Nat}{tb:Nat}{ρ:Env}{w:World}(h:Tab ad tb ρ w):∃n f,MapHas okK kyV w tb n f:=by
 obtain⟨n,f,h1,_⟩:=h
 exact⟨n,f,h1⟩
theorem MgAt.kept{ad ad':List Nat}{w w':World}{m:Mg}{v:Value}(h:MgAt ad w m v)(ha:∀i,i<ad.length->adA ad' i=adA ad i)(hl:ad.length<=ad'.length)(h0:∀(k:Nat)(c:Array Value)(f:Nat×Nat),w.heap[k]?=some (.cells c tyStr f)->w'.heap[k]?=w.heap[k]?)
  (h1:∀(k:Nat)(c:Array Value)(f:Nat×Nat),w.heap[k]?=some (.cells c tyTree f)->w'.heap[k]?=w.heap[k]?) (h2:∀(k:Nat)(c:Array Value)(f:Nat×Nat),w.heap[k]?=some (.cells c tyTreeP f)->w'.heap[k]?=w.heap[k]?):MgAt ad' w' m v:=by
 obtain⟨lv,pv,bl,e1,e2,e3,e4,e5⟩:=h
 refine⟨lv,pv,bl,?_,fun t ht=>lt_of_lt_of_le (e2 t ht) hl,ownsRow_kept e3 fun k c f _ hc=>h0 k c f hc,ownsRow_kept e4 fun k c f _ hc=>h2 k c f hc,e5.kept h1 h2⟩
 rw[e1]
 congr 3
 cases hm:m.scheme with
 |none=>rfl
 |some t=>show ptrV (adA ad t)=ptrV (adA ad' t);rw[ha t (e2 t hm)]
theorem turned_other{w w':World}{b k:Nat}{c:Array Value}{t:TypeId}{f:Nat×Nat}(h:w.mapTurned w' b)(hc:w.heap[k]?=some (.cells c t f)):w'.heap[k]?=w.heap[k]?:=by
 obtain⟨es,clock,es',clock',hb,rfl⟩:=h
 refine(MapKept.heap_set hb).2 k (fun e=>?_)
 subst e
 rw[hb]at hc;cases hc
theorem MgAt.turned{ad:List Nat}{w w':World}{b:Nat}{m:Mg}{v:Value}(h:MgAt ad w m v)(ht:w.mapTurned w' b):MgAt ad w' m v:=
 h.kept (fun _ _=>rfl) (le_refl _) (fun _ _ _ hc=>turned_other ht hc) (fun _ _ _ hc=>turned_other ht hc) (fun _ _ _ hc=>turned_other ht hc)
theorem under_tab:prog.underlying tyTab=some (.map tyKey tyMg):=by kernel_rfl
theorem mg_zero(w:World):(zeroValue tyMg).run prog w=.ok (.agg #[.pointer none,.string ⟨#[]⟩,.slice none 0 0,.slice none 0 0,.int .i64 0,.int .i64 0]) w:=by
 have h:(prog.info? tyMg).map (fun i=>i.zero)=some (some (.agg #[.pointer none,.string ⟨#[]⟩,.slice none 0 0,.slice none 0 0,.int .i64 0,.int .i64 0])):=by kernel_rfl
 cases hi:prog.info? tyMg with
 |none=>rw[hi]at h;cases h
 |some j=>
  rw[hi]at h
  have hz:j.zero=some (.agg #[.pointer none,.string ⟨#[]⟩,.slice none 0 0,.slice none 0 0,.int .i64 0,.int .i64 0]):=by simpa using h
  simp[zeroValue,typeInfo,hi,hz,Result.andThen]
section
theorem Named_any(s:ByteArray)(a:Option Addr)(n c:Nat)(w:World) :
  Calls prog 56 #[.string s,.slice a n c] w fun e w'=>e=.returned (ptrV w.heap.size)/\w'=w.alloc (.cells #[.string s,.slice a n c,.pointer none,.int .i64 0] tyType):=by
 unfold ptrV
 generalize hQ:(fun(e:Ending) (w':World)=>e=.returned (.pointer (some ⟨w.heap.size,0,none⟩))/\w'=w.alloc (.cells #[.string s,.slice a n c,.pointer none,.int .i64 0] tyType))=Q
 go_enter func56,ntmps56
 go_wp2
 rw[<- hQ]
 exact⟨rfl,rfl⟩
theorem NewLetter_any(d:Nat)(w:World) :
  Calls prog 55 #[.int .i64 d] w fun e w'=>e=.returned (ptrV w.heap.size)/\w'=w.alloc (.cells #[.string (bs []),.slice none 0 0,.pointer none,.int .i64 d] tyType):=by
 unfold ptrV
 generalize hQ:(fun(e:Ending) (w':World)=>e=.returned (.pointer (some ⟨w.heap.size,0,none⟩))/\w'=w.alloc (.cells #[.string (bs []),.slice none 0 0,.pointer none,.int .i64 d] tyType))=Q
 go_enter func55,ntmps55
 go_wp2
 rw[<- hQ]
 exact⟨rfl,rfl⟩
variable {ar:Nm->Nat}{ad:List Nat}{X:Nat->Prop}{rk:Nat->Nat}{σ:TS}{w w':World}{i j:Nat}
theorem StoM.cell(h:StoM ar ad X rk σ w)(hi:i<σ.nodes.length):∃pv fv,
  w.cell? ⟨adA ad i,0,none⟩=some (.string (bs (σ.node i).name))/\w.cell? ⟨adA ad i,1,none⟩=some pv/\w.cell? ⟨adA ad i,2,none⟩=some fv/\w.cell? ⟨adA ad i,3,none⟩=some (.int .i64 (σ.node i).depth) /\
  w.frozen? ⟨adA ad i,2,none⟩=false/\w.frozen? ⟨adA ad i,3,none⟩=false /\
  w.ownsRow 0 tyTypeP 1 pv (σ.node i).parts.length ((σ.node i).parts.map (adV ad))/\((σ.root i=i/\fv=.pointer none)\/(σ.root i≠i/\∃j,j<σ.nodes.length/\fv=adV ad j/\σ.root j=σ.root i/\rk j<rk i)):=by
 obtain⟨pv,fv,h1,h2,h3⟩:=h.cells hi
 refine⟨pv,fv,?_,?_,?_,?_,?_,?_,h2,h3⟩
 ·simp[World.cell?,h1]
 ·simp[World.cell?,h1]
 ·simp[World.cell?,h1]
 ·simp[World.cell?,h1]
 ·exact frozen_of_row _ _ _ _ _ h1
 ·exact frozen_of_row _ _ _ _ _ h1
theorem bs_empty(l:Nm):(bs l).toList.isEmpty=(l==[]):=by
 rw[ByteArray.toList_eq,bs_data]
 cases l<;>rfl
theorem isLetter_any(h:StoM ar ad X rk σ w)(hi:i<σ.nodes.length) :
  Calls prog 34 #[adV ad i] w fun e w'=>e=.returned (.bool (σ.isLetter i))/\w'=w:=by
 obtain⟨pv,fv,h1,_⟩:=h.cell hi
 have hb:(bs (σ.node i).name).toList.isEmpty=σ.isLetter i:=bs_empty _
 unfold adV ptrV
 generalize hQ:(fun(e:Ending) (w':World)=>e=.returned (.bool (σ.isLetter i))/\w'=w)=Q
 clear h
 generalize adA ad i=b at *
 generalize bs (σ.node i).name=nm at *
 go_enter func34,ntmps34
 go_wp2
 rw[<- hQ]
 exact⟨by rw[<- hb];rfl,rfl⟩
def AnsRoot(ar:Nm->Nat)(ad:List Nat)(X:Nat->Prop)(rk:Nat->Nat)(σ:TS)(i:Nat)(w:World)(e:Ending)(w':World):Prop:=
 e=.returned (adV ad (σ.root i))/\StoM ar ad X rk σ w'/\Kn (·∈ad) w w'/\w'.heap.size=w.heap.size
theorem root_any:∀(n:Nat)(i:Nat)(w:World),rk i<n->StoM ar ad X rk σ w->i<σ.nodes.length->Calls prog 33 #[adV ad i] w (AnsRoot ar ad X rk σ i w):=by
 intro n
 induction n with
 |zero=>intro i w hn;omega
 |succ n ih=>
  intro i w hn h hi
  obtain⟨pv,fv,h1,h2,h3,h4,h5,h6,h7,h8⟩:=h.cell hi
  rcases h8 with⟨hr,rfl⟩|⟨hr,j,hj,rfl,hjr,hrk⟩
  ·have hq:AnsRoot ar ad X rk σ i w (.returned (adV ad i)) w:=⟨by rw[hr],h,Kn.refl _ _,rfl⟩
   have HQ:=hide hq
   clear hq h h1 h2 h4 h5 h6 h7 ih
   unfold adV ptrV at *
   generalize AnsRoot ar ad X rk σ i w=Q at *
   generalize adA ad i=b at *
   go_enter func33,ntmps33
   go_wp2
   exact HQ.out
  ·have hc:=ih j w (by omega) h hj
   have hmem:adA ad i∈ad:=adA_mem (by rw[h.len];exact hi)
   have hq:∀e w1,AnsRoot ar ad X rk σ j w e w1->e=.returned (adV ad (σ.root i))/\w1.frozen? ⟨adA ad i,2,none⟩=false/\(w1.cell? ⟨adA ad i,2,none⟩).isSome=true/\AnsRoot ar ad X rk σ i w (.returned (adV ad (σ.root i))) (w1.setCell ⟨adA ad i,2,none⟩ (adV ad (σ.root i))):=by
    rintro e w1⟨a1,a2,a3,a4⟩
    obtain⟨_,fv2,_,_,c3,_,c5,_⟩:=a2.cell hi
    refine⟨by rw[a1,hjr],c5,by rw[c3];rfl,rfl,a2.shorten hi hr,a3.set (inl hmem) _,by simp[a4]⟩
   have HC:=hide hc
   have HQ:=hide hq
   clear hq hc h h1 h2 h4 h6 h7 ih hmem
   unfold adV ptrV at *
   generalize AnsRoot ar ad X rk σ i w=Q at *
   generalize AnsRoot ar ad X rk σ j w=Q1 at *
   generalize adA ad i=b at *
   generalize adA ad j=b1 at *
   generalize adA ad (σ.root i)=b2 at *
   go_enter func33,ntmps33
   go_wp2_with fail
   refine(HC.out).mono ?_;intro e w1 ha
   obtain⟨rfl,hf,hs,hq⟩:=HQ.out e w1 ha
   have HF:=hide hq
   clear ha hq HQ HC
   obtain⟨old,hold⟩:=Option.isSome_iff_exists.1 hs
   go_wp2
   exact HF.out
end
theorem Rq.over{rb:Nat}{w:World}(h:Rq rb [] w):rb<w.heap.size/\(∃tb o cap,w.cell? ⟨rb,0,none⟩=some (.slice (some ⟨tb,o,none⟩) 0 cap))/\w.frozen? ⟨rb,0,none⟩=false:=by
 have hl:=h.lt
 obtain⟨tb,o,cap,cs,hb,_⟩:=h.own
 exact⟨hl,⟨tb,o,cap,by simp[World.cell?,hb]⟩,by simp[World.frozen?,hb]⟩
theorem Rq.more{rb:Nat}{t:List UInt8}{ts:Toks}{w:World}(h:Rq rb (t::ts) w):rb<w.heap.size/\(∃tb o cap,w.cell? ⟨rb,0,none⟩=some (.slice (some ⟨tb,o,none⟩) (ts.length+1) cap)/\w.cell? ⟨tb,o,none⟩=some (.string (bs t))/\tb<w.heap.size/\ts.length+1<=cap/\cap<=9223372036854775807 /\
  ∀o2,(cap=1\/o2=o+1)->Rq rb ts (w.setCell ⟨rb,0,none⟩ (.slice (some ⟨tb,o2,none⟩) ts.length (cap-1))))/\w.frozen? ⟨rb,0,none⟩=false:=by
 have hl:=h.lt
 obtain⟨tb,o,cap,cs,hb,ht,h1,h2,h3⟩:=h.own
 have hne:tb≠rb:=by
  intro e;subst e
  rw[hb]at ht;simp at ht;exact absurd ht.2 (by decide)
 refine⟨hl,⟨tb,o,cap,by simp[World.cell?,hb],?_,(Array.getElem?_eq_some_iff.1 ht).1,h1,h2,fun o2 ho=>?_⟩,by simp[World.frozen?,hb]⟩
 ·have:=h3 0 t rfl
  simp[World.cell?,ht]
  simpa [strV]using this
 ·refine⟨by have:=h.len;rw[length_cons]at this;omega,fun x hx=>h.toks x (mem_cons_of_mem _ hx),tb,o2,cap-1,cs,?_,?_,by rw[length_cons]at h1;omega,by omega,?_⟩
  ·simp only[World.setCell,Array.getElem?_modify,if_pos,hb,Option.map_some,Option.isSome_none,Bool.false_eq_true,if_false]
   simp
  ·rw[Below.heap_setCell _ _ _ _ hne];exact ht
  ·intro i x hi
   rcases ho with ho|rfl
   ·exfalso
    have:ts=[]:=List.length_eq_zero_iff.1 (by rw[length_cons]at h1;omega)
    subst this
    simp at hi
   ·have:=h3 (i+1) x (by simpa using hi)
    rw[<- this];congr 1;omega
theorem peek_any{rb:Nat}{ts:Toks}{w:World}(h:Rq rb ts w) :
  Calls prog 170 #[ptrV rb] w fun e w'=>e=.returned (.string (bs (ts.headD [])))/\w'=w:=by
 cases ts with
 |nil=>
  obtain⟨hl,⟨tb,o,cap,c0⟩,hf⟩:=h.over
  clear h
  unfold ptrV
  go_enter func170,ntmps170
  go_wp2
  go_ret
  exact⟨rfl,rfl⟩
 |cons t r=>
  obtain⟨hl,⟨tb,o,cap,c0,c1,hl2,hc,_,_⟩,hf⟩:=h.more
  have hcap:=h.len
  rw[length_cons]at hcap
  show Calls _ _ _ _ fun e w'=>e=.returned (.string (bs t))/\w'=w
  clear h
  unfold ptrV
  generalize bs t=tx at *
  generalize r.length=n at *
  have hd:((n:Int)+1==0)=false:=by simp;omega
  have hd2:¬((n:Int)+1=0):=by omega
  go_enter func170,ntmps170
  go_wp2
  go_ret
  exact⟨rfl,rfl⟩
def AnsT(rb:Nat)(ts:Toks)(w:World)(e:Ending)(w':World):Prop:=
 Kq rb w w'/\((ts=[]/\e=gaveUp)\/∃t r,ts=t::r/\e=.returned (.string (bs t))/\Rq rb r w')
theorem take_any{rb:Nat}{ts:Toks}{w:World}(h:Rq rb ts w):Calls prog 86 #[ptrV rb] w (AnsT rb ts w):=by
 cases ts with
 |nil=>
  obtain⟨hl,⟨tb,o,cap,c0⟩,hf⟩:=h.over
  clear h
  unfold ptrV
  go_enter func86,ntmps86
  go_wp2
  exact⟨rfl,Kq.refl _ _,inl ⟨rfl,rfl⟩⟩
 |cons t r=>
  obtain⟨hl,⟨tb,o,cap,c0,c1,hl2,hc,hc2,hR⟩,hf⟩:=h.more
  have hcap:=h.len
  rw[length_cons]at hcap
  have hfin:∀w',Kq rb w w'->Rq rb r w'->AnsT rb (t::r) w (.returned (.string (bs t))) w':=fun w' h1 h2=>⟨h1,inr ⟨t,r,rfl,rfl,h2⟩⟩
  have HR:=hide hR
  have HF:=hide hfin
  clear h hR hfin
  unfold ptrV
  generalize AnsT rb (t::r) w=Q at *
  generalize bs t=tx at *
  generalize hn:r.length=n at *
  have hd:((n:Int)+1==0)=false:=by simp;omega
  have hd2:¬((n:Int)+1=0):=by omega
  by_cases hc1:cap=1
  ·subst hc1
   obtain rfl:n=0:=by omega
   go_enter func86,ntmps86
   go_wp2
   exact HF.out _ ((Kq.refl _ _).setR _ _) (HR.out _ (inl trivial))
  ·go_enter func86,ntmps86
   go_wp2
   exact HF.out _ ((Kq.refl _ _).setR _ _) (HR.out _ (inr rfl))
def AnsA(rb:Nat)(x:List UInt8)(ts:Toks)(w:World)(e:Ending)(w':World):Prop:=
 Kq rb w w'/\((ts.headD []≠x/\e=.returned (.bool false)/\Rq rb ts w')\/(ts.headD []=x/\e=.returned (.bool true)/\Rq rb ts.tail w'))
theorem bs_eqb{a b:List UInt8}(h:a≠b):((bs a).toList==(bs b).toList)=false:=by rw[bs_eq];simpa using h
theorem accept_any{rb:Nat}{ts:Toks}{w:World}(x:List UInt8)(hx:x≠[])(h:Rq rb ts w):Calls prog 126 #[ptrV rb,.string (bs x)] w (AnsA rb x ts w):=by
 have hp:=peek_any h
 have ht:=take_any h
 by_cases he:ts.headD []=x
 ·have hfin:∀e w',AnsT rb ts w e w'->AnsA rb x ts w (.returned (.bool true)) w'/\∃v,e=.returned (.string v):=by
   rintro e w'⟨h1,h2⟩
   rcases h2 with⟨rfl,_⟩|⟨t,r,rfl,rfl,h3⟩
   ·exact absurd he.symm hx
   ·exact⟨⟨h1,inr ⟨he,rfl,h3⟩⟩,_,rfl⟩
  rw[he]at hp
  have HP:=hide hp
  have HT:=hide ht
  have HF:=hide hfin
  have hb:((bs x).toList==(bs x).toList)=true:=by simp
  have hb2:((bs x).toList != (bs x).toList)=false:=by simp
  clear hp ht hfin h he hx
  generalize AnsA rb x ts w=Q at *
  generalize bs x=bx at *
  go_enter func126,ntmps126
  go_wp2_with fail
  refine(HP.out).mono ?_;rintro e w1⟨rfl,rfl⟩
  go_wp2_with fail
  refine(HT.out).mono ?_;intro e w1 ha
  obtain⟨hq,v,rfl⟩:=HF.out _ _ ha
  have HQ:=hide hq
  clear ha hq
  go_wp2
  exact HQ.out
 ·have hq:AnsA rb x ts w (.returned (.bool false)) w:=⟨Kq.refl _ _,inl ⟨he,rfl,h⟩⟩
  have hb:=bs_eqb he
  have hb2:((bs (ts.headD [])).toList != (bs x).toList)=true:=by unfold bne;rw[hb];rfl
  have HP:=hide hp
  have HQ:=hide hq
  clear hp ht hq h he hx
  generalize AnsA rb x ts w=Q at *
  generalize bs x=bx at *
  generalize bs (ts.headD [])=bh at *
  go_enter func126,ntmps126
  go_wp2_with fail
  refine(HP.out).mono ?_;rintro e w1⟨rfl,rfl⟩
  go_wp2_with fail
  exact HQ.out
def AnsE(rb:Nat)(x:List UInt8)(ts:Toks)(w:World)(e:Ending)(w':World):Prop:=
 Kq rb w w'/\((ts.headD []≠x/\e=gaveUp)\/(ts.headD []=x/\e=.returned (.tuple #[])/\Rq rb ts.tail w'))
theorem expect_any{rb:Nat}{ts:Toks}{w:World}(x:List UInt8)(hx:x≠[])(h:Rq rb ts w):Calls prog 124 #[ptrV rb,.string (bs x)] w (AnsE rb x ts w):=by
 have ha:=accept_any x hx h
 have h1:∀w',Kq rb w w'->ts.headD []≠x->AnsE rb x ts w gaveUp w':=fun w' k e=>⟨k,inl ⟨e,rfl⟩⟩
 have h2:∀w',Kq rb w w'->ts.headD []=x->Rq rb ts.tail w'->AnsE rb x ts w (.returned (.tuple #[])) w':=fun w' k e r=>⟨k,inr ⟨e,rfl,r⟩⟩
 have HA:=hide ha
 have H1:=hide h1
 have H2:=hide h2
 clear ha h h1 h2 hx
 unfold gaveUp noForm at H1
 generalize AnsE rb x ts w=Q at *
 go_enter func124,ntmps124
 go_wp2_with fail
 refine(HA.out).mono ?_;rintro e w1⟨hk,⟨he,rfl,_⟩|⟨he,rfl,hr⟩⟩
 ·go_wp2
  exact⟨rfl,H1.out _ hk he⟩
 ·have HR:=hide hr
  clear hr
  go_wp2
  go_end0
  exact H2.out _ hk he HR.out
def AnsEnd(ts:Toks)(w:World)(e:Ending)(w':World):Prop:=w'=w/\((ts≠[]/\e=gaveUp)\/(ts=[]/\e=.returned (.tuple #[])))
theorem end_any{rb:Nat}{ts:Toks}{w:World}(h:Rq rb ts w):Calls prog 54 #[ptrV rb] w (AnsEnd ts w):=by
 cases ts with
 |nil=>
  obtain⟨hl,⟨tb,o,cap,c0⟩,hf⟩:=h.over
  clear h
  unfold ptrV
  go_enter func54,ntmps54
  go_wp2
  go_end0
  exact⟨rfl,inr ⟨rfl,rfl⟩⟩
 |cons t r=>
  obtain⟨hl,⟨tb,o,cap,c0,c1,hl2,hc,hc2,hR⟩,hf⟩:=h.more
  have hcap:=h.len
  rw[length_cons]at hcap
  clear h hR
  unfold ptrV
  generalize r.length=n at *
  have hd:decide ((0:Int)<(n:Int)+1)=true:=decide_eq_true (by omega)
  have hd2:(0:Int)<(n:Int)+1:=by omega
  go_enter func54,ntmps54
  go_wp2
  exact⟨rfl,rfl,inl ⟨by simp,rfl⟩⟩
def AnsM(rb:Nat)(ts:Toks)(w:World)(e:Ending)(w':World):Prop:=
 Kq rb w w'/\((G.kind 110 ts=none/\e=gaveUp)\/∃x r,G.kind 110 ts=some (x,r)/\e=.returned (.string (bs x))/\Rq rb r w')
theorem Rq.head{rb:Nat}{ts:Toks}{w:World}(h:Rq rb ts w):Tok (ts.headD []):=by
 cases ts with
 |nil=>exact Tok.nil
 |cons t r=>exact(h.toks t (mem_cons_self ..)).1
theorem bs_size(l:List UInt8):(bs l).size=l.length:=by simp[bs,ByteArray.size]
theorem Tok.size{t:List UInt8}(h:Tok t):(bs t).size<=maxLen:=by rw[bs_size];have:=h.2;unfold maxLen;omega
theorem IsName_tok{t:List UInt8}(h:Tok t)(w:World):Calls prog 169 #[.string (bs t)] w fun e w'=>e=.returned (.bool (tokKind t==110))/\w'=w:=by
 have:=IsName_any (bs t) w h.size
 rw[bs_data,name_kind h]at this
 exact this
theorem IsConstructor_tok{t:List UInt8}(h:Tok t)(w:World):Calls prog 172 #[.string (bs t)] w fun e w'=>e=.returned (.bool (tokKind t==99))/\w'=w:=by
 have:=IsConstructor_any (bs t) w h.size
 rw[bs_data,con_kind t]at this
 exact this
theorem IsNumber_tok{t:List UInt8}(h:Tok t)(w:World):Calls prog 305 #[.string (bs t)] w fun e w'=>e=.returned (.bool (tokKind t==100))/\w'=w:=by
 have:=IsNumber_any (bs t) w h.size
 rw[bs_data,num_kind h]at this
 exact this
theorem IsLetter_tok{t:List UInt8}(h:Tok t)(w:World):Calls prog 229 #[.string (bs t)] w fun e w'=>e=.returned (.bool (tokKind t==108))/\w'=w:=by
 have:=IsLetter_any (bs t) w h.size
 rw[bs_data,letter_kind h]at this
 exact this
theorem kind_cons{k:Int}{ts:Toks}(h0:k≠0)(h:(G.kindOf ts==k)=true):∃t r,ts=t::r:=by
 cases ts with
 |nil=>
  have:G.kindOf []=k:=by simpa using h
  exact absurd this.symm h0
 |cons t r=>exact⟨t,r,rfl⟩
theorem name_any{rb:Nat}{ts:Toks}{w:World}(h:Rq rb ts w):Calls prog 121 #[ptrV rb] w (AnsM rb ts w):=by
 have hp:=peek_any h
 have hi:=IsName_tok h.head w
 have ht:=take_any h
 have HP:=hide hp
 have HI:=hide hi
 have HT:=hide ht
 cases hk:(tokKind (ts.headD [])==110)
 ·have hq:AnsM rb ts w gaveUp w:=⟨Kq.refl _ _,inl ⟨by unfold G.kind G.kindOf;rw[hk];rfl,rfl⟩⟩
  have HQ:=hide hq
  rw[hk]at HI
  clear hp hi ht hq h hk HT
  unfold gaveUp noForm at HQ
  generalize AnsM rb ts w=Q at *
  generalize bs (ts.headD [])=bx at *
  go_enter func121,ntmps121
  go_wp2_with fail
  refine(HP.out).mono ?_;rintro e w1⟨rfl,rfl⟩
  go_wp2_with fail
  refine(HI.out).mono ?_;rintro e w1⟨rfl,rfl⟩
  go_wp2
  exact⟨rfl,HQ.out⟩
 ·obtain⟨t,r,rfl⟩:=kind_cons (ts:=ts) (k:=110) (by decide) hk
  have hq:∀w',Kq rb w w'->Rq rb r w'->AnsM rb (t::r) w (.returned (.string (bs t))) w':=fun w' k1 k2=>⟨k1,inr ⟨t,r,by unfold G.kind G.kindOf;rw[hk];rfl,rfl,k2⟩⟩
  have HQ:=hide hq
  rw[hk]at HI
  clear hp hi ht hq h hk
  generalize AnsM rb (t::r) w=Q at *
  rw[show (t::r).headD []=t from rfl]at HP HI
  go_enter func121,ntmps121
  go_wp2_with fail
  refine(HP.out).mono ?_;rintro e w1⟨rfl,rfl⟩
  go_wp2_with fail
  refine(HI.out).mono ?_;rintro e w1⟨rfl,rfl⟩
  go_wp2_with fail
  refine(HT.out).mono ?_;rintro e w1⟨hk,⟨he,_⟩|⟨t2,r2,he,rfl,hr⟩⟩
  ·cases he
  ·injection he with he1 he2
   subst he1
   subst he2
   have HR:=hide hr
   clear hr
   go_wp2
   exact HQ.out _ hk HR.out
end Go.Proofs.YtbkiipiocpnnnaaGreatDoor
