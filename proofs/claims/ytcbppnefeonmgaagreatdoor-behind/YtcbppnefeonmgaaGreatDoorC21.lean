import Derived.Test.YtcbppnefeonmgaaGreatDoorC20
set_option linter.all false
set_option maxHeartbeats 40000000
set_option maxRecDepth 100000
open Go.Proofs.Tryz
open Or (inl inr)
open Nat (le_refl le_trans zero_le lt_of_lt_of_le lt_succ_self)
open List (append_nil length_append mem_cons_self mem_cons_of_mem mem_append mem_singleton append_assoc cons_append mem_cons map_append length_map map_cons nil_append)
namespace Go.Proofs.YtcbppnefeonmgaaGreatDoor
open Go.RowKit
section
variable {ar:Nm->Nat}{ad:List Nat}{Y:Nat->Prop}{rk:Nat->Nat}{σ:TS}{ρ:Env}{tb yb d:Nat}{gv:Value}{w w':World}{nb:Nat}{txt:Nm}
theorem YM.keptAll(h:YM ar ad Y rk σ ρ tb yb d gv w)(hc:∀(k:Nat)(c:Array Value)(t:TypeId)(f:Nat×Nat),w.heap[k]?=some (.cells c t f)->w'.heap[k]?=w.heap[k]?)(ht:w'.heap[tb]?=w.heap[tb]?)(hs:w.heap.size<=w'.heap.size):YM ar ad Y rk σ ρ tb yb d gv w':=by
 refine⟨h.sto.kept (fun k hk=>?_) (fun k c f _=>hc k c _ f),?_,?_,ownsRow_kept h.giv fun k c f _=>hc k c _ f,fun b hb=>lt_of_lt_of_le (h.yok b hb) hs⟩
 ·obtain⟨c,f,hc2⟩:=h.sto.isT hk
  exact hc k c _ f hc2
 ·have:=h.tab.kept (l:=[]) ht (fun k c f=>hc k c _ f) (fun k c f=>hc k c _ f) (fun k c f=>hc k c _ f)
  rw[append_nil]at this;exact this
 ·rw[hc _ _ _ _ h.typ];exact h.typ
theorem own_cells{v:Value}{B n:Nat}{t:TypeId}{size:Nat}{xs:List Value}{u:World}(ho:u.ownsRow B t size v n xs){b:Nat}(hb:v.ownBlock=some b):∃c,u.heap[b]?=some (.cells c t (0,0)):=by
 rcases ho.2 with⟨rfl,_⟩|⟨g,cap,cur,rfl,_,hgg,_⟩
 ·simp[Value.ownBlock]at hb
 ·have:g=b:=by simpa [Value.ownBlock]using hb
  subst this;exact⟨_,hgg⟩
theorem YM.rerow{v v':Value}{B n:Nat}{xs:List Value}{o:Obj}{u u':World}(h:YM ar ad (XV Y v) rk σ ρ tb yb d gv u)(ho:u.ownsRow B tyTypeP 1 v n xs)(hg:(u.alloc o).grownBy u' v.ownBlock)(hl:∀g,v'.ownBlock=some g->v.ownBlock=some g\/u.heap.size<g)
  (hv:∀g,v'.ownBlock=some g->g<u'.heap.size) (hgv:∀b,v.ownBlock=some b->gv.ownBlock≠some b):YM ar ad (XV Y v') rk σ ρ tb yb d gv u':=by
 have hsz:u.heap.size<=u'.heap.size:=le_trans (by rw[alloc_size];omega) hg.size
 have hne:∀k,k<u.heap.size->v.ownBlock≠some k->u'.heap[k]?=u.heap[k]?:=fun k hk hn=>by
  rw[hg.block k (by rw[alloc_size];omega) (fun e=>hn e.symm),Below.heap_alloc _ _ _ hk]
 have hty:∀(k:Nat)(c:Array Value)(t:TypeId)(f:Nat×Nat),u.heap[k]?=some (.cells c t f)->t≠tyTypeP->u'.heap[k]?=u.heap[k]?:=fun k c t f hc ht=>hne k (lt_of_heap hc) fun e=>by
  obtain⟨c2,h2⟩:=own_cells ho e
  rw[hc]at h2;exact ht (cells_ty h2)
 refine⟨h.sto.reX (fun k hk=>?_) (fun k c f hx hc=>?_) (fun k hk hx=>?_),?_,?_,?_,fun b hb=>?_⟩
 ·obtain⟨c,f,hc2⟩:=h.sto.isT hk
  exact hty k c _ f hc2 (by decide)
 ·exact hne k (lt_of_heap hc) fun e=>hx (inl (inr e))
 ·rcases hx with(hx|hx)|hx
  ·exact inl (inl hx)
  ·rcases hl k hx with h1|h1
   ·exact inl (inr h1)
   ·omega
  ·exact inr hx
 ·have:=h.tab.kept (l:=[]) (w':=u') (hne tb h.tb_lt fun e=>by
   obtain⟨c2,h2⟩:=own_cells ho e
   obtain⟨n,f,⟨es,cl,hm,_⟩,_⟩:=h.tab
   rw[h2]at hm;cases hm) (fun k c f hc=>hty k c _ f hc (by decide)) (fun k c f hc=>hty k c _ f hc (by decide)) (fun k c f hc=>hty k c _ f hc (by decide))
  rw[append_nil]at this;exact this
 ·rw[hty _ _ _ _ h.typ (by decide)];exact h.typ
 ·exact ownsRow_kept h.giv fun k c f hk hc=>hne k (lt_of_heap hc) fun e=>hgv k e hk
 ·rcases hb with hb|hb
  ·exact lt_of_lt_of_le (h.yok b (inl hb)) hsz
  ·exact hv b hb
theorem lettersFor_fst(d:Nat):∀(ls:List Nm)(σ:TS),(lettersFor d ls σ).1.map Prod.fst=ls:=by
 intro ls
 induction ls with
 |nil=>intro σ;rfl
 |cons a r ih=>intro σ;rw[lettersFor];simp[ih]
theorem lettersFor_ext(d:Nat):∀(ls:List Nm)(σ:TS),TExt σ (lettersFor d ls σ).2:=by
 intro ls
 induction ls with
 |nil=>intro σ;exact TExt.refl _
 |cons a r ih=>intro σ;rw[lettersFor];exact(TExt.new _ _).trans (ih _)
theorem lookup_some_of{x:Nm}:∀{m:List (Nm×Nat)},x∈m.map Prod.fst->(m.lookup x).isSome=true:=by
 intro m
 induction m with
 |nil=>intro h;cases h
 |cons p r ih=>
  intro h
  obtain⟨a,b⟩:=p
  rw[List.lookup_cons]
  by_cases he:x=a
  ·subst he;simp
  ·rw[beq_false_of_ne he]
   rcases mem_cons.1 h with h|h
   ·exact absurd h he
   ·exact ih h
theorem lookup_none_of{x:Nm}:∀{m:List (Nm×Nat)},x∉m.map Prod.fst->m.lookup x=none:=by
 intro m
 induction m with
 |nil=>intro _;rfl
 |cons p r ih=>
  intro h
  obtain⟨a,b⟩:=p
  rw[List.lookup_cons]
  have he:x≠a:=fun e=>h (by subst e;exact mem_cons_self ..)
  rw[beq_false_of_ne he]
  exact ih fun e=>h (mem_cons_of_mem _ e)
theorem lookup_snocN(m:List (Nm×Nat))(i:Nm)(j:Nat)(k:Nm):(m++[(i,j)]).lookup k=(m.lookup k).or (if k=i then some j else none):=by
 induction m with
 |nil=>
  rw[nil_append,List.lookup_cons]
  by_cases he:k=i
  ·subst he;simp
  ·rw[beq_false_of_ne he,if_neg he];rfl
 |cons p r ih=>
  obtain⟨a,b⟩:=p
  rw[cons_append,List.lookup_cons,List.lookup_cons]
  by_cases he:k=a
  ·subst he;simp
  ·rw[beq_false_of_ne he];exact ih
structure LtAt(ar:Nm->Nat)(ad:List Nat)(Y:Nat->Prop)(rk:Nat->Nat)(ρ:Env)(tb yb d:Nat)(gv:Value)(w:World)(ls:List Nm)(ch:List (Nm×Nat))(σ':TS)(cb k:Nat)(v:Value)(wr:World)(l:List Nat)(σk:TS):Prop where
 rest:lettersFor d (ls.drop k) σk=(ch.drop k,σ')
 fst:ch.map Prod.fst=ls
 ym:YM ar (ad++l) (XV Y v) rk σk ρ tb yb d gv wr
 chm:ChM (ad++l) (ch.take k) cb wr
 kn:Kn (fun _=>False) w wr
 row:wr.ownsRow w.heap.size tyTypeP 1 v ((ch.take k).map fun p=>adA (ad++l) p.2).length (((ch.take k).map fun p=>adA (ad++l) p.2).map ptrV)
 new:∀b∈l,w.heap.size<=b
 cbn:w.heap.size<=cb
 tbo:tb<w.heap.size
 gvo:∀b,gv.ownBlock=some b->b<w.heap.size
variable {ls:List Nm}{ch:List (Nm×Nat)}{σ' σk:TS}{cb k:Nat}{v:Value}{wr:World}{l:List Nat}
theorem LtAt.start(h:YM ar ad Y rk σ ρ tb yb d gv w){u:World}(hu:Kn (fun _=>False) w u)(hl:lettersFor d ls σ=(ch,σ')):LtAt ar ad Y rk ρ tb yb d gv w ls ch σ' u.heap.size 0 (.slice none 0 0) (u.alloc (.map #[] 0)) [] σ:=by
 have h1:=(h.stays hu).alloc (.map #[] 0)
 refine⟨by simpa using hl,?_,?_,⟨⟨0,_,MapHas.made _ _ u,fun x j _ hj=>by simp at hj⟩,by simp⟩,hu.alloc _,⟨by simp,inl ⟨rfl,by simp⟩⟩,by simp,hu.size,h.tb_lt,fun b hb=>h.gv_lt hb⟩
 ·have:=lettersFor_fst d ls σ;rw[hl]at this;exact this
 ·rw[append_nil]
  exact⟨h1.sto.narrow fun b hb=>by
   rcases hb with(hb|hb)|hb
   ·exact inl hb
   ·simp[Value.ownBlock]at hb
   ·exact inr hb,h1.tab,h1.typ,h1.giv,fun b hb=>by
   rcases hb with hb|hb
   ·exact h1.yok b hb
   ·simp[Value.ownBlock]at hb⟩
theorem LtAt.step{own:Nm}(h:LtAt ar ad Y rk ρ tb yb d gv w ls ch σ' cb k v wr l σk)(hp:ls[k]?=some own)(hok:okS own)(hnd:ls.Nodup)(hn:ls.length<=1000000) :
  ((ch.take k).map fun p=>adA (ad++l) p.2).length<=100000000/\w.heap.size<=(wr.alloc (.cells #[.string (bs []),.slice none 0 0,.pointer none,.int .i64 d] tyType)).heap.size /\
  (wr.alloc (.cells #[.string (bs []),.slice none 0 0,.pointer none,.int .i64 d] tyType)).ownsRow w.heap.size tyTypeP 1 v ((ch.take k).map fun p=>adA (ad++l) p.2).length (((ch.take k).map fun p=>adA (ad++l) p.2).map ptrV) /\
  ∀v' u2,u2.ownsRow w.heap.size tyTypeP 1 v' (((ch.take k).map fun p=>adA (ad++l) p.2)++[wr.heap.size]).length ((((ch.take k).map fun p=>adA (ad++l) p.2)++[wr.heap.size]).map ptrV) ->
   ((wr.alloc (.cells #[.string (bs []),.slice none 0 0,.pointer none,.int .i64 d] tyType)).alloc (.cells #[.pointer (some ⟨wr.heap.size,0,none⟩)] tyTypeP)).grownBy u2 v.ownBlock->(∀g,v'.ownBlock=some g->v.ownBlock=some g\/(wr.alloc (.cells #[.string (bs []),.slice none 0 0,.pointer none,.int .i64 d] tyType)).heap.size<g) ->
   ∃u3,(Instr.mapUpdate tyCh (.map (some cb)) (.string (bs own)) (ptrV wr.heap.size)).run prog u2=.ok () u3/\∃l' σk',LtAt ar ad Y rk ρ tb yb d gv w ls ch σ' cb (k+1) v' u3 l' σk':=by
 have hkl:=(List.getElem?_eq_some_iff.1 hp).1
 have hd:ls.drop k=own::ls.drop (k+1):=by
  rw[List.drop_eq_getElem_cons hkl]
  rw[List.getElem?_eq_getElem hkl]at hp
  rw[Option.some.inj hp]
 have hcl:ch.length=ls.length:=by rw[<- h.fst,length_map]
 have hrest:=h.rest
 rw[hd,lettersFor]at hrest
 simp only[Prod.mk.injEq]at hrest
 obtain⟨hr1,hr2⟩:=hrest
 have hcd:ch.drop (k+1)=(lettersFor d (ls.drop (k+1)) (σk.letter d).2).1:=by
  rw[<- List.tail_drop,<- hr1];rfl
 have hck:ch[k]?=some (own,σk.nodes.length):=by
  rw[<- List.head?_drop,<- hr1];rfl
 have hct:ch.take (k+1)=ch.take k++[(own,σk.nodes.length)]:=by rw[List.take_add_one,hck];rfl
 have hlt:=h.ym.letter d
 have hnew:=h.ym.new1
 generalize hu1:wr.alloc (.cells #[.string (bs []),.slice none 0 0,.pointer none,.int .i64 d] tyType)=u1 at *
 have hk1:Kn (fun _=>False) wr u1:=by rw[<- hu1];exact(Kn.refl _ _).alloc _
 have hrow1:u1.ownsRow w.heap.size tyTypeP 1 v ((ch.take k).map fun p=>adA (ad++l) p.2).length (((ch.take k).map fun p=>adA (ad++l) p.2).map ptrV):=ownsRow_kept h.row fun q c f _ hc=>hk1.block q (lt_of_heap hc) fun h=>h
 have hlen:((ch.take k).map fun p=>adA (ad++l) p.2).length=k:=by rw[length_map,List.length_take];omega
 have hvl:∀b,v.ownBlock=some b->w.heap.size<=b/\b<wr.heap.size:=fun b hb=>h.row.lt b hb
 refine⟨by omega,le_trans h.kn.size hk1.size,hrow1,?_⟩
 intro v' u2 ho hg hl
 have hgv:∀b,v.ownBlock=some b->gv.ownBlock≠some b:=fun b hb e=>by
  have h1:=(hvl b hb).1
  have h2:=h.gvo b e
  omega
 have hy2:=hlt.rerow hrow1 hg hl (fun g hgb=>(ho.lt g hgb).2) hgv
 have hcb1:u1.heap[cb]?=wr.heap[cb]?:=hk1.block cb h.chm.lt fun h=>h
 have hvcb:v.ownBlock≠some cb:=fun e=>by
  obtain⟨c2,h2⟩:=own_cells h.row e
  obtain⟨⟨n,f,⟨es,cl,hm,_⟩,_⟩,_⟩:=h.chm
  rw[h2]at hm;cases hm
 have hcb2:u2.heap[cb]?=wr.heap[cb]?:=by
  have hlt:cb<u1.heap.size:=lt_of_lt_of_le h.chm.lt hk1.size
  rw[hg.block cb (by rw[alloc_size];omega) (fun e=>hvcb e.symm),Below.heap_alloc _ _ _ hlt,hcb1]
 obtain⟨⟨n,f,hm,hf⟩,hch⟩:=h.chm
 obtain⟨u3,hrun,hm3,htn⟩:=(hm.kept hcb2).store str_ops under_ch (v:=ptrV wr.heap.size) hok trivial (fun _ _=>trivial)
 have hcells:∀(q:Nat)(c:Array Value)(t:TypeId)(f:Nat×Nat),u2.heap[q]?=some (.cells c t f)->u3.heap[q]?=u2.heap[q]?:=fun q c t f hc=>turned_other htn hc
 have htb:u3.heap[tb]?=u2.heap[tb]?:=turned_ne htn (by have:=h.tbo;have:=h.cbn;omega)
 have hk2:Kn (fun _=>False) w u2:=((h.kn.trans hk1).alloc _).grown hg fun q hq=>inr (hvl q hq).1
 have hk3:Kn (fun _=>False) w u3:=hk2.turned htn (inr h.cbn)
 have hy3:=hy2.keptAll hcells htb (by rw[turned_size htn];exact le_refl _)
 have hnl:own∉(ch.take k).map Prod.fst:=by
  rw[List.map_take,h.fst]
  intro hm
  have h1:ls=ls.take k++own::ls.drop (k+1):=by rw[<- hd,List.take_append_drop]
  rw[h1]at hnd
  exact(List.nodup_append.1 hnd).2.2 own hm own (mem_cons_self ..) rfl
 have hjl:∀p∈ch.take k,p.2<(ad++l).length:=hch
 refine⟨u3,hrun,l++[wr.heap.size],(σk.letter d).2,?_,h.fst,by rw[<- append_assoc];exact hy3,?_,hk3,?_,?_,h.cbn,h.tbo,h.gvo⟩
 ·rw[hcd];exact Prod.ext rfl hr2
 ·rw[<- append_assoc,hct]
  refine⟨⟨_,_,hm3,fun x j hx hj=>?_⟩,fun p hp=>?_⟩
  ·rw[lookup_snocN]at hj
   by_cases hxo:x=own
   ·subst hxo
    rw[lookup_none_of hnl,if_pos rfl]at hj
    simp only[Option.none_or,Option.some.injEq]at hj
    subst hj
    simp only[if_true]
    rw[hnew]
   ·rw[if_neg hxo,Option.or_none]at hj
    simp only[if_neg hxo]
    rw[hf x j hx hj,adV_app _ (hch (x,j) (lookup_memN hj))]
  ·rcases mem_append.1 hp with hp|hp
   ·have:=hch p hp;rw[length_append];omega
   ·rw[mem_singleton.1 hp,length_append,h.ym.len];simp
 ·have hmap:(ch.take (k+1)).map (fun p=>adA (ad++(l++[wr.heap.size])) p.2)=((ch.take k).map fun p=>adA (ad++l) p.2)++[wr.heap.size]:=by
   have e1:((ch.take k).map fun p=>adA (ad++(l++[wr.heap.size])) p.2)=(ch.take k).map fun p=>adA (ad++l) p.2:=List.map_congr_left fun p hp=>by
    rw[<- append_assoc,adA_app _ (hjl p hp)]
   have e2:adA (ad++(l++[wr.heap.size])) σk.nodes.length=wr.heap.size:=by rw[<- append_assoc,<- h.ym.len,adA_new]
   rw[hct,map_append,e1,map_cons,List.map_nil]
   simp only[e2]
  rw[hmap]
  exact ownsRow_kept ho fun q c f _ hc=>hcells q c _ f hc
 ·intro b hb
  rcases mem_append.1 hb with hb|hb
  ·exact h.new b hb
  ·rw[mem_singleton.1 hb];exact h.kn.size
theorem LtAt.done(h:LtAt ar ad Y rk ρ tb yb d gv w ls ch σ' cb ls.length v wr l σk):σk=σ'/\ch.take ls.length=ch:=by
 have h1:=h.rest
 rw[List.drop_length,lettersFor]at h1
 simp only[Prod.mk.injEq]at h1
 refine⟨h1.2,List.take_of_length_le ?_⟩
 rw[<- h.fst,length_map];exact le_refl _
end
abbrev tyVr:TypeId:=100
structure Bes{S:Type}(get:S->TS)(put:S->TS->S)(E:S->Value->List Nat->World->Prop)(rb:Nat):Prop where
 gp:∀s τ,get (put s τ)=τ
 pg:∀s,put s (get s)=s
 keep:∀{s:S}{v:Value}{ad:List Nat}{w w':World} (l:List Nat) (τ:TS),E s v ad w->Kn (fun _=>False) w w'->τ.given=(get s).given->E (put s τ) v (ad++l) w'
 cel:∀{s:S}{v:Value}{ad:List Nat}{w:World}{k:Nat}{c:Array Value}{t:TypeId}{f:Nat×Nat},E s v ad w->w.heap[k]?=some (.cells c t f)->t=tyStr\/t=tyTree\/t=tyTreeP\/t=tyVr\/t=tyTypeP->k≠rb/\v.ownBlock≠some k
 mp:∀{s:S}{v:Value}{ad:List Nat}{w:World}{k:Nat}{es:Array MapEntry}{cl:Nat},E s v ad w->w.heap[k]?=some (.map es cl)->k≠rb/\v.ownBlock≠some k
def DmC(ad:List Nat)(tb yb:Nat)(gv:Value)(rb:Nat)(vv:Value)(k:Nat):Prop:=Dm ad tb yb gv k\/k=rb\/vv.ownBlock=some k
section
variable {S:Type}{get:S->TS}{put:S->TS->S}{E:S->Value->List Nat->World->Prop}{rb:Nat}
def AnC(get:S->TS)(E:S->Value->List Nat->World->Prop)(rb:Nat)(ar:Nm->Nat)(ad:List Nat)(Y:Nat->Prop)(ρ:Env)(tb yb d:Nat)(gv vv:Value)(o:Option S)(w:World)(e:Ending)(w':World):Prop:=
 Kn (DmC ad tb yb gv rb vv) w w'/\((o=none/\e=noTy/\∃n f,MapHas okK kyV w' tb n f) \/
  ∃s' l rk' gv' vv',o=some s'/\e=.returned (.tuple #[])/\YM ar (ad++l) Y rk' (get s') ρ tb yb d gv' w'/\E s' vv' (ad++l) w'/\(∀b∈l,w.heap.size<=b)/\(∀b,gv'.ownBlock=some b->gv.ownBlock=some b\/w.heap.size<=b)/\∀b,vv'.ownBlock=some b->vv.ownBlock=some b\/w.heap.size<=b)
def AnCT(get:S->TS)(E:S->Value->List Nat->World->Prop)(rb:Nat)(ar:Nm->Nat)(ad:List Nat)(Y:Nat->Prop)(ρ:Env)(tb yb d:Nat)(gv vv:Value)(o:Option (Nat×S))(w:World)(e:Ending)(w':World):Prop:=
 Kn (DmC ad tb yb gv rb vv) w w'/\((o=none/\e=noTy/\∃n f,MapHas okK kyV w' tb n f) \/
  ∃t s' l rk' gv' vv',o=some (t,s')/\e=.returned (adV (ad++l) t)/\t<(get s').nodes.length/\YM ar (ad++l) Y rk' (get s') ρ tb yb d gv' w'/\E s' vv' (ad++l) w'/\(∀b∈l,w.heap.size<=b)/\(∀b,gv'.ownBlock=some b->gv.ownBlock=some b\/w.heap.size<=b)/\∀b,vv'.ownBlock=some b->vv.ownBlock=some b\/w.heap.size<=b)
structure CoAt(get:S->TS)(put:S->TS->S)(E:S->Value->List Nat->World->Prop)(rb:Nat)(ar:Nm->Nat)(ad:List Nat)(Y:Nat->Prop)(ρ:Env)(tb yb d:Nat)(gv vv:Value)(w:World)(ex:Nd->Nat->S->Option S)(ch:List (Nm×Nat))(pairs:List (Nd×Nd))(oW:Option S)(M:Nat)(v:Value)(cb i:Nat)(wr:World)(l:List Nat)(rk':Nat->Nat)(s:S)(gv' vv':Value):Prop where
 rest:conT.go get put ex ch (pairs.drop i) s=oW
 ym:YM ar (ad++l) (XV Y v) rk' (get s) ρ tb yb d gv' wr
 ext:E s vv' (ad++l) wr
 chm:ChM (ad++l) ch cb wr
 row:wr.ownsRow w.heap.size tyTypeP 1 v (ch.map fun p=>adA (ad++l) p.2).length ((ch.map fun p=>adA (ad++l) p.2).map ptrV)
 kn:Kn (DmC ad tb yb gv rb vv) w wr
 new:∀b∈l,w.heap.size<=b
 giv:∀b,gv'.ownBlock=some b->gv.ownBlock=some b\/w.heap.size<=b
 viv:∀b,vv'.ownBlock=some b->vv.ownBlock=some b\/w.heap.size<=b
 ngv:∀b,v.ownBlock=some b->gv'.ownBlock≠some b
 cbn:w.heap.size<=cb
 tbo:tb<w.heap.size
 bud:(get s).given.length+Nd.sz.szs ((pairs.drop i).map Prod.fst)<=M
variable {ar:Nm->Nat}{ad:List Nat}{Y:Nat->Prop}{rk:Nat->Nat}{σ:TS}{ρ:Env}{tb yb d:Nat}{gv vv:Value}{w w':World}{nb:Nat}{txt:Nm}
variable {ex:Nd->Nat->S->Option S}{ch:List (Nm×Nat)}{pairs:List (Nd×Nd)}{oW:Option S}{M:Nat}{v:Value}{cb i:Nat}{wr:World}{l:List Nat}{rk':Nat->Nat}{s:S}{gv' vv':Value}
theorem CoAt.dm(h:CoAt get put E rb ar ad Y ρ tb yb d gv vv w ex ch pairs oW M v cb i wr l rk' s gv' vv'){l2:List Nat}(hl2:∀b∈l2,wr.heap.size<=b){k:Nat}(hk:k<w.heap.size)(hd:DmC (ad++l++l2) tb yb gv' rb vv' k):DmC ad tb yb gv rb vv k:=by
 rcases hd with(hd|hd|hd|hd)|hd|hd
 ·rcases mem_append.1 hd with hd|hd
  ·rcases mem_append.1 hd with hd|hd
   ·exact inl (inl hd)
   ·have:=h.new k hd;omega
  ·have:=hl2 k hd;have:=h.kn.size;omega
 ·exact inl (inr (inl hd))
 ·exact inl (inr (inr (inl hd)))
 ·rcases h.giv k hd with h1|h1
  ·exact inl (inr (inr (inr h1)))
  ·omega
 ·exact inr (inl hd)
 ·rcases h.viv k hd with h1|h1
  ·exact inr (inr h1)
  ·omega
theorem YM.dmc_not(B:Bes get put E rb){σ:TS}(h:YM ar ad Y rk σ ρ tb yb d gv w)(he:E s vv ad w){k:Nat}{c:Array Value}{t:TypeId}{f:Nat×Nat}(hc:w.heap[k]?=some (.cells c t f))(ht:t=tyStr\/t=tyTree\/t=tyTreeP\/t=tyVr):¬DmC ad tb yb gv rb vv k:=by
 have hb:=B.cel he hc (by rcases ht with h|h|h|h<;>simp[h])
 rintro (hd|hd|hd)
 ·rcases ht with rfl|rfl|rfl|rfl
  ·exact h.dm_not hc (by decide) (by decide) (by decide) hd
  ·exact h.dm_not hc (by decide) (by decide) (by decide) hd
  ·exact h.dm_not hc (by decide) (by decide) (by decide) hd
  ·exact h.dm_not hc (by decide) (by decide) (by decide) hd
 ·exact hb.1 hd
 ·exact hb.2 hd
theorem CoAt.chain(B:Bes get put E rb)(har:∀nm,ar nm<=1000000)(h2:ar arrowN=2){K bp bq:Nat}{recv:Value}{p q:Nd}{oT:Option (Nat×S)}(h:CoAt get put E rb ar ad Y ρ tb yb d gv vv w ex ch pairs oW M v cb i wr l rk' s gv' vv')(hp:pairs[i]?=some (p,q))
  (hX:∀(Y:Nat->Prop) ad rk s gv vv u want,NMem u p bp->YM ar ad Y rk (get s) ρ tb yb d gv u->E s vv ad u->(get s).given.length+p.sz<=M->want<(get s).nodes.length->Calls prog K #[recv,ptrV bp,adV ad want] u (AnC get E rb ar ad Y ρ tb yb d gv vv (ex p want s) u))
  (hgr:∀want s s',ex p want s=some s'->(get s').given.length<=(get s).given.length+p.sz)
  (hpm:NMem wr p bp) (hqm:NMem wr q bq) (hW:WrN ar ch q) (ho:oW=none->oT=none) :
  Calls prog 203 #[ptrV bq,.map (some cb)] wr fun e wr2=>∃bt,e=.returned (ptrV bt)/\Calls prog K #[recv,ptrV bp,ptrV bt] wr2 fun e wr3=>
   (e=noTy/\AnCT get E rb ar ad Y ρ tb yb d gv vv oT w noTy wr3)\/(e=.returned (.tuple #[])/\(∃l rk' s gv' vv',CoAt get put E rb ar ad Y ρ tb yb d gv vv w ex ch pairs oW M v cb (i+1) wr3 l rk' s gv' vv')/\∀(k:Nat)(c:Array Value)(t:TypeId)(f:Nat×Nat),wr.heap[k]?=some (.cells c t f)->t=tyStr\/t=tyTree\/t=tyTreeP\/t=tyVr->wr3.heap[k]?=wr.heap[k]?):=by
 have hil:=(List.getElem?_eq_some_iff.1 hp).1
 have hd:pairs.drop i=(p,q)::pairs.drop (i+1):=by
  rw[List.drop_eq_getElem_cons hil]
  rw[List.getElem?_eq_getElem hil]at hp
  rw[Option.some.inj hp]
 have hrest:=h.rest
 rw[hd,conT.go]at hrest
 have hbud:=h.bud
 rw[hd,map_cons,Nd.sz.szs]at hbud
 have hbud:(get s).given.length+(p.sz+Nd.sz.szs ((pairs.drop (i+1)).map Prod.fst))<=M:=hbud
 refine(writtenType_any har h2 (q.ht+1) (ad++l) (XG (XV Y v) gv') (get s) q bq wr (lt_succ_self _) hqm hW h.ym.sto h.chm (fun b hb=>?_)).mono ?_
 ·rcases hb with hb|hb
  ·exact h.ym.yok b hb
  ·exact h.ym.gv_lt hb
 rintro e wr2⟨l2,e1,e2,e3,e4,e5⟩
 have hext:=written_ext (q.ht+1) q (get s) (ch:=ch)
 generalize hx:written (q.ht+1) ch q (get s)=x at *
 have hy2:=h.ym.step (e4.wide fun _ _ h=>h.elim) e3 hext.given
 have hE2:=B.keep l2 x.2 h.ext e4 hext.given
 have hp2:NMem wr2 p bp:=NMem.kept (fun k c f hc=>e4.block k (lt_of_heap hc) fun h=>h) (fun k c f hc=>e4.block k (lt_of_heap hc) fun h=>h) p bp hpm
 have hg2:(get (put s x.2)).given.length=(get s).given.length:=by rw[B.gp,hext.given]
 have hy2':YM ar (ad++l++l2) (XV Y v) rk' (get (put s x.2)) ρ tb yb d gv' wr2:=by rw[B.gp];exact hy2
 have hc:=hX (XV Y v) (ad++l++l2) rk' (put s x.2) gv' vv' wr2 x.1 hp2 hy2' hE2 (by omega) (by rw[B.gp];exact e2)
 refine⟨adA (ad++l++l2) x.1,e1,hc.mono fun e wr3 ha=>?_⟩
 have hsz2:w.heap.size<=wr2.heap.size:=le_trans h.kn.size e4.size
 have hkn3:Kn (DmC ad tb yb gv rb vv) w wr3:=(h.kn.trans' e4 fun _ _ hf=>hf.elim).trans' ha.1 fun k hk hd=>h.dm e5 hk hd
 obtain⟨hka,ha⟩:=ha
 rcases ha with⟨a1,a2,a3⟩|⟨s',l3,rk3,gv3,vv3,a1,a2,a3,a4,a5,a6,a7⟩
 ·rw[a1]at hrest
  exact inl ⟨a2,hkn3,inl ⟨ho hrest.symm,rfl,a3⟩⟩
 ·rw[a1]at hrest
  refine inr ⟨a2,⟨l++l2++l3,rk3,s',gv3,vv3,?_⟩,?_⟩
  ·have hap:ad++(l++l2++l3)=ad++l++l2++l3:=by simp
   have hvrow2:wr2.ownsRow w.heap.size tyTypeP 1 v (ch.map fun p=>adA (ad++l) p.2).length ((ch.map fun p=>adA (ad++l) p.2).map ptrV):=ownsRow_kept h.row fun q c f _ hc=>e4.block q (lt_of_heap hc) fun h=>h
   have hchl:∀p∈ch,p.2<(ad++l).length:=h.chm.2
   have hmap:(ch.map fun p=>adA (ad++(l++l2++l3)) p.2)=ch.map fun p=>adA (ad++l) p.2:=List.map_congr_left fun p hp=>by
    rw[hap,append_assoc (ad++l),adA_app _ (hchl p hp)]
   have hvn:∀b,v.ownBlock=some b->¬DmC (ad++l++l2) tb yb gv' rb vv' b:=fun b hb=>by
    obtain⟨c,hcv⟩:=own_cells hvrow2 hb
    have hbb:=B.cel hE2 hcv (by simp)
    rintro ((hd|hd|hd|hd)|hd|hd)
    ·obtain⟨c2,f2,h2⟩:=hy2.sto.isT hd
     rw[hcv]at h2;exact absurd (cells_ty h2) (by decide)
    ·subst hd
     obtain⟨n,f,⟨es,cl,hm,_⟩,_⟩:=hy2.tab
     rw[hcv]at hm;cases hm
    ·subst hd
     have:=hy2.typ
     rw[hcv]at this;exact absurd (cells_ty this) (by decide)
    ·exact h.ngv b hb hd
    ·exact hbb.1 hd
    ·exact hbb.2 hd
   have hcbn:¬DmC (ad++l++l2) tb yb gv' rb vv' cb:=by
    have hcb2:=h.chm.kept l2 (e4.block cb h.chm.lt fun h=>h)
    obtain⟨⟨n,f,⟨es,cl,hm,_⟩,_⟩,_⟩:=hcb2
    have hbb:=B.mp hE2 hm
    rintro ((hd|hd|hd|hd)|hd|hd)
    ·obtain⟨c2,f2,h2⟩:=hy2.sto.isT hd
     rw[hm]at h2;cases h2
    ·have:=h.tbo;have:=h.cbn;omega
    ·subst hd
     have:=hy2.typ
     rw[hm]at this;cases this
    ·obtain⟨c2,h2⟩:=own_cells hy2.giv hd
     rw[hm]at h2;cases h2
    ·exact hbb.1 hd
    ·exact hbb.2 hd
   refine⟨?_,by rw[hap];exact a3,by rw[hap];exact a4,?_,?_,hkn3,?_,?_,?_,?_,h.cbn,h.tbo,?_⟩
   ·exact hrest
   ·rw[hap,append_assoc (ad++l)]
    have hlt2:cb<wr2.heap.size:=lt_of_lt_of_le h.chm.lt e4.size
    exact h.chm.kept _ ((hka.block cb hlt2 hcbn).trans (e4.block cb h.chm.lt fun h=>h))
   ·rw[hmap]
    exact ownsRow_kept hvrow2 fun q c f hq hc=>hka.block q (lt_of_heap hc) (hvn q hq)
   ·intro b hb
    rcases mem_append.1 hb with hb|hb
    ·rcases mem_append.1 hb with hb|hb
     ·exact h.new b hb
     ·exact le_trans h.kn.size (e5 b hb)
    ·exact le_trans hsz2 (a5 b hb)
   ·intro b hb
    rcases a6 b hb with h1|h1
    ·exact h.giv b h1
    ·exact inr (le_trans hsz2 h1)
   ·intro b hb
    rcases a7 b hb with h1|h1
    ·exact h.viv b h1
    ·exact inr (le_trans hsz2 h1)
   ·intro b hb e
    rcases a6 b e with h1|h1
    ·exact h.ngv b hb h1
    ·have:=(hvrow2.lt b hb).2;omega
   ·have:=hgr _ _ _ a1
    omega
  ·intro k c t f hc ht
   have hc2:wr2.heap[k]?=some (.cells c t f):=(e4.block k (lt_of_heap hc) fun h=>h).trans hc
   rw[hka.block k (lt_of_heap hc2) (YM.dmc_not B hy2' hE2 hc2 ht)]
   exact e4.block k (lt_of_heap hc) fun h=>h
theorem LtAt.co(B:Bes get put E rb){s0:S}{ls:List Nm}{σ' σk:TS}(h:LtAt ar ad Y rk ρ tb yb d gv w ls ch σ' cb ls.length v wr l σk)(hE:E s0 vv ad w)(hgv:σ'.given=(get s0).given)(hbud:σ'.given.length+Nd.sz.szs (pairs.map Prod.fst)<=M) :
  CoAt get put E rb ar ad Y ρ tb yb d gv vv w ex ch pairs (conT.go get put ex ch pairs (put s0 σ')) M v cb 0 wr l rk (put s0 σ') gv vv:=by
 obtain⟨rfl,ht⟩:=h.done
 have hc:=h.chm
 have hr:=h.row
 rw[ht]at hc hr
 refine⟨by simp,by rw[B.gp];exact h.ym,B.keep l σk hE h.kn hgv,hc,hr,h.kn.wide fun _ _ hf=>hf.elim,h.new,fun b hb=>inl hb,fun b hb=>inl hb,fun b hb e=>?_,h.cbn,h.tbo,by rw[B.gp];simpa using hbud⟩
 have h1:=(h.row.lt b hb).1
 have h2:=h.gvo b e
 omega
theorem CoAt.fin(B:Bes get put E rb){data:Nm}(h:CoAt get put E rb ar ad Y ρ tb yb d gv vv w ex ch pairs oW M v cb pairs.length wr l rk' s gv' vv')(hY:∀b,Y b->b<w.heap.size)(hd:data≠[])(hl:ch.length=ar data) :
  oW=some s/\AnCT get E rb ar ad Y ρ tb yb d gv vv (some (((get s).named data (ch.map Prod.snd)).1,put s ((get s).named data (ch.map Prod.snd)).2)) w (.returned (ptrV wr.heap.size)) (wr.alloc (.cells #[.string (bs data),v,.pointer none,.int .i64 0] tyType)):=by
 have h1:=h.rest
 rw[List.drop_length,conT.go]at h1
 refine⟨h1.symm,h.kn.alloc _,inr ⟨_,_,l++[wr.heap.size],rk',gv',vv',rfl,?_,?_,?_,?_,?_,h.giv,h.viv⟩⟩
 ·rw[<- append_assoc]
  show Ending.returned (ptrV wr.heap.size)=.returned (adV (ad++l++[wr.heap.size]) (get s).nodes.length)
  rw[h.ym.new1]
 ·rw[B.gp];simp[TS.named,TS.new]
 ·rw[B.gp,<- append_assoc]
  have hn:StoM ar (ad++l) (XG Y gv') rk' (get s) wr:=h.ym.sto.narrow fun b hb=>by
   rcases hb with hb|hb
   ·exact inl (inl hb)
   ·exact inr hb
  have hy0:YM ar (ad++l) Y rk' (get s) ρ tb yb d gv' wr:=⟨hn,h.ym.tab,h.ym.typ,h.ym.giv,fun b hb=>h.ym.yok b (inl hb)⟩
  refine hy0.step ((Kn.refl _ wr).alloc _) (hn.new (t:=⟨data,ch.map Prod.snd,0⟩) (pv:=v) (fun p hp=>?_) (fun e=>absurd e hd) (fun _=>by show (ch.map Prod.snd).length=ar data;rw[length_map,hl]) ?_ (fun g hg hx=>?_)) rfl
  ·obtain⟨q,hq,rfl⟩:=List.mem_map.1 hp
   rw[<- h.ym.len];exact h.chm.2 q hq
  ·show wr.ownsRow 0 tyTypeP 1 v (ch.map Prod.snd).length ((ch.map Prod.snd).map (adV (ad++l)))
   have:=ownsRow_base h.row (zero_le _)
   rw[length_map,List.map_map]at this
   rw[length_map,List.map_map]
   exact this
  ·rcases hx with hx|hx
   ·have h1:=(h.row.lt g hg).1
    have h2:=hY g hx
    omega
   ·exact h.ngv g hg hx
 ·rw[<- append_assoc]
  exact B.keep _ _ h.ext ((Kn.refl _ wr).alloc _) rfl
 ·intro b hb
  rcases mem_append.1 hb with hb|hb
  ·exact h.new b hb
  ·rw[mem_singleton.1 hb];exact h.kn.size
end
def WrL(ar:Nm->Nat)(ls:List Nm)(q:Nd):Prop:=
 ∀x∈q.all,(x.k=21/\okS x.txt/\x.txt∈ls)\/(x.k≠21/\x.k≠23/\x.txt≠[]/\x.ps.length=ar x.txt/\x.k<100)\/(x.k=23/\x.ps.length=2)
theorem WrL.wrn{ar:Nm->Nat}{ls:List Nm}{q:Nd}{ch:List (Nm×Nat)}(h:WrL ar ls q)(hc:ch.map Prod.fst=ls):WrN ar ch q:=fun x hx=>by
 rcases h x hx with⟨h1,h2,h3⟩|h|h
 ·exact inl ⟨h1,h2,lookup_some_of (by rw[hc];exact h3)⟩
 ·exact inr (inl h)
 ·exact inr (inr h)
section
variable {S:Type}{get:S->TS}{put:S->TS->S}{E:S->Value->List Nat->World->Prop}{rb:Nat}
variable {ar:Nm->Nat}{ad:List Nat}{Y:Nat->Prop}{rk:Nat->Nat}{σ:TS}{ρ:Env}{tb yb d:Nat}{gv vv:Value}{w w':World}{nb:Nat}{txt:Nm}
structure ConIn(ar:Nm->Nat)(m:Mg)(np:Nat):Prop where
 va:VrA ar m.vr
 np:np=m.vr.parts.length
 data:m.vr.data≠[]
 ok:∀x∈m.vr.letters,okS x
 wr:∀q∈m.vr.parts,WrL ar m.vr.letters q
theorem con_facts(B:Bes get put E rb)(har:∀nm,ar nm<=1000000)(h2:ar arrowN=2){K M:Nat}{recv:Value}{ex:Nd->Nat->S->Option S}{s0:S}{ps:List Nd}{m:Mg}(h:YM ar ad Y rk (get s0) ρ tb yb d gv w)(hE:E s0 vv ad w)
  {nbl pbl:List Nat}{a1 a2 a3:Option Addr}{k1 k2 k3:Nat} (n1:w.heap[nb]?=some (.cells #[.int .i64 (14:Nat),.string (bs txt),.slice a3 nbl.length k3] tyTree (0,0))) (n2:w.ownsRow 0 tyTreeP 1 (.slice a3 nbl.length k3) nbl.length (nbl.map ptrV)) (n3:NMem.NMems w ps nbl)
  (ho1:w.ownsRow 0 tyStr 1 (.slice a1 m.vr.letters.length k1) m.vr.letters.length (m.vr.letters.map strV)) (ho2:w.ownsRow 0 tyTreeP 1 (.slice a2 pbl.length k2) pbl.length (pbl.map ptrV)) (ho3:NMem.NMems w m.vr.parts pbl)
  {mb:Nat} (hmb:w.heap[mb]?=some (.cells #[.string (bs m.vr.data),.slice a1 m.vr.letters.length k1,.slice a2 pbl.length k2,.int .i64 m.vr.sibs] tyVr (0,0)))
  (hg:ρ.get (1,txt)=some m) (hm:ConIn ar m ps.length)
  (hX:∀p∈ps,∀bp (Y:Nat->Prop) ad rk s gv vv u want,NMem u p bp->YM ar ad Y rk (get s) ρ tb yb d gv u->E s vv ad u->(get s).given.length+p.sz<=M->want<(get s).nodes.length->Calls prog K #[recv,ptrV bp,adV ad want] u (AnC get E rb ar ad Y ρ tb yb d gv vv (ex p want s) u))
  (hgr:∀p∈ps,∀want s s',ex p want s=some s'->(get s').given.length<=(get s).given.length+p.sz) (hbud:(get s0).given.length+Nd.sz.szs ps<=M)
  {Q:Ending->World->Prop} (hQ:∀e w',AnCT get E rb ar ad Y ρ tb yb d gv vv (conT get put ρ d txt ps ex s0) w e w'->Q e w') :
  ∃(LT:Nat->Nat->Value->World->Prop) (CO:Value->Nat->Nat->World->Prop),LT w.heap.size 0 (.slice none 0 0) (w.alloc (.map #[] 0)) /\
   (∀cb i v wr,LT cb i v wr->(∃a k c,v=.slice a k c)/\wr.cell? ⟨mb,0,none⟩=some (.string (bs m.vr.data))/\wr.cell? ⟨mb,1,none⟩=some (.slice a1 m.vr.letters.length k1)/\wr.cell? ⟨mb,2,none⟩=some (.slice a2 pbl.length k2)/\wr.cell? ⟨mb,3,none⟩=some (.int .i64 m.vr.sibs)) /\
   (∀cb i v wr own,LT cb i v wr->m.vr.letters[i]?=some own->∃g,a1=some ⟨g,0,none⟩/\wr.cell? ⟨g,i,none⟩=some (.string (bs own))/\g<wr.heap.size/\Calls prog 164 #[ptrV yb] wr fun e w'=>e=.returned (ptrV wr.heap.size)/\∃js:List Nat,js.length<=100000000/\w.heap.size<=w'.heap.size/\w'.ownsRow w.heap.size tyTypeP 1 v js.length (js.map ptrV) /\
    ∀v' u2,u2.ownsRow w.heap.size tyTypeP 1 v' (js++[wr.heap.size]).length ((js++[wr.heap.size]).map ptrV)->(w'.alloc (.cells #[.pointer (some ⟨wr.heap.size,0,none⟩)] tyTypeP)).grownBy u2 v.ownBlock->(∀g,v'.ownBlock=some g->v.ownBlock=some g\/w'.heap.size<g) ->
     ∃u3,(Instr.mapUpdate tyCh (.map (some cb)) (.string (bs own)) (ptrV wr.heap.size)).run prog u2=.ok () u3/\Hid (LT cb (i+1) v' u3)) /\
   (∀cb v wr,LT cb m.vr.letters.length v wr->Hid (CO v cb 0 wr)/\wr.cell? ⟨nb,2,none⟩=some (.slice a3 nbl.length k3)) /\
   (∀v cb i wr,CO v cb i wr->wr.cell? ⟨mb,0,none⟩=some (.string (bs m.vr.data))/\wr.cell? ⟨mb,1,none⟩=some (.slice a1 m.vr.letters.length k1)/\wr.cell? ⟨mb,2,none⟩=some (.slice a2 pbl.length k2)/\wr.cell? ⟨mb,3,none⟩=some (.int .i64 m.vr.sibs)) /\
   (∀v cb i wr,CO v cb i wr->i<ps.length->∃g3 g2 bp bq,a3=some ⟨g3,0,none⟩/\a2=some ⟨g2,0,none⟩/\wr.cell? ⟨g3,i,none⟩=some (ptrV bp)/\wr.cell? ⟨g2,i,none⟩=some (ptrV bq)/\g3<wr.heap.size/\g2<wr.heap.size /\
    Calls prog 203 #[ptrV bq,.map (some cb)] wr fun e wr2=>∃bt,e=.returned (ptrV bt)/\Calls prog K #[recv,ptrV bp,ptrV bt] wr2 fun e wr3=>(e=noTy/\Q noTy wr3)\/(e=.returned (.tuple #[])/\Hid (CO v cb (i+1) wr3))) /\
   (∀v cb wr,CO v cb ps.length wr->Q (.returned (ptrV wr.heap.size)) (wr.alloc (.cells #[.string (bs m.vr.data),v,.pointer none,.int .i64 0] tyType))):=by
 obtain⟨ch,σ',hls⟩:∃ch σ',lettersFor d m.vr.letters (get s0)=(ch,σ'):=⟨_,_,rfl⟩
 have hfst:ch.map Prod.fst=m.vr.letters:=by have:=lettersFor_fst d m.vr.letters (get s0);rw[hls]at this;exact this
 have hgiv:σ'.given=(get s0).given:=by have:=(lettersFor_ext d m.vr.letters (get s0)).given;rw[hls]at this;exact this
 have hfp:(ps.zip m.vr.parts).map Prod.fst=ps:=by rw[List.map_fst_zip];rw[hm.np];exact le_refl _
 have hzl:(ps.zip m.vr.parts).length=ps.length:=by rw[List.length_zip,<- hm.np,Nat.min_self]
 have hbud2:σ'.given.length+Nd.sz.szs ((ps.zip m.vr.parts).map Prod.fst)<=M:=by rw[hgiv,hfp];exact hbud
 have hoT:conT get put ρ d txt ps ex s0=(conT.go get put ex ch (ps.zip m.vr.parts) (put s0 σ')).map fun s'=>(((get s').named m.vr.data (ch.map Prod.snd)).1,put s' ((get s').named m.vr.data (ch.map Prod.snd)).2):=by
  unfold conT;rw[hg];simp only[hls]
  cases conT.go get put ex ch (ps.zip m.vr.parts) (put s0 σ')<;>rfl
 have hnl:=n3.len
 have hpbl:=ho3.len
 have hlen1:m.vr.letters.length<=1000000:=by rw[hm.va.len];exact har _
 have hsome:∀{t:TypeId}{a:Option Addr}{c k:Nat}{xs:List Value},w.ownsRow 0 t 1 (.slice a k c) k xs->0<k->∃g,a=some ⟨g,0,none⟩:=fun {t a c k xs} ho hk=>by
  rcases ownsRow_forms ho with⟨h,h0⟩|⟨g,cap,h⟩
  ·omega
  ·cases h;exact⟨g,rfl⟩
 have hmcell:∀wr:World,wr.heap[mb]?=w.heap[mb]?->wr.cell? ⟨mb,0,none⟩=some (.string (bs m.vr.data))/\wr.cell? ⟨mb,1,none⟩=some (.slice a1 m.vr.letters.length k1)/\wr.cell? ⟨mb,2,none⟩=some (.slice a2 pbl.length k2)/\wr.cell? ⟨mb,3,none⟩=some (.int .i64 m.vr.sibs):=fun wr he=>by
  refine⟨?_,?_,?_,?_⟩<;>simp[World.cell?,he,hmb]
 refine⟨fun cb i v wr=>∃l σk,LtAt ar ad Y rk ρ tb yb d gv w m.vr.letters ch σ' cb i v wr l σk,fun v cb i wr=>∃l rk' s gv' vv',CoAt get put E rb ar ad Y ρ tb yb d gv vv w ex ch (ps.zip m.vr.parts) (conT.go get put ex ch (ps.zip m.vr.parts) (put s0 σ')) M v cb i wr l rk' s gv' vv'/\(∀(k:Nat)(c:Array Value)(t:TypeId)(f:Nat×Nat),w.heap[k]?=some (.cells c t f)->t=tyStr\/t=tyTree\/t=tyTreeP\/t=tyVr->wr.heap[k]?=w.heap[k]?),⟨_,_,LtAt.start h (Kn.refl _ w) hls⟩,?_,?_,?_,?_,?_,?_⟩
 ·rintro cb i v wr⟨l,σk,hat⟩
  refine⟨?_,hmcell wr (hat.kn.block mb (lt_of_heap hmb) fun h=>h)⟩
  rcases ownsRow_forms hat.row with⟨h,_⟩|⟨g,cap,h⟩
  ·exact⟨_,_,_,h⟩
  ·exact⟨_,_,_,h⟩
 ·rintro cb i v wr own⟨l,σk,hat⟩ hi
  have hil:=(List.getElem?_eq_some_iff.1 hi).1
  obtain⟨g,hg⟩:=hsome ho1 (by omega)
  subst hg
  have hrow:wr.ownsRow 0 tyStr 1 (.slice (some ⟨g,0,none⟩) m.vr.letters.length k1) m.vr.letters.length (m.vr.letters.map strV):=ownsRow_kept ho1 fun q c f _ hc=>hat.kn.block q (lt_of_heap hc) fun h=>h
  refine⟨g,rfl,?_,(hrow.lt g rfl).2,(yletter_any hat.ym).mono ?_⟩
  ·rw[hrow.cellAt i (by omega),List.getElem?_map,hi];rfl
  ·rintro e w'⟨rfl,rfl⟩
   obtain⟨q1,q2,q3,q4⟩:=hat.step hi (hm.ok own (List.mem_of_getElem? hi)) hm.va.nodup hlen1
   exact⟨rfl,_,q1,q2,q3,fun v' u2 z1 z2 z3=>by
    obtain⟨u3,y1,y2⟩:=q4 v' u2 z1 z2 z3
    exact⟨u3,y1,hide y2⟩⟩
 ·rintro cb v wr⟨l,σk,hat⟩
  refine⟨hide ⟨_,_,_,_,_,hat.co B hE hgiv hbud2,fun k c t f hc _=>hat.kn.block k (lt_of_heap hc) fun h=>h⟩,?_⟩
  have:wr.heap[nb]?=w.heap[nb]?:=hat.kn.block nb (lt_of_heap n1) fun h=>h
  simp[World.cell?,this,n1]
 ·rintro v cb i wr⟨l,rk',s,gv',vv',hc,hb⟩
  exact hmcell wr (hb mb _ _ _ hmb (by simp))
 ·rintro v cb i wr⟨l,rk',s,gv',vv',hc,hb⟩ hi
  have hi2:i<m.vr.parts.length:=by rw[<- hm.np];exact hi
  have hp1:ps[i]?=some ps[i]:=List.getElem?_eq_getElem hi
  have hp2:m.vr.parts[i]?=some m.vr.parts[i]:=List.getElem?_eq_getElem hi2
  have hpz:(ps.zip m.vr.parts)[i]?=some (ps[i],m.vr.parts[i]):=by
   rw[List.getElem?_zip_eq_some];exact⟨hp1,hp2⟩
  obtain⟨bp,hb1,hm1⟩:=n3.at hp1
  obtain⟨bq,hb2,hm2⟩:=ho3.at hp2
  obtain⟨g3,rfl⟩:=hsome n2 (by omega)
  obtain⟨g2,rfl⟩:=hsome ho2 (by omega)
  have hr3:wr.ownsRow 0 tyTreeP 1 (.slice (some ⟨g3,0,none⟩) nbl.length k3) nbl.length (nbl.map ptrV):=ownsRow_kept n2 fun q c f _ hc=>hb q c _ f hc (by simp)
  have hr2:wr.ownsRow 0 tyTreeP 1 (.slice (some ⟨g2,0,none⟩) pbl.length k2) pbl.length (pbl.map ptrV):=ownsRow_kept ho2 fun q c f _ hc=>hb q c _ f hc (by simp)
  have hk1:NMem wr ps[i] bp:=NMem.kept (fun k c f hc=>hb k c _ f hc (by simp)) (fun k c f hc=>hb k c _ f hc (by simp)) _ _ hm1
  have hk2:NMem wr m.vr.parts[i] bq:=NMem.kept (fun k c f hc=>hb k c _ f hc (by simp)) (fun k c f hc=>hb k c _ f hc (by simp)) _ _ hm2
  have hmem1:=List.mem_of_getElem? hp1
  have hmem2:=List.mem_of_getElem? hp2
  refine⟨g3,g2,bp,bq,rfl,rfl,?_,?_,(hr3.lt g3 rfl).2,(hr2.lt g2 rfl).2,(hc.chain B har h2 (K:=K) (recv:=recv) hpz (fun Y ad rk s gv vv u want=>hX _ hmem1 bp Y ad rk s gv vv u want) (hgr _ hmem1) hk1 hk2 ((hm.wr _ hmem2).wrn hfst) (oT:=conT get put ρ d txt ps ex s0) (fun e=>by rw[hoT,e];rfl)).mono ?_⟩
  ·rw[hr3.cellAt i (by omega),List.getElem?_map,hb1];rfl
  ·rw[hr2.cellAt i (by omega),List.getElem?_map,hb2];rfl
  ·rintro e wr2⟨bt,e1,hcc⟩
   refine⟨bt,e1,hcc.mono fun e wr3 hq=>?_⟩
   rcases hq with⟨q1,q2⟩|⟨q1,⟨l,rk',s,gv',vv',q2⟩,q3⟩
   ·exact inl ⟨q1,hQ _ _ q2⟩
   ·exact inr ⟨q1,hide ⟨l,rk',s,gv',vv',q2,fun k c t f hc ht=>(q3 k c t f ((hb k c t f hc ht).trans hc) ht).trans (hb k c t f hc ht)⟩⟩
 ·rintro v cb wr⟨l,rk',s,gv',vv',hc,hb⟩
  rw[<- hzl]at hc
  obtain⟨q1,q2⟩:=hc.fin B h.yok hm.data (by rw[<- hm.va.len,<- hfst,length_map])
  refine hQ _ _ ?_
  rw[hoT,q1]
  exact q2
end
end Go.Proofs.YtcbppnefeonmgaaGreatDoor
