import Derived.Test.YtbkiipiocpnnnaaGreatDoorC20
set_option linter.all false
set_option maxHeartbeats 40000000
set_option maxRecDepth 100000
open Go.Proofs.Tryz
open Or (inl inr)
open Option (map_eq_some_iff)
open Nat (le_refl)
open List (append_nil length_append mem_cons_self mem_singleton append_assoc)
namespace Go.Proofs.YtbkiipiocpnnnaaGreatDoor
open Go.RowKit
section
variable {ar:Nm->Nat}{ad:List Nat}{Y:Nat->Prop}{rk:Nat->Nat}{σ:TS}{ρ:Env}{tb yb d:Nat}{gv:Value}{w w':World}{nb:Nat}{txt:Nm}
structure PtAt(nb k:Nat)(txt:Nm)(g cap:Nat)(bl:List Nat)(w:World):Prop where
 node:w.heap[nb]?=some (.cells #[.int .i64 k,.string (bs txt),.slice (some ⟨g,0,none⟩) bl.length cap] tyTree (0,0))
 row:∃cs:Array Value,w.heap[g]?=some (.cells cs tyTreeP (0,0))/\∀(i b:Nat),bl[i]?=some b->cs[i]?=some (ptrV b)
theorem NMem.pt{k:Nat}{ps:List Nd}(h:NMem w (.mk k txt ps) nb)(hne:ps≠[]):∃g cap bl,PtAt nb k txt g cap bl w/\NMem.NMems w ps bl/\bl.length=ps.length:=by
 obtain⟨pv,bl,h1,h2,h3⟩:=h.inv
 have hl:=h3.len
 rcases h2.2 with⟨rfl,h0⟩|⟨g,cap,cur,rfl,_,hg,h4,h5,h6,h7⟩
 ·exact absurd (List.length_eq_zero_iff.1 (by rw[<- hl];exact h0)) hne
 ·refine⟨g,cap,bl,⟨h1,cur,hg,fun i b hb=>?_⟩,h3,hl⟩
  have hi:=(List.getElem?_eq_some_iff.1 hb).1
  have h8:(bl.map ptrV)[i]?=some (ptrV b):=by rw[List.getElem?_map,hb];rfl
  rw[<- h7]at h8
  rw[List.getElem?_take_of_lt (by omega)]at h8
  simpa using h8
theorem PtAt.cells{k g cap:Nat}{bl:List Nat}(h:PtAt nb k txt g cap bl w):w.cell? ⟨nb,0,none⟩=some (.int .i64 k)/\w.cell? ⟨nb,1,none⟩=some (.string (bs txt))/\w.cell? ⟨nb,2,none⟩=some (.slice (some ⟨g,0,none⟩) bl.length cap)/\∀(i b:Nat),bl[i]?=some b->w.cell? ⟨g,i,none⟩=some (ptrV b):=by
 obtain⟨cs,h1,h2⟩:=h.row
 refine⟨by simp[World.cell?,h.node],by simp[World.cell?,h.node],by simp[World.cell?,h.node],fun i b hb=>?_⟩
 simp[World.cell?,h1,h2 i b hb]
theorem YM.pt(h:YM ar ad Y rk σ ρ tb yb d gv w)(hk:Kn (Dm ad tb yb gv) w w'){k g cap:Nat}{bl:List Nat}(hp:PtAt nb k txt g cap bl w):PtAt nb k txt g cap bl w':=by
 obtain⟨cs,h1,h2⟩:=hp.row
 refine⟨?_,cs,?_,h2⟩
 ·rw[hk.block nb (lt_of_heap hp.node) (h.dm_not hp.node (by decide) (by decide) (by decide))];exact hp.node
 ·rw[hk.block g (lt_of_heap h1) (h.dm_not h1 (by decide) (by decide) (by decide))];exact h1
theorem YM.tree(h:YM ar ad Y rk σ ρ tb yb d gv w)(hk:Kn (Dm ad tb yb gv) w w'){nd:Nd}(hn:NMem w nd nb):NMem w' nd nb:=
 NMem.kept (fun k c f hc=>hk.block k (lt_of_heap hc) (h.dm_not hc (by decide) (by decide) (by decide))) (fun k c f hc=>hk.block k (lt_of_heap hc) (h.dm_not hc (by decide) (by decide) (by decide))) nd nb hn
def Nd.sz:Nd->Nat
 |.mk _ _ ps=>szs ps+1
 where
 szs:List Nd->Nat
  |[]=>0
  |p::r=>p.sz+szs r
def shapeOk(k:Nat)(ps:List Nd):Prop:=
 match k with
 |5=>ps.length=1
 |6=>ps.length=2
 |7=>ps.length=2
 |8=>ps.length=3
 |9=>ps.length=2
 |10=>ps.length=2
 |11=>ps.length=2
 |12=>ps.length=1
 |13=>ps.length=2
 |15=>∃a r,ps=a::r/\a.k≠16/\∀x∈r,x.k=16
 |16=>ps.length=2
 |_=>True
def WfN(nd:Nd):Prop:=∀x∈nd.all,shapeOk x.k x.ps/\x.txt.length<=100000000/\x.ps.length<=1000000
end
def okS(x:Nm):Prop:=x.length<=100000000
section
variable {ar:Nm->Nat}{ad:List Nat}{X:Nat->Prop}{rk:Nat->Nat}{σ:TS}{w w':World}{ch:List (Nm×Nat)}{cb:Nat}
theorem all_self(q:Nd):q∈q.all:=by cases q;rw[Nd.all];exact mem_cons_self ..
theorem written_ext{ch:List (Nm×Nat)}:∀(n:Nat)(q:Nd)(σ:TS),TExt σ (written n ch q σ).2:=by
 intro n
 induction n with
 |zero=>intro q σ;rw[written];exact TExt.new _ _
 |succ n ih=>
  intro q σ
  obtain⟨k,txt,ps⟩:=q
  have hL:∀(ps:List Nd)(σ:TS),TExt σ (written.writtenL (written n ch) ps σ).2:=by
   intro ps
   induction ps with
   |nil=>intro σ;exact TExt.refl _
   |cons p r ihr=>intro σ;rw[written.writtenL];exact(ih p σ).trans (ihr _)
  rw[written]
  split
  ·split
   ·exact TExt.refl _
   ·exact TExt.new _ _
  ·dsimp only
   split
   ·split
    ·exact(hL ps σ).trans (TExt.new _ _)
    ·exact(hL ps σ).trans (TExt.new _ _)
   ·exact(hL ps σ).trans (TExt.new _ _)
variable {n k:Nat}{ps:List Nd}{js':List Nat}{σ':TS}
end
section
variable {ar:Nm->Nat}{ad:List Nat}{Y:Nat->Prop}{rk:Nat->Nat}{σ:TS}{ρ:Env}{tb yb d:Nat}{gv:Value}{w w':World}{nb:Nat}{txt:Nm}
theorem YM.arrow(h:YM ar ad Y rk σ ρ tb yb d gv w){x y:Nat}(hx:x<σ.nodes.length)(hy:y<σ.nodes.length)(h2:ar arrowN=2) :
  YM ar (ad++[w.heap.size+1]) Y rk (σ.named arrowN [x,y]).2 ρ tb yb d gv ((w.alloc (.cells #[adV ad x,adV ad y] tyTypeP)).alloc (.cells #[.string (bs arrowN),.slice (some ⟨w.heap.size,0,none⟩) 2 2,.pointer none,.int .i64 0] tyType)):=
 h.step (((Kn.refl _ w).alloc _).alloc _) (h.sto.arrow hx hy h2 (fun g hg=>by
  rcases hg with hg|hg
  ·exact h.yok g hg
  ·exact h.gv_lt hg)) rfl
theorem Function_ym(h:YM ar ad Y rk σ ρ tb yb d gv w){x y:Nat}(hx:x<σ.nodes.length)(hy:y<σ.nodes.length)(h2:ar arrowN=2) :
  Calls prog 26 #[.slice (some ⟨w.heap.size,0,none⟩) 2 2] (w.alloc (.cells #[adV ad x,adV ad y] tyTypeP)) fun e w'=>∃b,e=.returned (ptrV b)/\AnTy ar ad Y ρ tb yb d gv (some (σ.named arrowN [x,y])) w (.returned (ptrV b)) w':=by
 have hy1:=h.alloc (.cells #[adV ad x,adV ad y] tyTypeP)
 have hc:=Function_two (b1:=adA ad x) (b2:=adA ad y) (cap:=2) (c:=#[adV ad x,adV ad y]) (w:=w.alloc (.cells #[adV ad x,adV ad y] tyTypeP)) (g:=w.heap.size) (MapKept.heap_alloc w _).1 rfl rfl
 refine hc.mono ?_
 rintro e w'⟨rfl,rfl⟩
 have hy2:=hy1.arrow hx hy h2
 have hb:Bt ad tb yb gv w [w.heap.size+1+1] gv (((w.alloc (.cells #[adV ad x,adV ad y] tyTypeP)).alloc (.cells #[adV ad x,adV ad y] tyTypeP)).alloc (.cells #[.string (bs arrowN),.slice (some ⟨w.heap.size+1,0,none⟩) 2 2,.pointer none,.int .i64 0] tyType)):=
  ⟨(((Kn.refl _ w).alloc _).alloc _).alloc _,fun b hb=>by rw[mem_singleton.1 hb];omega,fun b hb=>inl hb⟩
 rw[alloc_size]at hy2
 refine⟨_,rfl,?_⟩
 have hok:=AnTy.ok (o:=some (σ.named arrowN [x,y])) (t:=σ.nodes.length) rfl (by simp[TS.named,TS.new]) hy2 hb
 have:adV (ad++[w.heap.size+1+1]) σ.nodes.length=ptrV (w.heap.size+1+1):=by
  unfold adV;rw[<- h.len,adA_new]
 rw[this]at hok
 rw[alloc_size]
 exact hok
def funO(a:Nat)(o:Option (Nat×TS)):Option (Nat×TS):=o.map fun r=>r.2.named arrowN [a,r.1]
theorem function_of{k g cap ba:Nat}{o:Option (Nat×TS)}(h2:ar arrowN=2)(h:YM ar ad Y rk σ ρ tb yb d gv w)(hp:PtAt nb k txt g cap [ba] w)
  (hW:∀u,Kn (Dm ad tb yb gv) w u->YM ar (ad++[w.heap.size]) Y rk (σ.letter d).2 ρ tb yb d gv u->Calls prog 189 #[ptrV yb,.string (bs txt),adV (ad++[w.heap.size]) σ.nodes.length,ptrV ba] u (AnTy ar (ad++[w.heap.size]) Y ρ tb yb d gv o u)) :
  Calls prog 242 #[ptrV yb,ptrV nb] w (AnTy ar ad Y ρ tb yb d gv (funO σ.nodes.length o) w):=by
 have hL:=yletter_any h
 have h1:=h.letter d
 have hk1:Kn (fun _=>False) w (w.alloc (.cells #[.string (bs []),.slice none 0 0,.pointer none,.int .i64 d] tyType)):=(Kn.refl _ w).alloc _
 have ha:adV (ad++[w.heap.size]) σ.nodes.length=ptrV w.heap.size:=by unfold adV;rw[<- h.len,adA_new]
 rw[ha]at hW
 generalize hw1:w.alloc (.cells #[.string (bs []),.slice none 0 0,.pointer none,.int .i64 d] tyType)=w1 at *
 have hb1:Bt ad tb yb gv w [w.heap.size] gv w1:=⟨hk1.wide fun _ _ h=>h.elim,fun b hb=>by rw[mem_singleton.1 hb];exact le_refl _,fun _ hb=>inl hb⟩
 have hp1:=h.pt hb1.kn hp
 have hcl:∀u,Kn (fun _=>False) w1 u->u.cell? ⟨nb,1,none⟩=some (.string (bs txt))/\u.cell? ⟨nb,2,none⟩=some (.slice (some ⟨g,0,none⟩) 1 cap)/\u.cell? ⟨g,0,none⟩=some (ptrV ba):=fun u hu=>by
  have:=(h1.pt (hu.wide fun _ _ h=>h.elim) hp1).cells
  exact⟨this.2.1,this.2.2.1,this.2.2.2 0 ba rfl⟩
 have hw2:∀u,Kn (fun _=>False) w1 u->Calls prog 189 #[ptrV yb,.string (bs txt),ptrV w.heap.size,ptrV ba] u (AnTy ar (ad++[w.heap.size]) Y ρ tb yb d gv o u):=fun u hu=>
  hW u (hb1.kn.trans (hu.wide fun _ _ h=>h.elim)) (h1.stays hu)
 have hbu:∀u,Kn (fun _=>False) w1 u->Bt ad tb yb gv w [w.heap.size] gv u:=fun u hu=>⟨hb1.kn.trans (hu.wide fun _ _ h=>h.elim),hb1.new,hb1.giv⟩
 have hfin:∀u,Kn (fun _=>False) w1 u->∀e u2,AnTy ar (ad++[w.heap.size]) Y ρ tb yb d gv o u e u2->(e=noTy/\AnTy ar ad Y ρ tb yb d gv (funO σ.nodes.length o) w noTy u2) \/
   ∃b,e=.returned (ptrV b)/\(u2.cell? ⟨nb,1,none⟩=some (.string (bs txt))/\u2.cell? ⟨nb,2,none⟩=some (.slice (some ⟨g,0,none⟩) 1 cap)/\u2.cell? ⟨g,0,none⟩=some (ptrV ba))/\Calls prog 26 #[.slice (some ⟨u2.heap.size,0,none⟩) 2 2] (u2.alloc (.cells #[ptrV w.heap.size,ptrV b] tyTypeP)) fun e w'=>∃b,e=.returned (ptrV b)/\AnTy ar ad Y ρ tb yb d gv (funO σ.nodes.length o) w (.returned (ptrV b)) w'/\(w'.cell? ⟨nb,1,none⟩=some (.string (bs txt))/\w'.cell? ⟨nb,2,none⟩=some (.slice (some ⟨g,0,none⟩) 1 cap)/\w'.cell? ⟨g,0,none⟩=some (ptrV ba)):=fun u hu e u2 hq=>by
  have hbu:=hbu u hu
  rcases hq.cases with⟨rfl,q2,q3,q4⟩|⟨t,σ',l,rk',gv',rfl,q2,q3,q4,q5⟩
  ·exact inl ⟨q2,AnTy.panic rfl (hbu.kn.trans' q3 fun i hi hd=>hbu.dm hi hd) q4⟩
  ·have hcc:=(h.pt (hbu.kn.trans' q5.kn fun i hi hd=>hbu.dm hi hd) hp).cells
   refine inr ⟨_,q2,⟨hcc.2.1,hcc.2.2.1,hcc.2.2.2 0 ba rfl⟩,?_⟩
   have hlen:=h1.grown q4
   have hal:σ.nodes.length<σ'.nodes.length:=by
    have:(σ.letter d).2.nodes.length=σ.nodes.length+1:=by simp[TS.letter,TS.new]
    omega
   have hF:=Function_ym q4 hal q3 h2
   have hav:adV (ad++[w.heap.size]++l) σ.nodes.length=ptrV w.heap.size:=by
    rw[adV_app l (by rw[length_append,h.len];simp)];exact ha
   rw[hav]at hF
   refine hF.mono ?_
   rintro e w'⟨b,rfl,hf⟩
   have hfa:=AnTy.behind hbu (AnTy.behind q5 hf)
   have hcc:=(h.pt hfa.1 hp).cells
   exact⟨b,rfl,hfa,hcc.2.1,hcc.2.2.1,hcc.2.2.2 0 ba rfl⟩
 have HL:=hide hL
 have HBu:=hide (show Kn (fun _=>False) w1 w1.drew from(Kn.refl _ _).drew)
 have HCL:=hide hcl
 have HW:=hide hw2
 have HFIN:=hide hfin
 clear hL h1 hk1 hb1 hp1 hcl hw2 hW h hp ha hbu hfin
 generalize AnTy ar ad Y ρ tb yb d gv (funO σ.nodes.length o) w=Q at *
 generalize bs txt=tx at *
 unfold noTy noTypeV ptrV at *
 generalize Kn (fun _=>False) w1=V at *
 go_enter func242,ntmps242
 go_wp2_with fail
 refine(HL.out).mono ?_;rintro e w2⟨rfl,rfl⟩
 clear HL
 obtain⟨c1a,c2a,c3a⟩:=HCL.out _ HBu.out
 go_wp2_with fail
 go_region_held2 (fun w'=>w'.cell? ⟨nb,1,none⟩=some (.string tx)/\w'.cell? ⟨nb,2,none⟩=some (.slice (some ⟨g,0,none⟩) 1 cap)/\w'.cell? ⟨g,0,none⟩=some (.pointer (some ⟨ba,0,none⟩))) (first|exact⟨c1a,c2a,c3a⟩|exact⟨cell_alloc_old c1a,cell_alloc_old c2a,cell_alloc_old c3a⟩) (first|(go_at_call 189;refine(HW.out _ HBu.out).mono ?_;intro e u2 hq;rcases HFIN.out _ HBu.out e u2 hq with⟨rfl,hp⟩|⟨b,rfl,⟨c1a,c2a,c3a⟩,hc⟩;(focus (exact⟨rfl,hp⟩));have HC:=hide hc;clear hq hc)|(go_at_call 26;refine(HC.out).mono ?_;rintro e u3⟨b2,rfl,hf,c1a,c2a,c3a⟩;have HF:=hide hf;clear hf))
 all_goals
  go_wp2
  exact HF.out
end
section
variable {ar:Nm->Nat}{ad:List Nat}{Y:Nat->Prop}{rk:Nat->Nat}{σ:TS}{ρ:Env}{tb yb d:Nat}{gv:Value}{w w':World}{nb:Nat}{txt:Nm}
theorem Unify_ym(har:∀nm,ar nm<=1000000){a b:Nat}(h:YM ar ad Y rk σ ρ tb yb d gv w)(ha:a<σ.nodes.length)(hb:b<σ.nodes.length) :
  Calls prog 138 #[adV ad a,adV ad b] w fun e w'=>(e=.returned (.bool false)/\σ.unify a b=none/\Kn (·∈ad) w w'/\∃n f,MapHas okK kyV w' tb n f)\/∃σ' rk',e=.returned (.bool true)/\σ.unify a b=some σ'/\σ'.nodes.length=σ.nodes.length/\Kn (·∈ad) w w'/\YM ar ad Y rk' σ' ρ tb yb d gv w':=by
 refine(Unify_any har h.sto ha hb).mono ?_
 rintro e w2⟨hk,⟨q1,q2⟩|⟨σ2,rk2,q1,q2,q3⟩⟩
 ·exact inl ⟨q2,q1,hk,_,_,(h.raw.choose_spec.choose_spec).kept (hk.block tb h.tb_lt h.tb_not)⟩
 ·have hs:SameN σ σ2:=by
   have q1:=q1
   unfold TS.unify at q1
   obtain⟨r,hr,rfl⟩:=map_eq_some_iff.1 q1
   exact(un_same _ _ _ _ _ _ _ hr).1
  have hy:=h.step (l:=[]) hk (by rw[append_nil];exact q3) hs.given
  rw[append_nil]at hy
  exact inr ⟨σ2,rk2,q2,q1,hs.len,hk,hy⟩
def appO(d:Nat)(f x:Nat)(σ2:TS):Option (Nat×TS):=
 (((σ2.letter d).2.named arrowN [x,σ2.nodes.length]).2.unify f ((σ2.letter d).2.named arrowN [x,σ2.nodes.length]).1).map fun s=>(σ2.nodes.length,s)
theorem appTy_end(har:∀nm,ar nm<=1000000)(h2:ar arrowN=2){f x:Nat}(h:YM ar ad Y rk σ ρ tb yb d gv w)(hf:f<σ.nodes.length)(hx:x<σ.nodes.length){u:World}(hu:Kn (fun _=>False) (w.alloc (.cells #[.string (bs []),.slice none 0 0,.pointer none,.int .i64 d] tyType)) u) :
  Calls prog 26 #[.slice (some ⟨u.heap.size,0,none⟩) 2 2] (u.alloc (.cells #[adV ad x,ptrV w.heap.size] tyTypeP)) fun e u5=>∃bf,e=.returned (ptrV bf)/\Calls prog 138 #[adV ad f,ptrV bf] u5 fun e u6=>
   (e=.returned (.bool false)/\AnTy ar ad Y ρ tb yb d gv (appO d f x σ) w noTy u6)\/(e=.returned (.bool true)/\AnTy ar ad Y ρ tb yb d gv (appO d f x σ) w (.returned (ptrV w.heap.size)) u6):=by
 have h1:=h.letter d
 have hyu:=h1.stays hu
 have hlen:(σ.letter d).2.nodes.length=σ.nodes.length+1:=by simp[TS.letter,TS.new]
 have hav:adV (ad++[w.heap.size]) σ.nodes.length=ptrV w.heap.size:=by unfold adV;rw[<- h.len,adA_new]
 have hbu:Bt ad tb yb gv w [w.heap.size] gv u:=⟨((Kn.refl _ w).alloc _).trans (hu.wide fun _ _ h=>h.elim),fun b hb=>by rw[mem_singleton.1 hb];exact le_refl _,fun _ hb=>inl hb⟩
 have hF:=Function_ym hyu (x:=x) (y:=σ.nodes.length) (by omega) (by omega) h2
 rw[hav,adV_app [w.heap.size] (by rw[h.len];exact hx)]at hF
 refine hF.mono ?_
 rintro e u5⟨b,rfl,ha⟩
 refine⟨b,rfl,?_⟩
 rcases ha.cases with⟨q1,_⟩|⟨t,σ',l,rk',gv',q1,q2,q3,q4,q5⟩
 ·cases q1
 ·obtain⟨rfl,rfl⟩:((σ.letter d).2.named arrowN [x,σ.nodes.length]).1=t/\((σ.letter d).2.named arrowN [x,σ.nodes.length]).2=σ':=by
   have:=Option.some.inj q1;exact⟨congrArg Prod.fst this,congrArg Prod.snd this⟩
  have hb5:=hbu.trans q5
  rw[append_assoc]at q4
  have hbv:ptrV b=adV (ad++([w.heap.size]++l)) ((σ.letter d).2.named arrowN [x,σ.nodes.length]).1:=by
   rw[append_assoc]at q2;simpa using q2
  have hl2:((σ.letter d).2.named arrowN [x,σ.nodes.length]).2.nodes.length=σ.nodes.length+2:=by simp[TS.named,TS.letter,TS.new]
  have hU:=Unify_ym har q4 (a:=f) (b:=((σ.letter d).2.named arrowN [x,σ.nodes.length]).1) (by omega) q3
  rw[<- hbv,adV_app _ (by rw[h.len];exact hf)]at hU
  refine hU.mono ?_
  rintro e u6 (⟨rfl,r1,r2,r3⟩|⟨σ6,rk6,rfl,r1,r2,r3,r4⟩)
  ·have hb6:=hb5.store r2 (l2:=[]) (by simp)
   exact inl ⟨rfl,AnTy.panic (by unfold appO;rw[r1];rfl) hb6.kn r3⟩
  ·have hb6:=hb5.store r3 (l2:=[]) (by simp)
   rw[append_nil]at hb6
   refine inr ⟨rfl,?_⟩
   have:=AnTy.ok (o:=appO d f x σ) (t:=σ.nodes.length) (by unfold appO;rw[r1];rfl) (by omega) r4 hb6
   rw[show adV (ad++([w.heap.size]++l)) σ.nodes.length=ptrV w.heap.size by rw[<- append_assoc,adV_app l (by simp[h.len])];exact hav]at this
   exact this
def appAll(d:Nat)(oa:Option (Nat×TS))(ob:TS->Option (Nat×TS)):Option (Nat×TS):=oa.bind fun r=>(ob r.2).bind fun q=>appO d r.1 q.1 q.2
def Two(nb g cap ba bb:Nat)(u:World):Prop:=u.cell? ⟨nb,2,none⟩=some (.slice (some ⟨g,0,none⟩) 2 cap)/\u.cell? ⟨g,0,none⟩=some (ptrV ba)/\u.cell? ⟨g,1,none⟩=some (ptrV bb)
theorem PtAt.two{k g cap ba bb:Nat}(h:PtAt nb k txt g cap [ba,bb] w):Two nb g cap ba bb w:=by
 have:=h.cells
 exact⟨this.2.2.1,this.2.2.2 0 ba rfl,this.2.2.2 1 bb rfl⟩
theorem Two.alloc{g cap ba bb:Nat}(h:Two nb g cap ba bb w)(o:Obj):Two nb g cap ba bb (w.alloc o):=⟨cell_alloc_old h.1,cell_alloc_old h.2.1,cell_alloc_old h.2.2⟩
theorem AnTy.go{ad0:List Nat}{gv0:Value}{oa o:Option (Nat×TS)}{e:Ending}{w0 u u2:World}{l0:List Nat}(hb:Bt ad0 tb yb gv0 w0 l0 gv u)(ha:AnTy ar (ad0++l0) Y ρ tb yb d gv oa u e u2)(ho:oa=none->o=none) :
  (e=noTy/\AnTy ar ad0 Y ρ tb yb d gv0 o w0 noTy u2)\/∃t σ' l rk' gv',oa=some (t,σ')/\e=.returned (adV (ad0++l) t)/\t<σ'.nodes.length/\YM ar (ad0++l) Y rk' σ' ρ tb yb d gv' u2/\Bt ad0 tb yb gv0 w0 l gv' u2/\(∀i,i<(ad0++l0).length->adV (ad0++l) i=adV (ad0++l0) i)/\(ad0++l0).length<=(ad0++l).length:=by
 rcases ha.cases with⟨rfl,q2,q3,q4⟩|⟨t,σ',l,rk',gv',rfl,q2,q3,q4,q5⟩
 ·exact inl ⟨q2,AnTy.panic (ho rfl) (hb.kn.trans' q3 fun i hi hd=>hb.dm hi hd) q4⟩
 ·refine inr ⟨t,σ',l0++l,rk',gv',rfl,?_,q3,?_,hb.trans q5,fun i hi=>?_,by simp⟩
  ·rw[q2,append_assoc]
  ·rw[<- append_assoc];exact q4
  ·rw[<- append_assoc,adV_app l hi]
theorem application_of(har:∀nm,ar nm<=1000000)(h2:ar arrowN=2){k g cap ba bb:Nat}{oa:Option (Nat×TS)}{ob:TS->Option (Nat×TS)}(h:YM ar ad Y rk σ ρ tb yb d gv w)(hp:PtAt nb k txt g cap [ba,bb] w)
  (hA:∀u,Kn (Dm ad tb yb gv) w u->YM ar ad Y rk σ ρ tb yb d gv u->Calls prog 139 #[ptrV yb,ptrV ba] u (AnTy ar ad Y ρ tb yb d gv oa u))
  (hB:∀u t σ' l rk' gv',Kn (Dm ad tb yb gv) w u->oa=some (t,σ')->YM ar (ad++l) Y rk' σ' ρ tb yb d gv' u->Calls prog 139 #[ptrV yb,ptrV bb] u (AnTy ar (ad++l) Y ρ tb yb d gv' (ob σ') u)) :
  Calls prog 243 #[ptrV yb,ptrV nb] w (AnTy ar ad Y ρ tb yb d gv (appAll d oa ob) w):=by
 have hk0:Kn (fun _=>False) w w.drew:=(Kn.refl _ _).drew
 have hyd:=h.stays hk0
 have hbd:Bt ad tb yb gv w [] gv w.drew:=⟨hk0.wide fun _ _ h=>h.elim,by simp,fun _ hb=>inl hb⟩
 have hcl:∀u,Kn (Dm ad tb yb gv) w u->Two nb g cap ba bb u:=fun u hu=>(h.pt hu hp).two
 have h1:=hA _ hbd.kn hyd
 have hc0:=hcl _ hbd.kn
 have hfin:∀e u2,AnTy ar ad Y ρ tb yb d gv oa w.drew e u2->(e=noTy/\AnTy ar ad Y ρ tb yb d gv (appAll d oa ob) w noTy u2)\/∃bf P2,e=.returned (ptrV bf)/\Two nb g cap ba bb u2/\Calls prog 139 #[ptrV yb,ptrV bb] u2 P2 /\
   ∀e u3,P2 e u3->(e=noTy/\AnTy ar ad Y ρ tb yb d gv (appAll d oa ob) w noTy u3)\/∃bx,e=.returned (ptrV bx)/\Two nb g cap ba bb u3/\Calls prog 188 #[ptrV yb] u3 fun e u4=>e=.returned (ptrV u3.heap.size)/\Two nb g cap ba bb u4/\∀u,Kn (fun _=>False) u4 u ->
    Calls prog 26 #[.slice (some ⟨u.heap.size,0,none⟩) 2 2] (u.alloc (.cells #[ptrV bx,ptrV u3.heap.size] tyTypeP)) fun e u5=>∃bn,e=.returned (ptrV bn)/\Calls prog 138 #[ptrV bf,ptrV bn] u5 fun e u6=>
     (e=.returned (.bool false)/\AnTy ar ad Y ρ tb yb d gv (appAll d oa ob) w noTy u6)\/(e=.returned (.bool true)/\AnTy ar ad Y ρ tb yb d gv (appAll d oa ob) w (.returned (ptrV u3.heap.size)) u6):=by
  intro e u2 ha
  have ha':AnTy ar (ad++[]) Y ρ tb yb d gv oa w.drew e u2:=by rw[append_nil];exact ha
  rcases AnTy.go hbd ha' (o:=appAll d oa ob) (fun e=>by rw[e];rfl)with⟨q1,q2⟩|⟨f,σ1,l1,rk1,gv1,q1,q2,q3,q4,q5,_,_⟩
  ·exact inl ⟨q1,q2⟩
  ·refine inr ⟨_,_,q2,hcl _ q5.kn,hB u2 f σ1 l1 rk1 gv1 q5.kn q1 q4,?_⟩
   intro e u3 hb
   rcases AnTy.go q5 hb (o:=appAll d oa ob) (fun e=>by unfold appAll;rw[q1,Option.bind_some,e];rfl)with⟨r1,r2⟩|⟨x,σ2,l2,rk2,gv2,r1,r2,r3,r4,r5,r6,r7⟩
   ·exact inl ⟨r1,r2⟩
   ·refine inr ⟨_,r2,hcl _ r5.kn,(yletter_any r4).mono ?_⟩
    rintro e u4⟨rfl,rfl⟩
    refine⟨rfl,(hcl _ r5.kn).alloc _,fun u hu=>?_⟩
    have hfl:f<σ2.nodes.length:=by rw[<- r4.len];rw[<- q4.len]at q3;omega
    have hend:=appTy_end har h2 r4 hfl r3 hu
    have hfv:adV (ad++l2) f=adV (ad++l1) f:=r6 f (by rw[q4.len];exact q3)
    rw[hfv]at hend
    refine hend.mono ?_
    rintro e u5⟨bn,rfl,hU⟩
    refine⟨bn,rfl,hU.mono ?_⟩
    have hap:appAll d oa ob=appO d f x σ2:=by unfold appAll;rw[q1,Option.bind_some,r1];rfl
    rw[hap]
    rintro e u6 (⟨rfl,hq⟩|⟨rfl,hq⟩)
    ·exact inl ⟨rfl,AnTy.behind r5 hq⟩
    ·exact inr ⟨rfl,AnTy.behind r5 hq⟩
 have HA:=hide h1
 have HFIN:=hide hfin
 have HNY:=hide need_yes
 have HNN:=hide need_no
 obtain⟨c1a,c2a,c3a⟩:=hc0
 have hdr:∀u:World,Kn (fun _=>False) u u.drew:=fun u=>(Kn.refl _ u).drew
 have HDR:=hide hdr
 clear h1 hfin hdr h hp hA hB hyd hbd hcl hk0 har h2
 generalize AnTy ar ad Y ρ tb yb d gv (appAll d oa ob) w=Q at *
 generalize AnTy ar ad Y ρ tb yb d gv oa w.drew=Q1 at *
 unfold noTy noTypeV Two ptrV at *
 go_enter func243,ntmps243
 go_wp2_with fail
 go_region_held2 (fun w'=>w'.cell? ⟨nb,2,none⟩=some (.slice (some ⟨g,0,none⟩) 2 cap)/\w'.cell? ⟨g,0,none⟩=some (.pointer (some ⟨ba,0,none⟩))/\w'.cell? ⟨g,1,none⟩=some (.pointer (some ⟨bb,0,none⟩))) (first|exact⟨c1a,c2a,c3a⟩|exact⟨cell_alloc_old c1a,cell_alloc_old c2a,cell_alloc_old c3a⟩) (first|(go_at_call_of 139 (Value.pointer (some ⟨ba,0,none⟩));refine(HA.out).mono ?_;intro e u2 hq;rcases HFIN.out e u2 hq with⟨rfl,hp⟩|⟨bf,P2,rfl,⟨c1a,c2a,c3a⟩,hc,hf2⟩;(focus (exact⟨rfl,hp⟩));have HC:=hide hc;have HF2:=hide hf2;clear hq hc hf2)|(go_at_call_of 139 (Value.pointer (some ⟨bb,0,none⟩));refine(HC.out).mono ?_;intro e u3 hq;rcases HF2.out e u3 hq with⟨rfl,hp⟩|⟨bx,rfl,⟨c1a,c2a,c3a⟩,hc⟩;(focus (exact⟨rfl,hp⟩));have HL:=hide hc;clear hq hc)|(go_at_call 188;refine(HL.out).mono ?_;rintro e u4⟨rfl,⟨c1a,c2a,c3a⟩,hc⟩;have HE:=hide hc;clear hc))
 all_goals
  have HE1:=hide (HE.out _ (Kn.refl _ _))
  clear HFIN HA HF2 HC HL HE
  go_wp2_with fail
  refine(HE1.out).mono ?_;rintro e u5⟨bn,rfl,hU⟩
  have HU:=hide hU
  clear HE1 hU
  go_wp2_with fail
  refine(HU.out).mono ?_;rintro e u6 (⟨rfl,hq⟩|⟨rfl,hq⟩)
  ·have HG:=hide hq
   clear hq HU
   go_wp2_with fail
   refine(HNN.out u6).mono ?_;rintro e u7⟨rfl,rfl⟩
   go_wp2
   exact⟨rfl,HG.out⟩
  ·have HG:=hide hq
   clear hq HU
   go_wp2_with fail
   refine(HNY.out u6).mono ?_;rintro e u7⟨rfl,rfl⟩
   go_wp2
   exact HG.out
end
section
variable {w:World}
theorem isValue_le{n:Nat}{k:Nat}{txt:Nm}{ps:List Nd}(h:k<=3\/k=5):isValue (n+1) (.mk k txt ps)=true:=by
 rw[isValue];rcases h with h|h<;>simp[h]
theorem isValue_no{n:Nat}{k:Nat}{txt:Nm}{ps:List Nd}(h:¬(k<=3\/k=5))(h2:k≠14):isValue (n+1) (.mk k txt ps)=false:=by
 rw[isValue]
 have h1:¬k<=3:=fun e=>h (inl e)
 have h3:¬k=5:=fun e=>h (inr e)
 simp[h1,h3,h2]
theorem isValue_con{n:Nat}{txt:Nm}{ps:List Nd}:isValue (n+1) (.mk 14 txt ps)=ps.all (isValue n):=by
 rw[isValue];simp
theorem isValue_any:∀(n:Nat)(nd:Nd)(nb:Nat),nd.ht<n->NMem w nd nb->Calls prog 96 #[ptrV nb] w fun e w'=>e=.returned (.bool (isValue n nd))/\w'=w:=by
 intro n
 induction n with
 |zero=>intro nd nb h;omega
 |succ n ih=>
  intro nd nb hn hm
  obtain⟨k,txt,ps⟩:=nd
  obtain⟨pv,bl,h1,h2,h3⟩:=hm.inv
  have c0:w.cell? ⟨nb,0,none⟩=some (.int .i64 k):=by simp[World.cell?,h1]
  have c2:w.cell? ⟨nb,2,none⟩=some pv:=by simp[World.cell?,h1]
  by_cases hk:k<=3\/k=5
  ·rw[isValue_le hk]
   generalize hQ:(fun(e:Ending) (w':World)=>e=.returned (.bool true)/\w'=w)=Q
   have hq:Q (.returned (.bool true)) w:=by rw[<- hQ];exact⟨rfl,rfl⟩
   have HQ:=hide hq
   clear hq hQ ih h1 h2 h3 c2 hm
   unfold ptrV
   have hks:k=0\/k=1\/k=2\/k=3\/k=5:=by omega
   rcases hks with rfl|rfl|rfl|rfl|rfl <;>
   ·go_enter func96,ntmps96
    go_wp2
    exact HQ.out
  ·by_cases hk2:k=14
   ·subst hk2
    rw[isValue_con]
    have hlen:=h3.len
    have hat:∀i p,ps[i]?=some p->∃b,bl[i]?=some b/\Calls prog 96 #[ptrV b] w fun e w'=>e=.returned (.bool (isValue n p))/\w'=w:=fun i p hp=>by
     obtain⟨b,hb,hmb⟩:=h3.at hp
     exact⟨b,hb,ih p b (Nd.ht_lt (List.mem_of_getElem? hp) hn) hmb⟩
    have hcell:∀g cap i b,pv=.slice (some ⟨g,0,none⟩) bl.length cap->bl[i]?=some b->w.cell? ⟨g,i,none⟩=some (ptrV b):=fun g cap i b hpv hb=>by
     subst hpv
     have hi:=(List.getElem?_eq_some_iff.1 hb).1
     rw[h2.cellAt i (by omega),List.getElem?_map,hb];rfl
    have hmax:=ownsRow_max h2
    have hforms:=ownsRow_forms h2
    have hgl:∀g,pv.ownBlock=some g->g<w.heap.size:=fun g hg=>(h2.lt g hg).2
    have HAT:=hide hat
    have HCELL:=hide hcell
    generalize hQ:(fun(e:Ending) (w':World)=>e=.returned (.bool (ps.all (isValue n)))/\w'=w)=Q
    have hq:∀b,b=ps.all (isValue n)->Q (.returned (.bool b)) w:=fun b hb=>by rw[<- hQ,hb];exact⟨rfl,rfl⟩
    have HQ:=hide hq
    clear hq hQ ih h1 h2 h3 hm hat hcell hk hn
    rw[hlen]at hforms hmax
    rcases hforms with⟨rfl,h0⟩|⟨g,cap,rfl⟩
    ·have hps:ps=[]:=List.length_eq_zero_iff.1 h0
     subst hps
     clear HAT HCELL hgl
     unfold ptrV
     go_enter func96,ntmps96
     go_wp2_with fail
     refine wp_loop_rounds 1 ?_
     rw[rounds_succ]
     go_wp2
     exact HQ.out _ rfl
    ·have hgl2:=hgl g rfl
     clear hgl
     unfold ptrV at *
     generalize hpn:ps.length=pn at *
     go_enter func96,ntmps96
     go_wp2_with fail
     go_loopg [22] pn (fun gk v22 wr=>∃k,v22=.int .i64 (k:Nat)/\k+gk=pn/\wr=w/\(ps.take k).all (isValue n)=true)
     case atStart=>exact⟨0,rfl,by omega,rfl,by simp⟩
     case round=>
      obtain⟨k,rfl,hk,rfl,hall⟩:=hrel
      by_cases hlt:k<pn
      ·have hkl:k<ps.length:=by omega
       have hp:ps[k]?=some ps[k]:=List.getElem?_eq_getElem hkl
       have htk:(ps.take (k+1)).all (isValue n)=isValue n ps[k]:=by
        rw[List.take_succ_eq_append_getElem hkl,List.all_append,hall];simp
       have hno:isValue n ps[k]=false->ps.all (isValue n)=false:=fun hf=>by
        rw[List.all_eq_false];exact⟨ps[k],List.getElem_mem hkl,by simp[hf]⟩
       generalize ps[k]=p at hp htk hno
       obtain⟨b,hb,hc⟩:=HAT.out k p hp
       have hcell:=HCELL.out g cap k b (by rw[hlen]) hb
       have HC:=hide hc
       have HNO:=hide hno
       have hlt3:(k:Int)<(pn:Int):=by omega
       clear hc hp hb HAT HCELL hno
       go_wp2_with fail
       refine(HC.out).mono ?_;rintro e w2⟨rfl,rfl⟩
       cases hv:isValue n p with
       |false=>
        go_wp2
        exact HQ.out _ (HNO.out hv).symm
       |true=>
        go_wp2_with fail
        go_roundg (pn-(k+1))
        case rel=>exact⟨k+1,by simp,by omega,rfl,by rw[htk,hv]⟩
        case measure=>omega
      ·have hkn:k=pn:=by omega
       subst hkn
       have hlt3:¬(k:Int)<(k:Int):=by omega
       rw[List.take_of_length_le (by omega)]at hall
       have HH:=hide hall
       clear hall HAT HCELL
       go_wp2
       exact HQ.out _ HH.out.symm
   ·rw[isValue_no hk hk2]
    have e0:¬(k:Int)=0:=by omega
    have e1:¬(k:Int)=1:=by omega
    have e2:¬(k:Int)=2:=by omega
    have e3:¬(k:Int)=3:=by omega
    have e5:¬(k:Int)=5:=by omega
    have e14:¬(k:Int)=14:=by omega
    generalize hQ:(fun(e:Ending) (w':World)=>e=.returned (.bool false)/\w'=w)=Q
    have hq:Q (.returned (.bool false)) w:=by rw[<- hQ];exact⟨rfl,rfl⟩
    have HQ:=hide hq
    clear hq hQ ih h1 h2 h3 c2 hm hk hk2 hn
    unfold ptrV
    go_enter func96,ntmps96
    go_wp2
    exact HQ.out
end
section
variable {ar:Nm->Nat}{ad:List Nat}{Y:Nat->Prop}{rk:Nat->Nat}{σ:TS}{ρ:Env}{tb yb d:Nat}{gv:Value}{w w':World}{nb:Nat}{txt:Nm}
def First(nb k:Nat)(txt:Nm)(g cap n ba:Nat)(u:World):Prop:=u.cell? ⟨nb,0,none⟩=some (.int .i64 k)/\u.cell? ⟨nb,1,none⟩=some (.string (bs txt))/\u.cell? ⟨nb,2,none⟩=some (.slice (some ⟨g,0,none⟩) (n+1) cap)/\u.cell? ⟨g,0,none⟩=some (ptrV ba)
theorem PtAt.first{k g cap ba:Nat}{bl:List Nat}(h:PtAt nb k txt g cap (ba::bl) w):First nb k txt g cap bl.length ba w:=by
 have:=h.cells
 exact⟨this.1,this.2.1,this.2.2.1,this.2.2.2 0 ba rfl⟩
theorem value_let{g cap ba:Nat}{bl:List Nat}{oa:Option (Nat×TS)}(h:YM ar ad Y rk σ ρ tb yb d gv w)(hp:PtAt nb 6 txt g cap (ba::bl) w)
  (hA:∀u,Kn (Dm ad tb yb gv) w u->YM ar ad Y rk σ ρ tb yb d gv u->Calls prog 139 #[ptrV yb,ptrV ba] u (AnTy ar ad Y ρ tb yb d gv oa u)) :
  Calls prog 140 #[ptrV yb,ptrV nb] w (AnTy ar ad Y ρ tb yb d gv oa w):=by
 have hfin:∀u,Kn (fun _=>False) w u->∀e u2,AnTy ar ad Y ρ tb yb d gv oa u e u2->(e=noTy/\AnTy ar ad Y ρ tb yb d gv oa w noTy u2)\/∃b,e=.returned (ptrV b)/\AnTy ar ad Y ρ tb yb d gv oa w (.returned (ptrV b)) u2:=fun u hu e u2 ha=>by
  have hb:Bt ad tb yb gv w [] gv u:=⟨hu.wide fun _ _ h=>h.elim,by simp,fun _ hb=>inl hb⟩
  have ha':AnTy ar (ad++[]) Y ρ tb yb d gv oa u e u2:=by rw[append_nil];exact ha
  have hq:=AnTy.behind hb ha'
  rcases ha.cases with⟨_,q2,_⟩|⟨t,σ',l,rk',gv',_,q2,_⟩
  ·subst q2;exact inl ⟨rfl,hq⟩
  ·subst q2;exact inr ⟨_,rfl,hq⟩
 have hA2:=fun u (hu:Kn (fun _=>False) w u)=>hA u (hu.wide fun _ _ h=>h.elim) (h.stays hu)
 obtain⟨c0,c1,c2,c3⟩:=hp.first
 have HA:=hide hA2
 have HFIN:=hide hfin
 clear hA hA2 hfin h hp
 generalize AnTy ar ad Y ρ tb yb d gv oa w=Q at *
 generalize bl.length=pn at *
 unfold noTy noTypeV ptrV at *
 go_enter func140,ntmps140
 go_wp2_with fail
 refine(HA.out _ (Kn.refl _ _)).mono ?_;intro e u2 hq
 rcases HFIN.out _ (Kn.refl _ _) e u2 hq with⟨rfl,hp⟩|⟨b,rfl,hp⟩
 ·exact⟨rfl,hp⟩
 ·have HG:=hide hp
  clear hq hp HA HFIN
  go_wp2
  exact HG.out
theorem need_any(v:Bool)(w:World):Calls prog 63 #[.bool v] w fun e w'=>w'=w/\((v=false/\e=noTy)\/(v=true/\e=.returned (.tuple #[]))):=by
 cases v with
 |false=>exact(need_no w).mono fun e w' ⟨h1,h2⟩=>⟨h2,inl ⟨rfl,h1⟩⟩
 |true=>exact(need_yes w).mono fun e w' ⟨h1,h2⟩=>⟨h2,inr ⟨rfl,h1⟩⟩
def recO(own:Nat)(o:Option (Nat×TS)):Option (Nat×TS):=o.bind fun r=>(r.2.unify own r.1).map fun s=>(own,s)
theorem value_rec(har:∀nm,ar nm<=1000000){g cap ba:Nat}{bl:List Nat}{o:Option (Nat×TS)}(h:YM ar ad Y rk σ ρ tb yb d gv w)(hp:PtAt nb 7 txt g cap (ba::bl) w)
  (hW:∀u,Kn (Dm ad tb yb gv) w u->YM ar (ad++[w.heap.size]) Y rk (σ.letter d).2 ρ tb yb d gv u->Calls prog 189 #[ptrV yb,.string (bs txt),adV (ad++[w.heap.size]) σ.nodes.length,ptrV ba] u (AnTy ar (ad++[w.heap.size]) Y ρ tb yb d gv o u)) :
  Calls prog 140 #[ptrV yb,ptrV nb] w (AnTy ar ad Y ρ tb yb d gv (recO σ.nodes.length o) w):=by
 have hL:=yletter_any h
 have h1:=h.letter d
 have hk1:Kn (fun _=>False) w (w.alloc (.cells #[.string (bs []),.slice none 0 0,.pointer none,.int .i64 d] tyType)):=(Kn.refl _ w).alloc _
 have ha:adV (ad++[w.heap.size]) σ.nodes.length=ptrV w.heap.size:=by unfold adV;rw[<- h.len,adA_new]
 rw[ha]at hW
 generalize hw1:w.alloc (.cells #[.string (bs []),.slice none 0 0,.pointer none,.int .i64 d] tyType)=w1 at *
 have hb1:Bt ad tb yb gv w [w.heap.size] gv w1:=⟨hk1.wide fun _ _ h=>h.elim,fun b hb=>by rw[mem_singleton.1 hb];exact le_refl _,fun _ hb=>inl hb⟩
 have hcl:∀u,Kn (Dm ad tb yb gv) w u->First nb 7 txt g cap bl.length ba u:=fun u hu=>(h.pt hu hp).first
 have hbu:∀u,Kn (fun _=>False) w1 u->Bt ad tb yb gv w [w.heap.size] gv u:=fun u hu=>⟨hb1.kn.trans (hu.wide fun _ _ h=>h.elim),hb1.new,hb1.giv⟩
 have hw2:∀u,Kn (fun _=>False) w1 u->Calls prog 189 #[ptrV yb,.string (bs txt),ptrV w.heap.size,ptrV ba] u (AnTy ar (ad++[w.heap.size]) Y ρ tb yb d gv o u):=fun u hu=>
  hW u (hbu u hu).kn (h1.stays hu)
 have hfin:∀u,Kn (fun _=>False) w1 u->∀e u2,AnTy ar (ad++[w.heap.size]) Y ρ tb yb d gv o u e u2->(e=noTy/\AnTy ar ad Y ρ tb yb d gv (recO σ.nodes.length o) w noTy u2) \/
   ∃b,e=.returned (ptrV b)/\First nb 7 txt g cap bl.length ba u2/\Calls prog 138 #[ptrV w.heap.size,ptrV b] u2 fun e u3=>∃v,e=.returned (.bool v)/\First nb 7 txt g cap bl.length ba u3/\(v=false->AnTy ar ad Y ρ tb yb d gv (recO σ.nodes.length o) w noTy u3)/\(v=true->AnTy ar ad Y ρ tb yb d gv (recO σ.nodes.length o) w (.returned (ptrV w.heap.size)) u3):=fun u hu e u2 hq=>by
  rcases AnTy.go (hbu u hu) hq (o:=recO σ.nodes.length o) (fun e=>by rw[e];rfl)with⟨q1,q2⟩|⟨t,σ1,l1,rk1,gv1,q1,q2,q3,q4,q5,q6,q7⟩
  ·exact inl ⟨q1,q2⟩
  ·have hlen:(ad++[w.heap.size]).length=σ.nodes.length+1:=by rw[length_append,h.len];rfl
   have hol:σ.nodes.length<σ1.nodes.length:=by rw[<- q4.len];omega
   have hU:=Unify_ym har q4 hol q3
   rw[q6 _ (by omega),ha]at hU
   refine inr ⟨_,q2,hcl _ q5.kn,hU.mono ?_⟩
   rintro e u3 (⟨rfl,r1,r2,r3⟩|⟨σ6,rk6,rfl,r1,r2,r3,r4⟩)
   ·have hb6:=q5.store r2 (l2:=[]) (by simp)
    exact⟨false,rfl,hcl _ hb6.kn,fun _=>AnTy.panic (by unfold recO;rw[q1,Option.bind_some,r1];rfl) hb6.kn r3,fun e=>by cases e⟩
   ·have hb6:=q5.store r3 (l2:=[]) (by simp)
    rw[append_nil]at hb6
    have:=AnTy.ok (o:=recO σ.nodes.length o) (t:=σ.nodes.length) (by unfold recO;rw[q1,Option.bind_some,r1];rfl) (by omega) r4 hb6
    rw[q6 _ (by omega),ha]at this
    exact⟨true,rfl,hcl _ hb6.kn,fun e=>(by cases e),fun _=>this⟩
 have HBu:=hide (show Kn (fun _=>False) w1 w1.drew from(Kn.refl _ _).drew)
 have hc0:=hcl w (Kn.refl _ _)
 have hc1:=hcl _ (hbu _ HBu.out).kn
 obtain⟨c0,_,_,_⟩:=hc0
 have HL:=hide hL
 have HC1:=hide hc1
 have HW:=hide hw2
 have HFIN:=hide hfin
 have HN:=hide need_any
 clear hL h1 hk1 hb1 hcl hw2 hW h hp ha hbu hfin hc1
 generalize AnTy ar ad Y ρ tb yb d gv (recO σ.nodes.length o) w=Q at *
 generalize bl.length=pn at *
 unfold noTy noTypeV First ptrV at *
 generalize bs txt=tx at *
 generalize Kn (fun _=>False) w1=V at *
 go_enter func140,ntmps140
 go_wp2_with fail
 refine(HL.out).mono ?_;rintro e w2⟨rfl,rfl⟩
 clear HL
 obtain⟨c0a,c1a,c2a,c3a⟩:=HC1.out
 go_wp2_with fail
 go_region_held2 (fun w'=>w'.cell? ⟨nb,1,none⟩=some (.string tx)/\w'.cell? ⟨nb,2,none⟩=some (.slice (some ⟨g,0,none⟩) (pn+1) cap)/\w'.cell? ⟨g,0,none⟩=some (.pointer (some ⟨ba,0,none⟩))) (exact⟨c1a,c2a,c3a⟩) (first|(go_at_call 189;refine(HW.out _ HBu.out).mono ?_;intro e u2 hq;rcases HFIN.out _ HBu.out e u2 hq with⟨rfl,hp⟩|⟨b,rfl,⟨c0a,c1a,c2a,c3a⟩,hc⟩;(focus (exact⟨rfl,hp⟩));have HC:=hide hc;clear hq hc)|(go_at_call 138;refine(HC.out).mono ?_;rintro e u3⟨v,rfl,⟨c0a,c1a,c2a,c3a⟩,hno,hyes⟩;have HNO:=hide hno;have HYES:=hide hyes;clear hno hyes)|(go_at_call 63;refine(HN.out _ _).mono ?_;rintro e u4⟨rfl,⟨hv,rfl⟩|⟨hv,rfl⟩⟩;(focus (exact⟨rfl,HNO.out hv⟩));have HG:=hide (HYES.out hv);clear HNO HYES))
 all_goals
  go_wp2
  exact HG.out
end
end Go.Proofs.YtbkiipiocpnnnaaGreatDoor
