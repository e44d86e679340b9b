import Derived.Test.YtbkiipiocpnnnaaGreatDoorC21
set_option linter.all false
set_option maxHeartbeats 40000000
set_option maxRecDepth 100000
open Go.Proofs.Tryz
open Or (inl inr)
open Nat (le_refl zero_le)
open List (append_nil length_cons mem_cons_self mem_cons_of_mem mem_singleton append_assoc length_nil)
namespace Go.Proofs.YtbkiipiocpnnnaaGreatDoor
open Go.RowKit
section
variable {ar:Nm->Nat}{ad:List Nat}{Y:Nat->Prop}{rk:Nat->Nat}{σ:TS}{ρ:Env}{tb yb d:Nat}{gv:Value}{w w':World}{nb:Nat}{txt:Nm}
theorem YM.deep(h:YM ar ad Y rk σ ρ tb yb d gv w)(d':Nat):YM ar ad Y rk σ ρ tb yb d' gv (w.setCell ⟨yb,1,none⟩ (.int .i64 d')):=by
 have hne:∀(k:Nat)(c:Array Value)(t:TypeId)(f:Nat×Nat),w.heap[k]?=some (.cells c t f)->t≠tyTyping->(w.setCell ⟨yb,1,none⟩ (.int .i64 d')).heap[k]?=w.heap[k]?:=fun k c t f hc ht=>by
  refine Below.heap_setCell _ _ _ _ fun e=>?_
  subst e;rw[h.typ]at hc;exact ht (cells_ty hc).symm
 have hmap:(w.setCell ⟨yb,1,none⟩ (.int .i64 d')).heap[tb]?=w.heap[tb]?:=by
  refine Below.heap_setCell _ _ _ _ fun e=>?_
  obtain⟨n,f,⟨es,cl,hm,_⟩,_⟩:=h.tab
  rw[e,h.typ]at hm;cases hm
 refine⟨h.sto.kept (fun k hk=>?_) (fun k c f _ hc=>hne k c _ f hc (by decide)),?_,?_,ownsRow_kept h.giv fun k c f _ hc=>hne k c _ f hc (by decide),fun b hb=>?_⟩
 ·obtain⟨c,f,hc⟩:=h.sto.isT hk
  exact hne k c _ f hc (by decide)
 ·have:=h.tab.kept (l:=[]) hmap (fun k c f hc=>hne k c _ f hc (by decide)) (fun k c f hc=>hne k c _ f hc (by decide)) (fun k c f hc=>hne k c _ f hc (by decide))
  rw[append_nil]at this;exact this
 ·rw[heap_setCell_same _ _ _ _ _ _ h.typ];rfl
 ·have e:(w.setCell ⟨yb,1,none⟩ (.int .i64 d')).heap.size=w.heap.size:=by simp[World.setCell]
  rw[e];exact h.yok b hb
def boundO(d:Nat)(o:Option (Nat×TS)):Option (Nat×TS):=o.bind fun r=>if r.2.fits r.1 then some (r.1,r.2.openAll d r.1)else none
theorem openAll_given(σ:TS)(d t:Nat):(σ.openAll d t).given=σ.given:=by
 unfold TS.openAll;exact(opened_alike _ _ _).given
theorem bound_end{d0:Nat}{o:Option (Nat×TS)}{l0:List Nat}{e:Ending}{u u2:World}(hb:Bt ad tb yb gv w l0 gv u)(ha:AnTy ar (ad++l0) Y ρ tb yb d0 gv o u e u2) :
  (e=noTy/\AnTy ar ad Y ρ tb yb d gv (boundO d o) w noTy u2)\/∃b,e=.returned (ptrV b)/\u2.cell? ⟨yb,1,none⟩=some (.int .i64 d0)/\u2.frozen? ⟨yb,1,none⟩=false/\Calls prog 64 #[ptrV b] (u2.setCell ⟨yb,1,none⟩ (.int .i64 d)) fun e u3=>∃v,e=.returned (.bool v) /\
   (v=false->AnTy ar ad Y ρ tb yb d gv (boundO d o) w noTy u3)/\(v=true->Calls prog 141 #[ptrV b,.int .i64 d] u3 fun e u4=>e=.returned (.tuple #[])/\AnTy ar ad Y ρ tb yb d gv (boundO d o) w (.returned (ptrV b)) u4):=by
 rcases AnTy.go hb ha (o:=boundO d o) (fun e=>by rw[e];rfl)with⟨q1,q2⟩|⟨t,σ1,l1,rk1,gv1,q1,q2,q3,q4,q5,q6,q7⟩
 ·rcases q2.cases with⟨r1,r2,r3,r4⟩|⟨_,_,_,_,_,_,r2,_⟩
  ·exact inl ⟨q1,AnTy.panic r1 r3 r4⟩
  ·cases r2
 ·have hy:=q4.deep d
  have hb2:Bt ad tb yb gv w l1 gv1 (u2.setCell ⟨yb,1,none⟩ (.int .i64 d)):=⟨q5.kn.set (p:=⟨yb,1,none⟩) (inl (inr (inr (inl rfl)))) _,q5.new,q5.giv⟩
  refine inr ⟨_,q2,by simp[World.cell?,q4.typ],frozen_of_row _ _ _ _ _ q4.typ,(Fits_any hy.sto q3).mono ?_⟩
  rintro e u3⟨rfl,r2,r3⟩
  have hb3:=hb2.store r3 (l2:=[]) (by simp)
  rw[append_nil]at hb3
  have hy3:=hy.step (l:=[]) r3 (by rw[append_nil];exact r2) rfl
  rw[append_nil]at hy3
  refine⟨_,rfl,fun hv=>AnTy.panic (by unfold boundO;rw[q1,Option.bind_some,hv];rfl) hb3.kn hy3.raw,fun hv=>(Open_any d hy3.sto q3 hv).mono ?_⟩
  rintro e u4⟨rfl,s2,s3⟩
  have hb4:=hb3.store s3 (l2:=[]) (by simp)
  rw[append_nil]at hb4
  have hy4:=hy3.step (l:=[]) s3 (by rw[append_nil];exact s2) (openAll_given _ _ _)
  rw[append_nil]at hy4
  have hlen:(σ1.openAll d t).nodes.length=σ1.nodes.length:=by unfold TS.openAll;exact(opened_alike _ _ _).len
  exact⟨rfl,AnTy.ok (by unfold boundO;rw[q1,Option.bind_some,hv];rfl) (by rw[hlen];exact q3) hy4 hb4⟩
theorem bound_of{k g cap ba n:Nat}{bl:List Nat}{a:Nd}{o:Option (Nat×TS)}(h:YM ar ad Y rk σ ρ tb yb d gv w)(hp:PtAt nb k txt g cap (ba::bl) w)(hd:d<=1000000)(hn:a.ht<n)(hN:NMem w a ba)
  (hV:∀u,Kn (Dm ad tb yb gv) w u->YM ar ad Y rk σ ρ tb yb (if isValue n a then d+1 else d) gv u->Calls prog 140 #[ptrV yb,ptrV nb] u (AnTy ar ad Y ρ tb yb (if isValue n a then d+1 else d) gv o u)) :
  Calls prog 95 #[ptrV yb,ptrV nb] w (AnTy ar ad Y ρ tb yb d gv (boundO d o) w):=by
 obtain⟨_,_,c2,c3⟩:=hp.first
 have cy:w.cell? ⟨yb,1,none⟩=some (.int .i64 d):=by simp[World.cell?,h.typ]
 have cf:w.frozen? ⟨yb,1,none⟩=false:=frozen_of_row _ _ _ _ _ h.typ
 have hI:=isValue_any n a ba hn hN
 have hset:Kn (Dm ad tb yb gv) w (w.setCell ⟨yb,1,none⟩ (.int .i64 (d+1:Nat))):=(Kn.refl _ w).set (p:=⟨yb,1,none⟩) (inl (inr (inr (inl rfl)))) _
 have hNN:=need_any
 cases hv:isValue n a with
 |true=>
  rw[hv]at hV hI
  simp only[if_true]at hV
  have hc:=hV _ hset (h.deep (d+1))
  have hbs:Bt ad tb yb gv w [] gv (w.setCell ⟨yb,1,none⟩ (.int .i64 (d+1:Nat))):=⟨hset,by simp,fun _ hb=>inl hb⟩
  have hfin:=fun e u2 (hq:AnTy ar ad Y ρ tb yb (d+1) gv o (w.setCell ⟨yb,1,none⟩ (.int .i64 (d+1:Nat))) e u2)=>bound_end (d:=d) hbs (show AnTy ar (ad++[]) Y ρ tb yb (d+1) gv o _ e u2 by rw[append_nil];exact hq)
  have hint:((d+1:Nat):Int)=(d:Int)+1:=by omega
  rw[hint]at hc hfin
  have hwrap:IntKind.i64.wrap ((d:Int)+1)=(d:Int)+1:=by
   rw[<- hint];rw[IntKind.wrap_i64];omega
  have HI:=hide hI
  have HC:=hide hc
  have HFIN:=hide hfin
  have HN:=hide hNN
  clear hI hc hfin hNN hV h hp hN hset hbs hint
  generalize AnTy ar ad Y ρ tb yb d gv (boundO d o) w=Q at *
  generalize AnTy ar ad Y ρ tb yb (d+1) gv o (w.setCell ⟨yb,1,none⟩ (.int .i64 ((d:Int)+1)))=Q1 at *
  generalize bl.length=pn at *
  unfold noTy noTypeV ptrV at *
  go_enter func95,ntmps95
  go_wp2_with fail
  refine(HI.out).mono ?_;rintro e w1⟨rfl,rfl⟩
  clear HI
  go_wp2_with fail
  refine(HC.out).mono ?_;intro e u2 hq
  rcases HFIN.out e u2 hq with⟨rfl,hp⟩|⟨b,rfl,cy2,cf2,hf⟩
  ·exact⟨rfl,hp⟩
  ·have HF:=hide hf
   clear hf hq HFIN HC
   go_wp2_with fail
   refine(HF.out).mono ?_;rintro e u3⟨v,rfl,hno,hyes⟩
   have HNO:=hide hno
   have HYES:=hide hyes
   clear hno hyes HF
   go_wp2_with fail
   refine(HN.out v u3).mono ?_;rintro e u4⟨rfl,⟨hv2,rfl⟩|⟨hv2,rfl⟩⟩
   ·exact⟨rfl,HNO.out hv2⟩
   ·have HO:=hide (HYES.out hv2)
    clear HNO HYES
    go_wp2_with fail
    refine(HO.out).mono ?_;rintro e u5⟨rfl,hq⟩
    have HG:=hide hq
    clear hq HO
    go_wp2
    exact HG.out
 |false=>
  rw[hv]at hV hI
  simp only[Bool.false_eq_true,if_false]at hV
  have hc:=hV w (Kn.refl _ _) h
  have hfin:=fun e u2 (hq:AnTy ar ad Y ρ tb yb d gv o w e u2)=>bound_end (d:=d) (Bt.refl ad tb yb gv w) (show AnTy ar (ad++[]) Y ρ tb yb d gv o _ e u2 by rw[append_nil];exact hq)
  have HI:=hide hI
  have HC:=hide hc
  have HFIN:=hide hfin
  have HN:=hide hNN
  clear hI hc hfin hNN hV h hp hN hset
  generalize AnTy ar ad Y ρ tb yb d gv (boundO d o) w=Q at *
  generalize AnTy ar ad Y ρ tb yb d gv o w=Q1 at *
  generalize bl.length=pn at *
  unfold noTy noTypeV ptrV at *
  go_enter func95,ntmps95
  go_wp2_with fail
  refine(HI.out).mono ?_;rintro e w1⟨rfl,rfl⟩
  clear HI
  go_wp2_with fail
  refine(HC.out).mono ?_;intro e u2 hq
  rcases HFIN.out e u2 hq with⟨rfl,hp⟩|⟨b,rfl,cy2,cf2,hf⟩
  ·exact⟨rfl,hp⟩
  ·have HF:=hide hf
   clear hf hq HFIN HC
   go_wp2_with fail
   refine(HF.out).mono ?_;rintro e u3⟨v,rfl,hno,hyes⟩
   have HNO:=hide hno
   have HYES:=hide hyes
   clear hno hyes HF
   go_wp2_with fail
   refine(HN.out v u3).mono ?_;rintro e u4⟨rfl,⟨hv2,rfl⟩|⟨hv2,rfl⟩⟩
   ·exact⟨rfl,HNO.out hv2⟩
   ·have HO:=hide (HYES.out hv2)
    clear HNO HYES
    go_wp2_with fail
    refine(HO.out).mono ?_;rintro e u5⟨rfl,hq⟩
    have HG:=hide hq
    clear hq HO
    go_wp2
    exact HG.out
end
section
variable {ar:Nm->Nat}{ad:List Nat}{Y:Nat->Prop}{rk:Nat->Nat}{σ:TS}{ρ:Env}{tb yb d:Nat}{gv:Value}{w w':World}{nb:Nat}{txt:Nm}
theorem AnEx.go{ad0:List Nat}{gv0:Value}{ox:Option TS}{o:Option (Nat×TS)}{e:Ending}{w0 u u2:World}{l0:List Nat}(hb:Bt ad0 tb yb gv0 w0 l0 gv u)(ha:AnEx ar (ad0++l0) Y ρ tb yb d gv ox u e u2)(ho:ox=none->o=none) :
  (e=noTy/\AnTy ar ad0 Y ρ tb yb d gv0 o w0 noTy u2)\/∃σ' l rk' gv',ox=some σ'/\e=.returned (.tuple #[])/\YM ar (ad0++l) Y rk' σ' ρ tb yb d gv' u2/\Bt ad0 tb yb gv0 w0 l gv' u2/\(∀i,i<(ad0++l0).length->adV (ad0++l) i=adV (ad0++l0) i)/\(ad0++l0).length<=(ad0++l).length:=by
 rcases ha.cases with⟨rfl,q2,q3,q4⟩|⟨σ',l,rk',gv',rfl,q2,q4,q5⟩
 ·exact inl ⟨q2,AnTy.panic (ho rfl) (hb.kn.trans' q3 fun i hi hd=>hb.dm hi hd) q4⟩
 ·refine inr ⟨σ',l0++l,rk',gv',rfl,q2,?_,hb.trans q5,fun i hi=>?_,by simp⟩
  ·rw[<- append_assoc];exact q4
  ·rw[<- append_assoc,adV_app l hi]
theorem AnTy.last{l:List Nat}{gv':Value}{o o':Option (Nat×TS)}{e:Ending}{w2:World}(h:Bt ad tb yb gv w l gv' w')(ha:AnTy ar (ad++l) Y ρ tb yb d gv' o w' e w2)(ho:o=o') :
  (e=noTy/\AnTy ar ad Y ρ tb yb d gv o' w noTy w2)\/∃b,e=.returned (ptrV b)/\AnTy ar ad Y ρ tb yb d gv o' w (.returned (ptrV b)) w2:=by
 subst ho
 have hq:=AnTy.behind h ha
 rcases ha.cases with⟨_,q2,_⟩|⟨t,σ',l,rk',gv',_,q2,_⟩
 ·subst q2;exact inl ⟨rfl,hq⟩
 ·subst q2;exact inr ⟨_,rfl,hq⟩
theorem YM.new1(h:YM ar ad Y rk σ ρ tb yb d gv w):adV (ad++[w.heap.size]) σ.nodes.length=ptrV w.heap.size:=by unfold adV;rw[<- h.len,adA_new]
theorem YM.plainAt(h:YM ar ad Y rk σ ρ tb yb d gv w){nm:Nm}(ha:ar nm=0){u:World}(hu:Kn (fun _=>False) w u)(hs:u.heap.size=w.heap.size) :
  YM ar (ad++[w.heap.size]) Y rk (σ.named nm []).2 ρ tb yb d gv (u.alloc (.cells #[.string (bs nm),.slice none 0 0,.pointer none,.int .i64 0] tyType))/\Bt ad tb yb gv w [w.heap.size] gv (u.alloc (.cells #[.string (bs nm),.slice none 0 0,.pointer none,.int .i64 0] tyType)):=by
 have h1:=(h.stays hu).plain ha
 rw[hs]at h1
 exact⟨h1,(hu.wide fun _ _ h=>h.elim).alloc _,fun b hb=>by rw[mem_singleton.1 hb];exact le_refl _,fun _ hb=>inl hb⟩
theorem Kn.drewF(w:World):Kn (fun _=>False) w w.drew:=(Kn.refl _ _).drew
def Three(nb g cap ba bb bc:Nat)(u:World):Prop:=u.cell? ⟨nb,2,none⟩=some (.slice (some ⟨g,0,none⟩) 3 cap)/\u.cell? ⟨g,0,none⟩=some (ptrV ba)/\u.cell? ⟨g,1,none⟩=some (ptrV bb)/\u.cell? ⟨g,2,none⟩=some (ptrV bc)
theorem PtAt.three{k g cap ba bb bc:Nat}(h:PtAt nb k txt g cap [ba,bb,bc] w):Three nb g cap ba bb bc w:=by
 have:=h.cells
 exact⟨this.2.2.1,this.2.2.2 0 ba rfl,this.2.2.2 1 bb rfl,this.2.2.2 2 bc rfl⟩
def One(nb g cap ba:Nat)(u:World):Prop:=u.cell? ⟨nb,2,none⟩=some (.slice (some ⟨g,0,none⟩) 1 cap)/\u.cell? ⟨g,0,none⟩=some (ptrV ba)
theorem PtAt.one{k g cap ba:Nat}(h:PtAt nb k txt g cap [ba] w):One nb g cap ba w:=by
 have:=h.cells
 exact⟨this.2.2.1,this.2.2.2 0 ba rfl⟩
theorem seq_chain{k g cap ba bb:Nat}{oa:Option TS}{ob:TS->Option (Nat×TS)}(h0:ar unitN=0)(h:YM ar ad Y rk σ ρ tb yb d gv w)(hp:PtAt nb k txt g cap [ba,bb] w)
  (hA:∀u,Kn (Dm ad tb yb gv) w u->YM ar (ad++[w.heap.size]) Y rk (σ.named unitN []).2 ρ tb yb d gv u->Calls prog 94 #[ptrV yb,ptrV ba,adV (ad++[w.heap.size]) σ.nodes.length] u (AnEx ar (ad++[w.heap.size]) Y ρ tb yb d gv oa u))
  (hB:∀u σ' l rk' gv',Kn (Dm ad tb yb gv) w u->oa=some σ'->YM ar (ad++l) Y rk' σ' ρ tb yb d gv' u->Calls prog 139 #[ptrV yb,ptrV bb] u (AnTy ar (ad++l) Y ρ tb yb d gv' (ob σ') u)) :
  ∀u,Kn (fun _=>False) w u->u.heap.size=w.heap.size->Two nb g cap ba bb u/\Calls prog 28 #[] u fun e u1=>e=.returned (ptrV w.heap.size)/\Two nb g cap ba bb u1/\Calls prog 94 #[ptrV yb,ptrV ba,ptrV w.heap.size] u1 fun e u2=>
   (e=noTy/\AnTy ar ad Y ρ tb yb d gv (oa.bind ob) w noTy u2)\/(e=.returned (.tuple #[])/\Two nb g cap ba bb u2/\Calls prog 139 #[ptrV yb,ptrV bb] u2 fun e u3=>
    (e=noTy/\AnTy ar ad Y ρ tb yb d gv (oa.bind ob) w noTy u3)\/∃b,e=.returned (ptrV b)/\AnTy ar ad Y ρ tb yb d gv (oa.bind ob) w (.returned (ptrV b)) u3):=by
 have hcl:∀u,Kn (Dm ad tb yb gv) w u->Two nb g cap ba bb u:=fun u hu=>(h.pt hu hp).two
 intro u hu hs
 refine⟨hcl _ (hu.wide fun _ _ h=>h.elim),(unitN_any u).mono ?_⟩
 rintro e u1⟨rfl,rfl⟩
 obtain⟨h1,hb1⟩:=h.plainAt h0 hu hs
 refine⟨by rw[hs],hcl _ hb1.kn,?_⟩
 have hc:=hA _ hb1.kn h1
 rw[h.new1]at hc
 refine hc.mono fun e u2 ha=>?_
 rcases AnEx.go hb1 ha (o:=oa.bind ob) (fun e=>by rw[e];rfl)with⟨q1,q2⟩|⟨σ1,l1,rk1,gv1,q1,q2,q4,q5,q6,q7⟩
 ·exact inl ⟨q1,q2⟩
 ·refine inr ⟨q2,hcl _ q5.kn,(hB u2 σ1 l1 rk1 gv1 q5.kn q1 q4).mono fun e u3 hb=>?_⟩
  exact AnTy.last q5 hb (by rw[q1];rfl)
def ifO(oa:Option TS)(ob:TS->Option (Nat×TS))(oc:Nat->TS->Option TS):Option (Nat×TS):=oa.bind fun s=>(ob s).bind fun r=>(oc r.1 r.2).map fun s=>(r.1,s)
theorem if_chain{k g cap ba bb bc:Nat}{oa:Option TS}{ob:TS->Option (Nat×TS)}{oc:Nat->TS->Option TS}(h0:ar boolN=0)(h:YM ar ad Y rk σ ρ tb yb d gv w)(hp:PtAt nb k txt g cap [ba,bb,bc] w)
  (hA:∀u,Kn (Dm ad tb yb gv) w u->YM ar (ad++[w.heap.size]) Y rk (σ.named boolN []).2 ρ tb yb d gv u->Calls prog 94 #[ptrV yb,ptrV ba,adV (ad++[w.heap.size]) σ.nodes.length] u (AnEx ar (ad++[w.heap.size]) Y ρ tb yb d gv oa u))
  (hB:∀u σ' l rk' gv',Kn (Dm ad tb yb gv) w u->oa=some σ'->YM ar (ad++l) Y rk' σ' ρ tb yb d gv' u->Calls prog 139 #[ptrV yb,ptrV bb] u (AnTy ar (ad++l) Y ρ tb yb d gv' (ob σ') u))
  (hC:∀u t σ0 σ' l rk' gv',Kn (Dm ad tb yb gv) w u->oa=some σ0->ob σ0=some (t,σ')->t<σ'.nodes.length->YM ar (ad++l) Y rk' σ' ρ tb yb d gv' u->Calls prog 94 #[ptrV yb,ptrV bc,adV (ad++l) t] u (AnEx ar (ad++l) Y ρ tb yb d gv' (oc t σ') u)) :
  ∀u,Kn (fun _=>False) w u->u.heap.size=w.heap.size->Three nb g cap ba bb bc u/\Calls prog 244 #[] u fun e u1=>e=.returned (ptrV w.heap.size)/\Three nb g cap ba bb bc u1/\Calls prog 94 #[ptrV yb,ptrV ba,ptrV w.heap.size] u1 fun e u2=>
   (e=noTy/\AnTy ar ad Y ρ tb yb d gv (ifO oa ob oc) w noTy u2)\/(e=.returned (.tuple #[])/\Three nb g cap ba bb bc u2/\Calls prog 139 #[ptrV yb,ptrV bb] u2 fun e u3=>
    (e=noTy/\AnTy ar ad Y ρ tb yb d gv (ifO oa ob oc) w noTy u3)\/∃b,e=.returned (ptrV b)/\Three nb g cap ba bb bc u3/\Calls prog 94 #[ptrV yb,ptrV bc,ptrV b] u3 fun e u4=>
     (e=noTy/\AnTy ar ad Y ρ tb yb d gv (ifO oa ob oc) w noTy u4)\/(e=.returned (.tuple #[])/\AnTy ar ad Y ρ tb yb d gv (ifO oa ob oc) w (.returned (ptrV b)) u4)):=by
 have hcl:∀u,Kn (Dm ad tb yb gv) w u->Three nb g cap ba bb bc u:=fun u hu=>(h.pt hu hp).three
 intro u hu hs
 refine⟨hcl _ (hu.wide fun _ _ h=>h.elim),(boolN_any u).mono ?_⟩
 rintro e u1⟨rfl,rfl⟩
 obtain⟨h1,hb1⟩:=h.plainAt h0 hu hs
 refine⟨by rw[hs],hcl _ hb1.kn,?_⟩
 have hc:=hA _ hb1.kn h1
 rw[h.new1]at hc
 refine hc.mono fun e u2 ha=>?_
 rcases AnEx.go hb1 ha (o:=ifO oa ob oc) (fun e=>by rw[e];rfl)with⟨q1,q2⟩|⟨σ1,l1,rk1,gv1,q1,q2,q4,q5,q6,q7⟩
 ·exact inl ⟨q1,q2⟩
 ·refine inr ⟨q2,hcl _ q5.kn,(hB u2 σ1 l1 rk1 gv1 q5.kn q1 q4).mono fun e u3 hb=>?_⟩
  rcases AnTy.go q5 hb (o:=ifO oa ob oc) (fun e=>by unfold ifO;rw[q1,Option.bind_some,e];rfl)with⟨r1,r2⟩|⟨t,σ2,l2,rk2,gv2,r1,r2,r3,r4,r5,r6,r7⟩
  ·exact inl ⟨r1,r2⟩
  ·refine inr ⟨_,r2,hcl _ r5.kn,(hC u3 t σ1 σ2 l2 rk2 gv2 r5.kn q1 r1 r3 r4).mono fun e u4 hc=>?_⟩
   rcases AnEx.go r5 hc (o:=ifO oa ob oc) (fun e=>by unfold ifO;rw[q1,Option.bind_some,r1,Option.bind_some,e];rfl)with⟨s1,s2⟩|⟨σ3,l3,rk3,gv3,s1,s2,s4,s5,s6,s7⟩
   ·exact inl ⟨s1,s2⟩
   ·refine inr ⟨s2,?_⟩
    have hl:t<σ3.nodes.length:=by have:=s4.len;have:=r4.len;omega
    have:=AnTy.ok (o:=ifO oa ob oc) (t:=t) (by unfold ifO;rw[q1,Option.bind_some,r1,Option.bind_some,s1];rfl) hl s4 s5
    rw[s6 t (by rw[r4.len];exact r3)]at this
    exact this
theorem YM.cellT(h:YM ar ad Y rk σ ρ tb yb d gv w){x:Nat}(hx:x<σ.nodes.length)(h1:ar refN=1) :
  YM ar (ad++[w.heap.size+1]) Y rk (σ.named refN [x]).2 ρ tb yb d gv ((w.alloc (.cells #[adV ad x] tyTypeP)).alloc (.cells #[.string (bs refN),.slice (some ⟨w.heap.size,0,none⟩) 1 1,.pointer none,.int .i64 0] tyType)) /\
  Bt ad tb yb gv w [w.heap.size+1] gv ((w.alloc (.cells #[adV ad x] tyTypeP)).alloc (.cells #[.string (bs refN),.slice (some ⟨w.heap.size,0,none⟩) 1 1,.pointer none,.int .i64 0] tyType))/\adV (ad++[w.heap.size+1]) σ.nodes.length=ptrV (w.heap.size+1):=by
 refine⟨h.step (((Kn.refl _ w).alloc _).alloc _) ?_ rfl,⟨((Kn.refl _ w).alloc _).alloc _,fun b hb=>by rw[mem_singleton.1 hb];omega,fun _ hb=>inl hb⟩,by unfold adV;rw[<- h.len,adA_new]⟩
 have hrow:(w.alloc (.cells #[adV ad x] tyTypeP)).ownsRow 0 tyTypeP 1 (.slice (some ⟨w.heap.size,0,none⟩) 1 1) 1 ([x].map (adV ad)):=
  ⟨rfl,inr ⟨w.heap.size,1,#[adV ad x],rfl,zero_le _,(MapKept.heap_alloc w _).1,le_refl _,by decide,rfl,rfl⟩⟩
 have hn:=(h.sto.alloc (.cells #[adV ad x] tyTypeP)).new (t:=⟨refN,[x],0⟩) (pv:=.slice (some ⟨w.heap.size,0,none⟩) 1 1) (fun p hp=>by rw[mem_singleton.1 hp];exact hx) (fun e=>absurd e (show refN≠[] by decide)) (fun _=>h1.symm) hrow (fun g hg e=>by
   have hg:w.heap.size=g:=by simpa [Value.ownBlock]using hg
   rcases e with e|e
   ·have:=h.yok g e;omega
   ·have:=h.gv_lt e;omega)
 rw[alloc_size]at hn
 exact hn
def setO(oa:Option (Nat×TS))(ob:TS->Option (Nat×TS)):Option (Nat×TS):=oa.bind fun r=>(ob r.2).bind fun q=>((q.2.named refN [q.1]).2.unify r.1 q.2.nodes.length).map fun s=>s.named unitN []
theorem set_chain(har:∀nm,ar nm<=1000000){k g cap ba bb:Nat}{oa:Option (Nat×TS)}{ob:TS->Option (Nat×TS)}(h0:ar unitN=0)(hr:ar refN=1)(h:YM ar ad Y rk σ ρ tb yb d gv w)(hp:PtAt nb k txt g cap [ba,bb] w)
  (hA:∀u,Kn (Dm ad tb yb gv) w u->YM ar ad Y rk σ ρ tb yb d gv u->Calls prog 139 #[ptrV yb,ptrV ba] u (AnTy ar ad Y ρ tb yb d gv oa u))
  (hB:∀u t σ' l rk' gv',Kn (Dm ad tb yb gv) w u->oa=some (t,σ')->YM ar (ad++l) Y rk' σ' ρ tb yb d gv' u->Calls prog 139 #[ptrV yb,ptrV bb] u (AnTy ar (ad++l) Y ρ tb yb d gv' (ob σ') u)) :
  Two nb g cap ba bb w/\Calls prog 139 #[ptrV yb,ptrV ba] w fun e u2=>(e=noTy/\AnTy ar ad Y ρ tb yb d gv (setO oa ob) w noTy u2)\/∃bf,e=.returned (ptrV bf)/\∀u,Kn (fun _=>False) u2 u->Two nb g cap ba bb u/\Calls prog 139 #[ptrV yb,ptrV bb] u fun e u3=>
   (e=noTy/\AnTy ar ad Y ρ tb yb d gv (setO oa ob) w noTy u3)\/∃bx,e=.returned (ptrV bx)/\Two nb g cap ba bb u3/\Calls prog 29 #[ptrV bx] u3 fun e u4=>∃bc,e=.returned (ptrV bc)/\Two nb g cap ba bb u4/\Calls prog 138 #[ptrV bf,ptrV bc] u4 fun e u5=>∃v,e=.returned (.bool v)/\Two nb g cap ba bb u5 /\
    (v=false->AnTy ar ad Y ρ tb yb d gv (setO oa ob) w noTy u5)/\(v=true->Calls prog 28 #[] u5 fun e u6=>∃b,e=.returned (ptrV b)/\AnTy ar ad Y ρ tb yb d gv (setO oa ob) w (.returned (ptrV b)) u6):=by
 have hcl:∀u,Kn (Dm ad tb yb gv) w u->Two nb g cap ba bb u:=fun u hu=>(h.pt hu hp).two
 refine⟨hcl _ (Kn.refl _ _),(hA w (Kn.refl _ _) h).mono fun e u2 ha=>?_⟩
 rcases AnTy.go (Bt.refl ad tb yb gv w) (show AnTy ar (ad++[]) Y ρ tb yb d gv oa w e u2 by rw[append_nil];exact ha) (o:=setO oa ob) (fun e=>by rw[e];rfl)with⟨q1,q2⟩|⟨f,σ1,l1,rk1,gv1,q1,q2,q3,q4,q5,_,_⟩
 ·exact inl ⟨q1,q2⟩
 refine inr ⟨_,q2,fun u hu=>?_⟩
 have q5u:Bt ad tb yb gv w l1 gv1 u:=⟨q5.kn.trans (hu.wide fun _ _ h=>h.elim),q5.new,q5.giv⟩
 refine⟨hcl _ q5u.kn,(hB u f σ1 l1 rk1 gv1 q5u.kn q1 (q4.stays hu)).mono fun e u3 hb=>?_⟩
 rcases AnTy.go q5u hb (o:=setO oa ob) (fun e=>by unfold setO;rw[q1,Option.bind_some,e];rfl)with⟨r1,r2⟩|⟨x,σ2,l2,rk2,gv2,r1,r2,r3,r4,r5,r6,r7⟩
 ·exact inl ⟨r1,r2⟩
 obtain⟨k1,k2,k3⟩:=r4.cellT r3 hr
 have hb4:=r5.trans k2
 refine inr ⟨_,r2,hcl _ r5.kn,(cellType_any _ u3).mono ?_⟩
 rintro e u4⟨rfl,rfl⟩
 have hl4:(σ2.named refN [x]).2.nodes.length=σ2.nodes.length+1:=by simp[TS.named,TS.new]
 have hfl:f<σ2.nodes.length:=by have:=r4.len;have:=q4.len;omega
 rw[append_assoc]at k1 k3
 have hU:=Unify_ym har k1 (a:=f) (b:=σ2.nodes.length) (by omega) (by omega)
 have hfv:adV (ad++(l2++[u3.heap.size+1])) f=adV (ad++l1) f:=by
  rw[<- append_assoc,adV_app _ (by rw[r4.len];exact hfl)];exact r6 f (by rw[q4.len];exact q3)
 rw[k3,hfv]at hU
 refine⟨_,rfl,hcl _ hb4.kn,hU.mono ?_⟩
 have hap:setO oa ob=((σ2.named refN [x]).2.unify f σ2.nodes.length).map fun s=>s.named unitN []:=by unfold setO;rw[q1,Option.bind_some,r1];rfl
 rintro e u5 (⟨rfl,s1,s2,s3⟩|⟨σ6,rk6,rfl,s1,s2,s3,s4⟩)
 ·have hb6:=hb4.store s2 (l2:=[]) (by simp)
  exact⟨false,rfl,hcl _ hb6.kn,fun _=>AnTy.panic (by rw[hap,s1];rfl) hb6.kn s3,fun e=>by cases e⟩
 ·have hb6:=hb4.store s3 (l2:=[]) (by simp)
  rw[append_nil]at hb6
  refine⟨true,rfl,hcl _ hb6.kn,(fun e=>by cases e),fun _=>(unitN_any u5).mono ?_⟩
  rintro e u6⟨rfl,rfl⟩
  obtain⟨h7,hb7⟩:=s4.plainAt h0 (Kn.refl _ u5) rfl
  refine⟨_,rfl,AnTy.behind hb6 ?_⟩
  rw[hap,s1]
  exact AnTy.newOne s4 h7 (by simp[TS.named,TS.new])
def fetchO(t:Nat)(oa:Option TS):Option (Nat×TS):=oa.map fun s=>(t,s)
theorem fetch_chain{k g cap ba:Nat}{oa:Option TS}(hr:ar refN=1)(h:YM ar ad Y rk σ ρ tb yb d gv w)(hp:PtAt nb k txt g cap [ba] w)
  (hA:∀u l,Kn (Dm ad tb yb gv) w u->YM ar (ad++l) Y rk ((σ.letter d).2.named refN [σ.nodes.length]).2 ρ tb yb d gv u->Calls prog 94 #[ptrV yb,ptrV ba,adV (ad++l) (σ.nodes.length+1)] u (AnEx ar (ad++l) Y ρ tb yb d gv oa u)) :
  Calls prog 188 #[ptrV yb] w fun e u1=>e=.returned (ptrV w.heap.size)/\∀u,Kn (fun _=>False) u1 u->One nb g cap ba u/\Calls prog 29 #[ptrV w.heap.size] u fun e u2=>∃bc,e=.returned (ptrV bc)/\One nb g cap ba u2/\Calls prog 94 #[ptrV yb,ptrV ba,ptrV bc] u2 fun e u3=>
   (e=noTy/\AnTy ar ad Y ρ tb yb d gv (fetchO σ.nodes.length oa) w noTy u3)\/(e=.returned (.tuple #[])/\One nb g cap ba u3/\AnTy ar ad Y ρ tb yb d gv (fetchO σ.nodes.length oa) w (.returned (ptrV w.heap.size)) u3):=by
 have hcl:∀u,Kn (Dm ad tb yb gv) w u->One nb g cap ba u:=fun u hu=>(h.pt hu hp).one
 refine(yletter_any h).mono ?_
 rintro e u1⟨rfl,rfl⟩
 refine⟨rfl,fun u hu=>?_⟩
 have h1:=(h.letter d).stays hu
 have hb1:Bt ad tb yb gv w [w.heap.size] gv u:=⟨((Kn.refl _ w).alloc _).trans (hu.wide fun _ _ h=>h.elim),fun b hb=>by rw[mem_singleton.1 hb];exact le_refl _,fun _ hb=>inl hb⟩
 have hl1:(σ.letter d).2.nodes.length=σ.nodes.length+1:=by simp[TS.letter,TS.new]
 have hl2:((σ.letter d).2.named refN [σ.nodes.length]).2.nodes.length=σ.nodes.length+2:=by simp[TS.letter,TS.named,TS.new]
 obtain⟨k1,k2,k3⟩:=h1.cellT (x:=σ.nodes.length) (by omega) hr
 rw[h.new1]at k1 k2
 have hb2:=hb1.trans k2
 refine⟨hcl _ hb1.kn,(cellType_any w.heap.size u).mono ?_⟩
 rintro e u2⟨rfl,rfl⟩
 rw[append_assoc]at k1 k3
 have hc:=hA _ _ hb2.kn k1
 rw[hl1]at k3
 rw[k3]at hc
 refine⟨_,rfl,hcl _ hb2.kn,hc.mono fun e u3 ha=>?_⟩
 rcases AnEx.go hb2 ha (o:=fetchO σ.nodes.length oa) (fun e=>by rw[e];rfl)with⟨q1,q2⟩|⟨σ1,l1,rk1,gv1,q1,q2,q4,q5,q6,q7⟩
 ·exact inl ⟨q1,q2⟩
 ·have hl:σ.nodes.length<σ1.nodes.length:=by have:=q4.len;have:=k1.len;omega
  have:=AnTy.ok (o:=fetchO σ.nodes.length oa) (t:=σ.nodes.length) (by unfold fetchO;rw[q1];rfl) hl q4 q5
  rw[q6 _ (by rw[k1.len];omega),<- append_assoc,adV_app _ (by simp[h.len]),h.new1]at this
  exact inr ⟨q2,hcl _ q5.kn,this⟩
def calcO(cmp:Bool)(oa:Option TS)(ob:TS->Option TS):Option (Nat×TS):=oa.bind fun s=>(ob s).map fun s=>s.named (if cmp then boolN else intN) []
theorem calc_chain{k g cap ba bb:Nat}{oa:Option TS}{ob:TS->Option TS}(hi:ar intN=0)(hbo:ar boolN=0)(h:YM ar ad Y rk σ ρ tb yb d gv w)(hp:PtAt nb k txt g cap [ba,bb] w)(cmp:Bool)
  (hA:∀u,Kn (Dm ad tb yb gv) w u->YM ar (ad++[w.heap.size]) Y rk (σ.named intN []).2 ρ tb yb d gv u->Calls prog 94 #[ptrV yb,ptrV ba,adV (ad++[w.heap.size]) σ.nodes.length] u (AnEx ar (ad++[w.heap.size]) Y ρ tb yb d gv oa u))
  (hB:∀u σ' l rk' gv',Kn (Dm ad tb yb gv) w u->oa=some σ'->YM ar (ad++l) Y rk' (σ'.named intN []).2 ρ tb yb d gv' u->Calls prog 94 #[ptrV yb,ptrV bb,adV (ad++l) σ'.nodes.length] u (AnEx ar (ad++l) Y ρ tb yb d gv' (ob σ') u)) :
  ∀u,Kn (fun _=>False) w u->u.heap.size=w.heap.size->Two nb g cap ba bb u/\Calls prog 27 #[] u fun e u1=>e=.returned (ptrV w.heap.size)/\Two nb g cap ba bb u1/\Calls prog 94 #[ptrV yb,ptrV ba,ptrV w.heap.size] u1 fun e u2=>
   (e=noTy/\AnTy ar ad Y ρ tb yb d gv (calcO cmp oa ob) w noTy u2)\/(e=.returned (.tuple #[])/\∀v,Kn (fun _=>False) u2 v->v.heap.size=u2.heap.size->Two nb g cap ba bb v/\Calls prog 27 #[] v fun e u3=>e=.returned (ptrV u2.heap.size)/\Two nb g cap ba bb u3/\Calls prog 94 #[ptrV yb,ptrV bb,ptrV u2.heap.size] u3 fun e u4=>
    (e=noTy/\AnTy ar ad Y ρ tb yb d gv (calcO cmp oa ob) w noTy u4)\/(e=.returned (.tuple #[])/\Two nb g cap ba bb u4/\u4.cell? ⟨nb,1,none⟩=some (.string (bs txt))/\(cmp=false->Calls prog 27 #[] u4 fun e u5=>∃b,e=.returned (ptrV b)/\AnTy ar ad Y ρ tb yb d gv (calcO cmp oa ob) w (.returned (ptrV b)) u5) /\
     (cmp=true->Calls prog 244 #[] u4 fun e u5=>∃b,e=.returned (ptrV b)/\AnTy ar ad Y ρ tb yb d gv (calcO cmp oa ob) w (.returned (ptrV b)) u5))):=by
 have hcl:∀u,Kn (Dm ad tb yb gv) w u->Two nb g cap ba bb u:=fun u hu=>(h.pt hu hp).two
 intro u hu hs
 refine⟨hcl _ (hu.wide fun _ _ h=>h.elim),(intN_any u).mono ?_⟩
 rintro e u1⟨rfl,rfl⟩
 obtain⟨h1,hb1⟩:=h.plainAt hi hu hs
 refine⟨by rw[hs],hcl _ hb1.kn,?_⟩
 have hc:=hA _ hb1.kn h1
 rw[h.new1]at hc
 refine hc.mono fun e u2 ha=>?_
 rcases AnEx.go hb1 ha (o:=calcO cmp oa ob) (fun e=>by rw[e];rfl)with⟨q1,q2⟩|⟨σ1,l1,rk1,gv1,q1,q2,q4,q5,q6,q7⟩
 ·exact inl ⟨q1,q2⟩
 refine inr ⟨q2,fun v hv hsv=>?_⟩
 have q5v:Bt ad tb yb gv w l1 gv1 v:=⟨q5.kn.trans (hv.wide fun _ _ h=>h.elim),q5.new,q5.giv⟩
 refine⟨hcl _ q5v.kn,(intN_any v).mono ?_⟩
 rintro e u3⟨rfl,rfl⟩
 obtain⟨h3,hb3⟩:=q4.plainAt hi hv hsv
 have hb3':=q5.trans hb3
 have hc3:=hB _ σ1 (l1++[u2.heap.size]) rk1 gv1 hb3'.kn q1 (by rw[<- append_assoc];exact h3)
 rw[<- append_assoc,q4.new1]at hc3
 refine⟨by rw[hsv],hcl _ hb3'.kn,hc3.mono fun e u4 hb=>?_⟩
 rcases AnEx.go hb3' (by rw[<- append_assoc];exact hb) (o:=calcO cmp oa ob) (fun e=>by unfold calcO;rw[q1,Option.bind_some,e];rfl)with⟨r1,r2⟩|⟨σ2,l2,rk2,gv2,r1,r2,r4,r5,r6,r7⟩
 ·exact inl ⟨r1,r2⟩
 have hap:calcO cmp oa ob=some (σ2.named (if cmp then boolN else intN) []):=by unfold calcO;rw[q1,Option.bind_some,r1];rfl
 refine inr ⟨r2,hcl _ r5.kn,(h.pt r5.kn hp).cells.2.1,fun e=>(intN_any u4).mono ?_,fun e=>(boolN_any u4).mono ?_⟩
 ·subst e
  rintro e u5⟨rfl,rfl⟩
  obtain⟨h7,hb7⟩:=r4.plainAt hi (Kn.refl _ u4) rfl
  refine⟨_,rfl,AnTy.behind r5 ?_⟩
  rw[hap]
  exact AnTy.newOne r4 h7 (by simp[TS.named,TS.new])
 ·subst e
  rintro e u5⟨rfl,rfl⟩
  obtain⟨h7,hb7⟩:=r4.plainAt hbo (Kn.refl _ u4) rfl
  refine⟨_,rfl,AnTy.behind r5 ?_⟩
  rw[hap]
  exact AnTy.newOne r4 h7 (by simp[TS.named,TS.new])
end
section
variable {ar:Nm->Nat}{ad:List Nat}{Y:Nat->Prop}{rk:Nat->Nat}{σ:TS}{ρ:Env}{tb yb d:Nat}{gv:Value}{w w':World}{nb:Nat}{txt:Nm}
theorem own_cells{v:Value}{B n:Nat}{t:TypeId}{size:Nat}{xs:List Value}{u:World}(ho:u.ownsRow B t size v n xs){b:Nat}(hb:v.ownBlock=some b):∃c,u.heap[b]?=some (.cells c t (0,0)):=by
 rcases ho.2 with⟨rfl,_⟩|⟨g,cap,cur,rfl,_,hgg,_⟩
 ·simp[Value.ownBlock]at hb
 ·have:g=b:=by simpa [Value.ownBlock]using hb
  subst this;exact⟨_,hgg⟩
theorem lettersFor_ext(d:Nat):∀(ls:List Nm)(σ:TS),TExt σ (lettersFor d ls σ).2:=by
 intro ls
 induction ls with
 |nil=>intro σ;exact TExt.refl _
 |cons a r ih=>intro σ;rw[lettersFor];exact(TExt.new _ _).trans (ih _)
variable {ls:List Nm}{ch:List (Nm×Nat)}{σ' σk:TS}{cb k:Nat}{v:Value}{wr:World}{l:List Nat}
end
def WrL(ar:Nm->Nat)(ls:List Nm)(q:Nd):Prop:=
 ∀x∈q.all,(x.k=21/\okS x.txt/\x.txt∈ls)\/(x.k≠21/\x.k≠23/\x.txt≠[]/\x.ps.length=ar x.txt/\x.k<100)\/(x.k=23/\x.ps.length=2)
section
variable {S:Type}{get:S->TS}{put:S->TS->S}{E:S->Value->List Nat->World->Prop}{rb:Nat}
variable {ar:Nm->Nat}{ad:List Nat}{Y:Nat->Prop}{rk:Nat->Nat}{σ:TS}{ρ:Env}{tb yb d:Nat}{gv vv:Value}{w w':World}{nb:Nat}{txt:Nm}
structure ConIn(ar:Nm->Nat)(m:Mg)(np:Nat):Prop where
 va:VrA ar m.vr
 np:np=m.vr.parts.length
 data:m.vr.data≠[]
 ok:∀x∈m.vr.letters,okS x
 wr:∀q∈m.vr.parts,WrL ar m.vr.letters q
end
abbrev tyBg:TypeId:=44
theorem under_bgs:prog.underlying 37=some (.slice tyBg):=by kernel_rfl
theorem info_bg:(prog.info? tyBg).map (fun i=>(i.zero,i.size,i.bytes))=some (some (.agg #[.string ⟨#[]⟩,.pointer none]),2,24):=by kernel_rfl
theorem run_append_bg{w:World}{base:Nat}{v:Value}{n:Nat}{xs:List Value}{ty:TypeId}(s:ByteArray)(k:Nat)(hown:w.ownsRow base tyBg 2 v n xs)(hn:n<=100000000)(hb:base<=w.heap.size) :
  ∃v' w',(Builtin.append_ #[37,37] ty #[v,.slice (some ⟨w.heap.size,0,none⟩) 1 1]).run prog (w.alloc (.cells #[.string s,.pointer (some ⟨k,0,none⟩)] tyBg))=.ok v' w' /\
   w'.ownsRow base tyBg 2 v' (n+1) (xs++[.string s,ptrV k])/\(w.alloc (.cells #[.string s,.pointer (some ⟨k,0,none⟩)] tyBg)).grownBy w' v.ownBlock/\(∀g,v'.ownBlock=some g->v.ownBlock=some g\/w.heap.size<g)/\∃g cap,v'=.slice (some ⟨g,0,none⟩) (n+1) cap:=by
 obtain⟨i0,hi,hz0,hz1,hz2⟩:=info_parts info_bg
 have hown1:=hown.alloc (.cells #[.string s,.pointer (some ⟨k,0,none⟩)] tyBg)
 have hnews:∀j u,[Value.string s,Value.pointer (some ⟨k,0,none⟩)][j]?=some u->(w.alloc (.cells #[.string s,.pointer (some ⟨k,0,none⟩)] tyBg)).cell? ((⟨w.heap.size,0,none⟩:Addr).add j)=some u:=fun j u hj=>cell_new rfl (by simpa using hj)
 have h1:∀u∈[Value.string s,Value.pointer (some ⟨k,0,none⟩)],u.oneCell'=true:=by
  intro u hu;simp at hu;rcases hu with rfl|rfl<;>rfl
 obtain⟨v',w',hr,ho2,hg',_⟩:=run_append_own (P:=prog) (w.alloc (.cells #[.string s,.pointer (some ⟨k,0,none⟩)] tyBg)) base 37 ty tyBg i0 (.agg #[.string ⟨#[]⟩,.pointer none]) 2 24 under_bgs hi hz0 hz1 hz2 rfl (by decide) v n xs hown1 ⟨w.heap.size,0,none⟩ 1 1 [.string s,.pointer (some ⟨k,0,none⟩)] rfl hnews h1 (by unfold maxLen;omega) (by omega) (by simp;omega)
 refine⟨v',w',hr,ho2,hg',?_,?_⟩
 ·intro g hgv
  rcases hown1.2 with⟨rfl,hn0⟩|⟨g0,cap,cur,rfl,hbg,hg,hnc,hcm,hcs,htake⟩
  ·have h:=run_append_nil (P:=prog) (w.alloc (.cells #[.string s,.pointer (some ⟨k,0,none⟩)] tyBg)) 37 ty tyBg i0 (.agg #[.string ⟨#[]⟩,.pointer none]) under_bgs hi hz0 ⟨w.heap.size,0,none⟩ 1 1 [.string s,.pointer (some ⟨k,0,none⟩)] (by rw[hz1];rfl) hnews (by omega) (by omega) (by rw[hz2];omega)
   rw[hr]at h
   simp only[Result.ok.injEq]at h
   rw[h.1]at hgv
   simp[Value.ownBlock]at hgv
   omega
  ·by_cases hroom:n+1<=cap
   ·have h:=run_append_room (P:=prog) (w.alloc (.cells #[.string s,.pointer (some ⟨k,0,none⟩)] tyBg)) 37 ty tyBg i0 under_bgs hi g0 n cap cur hg ⟨w.heap.size,0,none⟩ 1 1 [.string s,.pointer (some ⟨k,0,none⟩)] (by rw[hz1];rfl) hnews h1 hroom (by rw[hcs,hz1];simp only[length_cons,length_nil];omega)
    rw[hr]at h
    simp only[Result.ok.injEq]at h
    rw[h.1]at hgv
    exact inl hgv
   ·have h:=run_append_grow (P:=prog) (w.alloc (.cells #[.string s,.pointer (some ⟨k,0,none⟩)] tyBg)) 37 ty tyBg i0 (.agg #[.string ⟨#[]⟩,.pointer none]) under_bgs hi hz0 ⟨g0,0,none⟩ n cap xs (by rw[hz1];exact hown.1) (hown1.cells (g:=g0) rfl) ⟨w.heap.size,0,none⟩ 1 1 [.string s,.pointer (some ⟨k,0,none⟩)] (by rw[hz1];rfl) hnews (by omega) (by omega) (growslice_fits (by omega) (by rw[hz2];omega))
    rw[hr]at h
    simp only[Result.ok.injEq]at h
    rw[h.1]at hgv
    simp[Value.ownBlock]at hgv
    omega
 ·rcases ownsRow_forms ho2 with⟨_,hn0⟩|h
  ·simp at hn0
  ·exact h
def bgCells(ad:List Nat):List (Nm×Nat)->List Value
 |[]=>[]
 |x::r=>.string (bs x.1)::adV ad x.2::bgCells ad r
theorem bgCells_snoc(ad:List Nat)(x:Nm×Nat):∀vs,bgCells ad (vs++[x])=bgCells ad vs++[.string (bs x.1),adV ad x.2]:=by
 intro vs
 induction vs with
 |nil=>rfl
 |cons y r ih=>simp[bgCells,ih]
theorem bgCells_app{ad:List Nat}(l:List Nat):∀{vs:List (Nm×Nat)},(∀x∈vs,x.2<ad.length)->bgCells (ad++l) vs=bgCells ad vs:=by
 intro vs
 induction vs with
 |nil=>intro _;rfl
 |cons y r ih=>
  intro h
  rw[bgCells,bgCells,ih fun x hx=>h x (mem_cons_of_mem _ hx),adV_app l (h y (mem_cons_self ..))]
theorem bgCells_at{ad:List Nat}:∀{vs:List (Nm×Nat)}{i:Nat}{x:Nm×Nat},vs[i]?=some x->(bgCells ad vs)[i*2]?=some (.string (bs x.1))/\(bgCells ad vs)[i*2+1]?=some (adV ad x.2):=by
 intro vs
 induction vs with
 |nil=>intro i x h;simp at h
 |cons y r ih=>
  intro i x h
  cases i with
  |zero=>simp at h;subst h;simp[bgCells]
  |succ i=>
   have:=ih (i:=i) (x:=x) (by simpa using h)
   rw[show (i+1)*2=i*2+1+1 by omega,bgCells]
   simpa using this
end Go.Proofs.YtbkiipiocpnnnaaGreatDoor
