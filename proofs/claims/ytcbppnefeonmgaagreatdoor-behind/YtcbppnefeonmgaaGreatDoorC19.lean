import Derived.Test.YtcbppnefeonmgaaGreatDoorC18
set_option linter.all false
set_option maxHeartbeats 40000000
set_option maxRecDepth 100000
open Go.Proofs.Tryz
open Or (inl inr)
open Nat (le_refl le_trans zero_le)
open List (append_nil mem_singleton append_assoc length_map)
namespace Go.Proofs.YtcbppnefeonmgaaGreatDoor
open Go.RowKit
section
variable {ar:Nm->Nat}{ad:List Nat}{Y:Nat->Prop}{rk:Nat->Nat}{σ:TS}{ρ:Env}{tb yb d:Nat}{gv:Value}{w w':World}{nb:Nat}{txt:Nm}
theorem AnEx.go{ad0:List Nat}{gv0:Value}{ox:Option TS}{o:Option (Nat×TS)}{e:Ending}{w0 u u2:World}{l0:List Nat}(hb:Bt ad0 tb yb gv0 w0 l0 gv u)(ha:AnEx ar (ad0++l0) Y ρ tb yb d gv ox u e u2)(ho:ox=none->o=none) :
  (e=noTy/\AnTy ar ad0 Y ρ tb yb d gv0 o w0 noTy u2)\/∃σ' l rk' gv',ox=some σ'/\e=.returned (.tuple #[])/\YM ar (ad0++l) Y rk' σ' ρ tb yb d gv' u2/\Bt ad0 tb yb gv0 w0 l gv' u2/\(∀i,i<(ad0++l0).length->adV (ad0++l) i=adV (ad0++l0) i)/\(ad0++l0).length<=(ad0++l).length:=by
 rcases ha.cases with⟨rfl,q2,q3,q4⟩|⟨σ',l,rk',gv',rfl,q2,q4,q5⟩
 ·exact inl ⟨q2,AnTy.panic (ho rfl) (hb.kn.trans' q3 fun i hi hd=>hb.dm hi hd) q4⟩
 ·refine inr ⟨σ',l0++l,rk',gv',rfl,q2,?_,hb.trans q5,fun i hi=>?_,by simp⟩
  ·rw[<- append_assoc];exact q4
  ·rw[<- append_assoc,adV_app l hi]
theorem AnTy.last{l:List Nat}{gv':Value}{o o':Option (Nat×TS)}{e:Ending}{w2:World}(h:Bt ad tb yb gv w l gv' w')(ha:AnTy ar (ad++l) Y ρ tb yb d gv' o w' e w2)(ho:o=o') :
  (e=noTy/\AnTy ar ad Y ρ tb yb d gv o' w noTy w2)\/∃b,e=.returned (ptrV b)/\AnTy ar ad Y ρ tb yb d gv o' w (.returned (ptrV b)) w2:=by
 subst ho
 have hq:=AnTy.behind h ha
 rcases ha.cases with⟨_,q2,_⟩|⟨t,σ',l,rk',gv',_,q2,_⟩
 ·subst q2;exact inl ⟨rfl,hq⟩
 ·subst q2;exact inr ⟨_,rfl,hq⟩
theorem YM.new1(h:YM ar ad Y rk σ ρ tb yb d gv w):adV (ad++[w.heap.size]) σ.nodes.length=ptrV w.heap.size:=by unfold adV;rw[<- h.len,adA_new]
theorem YM.plainAt(h:YM ar ad Y rk σ ρ tb yb d gv w){nm:Nm}(ha:ar nm=0){u:World}(hu:Kn (fun _=>False) w u)(hs:u.heap.size=w.heap.size) :
  YM ar (ad++[w.heap.size]) Y rk (σ.named nm []).2 ρ tb yb d gv (u.alloc (.cells #[.string (bs nm),.slice none 0 0,.pointer none,.int .i64 0] tyType))/\Bt ad tb yb gv w [w.heap.size] gv (u.alloc (.cells #[.string (bs nm),.slice none 0 0,.pointer none,.int .i64 0] tyType)):=by
 have h1:=(h.stays hu).plain ha
 rw[hs]at h1
 exact⟨h1,(hu.wide fun _ _ h=>h.elim).alloc _,fun b hb=>by rw[mem_singleton.1 hb];exact le_refl _,fun _ hb=>inl hb⟩
theorem Kn.drewF(w:World):Kn (fun _=>False) w w.drew:=(Kn.refl _ _).drew
def Three(nb g cap ba bb bc:Nat)(u:World):Prop:=u.cell? ⟨nb,2,none⟩=some (.slice (some ⟨g,0,none⟩) 3 cap)/\u.cell? ⟨g,0,none⟩=some (ptrV ba)/\u.cell? ⟨g,1,none⟩=some (ptrV bb)/\u.cell? ⟨g,2,none⟩=some (ptrV bc)
theorem PtAt.three{k g cap ba bb bc:Nat}(h:PtAt nb k txt g cap [ba,bb,bc] w):Three nb g cap ba bb bc w:=by
 have:=h.cells
 exact⟨this.2.2.1,this.2.2.2 0 ba rfl,this.2.2.2 1 bb rfl,this.2.2.2 2 bc rfl⟩
def One(nb g cap ba:Nat)(u:World):Prop:=u.cell? ⟨nb,2,none⟩=some (.slice (some ⟨g,0,none⟩) 1 cap)/\u.cell? ⟨g,0,none⟩=some (ptrV ba)
theorem PtAt.one{k g cap ba:Nat}(h:PtAt nb k txt g cap [ba] w):One nb g cap ba w:=by
 have:=h.cells
 exact⟨this.2.2.1,this.2.2.2 0 ba rfl⟩
theorem seq_chain{k g cap ba bb:Nat}{oa:Option TS}{ob:TS->Option (Nat×TS)}(h0:ar unitN=0)(h:YM ar ad Y rk σ ρ tb yb d gv w)(hp:PtAt nb k txt g cap [ba,bb] w)
  (hA:∀u,Kn (Dm ad tb yb gv) w u->YM ar (ad++[w.heap.size]) Y rk (σ.named unitN []).2 ρ tb yb d gv u->Calls prog 116 #[ptrV yb,ptrV ba,adV (ad++[w.heap.size]) σ.nodes.length] u (AnEx ar (ad++[w.heap.size]) Y ρ tb yb d gv oa u))
  (hB:∀u σ' l rk' gv',Kn (Dm ad tb yb gv) w u->oa=some σ'->YM ar (ad++l) Y rk' σ' ρ tb yb d gv' u->Calls prog 141 #[ptrV yb,ptrV bb] u (AnTy ar (ad++l) Y ρ tb yb d gv' (ob σ') u)) :
  ∀u,Kn (fun _=>False) w u->u.heap.size=w.heap.size->Two nb g cap ba bb u/\Calls prog 41 #[] u fun e u1=>e=.returned (ptrV w.heap.size)/\Two nb g cap ba bb u1/\Calls prog 116 #[ptrV yb,ptrV ba,ptrV w.heap.size] u1 fun e u2=>
   (e=noTy/\AnTy ar ad Y ρ tb yb d gv (oa.bind ob) w noTy u2)\/(e=.returned (.tuple #[])/\Two nb g cap ba bb u2/\Calls prog 141 #[ptrV yb,ptrV bb] u2 fun e u3=>
    (e=noTy/\AnTy ar ad Y ρ tb yb d gv (oa.bind ob) w noTy u3)\/∃b,e=.returned (ptrV b)/\AnTy ar ad Y ρ tb yb d gv (oa.bind ob) w (.returned (ptrV b)) u3):=by
 have hcl:∀u,Kn (Dm ad tb yb gv) w u->Two nb g cap ba bb u:=fun u hu=>(h.pt hu hp).two
 intro u hu hs
 refine⟨hcl _ (hu.wide fun _ _ h=>h.elim),(unitN_any u).mono ?_⟩
 rintro e u1⟨rfl,rfl⟩
 obtain⟨h1,hb1⟩:=h.plainAt h0 hu hs
 refine⟨by rw[hs],hcl _ hb1.kn,?_⟩
 have hc:=hA _ hb1.kn h1
 rw[h.new1]at hc
 refine hc.mono fun e u2 ha=>?_
 rcases AnEx.go hb1 ha (o:=oa.bind ob) (fun e=>by rw[e];rfl)with⟨q1,q2⟩|⟨σ1,l1,rk1,gv1,q1,q2,q4,q5,q6,q7⟩
 ·exact inl ⟨q1,q2⟩
 ·refine inr ⟨q2,hcl _ q5.kn,(hB u2 σ1 l1 rk1 gv1 q5.kn q1 q4).mono fun e u3 hb=>?_⟩
  exact AnTy.last q5 hb (by rw[q1];rfl)
def ifO(oa:Option TS)(ob:TS->Option (Nat×TS))(oc:Nat->TS->Option TS):Option (Nat×TS):=oa.bind fun s=>(ob s).bind fun r=>(oc r.1 r.2).map fun s=>(r.1,s)
theorem if_chain{k g cap ba bb bc:Nat}{oa:Option TS}{ob:TS->Option (Nat×TS)}{oc:Nat->TS->Option TS}(h0:ar boolN=0)(h:YM ar ad Y rk σ ρ tb yb d gv w)(hp:PtAt nb k txt g cap [ba,bb,bc] w)
  (hA:∀u,Kn (Dm ad tb yb gv) w u->YM ar (ad++[w.heap.size]) Y rk (σ.named boolN []).2 ρ tb yb d gv u->Calls prog 116 #[ptrV yb,ptrV ba,adV (ad++[w.heap.size]) σ.nodes.length] u (AnEx ar (ad++[w.heap.size]) Y ρ tb yb d gv oa u))
  (hB:∀u σ' l rk' gv',Kn (Dm ad tb yb gv) w u->oa=some σ'->YM ar (ad++l) Y rk' σ' ρ tb yb d gv' u->Calls prog 141 #[ptrV yb,ptrV bb] u (AnTy ar (ad++l) Y ρ tb yb d gv' (ob σ') u))
  (hC:∀u t σ0 σ' l rk' gv',Kn (Dm ad tb yb gv) w u->oa=some σ0->ob σ0=some (t,σ')->t<σ'.nodes.length->YM ar (ad++l) Y rk' σ' ρ tb yb d gv' u->Calls prog 116 #[ptrV yb,ptrV bc,adV (ad++l) t] u (AnEx ar (ad++l) Y ρ tb yb d gv' (oc t σ') u)) :
  ∀u,Kn (fun _=>False) w u->u.heap.size=w.heap.size->Three nb g cap ba bb bc u/\Calls prog 185 #[] u fun e u1=>e=.returned (ptrV w.heap.size)/\Three nb g cap ba bb bc u1/\Calls prog 116 #[ptrV yb,ptrV ba,ptrV w.heap.size] u1 fun e u2=>
   (e=noTy/\AnTy ar ad Y ρ tb yb d gv (ifO oa ob oc) w noTy u2)\/(e=.returned (.tuple #[])/\Three nb g cap ba bb bc u2/\Calls prog 141 #[ptrV yb,ptrV bb] u2 fun e u3=>
    (e=noTy/\AnTy ar ad Y ρ tb yb d gv (ifO oa ob oc) w noTy u3)\/∃b,e=.returned (ptrV b)/\Three nb g cap ba bb bc u3/\Calls prog 116 #[ptrV yb,ptrV bc,ptrV b] u3 fun e u4=>
     (e=noTy/\AnTy ar ad Y ρ tb yb d gv (ifO oa ob oc) w noTy u4)\/(e=.returned (.tuple #[])/\AnTy ar ad Y ρ tb yb d gv (ifO oa ob oc) w (.returned (ptrV b)) u4)):=by
 have hcl:∀u,Kn (Dm ad tb yb gv) w u->Three nb g cap ba bb bc u:=fun u hu=>(h.pt hu hp).three
 intro u hu hs
 refine⟨hcl _ (hu.wide fun _ _ h=>h.elim),(boolN_any u).mono ?_⟩
 rintro e u1⟨rfl,rfl⟩
 obtain⟨h1,hb1⟩:=h.plainAt h0 hu hs
 refine⟨by rw[hs],hcl _ hb1.kn,?_⟩
 have hc:=hA _ hb1.kn h1
 rw[h.new1]at hc
 refine hc.mono fun e u2 ha=>?_
 rcases AnEx.go hb1 ha (o:=ifO oa ob oc) (fun e=>by rw[e];rfl)with⟨q1,q2⟩|⟨σ1,l1,rk1,gv1,q1,q2,q4,q5,q6,q7⟩
 ·exact inl ⟨q1,q2⟩
 ·refine inr ⟨q2,hcl _ q5.kn,(hB u2 σ1 l1 rk1 gv1 q5.kn q1 q4).mono fun e u3 hb=>?_⟩
  rcases AnTy.go q5 hb (o:=ifO oa ob oc) (fun e=>by unfold ifO;rw[q1,Option.bind_some,e];rfl)with⟨r1,r2⟩|⟨t,σ2,l2,rk2,gv2,r1,r2,r3,r4,r5,r6,r7⟩
  ·exact inl ⟨r1,r2⟩
  ·refine inr ⟨_,r2,hcl _ r5.kn,(hC u3 t σ1 σ2 l2 rk2 gv2 r5.kn q1 r1 r3 r4).mono fun e u4 hc=>?_⟩
   rcases AnEx.go r5 hc (o:=ifO oa ob oc) (fun e=>by unfold ifO;rw[q1,Option.bind_some,r1,Option.bind_some,e];rfl)with⟨s1,s2⟩|⟨σ3,l3,rk3,gv3,s1,s2,s4,s5,s6,s7⟩
   ·exact inl ⟨s1,s2⟩
   ·refine inr ⟨s2,?_⟩
    have hl:t<σ3.nodes.length:=by have:=s4.len;have:=r4.len;omega
    have:=AnTy.ok (o:=ifO oa ob oc) (t:=t) (by unfold ifO;rw[q1,Option.bind_some,r1,Option.bind_some,s1];rfl) hl s4 s5
    rw[s6 t (by rw[r4.len];exact r3)]at this
    exact this
theorem YM.cellT(h:YM ar ad Y rk σ ρ tb yb d gv w){x:Nat}(hx:x<σ.nodes.length)(h1:ar refN=1) :
  YM ar (ad++[w.heap.size+1]) Y rk (σ.named refN [x]).2 ρ tb yb d gv ((w.alloc (.cells #[adV ad x] tyTypeP)).alloc (.cells #[.string (bs refN),.slice (some ⟨w.heap.size,0,none⟩) 1 1,.pointer none,.int .i64 0] tyType)) /\
  Bt ad tb yb gv w [w.heap.size+1] gv ((w.alloc (.cells #[adV ad x] tyTypeP)).alloc (.cells #[.string (bs refN),.slice (some ⟨w.heap.size,0,none⟩) 1 1,.pointer none,.int .i64 0] tyType))/\adV (ad++[w.heap.size+1]) σ.nodes.length=ptrV (w.heap.size+1):=by
 refine⟨h.step (((Kn.refl _ w).alloc _).alloc _) ?_ rfl,⟨((Kn.refl _ w).alloc _).alloc _,fun b hb=>by rw[mem_singleton.1 hb];omega,fun _ hb=>inl hb⟩,by unfold adV;rw[<- h.len,adA_new]⟩
 have hrow:(w.alloc (.cells #[adV ad x] tyTypeP)).ownsRow 0 tyTypeP 1 (.slice (some ⟨w.heap.size,0,none⟩) 1 1) 1 ([x].map (adV ad)):=
  ⟨rfl,inr ⟨w.heap.size,1,#[adV ad x],rfl,zero_le _,(MapKept.heap_alloc w _).1,le_refl _,by decide,rfl,rfl⟩⟩
 have hn:=(h.sto.alloc (.cells #[adV ad x] tyTypeP)).new (t:=⟨refN,[x],0⟩) (pv:=.slice (some ⟨w.heap.size,0,none⟩) 1 1) (fun p hp=>by rw[mem_singleton.1 hp];exact hx) (fun e=>absurd e (show refN≠[] by decide)) (fun _=>h1.symm) hrow (fun g hg e=>by
   have hg:w.heap.size=g:=by simpa [Value.ownBlock]using hg
   rcases e with e|e
   ·have:=h.yok g e;omega
   ·have:=h.gv_lt e;omega)
 rw[alloc_size]at hn
 exact hn
def setO(oa:Option (Nat×TS))(ob:TS->Option (Nat×TS)):Option (Nat×TS):=oa.bind fun r=>(ob r.2).bind fun q=>((q.2.named refN [q.1]).2.unify r.1 q.2.nodes.length).map fun s=>s.named unitN []
theorem set_chain(har:∀nm,ar nm<=1000000){k g cap ba bb:Nat}{oa:Option (Nat×TS)}{ob:TS->Option (Nat×TS)}(h0:ar unitN=0)(hr:ar refN=1)(h:YM ar ad Y rk σ ρ tb yb d gv w)(hp:PtAt nb k txt g cap [ba,bb] w)
  (hA:∀u,Kn (Dm ad tb yb gv) w u->YM ar ad Y rk σ ρ tb yb d gv u->Calls prog 141 #[ptrV yb,ptrV ba] u (AnTy ar ad Y ρ tb yb d gv oa u))
  (hB:∀u t σ' l rk' gv',Kn (Dm ad tb yb gv) w u->oa=some (t,σ')->YM ar (ad++l) Y rk' σ' ρ tb yb d gv' u->Calls prog 141 #[ptrV yb,ptrV bb] u (AnTy ar (ad++l) Y ρ tb yb d gv' (ob σ') u)) :
  Two nb g cap ba bb w/\Calls prog 141 #[ptrV yb,ptrV ba] w fun e u2=>(e=noTy/\AnTy ar ad Y ρ tb yb d gv (setO oa ob) w noTy u2)\/∃bf,e=.returned (ptrV bf)/\∀u,Kn (fun _=>False) u2 u->Two nb g cap ba bb u/\Calls prog 141 #[ptrV yb,ptrV bb] u fun e u3=>
   (e=noTy/\AnTy ar ad Y ρ tb yb d gv (setO oa ob) w noTy u3)\/∃bx,e=.returned (ptrV bx)/\Two nb g cap ba bb u3/\Calls prog 42 #[ptrV bx] u3 fun e u4=>∃bc,e=.returned (ptrV bc)/\Two nb g cap ba bb u4/\Calls prog 140 #[ptrV bf,ptrV bc] u4 fun e u5=>∃v,e=.returned (.bool v)/\Two nb g cap ba bb u5 /\
    (v=false->AnTy ar ad Y ρ tb yb d gv (setO oa ob) w noTy u5)/\(v=true->Calls prog 41 #[] u5 fun e u6=>∃b,e=.returned (ptrV b)/\AnTy ar ad Y ρ tb yb d gv (setO oa ob) w (.returned (ptrV b)) u6):=by
 have hcl:∀u,Kn (Dm ad tb yb gv) w u->Two nb g cap ba bb u:=fun u hu=>(h.pt hu hp).two
 refine⟨hcl _ (Kn.refl _ _),(hA w (Kn.refl _ _) h).mono fun e u2 ha=>?_⟩
 rcases AnTy.go (Bt.refl ad tb yb gv w) (show AnTy ar (ad++[]) Y ρ tb yb d gv oa w e u2 by rw[append_nil];exact ha) (o:=setO oa ob) (fun e=>by rw[e];rfl)with⟨q1,q2⟩|⟨f,σ1,l1,rk1,gv1,q1,q2,q3,q4,q5,_,_⟩
 ·exact inl ⟨q1,q2⟩
 refine inr ⟨_,q2,fun u hu=>?_⟩
 have q5u:Bt ad tb yb gv w l1 gv1 u:=⟨q5.kn.trans (hu.wide fun _ _ h=>h.elim),q5.new,q5.giv⟩
 refine⟨hcl _ q5u.kn,(hB u f σ1 l1 rk1 gv1 q5u.kn q1 (q4.stays hu)).mono fun e u3 hb=>?_⟩
 rcases AnTy.go q5u hb (o:=setO oa ob) (fun e=>by unfold setO;rw[q1,Option.bind_some,e];rfl)with⟨r1,r2⟩|⟨x,σ2,l2,rk2,gv2,r1,r2,r3,r4,r5,r6,r7⟩
 ·exact inl ⟨r1,r2⟩
 obtain⟨k1,k2,k3⟩:=r4.cellT r3 hr
 have hb4:=r5.trans k2
 refine inr ⟨_,r2,hcl _ r5.kn,(cellType_any _ u3).mono ?_⟩
 rintro e u4⟨rfl,rfl⟩
 have hl4:(σ2.named refN [x]).2.nodes.length=σ2.nodes.length+1:=by simp[TS.named,TS.new]
 have hfl:f<σ2.nodes.length:=by have:=r4.len;have:=q4.len;omega
 rw[append_assoc]at k1 k3
 have hU:=Unify_ym har k1 (a:=f) (b:=σ2.nodes.length) (by omega) (by omega)
 have hfv:adV (ad++(l2++[u3.heap.size+1])) f=adV (ad++l1) f:=by
  rw[<- append_assoc,adV_app _ (by rw[r4.len];exact hfl)];exact r6 f (by rw[q4.len];exact q3)
 rw[k3,hfv]at hU
 refine⟨_,rfl,hcl _ hb4.kn,hU.mono ?_⟩
 have hap:setO oa ob=((σ2.named refN [x]).2.unify f σ2.nodes.length).map fun s=>s.named unitN []:=by unfold setO;rw[q1,Option.bind_some,r1];rfl
 rintro e u5 (⟨rfl,s1,s2,s3⟩|⟨σ6,rk6,rfl,s1,s2,s3,s4⟩)
 ·have hb6:=hb4.store s2 (l2:=[]) (by simp)
  exact⟨false,rfl,hcl _ hb6.kn,fun _=>AnTy.panic (by rw[hap,s1];rfl) hb6.kn s3,fun e=>by cases e⟩
 ·have hb6:=hb4.store s3 (l2:=[]) (by simp)
  rw[append_nil]at hb6
  refine⟨true,rfl,hcl _ hb6.kn,(fun e=>by cases e),fun _=>(unitN_any u5).mono ?_⟩
  rintro e u6⟨rfl,rfl⟩
  obtain⟨h7,hb7⟩:=s4.plainAt h0 (Kn.refl _ u5) rfl
  refine⟨_,rfl,AnTy.behind hb6 ?_⟩
  rw[hap,s1]
  exact AnTy.newOne s4 h7 (by simp[TS.named,TS.new])
def fetchO(t:Nat)(oa:Option TS):Option (Nat×TS):=oa.map fun s=>(t,s)
theorem fetch_chain{k g cap ba:Nat}{oa:Option TS}(hr:ar refN=1)(h:YM ar ad Y rk σ ρ tb yb d gv w)(hp:PtAt nb k txt g cap [ba] w)
  (hA:∀u l,Kn (Dm ad tb yb gv) w u->YM ar (ad++l) Y rk ((σ.letter d).2.named refN [σ.nodes.length]).2 ρ tb yb d gv u->Calls prog 116 #[ptrV yb,ptrV ba,adV (ad++l) (σ.nodes.length+1)] u (AnEx ar (ad++l) Y ρ tb yb d gv oa u)) :
  Calls prog 164 #[ptrV yb] w fun e u1=>e=.returned (ptrV w.heap.size)/\∀u,Kn (fun _=>False) u1 u->One nb g cap ba u/\Calls prog 42 #[ptrV w.heap.size] u fun e u2=>∃bc,e=.returned (ptrV bc)/\One nb g cap ba u2/\Calls prog 116 #[ptrV yb,ptrV ba,ptrV bc] u2 fun e u3=>
   (e=noTy/\AnTy ar ad Y ρ tb yb d gv (fetchO σ.nodes.length oa) w noTy u3)\/(e=.returned (.tuple #[])/\One nb g cap ba u3/\AnTy ar ad Y ρ tb yb d gv (fetchO σ.nodes.length oa) w (.returned (ptrV w.heap.size)) u3):=by
 have hcl:∀u,Kn (Dm ad tb yb gv) w u->One nb g cap ba u:=fun u hu=>(h.pt hu hp).one
 refine(yletter_any h).mono ?_
 rintro e u1⟨rfl,rfl⟩
 refine⟨rfl,fun u hu=>?_⟩
 have h1:=(h.letter d).stays hu
 have hb1:Bt ad tb yb gv w [w.heap.size] gv u:=⟨((Kn.refl _ w).alloc _).trans (hu.wide fun _ _ h=>h.elim),fun b hb=>by rw[mem_singleton.1 hb];exact le_refl _,fun _ hb=>inl hb⟩
 have hl1:(σ.letter d).2.nodes.length=σ.nodes.length+1:=by simp[TS.letter,TS.new]
 have hl2:((σ.letter d).2.named refN [σ.nodes.length]).2.nodes.length=σ.nodes.length+2:=by simp[TS.letter,TS.named,TS.new]
 obtain⟨k1,k2,k3⟩:=h1.cellT (x:=σ.nodes.length) (by omega) hr
 rw[h.new1]at k1 k2
 have hb2:=hb1.trans k2
 refine⟨hcl _ hb1.kn,(cellType_any w.heap.size u).mono ?_⟩
 rintro e u2⟨rfl,rfl⟩
 rw[append_assoc]at k1 k3
 have hc:=hA _ _ hb2.kn k1
 rw[hl1]at k3
 rw[k3]at hc
 refine⟨_,rfl,hcl _ hb2.kn,hc.mono fun e u3 ha=>?_⟩
 rcases AnEx.go hb2 ha (o:=fetchO σ.nodes.length oa) (fun e=>by rw[e];rfl)with⟨q1,q2⟩|⟨σ1,l1,rk1,gv1,q1,q2,q4,q5,q6,q7⟩
 ·exact inl ⟨q1,q2⟩
 ·have hl:σ.nodes.length<σ1.nodes.length:=by have:=q4.len;have:=k1.len;omega
  have:=AnTy.ok (o:=fetchO σ.nodes.length oa) (t:=σ.nodes.length) (by unfold fetchO;rw[q1];rfl) hl q4 q5
  rw[q6 _ (by rw[k1.len];omega),<- append_assoc,adV_app _ (by simp[h.len]),h.new1]at this
  exact inr ⟨q2,hcl _ q5.kn,this⟩
def calcO(cmp:Bool)(oa:Option TS)(ob:TS->Option TS):Option (Nat×TS):=oa.bind fun s=>(ob s).map fun s=>s.named (if cmp then boolN else intN) []
theorem calc_chain{k g cap ba bb:Nat}{oa:Option TS}{ob:TS->Option TS}(hi:ar intN=0)(hbo:ar boolN=0)(h:YM ar ad Y rk σ ρ tb yb d gv w)(hp:PtAt nb k txt g cap [ba,bb] w)(cmp:Bool)
  (hA:∀u,Kn (Dm ad tb yb gv) w u->YM ar (ad++[w.heap.size]) Y rk (σ.named intN []).2 ρ tb yb d gv u->Calls prog 116 #[ptrV yb,ptrV ba,adV (ad++[w.heap.size]) σ.nodes.length] u (AnEx ar (ad++[w.heap.size]) Y ρ tb yb d gv oa u))
  (hB:∀u σ' l rk' gv',Kn (Dm ad tb yb gv) w u->oa=some σ'->YM ar (ad++l) Y rk' (σ'.named intN []).2 ρ tb yb d gv' u->Calls prog 116 #[ptrV yb,ptrV bb,adV (ad++l) σ'.nodes.length] u (AnEx ar (ad++l) Y ρ tb yb d gv' (ob σ') u)) :
  ∀u,Kn (fun _=>False) w u->u.heap.size=w.heap.size->Two nb g cap ba bb u/\Calls prog 40 #[] u fun e u1=>e=.returned (ptrV w.heap.size)/\Two nb g cap ba bb u1/\Calls prog 116 #[ptrV yb,ptrV ba,ptrV w.heap.size] u1 fun e u2=>
   (e=noTy/\AnTy ar ad Y ρ tb yb d gv (calcO cmp oa ob) w noTy u2)\/(e=.returned (.tuple #[])/\∀v,Kn (fun _=>False) u2 v->v.heap.size=u2.heap.size->Two nb g cap ba bb v/\Calls prog 40 #[] v fun e u3=>e=.returned (ptrV u2.heap.size)/\Two nb g cap ba bb u3/\Calls prog 116 #[ptrV yb,ptrV bb,ptrV u2.heap.size] u3 fun e u4=>
    (e=noTy/\AnTy ar ad Y ρ tb yb d gv (calcO cmp oa ob) w noTy u4)\/(e=.returned (.tuple #[])/\Two nb g cap ba bb u4/\u4.cell? ⟨nb,1,none⟩=some (.string (bs txt))/\(cmp=false->Calls prog 40 #[] u4 fun e u5=>∃b,e=.returned (ptrV b)/\AnTy ar ad Y ρ tb yb d gv (calcO cmp oa ob) w (.returned (ptrV b)) u5) /\
     (cmp=true->Calls prog 185 #[] u4 fun e u5=>∃b,e=.returned (ptrV b)/\AnTy ar ad Y ρ tb yb d gv (calcO cmp oa ob) w (.returned (ptrV b)) u5))):=by
 have hcl:∀u,Kn (Dm ad tb yb gv) w u->Two nb g cap ba bb u:=fun u hu=>(h.pt hu hp).two
 intro u hu hs
 refine⟨hcl _ (hu.wide fun _ _ h=>h.elim),(intN_any u).mono ?_⟩
 rintro e u1⟨rfl,rfl⟩
 obtain⟨h1,hb1⟩:=h.plainAt hi hu hs
 refine⟨by rw[hs],hcl _ hb1.kn,?_⟩
 have hc:=hA _ hb1.kn h1
 rw[h.new1]at hc
 refine hc.mono fun e u2 ha=>?_
 rcases AnEx.go hb1 ha (o:=calcO cmp oa ob) (fun e=>by rw[e];rfl)with⟨q1,q2⟩|⟨σ1,l1,rk1,gv1,q1,q2,q4,q5,q6,q7⟩
 ·exact inl ⟨q1,q2⟩
 refine inr ⟨q2,fun v hv hsv=>?_⟩
 have q5v:Bt ad tb yb gv w l1 gv1 v:=⟨q5.kn.trans (hv.wide fun _ _ h=>h.elim),q5.new,q5.giv⟩
 refine⟨hcl _ q5v.kn,(intN_any v).mono ?_⟩
 rintro e u3⟨rfl,rfl⟩
 obtain⟨h3,hb3⟩:=q4.plainAt hi hv hsv
 have hb3':=q5.trans hb3
 have hc3:=hB _ σ1 (l1++[u2.heap.size]) rk1 gv1 hb3'.kn q1 (by rw[<- append_assoc];exact h3)
 rw[<- append_assoc,q4.new1]at hc3
 refine⟨by rw[hsv],hcl _ hb3'.kn,hc3.mono fun e u4 hb=>?_⟩
 rcases AnEx.go hb3' (by rw[<- append_assoc];exact hb) (o:=calcO cmp oa ob) (fun e=>by unfold calcO;rw[q1,Option.bind_some,e];rfl)with⟨r1,r2⟩|⟨σ2,l2,rk2,gv2,r1,r2,r4,r5,r6,r7⟩
 ·exact inl ⟨r1,r2⟩
 have hap:calcO cmp oa ob=some (σ2.named (if cmp then boolN else intN) []):=by unfold calcO;rw[q1,Option.bind_some,r1];rfl
 refine inr ⟨r2,hcl _ r5.kn,(h.pt r5.kn hp).cells.2.1,fun e=>(intN_any u4).mono ?_,fun e=>(boolN_any u4).mono ?_⟩
 ·subst e
  rintro e u5⟨rfl,rfl⟩
  obtain⟨h7,hb7⟩:=r4.plainAt hi (Kn.refl _ u4) rfl
  refine⟨_,rfl,AnTy.behind r5 ?_⟩
  rw[hap]
  exact AnTy.newOne r4 h7 (by simp[TS.named,TS.new])
 ·subst e
  rintro e u5⟨rfl,rfl⟩
  obtain⟨h7,hb7⟩:=r4.plainAt hbo (Kn.refl _ u4) rfl
  refine⟨_,rfl,AnTy.behind r5 ?_⟩
  rw[hap]
  exact AnTy.newOne r4 h7 (by simp[TS.named,TS.new])
end
section
variable {ad:List Nat}{ρ:Env}{tb:Nat}{w w':World}{nb:Nat}{txt:Nm}
theorem Tab.put(h:Tab ad tb ρ w){x:Ky}(hx:okK x){m:Mg}{v:Value}(hv:MgAt ad w m v):∃w',(Instr.mapUpdate tyTab (.map (some tb)) (.agg #[.int .i64 x.1,.string (bs x.2)]) v).run prog w=.ok () w'/\Tab ad tb ((x,m)::ρ) w'/\w.mapTurned w' tb:=by
 obtain⟨n,f,h1,h2⟩:=h
 obtain⟨w',hrun,hm,ht⟩:=h1.store ky_ops under_tab (v:=v) hx trivial (fun _ _=>trivial)
 refine⟨w',hrun,⟨_,_,hm,fun y hy=>?_⟩,ht⟩
 rw[Env.get]
 by_cases hyx:y=x
 ·rw[if_pos hyx]
  simp only[if_pos hyx]
  exact inr ⟨m,v,rfl,rfl,hv.turned ht⟩
 ·rw[if_neg hyx]
  simp only[if_neg hyx]
  rcases h2 y hy with h3|⟨m',v',h3,h4,h5⟩
  ·exact inl h3
  ·exact inr ⟨m',v',h3,h4,h5.turned ht⟩
theorem Tab.stays(h:Tab ad tb ρ w)(hk:Kn (fun _=>False) w w'):Tab ad tb ρ w':=by
 obtain⟨n,f,h1,_⟩:=id h
 have:=h.kept (l:=[]) (w':=w') (hk.block tb h1.lt id) (fun k c f hc=>hk.block k (lt_of_heap hc) id) (fun k c f hc=>hk.block k (lt_of_heap hc) id) (fun k c f hc=>hk.block k (lt_of_heap hc) id)
 rw[append_nil]at this;exact this
theorem Kn.cell{D:Nat->Prop}(hk:Kn D w w'){b i:Nat}{v:Value}(hd:¬D b)(h:w.cell? ⟨b,i,none⟩=some v):w'.cell? ⟨b,i,none⟩=some v:=by
 have hb:b<w.heap.size:=by
  cases hh:w.heap[b]? with
  |none=>simp[World.cell?,hh]at h
  |some o=>exact lt_of_heap hh
 unfold World.cell? at *
 rw[hk.block b hb hd];exact h
theorem mgType_at(n:Nat)(w:World):MgAt ad w (Mg.type n) (.agg #[.pointer none,.string ⟨#[]⟩,.slice none 0 0,.slice none 0 0,.int .i64 0,.int .i64 n]):=
 ⟨.slice none 0 0,.slice none 0 0,[],rfl,(fun t' e=>by simp[Mg.type]at e),World.ownsRow_nil _ _ _ _,World.ownsRow_nil _ _ _ _,by simp[Mg.type,Vr.zero,NMem.NMems]⟩
def conEnv(txt:Nm)(ls:List Nm)(k:Nat)(ρ:Env)(vs:List Nd):Env:=vs.foldl (fun ρ v=>(((1,v.txt),Mg.con ⟨txt,ls,v.ps,k⟩)::ρ:Env)) ρ
theorem conEnv_snoc(ls:List Nm)(k:Nat)(vs:List Nd)(v:Nd):conEnv txt ls k ρ (vs++[v])=((1,v.txt),Mg.con ⟨txt,ls,v.ps,k⟩)::conEnv txt ls k ρ vs:=by
 unfold conEnv;rw[List.foldl_append];rfl
theorem dt_facts{k:Nat}{ps:List Nd}(h:Tab ad tb ρ w)(hn:NMem w (.mk k txt ps) nb)(hp:ps.length<=1000000)(hks:∀p∈ps,p.k<=1000)(hx:txt.length<=100000000)(hvx:∀p∈ps,p.txt.length<=100000000) :
  Calls prog 84 #[ptrV nb,.int .i64 (19:Nat)] w fun e u1=>∃a n c,e=.returned (.slice a n c)/\Calls prog 83 #[.slice a n c] u1 fun e u2=>∃a1 n1 c1,e=.returned (.slice a1 n1 c1)/\n1<=9223372036854775807 /\
   Calls prog 84 #[ptrV nb,.int .i64 (20:Nat)] u2 fun e u3=>∃a2 n2 c2,e=.returned (.slice a2 n2 c2)/\n2<=9223372036854775807/\∃DT:Nat->World->Prop,(∀u,Kn (fun _=>False) u3 u->u.cell? ⟨nb,1,none⟩=some (.string (bs txt))/\∃u4,(Instr.mapUpdate tyTab (.map (some tb)) (.agg #[.int .i64 2,.string (bs txt)]) (.agg #[.pointer none,.string ⟨#[]⟩,.slice none 0 0,.slice none 0 0,.int .i64 0,.int .i64 n1])).run prog u=.ok () u4/\u4.cell? ⟨nb,1,none⟩=some (.string (bs txt))/\Hid (DT 0 u4)) /\
    (∀i wr,DT i wr->i<n2->∃g b tx a3 n3 c3,a2=some ⟨g,0,none⟩/\wr.cell? ⟨g,i,none⟩=some (ptrV b)/\g<wr.heap.size/\∀u,Kn (fun _=>False) wr u->(u.cell? ⟨b,1,none⟩=some (.string tx)/\u.cell? ⟨b,2,none⟩=some (.slice a3 n3 c3)/\u.cell? ⟨nb,1,none⟩=some (.string (bs txt)))/\∃u2,(Instr.mapUpdate tyTab (.map (some tb)) (.agg #[.int .i64 1,.string tx]) (.agg #[.pointer none,.string (bs txt),.slice a1 n1 c1,.slice a3 n3 c3,.int .i64 n2,.int .i64 0])).run prog u=.ok () u2/\(u2.cell? ⟨b,1,none⟩=some (.string tx)/\u2.cell? ⟨b,2,none⟩=some (.slice a3 n3 c3)/\u2.cell? ⟨nb,1,none⟩=some (.string (bs txt)))/\Hid (DT (i+1) u2)) /\
    ∀wr,DT n2 wr->Tab ad tb (declareType ρ txt ps) wr/\Kn (·=tb) w wr:=by
 have hmo:∀{kk:Nat}{x:Nd},x∈only kk ps->x∈ps:=fun hx=>(List.mem_filter.1 hx).1
 have hol:∀kk,(only kk ps).length<=1000000:=fun kk=>le_trans (List.length_filter_le _ _) hp
 refine(Only_any hn hp hks (by decide)).mono ?_
 rintro e u1⟨a,n,c,rfl,l,o1,o2,o3⟩
 refine⟨a,n,c,rfl,(textsOf_any (ownsRow_base o1 (zero_le _)) o2 (hol 19)).mono ?_⟩
 rintro e u2⟨a1,c1,rfl,t2,t3⟩
 have hk2:Kn (fun _=>False) w u2:=o3.trans t3
 have hn2:NMem u2 (.mk k txt ps) nb:=NMem.kept (fun k c f hc=>hk2.block k (lt_of_heap hc) id) (fun k c f hc=>hk2.block k (lt_of_heap hc) id) _ nb hn
 refine⟨a1,_,c1,rfl,ownsRow_max t2,(Only_any hn2 hp hks (by decide)).mono ?_⟩
 rintro e u3⟨a2,n2,c2,rfl,l2,p1,p2,p3⟩
 have hl2:=p2.len
 obtain⟨rfl,hav⟩:n2=l2.length/\(0<l2.length->∃g',a2=some ⟨g',0,none⟩):=by
  rcases ownsRow_forms p1 with⟨h,h0⟩|⟨g,cap,h⟩
  ·cases h;exact⟨h0.symm,fun h=>by omega⟩
  ·cases h;exact⟨rfl,fun _=>⟨g,rfl⟩⟩
 have hk3:Kn (fun _=>False) w u3:=hk2.trans p3
 have ht3:=h.stays hk3
 have hn3:NMem u3 (.mk k txt ps) nb:=NMem.kept (fun k c f hc=>hk3.block k (lt_of_heap hc) id) (fun k c f hc=>hk3.block k (lt_of_heap hc) id) _ nb hn
 obtain⟨pvn,bln,nn1,_,_⟩:=hn3.inv
 have hcn:∀u:World,u.heap[nb]?=u3.heap[nb]?->u.cell? ⟨nb,1,none⟩=some (.string (bs txt)):=fun u hu=>by simp[World.cell?,hu,nn1]
 obtain⟨nm,fm,hmt,_⟩:=id ht3
 have hnbt:nb≠tb:=fun e=>by
  obtain⟨es,cl,hb,_⟩:=hmt
  subst e;rw[nn1]at hb;cases hb
 refine⟨a2,_,c2,rfl,ownsRow_max p1,fun i wr=>Tab ad tb (conEnv txt ((only 19 ps).map Nd.txt) (only 20 ps).length (((2,txt),Mg.type ((only 19 ps).map Nd.txt).length)::ρ) ((only 20 ps).take i)) wr/\Kn (·=tb) u3 wr,fun u hu=>?_,?_,?_⟩
 ·obtain⟨u4,r1,r2,r3⟩:=(ht3.stays hu).put (x:=(2,txt)) ⟨show 2<3 by decide,hx⟩ (mgType_at (only 19 ps).length u)
  have hk4:Kn (·=tb) u3 u4:=(hu.wide fun _ _ h=>h.elim).turned r3 (inl rfl)
  refine⟨hcn u (hu.block nb (lt_of_heap nn1) id),u4,r1,hcn u4 (hk4.block nb (lt_of_heap nn1) hnbt),hide ⟨?_,hk4⟩⟩
  have:conEnv txt ((only 19 ps).map Nd.txt) (only 20 ps).length (((2,txt),Mg.type ((only 19 ps).map Nd.txt).length)::ρ) ((only 20 ps).take 0)=((2,txt),Mg.type (only 19 ps).length)::ρ:=by
   rw[List.take_zero,length_map];rfl
  rw[this];exact r2
 ·rintro i wr⟨y1,y2⟩ hi
  have hvi:(only 20 ps)[i]?=some (only 20 ps)[i]:=List.getElem?_eq_getElem (by omega)
  have hmem:=List.mem_of_getElem? hvi
  have htk:(only 20 ps).take (i+1)=(only 20 ps).take i++[(only 20 ps)[i]]:=List.take_succ_eq_append_getElem (by omega)
  obtain⟨b,hb,hm⟩:=p2.at hvi
  generalize (only 20 ps)[i]=v at hvi hmem htk hm
  obtain⟨vk,vt,vps⟩:=v
  obtain⟨g,rfl⟩:=hav (by omega)
  obtain⟨pv,vbl,v1,v2,v3⟩:=hm.inv
  obtain⟨a3,n3,c3,rfl⟩:∃a n c,pv=.slice a n c:=by
   rcases ownsRow_forms v2 with⟨h,_⟩|⟨g,cap,h⟩
   ·exact⟨_,_,_,h⟩
   ·exact⟨_,_,_,h⟩
  have hnm:∀(q:Nat)(c:Array Value)(t:TypeId)(f:Nat×Nat),u3.heap[q]?=some (.cells c t f)->q≠tb:=fun q c t f hc e=>by
   obtain⟨es,cl,hb,_⟩:=hmt
   subst e;rw[hc]at hb;cases hb
  have hkw:∀{u:World},Kn (·=tb) u3 u->∀(q:Nat)(c:Array Value)(t:TypeId)(f:Nat×Nat),u3.heap[q]?=some (.cells c t f)->u.heap[q]?=u3.heap[q]?:=fun hk q c t f hc=>hk.block q (lt_of_heap hc) (hnm q c t f hc)
  have hrow:wr.ownsRow 0 tyTreeP 1 (.slice (some ⟨g,0,none⟩) l2.length c2) l2.length (l2.map ptrV):=ownsRow_kept (ownsRow_base p1 (zero_le _)) fun q c f _ hc=>hkw y2 q c _ f hc
  have hcells:∀u:World,Kn (·=tb) u3 u->u.cell? ⟨b,1,none⟩=some (.string (bs vt))/\u.cell? ⟨b,2,none⟩=some (.slice a3 n3 c3)/\u.cell? ⟨nb,1,none⟩=some (.string (bs txt)):=fun u hu=>by
   have e1:=hkw hu b _ _ _ v1
   have e2:=hkw hu nb _ _ _ nn1
   exact⟨by simp[World.cell?,e1,v1],by simp[World.cell?,e1,v1],by simp[World.cell?,e2,nn1]⟩
  refine⟨g,b,bs vt,a3,n3,c3,rfl,?_,(hrow.lt g rfl).2,fun u hu=>?_⟩
  ·rw[hrow.cellAt i (by omega),List.getElem?_map,hb];rfl
  ·have hku:Kn (·=tb) u3 u:=y2.trans (hu.wide fun _ _ h=>h.elim)
   have hstr:u.ownsRow 0 tyStr 1 (.slice a1 (only 19 ps).length c1) ((only 19 ps).map Nd.txt).length (((only 19 ps).map Nd.txt).map strV):=by
    rw[length_map]
    refine ownsRow_kept (ownsRow_base t2 (zero_le _)) fun q c f _ hc=>?_
    have e1:u3.heap[q]?=u2.heap[q]?:=p3.block q (lt_of_heap hc) id
    rw[hkw hku q c _ f (e1.trans hc),e1]
   have hmg:MgAt ad u (Mg.con ⟨txt,(only 19 ps).map Nd.txt,vps,l2.length⟩) (.agg #[.pointer none,.string (bs txt),.slice a1 (only 19 ps).length c1,.slice a3 n3 c3,.int .i64 l2.length,.int .i64 0]):=
    ⟨_,_,vbl,rfl,(fun t e=>by simp[Mg.con]at e),hstr,ownsRow_kept v2 fun q c f _ hc=>hkw hku q c _ f hc,v3.kept (fun q c f hc=>hkw hku q c _ f hc) (fun q c f hc=>hkw hku q c _ f hc)⟩
   obtain⟨u4,r1,r2,r3⟩:=(y1.stays hu).put (x:=(1,vt)) ⟨show 1<3 by decide,hvx _ (hmo hmem)⟩ hmg
   have hk4:Kn (·=tb) u3 u4:=hku.turned r3 (inl rfl)
   refine⟨hcells u hku,u4,r1,hcells u4 hk4,hide ⟨?_,hk4⟩⟩
   rw[htk,conEnv_snoc]
   rw[hl2]at r2
   exact r2
 ·rintro wr⟨y1,y2⟩
  rw[hl2,List.take_length]at y1
  exact⟨y1,(hk3.wide fun _ _ h=>h.elim).trans y2⟩
theorem declareType_any{k:Nat}{ps:List Nd}(h:Tab ad tb ρ w)(hn:NMem w (.mk k txt ps) nb)(hp:ps.length<=1000000)(hks:∀p∈ps,p.k<=1000)(hx:txt.length<=100000000)(hvx:∀p∈ps,p.txt.length<=100000000) :
  Calls prog 44 #[.map (some tb),ptrV nb] w fun e w'=>e=.returned (.tuple #[])/\Tab ad tb (declareType ρ txt ps) w'/\Kn (·=tb) w w':=by
 have hf:=dt_facts h hn hp hks hx hvx
 generalize hQ:(fun(e:Ending) (w':World)=>e=.returned (.tuple #[])/\Tab ad tb (declareType ρ txt ps) w'/\Kn (·=tb) w w')=Q
 have hq:∀wr,(Tab ad tb (declareType ρ txt ps) wr/\Kn (·=tb) w wr)->Q (.returned (.tuple #[])) wr:=fun wr h=>by rw[<- hQ];exact⟨rfl,h⟩
 have HQ:=hide hq
 have HF:=hide hf
 have hK1:=fun(s:ByteArray) (u:World)=>key1_any s u
 have hK2:=fun(s:ByteArray) (u:World)=>key2_any s u
 have HK1:=hide hK1
 have HK2:=hide hK2
 clear hq hQ hf h hn hp hks hx hvx hK1 hK2
 unfold ptrV at *
 generalize bs txt=tx at *
 go_enter func44,ntmps44
 go_wp2_with fail
 refine(HF.out).mono ?_;rintro e u1⟨a,n,c,rfl,hc⟩
 have HC:=hide hc
 clear hc HF
 go_wp2_with fail
 refine(HC.out).mono ?_;rintro e u2⟨a1,n1,c1,rfl,hn1,hc⟩
 have HC2:=hide hc
 clear hc HC
 go_wp2_with fail
 refine(HC2.out).mono ?_;rintro e u3⟨a2,n2,c2,rfl,hn2,DT,h0,hs,he⟩
 have H0:=hide h0
 have HS:=hide hs
 have HE:=hide he
 clear h0 hs he HC2
 obtain⟨cn,_⟩:=H0.out u3 (Kn.refl _ _)
 go_wp2_with fail
 refine(HK2.out _ _).mono ?_;rintro e u4⟨rfl,rfl⟩
 have hx0:=H0.out _ ((Kn.refl _ u3).alloc (.cells #[.int .i64 2,.string tx] tyKey))
 clear H0 cn
 obtain⟨cn4,u5,hup,cn5,HD⟩:=hx0
 go_wp2_with fail
 clear cn4 cn5 hup
 go_loopg [24] n2 (fun gk v24 wr=>∃i,v24=.int .i64 (i:Nat)/\i+gk=n2/\Hid (DT i wr))
 case atStart=>exact⟨0,rfl,by omega,HD⟩
 case round=>
  clear HD
  obtain⟨i,rfl,hi,HD⟩:=hrel
  by_cases hlt:i<n2
  ·obtain⟨g,b,tv,a3,n3,c3,rfl,e1,e2,hu⟩:=HS.out _ _ HD.out hlt
   have hlt3:(i:Int)<(n2:Int):=by omega
   have hal:∀u o u',Kn (fun _=>False) wr u->u'=World.alloc u o->Kn (fun _=>False) wr u':=fun u o u' hu e=>by
    subst e;exact hu.alloc o
   have HV:=hide (Kn.drewF wr)
   have HX:=hide hu
   have HAL:=hide hal
   clear hu hal HS HE HQ HD
   generalize Kn (fun _=>False) wr=V at *
   obtain⟨⟨c1a,c2a,c3a⟩,_⟩:=HX.out _ HV.out
   go_wp2_with fail
   go_region_held3 (fun w'=>w'.cell? ⟨b,1,none⟩=some (.string tv)/\w'.cell? ⟨b,2,none⟩=some (.slice a3 n3 c3)/\w'.cell? ⟨nb,1,none⟩=some (.string tx)) (first|with_reducible exact⟨c1a,c2a,c3a⟩|with_reducible exact⟨m1a,m2a,m3a⟩)
    (first|(go_at_call 85;refine(HK1.out _ _).mono ?_;rintro e u⟨rfl,hu⟩;have HV:=hide (HAL.out _ _ _ HV.out hu);have hz:=HX.out _ HV.out;obtain⟨⟨c1a,c2a,c3a⟩,u9,hup,⟨m1a,m2a,m3a⟩,HD⟩:=hz;clear hu))
   all_goals
    go_wp2_with fail
    go_roundg (n2-(i+1))
    case rel=>exact⟨i+1,by simp,by omega,HD⟩
    case measure=>omega
  ·have hin:i=n2:=by omega
   subst hin
   have hlt3:¬(i:Int)<(i:Int):=by omega
   have HG:=hide (HQ.out _ (HE.out _ HD.out))
   clear HS HE HQ HD
   go_wp2
   refine bodyPost_end (v:=.tuple #[]) (by simp[results,results44,go_sem]) rfl HG.out
end
abbrev tyLook:TypeId:=135
structure LkAt(ad:List Nat)(ρ:Env)(tb lb:Nat)(s:Lk)(w:World):Prop where
 tab:Tab ad tb ρ w
 lk:w.heap[lb]?=some (.cells #[.map (some tb),.bool s.wn,.bool s.wc] tyLook (0,0))
def LkA(ad:List Nat)(ρ:Env)(tb lb:Nat)(s':Lk)(w:World)(e:Ending)(w':World):Prop:=
 e=.returned (.tuple #[])/\LkAt ad ρ tb lb s' w'/\Kn (fun k=>k=tb\/k=lb) w w'
def LkB(ad:List Nat)(ρ:Env)(tb lb:Nat)(s':Lk)(w:World)(e:Ending)(w':World):Prop:=
 e=.returned (.tuple #[])/\LkAt ad ρ tb lb s' w'/\Kn (fun k=>k=lb) w w'
theorem LkB.a{ad:List Nat}{ρ:Env}{tb lb:Nat}{s':Lk}{w:World}(e:Ending)(w':World)(h:LkB ad ρ tb lb s' w e w'):LkA ad ρ tb lb s' w e w':=⟨h.1,h.2.1,h.2.2.wide fun _ _ e=>inr e⟩
section
variable {ad:List Nat}{ρ:Env}{tb lb:Nat}{s:Lk}{w w':World}{nb:Nat}{txt:Nm}
theorem LkAt.stays(h:LkAt ad ρ tb lb s w)(hk:Kn (fun _=>False) w w'):LkAt ad ρ tb lb s w':=⟨h.tab.stays hk,(hk.block lb (lt_of_heap h.lk) id).trans h.lk⟩
theorem LkAt.not_tb(h:LkAt ad ρ tb lb s w){k:Nat}{c:Array Value}{t:TypeId}{f:Nat×Nat}(hc:w.heap[k]?=some (.cells c t f)):k≠tb:=fun e=>by
 obtain⟨n,f,⟨es,cl,hb,_⟩,_⟩:=h.tab
 subst e;rw[hc]at hb;cases hb
theorem LkAt.not(h:LkAt ad ρ tb lb s w){k:Nat}{c:Array Value}{t:TypeId}{f:Nat×Nat}(hc:w.heap[k]?=some (.cells c t f))(ht:t≠tyLook):¬(k=tb\/k=lb):=by
 rintro (e|e)
 ·exact h.not_tb hc e
 ·subst e;rw[h.lk]at hc;exact ht (cells_ty hc).symm
theorem LkAt.tree(h:LkAt ad ρ tb lb s w)(hk:Kn (fun k=>k=tb\/k=lb) w w'){nd:Nd}(hn:NMem w nd nb):NMem w' nd nb:=
 NMem.kept (fun k c f hc=>hk.block k (lt_of_heap hc) (h.not hc (by decide))) (fun k c f hc=>hk.block k (lt_of_heap hc) (h.not hc (by decide))) nd nb hn
theorem LkAt.flag(h:LkAt ad ρ tb lb s w)(s':Lk){i:Nat}{v:Value}(hv:(#[Value.map (some tb),.bool s.wn,.bool s.wc]).setIfInBounds i v=#[.map (some tb),.bool s'.wn,.bool s'.wc]):LkAt ad ρ tb lb s' (w.setCell ⟨lb,i,none⟩ v)/\Kn (fun k=>k=lb) w (w.setCell ⟨lb,i,none⟩ v):=by
 have hk:Kn (fun k=>k=lb) w (w.setCell ⟨lb,i,none⟩ v):=(Kn.refl (fun k=>k=lb) w).set (p:=⟨lb,i,none⟩) (inl rfl) v
 obtain⟨n,f,h1,_⟩:=id h.tab
 have hb:∀(k:Nat)(c:Array Value)(t:TypeId)(f:Nat×Nat),t≠tyLook->w.heap[k]?=some (.cells c t f)->(w.setCell ⟨lb,i,none⟩ v).heap[k]?=w.heap[k]?:=fun k c t f ht hc=>hk.block k (lt_of_heap hc) fun e=>h.not hc ht (inr e)
 refine⟨⟨?_,?_⟩,hk⟩
 ·have:=h.tab.kept (l:=[]) (w':=w.setCell ⟨lb,i,none⟩ v) (Below.heap_setCell _ _ _ _ fun e=>by
   obtain⟨es,cl,hm,_⟩:=h1
   rw[e,h.lk]at hm;cases hm) (fun k c f hc=>hb k c _ f (by decide) hc) (fun k c f hc=>hb k c _ f (by decide) hc) (fun k c f hc=>hb k c _ f (by decide) hc)
  rw[append_nil]at this;exact this
 ·rw[heap_setCell_same _ _ _ _ _ _ h.lk,hv]
theorem refuseName_lb(b:Bool)(h:LkAt ad ρ tb lb s w):Calls prog 133 #[ptrV lb,.bool b] w (LkB ad ρ tb lb (s.name b) w):=by
 have c1:w.cell? ⟨lb,1,none⟩=some (.bool s.wn):=by simp[World.cell?,h.lk]
 have f1:w.frozen? ⟨lb,1,none⟩=false:=frozen_of_row _ _ _ _ _ h.lk
 obtain⟨q1,q2⟩:=h.flag (s.name b) (i:=1) (v:=.bool (s.wn || b)) rfl
 have hq:LkB ad ρ tb lb (s.name b) w (.returned (.tuple #[])) (w.setCell ⟨lb,1,none⟩ (.bool (s.wn || b))):=⟨rfl,q1,q2⟩
 have HQ:=hide hq
 clear hq q1 q2 h
 generalize LkB ad ρ tb lb (s.name b) w=Q at *
 generalize s.wn=x at *
 unfold ptrV at *
 cases x with
 |true=>
  simp only[Bool.true_or]at HQ
  go_enter func133,ntmps133
  go_wp2
  refine bodyPost_end (v:=.tuple #[]) (by simp[results,results133,go_sem]) rfl HQ.out
 |false=>
  simp only[Bool.false_or]at HQ
  go_enter func133,ntmps133
  go_wp2
  refine bodyPost_end (v:=.tuple #[]) (by simp[results,results133,go_sem]) rfl HQ.out
theorem refuseName_any(b:Bool)(h:LkAt ad ρ tb lb s w):Calls prog 133 #[ptrV lb,.bool b] w (LkA ad ρ tb lb (s.name b) w):=(refuseName_lb b h).mono LkB.a
theorem LkAt.of_lb(h:LkAt ad ρ tb lb s w)(hk:Kn (fun k=>k=lb) w w'){s':Lk}(hf:w'.heap[lb]?=some (.cells #[.map (some tb),.bool s'.wn,.bool s'.wc] tyLook (0,0))):LkAt ad ρ tb lb s' w':=by
 refine⟨?_,hf⟩
 obtain⟨n,f,h1,_⟩:=id h.tab
 have hc:∀(k:Nat)(c:Array Value)(t:TypeId)(f:Nat×Nat),t≠tyLook->w.heap[k]?=some (.cells c t f)->w'.heap[k]?=w.heap[k]?:=fun k c t f ht hc=>hk.block k (lt_of_heap hc) fun e=>h.not hc ht (inr e)
 have:=h.tab.kept (l:=[]) (w':=w') (hk.block tb h1.lt fun e=>by
  obtain⟨es,cl,hm,_⟩:=h1
  rw[e,h.lk]at hm;cases hm) (fun k c f hk=>hc k c _ f (by decide) hk) (fun k c f hk=>hc k c _ f (by decide) hk) (fun k c f hk=>hc k c _ f (by decide) hk)
 rw[append_nil]at this;exact this
end
end Go.Proofs.YtcbppnefeonmgaaGreatDoor
