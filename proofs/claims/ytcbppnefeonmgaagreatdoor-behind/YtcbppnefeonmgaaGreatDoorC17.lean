import Derived.Test.YtcbppnefeonmgaaGreatDoorC16
set_option linter.all false
set_option maxHeartbeats 40000000
set_option maxRecDepth 100000
open Go.Proofs.Tryz
open Or (inl inr)
open Option (map_eq_some_iff)
open Nat (le_refl le_trans zero_le lt_of_lt_of_le)
open List (append_nil length_append length_cons mem_append append_assoc cons_append mem_cons map_append length_map map_cons nil_append)
namespace Go.Proofs.YtcbppnefeonmgaaGreatDoor
open Go.RowKit
section
variable {ar:Nm->Nat}{ad:List Nat}{Y:Nat->Prop}{rk:Nat->Nat}{σ:TS}{ρ:Env}{tb yb d:Nat}{gv:Value}{w w':World}{nb:Nat}{txt:Nm}
theorem within_any{t:Nat}{o:Option (Nat×TS)}(h:YM ar ad Y rk σ ρ tb yb d gv w)(ht:t<σ.nodes.length)(hx:okK (0,txt))
  (hE:∀u,Kn (Dm ad tb yb gv) w u->YM ar ad Y rk σ (((0,txt),Mg.var t)::ρ) tb yb d gv u->Calls prog 141 #[ptrV yb,ptrV nb] u (AnTy ar ad Y (((0,txt),Mg.var t)::ρ) tb yb d gv o u)) :
  Calls prog 165 #[ptrV yb,.string (bs txt),adV ad t,ptrV nb] w (AnTy ar ad Y ρ tb yb d gv o w):=by
 obtain⟨n,f,hm,hf,hsix⟩:=h.tab.six
 have htl:t<ad.length:=by rw[h.len];exact ht
 have hmk:∀u,Kn (fun _=>False) w u->MapHas okK kyV u tb n f:=fun u hu=>hm.kept (hu.block tb hm.lt id)
 have hBI:∀u,Kn (fun _=>False) w u->Calls prog 136 #[.map (some tb),.agg #[.int .i64 0,.string (bs txt)],.agg #[adV ad t,.string ⟨#[]⟩,.slice none 0 0,.slice none 0 0,.int .i64 0,.int .i64 0]] u fun e u'=>e=.returned (unbV u.heap.size)/\F6 ar ad Y rk σ ρ tb yb d gv (0,txt) (Mg.var t) (f (0,txt)) w u.heap.size u':=fun u hu=>by
  refine(Bind_any (hmk u hu) hx (fun v hv=>hsix _ hx v hv) (m:=.agg #[adV ad t,.string ⟨#[]⟩,.slice none 0 0,.slice none 0 0,.int .i64 0,.int .i64 0]) ⟨_,_,_,_,_,_,_,_,_,_,rfl⟩).mono ?_
  rintro e u'⟨e1,⟨n',e2⟩,e3,e4,e5⟩
  have hyu:=h.stays hu
  refine⟨e1,hu.size,(hu.wide fun _ _ hh=>hh.elim).trans (e5.wide fun k _ hk=>inr (inl hk)),hyu.bound (hmk u hu) (fun x hx2=>?_) e2 e5 (mgVar_at htl u),e3,by omega⟩
  rcases hf x hx2 with h1|⟨m',v',h1,h2,h3⟩
  ·exact inl h1
  ·exact inr ⟨m',v',h1,h2,h3.kept (fun _ _=>rfl) (le_refl _) (fun k c f hc=>hu.block k (lt_of_heap hc) id) (fun k c f hc=>hu.block k (lt_of_heap hc) id) (fun k c f hc=>hu.block k (lt_of_heap hc) id)⟩
 have hE6:=fun(W:Nat) (u:World) (h6:F6 ar ad Y rk σ ρ tb yb d gv (0,txt) (Mg.var t) (f (0,txt)) w W u)=>hE u h6.kn h6.ym
 have hfin:=fun(W:Nat) (u:World) (h6:F6 ar ad Y rk σ ρ tb yb d gv (0,txt) (Mg.var t) (f (0,txt)) w W u) (e:Ending) (w7:World)=>F6.fin (o:=o) (e:=e) (w7:=w7) h hx hf h6
 have hend:=fun(W:Nat) (w7:World) (n7:Nat) (f7:Ky->Option Value) (um:FrameMode) (hm7:MapHas okK kyV w7 tb n7 f7) (hu7:Unb tb (0,txt) (f (0,txt)) W w7)=>Bind1_end (u:=um) hm7 hx hu7
 have hc0:∀u,Kn (fun _=>False) w u->u.cell? ⟨yb,0,none⟩=some (.map (some tb)):=fun u hu=>by simp[World.cell?,(h.stays hu).typ]
 have hc6:∀W u,F6 ar ad Y rk σ ρ tb yb d gv (0,txt) (Mg.var t) (f (0,txt)) w W u->u.cell? ⟨yb,0,none⟩=some (.map (some tb)):=fun W u h6=>by simp[World.cell?,h6.ym.typ]
 have hal:∀u o u',Kn (fun _=>False) w u->u'=World.alloc u o->Kn (fun _=>False) w u':=fun u o u' hu e=>by subst e;exact hu.alloc o
 have hK:=fun(u:World)=>key0_any (bs txt) u
 have hE':=hide hE6
 have HBu:=hide (show Kn (fun _=>False) w w.drew from(Kn.refl _ w).drew)
 have HBI:=hide hBI
 have HE:=hide hE6
 have HFIN:=hide hfin
 have HEND:=hide hend
 have HC0:=hide hc0
 have HC6:=hide hc6
 have HAL:=hide hal
 have HK:=hide hK
 clear hE' hE6 hE hBI hfin hend hc0 hc6 hal hK h hm hf hsix hmk htl ht hx
 generalize AnTy ar ad Y ρ tb yb d gv o w=Q at *
 generalize hQ6:(fun u=>AnTy ar ad Y (((0,txt),Mg.var t)::ρ) tb yb d gv o u)=Q6 at *
 generalize F6 ar ad Y rk σ ρ tb yb d gv (0,txt) (Mg.var t) (f (0,txt)) w=F at *
 generalize Kn (fun _=>False) w=V at *
 have c0a:=HC0.out _ HBu.out
 generalize bs txt=tx at *
 unfold adV ptrV unbV at *
 generalize adA ad t=bt at *
 go_enter_defers func165,ntmps165
 go_wp2_with fail
 go_region_held3 (fun w'=>w'.cell? ⟨yb,0,none⟩=some (.map (some tb))) (exact c0a)
  (first|(go_at_call 38;refine(HK.out _).mono ?_;rintro e u⟨rfl,hu⟩;have HBu:=hide (HAL.out _ _ _ HBu.out hu);have c0a:=HC0.out _ HBu.out;clear hu)|(go_at_call 136;refine(HBI.out _ HBu.out).mono ?_;rintro e u6⟨rfl,hu6⟩;have H6:=hide hu6;have c0a:=HC6.out _ _ hu6;clear hu6))
 all_goals
  have HE1:=hide (HE.out _ _ H6.out)
  have HF1:=hide (HFIN.out _ _ H6.out)
  clear HE HFIN HBI HC0 HC6 HAL HK H6 c0a HBu
  go_wp2_with fail
  refine(HE1.out).mono ?_;intro e w7 ha
  obtain⟨n7,f7,he,hm7,hu7,hq⟩:=HF1.out e w7 ha
  have HD:=hide (fun um=>HEND.out _ _ _ _ um hm7 hu7)
  have HQ:=hide hq
  clear ha hm7 hu7 hq HE1 HF1 HEND
  rcases he with rfl|⟨b,rfl⟩
  ·unfold noTy noTypeV at *
   go_wp2
   refine leaves_cons (f:=155) (by simp) (by simp[go_sem];rfl) ?_
   refine(HD.out _).mono ?_
   rintro e u' w8⟨rfl,rfl,hm8,ht8⟩
   have HG:=hide (HQ.out w8 hm8 ht8)
   simp[Leaves,settle,results,results165,go_sem]
   exact HG.out
  ·go_wp2
   refine leaves_cons (f:=155) (by simp) (by simp[go_sem];rfl) ?_
   refine(HD.out _).mono ?_
   rintro e u' w8⟨rfl,rfl,hm8,ht8⟩
   have HG:=hide (HQ.out w8 hm8 ht8)
   simp[Leaves,settle,results,results165,go_sem]
   exact HG.out
end
section
variable {ar:Nm->Nat}{ad:List Nat}{Y:Nat->Prop}{rk:Nat->Nat}{σ:TS}{ρ:Env}{tb yb d:Nat}{gv:Value}{w w':World}{nb:Nat}{txt:Nm}
structure Bt(ad:List Nat)(tb yb:Nat)(gv:Value)(w:World)(l:List Nat)(gv':Value)(w':World):Prop where
 kn:Kn (Dm ad tb yb gv) w w'
 new:∀b∈l,w.heap.size<=b
 giv:∀b,gv'.ownBlock=some b->gv.ownBlock=some b\/w.heap.size<=b
theorem Bt.refl(ad:List Nat)(tb yb:Nat)(gv:Value)(w:World):Bt ad tb yb gv w [] gv w:=⟨Kn.refl _ _,by simp,fun _ h=>inl h⟩
theorem Bt.dm{l:List Nat}{gv':Value}(h:Bt ad tb yb gv w l gv' w'){k:Nat}(hk:k<w.heap.size)(hd:Dm (ad++l) tb yb gv' k):Dm ad tb yb gv k:=by
 rcases hd with hd|hd|hd|hd
 ·rcases mem_append.1 hd with hd|hd
  ·exact inl hd
  ·have:=h.new k hd;omega
 ·exact inr (inl hd)
 ·exact inr (inr (inl hd))
 ·rcases h.giv k hd with h1|h1
  ·exact inr (inr (inr h1))
  ·omega
theorem Bt.trans{l l2:List Nat}{gv' gv2:Value}{w2:World}(h:Bt ad tb yb gv w l gv' w')(k:Bt (ad++l) tb yb gv' w' l2 gv2 w2):Bt ad tb yb gv w (l++l2) gv2 w2:=by
 refine⟨h.kn.trans' k.kn fun i hi hd=>h.dm hi hd,fun b hb=>?_,fun b hb=>?_⟩
 ·rcases mem_append.1 hb with hb|hb
  ·exact h.new b hb
  ·exact le_trans h.kn.size (k.new b hb)
 ·rcases k.giv b hb with h1|h1
  ·exact h.giv b h1
  ·exact inr (le_trans h.kn.size h1)
theorem Bt.store{l l2:List Nat}{gv':Value}{w2:World}(h:Bt ad tb yb gv w l gv' w')(k:Kn (·∈ad++l) w' w2)(hl:∀b∈l2,w'.heap.size<=b):Bt ad tb yb gv w (l++l2) gv' w2:=
 h.trans ⟨k.dm,hl,fun _ hb=>inl hb⟩
theorem AnTy.behind{l:List Nat}{gv':Value}{o:Option (Nat×TS)}{e:Ending}{w2:World}(h:Bt ad tb yb gv w l gv' w')(ha:AnTy ar (ad++l) Y ρ tb yb d gv' o w' e w2):AnTy ar ad Y ρ tb yb d gv o w e w2:=by
 obtain⟨hk,ha⟩:=ha
 refine⟨h.kn.trans' hk fun i hi hd=>h.dm hi hd,?_⟩
 rcases ha with ha|⟨t,σ',l2,rk',gv2,h1,h2,h3,h4,h5,h6⟩
 ·exact inl ha
 ·have hb:=h.trans ⟨hk,h5,h6⟩
  rw[append_assoc]at h2 h4
  exact inr ⟨t,σ',l++l2,rk',gv2,h1,h2,h3,h4,hb.new,hb.giv⟩
theorem AnEx.behind{l:List Nat}{gv':Value}{o:Option TS}{e:Ending}{w2:World}(h:Bt ad tb yb gv w l gv' w')(ha:AnEx ar (ad++l) Y ρ tb yb d gv' o w' e w2):AnEx ar ad Y ρ tb yb d gv o w e w2:=by
 obtain⟨hk,ha⟩:=ha
 refine⟨h.kn.trans' hk fun i hi hd=>h.dm hi hd,?_⟩
 rcases ha with ha|⟨σ',l2,rk',gv2,h1,h2,h4,h5,h6⟩
 ·exact inl ha
 ·have hb:=h.trans ⟨hk,h5,h6⟩
  rw[append_assoc]at h4
  exact inr ⟨σ',l++l2,rk',gv2,h1,h2,h4,hb.new,hb.giv⟩
theorem AnTy.cases{o:Option (Nat×TS)}{e:Ending}(ha:AnTy ar ad Y ρ tb yb d gv o w e w'):(o=none/\e=noTy/\Kn (Dm ad tb yb gv) w w'/\∃n f,MapHas okK kyV w' tb n f) \/
  ∃t σ' l rk' gv',o=some (t,σ')/\e=.returned (adV (ad++l) t)/\t<σ'.nodes.length/\YM ar (ad++l) Y rk' σ' ρ tb yb d gv' w'/\Bt ad tb yb gv w l gv' w':=by
 obtain⟨hk,⟨h1,h2,h3⟩|⟨t,σ',l,rk',gv',h1,h2,h3,h4,h5,h6⟩⟩:=ha
 ·exact inl ⟨h1,h2,hk,h3⟩
 ·exact inr ⟨t,σ',l,rk',gv',h1,h2,h3,h4,hk,h5,h6⟩
theorem AnEx.cases{o:Option TS}{e:Ending}(ha:AnEx ar ad Y ρ tb yb d gv o w e w'):(o=none/\e=noTy/\Kn (Dm ad tb yb gv) w w'/\∃n f,MapHas okK kyV w' tb n f) \/
  ∃σ' l rk' gv',o=some σ'/\e=.returned (.tuple #[])/\YM ar (ad++l) Y rk' σ' ρ tb yb d gv' w'/\Bt ad tb yb gv w l gv' w':=by
 obtain⟨hk,⟨h1,h2,h3⟩|⟨σ',l,rk',gv',h1,h2,h4,h5,h6⟩⟩:=ha
 ·exact inl ⟨h1,h2,hk,h3⟩
 ·exact inr ⟨σ',l,rk',gv',h1,h2,h4,hk,h5,h6⟩
theorem AnTy.ok{o:Option (Nat×TS)}{t:Nat}{σ':TS}{l:List Nat}{rk':Nat->Nat}{gv':Value}(ho:o=some (t,σ'))(ht:t<σ'.nodes.length)(h:YM ar (ad++l) Y rk' σ' ρ tb yb d gv' w')(hb:Bt ad tb yb gv w l gv' w'):AnTy ar ad Y ρ tb yb d gv o w (.returned (adV (ad++l) t)) w':=
 ⟨hb.kn,inr ⟨t,σ',l,rk',gv',ho,rfl,ht,h,hb.new,hb.giv⟩⟩
theorem AnEx.ok{o:Option TS}{σ':TS}{l:List Nat}{rk':Nat->Nat}{gv':Value}(ho:o=some σ')(h:YM ar (ad++l) Y rk' σ' ρ tb yb d gv' w')(hb:Bt ad tb yb gv w l gv' w'):AnEx ar ad Y ρ tb yb d gv o w (.returned (.tuple #[])) w':=
 ⟨hb.kn,inr ⟨σ',l,rk',gv',ho,rfl,h,hb.new,hb.giv⟩⟩
theorem AnEx.panic{o:Option TS}(ho:o=none)(hk:Kn (Dm ad tb yb gv) w w')(hm:∃n f,MapHas okK kyV w' tb n f):AnEx ar ad Y ρ tb yb d gv o w noTy w':=⟨hk,inl ⟨ho,rfl,hm⟩⟩
theorem YM.grown{l:List Nat}{rk':Nat->Nat}{σ':TS}{gv':Value}(h:YM ar ad Y rk σ ρ tb yb d gv w)(h':YM ar (ad++l) Y rk' σ' ρ tb yb d gv' w'):σ.nodes.length<=σ'.nodes.length:=by
 rw[<- h.len,<- h'.len,length_append];omega
def giveO(o:Option (Nat×TS)):Option (Nat×TS):=o.map fun r=>(r.1,r.2.give r.1)
def uniO(o:Option (Nat×TS))(want:Nat):Option TS:=o.bind fun r=>r.2.unify r.1 want
theorem expression_of{o:Option (Nat×TS)}(hF:Calls prog 163 #[ptrV yb,ptrV nb] w (AnTy ar ad Y ρ tb yb d gv o w))(hn:∀t σ',o=some (t,σ')->σ'.given.length<=100000000) :
  Calls prog 141 #[ptrV yb,ptrV nb] w (AnTy ar ad Y ρ tb yb d gv (giveO o) w):=by
 have hst:∀e w1,AnTy ar ad Y ρ tb yb d gv o w e w1->(e=noTy/\AnTy ar ad Y ρ tb yb d gv (giveO o) w noTy w1) \/
   ∃b Q1,e=.returned (ptrV b)/\Calls prog 162 #[ptrV yb,ptrV b] w1 Q1/\∀e w2,Q1 e w2->∃b,e=.returned (ptrV b)/\AnTy ar ad Y ρ tb yb d gv (giveO o) w (.returned (ptrV b)) w2:=by
  intro e w1 ha
  rcases ha.cases with⟨rfl,h2,h3,h4⟩|⟨t,σ',l,rk',gv',rfl,h2,h3,h4,h5⟩
  ·exact inl ⟨h2,AnTy.panic rfl h3 h4⟩
  ·refine inr ⟨_,_,h2,give_any h4 h3 (hn _ _ rfl),fun e w2 hq=>?_⟩
   have:=AnTy.behind h5 hq
   rcases hq.cases with⟨h6,_⟩|⟨t2,σ2,l2,rk2,gv2,h6,h7,_⟩
   ·cases h6
   ·exact⟨_,h7,by rw[h7]at this;exact this⟩
 have HF:=hide hF
 have HST:=hide hst
 clear hF hst hn
 generalize AnTy ar ad Y ρ tb yb d gv o w=Q0 at *
 generalize AnTy ar ad Y ρ tb yb d gv (giveO o) w=Q at *
 unfold ptrV at *
 go_enter func141,ntmps141
 go_wp2_with fail
 refine(HF.out).mono ?_;intro e w1 ha
 rcases HST.out e w1 ha with⟨rfl,hq⟩|⟨b,Q1,rfl,hc,hq⟩
 ·have HG:=hide hq
  clear ha hq HST HF
  unfold noTy noTypeV at *
  go_wp2
  exact⟨rfl,HG.out⟩
 ·have HC:=hide hc
  have HG:=hide hq
  clear ha hc hq HST HF
  go_wp2_with fail
  refine(HC.out).mono ?_;intro e w2 ha
  obtain⟨b2,rfl,hq⟩:=HG.out e w2 ha
  have HF:=hide hq
  clear ha hq HG HC
  go_wp2
  exact HF.out
theorem expect_of(har:∀nm,ar nm<=1000000){o:Option (Nat×TS)}{want:Nat}(h:YM ar ad Y rk σ ρ tb yb d gv w)(hw:want<σ.nodes.length)(hE:Calls prog 141 #[ptrV yb,ptrV nb] w (AnTy ar ad Y ρ tb yb d gv o w)) :
  Calls prog 116 #[ptrV yb,ptrV nb,adV ad want] w (AnEx ar ad Y ρ tb yb d gv (uniO o want) w):=by
 have hst:∀e w1,AnTy ar ad Y ρ tb yb d gv o w e w1->(e=noTy/\AnEx ar ad Y ρ tb yb d gv (uniO o want) w noTy w1) \/
   ∃b Q1,e=.returned (ptrV b)/\Calls prog 140 #[ptrV b,adV ad want] w1 Q1/\∀e w2,Q1 e w2->(e=.returned (.bool false)/\AnEx ar ad Y ρ tb yb d gv (uniO o want) w noTy w2)\/(e=.returned (.bool true)/\AnEx ar ad Y ρ tb yb d gv (uniO o want) w (.returned (.tuple #[])) w2):=by
  intro e w1 ha
  rcases ha.cases with⟨rfl,h2,h3,h4⟩|⟨t,σ',l,rk',gv',rfl,h2,h3,h4,h5⟩
  ·exact inl ⟨h2,AnEx.panic rfl h3 h4⟩
  ·have hw':want<σ'.nodes.length:=lt_of_lt_of_le hw (h.grown h4)
   have hU:=Unify_any har h4.sto h3 hw'
   rw[adV_app (i:=want) l (by rw[h.len];exact hw)]at hU
   refine inr ⟨_,_,h2,hU,fun e w2 hq=>?_⟩
   obtain⟨hk,⟨q1,q2⟩|⟨σ2,rk2,q1,q2,q3⟩⟩:=hq
   ·have hb:=h5.store hk (l2:=[]) (by simp)
    exact inl ⟨q2,AnEx.panic q1 hb.kn ⟨_,_,(h4.raw.choose_spec.choose_spec).kept (hk.block tb h4.tb_lt h4.tb_not)⟩⟩
   ·have hb:=h5.store hk (l2:=[]) (by simp)
    have hg:σ2.given=σ'.given:=by
     have q1:σ'.unify t want=some σ2:=q1
     unfold TS.unify at q1
     obtain⟨r,hr,rfl⟩:=map_eq_some_iff.1 q1
     exact(un_same _ _ _ _ _ _ _ hr).1.given
    have hy:=h4.step (l:=[]) hk (by rw[append_nil];exact q3) hg
    rw[append_assoc]at hy
    exact inr ⟨q2,AnEx.ok q1 hy hb⟩
 have HE:=hide hE
 have HST:=hide hst
 have HNY:=hide need_yes
 have HNN:=hide need_no
 clear hE hst h hw
 generalize AnTy ar ad Y ρ tb yb d gv o w=Q0 at *
 generalize AnEx ar ad Y ρ tb yb d gv (uniO o want) w=Q at *
 unfold adV ptrV at *
 generalize adA ad want=bw at *
 go_enter func116,ntmps116
 go_wp2_with fail
 refine(HE.out).mono ?_;intro e w1 ha
 rcases HST.out e w1 ha with⟨rfl,hq⟩|⟨b,Q1,rfl,hc,hq⟩
 ·have HG:=hide hq
  clear ha hq HST HE
  unfold noTy noTypeV at *
  go_wp2
  exact⟨rfl,HG.out⟩
 ·have HC:=hide hc
  have HG:=hide hq
  clear ha hc hq HST HE
  go_wp2_with fail
  refine(HC.out).mono ?_;intro e w2 ha
  rcases HG.out e w2 ha with⟨rfl,hq⟩|⟨rfl,hq⟩
  ·have HF:=hide hq
   clear ha hq HG HC
   go_wp2_with fail
   refine(HNN.out w2).mono ?_;rintro e w3⟨rfl,rfl⟩
   unfold noTy noTypeV at *
   go_wp2
   exact⟨rfl,HF.out⟩
  ·have HF:=hide hq
   clear ha hq HG HC
   go_wp2_with fail
   refine(HNY.out w2).mono ?_;rintro e w3⟨rfl,rfl⟩
   go_wp2
   refine bodyPost_end (v:=.tuple #[]) (by simp[results,results116,go_sem]) rfl HF.out
end
section
variable {ar:Nm->Nat}{ad:List Nat}{Y:Nat->Prop}{rk:Nat->Nat}{σ:TS}{ρ:Env}{tb yb d:Nat}{gv:Value}{w w':World}{nb:Nat}{txt:Nm}
structure PtAt(nb k:Nat)(txt:Nm)(g cap:Nat)(bl:List Nat)(w:World):Prop where
 node:w.heap[nb]?=some (.cells #[.int .i64 k,.string (bs txt),.slice (some ⟨g,0,none⟩) bl.length cap] tyTree (0,0))
 row:∃cs:Array Value,w.heap[g]?=some (.cells cs tyTreeP (0,0))/\∀(i b:Nat),bl[i]?=some b->cs[i]?=some (ptrV b)
theorem NMem.pt{k:Nat}{ps:List Nd}(h:NMem w (.mk k txt ps) nb)(hne:ps≠[]):∃g cap bl,PtAt nb k txt g cap bl w/\NMem.NMems w ps bl/\bl.length=ps.length:=by
 obtain⟨pv,bl,h1,h2,h3⟩:=h.inv
 have hl:=h3.len
 rcases h2.2 with⟨rfl,h0⟩|⟨g,cap,cur,rfl,_,hg,h4,h5,h6,h7⟩
 ·exact absurd (List.length_eq_zero_iff.1 (by rw[<- hl];exact h0)) hne
 ·refine⟨g,cap,bl,⟨h1,cur,hg,fun i b hb=>?_⟩,h3,hl⟩
  have hi:=(List.getElem?_eq_some_iff.1 hb).1
  have h8:(bl.map ptrV)[i]?=some (ptrV b):=by rw[List.getElem?_map,hb];rfl
  rw[<- h7]at h8
  rw[List.getElem?_take_of_lt (by omega)]at h8
  simpa using h8
theorem PtAt.cells{k g cap:Nat}{bl:List Nat}(h:PtAt nb k txt g cap bl w):w.cell? ⟨nb,0,none⟩=some (.int .i64 k)/\w.cell? ⟨nb,1,none⟩=some (.string (bs txt))/\w.cell? ⟨nb,2,none⟩=some (.slice (some ⟨g,0,none⟩) bl.length cap)/\∀(i b:Nat),bl[i]?=some b->w.cell? ⟨g,i,none⟩=some (ptrV b):=by
 obtain⟨cs,h1,h2⟩:=h.row
 refine⟨by simp[World.cell?,h.node],by simp[World.cell?,h.node],by simp[World.cell?,h.node],fun i b hb=>?_⟩
 simp[World.cell?,h1,h2 i b hb]
theorem YM.pt(h:YM ar ad Y rk σ ρ tb yb d gv w)(hk:Kn (Dm ad tb yb gv) w w'){k g cap:Nat}{bl:List Nat}(hp:PtAt nb k txt g cap bl w):PtAt nb k txt g cap bl w':=by
 obtain⟨cs,h1,h2⟩:=hp.row
 refine⟨?_,cs,?_,h2⟩
 ·rw[hk.block nb (lt_of_heap hp.node) (h.dm_not hp.node (by decide) (by decide) (by decide))];exact hp.node
 ·rw[hk.block g (lt_of_heap h1) (h.dm_not h1 (by decide) (by decide) (by decide))];exact h1
theorem YM.tree(h:YM ar ad Y rk σ ρ tb yb d gv w)(hk:Kn (Dm ad tb yb gv) w w'){nd:Nd}(hn:NMem w nd nb):NMem w' nd nb:=
 NMem.kept (fun k c f hc=>hk.block k (lt_of_heap hc) (h.dm_not hc (by decide) (by decide) (by decide))) (fun k c f hc=>hk.block k (lt_of_heap hc) (h.dm_not hc (by decide) (by decide) (by decide))) nd nb hn
def Nd.sz:Nd->Nat
 |.mk _ _ ps=>szs ps+1
 where
 szs:List Nd->Nat
  |[]=>0
  |p::r=>p.sz+szs r
def shapeOk(k:Nat)(ps:List Nd):Prop:=
 match k with
 |5=>ps.length=1
 |6=>ps.length=2
 |7=>ps.length=2
 |8=>ps.length=3
 |9=>ps.length=2
 |10=>ps.length=2
 |11=>ps.length=2
 |12=>ps.length=1
 |13=>ps.length=2
 |15=>∃a r,ps=a::r/\a.k≠16/\∀x∈r,x.k=16
 |16=>ps.length=2
 |_=>True
def WfN(nd:Nd):Prop:=∀x∈nd.all,shapeOk x.k x.ps/\x.txt.length<=100000000/\x.ps.length<=1000000
end
def Sh:Nat->Nd->Prop
 |c,.mk k txt ps=>∃(is name:Nm) (cs:List Nat),KindOf c is name k txt cs/\Shs cs ps
 where
 Shs:List Nat->List Nd->Prop
  |[],[]=>True
  |c::cs,p::ps=>Sh c p/\Shs cs ps
  |_,_=>False
theorem Sh.mk{c k:Nat}{txt:Nm}{ps:List Nd}{is name:Nm}{cs:List Nat}(h:KindOf c is name k txt cs)(hs:Sh.Shs cs ps):Sh c (.mk k txt ps):=by rw[Sh];exact⟨is,name,cs,h,hs⟩
theorem Sh.inv{c k:Nat}{txt:Nm}{ps:List Nd}(h:Sh c (.mk k txt ps)):∃(is name:Nm) (cs:List Nat),KindOf c is name k txt cs/\Sh.Shs cs ps:=by rw[Sh]at h;exact h
theorem NMem.joined{w:World}{p:Nd}{ps:List Nd}{b:Nat}{l:List Nat}(h:NMem w p b)(hs:NMem.NMems w ps l):NMem.NMems w (p::ps) (b::l):=by rw[NMem.NMems];exact⟨h,hs⟩
def Nd.ms:Nd->Nat
 |.mk _ txt ps=>1+txt.length+mss ps
 where
 mss:List Nd->Nat
  |[]=>0
  |p::r=>p.ms+mss r
theorem KindOf.leaf{c:Nat}{is name:List UInt8}{k:Int}{txt:List UInt8}{cs:List Nat}(h:KindOf c is name k txt cs):leafT is=true->cs=[]:=by
 refine h (fun _ is _ _ _ cs=>leafT is=true->cs=[]) ?_ ?_ ?_ ?_ ?_ ?_ ?_ ?_ ?_ ?_ ?_ ?_ ?_ ?_ ?_ ?_ ?_ ?_ ?_ ?_ ?_ ?_ ?_ ?_ ?_ ?_
 case refine_12=>
  intro x hx hl
  simp only[mem_cons,List.not_mem_nil,or_false]at hx
  rcases hx with rfl|rfl|rfl|rfl|rfl|rfl<;>exact absurd hl (by decide)
 all_goals first|(intros;rfl)|(intro hl;exact absurd hl (by decide))|(intro _ hl;exact absurd hl (by decide))|(intro _ _ hl;exact absurd hl (by decide))|(intro _ _ _ hl;exact absurd hl (by decide))|(intro _ _ _ _ hl;exact absurd hl (by decide))
theorem KindOf.txtLen{c:Nat}{is name:List UInt8}{k:Int}{txt:List UInt8}{cs:List Nat}(h:KindOf c is name k txt cs):txt.length<=name.length\/(txt=is/\leafT is=false):=by
 refine h (fun _ is name _ txt _=>txt.length<=name.length\/(txt=is/\leafT is=false)) ?_ ?_ ?_ ?_ ?_ ?_ ?_ ?_ ?_ ?_ ?_ ?_ ?_ ?_ ?_ ?_ ?_ ?_ ?_ ?_ ?_ ?_ ?_ ?_ ?_ ?_
 case refine_12=>
  intro x hx
  refine inr ⟨rfl,?_⟩
  simp only[mem_cons,List.not_mem_nil,or_false]at hx
  rcases hx with rfl|rfl|rfl|rfl|rfl|rfl<;>decide
 case refine_22=>intro x;exact inl (by simp)
 all_goals (intros;exact inl (le_refl _))
theorem mu_ge{is name:List UInt8}{ts:List Tr}(h:leafT is=false):1+name.length+mus ts<=mu (.mk is name ts)/\(is≠K.named_->1+is.length+mus ts<=mu (.mk is name ts)):=by
 unfold mu mus
 rw[Tr.text,h,cond_false]
 unfold headT
 cases hn:(is==K.named_)with
 |true=>
  rw[cond_true]
  refine⟨by simp;omega,fun hne=>absurd (by simpa using hn) hne⟩
 |false=>
  rw[cond_false]
  cases he:(name==[])with
  |true=>
   rw[cond_true]
   have:name=[]:=by simpa using he
   subst this
   exact⟨by simp;omega,fun _=>by simp;omega⟩
  |false=>
   rw[cond_false]
   exact⟨by simp;omega,fun _=>by simp;omega⟩
theorem KindOf.not_named{c:Nat}{is name:List UInt8}{k:Int}{cs:List Nat}(h:KindOf c is name k is cs)(hn:is=K.named_):is.length<=name.length\/False:=by
 rcases h.txtLen with h1|⟨_,h2⟩
 ·exact inl h1
 ·subst hn
  have:=h (fun _ is name _ txt _=>is=K.named_->txt.length<=name.length) (by intros;exact le_refl _) (by intros;exact le_refl _) (by intros;exact le_refl _) (by intros;exact le_refl _) (by intros;exact le_refl _) (by intros;exact le_refl _) (by intros;exact le_refl _) (by intros;exact le_refl _) (by intros;exact le_refl _) (by intros;exact le_refl _) (by intros;exact le_refl _) (by
   intro x hx e
   simp only[mem_cons,List.not_mem_nil,or_false]at hx
   rcases hx with rfl|rfl|rfl|rfl|rfl|rfl<;>exact absurd e (by decide)) (by intros;exact le_refl _) (by intros;exact le_refl _) (by intros;exact le_refl _) (by intros;exact le_refl _) (by intros;exact le_refl _) (by intros;exact le_refl _) (by intros;exact le_refl _) (by intros;exact le_refl _) (by intros;exact le_refl _) (by intros;simp) (by intros;exact le_refl _) (by intros;exact le_refl _) (by intros;exact le_refl _) (by intros;exact le_refl _)
  exact inl (this rfl)
theorem Mem.nd{A:Nat->Prop}{w:World}{c:Nat}{t:Tr}{b:Nat}(h:Mem A w c t b):NMem w (ndOf c t) b/\Sh c (ndOf c t)/\(ndOf c t).ms<=mu t:=by
 refine(Mem.both (P:=fun c t b=>NMem w (ndOf c t) b/\Sh c (ndOf c t)/\(ndOf c t).ms<=mu t)
  (Q:=fun cs ts bs=>cs.length=ts.length/\∀(c:Nat)(is:Nm)(i:Nat),(∀(j:Nat)(t:Tr)(d:Nat),cs[j]?=some d->ts[j]?=some t->(d=5->t.is=K.var_)->(d=3->t.is=K.named_)->partC c is (i+j) t=d)->NMem.NMems w (ndOf.nds c is i ts) bs/\Sh.Shs cs (ndOf.nds c is i ts)/\Nd.ms.mss (ndOf.nds c is i ts)<=mus ts) ?_ ?_ ?_).1 t c b h
 ·intro c is name ts k txt cs b pv ps hk hb hr hA hm hQ
  obtain⟨hl,hQ⟩:=hQ
  obtain⟨h1,h2⟩:=hk.kd
  obtain⟨q1,q2,q3⟩:=hQ c is 0 (fun j t d hd ht h5 h3=>by rw[Nat.zero_add];exact hk.parts ts j t d hd ht h5 h3)
  rw[ndOf_mk]
  refine⟨?_,?_,?_⟩
  ·refine NMem.mk (pv:=pv) (bs':=ps) ?_ hr q1
   rw[h1,h2];exact hb
  ·refine Sh.mk (is:=is) (name:=name) (cs:=cs) ?_ q2
   rw[h1,h2];exact hk
  ·rw[Nd.ms,h1]
   cases hlf:leafT is with
   |true=>
    have hcs:=hk.leaf hlf
    subst hcs
    have hts:ts=[]:=List.length_eq_zero_iff.1 (by rw[<- hl];rfl)
    subst hts
    have:mu (.mk is name [])=name.length+1:=by unfold mu;rw[Tr.text,hlf,cond_true]
    rw[this]
    rcases hk.txtLen with h3|⟨_,h3⟩
    ·rw[ndOf.nds,Nd.ms.mss];omega
    ·rw[hlf]at h3;cases h3
   |false=>
    obtain⟨m1,m2⟩:=mu_ge (name:=name) (ts:=ts) hlf
    rcases hk.txtLen with h3|⟨h3,_⟩
    ·omega
    ·subst h3
     by_cases hnm:txt=K.named_
     ·rcases hk.not_named hnm with h4|h4
      ·omega
      ·exact h4.elim
     ·have:=m2 hnm
      omega
 ·refine⟨rfl,fun c is i _=>?_⟩
  rw[ndOf.nds]
  exact⟨by rw[NMem.NMems];trivial,by rw[Sh.Shs];trivial,by rw[Nd.ms.mss];exact zero_le _⟩
 ·intro c cs t ts b bs hm hms hP hQ
  refine⟨by rw[length_cons,length_cons,hQ.1],fun c0 is i hp=>?_⟩
  have hpc:partC c0 is i t=c:=by
   refine hp 0 t c rfl rfl (fun e=>?_) (fun e=>?_)
   ·subst e;obtain⟨is',name',ts'⟩:=t;obtain⟨k,txt,cs,pv,ps,hk,_⟩:=hm.inv;exact hk.own_is
   ·subst e;obtain⟨is',name',ts'⟩:=t;obtain⟨k,txt,cs,pv,ps,hk,_⟩:=hm.inv;exact hk.variant_is
  obtain⟨q1,q2,q3⟩:=hQ.2 c0 is (i+1) (fun j u d hd hu h5 h3=>by
   have:=hp (j+1) u d (by simpa using hd) (by simpa using hu) h5 h3
   rw[show i+1+j=i+(j+1) by omega];exact this)
  rw[ndOf.nds,hpc]
  refine⟨NMem.joined hP.1 q1,?_,?_⟩
  ·rw[Sh.Shs];exact⟨hP.2.1,q2⟩
  ·rw[Nd.ms.mss,mus_cons]
   have:=hP.2.2
   omega
section
variable {w w':World}{nb:Nat}{txt:Nm}
theorem NMem.NMems.snoc{w:World}:∀{ps:List Nd}{l:List Nat}{p:Nd}{b:Nat},NMem.NMems w ps l->NMem w p b->NMem.NMems w (ps++[p]) (l++[b]):=by
 intro ps
 induction ps with
 |nil=>intro l p b h hp;cases l with
  |nil=>rw[nil_append,nil_append,NMem.NMems];exact⟨hp,by simp[NMem.NMems]⟩
  |cons=>simp[NMem.NMems]at h
 |cons q r ih=>intro l p b h hp;cases l with
  |nil=>simp[NMem.NMems]at h
  |cons c l=>rw[NMem.NMems]at h;rw[cons_append,cons_append,NMem.NMems];exact⟨h.1,ih h.2 hp⟩
def OnAt(kk:Nat)(ps:List Nd)(w:World)(i:Nat)(v:Value)(wr:World):Prop:=
 ∃l:List Nat,wr.ownsRow w.heap.size tyTreeP 1 v l.length (l.map ptrV)/\NMem.NMems w (only kk (ps.take i)) l/\l.length<=i/\Kn (fun _=>False) w wr
theorem OnAt.skip{kk i:Nat}{ps:List Nd}{v:Value}{wr:World}{p:Nd}(h:OnAt kk ps w i v wr)(hp:ps[i]?=some p)(hk:p.k≠kk):OnAt kk ps w (i+1) v wr:=by
 obtain⟨l,h1,h2,h3,h4⟩:=h
 refine⟨l,h1,?_,by omega,h4⟩
 rw[List.take_add_one,hp]
 unfold only at *
 rw[List.filter_append]
 have:(Option.toList (some p)).filter (fun n=>n.k==kk)=[]:=by simp[Option.toList,hk]
 rw[this,append_nil];exact h2
theorem OnAt.put{kk i b:Nat}{ps:List Nd}{v:Value}{wr:World}{p:Nd}(h:OnAt kk ps w i v wr)(hp:ps[i]?=some p)(hk:p.k=kk)(hm:NMem w p b)(hi:i<=1000000) :
  ∃l:List Nat,wr.ownsRow w.heap.size tyTreeP 1 v l.length (l.map ptrV)/\l.length<=100000000/\w.heap.size<=wr.heap.size/\∀v' w2,w2.ownsRow w.heap.size tyTreeP 1 v' (l++[b]).length ((l++[b]).map ptrV)->(wr.alloc (.cells #[.pointer (some ⟨b,0,none⟩)] tyTreeP)).grownBy w2 v.ownBlock->OnAt kk ps w (i+1) v' w2:=by
 obtain⟨l,h1,h2,h3,h4⟩:=h
 refine⟨l,h1,by omega,h4.size,fun v' w2 ho hg=>⟨l++[b],ho,?_,by simp;omega,(h4.alloc _).grown hg fun q hq=>inr (h1.lt q hq).1⟩⟩
 rw[List.take_add_one,hp]
 unfold only at *
 rw[List.filter_append]
 have:(Option.toList (some p)).filter (fun n=>n.k==kk)=[p]:=by simp[Option.toList,hk]
 rw[this];exact h2.snoc hm
theorem Only_any{k kk:Nat}{ps:List Nd}(h:NMem w (.mk k txt ps) nb)(hp:ps.length<=1000000)(hks:∀p∈ps,p.k<=1000)(hkk:kk<=1000) :
  Calls prog 84 #[ptrV nb,.int .i64 kk] w fun e w'=>∃a n c,e=.returned (.slice a n c)/\∃l,w'.ownsRow w.heap.size tyTreeP 1 (.slice a n c) l.length (l.map ptrV)/\NMem.NMems w' (only kk ps) l/\Kn (fun _=>False) w w':=by
 obtain⟨pv,bl,n1,n2,n3⟩:=h.inv
 have c2:w.cell? ⟨nb,2,none⟩=some pv:=by simp[World.cell?,n1]
 have hlen:=n3.len
 have hmax:=ownsRow_max n2
 obtain⟨a,cap,rfl,ha⟩:∃a cap,pv=.slice a bl.length cap/\(0<bl.length->∃g,a=some ⟨g,0,none⟩):=by
  rcases ownsRow_forms n2 with⟨h,h0⟩|⟨g,cap,h⟩
  ·exact⟨none,0,by rw[h,h0],fun h=>by omega⟩
  ·exact⟨_,cap,h,fun _=>⟨g,rfl⟩⟩
 have hst:OnAt kk ps w 0 (.slice none 0 0) w:=⟨[],⟨rfl,inl ⟨rfl,rfl⟩⟩,by simp[only,NMem.NMems],le_refl _,Kn.refl _ _⟩
 have hstep:∀i v wr p,OnAt kk ps w i v wr->ps[i]?=some p->∃g b,a=some ⟨g,0,none⟩/\wr.cell? ⟨g,i,none⟩=some (ptrV b)/\g<wr.heap.size/\wr.cell? ⟨b,0,none⟩=some (.int .i64 p.k)/\NMem w p b:=by
  intro i v wr p hat hpi
  obtain⟨b,hb,hm⟩:=n3.at hpi
  have hi:=(List.getElem?_eq_some_iff.1 hb).1
  obtain⟨g,rfl⟩:=ha (by omega)
  obtain⟨l,h1,h2,h3,h4⟩:=hat
  have hrow:wr.ownsRow 0 tyTreeP 1 (.slice (some ⟨g,0,none⟩) bl.length cap) bl.length (bl.map ptrV):=ownsRow_kept n2 fun q c f _ hc=>h4.block q (lt_of_heap hc) fun h=>h
  refine⟨g,b,rfl,?_,(hrow.lt g rfl).2,?_,hm⟩
  ·rw[hrow.cellAt i (by omega),List.getElem?_map,hb];rfl
  ·obtain⟨pk,pt,pp⟩:=p
   obtain⟨pv2,bl2,m1,_,_⟩:=hm.inv
   have:wr.heap[b]?=w.heap[b]?:=h4.block b (lt_of_heap m1) fun h=>h
   simp[World.cell?,this,m1]
 have hform:∀i v wr,OnAt kk ps w i v wr->∃a n c,v=.slice a n c:=by
  rintro i v wr⟨l,h1,_⟩
  rcases ownsRow_forms h1 with⟨h,_⟩|⟨g,cap,h⟩
  ·exact⟨_,_,_,h⟩
  ·exact⟨_,_,_,h⟩
 have hfin:∀a n c wr,OnAt kk ps w ps.length (.slice a n c) wr->∃l,wr.ownsRow w.heap.size tyTreeP 1 (.slice a n c) l.length (l.map ptrV)/\NMem.NMems wr (only kk ps) l/\Kn (fun _=>False) w wr:=by
  rintro a n c wr⟨l,h1,h2,h3,h4⟩
  rw[List.take_length]at h2
  exact⟨l,h1,h2.kept (fun k c f hc=>h4.block k (lt_of_heap hc) fun h=>h) (fun k c f hc=>h4.block k (lt_of_heap hc) fun h=>h),h4⟩
 have hput:=fun(i:Nat) (v:Value) (wr:World) (p:Nd) (b:Nat) (h:OnAt kk ps w i v wr) (hp:ps[i]?=some p) (hk:p.k=kk) (hm:NMem w p b)=>h.put hp hk hm (by have:=(List.getElem?_eq_some_iff.1 hp).1;omega)
 have hskip:=fun(i:Nat) (v:Value) (wr:World) (p:Nd) (h:OnAt kk ps w i v wr) (hp:ps[i]?=some p) (hk:p.k≠kk)=>h.skip hp hk
 have HST:=hide hst
 have HSTEP:=hide hstep
 have HFORM:=hide hform
 have HFIN:=hide hfin
 have HPUT:=hide hput
 have HSKIP:=hide hskip
 have HKS:=hide hks
 generalize hQ:(fun(e:Ending) (w':World)=>∃a n c,e=.returned (.slice a n c)/\∃l,w'.ownsRow w.heap.size tyTreeP 1 (.slice a n c) l.length (l.map ptrV)/\NMem.NMems w' (only kk ps) l/\Kn (fun _=>False) w w')=Q
 have hq:∀a n c wr,OnAt kk ps w ps.length (.slice a n c) wr->Q (.returned (.slice a n c)) wr:=fun a n c wr h=>by rw[<- hQ];exact⟨a,n,c,rfl,hfin a n c wr h⟩
 have HQ:=hide hq
 clear hq hQ HFIN hst hstep hform hfin hput hskip hks n1 n2 n3 h ha
 rw[hlen]at *
 generalize hOA:OnAt kk ps w=OA at *
 generalize hpn:ps.length=pn at *
 unfold ptrV at *
 go_enter func84,ntmps84
 go_wp2_with fail
 clear hOA
 go_loopg [5,13] pn (fun gk v5 v13 wr=>∃i,v13=.int .i64 (i:Nat)/\i+gk=pn/\Hid (OA i v5 wr))
 case atStart=>exact⟨0,rfl,by omega,HST⟩
 case round=>
  clear HST
  obtain⟨i,rfl,hi,HAT⟩:=hrel
  obtain⟨av,nv,cv,rfl⟩:=HFORM.out _ _ _ HAT.out
  by_cases hlt:i<pn
  ·have hil:i<ps.length:=by omega
   have hpi:ps[i]?=some ps[i]:=List.getElem?_eq_getElem hil
   have hpk:=HKS.out _ (List.mem_of_getElem? hpi)
   generalize ps[i]=p at hpi hpk
   obtain⟨gg,b,rfl,e1,e2,e3,hm⟩:=HSTEP.out _ _ _ p HAT.out hpi
   have hlt3:(i:Int)<(pn:Int):=by omega
   by_cases hk:p.k=kk
   ·obtain⟨l,hown,hll,hsz,hpt⟩:=HPUT.out _ _ _ p b HAT.out hpi hk hm
    have HP:=hide hpt
    subst hk
    clear hpt HPUT HSKIP HSTEP HFORM HAT HQ HKS hm hpi
    generalize p.k=pk at *
    go_wp2_with (at_builtin;refine append_ptr rfl _ _ rfl b hown hll hsz rfl rfl ?_)
    intro v' w2 ho hgr HL
    have ho:w2.ownsRow w.heap.size tyTreeP 1 v' (l++[b]).length ((l++[b]).map ptrV):=by rw[length_append,map_append];exact ho
    have HF:=hide (HP.out v' w2 ho hgr)
    obtain⟨g',cap',rfl⟩:∃g' cap',v'=.slice (some ⟨g',0,none⟩) (l++[b]).length cap':=by
     rcases ownsRow_forms ho with⟨_,hn0⟩|h
     ·simp at hn0
     ·exact h
    clear ho hgr HL HP hown
    generalize (l++[b]).length=jn at *
    go_wp2_with fail
    go_roundg (pn-(i+1))
    case rel=>exact⟨i+1,by simp,by omega,HF⟩
    case measure=>omega
   ·have HF:=hide (HSKIP.out _ _ _ p HAT.out hpi hk)
    have hk3:¬(p.k:Int)=(kk:Int):=by omega
    clear HPUT HSKIP HSTEP HFORM HAT HQ HKS hm hpi hk
    generalize p.k=pk at *
    go_wp2_with fail
    go_roundg (pn-(i+1))
    case rel=>exact⟨i+1,by simp,by omega,HF⟩
    case measure=>omega
  ·have hin:i=pn:=by omega
   subst hin
   have hlt3:¬(i:Int)<(i:Int):=by omega
   have HG:=hide (HQ.out _ _ _ _ HAT.out)
   clear HPUT HSKIP HSTEP HFORM HAT HQ HKS
   go_wp2
   exact HG.out
end
theorem under_strs:prog.underlying 22=some (.slice tyStr):=by kernel_rfl
theorem info_strs:(prog.info? tyStr).map (fun i=>(i.zero,i.size,i.bytes))=some (some (.string ⟨#[]⟩),1,16):=by kernel_rfl
theorem run_append_st{w:World}{base:Nat}{v:Value}{ns:List Nm}{ty:TypeId}(k:Nm)(hown:w.ownsRow base tyStr 1 v ns.length (ns.map strV))(hn:ns.length<=100000000)(hb:base<=w.heap.size) :
  ∃v' w',(Builtin.append_ #[22,22] ty #[v,.slice (some ⟨w.heap.size,0,none⟩) 1 1]).run prog (w.alloc (.cells #[.string (bs k)] tyStr))=.ok v' w' /\
   w'.ownsRow base tyStr 1 v' (ns++[k]).length ((ns++[k]).map strV)/\(w.alloc (.cells #[.string (bs k)] tyStr)).grownBy w' v.ownBlock:=by
 obtain⟨i0,hi,hz0,hz1,hz2⟩:=info_parts info_strs
 have hown1:=hown.alloc (.cells #[.string (bs k)] tyStr)
 have hnews:∀j u,[Value.string (bs k)][j]?=some u->(w.alloc (.cells #[.string (bs k)] tyStr)).cell? ((⟨w.heap.size,0,none⟩:Addr).add j)=some u:=fun j u hj=>cell_new rfl (by simpa using hj)
 have h1:∀u∈[Value.string (bs k)],u.oneCell'=true:=by intro u hu;simp at hu;subst hu;rfl
 obtain⟨v',w',hr,ho',hg',_⟩:=run_append_own (P:=prog) (w.alloc (.cells #[.string (bs k)] tyStr)) base 22 ty tyStr i0 (.string ⟨#[]⟩) 1 16 under_strs hi hz0 hz1 hz2 rfl (by decide) v ns.length (ns.map strV) hown1 ⟨w.heap.size,0,none⟩ 1 1 [.string (bs k)] rfl hnews h1 (by unfold maxLen;omega) (by omega) (by simp;omega)
 have ho2:w'.ownsRow base tyStr 1 v' (ns++[k]).length ((ns++[k]).map strV):=by
  rw[length_append,map_append];exact ho'
 exact⟨v',w',hr,ho2,hg'⟩
theorem append_st{ops:Array Oper}{rest:List Oper}{o:Oper}{a:Act}{Q:Exit->Act->World->Prop}{w:World}(hgd:o.guard=none)(s x:Operand)
  (ho:o.op=.call { callee:=.builtin .append,args:=#[s,x],argTypes:=#[22,22] }) {base:Nat}{v:Value}{ns:List Nm} (k:Nm)
  (hown:w.ownsRow base tyStr 1 v ns.length (ns.map strV)) (hn:ns.length<=100000000) (hb:base<=w.heap.size) (hs:a.eval s=v) (hx:a.eval x=.slice (some ⟨w.heap.size,0,none⟩) 1 1)
  (h:∀v' w',w'.ownsRow base tyStr 1 v' (ns++[k]).length ((ns++[k]).map strV)->(w.alloc (.cells #[.string (bs k)] tyStr)).grownBy w' v.ownBlock->wpList prog ops Q rest (a.put o.dst v') w') :
  wpList prog ops Q (o::rest) a (w.alloc (.cells #[.string (bs k)] tyStr)):=by
 obtain⟨v',w',hr,h2,h3⟩:=run_append_st (ty:=o.type) k hown hn hb
 refine wpList_plain hgd fun K hK=>?_
 unfold Oper.wp execOp
 simp only[ho,resolve,invoke,builtin,Sem.run_bind,Sem.run_pure,Result.andThen_ok,List.map_toArray,map_cons,List.map_nil,hs,hx,hr]
 exact hK _ _ (h v' w' h2 h3)
section
variable {w w':World}
def TxAt(nds:List Nd)(w:World)(i:Nat)(v:Value)(wr:World):Prop:=
 ∃ns:List Nm,ns=(nds.take i).map Nd.txt/\wr.ownsRow w.heap.size tyStr 1 v ns.length (ns.map strV)/\Kn (fun _=>False) w wr
theorem textsOf_any{a:Option Addr}{n c:Nat}{nds:List Nd}{l:List Nat}(hr:w.ownsRow 0 tyTreeP 1 (.slice a n c) l.length (l.map ptrV))(hm:NMem.NMems w nds l)(hn:nds.length<=1000000) :
  Calls prog 83 #[.slice a n c] w fun e w'=>∃a' c',e=.returned (.slice a' nds.length c')/\w'.ownsRow w.heap.size tyStr 1 (.slice a' nds.length c') nds.length ((nds.map Nd.txt).map strV)/\Kn (fun _=>False) w w':=by
 have hlen:=hm.len
 obtain⟨rfl,ha⟩:n=l.length/\(0<l.length->∃g,a=some ⟨g,0,none⟩):=by
  rcases ownsRow_forms hr with⟨h,h0⟩|⟨g,cap,h⟩
  ·cases h;exact⟨h0.symm,fun h=>by omega⟩
  ·cases h;exact⟨rfl,fun _=>⟨g,rfl⟩⟩
 have hmax:=ownsRow_max hr
 have hst:TxAt nds w 0 (.slice none 0 0) w:=⟨[],by simp,⟨rfl,inl ⟨rfl,rfl⟩⟩,Kn.refl _ _⟩
 have hstep:∀i v wr,TxAt nds w i v wr->i<nds.length->∃(g b:Nat) (tx:Nm),a=some ⟨g,0,none⟩/\wr.cell? ⟨g,i,none⟩=some (ptrV b)/\g<wr.heap.size/\wr.cell? ⟨b,1,none⟩=some (.string (bs tx))/\∃ns:List Nm,wr.ownsRow w.heap.size tyStr 1 v ns.length (ns.map strV)/\ns.length<=100000000/\w.heap.size<=wr.heap.size /\
   ∀v' w2,w2.ownsRow w.heap.size tyStr 1 v' (ns++[tx]).length ((ns++[tx]).map strV)->(wr.alloc (.cells #[.string (bs tx)] tyStr)).grownBy w2 v.ownBlock->TxAt nds w (i+1) v' w2:=by
  rintro i v wr⟨ns,h1,h2,h4⟩ hi
  have hpi:nds[i]?=some nds[i]:=List.getElem?_eq_getElem hi
  have htk:(nds.take (i+1)).map Nd.txt=(nds.take i).map Nd.txt++[nds[i].txt]:=by rw[List.take_succ_eq_append_getElem hi,map_append];rfl
  obtain⟨b,hb,hmb⟩:=hm.at hpi
  generalize nds[i]=p at hpi htk hmb
  obtain⟨g,rfl⟩:=ha (by omega)
  have hrow:wr.ownsRow 0 tyTreeP 1 (.slice (some ⟨g,0,none⟩) l.length c) l.length (l.map ptrV):=ownsRow_kept hr fun q c f _ hc=>h4.block q (lt_of_heap hc) fun h=>h
  refine⟨g,b,p.txt,rfl,?_,(hrow.lt g rfl).2,?_,ns,h2,?_,h4.size,fun v' w2 ho hg=>⟨ns++[p.txt],by rw[htk,h1],ho,(h4.alloc _).grown hg fun q hq=>inr (h2.lt q hq).1⟩⟩
  ·rw[hrow.cellAt i (by omega),List.getElem?_map,hb];rfl
  ·obtain⟨pk,pt,pp⟩:=p
   obtain⟨pv2,bl2,m1,_,_⟩:=hmb.inv
   have:wr.heap[b]?=w.heap[b]?:=h4.block b (lt_of_heap m1) fun h=>h
   simp[World.cell?,this,m1]
  ·rw[h1,length_map,List.length_take];omega
 have hform:∀i v wr,TxAt nds w i v wr->∃a n c,v=.slice a n c:=by
  rintro i v wr⟨l,_,h1,_⟩
  rcases ownsRow_forms h1 with⟨h,_⟩|⟨g,cap,h⟩
  ·exact⟨_,_,_,h⟩
  ·exact⟨_,_,_,h⟩
 generalize hQ:(fun(e:Ending) (w':World)=>∃a' c',e=.returned (.slice a' nds.length c')/\w'.ownsRow w.heap.size tyStr 1 (.slice a' nds.length c') nds.length ((nds.map Nd.txt).map strV)/\Kn (fun _=>False) w w')=Q
 have hq:∀a n c wr,TxAt nds w nds.length (.slice a n c) wr->Q (.returned (.slice a n c)) wr:=fun a n c wr ⟨ns,h1,h2,h4⟩=>by
  rw[<- hQ]
  rw[List.take_length]at h1
  subst h1
  have hl:((nds.map Nd.txt)).length=nds.length:=length_map _
  rw[hl]at h2
  obtain rfl:n=nds.length:=by
   rcases ownsRow_forms h2 with⟨h,h0⟩|⟨g,cap,h⟩
   ·cases h;exact h0.symm
   ·cases h;rfl
  exact⟨a,c,rfl,h2,h4⟩
 have HST:=hide hst
 have HSTEP:=hide hstep
 have HFORM:=hide hform
 have HQ:=hide hq
 clear hst hstep hform hq hQ hr hm ha
 rw[hlen]at *
 generalize TxAt nds w=OA at *
 generalize hpn:nds.length=pn at *
 unfold ptrV at *
 go_enter func83,ntmps83
 go_wp2_with fail
 go_loopg [3,8] pn (fun gk v3 v8 wr=>∃i,v8=.int .i64 (i:Nat)/\i+gk=pn/\Hid (OA i v3 wr))
 case atStart=>exact⟨0,rfl,by omega,HST⟩
 case round=>
  clear HST
  obtain⟨i,rfl,hi,HAT⟩:=hrel
  obtain⟨av,nv,cv,rfl⟩:=HFORM.out _ _ _ HAT.out
  by_cases hlt:i<pn
  ·obtain⟨g,b,tx,rfl,e1,e2,e3,ns,hown,hll,hsz,hpt⟩:=HSTEP.out _ _ _ HAT.out hlt
   have HP:=hide hpt
   have hlt3:(i:Int)<(pn:Int):=by omega
   clear hpt HSTEP HFORM HAT HQ
   go_wp2_with (at_builtin;refine append_st rfl _ _ rfl tx hown hll hsz rfl rfl ?_)
   intro v' w2 ho hgr
   have ho:w2.ownsRow w.heap.size tyStr 1 v' (ns++[tx]).length ((ns++[tx]).map strV):=by rw[length_append,map_append];exact ho
   have HF:=hide (HP.out v' w2 ho hgr)
   obtain⟨g',cap',rfl⟩:∃g' cap',v'=.slice (some ⟨g',0,none⟩) (ns++[tx]).length cap':=by
    rcases ownsRow_forms ho with⟨_,hn0⟩|h
    ·simp at hn0
    ·exact h
   clear ho hgr HP hown
   generalize (ns++[tx]).length=jn at *
   go_wp2_with fail
   go_roundg (pn-(i+1))
   case rel=>exact⟨i+1,by simp,by omega,HF⟩
   case measure=>omega
  ·have hin:i=pn:=by omega
   subst hin
   have hlt3:¬(i:Int)<(i:Int):=by omega
   have HG:=hide (HQ.out _ _ _ _ HAT.out)
   clear HSTEP HFORM HAT HQ
   go_wp2
   exact HG.out
end
end Go.Proofs.YtcbppnefeonmgaaGreatDoor
