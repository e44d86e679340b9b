import Derived.Test.YtcbppnefeonmgaaGreatDoorC25
set_option linter.all false
set_option maxHeartbeats 40000000
set_option maxRecDepth 100000
open Go.Proofs.Tryz
open Or (inr)
open Nat (le_refl zero_le)
open List (mem_singleton)
namespace Go.Proofs.YtcbppnefeonmgaaGreatDoor
open Go.RowKit
section
variable {ad:List Nat}{ρ:Env}{tb lb:Nat}{s s':Lk}{w w':World}{nb:Nat}{txt:Nm}
theorem wi_facts{vs:List Nm}{a:Option Addr}{n c:Nat}(hr:w.ownsRow 0 tyStr 1 (.slice a n c) vs.length (vs.map strV))(hok:∀x∈vs,okK (0,x))(h:LkAt ad ρ tb lb s w)
  (hE:∀u,Kn (fun k=>k=tb\/k=lb) w u->LkAt ad (bindAll ρ vs Mg.zero) tb lb s u->Calls prog 115 #[ptrV lb,ptrV nb] u (LkA ad (bindAll ρ vs Mg.zero) tb lb s' u)) :
  ∃WI:Nat->List Deferred->World->Prop,n<=9223372036854775807/\WI 0 [] w /\
   (∀i D wr,WI i D wr->i<n->∃g tx,a=some ⟨g,0,none⟩/\wr.cell? ⟨g,i,none⟩=some (.string tx)/\g<wr.heap.size/\∀u,Kn (fun _=>False) wr u->u.cell? ⟨lb,0,none⟩=some (.map (some tb)) /\
    Calls prog 136 #[.map (some tb),.agg #[.int .i64 0,.string tx],.agg #[.pointer none,.string ⟨#[]⟩,.slice none 0 0,.slice none 0 0,.int .i64 0,.int .i64 0]] u fun e u'=>∃W,e=.returned (unbV W)/\u'.cell? ⟨lb,0,none⟩=some (.map (some tb))/\Hid (WI (i+1) (unbD W::D) u')) /\
   ∀D wr,WI n D wr->Calls prog 115 #[ptrV lb,ptrV nb] wr fun e w7=>e=.returned (.tuple #[])/\∀tmps,Leaves prog f114 tmps (LkA ad ρ tb lb s' w) D .returning w7:=by
 obtain⟨rfl,hav⟩:n=vs.length/\(0<vs.length->∃g',a=some ⟨g',0,none⟩):=by
  rcases ownsRow_forms hr with⟨h,h0⟩|⟨g,cap,h⟩
  ·cases h;exact⟨h0.symm,fun h=>by omega⟩
  ·cases h;exact⟨rfl,fun _=>⟨g,rfl⟩⟩
 refine⟨fun i D wr=>WiAt ad ρ tb lb s w vs i D wr,ownsRow_max hr,WiAt.start h,?_,?_⟩
 ·intro i D wr hat hi
  have hv:vs[i]?=some vs[i]:=List.getElem?_eq_getElem hi
  have hmem:=List.mem_of_getElem? hv
  generalize vs[i]=x at hv hmem
  obtain⟨g,rfl⟩:=hav (by omega)
  have hrow:wr.ownsRow 0 tyStr 1 (.slice (some ⟨g,0,none⟩) vs.length c) vs.length (vs.map strV):=ownsRow_kept hr fun q c f _ hc=>hat.kn.block q (lt_of_heap hc) (h.not hc (by decide))
  refine⟨g,bs x,rfl,?_,(hrow.lt g rfl).2,fun u hu=>⟨by simp[World.cell?,(hat.lk.stays hu).lk],(hat.bind hv (hok x hmem) hu).mono ?_⟩⟩
  ·rw[hrow.cellAt i (by omega),List.getElem?_map,hv];rfl
  ·rintro e u'⟨e1,e2⟩
   exact⟨_,e1,by simp[World.cell?,e2.lk.lk],hide e2⟩
 ·intro D wr hat
  have hl:=hat.lk
  have hlv:=hat.lv
  rw[List.take_length]at hl hlv
  refine(hE wr hat.kn hl).mono fun e w7 ha=>?_
  exact⟨ha.1,fun tmps=>hlv s' e w7 tmps ha⟩
theorem withinLook_of{vs:List Nm}{a:Option Addr}{n c:Nat}(hr:w.ownsRow 0 tyStr 1 (.slice a n c) vs.length (vs.map strV))(hok:∀x∈vs,okK (0,x))(h:LkAt ad ρ tb lb s w)
  (hE:∀u,Kn (fun k=>k=tb\/k=lb) w u->LkAt ad (bindAll ρ vs Mg.zero) tb lb s u->Calls prog 115 #[ptrV lb,ptrV nb] u (LkA ad (bindAll ρ vs Mg.zero) tb lb s' u)) :
  Calls prog 114 #[ptrV lb,ptrV nb,.slice a n c] w (LkA ad ρ tb lb s' w):=by
 obtain⟨WI,hn,h0,hs,he⟩:=wi_facts hr hok h hE
 have H0:=hide h0
 have HS:=hide hs
 have HE:=hide he
 have hK:=fun(tx:ByteArray) (u:World)=>key0_any tx u
 have HK:=hide hK
 clear h0 hs he hr hok h hE hK
 generalize LkA ad ρ tb lb s' w=Q at *
 unfold ptrV at *
 go_enter_defers func114,ntmps114
 go_wp2_with fail
 refine wp_loop_ghost_k (fun gk a' w'=>∃(i:Nat) (D:List Deferred) (u7 u11 u12 u13 u14 u15 u16 u17 u18 u19 u20 u21 u22:Value),i+gk=n/\Hid (WI i D w')/\a'={ tmps:=#[.pointer (some ⟨lb,0,none⟩),.pointer (some ⟨nb,0,none⟩),.slice a n c,undef,undef,undef,undef,u7,.slice a n c,.int .i64 n,.int .i64 (i:Nat),u11,u12,u13,u14,u15,u16,u17,u18,u19,u20,u21,u22,undef,undef,undef],defers:=D }) n ⟨0,[],undef,undef,undef,undef,undef,undef,undef,undef,undef,undef,undef,undef,undef,by omega,H0,rfl⟩ ?_
 rintro gk a' wr⟨i,D,u7,u11,u12,u13,u14,u15,u16,u17,u18,u19,u20,u21,u22,hi,HR,rfl⟩ J KK hJ hKK
 clear H0
 by_cases hlt:i<n
 ·obtain⟨g',tx,rfl,e1,e3,hu⟩:=HS.out i D wr HR.out hlt
  have hlt3:(i:Int)<(n:Int):=by omega
  have hal:∀u o u',Kn (fun _=>False) wr u->u'=World.alloc u o->Kn (fun _=>False) wr u':=fun u o u' hu e=>by
   subst e;exact hu.alloc o
  have HV:=hide (Kn.drewF wr)
  have HAL:=hide hal
  have HX:=hide hu
  have HJ:=hide hJ
  clear hu hal HS HE HR
  generalize Kn (fun _=>False) wr=V at *
  have hz:=HX.out _ HV.out
  obtain⟨c1a,_⟩:=hz
  unfold unbV at *
  go_wp2_with fail
  go_region_held3 (fun w'=>w'.cell? ⟨lb,0,none⟩=some (.map (some tb))) (exact c1a)
   (first|(go_at_call 38;refine(HK.out _ _).mono ?_;rintro e u⟨rfl,hu⟩;have HV:=hide (HAL.out _ _ _ HV.out hu);have hz:=HX.out _ HV.out;obtain⟨c1a,hb⟩:=hz;have HB:=hide hb;clear hu hb)|(go_at_call 136;refine(HB.out).mono ?_;rintro e u6⟨W,rfl,c1a,HRN⟩))
  all_goals
   go_wp2_with fail
   rw[show (i:Int)+1=((i+1:Nat):Int) by omega]
   exact Handed.intro (n-(i+1)) (by omega) (HJ.out _ _ _ ⟨i+1,unbD W::D,_,_,_,_,_,_,_,_,_,_,_,_,_,by omega,HRN,rfl⟩)
 ·have hin:i=n:=by omega
  subst hin
  have hlt3:¬(i:Int)<(i:Int):=by omega
  have HC:=hide (HE.out D wr HR.out)
  clear HS HE HR
  go_wp2_with fail
  refine(HC.out).mono ?_;rintro e w7⟨rfl,hl⟩
  have HL:=hide hl
  clear hl HC
  go_wp2
  exact HL.out _
end
section
variable {ad:List Nat}{ρ:Env}{tb lb:Nat}{s s':Lk}{w w':World}{nb:Nat}{txt:Nm}
theorem Tab.has(h:Tab ad tb ρ w){x:Ky}(hx:okK x):Calls prog 134 #[.map (some tb),.agg #[.int .i64 x.1,.string (bs x.2)]] w fun e w'=>e=.returned (.bool (ρ.get x).isSome)/\Kn (fun _=>False) w w':=by
 obtain⟨n,f,hm,hf,hsix⟩:=h.six
 refine(Has_any hm hx (fun v hv=>hsix _ hx v hv)).mono ?_
 rintro e w'⟨rfl,hb⟩
 refine⟨?_,Kn.of_below hb⟩
 rcases hf x hx with⟨h1,h2⟩|⟨m,v,h1,h2,_⟩
 ·rw[h1,h2];rfl
 ·rw[h1,h2];rfl
theorem lookE_var{ps:List Nd}(hx:txt.length<=100000000)(h:LkAt ad ρ tb lb s w)(hn:NMem w (.mk 3 txt ps) nb) :
  Calls prog 115 #[ptrV lb,ptrV nb] w (LkA ad ρ tb lb (s.name (ρ.get (0,txt)).isNone) w):=by
 obtain⟨pv,bl,n1,_,_⟩:=hn.inv
 have hok:okK (0,txt):=⟨show 0<3 by decide,hx⟩
 have c0:w.cell? ⟨nb,0,none⟩=some (.int .i64 (3:Nat)):=by simp[World.cell?,n1]
 have hnone:(!(ρ.get (0,txt)).isSome)=(ρ.get (0,txt)).isNone:=by cases ρ.get (0,txt)<;>rfl
 have hch:∀u,Kn (fun _=>False) w u->(u.cell? ⟨lb,0,none⟩=some (.map (some tb))/\u.cell? ⟨nb,1,none⟩=some (.string (bs txt)))/\Calls prog 134 #[.map (some tb),.agg #[.int .i64 (0:Nat),.string (bs txt)]] u fun e u2=>e=.returned (.bool (ρ.get (0,txt)).isSome)/\(u2.cell? ⟨lb,0,none⟩=some (.map (some tb))/\u2.cell? ⟨nb,1,none⟩=some (.string (bs txt)))/\Calls prog 133 #[ptrV lb,.bool (!(ρ.get (0,txt)).isSome)] u2 fun e u3=>e=.returned (.tuple #[])/\(u3.cell? ⟨lb,0,none⟩=some (.map (some tb))/\u3.cell? ⟨nb,1,none⟩=some (.string (bs txt)))/\LkA ad ρ tb lb (s.name (ρ.get (0,txt)).isNone) w (.returned (.tuple #[])) u3:=fun u hu=>by
  have hcl:∀u',Kn (fun k=>k=tb\/k=lb) w u'->∀s',LkAt ad ρ tb lb s' u'->u'.cell? ⟨lb,0,none⟩=some (.map (some tb))/\u'.cell? ⟨nb,1,none⟩=some (.string (bs txt)):=fun u' hk s' hl=>by
   have e1:u'.heap[nb]?=w.heap[nb]?:=hk.block nb (lt_of_heap n1) (h.not n1 (by decide))
   exact⟨by simp[World.cell?,hl.lk],by simp[World.cell?,e1,n1]⟩
  have hl:=h.stays hu
  refine⟨hcl u (hu.wide fun _ _ h=>h.elim) s hl,(hl.tab.has hok).mono ?_⟩
  rintro e u2⟨rfl,hk2⟩
  have hl2:=hl.stays hk2
  have hkw:Kn (fun k=>k=tb\/k=lb) w u2:=(hu.trans hk2).wide fun _ _ h=>h.elim
  refine⟨rfl,hcl u2 hkw s hl2,(refuseName_any _ hl2).mono ?_⟩
  rintro e u3⟨rfl,q1,q2⟩
  rw[hnone]at q1
  exact⟨rfl,hcl u3 (hkw.trans q2) _ q1,rfl,q1,hkw.trans q2⟩
 have hal:∀u o u',Kn (fun _=>False) w u->u'=World.alloc u o->Kn (fun _=>False) w u':=fun u o u' hu e=>by
  subst e;exact hu.alloc o
 have hK:=fun(u:World)=>key0_any (bs txt) u
 have HCH:=hide hch
 have HAL:=hide hal
 have HK:=hide hK
 have HV:=hide (Kn.drewF w)
 clear hch hal hK h hn n1 hnone hok
 generalize LkA ad ρ tb lb (s.name (ρ.get (0,txt)).isNone) w=Q at *
 generalize (ρ.get (0,txt)).isSome=iS at *
 generalize Kn (fun _=>False) w=V at *
 generalize bs txt=tx at *
 unfold ptrV at *
 obtain⟨⟨c1a,c2a⟩,_⟩:=HCH.out _ HV.out
 go_enter func115,ntmps115
 go_wp2_with fail
 go_region_held3 (fun w'=>w'.cell? ⟨lb,0,none⟩=some (.map (some tb))/\w'.cell? ⟨nb,1,none⟩=some (.string tx)) (with_reducible exact⟨c1a,c2a⟩)
  (first|(go_at_call 38;refine(HK.out _).mono ?_;rintro e u⟨rfl,hu⟩;have HV:=hide (HAL.out _ _ _ HV.out hu);have hz:=HCH.out _ HV.out;obtain⟨⟨c1a,c2a⟩,hh⟩:=hz;have HH:=hide hh;clear hu hh)|(go_at_call 134;refine(HH.out).mono ?_;rintro e u2⟨rfl,⟨c1a,c2a⟩,hr⟩;have HR:=hide hr;clear hr)|(go_at_call 133;refine(HR.out).mono ?_;rintro e u3⟨rfl,⟨c1a,c2a⟩,hq⟩;have HG:=hide hq;clear hq))
 all_goals
  go_wp2
  refine bodyPost_end (v:=.tuple #[]) (by simp[results,results115,go_sem]) rfl HG.out
theorem within1{x:Nm}{ba:Nat}(hx:x.length<=100000000)(h:LkAt ad ρ tb lb s w){u:World}(hu:Kn (fun _=>False) w u)
  (hE:∀u,Kn (fun k=>k=tb\/k=lb) w u->LkAt ad (((0,x),Mg.zero)::ρ) tb lb s u->Calls prog 115 #[ptrV lb,ptrV ba] u (LkA ad (((0,x),Mg.zero)::ρ) tb lb s' u)) :
  Calls prog 114 #[ptrV lb,ptrV ba,.slice (some ⟨u.heap.size,0,none⟩) 1 1] (u.alloc (.cells #[.string (bs x)] tyStr)).drew (LkA ad ρ tb lb s' w):=by
 have hu1:Kn (fun _=>False) w (u.alloc (.cells #[.string (bs x)] tyStr)).drew:=(hu.alloc _).drew
 have hr:(u.alloc (.cells #[.string (bs x)] tyStr)).drew.ownsRow 0 tyStr 1 (.slice (some ⟨u.heap.size,0,none⟩) 1 1) [x].length ([x].map strV):=
  ⟨rfl,inr ⟨u.heap.size,1,#[.string (bs x)],rfl,zero_le _,(MapKept.heap_alloc u _).1,le_refl _,by decide,rfl,rfl⟩⟩
 refine(withinLook_of (vs:=[x]) hr (fun y hy=>by rw[mem_singleton.1 hy];exact⟨show 0<3 by decide,hx⟩) (h.stays hu1) (s':=s') fun u2 hk hl=>?_).mono fun e w2 ha=>⟨ha.1,ha.2.1,(hu1.wide fun _ _ h=>h.elim).trans ha.2.2⟩
 exact hE u2 ((hu1.wide fun _ _ h=>h.elim).trans hk) hl
theorem LkAt.pt(h:LkAt ad ρ tb lb s w)(hk:Kn (fun k=>k=tb\/k=lb) w w'){k g cap:Nat}{bl:List Nat}(hp:PtAt nb k txt g cap bl w):PtAt nb k txt g cap bl w':=by
 obtain⟨cs,h1,h2⟩:=hp.row
 refine⟨?_,cs,?_,h2⟩
 ·rw[hk.block nb (lt_of_heap hp.node) (h.not hp.node (by decide))];exact hp.node
 ·rw[hk.block g (lt_of_heap h1) (h.not h1 (by decide))];exact h1
theorem lookE_fun{g cap ba:Nat}(hx:txt.length<=100000000)(h:LkAt ad ρ tb lb s w)(hp:PtAt nb 5 txt g cap [ba] w)
  (hE:∀u,Kn (fun k=>k=tb\/k=lb) w u->LkAt ad (((0,txt),Mg.zero)::ρ) tb lb s u->Calls prog 115 #[ptrV lb,ptrV ba] u (LkA ad (((0,txt),Mg.zero)::ρ) tb lb s' u)) :
  Calls prog 115 #[ptrV lb,ptrV nb] w (LkA ad ρ tb lb s' w):=by
 obtain⟨c0,c1,c2,c3⟩:=hp.cells
 have c3:=c3 0 ba rfl
 have hcl:∀u,Kn (fun k=>k=tb\/k=lb) w u->u.cell? ⟨nb,1,none⟩=some (.string (bs txt))/\u.cell? ⟨nb,2,none⟩=some (.slice (some ⟨g,0,none⟩) 1 cap)/\u.cell? ⟨g,0,none⟩=some (ptrV ba):=fun u hu=>by
  obtain⟨_,c1,c2,c3⟩:=(h.pt hu hp).cells
  exact⟨c1,c2,c3 0 ba rfl⟩
 have hw:Calls prog 114 #[ptrV lb,ptrV ba,.slice (some ⟨w.heap.size,0,none⟩) 1 1] (w.alloc (.cells #[.string (bs txt)] tyStr)).drew fun e u=>e=.returned (.tuple #[])/\(u.cell? ⟨nb,1,none⟩=some (.string (bs txt))/\u.cell? ⟨nb,2,none⟩=some (.slice (some ⟨g,0,none⟩) 1 cap)/\u.cell? ⟨g,0,none⟩=some (ptrV ba))/\LkA ad ρ tb lb s' w (.returned (.tuple #[])) u:=(within1 hx h (Kn.refl _ w) hE).mono fun e u ha=>by
  obtain⟨rfl,a2,a3⟩:=ha
  exact⟨rfl,hcl u a3,rfl,a2,a3⟩
 have ha1:∀o,(World.alloc w o).drew.cell? ⟨nb,1,none⟩=some (.string (bs txt))/\(World.alloc w o).drew.cell? ⟨nb,2,none⟩=some (.slice (some ⟨g,0,none⟩) 1 cap)/\(World.alloc w o).drew.cell? ⟨g,0,none⟩=some (ptrV ba):=fun o=>hcl _ ((Kn.refl _ w).alloc o).drew
 obtain⟨c1a,c2a,c3a⟩:=hcl _ (Kn.refl _ w).drew
 have HW:=hide hw
 have HA1:=hide ha1
 clear hw hcl ha1 h hE hp c3
 generalize LkA ad ρ tb lb s' w=Q at *
 generalize bs txt=tx at *
 unfold ptrV at *
 go_enter func115,ntmps115
 go_wp2_with fail
 go_region_held3 (fun w'=>w'.cell? ⟨nb,1,none⟩=some (.string tx)/\w'.cell? ⟨nb,2,none⟩=some (.slice (some ⟨g,0,none⟩) 1 cap)/\w'.cell? ⟨g,0,none⟩=some (.pointer (some ⟨ba,0,none⟩)))
  (first|with_reducible exact⟨c1a,c2a,c3a⟩|with_reducible exact HA1.out _)
  (first|(go_at_call 114;refine(HW.out).mono ?_;rintro e u6⟨rfl,⟨c1a,c2a,c3a⟩,hq⟩;have HG:=hide hq;clear hq))
 all_goals
  go_wp2
  refine bodyPost_end (v:=.tuple #[]) (by simp[results,results115,go_sem]) rfl HG.out
theorem lookE_let{g cap ba bb:Nat}{s1:Lk}(hx:txt.length<=100000000)(h:LkAt ad ρ tb lb s w)(hp:PtAt nb 6 txt g cap [ba,bb] w)
  (hA:∀u,Kn (fun k=>k=tb\/k=lb) w u->LkAt ad ρ tb lb s u->Calls prog 115 #[ptrV lb,ptrV ba] u (LkA ad ρ tb lb s1 u))
  (hE:∀u,Kn (fun k=>k=tb\/k=lb) w u->LkAt ad (((0,txt),Mg.zero)::ρ) tb lb s1 u->Calls prog 115 #[ptrV lb,ptrV bb] u (LkA ad (((0,txt),Mg.zero)::ρ) tb lb s' u)) :
  Calls prog 115 #[ptrV lb,ptrV nb] w (LkA ad ρ tb lb s' w):=by
 obtain⟨c0,c1,c2,c3⟩:=hp.cells
 have c4:=c3 1 bb rfl
 have c3:=c3 0 ba rfl
 have hcl:∀u,Kn (fun k=>k=tb\/k=lb) w u->u.cell? ⟨nb,1,none⟩=some (.string (bs txt))/\u.cell? ⟨nb,2,none⟩=some (.slice (some ⟨g,0,none⟩) 2 cap)/\u.cell? ⟨g,0,none⟩=some (ptrV ba)/\u.cell? ⟨g,1,none⟩=some (ptrV bb):=fun u hu=>by
  obtain⟨_,c1,c2,c3⟩:=(h.pt hu hp).cells
  exact⟨c1,c2,c3 0 ba rfl,c3 1 bb rfl⟩
 have hch:∀u,Kn (fun _=>False) w u->Calls prog 115 #[ptrV lb,ptrV ba] u fun e u1=>e=.returned (.tuple #[])/\(∀u2,Kn (fun _=>False) u1 u2->(u2.cell? ⟨nb,1,none⟩=some (.string (bs txt))/\u2.cell? ⟨nb,2,none⟩=some (.slice (some ⟨g,0,none⟩) 2 cap)/\u2.cell? ⟨g,0,none⟩=some (ptrV ba)/\u2.cell? ⟨g,1,none⟩=some (ptrV bb)))/\Calls prog 114 #[ptrV lb,ptrV bb,.slice (some ⟨u1.heap.size,0,none⟩) 1 1] (u1.alloc (.cells #[.string (bs txt)] tyStr)).drew fun e u=>e=.returned (.tuple #[])/\(u.cell? ⟨nb,1,none⟩=some (.string (bs txt))/\u.cell? ⟨nb,2,none⟩=some (.slice (some ⟨g,0,none⟩) 2 cap)/\u.cell? ⟨g,0,none⟩=some (ptrV ba)/\u.cell? ⟨g,1,none⟩=some (ptrV bb))/\LkA ad ρ tb lb s' w (.returned (.tuple #[])) u:=fun u hu=>by
  have hkw:Kn (fun k=>k=tb\/k=lb) w u:=hu.wide fun _ _ h=>h.elim
  refine(hA u hkw (h.stays hu)).mono fun e u1 ha=>?_
  obtain⟨rfl,a2,a3⟩:=ha
  have hk1:=hkw.trans a3
  refine⟨rfl,fun u2 h2=>hcl u2 (hk1.trans (h2.wide fun _ _ h=>h.elim)),?_⟩
  refine(within1 hx a2 (Kn.refl _ u1) (s':=s') fun u3 h3 l3=>hE u3 (hk1.trans h3) l3).mono fun e u4 ha=>?_
  obtain⟨rfl,b2,b3⟩:=ha
  exact⟨rfl,hcl u4 (hk1.trans b3),rfl,b2,hk1.trans b3⟩
 obtain⟨c1a,c2a,c3a,c4a⟩:=hcl _ (Kn.refl _ w).drew
 have HCH:=hide hch
 have HV:=hide (Kn.refl (fun _=>False) w)
 have HVD:=hide (Kn.drewF w)
 have HD:=hide Kn.drewF
 have ha1:∀(w:World) o,Kn (fun _=>False) w (World.alloc w o).drew:=fun w o=>((Kn.refl _ w).alloc o).drew
 have HA1:=hide ha1
 clear hch hcl h hA hE hp
 generalize LkA ad ρ tb lb s' w=Q at *
 generalize bs txt=tx at *
 unfold ptrV at *
 go_enter func115,ntmps115
 go_wp2_with fail
 refine(HCH.out _ HV.out).mono ?_;rintro e u1⟨rfl,hc,hw⟩
 have HW:=hide hw
 have HC:=hide hc
 have hz:=HC.out _ (HD.out u1)
 obtain⟨c1a,c2a,c3a,c4a⟩:=hz
 clear hc hw HCH
 go_wp2_with fail
 go_region_held3 (fun w'=>w'.cell? ⟨nb,1,none⟩=some (.string tx)/\w'.cell? ⟨nb,2,none⟩=some (.slice (some ⟨g,0,none⟩) 2 cap)/\w'.cell? ⟨g,0,none⟩=some (.pointer (some ⟨ba,0,none⟩))/\w'.cell? ⟨g,1,none⟩=some (.pointer (some ⟨bb,0,none⟩)))
  (first|with_reducible exact⟨c1a,c2a,c3a,c4a⟩|with_reducible exact HC.out _ (HA1.out _ _))
  (first|(go_at_call 114;refine(HW.out).mono ?_;rintro e u6⟨rfl,⟨c1a,c2a,c3a,c4a⟩,hq⟩;have HG:=hide hq;clear hq))
 all_goals
  go_wp2
  refine bodyPost_end (v:=.tuple #[]) (by simp[results,results115,go_sem]) rfl HG.out
end
section
variable {ad:List Nat}{ρ:Env}{tb lb:Nat}{s s':Lk}{w w':World}{nb:Nat}{txt:Nm}
theorem lookE_rec{g cap ba bb:Nat}{s1:Lk}(hx:txt.length<=100000000)(h:LkAt ad ρ tb lb s w)(hp:PtAt nb 7 txt g cap [ba,bb] w)
  (hA:∀u,Kn (fun k=>k=tb\/k=lb) w u->LkAt ad (((0,txt),Mg.zero)::ρ) tb lb s u->Calls prog 115 #[ptrV lb,ptrV ba] u (LkA ad (((0,txt),Mg.zero)::ρ) tb lb s1 u))
  (hE:∀u,Kn (fun k=>k=tb\/k=lb) w u->LkAt ad (((0,txt),Mg.zero)::ρ) tb lb s1 u->Calls prog 115 #[ptrV lb,ptrV bb] u (LkA ad (((0,txt),Mg.zero)::ρ) tb lb s' u)) :
  Calls prog 115 #[ptrV lb,ptrV nb] w (LkA ad ρ tb lb s' w):=by
 obtain⟨c0,c1,c2,c3⟩:=hp.cells
 have c4:=c3 1 bb rfl
 have c3:=c3 0 ba rfl
 have hcl:∀u,Kn (fun k=>k=tb\/k=lb) w u->u.cell? ⟨nb,1,none⟩=some (.string (bs txt))/\u.cell? ⟨nb,2,none⟩=some (.slice (some ⟨g,0,none⟩) 2 cap)/\u.cell? ⟨g,0,none⟩=some (ptrV ba)/\u.cell? ⟨g,1,none⟩=some (ptrV bb):=fun u hu=>by
  obtain⟨_,c1,c2,c3⟩:=(h.pt hu hp).cells
  exact⟨c1,c2,c3 0 ba rfl,c3 1 bb rfl⟩
 have hch:Calls prog 114 #[ptrV lb,ptrV ba,.slice (some ⟨w.heap.size,0,none⟩) 1 1] (w.alloc (.cells #[.string (bs txt)] tyStr)).drew fun e u1=>e=.returned (.tuple #[])/\(u1.cell? ⟨nb,1,none⟩=some (.string (bs txt))/\u1.cell? ⟨nb,2,none⟩=some (.slice (some ⟨g,0,none⟩) 2 cap)/\u1.cell? ⟨g,0,none⟩=some (ptrV ba)/\u1.cell? ⟨g,1,none⟩=some (ptrV bb))/\(∀u2,Kn (fun _=>False) u1 u2->(u2.cell? ⟨nb,1,none⟩=some (.string (bs txt))/\u2.cell? ⟨nb,2,none⟩=some (.slice (some ⟨g,0,none⟩) 2 cap)/\u2.cell? ⟨g,0,none⟩=some (ptrV ba)/\u2.cell? ⟨g,1,none⟩=some (ptrV bb)))/\Calls prog 114 #[ptrV lb,ptrV bb,.slice (some ⟨u1.heap.size,0,none⟩) 1 1] (u1.alloc (.cells #[.string (bs txt)] tyStr)).drew fun e u=>e=.returned (.tuple #[])/\(u.cell? ⟨nb,1,none⟩=some (.string (bs txt))/\u.cell? ⟨nb,2,none⟩=some (.slice (some ⟨g,0,none⟩) 2 cap)/\u.cell? ⟨g,0,none⟩=some (ptrV ba)/\u.cell? ⟨g,1,none⟩=some (ptrV bb))/\LkA ad ρ tb lb s' w (.returned (.tuple #[])) u:=by
  refine(within1 hx h (Kn.refl _ w) (s':=s1) hA).mono fun e u1 ha=>?_
  obtain⟨rfl,a2,hk1⟩:=ha
  refine⟨rfl,hcl u1 hk1,fun u2 h2=>hcl u2 (hk1.trans (h2.wide fun _ _ h=>h.elim)),?_⟩
  refine(within1 hx a2 (Kn.refl _ u1) (s':=s') fun u3 h3 l3=>hE u3 (hk1.trans h3) l3).mono fun e u4 ha=>?_
  obtain⟨rfl,b2,b3⟩:=ha
  exact⟨rfl,hcl u4 (hk1.trans b3),rfl,b2,hk1.trans b3⟩
 have hc0:∀u2,Kn (fun _=>False) w u2->(u2.cell? ⟨nb,1,none⟩=some (.string (bs txt))/\u2.cell? ⟨nb,2,none⟩=some (.slice (some ⟨g,0,none⟩) 2 cap)/\u2.cell? ⟨g,0,none⟩=some (ptrV ba)/\u2.cell? ⟨g,1,none⟩=some (ptrV bb)):=fun u2 h2=>hcl u2 (h2.wide fun _ _ h=>h.elim)
 obtain⟨c1a,c2a,c3a,c4a⟩:=hcl _ (Kn.refl _ w).drew
 have HCH:=hide hch
 have HC0:=hide hc0
 have HD:=hide Kn.drewF
 have ha1:∀(w:World) o,Kn (fun _=>False) w (World.alloc w o).drew:=fun w o=>((Kn.refl _ w).alloc o).drew
 have HA1:=hide ha1
 clear hch hcl h hA hE hp hc0
 generalize LkA ad ρ tb lb s' w=Q at *
 generalize bs txt=tx at *
 unfold ptrV at *
 go_enter func115,ntmps115
 go_wp2_with fail
 go_region_held3 (fun w'=>w'.cell? ⟨nb,1,none⟩=some (.string tx)/\w'.cell? ⟨nb,2,none⟩=some (.slice (some ⟨g,0,none⟩) 2 cap)/\w'.cell? ⟨g,0,none⟩=some (.pointer (some ⟨ba,0,none⟩))/\w'.cell? ⟨g,1,none⟩=some (.pointer (some ⟨bb,0,none⟩)))
  (first|with_reducible exact⟨c1a,c2a,c3a,c4a⟩|with_reducible exact HC0.out _ (HA1.out _ _))
  (first|(go_at_call 114;refine(HCH.out).mono ?_;rintro e u1⟨rfl,⟨c1a,c2a,c3a,c4a⟩,hc,hw⟩;have HW:=hide hw;have HC:=hide hc;clear hc hw))
 all_goals
  have hz:=HC.out _ (HD.out u1)
  clear HC0 HCH c1a c2a c3a c4a
  obtain⟨c1a,c2a,c3a,c4a⟩:=hz
  go_wp2_with fail
  go_region_held3 (fun w'=>w'.cell? ⟨nb,1,none⟩=some (.string tx)/\w'.cell? ⟨nb,2,none⟩=some (.slice (some ⟨g,0,none⟩) 2 cap)/\w'.cell? ⟨g,0,none⟩=some (.pointer (some ⟨ba,0,none⟩))/\w'.cell? ⟨g,1,none⟩=some (.pointer (some ⟨bb,0,none⟩)))
   (first|with_reducible exact⟨c1a,c2a,c3a,c4a⟩|with_reducible exact HC.out _ (HA1.out _ _))
   (first|(go_at_call 114;refine(HW.out).mono ?_;rintro e u6⟨rfl,⟨c1a,c2a,c3a,c4a⟩,hq⟩;have HG:=hide hq;clear hq))
  all_goals
   go_wp2
   refine bodyPost_end (v:=.tuple #[]) (by simp[results,results115,go_sem]) rfl HG.out
theorem lookE_row{ps:List Nd}(hn:NMem w (.mk 16 txt ps) nb)
  (hR:Calls prog 138 #[ptrV lb,ptrV nb] w (LkA ad ρ tb lb s' w)) :
  Calls prog 115 #[ptrV lb,ptrV nb] w (LkA ad ρ tb lb s' w):=by
 obtain⟨pv,bl,n1,_,_⟩:=hn.inv
 have c0:w.cell? ⟨nb,0,none⟩=some (.int .i64 (16:Nat)):=by simp[World.cell?,n1]
 have hr:=hR.mono (R':=fun e u=>e=.returned (.tuple #[])/\LkA ad ρ tb lb s' w (.returned (.tuple #[])) u) fun e u ha=>by
  obtain⟨rfl,a2,a3⟩:=ha
  exact⟨rfl,rfl,a2,a3⟩
 have HR:=hide hr
 clear hr hR hn n1
 generalize LkA ad ρ tb lb s' w=Q at *
 unfold ptrV at *
 go_enter func115,ntmps115
 go_wp2_with fail
 refine(HR.out).mono ?_;rintro e u6⟨rfl,hq⟩
 have HG:=hide hq
 clear hq
 go_wp2
 refine bodyPost_end (v:=.tuple #[]) (by simp[results,results115,go_sem]) rfl HG.out
theorem ps_facts{f:Nd->Lk->Lk}{k:Nat}{ps:List Nd}{w0:World}(h0:Kn (fun k=>k=tb\/k=lb) w0 w)(h:LkAt ad ρ tb lb s w)(hn:NMem w (.mk k txt ps) nb)
  (hE:∀p∈ps,∀(b:Nat)(s:Lk)(u:World),NMem u p b->LkAt ad ρ tb lb s u->Calls prog 115 #[ptrV lb,ptrV b] u (LkA ad ρ tb lb (f p s) u)) :
  ∃(a:Option Addr) (n c:Nat) (LP:Nat->World->Prop),w.cell? ⟨nb,2,none⟩=some (.slice a n c)/\n<=9223372036854775807/\Hid (LP 0 w) /\
   (∀i wr,LP i wr->i<n->∃g b,a=some ⟨g,0,none⟩/\wr.cell? ⟨g,i,none⟩=some (ptrV b)/\g<wr.heap.size /\
    Calls prog 115 #[ptrV lb,ptrV b] wr fun e u=>e=.returned (.tuple #[])/\Hid (LP (i+1) u)) /\
   ∀wr,LP n wr->LkA ad ρ tb lb (ps.foldl (fun s p=>f p s) s) w0 (.returned (.tuple #[])) wr:=by
 obtain⟨pv,bl,n1,n2,n3⟩:=hn.inv
 have hlen:=n3.len
 have hmx:=ownsRow_max n2
 have n2:=n2
 obtain⟨a,c,rfl,hav⟩:∃a c,pv=.slice a ps.length c/\(0<ps.length->∃g',a=some ⟨g',0,none⟩):=by
  rcases ownsRow_forms n2 with⟨h,h0⟩|⟨g,cap,h⟩
  ·exact⟨none,0,by rw[h,<- hlen,h0],fun h=>by omega⟩
  ·exact⟨_,cap,by rw[h,hlen],fun _=>⟨g,rfl⟩⟩
 refine⟨a,ps.length,c,fun i wr=>Kn (fun k=>k=tb\/k=lb) w wr/\LkAt ad ρ tb lb ((ps.take i).foldl (fun s p=>f p s) s) wr,by simp[World.cell?,n1],?_,hide ⟨Kn.refl _ _,by simpa using h⟩,?_,?_⟩
 ·rw[<- hlen];exact hmx
 ·rintro i wr⟨hk,hl⟩ hi
  have hv:ps[i]?=some ps[i]:=List.getElem?_eq_getElem hi
  have hmem:=List.mem_of_getElem? hv
  have htk:ps.take (i+1)=ps.take i++[ps[i]]:=by rw[List.take_add_one,hv];rfl
  generalize ps[i]=p at hv hmem htk
  obtain⟨b,hb,hmb⟩:=n3.at hv
  obtain⟨g,rfl⟩:=hav (by omega)
  rw[hlen]at n2
  have hrow:wr.ownsRow 0 tyTreeP 1 (.slice (some ⟨g,0,none⟩) ps.length c) ps.length (bl.map ptrV):=ownsRow_kept n2 fun q c f _ hc=>hk.block q (lt_of_heap hc) (h.not hc (by decide))
  refine⟨g,b,rfl,?_,(hrow.lt g rfl).2,?_⟩
  ·rw[hrow.cellAt i (by omega),List.getElem?_map,hb];rfl
  ·refine(hE p hmem b _ wr (h.tree hk hmb) hl).mono fun e u ha=>?_
   obtain⟨rfl,a2,a3⟩:=ha
   refine⟨rfl,hide ⟨hk.trans a3,?_⟩⟩
   rw[htk,List.foldl_append];exact a2
 ·rintro wr⟨hk,hl⟩
  rw[List.take_length]at hl
  exact⟨rfl,hl,h0.trans hk⟩
theorem lookE_parts{f:Nd->Lk->Lk}{k:Nat}{ps:List Nd}(hk3:k≠3)(hk5:k≠5)(hk6:k≠6)(hk7:k≠7)(hk14:k≠14)(hk16:k≠16)(h:LkAt ad ρ tb lb s w)(hn:NMem w (.mk k txt ps) nb)
  (hE:∀p∈ps,∀(b:Nat)(s:Lk)(u:World),NMem u p b->LkAt ad ρ tb lb s u->Calls prog 115 #[ptrV lb,ptrV b] u (LkA ad ρ tb lb (f p s) u)) :
  Calls prog 115 #[ptrV lb,ptrV nb] w (LkA ad ρ tb lb (ps.foldl (fun s p=>f p s) s) w):=by
 obtain⟨a,n,c,LP,c2,hmax,H0,hs,he⟩:=ps_facts (Kn.refl _ w) h hn hE
 obtain⟨pv,bl,n1,_,_⟩:=hn.inv
 have c0:w.cell? ⟨nb,0,none⟩=some (.int .i64 k):=by simp[World.cell?,n1]
 have e3:¬(k:Int)=3:=by omega
 have e5:¬(k:Int)=5:=by omega
 have e6:¬(k:Int)=6:=by omega
 have e7:¬(k:Int)=7:=by omega
 have e14:¬(k:Int)=14:=by omega
 have e16:¬(k:Int)=16:=by omega
 have b3:((k:Int)==3)=false:=by simp only[beq_eq_false_iff_ne,ne_eq];exact e3
 have b5:((k:Int)==5)=false:=by simp only[beq_eq_false_iff_ne,ne_eq];exact e5
 have b6:((k:Int)==6)=false:=by simp only[beq_eq_false_iff_ne,ne_eq];exact e6
 have b7:((k:Int)==7)=false:=by simp only[beq_eq_false_iff_ne,ne_eq];exact e7
 have b14:((k:Int)==14)=false:=by simp only[beq_eq_false_iff_ne,ne_eq];exact e14
 have b16:((k:Int)==16)=false:=by simp only[beq_eq_false_iff_ne,ne_eq];exact e16
 have HS:=hide hs
 have HE:=hide he
 clear hs he h hn hE n1 hk3 hk5 hk6 hk7 hk14 hk16
 generalize LkA ad ρ tb lb (ps.foldl (fun s p=>f p s) s) w=Q at *
 unfold ptrV at *
 go_enter func115,ntmps115
 go_wp2_with fail
 go_loopg [106] n (fun gk v wr=>∃i,v=.int .i64 (i:Nat)/\i+gk=n/\Hid (LP i wr))
 case atStart=>exact⟨0,rfl,by omega,H0⟩
 case round=>
  obtain⟨i,rfl,hi,HR⟩:=hrel
  clear H0
  by_cases hlt:i<n
  ·obtain⟨g,b,rfl,hcell,hgl,hc⟩:=HS.out i _ HR.out hlt
   have hlt3:(i:Int)<(n:Int):=by omega
   have HC:=hide hc
   clear hc HS HE HR
   go_wp2_with fail
   refine(HC.out).mono ?_;rintro e w2⟨rfl,HRN⟩
   go_wp2_with fail
   go_roundg (n-(i+1))
   case rel=>exact⟨i+1,by simp,by omega,HRN⟩
   case measure=>omega
  ·have hin:i=n:=by omega
   subst hin
   have hlt3:¬(i:Int)<(i:Int):=by omega
   have HG:=hide (HE.out _ HR.out)
   clear HS HE HR
   go_wp2
   refine bodyPost_end (v:=.tuple #[]) (by simp[results,results115,go_sem]) rfl HG.out
theorem lookE_con{f:Nd->Lk->Lk}{ps:List Nd}(hx:txt.length<=100000000)(h:LkAt ad ρ tb lb s w)(hn:NMem w (.mk 14 txt ps) nb)
  (hE:∀p∈ps,∀(b:Nat)(s:Lk)(u:World),NMem u p b->LkAt ad ρ tb lb s u->Calls prog 115 #[ptrV lb,ptrV b] u (LkA ad ρ tb lb (f p s) u)) :
  Calls prog 115 #[ptrV lb,ptrV nb] w (LkA ad ρ tb lb (ps.foldl (fun s p=>f p s) (lkCon ρ (.mk 14 txt ps) s)) w):=by
 obtain⟨pv,bl,n1,_,_⟩:=id hn.inv
 have c0:w.cell? ⟨nb,0,none⟩=some (.int .i64 (14:Nat)):=by simp[World.cell?,n1]
 have hcon:=(conLook_any hx h hn).mono (R':=fun e u=>e=.returned (.tuple #[])/\∃(a:Option Addr) (n c:Nat) (LP:Nat->World->Prop),u.cell? ⟨nb,2,none⟩=some (.slice a n c)/\n<=9223372036854775807/\Hid (LP 0 u) /\
   (∀i wr,LP i wr->i<n->∃g b,a=some ⟨g,0,none⟩/\wr.cell? ⟨g,i,none⟩=some (ptrV b)/\g<wr.heap.size /\
    Calls prog 115 #[ptrV lb,ptrV b] wr fun e u=>e=.returned (.tuple #[])/\Hid (LP (i+1) u)) /\
   ∀wr,LP n wr->LkA ad ρ tb lb (ps.foldl (fun s p=>f p s) (lkCon ρ (.mk 14 txt ps) s)) w (.returned (.tuple #[])) wr) fun e u ha=>by
  obtain⟨rfl,a2,a3⟩:=ha
  exact⟨rfl,ps_facts a3 a2 (h.tree a3 hn) hE⟩
 have HCN:=hide hcon
 clear hcon h hn hE n1
 generalize LkA ad ρ tb lb (ps.foldl (fun s p=>f p s) (lkCon ρ (.mk 14 txt ps) s)) w=Q at *
 unfold ptrV at *
 go_enter func115,ntmps115
 go_wp2_with fail
 refine(HCN.out).mono ?_;rintro e u⟨rfl,a,n,c,LP,c2,hmax,H0,hs,he⟩
 have HS:=hide hs
 have HE:=hide he
 clear hs he HCN
 go_wp2_with fail
 go_loopg [106] n (fun gk v wr=>∃i,v=.int .i64 (i:Nat)/\i+gk=n/\Hid (LP i wr))
 case atStart=>exact⟨0,rfl,by omega,H0⟩
 case round=>
  obtain⟨i,rfl,hi,HR⟩:=hrel
  clear H0
  by_cases hlt:i<n
  ·obtain⟨g,b,rfl,hcell,hgl,hc⟩:=HS.out i _ HR.out hlt
   have hlt3:(i:Int)<(n:Int):=by omega
   have HC:=hide hc
   clear hc HS HE HR
   go_wp2_with fail
   refine(HC.out).mono ?_;rintro e w2⟨rfl,HRN⟩
   go_wp2_with fail
   go_roundg (n-(i+1))
   case rel=>exact⟨i+1,by simp,by omega,HRN⟩
   case measure=>omega
  ·have hin:i=n:=by omega
   subst hin
   have hlt3:¬(i:Int)<(i:Int):=by omega
   have HG:=hide (HE.out _ HR.out)
   clear HS HE HR
   go_wp2
   refine bodyPost_end (v:=.tuple #[]) (by simp[results,results115,go_sem]) rfl HG.out
end
end Go.Proofs.YtcbppnefeonmgaaGreatDoor
