import Derived.RangeFuncNested
import Derived.RangeFuncBound
import Derived.RangeFuncCalls
import Derived.RangeFuncLeaves
import Derived.Shelf.Abstract
import Derived.Shelf.RegionOpen
import Derived.OwnWalkIn
import Derived.TacticsInMore
import Derived.LoopNIn
import Derived.LoopIn
import Derived.Lib.SlicesS
import Derived.RangeFuncBox
import Derived.RangeFuncFrom
import Derived.Maps.AppendAt
import Derived.Sort.OwnSorted
import Derived.Test.YtbkiipiocpnnnaaGreatDoorC30
import Derived.Deep.RegionHeldLaw
set_option linter.all false
set_option maxHeartbeats 40000000
set_option maxRecDepth 100000
open Go.Proofs.Tryz
open Or (inl inr)
open Nat (le_refl zero_le)
open List (length_append length_cons mem_cons_self mem_cons_of_mem mem_singleton mem_cons)
namespace Go.Proofs.YtbkiipiocpnnnaaGreatDoor
section
open Go.RowKit
section
variable {ad:List Nat}{ρ:Env}{tb lb:Nat}{s s':Lk}{w w':World}{nb:Nat}{txt:Nm}
theorem Tab.has(h:Tab ad tb ρ w){x:Ky}(hx:okK x):Calls prog 132 #[.map (some tb),.agg #[.int .i64 x.1,.string (bs x.2)]] w fun e w'=>e=.returned (.bool (ρ.get x).isSome)/\Kn (fun _=>False) w w':=by
 obtain⟨n,f,hm,hf,hsix⟩:=h.six
 refine(Has_any hm hx (fun v hv=>hsix _ hx v hv)).mono ?_
 rintro e w'⟨rfl,hb⟩
 refine⟨?_,Kn.of_below hb⟩
 rcases hf x hx with⟨h1,h2⟩|⟨m,v,h1,h2,_⟩
 ·rw[h1,h2];rfl
 ·rw[h1,h2];rfl
theorem lookE_var{ps:List Nd}(hx:txt.length<=100000000)(h:LkAt ad ρ tb lb s w)(hn:NMem w (.mk 3 txt ps) nb) :
  Calls prog 93 #[ptrV lb,ptrV nb] w (LkA ad ρ tb lb (s.name (ρ.get (0,txt)).isNone) w):=by
 obtain⟨pv,bl,n1,_,_⟩:=hn.inv
 have hok:okK (0,txt):=⟨show 0<3 by decide,hx⟩
 have c0:w.cell? ⟨nb,0,none⟩=some (.int .i64 (3:Nat)):=by simp[World.cell?,n1]
 have hnone:(!(ρ.get (0,txt)).isSome)=(ρ.get (0,txt)).isNone:=by cases ρ.get (0,txt)<;>rfl
 have hch:∀u,Kn (fun _=>False) w u->(u.cell? ⟨lb,0,none⟩=some (.map (some tb))/\u.cell? ⟨nb,1,none⟩=some (.string (bs txt)))/\Calls prog 132 #[.map (some tb),.agg #[.int .i64 (0:Nat),.string (bs txt)]] u fun e u2=>e=.returned (.bool (ρ.get (0,txt)).isSome)/\(u2.cell? ⟨lb,0,none⟩=some (.map (some tb))/\u2.cell? ⟨nb,1,none⟩=some (.string (bs txt)))/\Calls prog 131 #[ptrV lb,.bool (!(ρ.get (0,txt)).isSome)] u2 fun e u3=>e=.returned (.tuple #[])/\(u3.cell? ⟨lb,0,none⟩=some (.map (some tb))/\u3.cell? ⟨nb,1,none⟩=some (.string (bs txt)))/\LkA ad ρ tb lb (s.name (ρ.get (0,txt)).isNone) w (.returned (.tuple #[])) u3:=fun u hu=>by
  have hcl:∀u',Kn (fun k=>k=tb\/k=lb) w u'->∀s',LkAt ad ρ tb lb s' u'->u'.cell? ⟨lb,0,none⟩=some (.map (some tb))/\u'.cell? ⟨nb,1,none⟩=some (.string (bs txt)):=fun u' hk s' hl=>by
   have e1:u'.heap[nb]?=w.heap[nb]?:=hk.block nb (lt_of_heap n1) (h.not n1 (by decide))
   exact⟨by simp[World.cell?,hl.lk],by simp[World.cell?,e1,n1]⟩
  have hl:=h.stays hu
  refine⟨hcl u (hu.wide fun _ _ h=>h.elim) s hl,(hl.tab.has hok).mono ?_⟩
  rintro e u2⟨rfl,hk2⟩
  have hl2:=hl.stays hk2
  have hkw:Kn (fun k=>k=tb\/k=lb) w u2:=(hu.trans hk2).wide fun _ _ h=>h.elim
  refine⟨rfl,hcl u2 hkw s hl2,(refuseName_any _ hl2).mono ?_⟩
  rintro e u3⟨rfl,q1,q2⟩
  rw[hnone]at q1
  exact⟨rfl,hcl u3 (hkw.trans q2) _ q1,rfl,q1,hkw.trans q2⟩
 have hal:∀u o u',Kn (fun _=>False) w u->u'=World.alloc u o->Kn (fun _=>False) w u':=fun u o u' hu e=>by
  subst e;exact hu.alloc o
 have hK:=fun(u:World)=>key0_any (bs txt) u
 have HCH:=hide hch
 have HAL:=hide hal
 have HK:=hide hK
 have HV:=hide (Kn.drewF w)
 clear hch hal hK h hn n1 hnone hok
 generalize LkA ad ρ tb lb (s.name (ρ.get (0,txt)).isNone) w=Q at *
 generalize (ρ.get (0,txt)).isSome=iS at *
 generalize Kn (fun _=>False) w=V at *
 generalize bs txt=tx at *
 unfold ptrV at *
 obtain⟨⟨c1a,c2a⟩,_⟩:=HCH.out _ HV.out
 go_enter func93,ntmps93
 go_wp2_with fail
 go_region_held3 (fun w'=>w'.cell? ⟨lb,0,none⟩=some (.map (some tb))/\w'.cell? ⟨nb,1,none⟩=some (.string tx)) (with_reducible exact⟨c1a,c2a⟩)
  (first|(go_at_call 25;refine(HK.out _).mono ?_;rintro e u⟨rfl,hu⟩;have HV:=hide (HAL.out _ _ _ HV.out hu);have hz:=HCH.out _ HV.out;obtain⟨⟨c1a,c2a⟩,hh⟩:=hz;have HH:=hide hh;clear hu hh)|(go_at_call 132;refine(HH.out).mono ?_;rintro e u2⟨rfl,⟨c1a,c2a⟩,hr⟩;have HR:=hide hr;clear hr)|(go_at_call 131;refine(HR.out).mono ?_;rintro e u3⟨rfl,⟨c1a,c2a⟩,hq⟩;have HG:=hide hq;clear hq))
 all_goals
  go_wp2
  refine bodyPost_end (v:=.tuple #[]) (by simp[results,results93,go_sem]) rfl HG.out
theorem within1{x:Nm}{ba:Nat}(hx:x.length<=100000000)(h:LkAt ad ρ tb lb s w){u:World}(hu:Kn (fun _=>False) w u)
  (hE:∀u,Kn (fun k=>k=tb\/k=lb) w u->LkAt ad (((0,x),Mg.zero)::ρ) tb lb s u->Calls prog 93 #[ptrV lb,ptrV ba] u (LkA ad (((0,x),Mg.zero)::ρ) tb lb s' u)) :
  Calls prog 92 #[ptrV lb,ptrV ba,.slice (some ⟨u.heap.size,0,none⟩) 1 1] (u.alloc (.cells #[.string (bs x)] tyStr)).drew (LkA ad ρ tb lb s' w):=by
 have hu1:Kn (fun _=>False) w (u.alloc (.cells #[.string (bs x)] tyStr)).drew:=(hu.alloc _).drew
 have hr:(u.alloc (.cells #[.string (bs x)] tyStr)).drew.ownsRow 0 tyStr 1 (.slice (some ⟨u.heap.size,0,none⟩) 1 1) [x].length ([x].map strV):=
  ⟨rfl,inr ⟨u.heap.size,1,#[.string (bs x)],rfl,zero_le _,(MapKept.heap_alloc u _).1,le_refl _,by decide,rfl,rfl⟩⟩
 refine(withinLook_of (vs:=[x]) hr (fun y hy=>by rw[mem_singleton.1 hy];exact⟨show 0<3 by decide,hx⟩) (h.stays hu1) (s':=s') fun u2 hk hl=>?_).mono fun e w2 ha=>⟨ha.1,ha.2.1,(hu1.wide fun _ _ h=>h.elim).trans ha.2.2⟩
 exact hE u2 ((hu1.wide fun _ _ h=>h.elim).trans hk) hl
theorem LkAt.pt(h:LkAt ad ρ tb lb s w)(hk:Kn (fun k=>k=tb\/k=lb) w w'){k g cap:Nat}{bl:List Nat}(hp:PtAt nb k txt g cap bl w):PtAt nb k txt g cap bl w':=by
 obtain⟨cs,h1,h2⟩:=hp.row
 refine⟨?_,cs,?_,h2⟩
 ·rw[hk.block nb (lt_of_heap hp.node) (h.not hp.node (by decide))];exact hp.node
 ·rw[hk.block g (lt_of_heap h1) (h.not h1 (by decide))];exact h1
theorem lookE_fun{g cap ba:Nat}(hx:txt.length<=100000000)(h:LkAt ad ρ tb lb s w)(hp:PtAt nb 5 txt g cap [ba] w)
  (hE:∀u,Kn (fun k=>k=tb\/k=lb) w u->LkAt ad (((0,txt),Mg.zero)::ρ) tb lb s u->Calls prog 93 #[ptrV lb,ptrV ba] u (LkA ad (((0,txt),Mg.zero)::ρ) tb lb s' u)) :
  Calls prog 93 #[ptrV lb,ptrV nb] w (LkA ad ρ tb lb s' w):=by
 obtain⟨c0,c1,c2,c3⟩:=hp.cells
 have c3:=c3 0 ba rfl
 have hcl:∀u,Kn (fun k=>k=tb\/k=lb) w u->u.cell? ⟨nb,1,none⟩=some (.string (bs txt))/\u.cell? ⟨nb,2,none⟩=some (.slice (some ⟨g,0,none⟩) 1 cap)/\u.cell? ⟨g,0,none⟩=some (ptrV ba):=fun u hu=>by
  obtain⟨_,c1,c2,c3⟩:=(h.pt hu hp).cells
  exact⟨c1,c2,c3 0 ba rfl⟩
 have hw:Calls prog 92 #[ptrV lb,ptrV ba,.slice (some ⟨w.heap.size,0,none⟩) 1 1] (w.alloc (.cells #[.string (bs txt)] tyStr)).drew fun e u=>e=.returned (.tuple #[])/\(u.cell? ⟨nb,1,none⟩=some (.string (bs txt))/\u.cell? ⟨nb,2,none⟩=some (.slice (some ⟨g,0,none⟩) 1 cap)/\u.cell? ⟨g,0,none⟩=some (ptrV ba))/\LkA ad ρ tb lb s' w (.returned (.tuple #[])) u:=(within1 hx h (Kn.refl _ w) hE).mono fun e u ha=>by
  obtain⟨rfl,a2,a3⟩:=ha
  exact⟨rfl,hcl u a3,rfl,a2,a3⟩
 have ha1:∀o,(World.alloc w o).drew.cell? ⟨nb,1,none⟩=some (.string (bs txt))/\(World.alloc w o).drew.cell? ⟨nb,2,none⟩=some (.slice (some ⟨g,0,none⟩) 1 cap)/\(World.alloc w o).drew.cell? ⟨g,0,none⟩=some (ptrV ba):=fun o=>hcl _ ((Kn.refl _ w).alloc o).drew
 obtain⟨c1a,c2a,c3a⟩:=hcl _ (Kn.refl _ w).drew
 have HW:=hide hw
 have HA1:=hide ha1
 clear hw hcl ha1 h hE hp c3
 generalize LkA ad ρ tb lb s' w=Q at *
 generalize bs txt=tx at *
 unfold ptrV at *
 go_enter func93,ntmps93
 go_wp2_with fail
 go_region_held3 (fun w'=>w'.cell? ⟨nb,1,none⟩=some (.string tx)/\w'.cell? ⟨nb,2,none⟩=some (.slice (some ⟨g,0,none⟩) 1 cap)/\w'.cell? ⟨g,0,none⟩=some (.pointer (some ⟨ba,0,none⟩)))
  (first|with_reducible exact⟨c1a,c2a,c3a⟩|with_reducible exact HA1.out _)
  (first|(go_at_call 92;refine(HW.out).mono ?_;rintro e u6⟨rfl,⟨c1a,c2a,c3a⟩,hq⟩;have HG:=hide hq;clear hq))
 all_goals
  go_wp2
  refine bodyPost_end (v:=.tuple #[]) (by simp[results,results93,go_sem]) rfl HG.out
theorem lookE_let{g cap ba bb:Nat}{s1:Lk}(hx:txt.length<=100000000)(h:LkAt ad ρ tb lb s w)(hp:PtAt nb 6 txt g cap [ba,bb] w)
  (hA:∀u,Kn (fun k=>k=tb\/k=lb) w u->LkAt ad ρ tb lb s u->Calls prog 93 #[ptrV lb,ptrV ba] u (LkA ad ρ tb lb s1 u))
  (hE:∀u,Kn (fun k=>k=tb\/k=lb) w u->LkAt ad (((0,txt),Mg.zero)::ρ) tb lb s1 u->Calls prog 93 #[ptrV lb,ptrV bb] u (LkA ad (((0,txt),Mg.zero)::ρ) tb lb s' u)) :
  Calls prog 93 #[ptrV lb,ptrV nb] w (LkA ad ρ tb lb s' w):=by
 obtain⟨c0,c1,c2,c3⟩:=hp.cells
 have c4:=c3 1 bb rfl
 have c3:=c3 0 ba rfl
 have hcl:∀u,Kn (fun k=>k=tb\/k=lb) w u->u.cell? ⟨nb,1,none⟩=some (.string (bs txt))/\u.cell? ⟨nb,2,none⟩=some (.slice (some ⟨g,0,none⟩) 2 cap)/\u.cell? ⟨g,0,none⟩=some (ptrV ba)/\u.cell? ⟨g,1,none⟩=some (ptrV bb):=fun u hu=>by
  obtain⟨_,c1,c2,c3⟩:=(h.pt hu hp).cells
  exact⟨c1,c2,c3 0 ba rfl,c3 1 bb rfl⟩
 have hch:∀u,Kn (fun _=>False) w u->Calls prog 93 #[ptrV lb,ptrV ba] u fun e u1=>e=.returned (.tuple #[])/\(∀u2,Kn (fun _=>False) u1 u2->(u2.cell? ⟨nb,1,none⟩=some (.string (bs txt))/\u2.cell? ⟨nb,2,none⟩=some (.slice (some ⟨g,0,none⟩) 2 cap)/\u2.cell? ⟨g,0,none⟩=some (ptrV ba)/\u2.cell? ⟨g,1,none⟩=some (ptrV bb)))/\Calls prog 92 #[ptrV lb,ptrV bb,.slice (some ⟨u1.heap.size,0,none⟩) 1 1] (u1.alloc (.cells #[.string (bs txt)] tyStr)).drew fun e u=>e=.returned (.tuple #[])/\(u.cell? ⟨nb,1,none⟩=some (.string (bs txt))/\u.cell? ⟨nb,2,none⟩=some (.slice (some ⟨g,0,none⟩) 2 cap)/\u.cell? ⟨g,0,none⟩=some (ptrV ba)/\u.cell? ⟨g,1,none⟩=some (ptrV bb))/\LkA ad ρ tb lb s' w (.returned (.tuple #[])) u:=fun u hu=>by
  have hkw:Kn (fun k=>k=tb\/k=lb) w u:=hu.wide fun _ _ h=>h.elim
  refine(hA u hkw (h.stays hu)).mono fun e u1 ha=>?_
  obtain⟨rfl,a2,a3⟩:=ha
  have hk1:=hkw.trans a3
  refine⟨rfl,fun u2 h2=>hcl u2 (hk1.trans (h2.wide fun _ _ h=>h.elim)),?_⟩
  refine(within1 hx a2 (Kn.refl _ u1) (s':=s') fun u3 h3 l3=>hE u3 (hk1.trans h3) l3).mono fun e u4 ha=>?_
  obtain⟨rfl,b2,b3⟩:=ha
  exact⟨rfl,hcl u4 (hk1.trans b3),rfl,b2,hk1.trans b3⟩
 obtain⟨c1a,c2a,c3a,c4a⟩:=hcl _ (Kn.refl _ w).drew
 have HCH:=hide hch
 have HV:=hide (Kn.refl (fun _=>False) w)
 have HVD:=hide (Kn.drewF w)
 have HD:=hide Kn.drewF
 have ha1:∀(w:World) o,Kn (fun _=>False) w (World.alloc w o).drew:=fun w o=>((Kn.refl _ w).alloc o).drew
 have HA1:=hide ha1
 clear hch hcl h hA hE hp
 generalize LkA ad ρ tb lb s' w=Q at *
 generalize bs txt=tx at *
 unfold ptrV at *
 go_enter func93,ntmps93
 go_wp2_with fail
 refine(HCH.out _ HV.out).mono ?_;rintro e u1⟨rfl,hc,hw⟩
 have HW:=hide hw
 have HC:=hide hc
 have hz:=HC.out _ (HD.out u1)
 obtain⟨c1a,c2a,c3a,c4a⟩:=hz
 clear hc hw HCH
 go_wp2_with fail
 go_region_held3 (fun w'=>w'.cell? ⟨nb,1,none⟩=some (.string tx)/\w'.cell? ⟨nb,2,none⟩=some (.slice (some ⟨g,0,none⟩) 2 cap)/\w'.cell? ⟨g,0,none⟩=some (.pointer (some ⟨ba,0,none⟩))/\w'.cell? ⟨g,1,none⟩=some (.pointer (some ⟨bb,0,none⟩)))
  (first|with_reducible exact⟨c1a,c2a,c3a,c4a⟩|with_reducible exact HC.out _ (HA1.out _ _))
  (first|(go_at_call 92;refine(HW.out).mono ?_;rintro e u6⟨rfl,⟨c1a,c2a,c3a,c4a⟩,hq⟩;have HG:=hide hq;clear hq))
 all_goals
  go_wp2
  refine bodyPost_end (v:=.tuple #[]) (by simp[results,results93,go_sem]) rfl HG.out
end
end
section
open Go.RowKit
section
variable {ad:List Nat}{ρ:Env}{tb lb:Nat}{s s':Lk}{w w':World}{nb:Nat}{txt:Nm}
theorem lookE_rec{g cap ba bb:Nat}{s1:Lk}(hx:txt.length<=100000000)(h:LkAt ad ρ tb lb s w)(hp:PtAt nb 7 txt g cap [ba,bb] w)
  (hA:∀u,Kn (fun k=>k=tb\/k=lb) w u->LkAt ad (((0,txt),Mg.zero)::ρ) tb lb s u->Calls prog 93 #[ptrV lb,ptrV ba] u (LkA ad (((0,txt),Mg.zero)::ρ) tb lb s1 u))
  (hE:∀u,Kn (fun k=>k=tb\/k=lb) w u->LkAt ad (((0,txt),Mg.zero)::ρ) tb lb s1 u->Calls prog 93 #[ptrV lb,ptrV bb] u (LkA ad (((0,txt),Mg.zero)::ρ) tb lb s' u)) :
  Calls prog 93 #[ptrV lb,ptrV nb] w (LkA ad ρ tb lb s' w):=by
 obtain⟨c0,c1,c2,c3⟩:=hp.cells
 have c4:=c3 1 bb rfl
 have c3:=c3 0 ba rfl
 have hcl:∀u,Kn (fun k=>k=tb\/k=lb) w u->u.cell? ⟨nb,1,none⟩=some (.string (bs txt))/\u.cell? ⟨nb,2,none⟩=some (.slice (some ⟨g,0,none⟩) 2 cap)/\u.cell? ⟨g,0,none⟩=some (ptrV ba)/\u.cell? ⟨g,1,none⟩=some (ptrV bb):=fun u hu=>by
  obtain⟨_,c1,c2,c3⟩:=(h.pt hu hp).cells
  exact⟨c1,c2,c3 0 ba rfl,c3 1 bb rfl⟩
 have hch:Calls prog 92 #[ptrV lb,ptrV ba,.slice (some ⟨w.heap.size,0,none⟩) 1 1] (w.alloc (.cells #[.string (bs txt)] tyStr)).drew fun e u1=>e=.returned (.tuple #[])/\(u1.cell? ⟨nb,1,none⟩=some (.string (bs txt))/\u1.cell? ⟨nb,2,none⟩=some (.slice (some ⟨g,0,none⟩) 2 cap)/\u1.cell? ⟨g,0,none⟩=some (ptrV ba)/\u1.cell? ⟨g,1,none⟩=some (ptrV bb))/\(∀u2,Kn (fun _=>False) u1 u2->(u2.cell? ⟨nb,1,none⟩=some (.string (bs txt))/\u2.cell? ⟨nb,2,none⟩=some (.slice (some ⟨g,0,none⟩) 2 cap)/\u2.cell? ⟨g,0,none⟩=some (ptrV ba)/\u2.cell? ⟨g,1,none⟩=some (ptrV bb)))/\Calls prog 92 #[ptrV lb,ptrV bb,.slice (some ⟨u1.heap.size,0,none⟩) 1 1] (u1.alloc (.cells #[.string (bs txt)] tyStr)).drew fun e u=>e=.returned (.tuple #[])/\(u.cell? ⟨nb,1,none⟩=some (.string (bs txt))/\u.cell? ⟨nb,2,none⟩=some (.slice (some ⟨g,0,none⟩) 2 cap)/\u.cell? ⟨g,0,none⟩=some (ptrV ba)/\u.cell? ⟨g,1,none⟩=some (ptrV bb))/\LkA ad ρ tb lb s' w (.returned (.tuple #[])) u:=by
  refine(within1 hx h (Kn.refl _ w) (s':=s1) hA).mono fun e u1 ha=>?_
  obtain⟨rfl,a2,hk1⟩:=ha
  refine⟨rfl,hcl u1 hk1,fun u2 h2=>hcl u2 (hk1.trans (h2.wide fun _ _ h=>h.elim)),?_⟩
  refine(within1 hx a2 (Kn.refl _ u1) (s':=s') fun u3 h3 l3=>hE u3 (hk1.trans h3) l3).mono fun e u4 ha=>?_
  obtain⟨rfl,b2,b3⟩:=ha
  exact⟨rfl,hcl u4 (hk1.trans b3),rfl,b2,hk1.trans b3⟩
 have hc0:∀u2,Kn (fun _=>False) w u2->(u2.cell? ⟨nb,1,none⟩=some (.string (bs txt))/\u2.cell? ⟨nb,2,none⟩=some (.slice (some ⟨g,0,none⟩) 2 cap)/\u2.cell? ⟨g,0,none⟩=some (ptrV ba)/\u2.cell? ⟨g,1,none⟩=some (ptrV bb)):=fun u2 h2=>hcl u2 (h2.wide fun _ _ h=>h.elim)
 obtain⟨c1a,c2a,c3a,c4a⟩:=hcl _ (Kn.refl _ w).drew
 have HCH:=hide hch
 have HC0:=hide hc0
 have HD:=hide Kn.drewF
 have ha1:∀(w:World) o,Kn (fun _=>False) w (World.alloc w o).drew:=fun w o=>((Kn.refl _ w).alloc o).drew
 have HA1:=hide ha1
 clear hch hcl h hA hE hp hc0
 generalize LkA ad ρ tb lb s' w=Q at *
 generalize bs txt=tx at *
 unfold ptrV at *
 go_enter func93,ntmps93
 go_wp2_with fail
 go_region_held3 (fun w'=>w'.cell? ⟨nb,1,none⟩=some (.string tx)/\w'.cell? ⟨nb,2,none⟩=some (.slice (some ⟨g,0,none⟩) 2 cap)/\w'.cell? ⟨g,0,none⟩=some (.pointer (some ⟨ba,0,none⟩))/\w'.cell? ⟨g,1,none⟩=some (.pointer (some ⟨bb,0,none⟩)))
  (first|with_reducible exact⟨c1a,c2a,c3a,c4a⟩|with_reducible exact HC0.out _ (HA1.out _ _))
  (first|(go_at_call 92;refine(HCH.out).mono ?_;rintro e u1⟨rfl,⟨c1a,c2a,c3a,c4a⟩,hc,hw⟩;have HW:=hide hw;have HC:=hide hc;clear hc hw))
 all_goals
  have hz:=HC.out _ (HD.out u1)
  clear HC0 HCH c1a c2a c3a c4a
  obtain⟨c1a,c2a,c3a,c4a⟩:=hz
  go_wp2_with fail
  go_region_held3 (fun w'=>w'.cell? ⟨nb,1,none⟩=some (.string tx)/\w'.cell? ⟨nb,2,none⟩=some (.slice (some ⟨g,0,none⟩) 2 cap)/\w'.cell? ⟨g,0,none⟩=some (.pointer (some ⟨ba,0,none⟩))/\w'.cell? ⟨g,1,none⟩=some (.pointer (some ⟨bb,0,none⟩)))
   (first|with_reducible exact⟨c1a,c2a,c3a,c4a⟩|with_reducible exact HC.out _ (HA1.out _ _))
   (first|(go_at_call 92;refine(HW.out).mono ?_;rintro e u6⟨rfl,⟨c1a,c2a,c3a,c4a⟩,hq⟩;have HG:=hide hq;clear hq))
  all_goals
   go_wp2
   refine bodyPost_end (v:=.tuple #[]) (by simp[results,results93,go_sem]) rfl HG.out
theorem ps_facts{f:Nd->Lk->Lk}{k:Nat}{ps:List Nd}{w0:World}(h0:Kn (fun k=>k=tb\/k=lb) w0 w)(h:LkAt ad ρ tb lb s w)(hn:NMem w (.mk k txt ps) nb)
  (hE:∀p∈ps,∀(b:Nat)(s:Lk)(u:World),NMem u p b->LkAt ad ρ tb lb s u->Calls prog 93 #[ptrV lb,ptrV b] u (LkA ad ρ tb lb (f p s) u)) :
  ∃(a:Option Addr) (n c:Nat) (LP:Nat->World->Prop),w.cell? ⟨nb,2,none⟩=some (.slice a n c)/\n<=9223372036854775807/\Hid (LP 0 w) /\
   (∀i wr,LP i wr->i<n->∃g b,a=some ⟨g,0,none⟩/\wr.cell? ⟨g,i,none⟩=some (ptrV b)/\g<wr.heap.size /\
    Calls prog 93 #[ptrV lb,ptrV b] wr fun e u=>e=.returned (.tuple #[])/\Hid (LP (i+1) u)) /\
   ∀wr,LP n wr->LkA ad ρ tb lb (ps.foldl (fun s p=>f p s) s) w0 (.returned (.tuple #[])) wr:=by
 obtain⟨pv,bl,n1,n2,n3⟩:=hn.inv
 have hlen:=n3.len
 have hmx:=ownsRow_max n2
 have n2:=n2
 obtain⟨a,c,rfl,hav⟩:∃a c,pv=.slice a ps.length c/\(0<ps.length->∃g',a=some ⟨g',0,none⟩):=by
  rcases ownsRow_forms n2 with⟨h,h0⟩|⟨g,cap,h⟩
  ·exact⟨none,0,by rw[h,<- hlen,h0],fun h=>by omega⟩
  ·exact⟨_,cap,by rw[h,hlen],fun _=>⟨g,rfl⟩⟩
 refine⟨a,ps.length,c,fun i wr=>Kn (fun k=>k=tb\/k=lb) w wr/\LkAt ad ρ tb lb ((ps.take i).foldl (fun s p=>f p s) s) wr,by simp[World.cell?,n1],?_,hide ⟨Kn.refl _ _,by simpa using h⟩,?_,?_⟩
 ·rw[<- hlen];exact hmx
 ·rintro i wr⟨hk,hl⟩ hi
  have hv:ps[i]?=some ps[i]:=List.getElem?_eq_getElem hi
  have hmem:=List.mem_of_getElem? hv
  have htk:ps.take (i+1)=ps.take i++[ps[i]]:=by rw[List.take_add_one,hv];rfl
  generalize ps[i]=p at hv hmem htk
  obtain⟨b,hb,hmb⟩:=n3.at hv
  obtain⟨g,rfl⟩:=hav (by omega)
  rw[hlen]at n2
  have hrow:wr.ownsRow 0 tyTreeP 1 (.slice (some ⟨g,0,none⟩) ps.length c) ps.length (bl.map ptrV):=ownsRow_kept n2 fun q c f _ hc=>hk.block q (lt_of_heap hc) (h.not hc (by decide))
  refine⟨g,b,rfl,?_,(hrow.lt g rfl).2,?_⟩
  ·rw[hrow.cellAt i (by omega),List.getElem?_map,hb];rfl
  ·refine(hE p hmem b _ wr (h.tree hk hmb) hl).mono fun e u ha=>?_
   obtain⟨rfl,a2,a3⟩:=ha
   refine⟨rfl,hide ⟨hk.trans a3,?_⟩⟩
   rw[htk,List.foldl_append];exact a2
 ·rintro wr⟨hk,hl⟩
  rw[List.take_length]at hl
  exact⟨rfl,hl,h0.trans hk⟩
theorem lookE_parts{f:Nd->Lk->Lk}{k:Nat}{ps:List Nd}(hk3:k≠3)(hk5:k≠5)(hk6:k≠6)(hk7:k≠7)(hk14:k≠14)(hk16:k≠16)(h:LkAt ad ρ tb lb s w)(hn:NMem w (.mk k txt ps) nb)
  (hE:∀p∈ps,∀(b:Nat)(s:Lk)(u:World),NMem u p b->LkAt ad ρ tb lb s u->Calls prog 93 #[ptrV lb,ptrV b] u (LkA ad ρ tb lb (f p s) u)) :
  Calls prog 93 #[ptrV lb,ptrV nb] w (LkA ad ρ tb lb (ps.foldl (fun s p=>f p s) s) w):=by
 obtain⟨a,n,c,LP,c2,hmax,H0,hs,he⟩:=ps_facts (Kn.refl _ w) h hn hE
 obtain⟨pv,bl,n1,_,_⟩:=hn.inv
 have c0:w.cell? ⟨nb,0,none⟩=some (.int .i64 k):=by simp[World.cell?,n1]
 have e3:¬(k:Int)=3:=by omega
 have e5:¬(k:Int)=5:=by omega
 have e6:¬(k:Int)=6:=by omega
 have e7:¬(k:Int)=7:=by omega
 have e14:¬(k:Int)=14:=by omega
 have e16:¬(k:Int)=16:=by omega
 have b3:((k:Int)==3)=false:=by simp only[beq_eq_false_iff_ne,ne_eq];exact e3
 have b5:((k:Int)==5)=false:=by simp only[beq_eq_false_iff_ne,ne_eq];exact e5
 have b6:((k:Int)==6)=false:=by simp only[beq_eq_false_iff_ne,ne_eq];exact e6
 have b7:((k:Int)==7)=false:=by simp only[beq_eq_false_iff_ne,ne_eq];exact e7
 have b14:((k:Int)==14)=false:=by simp only[beq_eq_false_iff_ne,ne_eq];exact e14
 have b16:((k:Int)==16)=false:=by simp only[beq_eq_false_iff_ne,ne_eq];exact e16
 have HS:=hide hs
 have HE:=hide he
 clear hs he h hn hE n1 hk3 hk5 hk6 hk7 hk14 hk16
 generalize LkA ad ρ tb lb (ps.foldl (fun s p=>f p s) s) w=Q at *
 unfold ptrV at *
 go_enter func93,ntmps93
 go_wp2_with fail
 go_loopg [106] n (fun gk v wr=>∃i,v=.int .i64 (i:Nat)/\i+gk=n/\Hid (LP i wr))
 case atStart=>exact⟨0,rfl,by omega,H0⟩
 case round=>
  obtain⟨i,rfl,hi,HR⟩:=hrel
  clear H0
  by_cases hlt:i<n
  ·obtain⟨g,b,rfl,hcell,hgl,hc⟩:=HS.out i _ HR.out hlt
   have hlt3:(i:Int)<(n:Int):=by omega
   have HC:=hide hc
   clear hc HS HE HR
   go_wp2_with fail
   refine(HC.out).mono ?_;rintro e w2⟨rfl,HRN⟩
   go_wp2_with fail
   go_roundg (n-(i+1))
   case rel=>exact⟨i+1,by simp,by omega,HRN⟩
   case measure=>omega
  ·have hin:i=n:=by omega
   subst hin
   have hlt3:¬(i:Int)<(i:Int):=by omega
   have HG:=hide (HE.out _ HR.out)
   clear HS HE HR
   go_wp2
   refine bodyPost_end (v:=.tuple #[]) (by simp[results,results93,go_sem]) rfl HG.out
end
end
section
open Go.RowKit Go.Shelf
section
attribute [local go_sem] Oper.semAt_some
variable {ad:List Nat}{ρ:Env}{tb lb:Nat}{s s':Lk}{w w':World}{nb:Nat}{txt:Nm}
def appS(ts:Array TypeId)(ty:TypeId)(args:Array Value):Sem Value:=Builtin.append_ ts ty args
theorem appS_of(ts:Array TypeId)(ty:TypeId)(args:Array Value):Builtin.append_ ts ty args=appS ts ty args:=rfl
attribute [local go_sem ↓] appS_of
end
end
section
open Go.RowKit
section
variable {ad:List Nat}{tb lb:Nat}
theorem WfN.own{k:Nat}{txt:Nm}{ps:List Nd}(h:WfN (.mk k txt ps)):shapeOk k ps/\txt.length<=100000000/\ps.length<=1000000:=h (.mk k txt ps) (by rw[Nd.all_eq];exact mem_cons_self)
theorem WfN.sub{k:Nat}{txt:Nm}{ps:List Nd}{p:Nd}(h:WfN (.mk k txt ps))(hp:p∈ps):WfN p:=fun x hx=>h x (by rw[Nd.all_eq];exact mem_cons_of_mem _ (alls_mem hp x hx))
theorem alls_len{p:Nd}:∀{ps:List Nd},p∈ps->p.all.length<=(Nd.all.alls ps).length:=by
 intro ps
 induction ps with
 |nil=>intro h;cases h
 |cons q r ih=>
  intro h
  rw[Nd.all.alls,length_append]
  rcases mem_cons.1 h with rfl|h
  ·omega
  ·have:=ih h;omega
theorem all_len{k:Nat}{txt:Nm}{ps:List Nd}{p:Nd}(hp:p∈ps){N:Nat}(h:(Nd.mk k txt ps).all.length<=N):p.all.length<=N:=by
 rw[Nd.all_eq,length_cons]at h
 have:=alls_len hp
 omega
theorem lkE_var(n:Nat)(ρ:Env)(txt:Nm)(ps:List Nd)(s:Lk):lkE (n+1) ρ (.mk 3 txt ps) s=s.name (ρ.get (0,txt)).isNone:=by rw[lkE]
theorem lkE_fun(n:Nat)(ρ:Env)(txt:Nm)(a:Nd)(s:Lk):lkE (n+1) ρ (.mk 5 txt [a]) s=lkE n (((0,txt),Mg.zero)::ρ) a s:=by rw[lkE]
theorem lkE_let(n:Nat)(ρ:Env)(txt:Nm)(a b:Nd)(s:Lk):lkE (n+1) ρ (.mk 6 txt [a,b]) s=lkE n (((0,txt),Mg.zero)::ρ) b (lkE n ρ a s):=by rw[lkE]
theorem lkE_rec(n:Nat)(ρ:Env)(txt:Nm)(a b:Nd)(s:Lk):lkE (n+1) ρ (.mk 7 txt [a,b]) s=lkE n (((0,txt),Mg.zero)::ρ) b (lkE n (((0,txt),Mg.zero)::ρ) a s):=by rw[lkE]
theorem lkE_parts(n:Nat)(ρ:Env)(k:Nat)(txt:Nm)(ps:List Nd)(s:Lk)(h3:k≠3)(h5:k≠5)(h6:k≠6)(h7:k≠7)(h14:k≠14)(h16:k≠16):lkE (n+1) ρ (.mk k txt ps) s=ps.foldl (fun s p=>lkE n ρ p s) s:=by
 rw[lkE]
 all_goals (intros;simp_all)
theorem list_one{ps:List Nd}(h:ps.length=1):∃a,ps=[a]:=List.length_eq_one_iff.1 h
theorem list_two{ps:List Nd}(h:ps.length=2):∃a b,ps=[a,b]:=by
 match ps,h with
 |[a,b],_=>exact⟨a,b,rfl⟩
end
end
section
open Go.RowKit
section
variable {ar:Nm->Nat}{tb yb:Nat}
variable {n m m2:Nat}{p:Nd}{ρ:Env}{d b:Nat}{Y:Nat->Prop}{ad:List Nat}{rk:Nat->Nat}{σ:TS}{gv:Value}{u w:World}{txt:Nm}{nb:Nat}
theorem form_anyC(ha:ArOk ar){nd:Nd}(hk:nd.k≠14/\nd.k≠15)(hI:∀p∈nd.ps,ExIH ar tb yb n p)(hm:nd.ht<m+1)(hm2:nd.ht<m2+1)(h1:NmOk (m+1) ρ nd)(h2:XSh (m2+1) nd)(h3:EnvB ar ρ)(h4:d+(n+1)<=1000000)(h5:NMem w nd nb)(h:YM ar ad Y rk σ ρ tb yb d gv w)(h7:σ.given.length+nd.sz<=100000000) :
  Calls prog 187 #[ptrV yb,ptrV nb] w (AnTy ar ad Y ρ tb yb d gv (formT (exT n) ρ d nd σ) w):=by
 obtain⟨k,txt,ps⟩:=nd
 obtain⟨pv,bl,n1,n2,n3⟩:=h5.inv
 have c0:w.cell? ⟨nb,0,none⟩=some (.int .i64 k):=by simp[World.cell?,n1]
 have c1:w.cell? ⟨nb,1,none⟩=some (.string (bs txt)):=by simp[World.cell?,n1]
 obtain⟨hx1,hx2,hx3⟩:=h2
 replace hI:∀p∈ps,ExIH ar tb yb n p:=hI
 replace hk:k≠14/\k≠15:=hk
 have hl:∀p∈ps,p.ht<m:=fun p hp=>Nd.ht_lt hp hm
 have hl2:∀p∈ps,p.ht<m2:=fun p hp=>Nd.ht_lt hp hm2
 replace h7:σ.given.length+(Nd.sz.szs ps+1)<=100000000:=h7
 have hok0:okK (0,txt):=⟨show 0<3 by decide,hx1⟩
 have hd:d+n<=1000000:=by omega
 have hgv:=exT_given n
 split at hx3
 ·exact form_plain0 ha.int h c0
 ·exact form_plain1 ha.bool h c0
 ·exact form_plain2 ha.unit h c0
 ·
  have h1:(ρ.get (0,txt)).isSome=true:=h1
  obtain⟨m',hg⟩:=Option.isSome_iff_exists.1 h1
  obtain⟨t,ht⟩:=h3.var _ _ hg
  have hf:formT (exT n) ρ d (.mk 3 txt ps) σ=(if σ.fits t then σ.inst d t else none):=by
   rw[show formT (exT n) ρ d (.mk 3 txt ps) σ=(match ((ρ.get (0,txt)).getD Mg.zero).scheme with|some t=>if σ.fits t then σ.inst d t else none|none=>none)from rfl,hg]
   show (match m'.scheme with|some t=>if σ.fits t then σ.inst d t else none|none=>none)=_
   rw[ht]
  rw[hf]
  exact form_variable c0 (variable_any ha.le h c1 hok0 hg ht)
 ·exact absurd rfl hk.1
 ·
  rename_i a
  obtain⟨g,cap,ba,hp,ma⟩:=pt1 h5
  rw[formT_fun]
  refine form_function c0 (function_of ha.arrow h hp fun u hk hy=>?_)
  exact(hI a (by simp)).inside (hl a (by simp)) (hl2 a (by simp)) h1 hx3 h3 hd (h.tree hk ma) hy (by show σ.given.length+_<=_;simp only[Nd.sz.szs]at h7;omega) (new_lt _ _) hok0
 ·
  rename_i a
  obtain⟨g,cap,ba,hp,ma⟩:=pt1 h5
  rw[formT_fetch]
  refine form_fetch ha.ref h hp fun u l hk hy=>?_
  exact(hI a (by simp)).want ha (hl a (by simp)) (hl2 a (by simp)) (NmOk.sub h1 (by simp) a (by simp)) hx3 h3 hd (h.tree hk ma) hy (by show σ.given.length+_<=_;simp only[Nd.sz.szs]at h7;omega) (by simp[TS.letter,TS.named,TS.new])
 ·
  rename_i a b
  obtain⟨g,cap,ba,bb,hp,ma,mb⟩:=pt2 h5
  obtain⟨h1a,h1b⟩:=(show NmOk m ρ a/\NmOk m (((0,txt),Mg.zero)::ρ) b from h1)
  simp only[Nd.sz.szs]at h7
  rw[formT_let]
  refine form_let h hp (bound_let (hI a (by simp)) (hl a (by simp)) (hl2 a (by simp)) h1a hx3.1 h3 h4 hp ma h (by omega)) fun u t σ' l rk' gv' hk ho ht hy=>?_
  have hq:σ'.given.length<=σ.given.length+a.sz:=by rw[<- boundT_let (txt:=txt)]at ho;exact boundT_given hgv ho
  exact(hI b (by simp)).inside (hl b (by simp)) (hl2 b (by simp)) h1b hx3.2 h3 hd (h.tree hk mb) hy (by omega) ht hok0
 ·
  rename_i a b
  obtain⟨g,cap,ba,bb,hp,ma,mb⟩:=pt2 h5
  obtain⟨h1a,h1b⟩:=(show NmOk m (((0,txt),Mg.zero)::ρ) a/\NmOk m (((0,txt),Mg.zero)::ρ) b from h1)
  simp only[Nd.sz.szs]at h7
  rw[formT_rec]
  refine form_rec h hp (bound_rec ha (hI a (by simp)) (hl a (by simp)) (hl2 a (by simp)) h1a hx3.1 h3 h4 hok0 hp ma h (by omega)) fun u t σ' l rk' gv' hk ho ht hy=>?_
  have hq:σ'.given.length<=σ.given.length+a.sz:=by rw[<- boundT_rec]at ho;exact boundT_given hgv ho
  exact(hI b (by simp)).inside (hl b (by simp)) (hl2 b (by simp)) h1b hx3.2 h3 hd (h.tree hk mb) hy (by omega) ht hok0
 ·
  rename_i a b
  obtain⟨g,cap,ba,bb,hp,ma,mb⟩:=pt2 h5
  have h1:=NmOk.sub h1 (by simp)
  simp only[Nd.sz.szs]at h7
  rw[formT_seq]
  refine form_seq ha.unit h hp (fun u hk hy=>?_) fun u σ' l rk' gv' hk ho hy=>?_
  ·exact(hI a (by simp)).want ha (hl a (by simp)) (hl2 a (by simp)) (h1 a (by simp)) hx3.1 h3 hd (h.tree hk ma) hy (by show σ.given.length+_<=_;omega) (new_lt _ _)
  ·have hq:=exX_given hgv ho
   have hq:σ'.given.length<=σ.given.length+a.sz:=hq
   exact hI b (by simp) m m2 (hl b (by simp)) (hl2 b (by simp)) ρ d bb Y (ad++l) rk' σ' gv' u (h1 b (by simp)) hx3.2 h3 hd (h.tree hk mb) hy (by omega)
 ·
  rename_i a b
  obtain⟨g,cap,ba,bb,hp,ma,mb⟩:=pt2 h5
  have h1:=NmOk.sub h1 (by simp)
  simp only[Nd.sz.szs]at h7
  rw[formT_set]
  refine form_set ha.le ha.unit ha.ref h hp (fun u hk hy=>?_) fun u t σ' l rk' gv' hk ho hy=>?_
  ·exact hI a (by simp) m m2 (hl a (by simp)) (hl2 a (by simp)) ρ d ba Y ad rk σ gv u (h1 a (by simp)) hx3.1 h3 hd (h.tree hk ma) hy (by omega)
  ·have hq:=hgv _ _ _ _ _ _ ho
   exact hI b (by simp) m m2 (hl b (by simp)) (hl2 b (by simp)) ρ d bb Y (ad++l) rk' σ' gv' u (h1 b (by simp)) hx3.2 h3 hd (h.tree hk mb) hy (by omega)
 ·
  rename_i a b
  obtain⟨g,cap,ba,bb,hp,ma,mb⟩:=pt2 h5
  have h1:=NmOk.sub h1 (by simp)
  simp only[Nd.sz.szs]at h7
  rw[formT_calc]
  refine form_calc (inr (inl rfl)) c0 (calculation_of ha.int ha.bool h hp (fun u hk hy=>?_) fun u σ' l rk' gv' hk ho hy=>?_)
  ·exact(hI a (by simp)).want ha (hl a (by simp)) (hl2 a (by simp)) (h1 a (by simp)) hx3.1 h3 hd (h.tree hk ma) hy (by show σ.given.length+_<=_;omega) (new_lt _ _)
  ·have hq:=exX_given hgv ho
   have hq:σ'.given.length<=σ.given.length+a.sz:=hq
   exact(hI b (by simp)).want ha (hl b (by simp)) (hl2 b (by simp)) (h1 b (by simp)) hx3.2 h3 hd (h.tree hk mb) hy (by show σ'.given.length+_<=_;omega) (new_lt _ _)
 ·
  rename_i a b
  obtain⟨g,cap,ba,bb,hp,ma,mb⟩:=pt2 h5
  have h1:=NmOk.sub h1 (by simp)
  simp only[Nd.sz.szs]at h7
  rw[formT_app]
  refine form_application c0 (application_of ha.le ha.arrow h hp (fun u hk hy=>?_) fun u t σ' l rk' gv' hk ho hy=>?_)
  ·exact hI a (by simp) m m2 (hl a (by simp)) (hl2 a (by simp)) ρ d ba Y ad rk σ gv u (h1 a (by simp)) hx3.1 h3 hd (h.tree hk ma) hy (by omega)
  ·have hq:=hgv _ _ _ _ _ _ ho
   exact hI b (by simp) m m2 (hl b (by simp)) (hl2 b (by simp)) ρ d bb Y (ad++l) rk' σ' gv' u (h1 b (by simp)) hx3.2 h3 hd (h.tree hk mb) hy (by omega)
 ·
  rename_i c a b
  obtain⟨g,cap,bc,ba,bb,hp,mc,ma,mb⟩:=pt3 h5
  have h1:=NmOk.sub h1 (by simp)
  simp only[Nd.sz.szs]at h7
  rw[formT_if]
  refine form_if ha.bool h hp (fun u hk hy=>?_) (fun u σ' l rk' gv' hk ho hy=>?_) fun u t σ0 σ' l rk' gv' hk ho ho2 ht hy=>?_
  ·exact(hI c (by simp)).want ha (hl c (by simp)) (hl2 c (by simp)) (h1 c (by simp)) hx3.1 h3 hd (h.tree hk mc) hy (by show σ.given.length+_<=_;omega) (new_lt _ _)
  ·have hq:=exX_given hgv ho
   have hq:σ'.given.length<=σ.given.length+c.sz:=hq
   exact hI a (by simp) m m2 (hl a (by simp)) (hl2 a (by simp)) ρ d ba Y (ad++l) rk' σ' gv' u (h1 a (by simp)) hx3.2.1 h3 hd (h.tree hk ma) hy (by omega)
  ·have hq:=exX_given hgv ho
   have hq:σ0.given.length<=σ.given.length+c.sz:=hq
   have hq2:=hgv _ _ _ _ _ _ ho2
   exact(hI b (by simp)).want ha (hl b (by simp)) (hl2 b (by simp)) (h1 b (by simp)) hx3.2.2 h3 hd (h.tree hk mb) hy (by omega) ht
 ·exact absurd rfl hk.2
 ·exact hx3.elim
def NoCM(nd:Nd):Prop:=∀x∈nd.all,x.k≠14/\x.k≠15/\x.k≠16
theorem NoCM.own{nd:Nd}(h:NoCM nd):nd.k≠14/\nd.k≠15/\nd.k≠16:=h nd (all_self nd)
theorem NoCM.sub{nd p:Nd}(h:NoCM nd)(hp:p∈nd.ps):NoCM p:=fun x hx=>by
 obtain⟨k,txt,ps⟩:=nd
 exact h x (by rw[Nd.all_eq];exact mem_cons_of_mem _ (alls_mem hp x hx))
theorem expression_anyC(ha:ArOk ar):∀(n:Nat)(nd:Nd),NoCM nd->nd.ht<n->ExIH ar tb yb n nd:=by
 intro n
 induction n with
 |zero=>intro nd _ h;omega
 |succ n ih=>
  intro nd hc hn m m2 q1 q2 ρ d b Y ad rk σ gv u h1 h2 h3 h4 h5 h h7
  obtain⟨m',rfl⟩:∃m',m=m'+1:=⟨m-1,by omega⟩
  obtain⟨m2',rfl⟩:∃m2',m2=m2'+1:=⟨m2-1,by omega⟩
  have hlt:∀p∈nd.ps,p.ht<n:=fun p hp=>by
   obtain⟨k,txt,ps⟩:=nd
   exact Nd.ht_lt hp hn
  have hF:=form_anyC (n:=n) ha ⟨hc.own.1,hc.own.2.1⟩ (fun p hp=>ih p (hc.sub hp) (hlt p hp)) q1 q2 h1 h2 h3 h4 h5 h h7
  have hx:=expression_of hF (fun t σ' e=>by have:=formT_given (exT_given n) e;omega)
  have hgo:giveO (formT (exT n) ρ d nd σ)=exT (n+1) ρ d nd σ:=by
   rw[exT]
   cases formT (exT n) ρ d nd σ with
   |none=>rfl
   |some r=>rfl
  rw[<- hgo]
  exact hx
end
end
section
open Go.RowKit
section
variable {ad:List Nat}{ρ:Env}{tb lb:Nat}{s s':Lk}{w w':World}{nb:Nat}{txt:Nm}
theorem lookD_val{k g cap ba:Nat}{bl:List Nat}(hk1:k≠18)(hk2:k≠7)(h:LkAt ad ρ tb lb s w)(hp:PtAt nb k txt g cap (ba::bl) w)
  (hE:Calls prog 93 #[ptrV lb,ptrV ba] w (LkA ad ρ tb lb s' w)) :
  Calls prog 57 #[ptrV lb,ptrV nb] w (LkA ad ρ tb lb s' w):=by
 obtain⟨c0,c1,c2,c3⟩:=hp.cells
 have c3:=c3 0 ba rfl
 have hr:=hE.mono (R':=fun e u=>e=.returned (.tuple #[])/\LkA ad ρ tb lb s' w (.returned (.tuple #[])) u) fun e u ha=>by
  obtain⟨rfl,a2,a3⟩:=ha
  exact⟨rfl,rfl,a2,a3⟩
 have e1:¬(k:Int)=18:=by omega
 have e2:¬(k:Int)=7:=by omega
 have b1:((k:Int)==18)=false:=by simp only[beq_eq_false_iff_ne,ne_eq];exact e1
 have b2:((k:Int)==7)=false:=by simp only[beq_eq_false_iff_ne,ne_eq];exact e2
 have HR:=hide hr
 rw[length_cons]at c2
 clear hr hE hp h hk1 hk2
 generalize LkA ad ρ tb lb s' w=Q at *
 generalize bl.length=bn at *
 have hb1:(0:Int)<((bn+1:Nat):Int):=by omega
 unfold ptrV at *
 go_enter func57,ntmps57
 go_wp2_with fail
 refine(HR.out).mono ?_;rintro e u6⟨rfl,hq⟩
 have HG:=hide hq
 clear hq
 go_wp2
 refine bodyPost_end (v:=.tuple #[]) (by simp[results,results57,go_sem]) rfl HG.out
theorem lookD_rec{g cap ba:Nat}{bl:List Nat}(hx:txt.length<=100000000)(h:LkAt ad ρ tb lb s w)(hp:PtAt nb 7 txt g cap (ba::bl) w)
  (hE:∀u,Kn (fun k=>k=tb\/k=lb) w u->LkAt ad (((0,txt),Mg.zero)::ρ) tb lb s u->Calls prog 93 #[ptrV lb,ptrV ba] u (LkA ad (((0,txt),Mg.zero)::ρ) tb lb s' u)) :
  Calls prog 57 #[ptrV lb,ptrV nb] w (LkA ad ρ tb lb s' w):=by
 obtain⟨c0,c1,c2,c3⟩:=hp.cells
 have c3:=c3 0 ba rfl
 have hcl:∀u,Kn (fun k=>k=tb\/k=lb) w u->u.cell? ⟨nb,1,none⟩=some (.string (bs txt))/\u.cell? ⟨nb,2,none⟩=some (.slice (some ⟨g,0,none⟩) (bl.length+1) cap)/\u.cell? ⟨g,0,none⟩=some (ptrV ba):=fun u hu=>by
  obtain⟨_,c1,c2,c3⟩:=(h.pt hu hp).cells
  exact⟨c1,c2,c3 0 ba rfl⟩
 have hw:Calls prog 92 #[ptrV lb,ptrV ba,.slice (some ⟨w.heap.size,0,none⟩) 1 1] (w.alloc (.cells #[.string (bs txt)] tyStr)).drew fun e u=>e=.returned (.tuple #[])/\(u.cell? ⟨nb,1,none⟩=some (.string (bs txt))/\u.cell? ⟨nb,2,none⟩=some (.slice (some ⟨g,0,none⟩) (bl.length+1) cap)/\u.cell? ⟨g,0,none⟩=some (ptrV ba))/\LkA ad ρ tb lb s' w (.returned (.tuple #[])) u:=(within1 hx h (Kn.refl _ w) hE).mono fun e u ha=>by
  obtain⟨rfl,a2,a3⟩:=ha
  exact⟨rfl,hcl u a3,rfl,a2,a3⟩
 have ha1:∀o,(World.alloc w o).drew.cell? ⟨nb,1,none⟩=some (.string (bs txt))/\(World.alloc w o).drew.cell? ⟨nb,2,none⟩=some (.slice (some ⟨g,0,none⟩) (bl.length+1) cap)/\(World.alloc w o).drew.cell? ⟨g,0,none⟩=some (ptrV ba):=fun o=>hcl _ ((Kn.refl _ w).alloc o).drew
 obtain⟨c1a,c2a,c3a⟩:=hcl _ (Kn.refl _ w).drew
 have HW:=hide hw
 have HA1:=hide ha1
 clear hw hcl ha1 h hE hp c3
 generalize LkA ad ρ tb lb s' w=Q at *
 generalize bs txt=tx at *
 generalize bl.length=bn at *
 have hb1:(0:Int)<((bn+1:Nat):Int):=by omega
 unfold ptrV at *
 go_enter func57,ntmps57
 go_wp2_with fail
 go_region_held3 (fun w'=>w'.cell? ⟨nb,1,none⟩=some (.string tx)/\w'.cell? ⟨nb,2,none⟩=some (.slice (some ⟨g,0,none⟩) (bn+1) cap)/\w'.cell? ⟨g,0,none⟩=some (.pointer (some ⟨ba,0,none⟩)))
  (first|with_reducible exact⟨c1a,c2a,c3a⟩|with_reducible exact HA1.out _)
  (first|(go_at_call 92;refine(HW.out).mono ?_;rintro e u6⟨rfl,⟨c1a,c2a,c3a⟩,hq⟩;have HG:=hide hq;clear hq))
 all_goals
  go_wp2
  refine bodyPost_end (v:=.tuple #[]) (by simp[results,results57,go_sem]) rfl HG.out
structure DeclOk(k:Nat)(txt:Nm)(ps:List Nd):Prop where
 kind:k=17\/k=6\/k=7\/k=18
 text:txt.length<=100000000
 val:k≠18->∃a r,ps=a::r/\WfN a/\a.all.length<=100000000
 typ:k=18->(∀x∈(Nd.mk 18 txt ps).all,x.txt.length<=100000000)/\ps.length<=1000000/\∀p∈ps,p.k<=1000
theorem lkD_type(ps:List Nd):lkD ρ (.mk 18 txt ps) s=lkType ρ txt ps s:=by rw[lkD]
theorem lkD_rec(a:Nd)(r:List Nd):lkD ρ (.mk 7 txt (a::r)) s=lkE (a.ht+1) (((0,txt),Mg.zero)::ρ) a s:=by rw[lkD]
theorem lkD_val{k:Nat}(h1:k≠18)(h2:k≠7)(a:Nd)(r:List Nd):lkD ρ (.mk k txt (a::r)) s=lkE (a.ht+1) ρ a s:=by
 rw[lkD]
 all_goals (intros;simp_all)
end
end
end Go.Proofs.YtbkiipiocpnnnaaGreatDoor
