import Derived.Test.YtbkiipiocpnnnaaGreatDoorC27
set_option linter.all false
set_option maxHeartbeats 40000000
set_option maxRecDepth 100000
open Go.Proofs.Tryz
open Or (inr)
open Nat (le_refl zero_le)
open List (length_cons mem_singleton)
namespace Go.Proofs.YtbkiipiocpnnnaaGreatDoor
open Go.RowKit
theorem wrap_i64{n:Int}(h:InI n):IntKind.i64.wrap n=n:=by
 obtain⟨h1,h2⟩:=h
 simp[IntKind.wrap,IntKind.bits,IntKind.signed]
 omega
section
variable {mb tb bb:Nat}{ρ:List Nm}{w:World}
theorem ex3{nb:Nat}{txt:Nm}{i:Nat}(hx:okK (0,txt))(hi:ρ.idxOf? txt=some i)(hB:BM mb tb bb ρ ρ.length w)(hn:NMem w (.mk 3 txt []) nb) :
  Calls prog 72 #[ptrV bb,ptrV nb] w (BA mb tb bb ρ ⟨3,(i:Nat),txt,[],[]⟩ w):=by
 have hil:i<ρ.length:=by
  have:=List.of_findIdx?_eq_some hi
  exact(List.findIdx?_eq_some_iff_getElem.1 hi).1
 have hF:Fresh w ((w.alloc (.cells #[ptrV bb] 136)).alloc (.cells #[ptrV nb] 50)):=((Fresh.refl w).alloc _).alloc _
 have d12:=al2 w (.cells #[ptrV bb] 136) (.cells #[ptrV nb] 50)
 have hn1:=hB.tree (hF.kn.wide fun _ _ h=>h.elim) hn
 obtain⟨pv,bl,h1,_⟩:=hn1.inv
 have z2:=cell_of' d12.2
 have z3:=cell_of' d12.1
 generalize hw1:(w.alloc (.cells #[ptrV bb] 136)).alloc (.cells #[ptrV nb] 50)=w1 at *
 have z0:w1.cell? ⟨nb,0,none⟩=some (.int .i64 3):=by simp[World.cell?,h1]
 have hB1:=hB.stays hF.kn
 have hlen:=hB.len
 obtain⟨n,f,hm,hf⟩:=hB1.tab
 have hft:f (0,txt)=some (.int .i64 ((ρ.length-1-i:Nat):Int)):=by
  rw[hf txt hx];unfold plOf;rw[hi];rfl
 have hcl:∀u,Kn (fun _=>False) w1 u->(u.cell? ⟨w.heap.size,0,none⟩=some (ptrV bb)/\u.cell? ⟨w.heap.size+1,0,none⟩=some (ptrV nb)/\u.cell? ⟨nb,1,none⟩=some (.string (bs txt))/\u.cell? ⟨bb,1,none⟩=some (.map (some tb))/\u.cell? ⟨bb,2,none⟩=some (.int .i64 (ρ.length:Nat)))/\(Instr.lookup tyTabI (.map (some tb)) (.agg #[.int .i64 0,.string (bs txt)]) false).run prog u=.ok (.int .i64 ((ρ.length-1-i:Nat):Int)) u:=fun u hu=>by
  have hk:∀(k:Nat)(c:Array Value)(t:TypeId)(f:Nat×Nat),w1.heap[k]?=some (.cells c t f)->u.heap[k]?=some (.cells c t f):=fun k c t f hc=>(hu.block k (lt_of_heap hc) id).trans hc
  have hb:=(hB1.stays hu).bld
  refine⟨⟨cell_of' (hk _ _ _ _ d12.1),cell_of' (hk _ _ _ _ d12.2),by simp[World.cell?,hk _ _ _ _ h1],by simp[World.cell?,hb],by simp[World.cell?,hb]⟩,?_⟩
  have:=look_tabI (hm.kept (hu.block tb hm.lt id)) hx false
  rw[hft]at this
  simpa using this
 have hV:∀u,Kn (fun _=>False) w1 u->Calls prog 107 #[.int .i64 (i:Nat)] u fun e u2=>BA mb tb bb ρ ⟨3,(i:Nat),txt,[],[]⟩ w e u2/\(u2.cell? ⟨w.heap.size,0,none⟩=some (ptrV bb)/\u2.cell? ⟨w.heap.size+1,0,none⟩=some (ptrV nb)/\u2.cell? ⟨nb,1,none⟩=some (.string (bs txt))/\u2.cell? ⟨bb,1,none⟩=some (.map (some tb))/\u2.cell? ⟨bb,2,none⟩=some (.int .i64 (ρ.length:Nat))):=fun u hu=>by
  refine(mk_variable).mono ?_
  rintro e u2⟨rfl,rfl⟩
  have hu2:Kn (fun _=>False) w1 (u.alloc (.cells #[.int .i64 (i:Nat)] 3)):=hu.alloc _
  have hBu:=hB1.stays hu
  refine⟨?_,(hcl _ hu2).1⟩
  have:=BA.of (c:=⟨3,(i:Nat),txt,[],[]⟩) (l:=[u.heap.size]) (xs:=[]) hBu ((Fresh.refl u).alloc (.cells #[.int .i64 (i:Nat)] 3)) ⟨by unfold InI;dsimp only;omega,fun _=>by dsimp only;omega⟩ trivial rfl Enters.variable ⟨al1 _ _,fxInt,trivial⟩
  exact this.behind ((hF.kn.trans hu).wide fun _ _ h=>h.elim)
 have hal:∀u o u',Kn (fun _=>False) w1 u->u'=World.alloc u o->Kn (fun _=>False) w1 u':=fun u o u' hu e=>by
  subst e;exact hu.alloc o
 have hK:=fun(u:World)=>rkey_any (bs txt) u
 have hsub:IntKind.i64.wrap (IntKind.i64.wrap ((ρ.length:Int)-1)-((ρ.length-1-i:Nat):Int))=(i:Int):=by
  rw[wrap_i64 (n:=(ρ.length:Int)-1) (by unfold InI;omega),wrap_i64 (by unfold InI;omega)];omega
 have HV:=hide (Kn.drewF w1)
 have HAL:=hide hal
 have HK:=hide hK
 have HX:=hide hcl
 have hV2:∀u,Kn (fun _=>False) w1 u->Calls prog 107 #[.int .i64 (IntKind.i64.wrap (IntKind.i64.wrap ((ρ.length:Int)-1)-((ρ.length-1-i:Nat):Int)))] u fun e u2=>BA mb tb bb ρ ⟨3,(i:Nat),txt,[],[]⟩ w e u2/\(u2.cell? ⟨w.heap.size,0,none⟩=some (ptrV bb)/\u2.cell? ⟨w.heap.size+1,0,none⟩=some (ptrV nb)/\u2.cell? ⟨nb,1,none⟩=some (.string (bs txt))/\u2.cell? ⟨bb,1,none⟩=some (.map (some tb))/\u2.cell? ⟨bb,2,none⟩=some (.int .i64 (ρ.length:Nat))):=fun u hu=>by rw[hsub];exact hV u hu
 have HM:=hide hV2
 obtain⟨⟨c1a,c2a,c3a,c4a,c5a⟩,hlk⟩:=hcl _ (Kn.drewF w1)
 clear hn hn1 h1 d12 hF hB hB1 hm hf hft hcl hV hV2 hal hK hx hi
 unfold ptrV at *
 generalize hL:ρ.length=L at *
 have hJb:L-1-i<=1000000:=by omega
 generalize hJ:L-1-i=J at *
 generalize bs txt=tx at *
 generalize Kn (fun _=>False) w1=V at *
 go_enter func72,ntmps72
 go_wp2_with fail
 clear hL hJ hsub hil
 go_region_held3 (fun w'=>w'.cell? ⟨w.heap.size,0,none⟩=some (.pointer (some ⟨bb,0,none⟩))/\w'.cell? ⟨w.heap.size+1,0,none⟩=some (.pointer (some ⟨nb,0,none⟩))/\w'.cell? ⟨nb,1,none⟩=some (.string tx)/\w'.cell? ⟨bb,1,none⟩=some (.map (some tb))/\w'.cell? ⟨bb,2,none⟩=some (.int .i64 (L:Nat))) (exact⟨c1a,c2a,c3a,c4a,c5a⟩)
  (first|(go_at_call 68;(refine(HK.out _).mono ?_);rintro e u⟨rfl,hu⟩;have HV:=hide (HAL.out _ _ _ HV.out hu);have hz:=HX.out _ HV.out;obtain⟨⟨c1a,c2a,c3a,c4a,c5a⟩,hlk⟩:=hz;clear hu)|(go_at_call 107;(refine(HM.out _ HV.out).mono ?_);rintro e u3⟨hq,c1a,c2a,c3a,c4a,c5a⟩;obtain⟨Kr,csr,rfl,hq2⟩:=hq;have HQ:=hide (show BA mb tb bb ρ _ w _ u3 from⟨Kr,csr,rfl,hq2⟩);clear hq2))
 all_goals
  go_wp2
  refine bodyPost_ret (v:=.func (.func Kr) #[] csr) (by simp[results,results72,go_sem]) rfl HQ.out
end
section
variable {mb tb bb:Nat}{ρ:List Nm}{w:World}
theorem row1(u:World)(txt:Nm):(u.alloc (.cells #[.string (bs txt)] tyStr)).ownsRow 0 tyStr 1 (.slice (some ⟨u.heap.size,0,none⟩) 1 1) [txt].length ([txt].map strV):=
 ⟨rfl,inr ⟨u.heap.size,1,#[.string (bs txt)],rfl,zero_le _,al1 _ _,le_refl _,by decide,rfl,rfl⟩⟩
theorem withinOne{txt:Nm}{c:Cd}{Kb:Nat}{csb:Array Value}{u:World}(hEb:Enters Kb)(hx:okK (0,txt))(hlen:ρ.length+1<=1000000)(hB:BM mb tb bb ρ ρ.length u)
  (hE:∀v,Kn (fun k=>k=tb\/k=bb) u v->BM mb tb bb (txt::ρ) (txt::ρ).length v->Calls prog Kb csb v (BA mb tb bb (txt::ρ) c v)) :
  Calls prog 41 #[ptrV bb,.func (.func Kb) #[] csb,.slice (some ⟨u.heap.size,0,none⟩) 1 1] (u.alloc (.cells #[.string (bs txt)] tyStr)) (BA mb tb bb ρ c u):=by
 have hk:Kn (fun _=>False) u (u.alloc (.cells #[.string (bs txt)] tyStr)):=(Kn.refl _ u).alloc _
 have hk2:Kn (fun k=>k=tb\/k=bb) u (u.alloc (.cells #[.string (bs txt)] tyStr)):=hk.wide fun _ _ h=>h.elim
 exact(withinR_of (vs:=[txt]) hEb (row1 u txt) (fun x hx2=>by rw[mem_singleton.1 hx2];exact hx) hlen (hB.stays hk) (fun v h1 h2=>hE v (hk2.trans h1) h2)).mono fun e u2 ha=>ha.behind hk2
theorem ex5{nb:Nat}{txt:Nm}{a:Nd}{c:Cd}(hx:okK (0,txt))(hlen:ρ.length+1<=1000000)(hB:BM mb tb bb ρ ρ.length w)(hn:NMem w (.mk 5 txt [a]) nb)
  (hE:∀u b,BM mb tb bb (txt::ρ) (txt::ρ).length u->NMem u a b->Calls prog 72 #[ptrV bb,ptrV b] u (BA mb tb bb (txt::ρ) c u)) :
  Calls prog 72 #[ptrV bb,ptrV nb] w (BA mb tb bb ρ ⟨5,0,txt,[c],[]⟩ w):=by
 have hF:Fresh w ((w.alloc (.cells #[ptrV bb] 136)).alloc (.cells #[ptrV nb] 50)):=((Fresh.refl w).alloc _).alloc _
 have d12:=al2 w (.cells #[ptrV bb] 136) (.cells #[ptrV nb] 50)
 have hn1:=hB.tree (hF.kn.wide fun _ _ h=>h.elim) hn
 obtain⟨pv,bl,h1,_⟩:=hn1.inv
 have z2:=cell_of' d12.2
 have z3:=cell_of' d12.1
 generalize hw1:(w.alloc (.cells #[ptrV bb] 136)).alloc (.cells #[ptrV nb] 50)=w1 at *
 have z0:w1.cell? ⟨nb,0,none⟩=some (.int .i64 5):=by simp[World.cell?,h1]
 have z1:w1.cell? ⟨nb,1,none⟩=some (.string (bs txt)):=by simp[World.cell?,h1]
 have hB1:=hB.stays hF.kn
 have hbx:BxN bb nb w.heap.size (w.heap.size+1) w1:=⟨d12.1,d12.2⟩
 obtain⟨g,cap,bl',hp,hm,hbl⟩:=hn1.pt (by simp)
 have hbl1:bl'.length=1:=hbl
 obtain⟨ba,hba,_⟩:=hm.at (i:=0) (p:=a) rfl
 have hW:∀u,Kn (fun _=>False) w1 u->(u.cell? ⟨w.heap.size,0,none⟩=some (ptrV bb)/\u.cell? ⟨w.heap.size+1,0,none⟩=some (ptrV nb)/\u.cell? ⟨nb,1,none⟩=some (.string (bs txt)))/\Calls prog 41 #[ptrV bb,.func (.func 109) #[] #[ptrV w.heap.size,ptrV (w.heap.size+1)],.slice (some ⟨u.heap.size,0,none⟩) 1 1] (u.alloc (.cells #[.string (bs txt)] tyStr)) fun e u2=>∃K cs,e=.returned (.func (.func K) #[] cs)/\(u2.cell? ⟨w.heap.size,0,none⟩=some (ptrV bb)/\u2.cell? ⟨w.heap.size+1,0,none⟩=some (ptrV nb)/\u2.cell? ⟨nb,1,none⟩=some (.string (bs txt)))/\Hid (Calls prog 108 #[.func (.func K) #[] cs] u2 fun e u3=>BA mb tb bb ρ ⟨5,0,txt,[c],[]⟩ w e u3/\(u3.cell? ⟨w.heap.size,0,none⟩=some (ptrV bb)/\u3.cell? ⟨w.heap.size+1,0,none⟩=some (ptrV nb)/\u3.cell? ⟨nb,1,none⟩=some (.string (bs txt)))):=fun u hu=>by
  have hcl:∀v,Kn (fun k=>k=tb\/k=bb) w1 v->v.cell? ⟨w.heap.size,0,none⟩=some (ptrV bb)/\v.cell? ⟨w.heap.size+1,0,none⟩=some (ptrV nb)/\v.cell? ⟨nb,1,none⟩=some (.string (bs txt)):=fun v hv=>⟨cell_of' (hbx.kept hB1 hv).b,cell_of' (hbx.kept hB1 hv).n,(hB1.pt hv hp).cells.2.1⟩
  have hu':Kn (fun k=>k=tb\/k=bb) w1 u:=hu.wide fun _ _ h=>h.elim
  refine⟨hcl u hu',(withinOne (c:=c) Enters.xe1 hx hlen (hB1.stays hu) (fun v h1 h2=>?_)).mono ?_⟩
  ·have hv:=hu'.trans h1
   have hpv:=hB1.pt hv hp
   refine clo_e1 (hbx.kept hB1 hv) hpv hba (by omega) (fun v2 hv2=>?_)
   have hv3:Kn (fun k=>k=tb\/k=bb) w1 v2:=hv.trans (hv2.wide fun _ _ h=>h.elim)
   have hm2:NMem.NMems v2 [a] bl':=hm.kept (fun k c f hc=>hv3.block k (lt_of_heap hc) fun e=>by rcases e with e|e;exact hB1.not_tb hc e;exact hB1.not_bb hc (by decide) e) (fun k c f hc=>hv3.block k (lt_of_heap hc) fun e=>by rcases e with e|e;exact hB1.not_tb hc e;exact hB1.not_bb hc (by decide) e)
   obtain⟨bb',hbb',hnm⟩:=hm2.at (i:=0) (p:=a) rfl
   rw[hba]at hbb'
   cases hbb'
   exact hE v2 ba (h2.stays hv2) hnm
  ·rintro e u2⟨K,cs,rfl,q1,q2,q3⟩
   have k2:=hu'.trans q2
   refine⟨K,cs,rfl,hcl u2 k2,(b_fun (nm:=txt) q1 q3).mono fun e u3 ha=>?_⟩
   have hk3:Kn (fun k=>k=tb\/k=bb) u2 u3:=by obtain⟨_,_,_,_,h,_⟩:=ha;exact h
   exact⟨ha.behind ((hF.kn.wide fun _ _ h=>h.elim).trans k2),hcl u3 (k2.trans hk3)⟩
 have HW:=hide hW
 have HV:=hide (Kn.drewF w1)
 obtain⟨⟨c1a,c2a,c3a⟩,_⟩:=hW _ (Kn.drewF w1)
 clear hE hn hn1 h1 d12 hF hB hW hB1 hbx hp hm hba hbl hbl1
 unfold ptrV at *
 generalize bs txt=tx at *
 go_enter func72,ntmps72
 go_wp2_with fail
 go_region_held2 (fun w'=>w'.cell? ⟨w.heap.size,0,none⟩=some (.pointer (some ⟨bb,0,none⟩))/\w'.cell? ⟨w.heap.size+1,0,none⟩=some (.pointer (some ⟨nb,0,none⟩))/\w'.cell? ⟨nb,1,none⟩=some (.string tx)) (first|exact⟨c1a,c2a,c3a⟩|exact⟨cell_alloc_old c1a,cell_alloc_old c2a,cell_alloc_old c3a⟩)
  (first|(go_at_call 41;(refine((HW.out _ HV.out).2).mono ?_);rintro e u2⟨K,cs,rfl,⟨c1a,c2a,c3a⟩,HC⟩)|(go_at_call 108;(refine(HC.out).mono ?_);rintro e u3⟨hq,c1a,c2a,c3a⟩;obtain⟨Kr,csr,rfl,hq2⟩:=hq;have HQ:=hide (show BA mb tb bb ρ _ w _ u3 from⟨Kr,csr,rfl,hq2⟩);clear hq2))
 all_goals
  go_wp2
  refine bodyPost_ret (v:=.func (.func Kr) #[] csr) (by simp[results,results72,go_sem]) rfl HQ.out
end
section
variable {mb tb bb:Nat}{ρ:List Nm}{w:World}
def BodyC(mb tb bb:Nat)(ρ:List Nm)(w:World)(txt:Nm)(Kb:Nat)(csb:Array Value)(cb:Cd):Prop:=
 Enters Kb/\∀v,Kn (fun k=>k=tb\/k=bb) w v->BM mb tb bb (txt::ρ) (txt::ρ).length v->Calls prog Kb csb v (BA mb tb bb (txt::ρ) cb v)
def Row(txt:Nm)(g:Nat)(v:World):Prop:=v.heap[g]?=some (.cells #[.string (bs txt)] tyStr (0,0))
theorem Row.owns{txt:Nm}{g:Nat}{v:World}(h:Row txt g v):v.ownsRow 0 tyStr 1 (.slice (some ⟨g,0,none⟩) 1 1) [txt].length ([txt].map strV):=⟨rfl,inr ⟨g,1,#[.string (bs txt)],rfl,zero_le _,h,le_refl _,by decide,rfl,rfl⟩⟩
theorem Row.kept{txt:Nm}{g:Nat}{v v2:World}(h:Row txt g v)(hB:BM mb tb bb ρ ρ.length v)(hk:Kn (fun k=>k=tb\/k=bb) v v2):Row txt g v2:=
 (hk.block g (lt_of_heap h) fun e=>by rcases e with e|e;exact hB.not_tb h e;exact hB.not_bb h (by decide) e).trans h
theorem withinG{txt:Nm}{c:Cd}{Kb g:Nat}{csb:Array Value}{u:World}(hEb:Enters Kb)(hx:okK (0,txt))(hlen:ρ.length+1<=1000000)(hB:BM mb tb bb ρ ρ.length u)(hg:Row txt g u)
  (hE:∀v,Kn (fun k=>k=tb\/k=bb) u v->BM mb tb bb (txt::ρ) (txt::ρ).length v->Calls prog Kb csb v (BA mb tb bb (txt::ρ) c v)) :
  Calls prog 41 #[ptrV bb,.func (.func Kb) #[] csb,.slice (some ⟨g,0,none⟩) 1 1] u (BA mb tb bb ρ c u):=
 withinR_of (vs:=[txt]) hEb hg.owns (fun x hx2=>by rw[mem_singleton.1 hx2];exact hx) hlen hB (fun v h1 h2=>hE v h1 h2)
theorem Kn.a1(w:World)(o:Obj):Kn (fun _=>False) w (w.alloc o).drew:=((Kn.refl _ w).alloc o).drew
theorem Kn.a2(w:World)(o o2:Obj):Kn (fun _=>False) w ((w.alloc o).alloc o2).drew:=(((Kn.refl _ w).alloc o).alloc o2).drew
theorem bindLet{nb Kb:Nat}{csb:Array Value}{txt:Nm}{a:Nd}{r:List Nd}{ca cb:Cd}(hr:r.length<=100)(hx:okK (0,txt))(hlen:ρ.length+1<=1000000)(hB:BM mb tb bb ρ ρ.length w)(hn:NMem w (.mk 6 txt (a::r)) nb)(hb:BodyC mb tb bb ρ w txt Kb csb cb)
  (hE:∀u b,BM mb tb bb ρ ρ.length u->NMem u a b->Calls prog 72 #[ptrV bb,ptrV b] u (BA mb tb bb ρ ca u)) :
  Calls prog 73 #[ptrV bb,ptrV nb,.func (.func Kb) #[] csb] w (BA mb tb bb ρ ⟨6,0,txt,[ca,cb],[]⟩ w):=by
 have hF:Fresh w ((w.alloc (.cells #[ptrV bb] 136)).alloc (.cells #[ptrV nb] 50)):=((Fresh.refl w).alloc _).alloc _
 have d12:=al2 w (.cells #[ptrV bb] 136) (.cells #[ptrV nb] 50)
 have hn1:=hB.tree (hF.kn.wide fun _ _ h=>h.elim) hn
 have z2:=cell_of' d12.2
 have z3:=cell_of' d12.1
 generalize hw1:(w.alloc (.cells #[ptrV bb] 136)).alloc (.cells #[ptrV nb] 50)=w1 at *
 have hB1:=hB.stays hF.kn
 have hbx:BxN bb nb w.heap.size (w.heap.size+1) w1:=⟨d12.1,d12.2⟩
 obtain⟨g,cap,bl',hp,hm,hbl⟩:=hn1.pt (by simp)
 have hbl1:bl'.length<=1000:=by rw[hbl,length_cons];omega
 obtain⟨ba,hba,_⟩:=hm.at (i:=0) (p:=a) rfl
 have z0:w1.cell? ⟨nb,0,none⟩=some (.int .i64 6):=hp.cells.1
 have hFk:Kn (fun k=>k=tb\/k=bb) w w1:=hF.kn.wide fun _ _ h=>h.elim
 have hcl:∀v,Kn (fun k=>k=tb\/k=bb) w1 v->v.cell? ⟨w.heap.size,0,none⟩=some (ptrV bb)/\v.cell? ⟨w.heap.size+1,0,none⟩=some (ptrV nb)/\v.cell? ⟨nb,1,none⟩=some (.string (bs txt)):=fun v hv=>⟨cell_of' (hbx.kept hB1 hv).b,cell_of' (hbx.kept hB1 hv).n,(hB1.pt hv hp).cells.2.1⟩
 have hA:∀u,Kn (fun _=>False) w1 u->Calls prog 114 #[ptrV w.heap.size,ptrV (w.heap.size+1)] u fun e u2=>∃K1 cs1,e=.returned (.func (.func K1) #[] cs1)/\(u2.cell? ⟨w.heap.size,0,none⟩=some (ptrV bb)/\u2.cell? ⟨w.heap.size+1,0,none⟩=some (ptrV nb)/\u2.cell? ⟨nb,1,none⟩=some (.string (bs txt)))/\Hid (∀g,Row txt g u->Row txt g u2)/\Hid (∀v g,Kn (fun _=>False) u2 v->Row txt g v->Calls prog 41 #[ptrV bb,.func (.func Kb) #[] csb,.slice (some ⟨g,0,none⟩) 1 1] v fun e u3=>∃K2 cs2,e=.returned (.func (.func K2) #[] cs2)/\(u3.cell? ⟨w.heap.size,0,none⟩=some (ptrV bb)/\u3.cell? ⟨w.heap.size+1,0,none⟩=some (ptrV nb)/\u3.cell? ⟨nb,1,none⟩=some (.string (bs txt)))/\Hid (Calls prog 116 #[.func (.func K1) #[] cs1,.func (.func K2) #[] cs2] u3 fun e u4=>BA mb tb bb ρ ⟨6,0,txt,[ca,cb],[]⟩ w e u4/\(u4.cell? ⟨w.heap.size,0,none⟩=some (ptrV bb)/\u4.cell? ⟨w.heap.size+1,0,none⟩=some (ptrV nb)/\u4.cell? ⟨nb,1,none⟩=some (.string (bs txt))))):=fun u hu=>by
  have hu':Kn (fun k=>k=tb\/k=bb) w1 u:=hu.wide fun _ _ h=>h.elim
  refine(clo_b1 (mb:=mb) (tb:=tb) (c:=ca) (ρ:=ρ) (hbx.kept hB1 hu') (hB1.pt hu' hp) hba hbl1 (fun v2 hv2=>?_)).mono ?_
  ·have hv3:Kn (fun k=>k=tb\/k=bb) w1 v2:=hu'.trans (hv2.wide fun _ _ h=>h.elim)
   have hm2:NMem.NMems v2 (a::r) bl':=hm.kept (fun k c f hc=>hv3.block k (lt_of_heap hc) fun e=>by rcases e with e|e;exact hB1.not_tb hc e;exact hB1.not_bb hc (by decide) e) (fun k c f hc=>hv3.block k (lt_of_heap hc) fun e=>by rcases e with e|e;exact hB1.not_tb hc e;exact hB1.not_bb hc (by decide) e)
   obtain⟨bb',hbb',hnm⟩:=hm2.at (i:=0) (p:=a) rfl
   rw[hba]at hbb'
   cases hbb'
   exact hE v2 ba ((hB1.stays hu).stays hv2) hnm
  ·rintro e u2⟨K1,cs1,rfl,q1,q2,q3⟩
   have k2:=hu'.trans q2
   refine⟨K1,cs1,rfl,hcl u2 k2,fun g hg=>hg.kept (hB1.stays hu) q2,fun v g hv hg=>?_⟩
   have hv':Kn (fun k=>k=tb\/k=bb) u2 v:=hv.wide fun _ _ h=>h.elim
   refine(withinG (c:=cb) hb.1 hx hlen (q1.stays hv) hg (fun v2 h1 h2=>hb.2 v2 (((hFk.trans k2).trans hv').trans h1) h2)).mono ?_
   rintro e u3⟨K2,cs2,rfl,p1,p2,p3⟩
   have k3:=(k2.trans hv').trans p2
   refine⟨K2,cs2,rfl,hcl u3 k3,(b_let (nm:=txt) p1 (q3.kept (q1.kr (hv'.trans p2))) p3).mono fun e u4 ha=>?_⟩
   have hk4:Kn (fun k=>k=tb\/k=bb) u3 u4:=by obtain⟨_,_,_,_,h,_⟩:=ha;exact h
   exact⟨ha.behind (hFk.trans k3),hcl u4 (k3.trans hk4)⟩
 have HA:=hide hA
 obtain⟨c1a,c2a,c3a⟩:=hcl w1.drew ((Kn.drewF w1).wide fun _ _ h=>h.elim)
 clear hE hn hn1 d12 hF hB hA hB1 hbx hp hm hba hbl hbl1 hcl hb hFk
 unfold ptrV Row at *
 generalize bs txt=tx at *
 have hne:((6:Int)==7)=false:=by decide
 go_enter func73,ntmps73
 go_wp2_with fail
 go_region_held2 (fun w'=>w'.cell? ⟨w.heap.size,0,none⟩=some (.pointer (some ⟨bb,0,none⟩))/\w'.cell? ⟨w.heap.size+1,0,none⟩=some (.pointer (some ⟨nb,0,none⟩))/\w'.cell? ⟨nb,1,none⟩=some (.string tx)) (first|exact⟨c1a,c2a,c3a⟩|exact⟨cell_alloc_old c1a,cell_alloc_old c2a,cell_alloc_old c3a⟩)
  (first
   |(go_at_call 114;first
     |((refine(HA.out _ (Kn.drewF w1)).mono ?_);rintro e u2⟨K1,cs1,rfl,⟨c1a,c2a,c3a⟩,H1,H2⟩)
     |((refine(HA.out _ (Kn.a1 w1 _)).mono ?_);rintro e u2⟨K1,cs1,rfl,⟨c1a,c2a,c3a⟩,H1,H2⟩;have HR:=hide (H1.out _ (al1 w1 _))))
   |(go_at_call 41;first
     |((refine(H2.out _ _ (Kn.refl _ _) HR.out).mono ?_);rintro e u3⟨K2,cs2,rfl,⟨c1a,c2a,c3a⟩,HC⟩)
     |((refine(H2.out _ _ ((Kn.refl _ u2).alloc _) (al1 u2 _)).mono ?_);rintro e u3⟨K2,cs2,rfl,⟨c1a,c2a,c3a⟩,HC⟩))
   |(go_at_call 116;(refine(HC.out).mono ?_);rintro e u4⟨hq,c1a,c2a,c3a⟩;obtain⟨Kr,csr,rfl,hq2⟩:=hq;have HQ:=hide (show BA mb tb bb ρ _ w _ u4 from⟨Kr,csr,rfl,hq2⟩);clear hq2))
 all_goals
  go_wp2
  refine bodyPost_ret (v:=.func (.func Kr) #[] csr) (by simp[results,results73,go_sem]) rfl HQ.out
end
section
variable {mb tb bb:Nat}{ρ:List Nm}{w:World}
theorem ex6{nb:Nat}{txt:Nm}{a b:Nd}{ca cb:Cd}(hx:okK (0,txt))(hlen:ρ.length+1<=1000000)(hB:BM mb tb bb ρ ρ.length w)(hn:NMem w (.mk 6 txt [a,b]) nb)
  (hE:∀u q,BM mb tb bb ρ ρ.length u->NMem u a q->Calls prog 72 #[ptrV bb,ptrV q] u (BA mb tb bb ρ ca u))
  (hE2:∀u q,BM mb tb bb (txt::ρ) (txt::ρ).length u->NMem u b q->Calls prog 72 #[ptrV bb,ptrV q] u (BA mb tb bb (txt::ρ) cb u)) :
  Calls prog 72 #[ptrV bb,ptrV nb] w (BA mb tb bb ρ ⟨6,0,txt,[ca,cb],[]⟩ w):=by
 have hF:Fresh w ((w.alloc (.cells #[ptrV bb] 136)).alloc (.cells #[ptrV nb] 50)):=((Fresh.refl w).alloc _).alloc _
 have d12:=al2 w (.cells #[ptrV bb] 136) (.cells #[ptrV nb] 50)
 have hn1:=hB.tree (hF.kn.wide fun _ _ h=>h.elim) hn
 have z2:=cell_of' d12.2
 have z3:=cell_of' d12.1
 generalize hw1:(w.alloc (.cells #[ptrV bb] 136)).alloc (.cells #[ptrV nb] 50)=w1 at *
 have hB1:=hB.stays hF.kn
 have hbx:BxN bb nb w.heap.size (w.heap.size+1) w1:=⟨d12.1,d12.2⟩
 obtain⟨g,cap,bl',hp,hm,hbl⟩:=hn1.pt (by simp)
 have hbl1:bl'.length<=1000:=by rw[hbl];simp
 obtain⟨ba,hba,_⟩:=hm.at (i:=1) (p:=b) rfl
 have z0:w1.cell? ⟨nb,0,none⟩=some (.int .i64 6):=hp.cells.1
 have hbody:BodyC mb tb bb ρ w1 txt 110 #[ptrV w.heap.size,ptrV (w.heap.size+1)] cb:=by
  refine⟨Enters.xe2,fun v hv h2=>?_⟩
  refine clo_e2 (hbx.kept hB1 hv) (hB1.pt hv hp) hba hbl1 (fun v2 hv2=>?_)
  have hv3:Kn (fun k=>k=tb\/k=bb) w1 v2:=hv.trans (hv2.wide fun _ _ h=>h.elim)
  have hm2:NMem.NMems v2 [a,b] bl':=hm.kept (fun k c f hc=>hv3.block k (lt_of_heap hc) fun e=>by rcases e with e|e;exact hB1.not_tb hc e;exact hB1.not_bb hc (by decide) e) (fun k c f hc=>hv3.block k (lt_of_heap hc) fun e=>by rcases e with e|e;exact hB1.not_tb hc e;exact hB1.not_bb hc (by decide) e)
  obtain⟨bb',hbb',hnm⟩:=hm2.at (i:=1) (p:=b) rfl
  rw[hba]at hbb'
  cases hbb'
  exact hE2 v2 ba (h2.stays hv2) hnm
 have HP:=hide ((bindLet (r:=[b]) (by simp) hx hlen hB1 hn1 hbody hE).mono fun e u2 ha=>ha.behind (hF.kn.wide fun _ _ h=>h.elim))
 clear hE hE2 hn hn1 d12 hF hB hB1 hbx hp hm hba hbl hbl1 hbody
 unfold ptrV at *
 go_enter func72,ntmps72
 go_wp2_with fail
 refine(HP.out).mono ?_
 intro e u2 hq
 obtain⟨Kr,csr,rfl,hq2⟩:=hq
 have HQ:=hide (show BA mb tb bb ρ _ w _ u2 from⟨Kr,csr,rfl,hq2⟩)
 clear hq2
 go_wp2
 refine bodyPost_ret (v:=.func (.func Kr) #[] csr) (by simp[results,results72,go_sem]) rfl HQ.out
def okForm(f:List Nm->Nd->Bool)(ρ:List Nm)(txt:Nm)(k:Nat)(ps:List Nd):Bool:=
 match k,ps with
 |0,[]=>txt==[48]
 |2,[]=>true
 |3,[]=>(ρ.idxOf? txt).isSome
 |5,[a]=>f (txt::ρ) a
 |6,[a,b]=>f ρ a && f (txt::ρ) b
 |8,[a,b,c]=>f ρ a && f ρ b && f ρ c
 |9,[a,b]=>f ρ a && f ρ b
 |10,[a,b]=>f ρ a && f ρ b
 |11,[a,b]=>(txt==[43] || txt==[60]) && f ρ a && f ρ b
 |12,[a]=>f ρ a
 |13,[a,b]=>f ρ a && f ρ b
 |_,_=>false
def okE:Nat->List Nm->Nd->Bool
 |0,_,_=>false
 |n+1,ρ,nd=>decide (nd.txt.length<=1000) && decide (ρ.length<=1000) && okForm (okE n) ρ nd.txt nd.k nd.ps
theorem expr_any:∀(n:Nat)(nd:Nd)(ρ:List Nm)(w:World)(nb:Nat),okE n ρ nd=true->BM mb tb bb ρ ρ.length w->NMem w nd nb->Calls prog 72 #[ptrV bb,ptrV nb] w (BA mb tb bb ρ (cdOf n ρ nd) w):=by
 intro n
 induction n with
 |zero=>intro nd ρ w nb h;cases h
 |succ n ih=>
  intro nd ρ w nb h hB hn
  obtain⟨k,txt,ps⟩:=nd
  rw[okE]at h
  simp only[Bool.and_eq_true,decide_eq_true_eq]at h
  obtain⟨⟨ht,hl⟩,h⟩:=h
  replace ht:txt.length<=1000:=ht
  replace h:okForm (okE n) ρ txt k ps=true:=h
  unfold okForm at h
  have hx:okK (0,txt):=⟨show 0<3 by decide,show txt.length<=100000000 by omega⟩
  have hlen:ρ.length+1<=1000000:=by omega
  split at h
  ·have:txt=[48]:=by simpa using h
   subst this
   exact ex0 hB hn
  ·exact ex2 hB hn
  ·obtain⟨i,hi⟩:=Option.isSome_iff_exists.1 h
   have:=ex3 hx hi hB hn
   rw[cdOf,hi]
   exact this
  ·rename_i a
   show Calls prog 72 #[ptrV bb,ptrV nb] w (BA mb tb bb ρ ⟨5,0,txt,[cdOf n (txt::ρ) a],[]⟩ w)
   exact ex5 hx hlen hB hn fun u b hu hb=>ih _ _ u b h hu hb
  ·rename_i a b
   simp only[Bool.and_eq_true]at h
   show Calls prog 72 #[ptrV bb,ptrV nb] w (BA mb tb bb ρ ⟨6,0,txt,[cdOf n ρ a,cdOf n (txt::ρ) b],[]⟩ w)
   exact ex6 hx hlen hB hn (fun u q hu hq=>ih _ _ u q h.1 hu hq) (fun u q hu hq=>ih _ _ u q h.2 hu hq)
  ·rename_i a b d
   simp only[Bool.and_eq_true]at h
   show Calls prog 72 #[ptrV bb,ptrV nb] w (BA mb tb bb ρ ⟨8,0,txt,[cdOf n ρ a,cdOf n ρ b,cdOf n ρ d],[]⟩ w)
   refine exC8 hB hn fun u hu=>composed8 (hB.stays hu) (hB.tree (hu.wide fun _ _ h=>h.elim) hn) (fun i nd b' c v h1 h2 h3 h4=>?_)
   match i,h1,h2 with
   |0,h1,h2=>cases h1;cases h2;exact ih _ _ v b' h.1.1 h3 h4
   |1,h1,h2=>cases h1;cases h2;exact ih _ _ v b' h.1.2 h3 h4
   |2,h1,h2=>cases h1;cases h2;exact ih _ _ v b' h.2 h3 h4
   |i+3,h1,_=>simp at h1
  ·rename_i a b
   simp only[Bool.and_eq_true]at h
   show Calls prog 72 #[ptrV bb,ptrV nb] w (BA mb tb bb ρ ⟨9,0,txt,[cdOf n ρ a,cdOf n ρ b],[]⟩ w)
   refine exC9 hB hn fun u hu=>composed9 (hB.stays hu) (hB.tree (hu.wide fun _ _ h=>h.elim) hn) (fun i nd b' c v h1 h2 h3 h4=>?_)
   match i,h1,h2 with
   |0,h1,h2=>cases h1;cases h2;exact ih _ _ v b' h.1 h3 h4
   |1,h1,h2=>cases h1;cases h2;exact ih _ _ v b' h.2 h3 h4
   |i+2,h1,_=>simp at h1
  ·rename_i a b
   simp only[Bool.and_eq_true]at h
   show Calls prog 72 #[ptrV bb,ptrV nb] w (BA mb tb bb ρ ⟨10,0,txt,[cdOf n ρ a,cdOf n ρ b],[]⟩ w)
   refine exC10 hB hn fun u hu=>composed10 (hB.stays hu) (hB.tree (hu.wide fun _ _ h=>h.elim) hn) (fun i nd b' c v h1 h2 h3 h4=>?_)
   match i,h1,h2 with
   |0,h1,h2=>cases h1;cases h2;exact ih _ _ v b' h.1 h3 h4
   |1,h1,h2=>cases h1;cases h2;exact ih _ _ v b' h.2 h3 h4
   |i+2,h1,_=>simp at h1
  ·rename_i a b
   simp only[Bool.and_eq_true]at h
   have hop:txt=[43]\/txt=[60]:=by simpa using h.1.1
   show Calls prog 72 #[ptrV bb,ptrV nb] w (BA mb tb bb ρ ⟨11,0,txt,[cdOf n ρ a,cdOf n ρ b],[]⟩ w)
   refine exC11 hB hn fun u hu=>composed11 (hB.stays hu) (hB.tree (hu.wide fun _ _ h=>h.elim) hn) hop (fun i nd b' c v h1 h2 h3 h4=>?_)
   match i,h1,h2 with
   |0,h1,h2=>cases h1;cases h2;exact ih _ _ v b' h.1.2 h3 h4
   |1,h1,h2=>cases h1;cases h2;exact ih _ _ v b' h.2 h3 h4
   |i+2,h1,_=>simp at h1
  ·rename_i a
   show Calls prog 72 #[ptrV bb,ptrV nb] w (BA mb tb bb ρ ⟨12,0,txt,[cdOf n ρ a],[]⟩ w)
   refine exC12 hB hn fun u hu=>composed12 (hB.stays hu) (hB.tree (hu.wide fun _ _ h=>h.elim) hn) (fun i nd b' c v h1 h2 h3 h4=>?_)
   match i,h1,h2 with
   |0,h1,h2=>cases h1;cases h2;exact ih _ _ v b' h h3 h4
   |i+1,h1,_=>simp at h1
  ·rename_i a b
   simp only[Bool.and_eq_true]at h
   show Calls prog 72 #[ptrV bb,ptrV nb] w (BA mb tb bb ρ ⟨13,0,txt,[cdOf n ρ a,cdOf n ρ b],[]⟩ w)
   refine exC13 hB hn fun u hu=>composed13 (hB.stays hu) (hB.tree (hu.wide fun _ _ h=>h.elim) hn) (fun i nd b' c v h1 h2 h3 h4=>?_)
   match i,h1,h2 with
   |0,h1,h2=>cases h1;cases h2;exact ih _ _ v b' h.1 h3 h4
   |1,h1,h2=>cases h1;cases h2;exact ih _ _ v b' h.2 h3 h4
   |i+2,h1,_=>simp at h1
  ·cases h
end
section
variable {mb tb bb:Nat}{ρ:List Nm}{w:World}
theorem bindRec{nb Kb:Nat}{csb:Array Value}{txt:Nm}{a:Nd}{r:List Nd}{ca cb:Cd}(hr:r.length<=100)(hx:okK (0,txt))(hlen:ρ.length+1<=1000000)(hB:BM mb tb bb ρ ρ.length w)(hn:NMem w (.mk 7 txt (a::r)) nb)(hb:BodyC mb tb bb ρ w txt Kb csb cb)
  (hE:∀u b,BM mb tb bb (txt::ρ) (txt::ρ).length u->NMem u a b->Calls prog 72 #[ptrV bb,ptrV b] u (BA mb tb bb (txt::ρ) ca u)) :
  Calls prog 73 #[ptrV bb,ptrV nb,.func (.func Kb) #[] csb] w (BA mb tb bb ρ ⟨7,0,txt,[ca,cb],[]⟩ w):=by
 have hF:Fresh w ((w.alloc (.cells #[ptrV bb] 136)).alloc (.cells #[ptrV nb] 50)):=((Fresh.refl w).alloc _).alloc _
 have d12:=al2 w (.cells #[ptrV bb] 136) (.cells #[ptrV nb] 50)
 have hn1:=hB.tree (hF.kn.wide fun _ _ h=>h.elim) hn
 have z2:=cell_of' d12.2
 have z3:=cell_of' d12.1
 generalize hw1:(w.alloc (.cells #[ptrV bb] 136)).alloc (.cells #[ptrV nb] 50)=w1 at *
 have hB1:=hB.stays hF.kn
 have hbx:BxN bb nb w.heap.size (w.heap.size+1) w1:=⟨d12.1,d12.2⟩
 obtain⟨g,cap,bl',hp,hm,hbl⟩:=hn1.pt (by simp)
 have hbl1:bl'.length<=1000:=by rw[hbl,length_cons];omega
 obtain⟨ba,hba,_⟩:=hm.at (i:=0) (p:=a) rfl
 have z0:w1.cell? ⟨nb,0,none⟩=some (.int .i64 7):=hp.cells.1
 have hFk:Kn (fun k=>k=tb\/k=bb) w w1:=hF.kn.wide fun _ _ h=>h.elim
 have hcl:∀v,Kn (fun k=>k=tb\/k=bb) w1 v->v.cell? ⟨w.heap.size,0,none⟩=some (ptrV bb)/\v.cell? ⟨w.heap.size+1,0,none⟩=some (ptrV nb)/\v.cell? ⟨nb,1,none⟩=some (.string (bs txt)):=fun v hv=>⟨cell_of' (hbx.kept hB1 hv).b,cell_of' (hbx.kept hB1 hv).n,(hB1.pt hv hp).cells.2.1⟩
 have hA:∀u g,Kn (fun _=>False) w1 u->Row txt g u->Calls prog 41 #[ptrV bb,.func (.func 114) #[] #[ptrV w.heap.size,ptrV (w.heap.size+1)],.slice (some ⟨g,0,none⟩) 1 1] u fun e u2=>∃K1 cs1,e=.returned (.func (.func K1) #[] cs1)/\(u2.cell? ⟨w.heap.size,0,none⟩=some (ptrV bb)/\u2.cell? ⟨w.heap.size+1,0,none⟩=some (ptrV nb)/\u2.cell? ⟨nb,1,none⟩=some (.string (bs txt)))/\Hid (∀g,Row txt g u->Row txt g u2)/\Hid (∀v g,Kn (fun _=>False) u2 v->Row txt g v->Calls prog 41 #[ptrV bb,.func (.func Kb) #[] csb,.slice (some ⟨g,0,none⟩) 1 1] v fun e u3=>∃K2 cs2,e=.returned (.func (.func K2) #[] cs2)/\(u3.cell? ⟨w.heap.size,0,none⟩=some (ptrV bb)/\u3.cell? ⟨w.heap.size+1,0,none⟩=some (ptrV nb)/\u3.cell? ⟨nb,1,none⟩=some (.string (bs txt)))/\Hid (Calls prog 115 #[.func (.func K1) #[] cs1,.func (.func K2) #[] cs2] u3 fun e u4=>BA mb tb bb ρ ⟨7,0,txt,[ca,cb],[]⟩ w e u4/\(u4.cell? ⟨w.heap.size,0,none⟩=some (ptrV bb)/\u4.cell? ⟨w.heap.size+1,0,none⟩=some (ptrV nb)/\u4.cell? ⟨nb,1,none⟩=some (.string (bs txt))))):=fun u g0 hu hg0=>by
  have hu':Kn (fun k=>k=tb\/k=bb) w1 u:=hu.wide fun _ _ h=>h.elim
  refine(withinG (c:=ca) Enters.xb1 hx hlen (hB1.stays hu) hg0 (fun v h1 h2=>?_)).mono ?_
  ·have hv:=hu'.trans h1
   refine clo_b1 (hbx.kept hB1 hv) (hB1.pt hv hp) hba hbl1 (fun v2 hv2=>?_)
   have hv3:Kn (fun k=>k=tb\/k=bb) w1 v2:=hv.trans (hv2.wide fun _ _ h=>h.elim)
   have hm2:NMem.NMems v2 (a::r) bl':=hm.kept (fun k c f hc=>hv3.block k (lt_of_heap hc) fun e=>by rcases e with e|e;exact hB1.not_tb hc e;exact hB1.not_bb hc (by decide) e) (fun k c f hc=>hv3.block k (lt_of_heap hc) fun e=>by rcases e with e|e;exact hB1.not_tb hc e;exact hB1.not_bb hc (by decide) e)
   obtain⟨bb',hbb',hnm⟩:=hm2.at (i:=0) (p:=a) rfl
   rw[hba]at hbb'
   cases hbb'
   exact hE v2 ba (h2.stays hv2) hnm
  ·rintro e u2⟨K1,cs1,rfl,q1,q2,q3⟩
   have k2:=hu'.trans q2
   refine⟨K1,cs1,rfl,hcl u2 k2,fun g hg=>hg.kept (hB1.stays hu) q2,fun v g hv hg=>?_⟩
   have hv':Kn (fun k=>k=tb\/k=bb) u2 v:=hv.wide fun _ _ h=>h.elim
   refine(withinG (c:=cb) hb.1 hx hlen (q1.stays hv) hg (fun v2 h1 h2=>hb.2 v2 (((hFk.trans k2).trans hv').trans h1) h2)).mono ?_
   rintro e u3⟨K2,cs2,rfl,p1,p2,p3⟩
   have k3:=(k2.trans hv').trans p2
   refine⟨K2,cs2,rfl,hcl u3 k3,(b_rec (nm:=txt) p1 (q3.kept (q1.kr (hv'.trans p2))) p3).mono fun e u4 ha=>?_⟩
   have hk4:Kn (fun k=>k=tb\/k=bb) u3 u4:=by obtain⟨_,_,_,_,h,_⟩:=ha;exact h
   exact⟨ha.behind (hFk.trans k3),hcl u4 (k3.trans hk4)⟩
 have HA:=hide hA
 obtain⟨c1a,c2a,c3a⟩:=hcl w1.drew ((Kn.drewF w1).wide fun _ _ h=>h.elim)
 clear hE hn hn1 d12 hF hB hA hB1 hbx hp hm hba hbl hbl1 hcl hb hFk
 unfold ptrV Row at *
 generalize bs txt=tx at *
 have hne:((7:Int)==7)=true:=by decide
 have k1:=Kn.a1 w1 (.cells #[.string tx] tyStr)
 have k2:=Kn.a2 w1 (.cells #[.string tx] tyStr) (.cells #[.string tx] tyStr)
 have r1:(w1.alloc (.cells #[.string tx] tyStr)).drew.heap[w1.heap.size]?=some (.cells #[.string tx] tyStr (0,0)):=al1 w1 _
 have r2:((w1.alloc (.cells #[.string tx] tyStr)).alloc (.cells #[.string tx] tyStr)).drew.heap[w1.heap.size]?=some (.cells #[.string tx] tyStr (0,0)):=(al2 w1 _ _).1
 have r3:((w1.alloc (.cells #[.string tx] tyStr)).alloc (.cells #[.string tx] tyStr)).drew.heap[w1.heap.size+1]?=some (.cells #[.string tx] tyStr (0,0)):=(al2 w1 _ _).2
 have HKs:=hide (And.intro k1 k2)
 have HRs:=hide (And.intro r1 (And.intro r2 r3))
 have hKn:∀u:World,Kn (fun _=>False) u u/\Kn (fun _=>False) u (u.alloc (.cells #[.string tx] tyStr))/\(u.alloc (.cells #[.string tx] tyStr)).heap[u.heap.size]?=some (.cells #[.string tx] tyStr (0,0)):=fun u=>⟨Kn.refl _ _,(Kn.refl _ _).alloc _,al1 _ _⟩
 have HKn:=hide hKn
 clear k1 k2 r1 r2 r3 hKn
 go_enter func73,ntmps73
 go_wp2_with fail
 go_region_held2 (fun w'=>w'.cell? ⟨w.heap.size,0,none⟩=some (.pointer (some ⟨bb,0,none⟩))/\w'.cell? ⟨w.heap.size+1,0,none⟩=some (.pointer (some ⟨nb,0,none⟩))/\w'.cell? ⟨nb,1,none⟩=some (.string tx)) (first|exact⟨c1a,c2a,c3a⟩|exact⟨cell_alloc_old c1a,cell_alloc_old c2a,cell_alloc_old c3a⟩|exact⟨cell_alloc_old (cell_alloc_old c1a),cell_alloc_old (cell_alloc_old c2a),cell_alloc_old (cell_alloc_old c3a)⟩)
  (first
   |(go_at_call 41;first
     |((with_reducible refine(HA.out _ w1.heap.size HKs.out.1 HRs.out.1).mono ?_);rintro e u2⟨K1,cs1,rfl,⟨c1a,c2a,c3a⟩,H1,H2⟩)
     |((with_reducible refine(HA.out _ w1.heap.size HKs.out.2 HRs.out.2.1).mono ?_);rintro e u2⟨K1,cs1,rfl,⟨c1a,c2a,c3a⟩,H1,H2⟩;have HR:=hide (H1.out _ HRs.out.2.2))
     |((with_reducible refine(HA.out _ (w1.heap.size+1) HKs.out.2 HRs.out.2.2).mono ?_);rintro e u2⟨K1,cs1,rfl,⟨c1a,c2a,c3a⟩,H1,H2⟩;have HR:=hide (H1.out _ HRs.out.2.1))
     |((with_reducible refine(H2.out _ _ (HKn.out u2).1 HR.out).mono ?_);rintro e u3⟨K2,cs2,rfl,⟨c1a,c2a,c3a⟩,HC⟩)
     |((with_reducible refine(H2.out _ _ (HKn.out u2).2.1 (HKn.out u2).2.2).mono ?_);rintro e u3⟨K2,cs2,rfl,⟨c1a,c2a,c3a⟩,HC⟩))
   |(go_at_call 115;(refine(HC.out).mono ?_);rintro e u4⟨hq,c1a,c2a,c3a⟩;obtain⟨Kr,csr,rfl,hq2⟩:=hq;have HQ:=hide (show BA mb tb bb ρ _ w _ u4 from⟨Kr,csr,rfl,hq2⟩);clear hq2))
 all_goals
  go_wp2
  refine bodyPost_ret (v:=.func (.func Kr) #[] csr) (by simp[results,results73,go_sem]) rfl HQ.out
end
section
variable {mb tb bb:Nat}{ρ:List Nm}{w:World}
structure DlAt(g off cp:Nat)(l:List Nd)(w:World):Prop where
 row:∃cs:Array Value,w.heap[g]?=some (.cells cs tyTreeP (0,0))/\∀(j:Nat)(nd:Nd),l[j]?=some nd->∃b,cs[off+j]?=some (ptrV b)/\NMem w nd b
 cap:l.length<=cp
 len:l.length<=100000
theorem DlAt.kept{g off cp:Nat}{l:List Nd}{u:World}(h:DlAt g off cp l w)(hB:BM mb tb bb ρ ρ.length w)(hk:Kn (fun k=>k=tb\/k=bb) w u):DlAt g off cp l u:=by
 obtain⟨cs,h1,h2⟩:=h.row
 refine⟨⟨cs,(hk.block g (lt_of_heap h1) fun e=>by rcases e with e|e;exact hB.not_tb h1 e;exact hB.not_bb h1 (by decide) e).trans h1,fun j nd hj=>?_⟩,h.cap,h.len⟩
 obtain⟨b,h3,h4⟩:=h2 j nd hj
 exact⟨b,h3,hB.tree hk h4⟩
theorem DlAt.tail{g off cp:Nat}{d:Nd}{l:List Nd}(h:DlAt g off cp (d::l) w):DlAt g (off+1) (cp-1) l w:=by
 obtain⟨cs,h1,h2⟩:=h.row
 have h3:=h.cap
 have h4:=h.len
 rw[length_cons]at h3 h4
 refine⟨⟨cs,h1,fun j nd hj=>?_⟩,by omega,by omega⟩
 obtain⟨b,h5,h6⟩:=h2 (j+1) nd (by simpa using hj)
 exact⟨b,by rw[show off+1+j=off+(j+1) by omega];exact h5,h6⟩
theorem DlAt.first{g off cp:Nat}{d:Nd}{l:List Nd}(h:DlAt g off cp (d::l) w):∃b,w.cell? ⟨g,off,none⟩=some (ptrV b)/\NMem w d b:=by
 obtain⟨cs,h1,h2⟩:=h.row
 obtain⟨b,h5,h6⟩:=h2 0 d rfl
 exact⟨b,by simp[World.cell?,h1];simpa using h5,h6⟩
theorem Enters.prog1:Enters 70:=enters func70 (by kernel_rfl) rfl
theorem clo_progA{g off cp s1 s2 n:Nat}{c:Cd}(h1:w.heap[s1]?=some (.cells #[ptrV bb] 136 (0,0)))(h2:w.heap[s2]?=some (.cells #[.slice (some ⟨g,off,none⟩) 1 1] 36 (0,0)))
  (hE:∀u,Kn (fun _=>False) w u->Calls prog 43 #[ptrV bb,.slice (some ⟨g,off,none⟩) 0 0] u (BA mb tb bb ρ c u)) :
  Calls prog 70 #[ptrV s1,ptrV s2] w (BA mb tb bb ρ c w):=by
 have d1:w.cell? ⟨s1,0,none⟩=some (ptrV bb):=cell_of' h1
 have d2:w.cell? ⟨s2,0,none⟩=some (.slice (some ⟨g,off,none⟩) 1 1):=cell_of' h2
 have HE:=hide (show ∀u,Kn (fun _=>False) w u->Calls prog 43 #[ptrV bb,.slice (some ⟨g,off,none⟩) 0 0] u (BA mb tb bb ρ c w)from fun u hu=>(hE u hu).mono fun e u2 ha=>ha.behind (hu.wide fun _ _ h=>h.elim))
 have HV:=hide (Kn.drewF w)
 clear hE h1 h2
 unfold ptrV at *
 go_enter func70,ntmps70
 go_wp2_with fail
 go_region_with ((refine(HE.out _ HV.out).mono ?_);intro e u hq;obtain⟨Kr,csr,rfl,hq2⟩:=hq;have HQ:=hide (show BA mb tb bb ρ c w _ u from⟨Kr,csr,rfl,hq2⟩);clear hq2)
 all_goals
  go_wp2
  refine bodyPost_ret (v:=.func (.func Kr) #[] csr) (by simp[results,results70,go_sem]) rfl HQ.out
theorem clo_progB{g off cp s1 s2 n:Nat}{c:Cd}(h1:w.heap[s1]?=some (.cells #[ptrV bb] 136 (0,0)))(h2:w.heap[s2]?=some (.cells #[.slice (some ⟨g,off,none⟩) (n+1) (cp+1+1)] 36 (0,0)))(hsl:(Instr.slice 36 (.slice (some ⟨g,off,none⟩) (n+1) (cp+1+1)) (some (.int .i64 1)) none none).run prog w.drew=.ok (.slice (some ⟨g,off+1,none⟩) n (cp+1)) w.drew)
  (hE:∀u,Kn (fun _=>False) w u->Calls prog 43 #[ptrV bb,.slice (some ⟨g,off+1,none⟩) n (cp+1)] u (BA mb tb bb ρ c u)) :
  Calls prog 70 #[ptrV s1,ptrV s2] w (BA mb tb bb ρ c w):=by
 have d1:w.cell? ⟨s1,0,none⟩=some (ptrV bb):=cell_of' h1
 have d2:w.cell? ⟨s2,0,none⟩=some (.slice (some ⟨g,off,none⟩) (n+1) (cp+1+1)):=cell_of' h2
 have HE:=hide (show ∀u,Kn (fun _=>False) w u->Calls prog 43 #[ptrV bb,.slice (some ⟨g,off+1,none⟩) n (cp+1)] u (BA mb tb bb ρ c w)from fun u hu=>(hE u hu).mono fun e u2 ha=>ha.behind (hu.wide fun _ _ h=>h.elim))
 have HV:=hide (Kn.drewF w)
 clear hE h1 h2
 unfold ptrV at *
 go_enter func70,ntmps70
 go_wp2_with fail
 go_region_with ((refine(HE.out _ HV.out).mono ?_);intro e u hq;obtain⟨Kr,csr,rfl,hq2⟩:=hq;have HQ:=hide (show BA mb tb bb ρ c w _ u from⟨Kr,csr,rfl,hq2⟩);clear hq2)
 all_goals
  go_wp2
  refine bodyPost_ret (v:=.func (.func Kr) #[] csr) (by simp[results,results70,go_sem]) rfl HQ.out
end
end Go.Proofs.YtbkiipiocpnnnaaGreatDoor
