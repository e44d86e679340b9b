import Derived.Test.YtcbppnefeonmgaaGreatDoorC25
set_option linter.all false
set_option maxHeartbeats 40000000
set_option maxRecDepth 100000
open Go.Proofs.Tryz
open Or (inl inr)
open Option (map_eq_some_iff)
open Nat (le_refl le_trans zero_le)
open List (append_nil length_append length_cons mem_singleton append_assoc mem_cons length_nil map_append map_cons)
namespace Go.Proofs.YtcbppnefeonmgaaGreatDoor
section
open Go.RowKit
section
variable {ar:Nm->Nat}{ad:List Nat}{Y:Nat->Prop}{rk:Nat->Nat}{σ:TS}{ρ:Env}{tb yb d:Nat}{gv:Value}{w w':World}{nb:Nat}{txt:Nm}
def rowO(op:Option (TS×List (Nm×Nat)))(oe:List (Nm×Nat)->TS->Option TS):Option TS:=op.bind fun r=>oe r.2 r.1
theorem row_facts{k g cap bp be subj ans:Nat}{op:Option (TS×List (Nm×Nat))}{oe:List (Nm×Nat)->TS->Option TS}(h:YM ar ad Y rk σ ρ tb yb d gv w)(hp:PtAt nb k txt g cap [bp,be] w)(hs:subj<σ.nodes.length)(hn:ans<σ.nodes.length)
  (hok:∀σ' vs,op=some (σ',vs)->∀x∈vs,okK (0,x.1))
  (hP:Calls prog 222 #[ptrV w.heap.size,ptrV bp,adV ad subj] (w.alloc (.cells #[ptrV yb,.slice none 0 0] tyRT)) (AnC Prod.fst (EP 0 w.heap.size yb) w.heap.size ar ad Y ρ tb yb d gv (.slice none 0 0) op (w.alloc (.cells #[ptrV yb,.slice none 0 0] tyRT))))
  (hE:∀u l σ' vs rk' gv',Kn (Dm ad tb yb gv) w u->op=some (σ',vs)->YM ar (ad++l) Y rk' σ' (bindTs ρ vs) tb yb d gv' u->Calls prog 116 #[ptrV yb,ptrV be,adV (ad++l) ans] u (AnEx ar (ad++l) Y (bindTs ρ vs) tb yb d gv' (oe vs σ') u)) :
  Calls prog 222 #[ptrV w.heap.size,ptrV bp,adV ad subj] (w.alloc (.cells #[ptrV yb,.slice none 0 0] tyRT)) fun e u2=>(e=noTy/\AnEx ar ad Y ρ tb yb d gv (rowO op oe) w noTy u2)\/(e=.returned (.tuple #[])/\∃(av:Option Addr) (vn cv:Nat) (RW:Nat->List Deferred->World->Prop),vn<=9223372036854775807/\u2.cell? ⟨w.heap.size,1,none⟩=some (.slice av vn cv)/\RW 0 [] u2 /\
   (∀i D wr,RW i D wr->i<vn->∃g' tx bt,av=some ⟨g',0,none⟩/\wr.cell? ⟨g',i*2,none⟩=some (.string tx)/\wr.cell? ⟨g',i*2+1,none⟩=some (ptrV bt)/\g'<wr.heap.size/\w.heap.size<=wr.heap.size/\∀u,Kn (fun _=>False) wr u->u.cell? ⟨yb,0,none⟩=some (.map (some tb)) /\
    Calls prog 136 #[.map (some tb),.agg #[.int .i64 0,.string tx],.agg #[ptrV bt,.string ⟨#[]⟩,.slice none 0 0,.slice none 0 0,.int .i64 0,.int .i64 0]] u fun e u'=>e=.returned (unbV u.heap.size)/\u'.cell? ⟨yb,0,none⟩=some (.map (some tb))/\(∀mb,u.heap.size>mb->mb≠tb->u'.heap[mb]?=u.heap[mb]?)/\Hid (RW (i+1) (unbD u.heap.size::D) u')) /\
   (∀D wr,RW vn D wr->Two nb g cap bp be wr/\Calls prog 116 #[ptrV yb,ptrV be,adV ad ans] wr fun e w7=>(e=noTy/\∀tmps,Leaves prog f204 tmps (AnEx ar ad Y ρ tb yb d gv (rowO op oe) w) D (.panicking [{ v:=noTypeV,recovered:=false }]) w7)\/(e=.returned (.tuple #[])/\∀tmps,Leaves prog f204 tmps (AnEx ar ad Y ρ tb yb d gv (rowO op oe) w) D .returning w7))):=by
 refine hP.mono fun e u2 ha=>?_
 obtain⟨hk2,ha⟩:=ha
 have hk0:Kn (Dm ad tb yb gv) w (w.alloc (.cells #[ptrV yb,.slice none 0 0] tyRT)):=(Kn.refl _ w).alloc _
 have hkw:Kn (Dm ad tb yb gv) w u2:=hk0.trans' hk2 fun k hk hd=>by
  rcases hd with hd|hd|hd
  ·exact hd
  ·omega
  ·simp[Value.ownBlock]at hd
 have hsz:w.heap.size<=(w.alloc (.cells #[ptrV yb,.slice none 0 0] tyRT)).heap.size:=by rw[alloc_size];omega
 rcases ha with⟨a1,a2,a3⟩|⟨⟨σ',vs⟩,l,rk',gv',vv',a1,a2,a4,a5,a6,a7,a8⟩
 ·exact inl ⟨a2,AnEx.panic (by rw[a1];rfl) hkw a3⟩
 have hbt:Bt ad tb yb gv w l gv' u2:=⟨hkw,fun b hb=>le_trans hsz (a6 b hb),fun b hb=>(a7 b hb).imp id (le_trans hsz)⟩
 have hrow:=a5.2.1
 have hvl:=a5.2.2.1
 obtain⟨av,cv,rfl⟩:∃a c,vv'=.slice a vs.length c:=by
  rcases ownsRow_forms hrow with⟨h,h0⟩|⟨g,cap,h⟩
  ·exact⟨none,0,by rw[h];show _=Value.slice none vs.length 0;rw[show vs.length=0 from h0]⟩
  ·exact⟨_,cap,h⟩
 have hoe:rowO op oe=oe vs σ':=by rw[a1];rfl
 refine inr ⟨a2,av,vs.length,cv,fun i D wr=>RwAt ar (ad++l) Y rk' σ' ρ tb yb d gv' (fun o e w'=>AnEx ar ad Y ρ tb yb d gv o w e w') u2 vs i D wr,ownsRow_max hrow,a5.cell1,RwAt.start a4 (fun o e w' hq=>AnEx.behind hbt hq),?_,?_⟩
 ·intro i D wr hrw hi
  have hv:vs[i]?=some vs[i]:=List.getElem?_eq_getElem hi
  have hmem:=List.mem_of_getElem? hv
  generalize vs[i]=x at hv hmem
  obtain⟨x,t⟩:=x
  have hrow2:wr.ownsRow 0 tyBg 2 (.slice av vs.length cv) vs.length (bgCells (ad++l) vs):=ownsRow_kept hrow fun q c f _ hc=>hrw.kn.block q (lt_of_heap hc) (a4.dm_not hc (by decide) (by decide) (by decide))
  obtain⟨g',hg'⟩:∃g',av=some ⟨g',0,none⟩:=by
   rcases ownsRow_forms hrow2 with⟨h,h0⟩|⟨g,cap,h⟩
   ·have h0:vs.length=0:=h0
    omega
   ·cases h;exact⟨g,rfl⟩
  subst hg'
  obtain⟨b1,b2⟩:=bgCells_at (ad:=ad++l) hv
  have htl:t<σ'.nodes.length:=by rw[<- a4.len];exact hvl _ hmem
  refine⟨g',bs x,adA (ad++l) t,rfl,?_,?_,(hrow2.lt g' rfl).2,le_trans hkw.size hrw.kn.size,fun u hu=>⟨by simp[World.cell?,(hrw.ym.stays hu).typ],(hrw.bind hv (hok _ _ a1 _ hmem) htl hu).mono ?_⟩⟩
  ·rw[hrow2.cellAt (i*2) (by omega),b1]
  ·rw[hrow2.cellAt (i*2+1) (by omega),b2];rfl
  ·rintro e u'⟨e1,e2,e3⟩
   exact⟨e1,by simp[World.cell?,e3.ym.typ],fun mb hmb hne=>e2.block mb hmb hne,hide e3⟩
 ·intro D wr hrw
  have hkr:Kn (Dm ad tb yb gv) w wr:=hkw.trans' hrw.kn fun k hk hd=>hbt.dm hk hd
  have hym:=hrw.ym
  have hlv:=hrw.lv
  rw[List.take_length]at hym hlv
  refine⟨(h.pt hkr hp).two,?_⟩
  have hc:=hE wr l σ' vs rk' gv' hkr a1 hym
  rw[adV_app l (by rw[h.len];exact hn)]at hc
  refine hc.mono fun e w7 ha=>?_
  rw[hoe]
  have hl:=fun tmps=>hlv _ e w7 tmps ha
  rcases ha.cases with⟨_,q2,_⟩|⟨_,_,_,_,_,q2,_⟩
  ·subst q2;exact inl ⟨rfl,hl⟩
  ·subst q2;exact inr ⟨rfl,hl⟩
theorem row_of{k g cap bp be subj ans:Nat}{op:Option (TS×List (Nm×Nat))}{oe:List (Nm×Nat)->TS->Option TS}(h:YM ar ad Y rk σ ρ tb yb d gv w)(hp:PtAt nb k txt g cap [bp,be] w)(hs:subj<σ.nodes.length)(hn:ans<σ.nodes.length)
  (hok:∀σ' vs,op=some (σ',vs)->∀x∈vs,okK (0,x.1))
  (hP:Calls prog 222 #[ptrV w.heap.size,ptrV bp,adV ad subj] (w.alloc (.cells #[ptrV yb,.slice none 0 0] tyRT)) (AnC Prod.fst (EP 0 w.heap.size yb) w.heap.size ar ad Y ρ tb yb d gv (.slice none 0 0) op (w.alloc (.cells #[ptrV yb,.slice none 0 0] tyRT))))
  (hE:∀u l σ' vs rk' gv',Kn (Dm ad tb yb gv) w u->op=some (σ',vs)->YM ar (ad++l) Y rk' σ' (bindTs ρ vs) tb yb d gv' u->Calls prog 116 #[ptrV yb,ptrV be,adV (ad++l) ans] u (AnEx ar (ad++l) Y (bindTs ρ vs) tb yb d gv' (oe vs σ') u)) :
  Calls prog 204 #[ptrV yb,ptrV nb,adV ad subj,adV ad ans] w (AnEx ar ad Y ρ tb yb d gv (rowO op oe) w):=by
 have hf:=row_facts h hp hs hn hok hP hE
 obtain⟨c1,c2,c3⟩:=hp.two
 have d1:(w.alloc (.cells #[ptrV yb,.slice none 0 0] tyRT)).cell? ⟨nb,2,none⟩=some (.slice (some ⟨g,0,none⟩) 2 cap):=cell_alloc_old c1
 have d2:(w.alloc (.cells #[ptrV yb,.slice none 0 0] tyRT)).cell? ⟨g,0,none⟩=some (ptrV bp):=cell_alloc_old c2
 have htb:tb<w.heap.size:=h.tb_lt
 have HF:=hide hf
 have hK:=fun(tx:ByteArray) (u:World)=>key0_any tx u
 have HK:=hide hK
 clear hf hok hP hE h hp hK hs hn
 generalize AnEx ar ad Y ρ tb yb d gv (rowO op oe) w=Q at *
 unfold noTy noTypeV Two adV ptrV at *
 generalize adA ad subj=sb at *
 generalize adA ad ans=ab at *
 go_enter_defers func204,ntmps204
 go_wp2_with fail
 refine(HF.out).mono ?_;rintro e u2 (⟨rfl,hq⟩|⟨rfl,av,vn,cv,RW,hvn,cr,hr0,hrs,hre⟩)
 ·have HG:=hide hq
  clear hq HF
  go_wp2
  exact HG.out
 have HR0:=hide hr0
 have HRS:=hide hrs
 have HRE:=hide hre
 clear hr0 hrs hre HF d1 d2 c1 c2 c3
 generalize hrb:w.heap.size=rb at *
 go_wp2_with fail
 refine wp_loop_ghost_k (fun gk a' w'=>∃(i:Nat) (D:List Deferred) (u10 u25 u26 u27 u28 u29 u30 u31 u32 u33 u34 u35 u36 u37 u38 u39:Value),i+gk=vn/\Hid (RW i D w')/\a'={ tmps:=#[.pointer (some ⟨yb,0,none⟩),.pointer (some ⟨nb,0,none⟩),.pointer (some ⟨sb,0,none⟩),.pointer (some ⟨ab,0,none⟩),undef,undef,undef,undef,.pointer (some ⟨rb,0,none⟩),undef,u10,.pointer (some ⟨yb,0,none⟩),.agg #[.pointer (some ⟨yb,0,none⟩),.slice none 0 0],.pointer (some ⟨nb,0,none⟩),.pointer (some ⟨nb,0,none⟩),.pointer (some ⟨nb,2,none⟩),.slice (some ⟨g,0,none⟩) 2 cap,.pointer (some ⟨g,0,none⟩),.pointer (some ⟨bp,0,none⟩),.pointer (some ⟨sb,0,none⟩),.tuple #[],.pointer (some ⟨rb,1,none⟩),.slice av vn cv,.int .i64 vn,.int .i64 (i:Nat),u25,u26,u27,u28,u29,u30,u31,u32,u33,u34,u35,u36,u37,u38,u39,undef,undef,undef,undef,undef,undef,undef,undef,undef],defers:=D }) vn ⟨0,[],undef,undef,undef,undef,undef,undef,undef,undef,undef,undef,undef,undef,undef,undef,undef,undef,by omega,HR0,rfl⟩ ?_
 rintro gk a' wr⟨i,D,u10,u25,u26,u27,u28,u29,u30,u31,u32,u33,u34,u35,u36,u37,u38,u39,hi,HR,rfl⟩ J KK hJ hKK
 clear HR0 cr
 by_cases hlt:i<vn
 ·obtain⟨g',tx,bt,rfl,e1,e2,e3,e4,hu⟩:=HRS.out i D wr HR.out hlt
  have hlt3:(i:Int)<(vn:Int):=by omega
  have hne:wr.heap.size≠tb:=by omega
  have hV0:∀(o:Obj),(∃c t,o=.cells #[.string tx,.pointer (some ⟨bt,0,none⟩)] t/\c=t)->(fun u:World=>Kn (fun _=>False) wr u/\u.heap[wr.heap.size]?=some (.cells #[.string tx,.pointer (some ⟨bt,0,none⟩)] tyBg (0,0))) (World.drew (World.alloc wr (.cells #[.string tx,.pointer (some ⟨bt,0,none⟩)] tyBg))):=fun o _=>⟨((Kn.refl _ wr).alloc _).drew,(MapKept.heap_alloc wr _).1⟩
  have hV1:=hV0 (.cells #[.string tx,.pointer (some ⟨bt,0,none⟩)] tyBg) ⟨tyBg,tyBg,rfl,rfl⟩
  have hal:∀u o u',(fun u:World=>Kn (fun _=>False) wr u/\u.heap[wr.heap.size]?=some (.cells #[.string tx,.pointer (some ⟨bt,0,none⟩)] tyBg (0,0))) u->u'=World.alloc u o->(fun u:World=>Kn (fun _=>False) wr u/\u.heap[wr.heap.size]?=some (.cells #[.string tx,.pointer (some ⟨bt,0,none⟩)] tyBg (0,0))) u':=fun u o u' hu e=>by
   subst e;exact⟨hu.1.alloc o,by rw[Below.heap_alloc _ _ _ (lt_of_heap hu.2)];exact hu.2⟩
  have hcl:∀u,(fun u:World=>Kn (fun _=>False) wr u/\u.heap[wr.heap.size]?=some (.cells #[.string tx,.pointer (some ⟨bt,0,none⟩)] tyBg (0,0))) u->u.cell? ⟨yb,0,none⟩=some (.map (some tb))/\u.cell? ⟨wr.heap.size,0,none⟩=some (.string tx)/\u.cell? ⟨wr.heap.size,1,none⟩=some (.pointer (some ⟨bt,0,none⟩)):=fun u hv=>⟨(hu u hv.1).1,by simp[World.cell?,hv.2],by simp[World.cell?,hv.2]⟩
  have hbi:∀u,(fun u:World=>Kn (fun _=>False) wr u/\u.heap[wr.heap.size]?=some (.cells #[.string tx,.pointer (some ⟨bt,0,none⟩)] tyBg (0,0))) u->Calls prog 136 #[.map (some tb),.agg #[.int .i64 0,.string tx],.agg #[.pointer (some ⟨bt,0,none⟩),.string ⟨#[]⟩,.slice none 0 0,.slice none 0 0,.int .i64 0,.int .i64 0]] u fun e u'=>∃W,e=.returned (unbV W)/\(u'.cell? ⟨yb,0,none⟩=some (.map (some tb))/\u'.cell? ⟨wr.heap.size,0,none⟩=some (.string tx)/\u'.cell? ⟨wr.heap.size,1,none⟩=some (.pointer (some ⟨bt,0,none⟩)))/\Hid (RW (i+1) (unbD W::D) u'):=fun u hv=>by
   refine((hu u hv.1).2).mono ?_
   rintro e u'⟨q1,q2,q3,q4⟩
   have hb:=q3 wr.heap.size (lt_of_heap hv.2) hne
   exact⟨_,q1,⟨q2,by simp[World.cell?,hb,hv.2],by simp[World.cell?,hb,hv.2]⟩,q4⟩
  generalize (fun u:World=>Kn (fun _=>False) wr u/\u.heap[wr.heap.size]?=some (.cells #[.string tx,.pointer (some ⟨bt,0,none⟩)] tyBg (0,0)))=V at *
  have HV:=hide hV1
  have HAL:=hide hal
  have HCL:=hide hcl
  have HBI:=hide hbi
  have HJ:=hide hJ
  clear hu hV0 hV1 hal hcl hbi HRS HRE HR
  obtain⟨c1a,c2a,c3a⟩:=HCL.out _ HV.out
  unfold unbV at *
  go_wp2_with fail
  go_region_held3 (fun w'=>w'.cell? ⟨yb,0,none⟩=some (.map (some tb))/\w'.cell? ⟨wr.heap.size,0,none⟩=some (.string tx)/\w'.cell? ⟨wr.heap.size,1,none⟩=some (.pointer (some ⟨bt,0,none⟩))) (exact⟨c1a,c2a,c3a⟩)
   (first|(go_at_call 38;refine(HK.out _ _).mono ?_;rintro e u⟨rfl,hu⟩;have HV:=hide (HAL.out _ _ _ HV.out hu);obtain⟨c1a,c2a,c3a⟩:=HCL.out _ HV.out;clear hu)|(go_at_call 136;refine(HBI.out _ HV.out).mono ?_;rintro e u6⟨W,rfl,⟨c1a,c2a,c3a⟩,HRN⟩))
  all_goals
   go_wp2_with fail
   rw[show (i:Int)+1=((i+1:Nat):Int) by omega]
   exact Handed.intro (vn-(i+1)) (by omega) (HJ.out _ _ _ ⟨i+1,unbD W::D,_,_,_,_,_,_,_,_,_,_,_,_,_,_,_,_,by omega,HRN,rfl⟩)
 ·have hin:i=vn:=by omega
  subst hin
  have hlt3:¬(i:Int)<(i:Int):=by omega
  obtain⟨⟨d1,d2,d3⟩,hc⟩:=HRE.out D wr HR.out
  have HC:=hide hc
  clear hc HRS HRE HR
  go_wp2_with fail
  refine(HC.out).mono ?_;rintro e w7 (⟨rfl,hl⟩|⟨rfl,hl⟩)
  ·have HL:=hide hl
   clear hl HC
   go_wp2
   exact HL.out _
  ·have HL:=hide hl
   clear hl HC
   go_wp2
   exact HL.out _
end
end
section
open Go.RowKit
section
variable {ar:Nm->Nat}{ad:List Nat}{Y:Nat->Prop}{rk:Nat->Nat}{σ:TS}{ρ:Env}{tb yb d:Nat}{gv:Value}{w w':World}{nb:Nat}{txt:Nm}
def rowsO(f:Nd->TS->Option TS):List Nd->TS->Option TS
 |[],σ=>some σ
 |x::r,σ=>(f x σ).bind (rowsO f r)
def matchO(d:Nat)(oa:Option (Nat×TS))(oR:Nat->Nat->Nd->TS->Option TS)(rows:List Nd):Option (Nat×TS):=
 oa.bind fun r=>(rowsO (oR r.1 r.2.nodes.length) rows (r.2.letter d).2).map fun s=>(r.2.nodes.length,s)
theorem only_rows{a:Nd}{rows:List Nd}(ha:a.k≠16)(hr:∀x∈rows,x.k=16):only 16 (a::rows)=rows:=by
 unfold only
 rw[List.filter_cons_of_neg (by simpa using ha)]
 exact List.filter_eq_self.2 fun x hx=>by simpa using hr x hx
theorem match_facts{k g cap ba:Nat}{bl:List Nat}{a:Nd}{rows:List Nd}{oa:Option (Nat×TS)}{oR:Nat->Nat->Nd->TS->Option TS}(h:YM ar ad Y rk σ ρ tb yb d gv w)(hn:NMem w (.mk k txt (a::rows)) nb)(hp:PtAt nb k txt g cap (ba::bl) w)(hpl:(a::rows).length<=1000000)(hks:∀p∈a::rows,p.k<=1000)(hak:a.k≠16)(hrk:∀x∈rows,x.k=16)
  (hA:∀u,Kn (Dm ad tb yb gv) w u->YM ar ad Y rk σ ρ tb yb d gv u->Calls prog 141 #[ptrV yb,ptrV ba] u (AnTy ar ad Y ρ tb yb d gv oa u))
  {B:Nat->TS->Prop} (hB0:∀t σ1,oa=some (t,σ1)->B 0 (σ1.letter d).2) (hBs:∀i row t ans σ σ',rows[i]?=some row->B i σ->oR t ans row σ=some σ'->B (i+1) σ')
  (hR:∀i row rb u l t ans σ' rk' gv',rows[i]?=some row->NMem u row rb->YM ar (ad++l) Y rk' σ' ρ tb yb d gv' u->B i σ'->t<σ'.nodes.length->ans<σ'.nodes.length->Calls prog 204 #[ptrV yb,ptrV rb,adV (ad++l) t,adV (ad++l) ans] u (AnEx ar (ad++l) Y ρ tb yb d gv' (oR t ans row σ') u)) {u1:World} (hu1:Kn (fun _=>False) w u1) :
  Calls prog 141 #[ptrV yb,ptrV ba] u1 fun e u2=>(e=noTy/\AnTy ar ad Y ρ tb yb d gv (matchO d oa oR rows) w noTy u2)\/∃bt,e=.returned (ptrV bt)/\First nb k txt g cap bl.length ba u2/\Calls prog 164 #[ptrV yb] u2 fun e u3=>e=.returned (ptrV u2.heap.size)/\First nb k txt g cap bl.length ba u3 /\
   Calls prog 84 #[ptrV nb,.int .i64 (16:Nat)] u3 fun e u4=>∃av nv cv,e=.returned (.slice av nv cv)/\∃RM:Nat->World->Prop,nv<=9223372036854775807/\RM 0 u4 /\
    (∀i wr,RM i wr->i<nv->∃g' b,av=some ⟨g',0,none⟩/\wr.cell? ⟨g',i,none⟩=some (ptrV b)/\g'<wr.heap.size/\Calls prog 204 #[ptrV yb,ptrV b,ptrV bt,ptrV u2.heap.size] wr fun e wr2=>(e=noTy/\AnTy ar ad Y ρ tb yb d gv (matchO d oa oR rows) w noTy wr2)\/(e=.returned (.tuple #[])/\Hid (RM (i+1) wr2))) /\
    ∀wr,RM nv wr->AnTy ar ad Y ρ tb yb d gv (matchO d oa oR rows) w (.returned (ptrV u2.heap.size)) wr:=by
 have hk1:Kn (Dm ad tb yb gv) w u1:=hu1.wide fun _ _ h=>h.elim
 have hb1:Bt ad tb yb gv w [] gv u1:=⟨hk1,by simp,fun _ hb=>inl hb⟩
 refine(hA u1 hk1 (h.stays hu1)).mono fun e u2 ha=>?_
 rcases AnTy.go hb1 (show AnTy ar (ad++[]) Y ρ tb yb d gv oa u1 e u2 by rw[append_nil];exact ha) (o:=matchO d oa oR rows) (fun e=>by rw[e];rfl)with⟨q1,q2⟩|⟨t,σ1,l1,rk1,gv1,q1,q2,q3,q4,q5,_,_⟩
 ·exact inl ⟨q1,q2⟩
 refine inr ⟨_,q2,(h.pt q5.kn hp).first,(yletter_any q4).mono ?_⟩
 rintro e u3⟨rfl,rfl⟩
 have h3:=q4.letter d
 have hnew:=q4.new1
 have hb3:Bt ad tb yb gv w (l1++[u2.heap.size]) gv1 (u2.alloc (.cells #[.string (bs []),.slice none 0 0,.pointer none,.int .i64 d] tyType)):=q5.trans ⟨(Kn.refl _ u2).alloc _,fun b hb=>by rw[mem_singleton.1 hb];exact le_refl _,fun _ hb=>inl hb⟩
 refine⟨rfl,(h.pt hb3.kn hp).first,?_⟩
 have hn3:=h.tree hb3.kn hn
 rw[append_assoc]at h3 hnew
 generalize hl3:l1++[u2.heap.size]=l3 at *
 have htv:adV (ad++l3) t=adV (ad++l1) t:=by rw[<- hl3,<- append_assoc,adV_app _ (by rw[q4.len];exact q3)]
 have hlen3:(σ1.letter d).2.nodes.length=σ1.nodes.length+1:=by simp[TS.letter,TS.new]
 refine(Only_any hn3 hpl hks (by decide)).mono ?_
 rintro e u4⟨av,nv,cv,e1,lr,o1,o2,o3⟩
 rw[only_rows hak hrk]at o2
 have hlr:=o2.len
 obtain⟨rfl,hav⟩:nv=lr.length/\(0<lr.length->∃g',av=some ⟨g',0,none⟩):=by
  rcases ownsRow_forms o1 with⟨h,h0⟩|⟨g,cap,h⟩
  ·cases h;exact⟨h0.symm,fun h=>by omega⟩
  ·cases h;exact⟨rfl,fun _=>⟨g,rfl⟩⟩
 have hy4:=h3.stays o3
 have hb4:Bt ad tb yb gv w l3 gv1 u4:=⟨hb3.kn.trans (o3.wide fun _ _ h=>h.elim),hb3.new,hb3.giv⟩
 refine⟨av,lr.length,cv,e1,fun i wr=>∃l σi rki gvi,YM ar (ad++l) Y rki σi ρ tb yb d gvi wr/\Bt ad tb yb gv w l gvi wr/\rowsO (oR t σ1.nodes.length) (rows.drop i) σi=rowsO (oR t σ1.nodes.length) rows (σ1.letter d).2/\B i σi/\σ1.nodes.length<σi.nodes.length/\t<σi.nodes.length/\(∀j,j<(ad++l3).length->adV (ad++l) j=adV (ad++l3) j)/\wr.ownsRow 0 tyTreeP 1 (.slice av lr.length cv) lr.length (lr.map ptrV)/\NMem.NMems wr rows lr,ownsRow_max o1,?_,?_,?_⟩
 ·exact⟨l3,_,rk1,gv1,hy4,hb4,by simp,hB0 t σ1 q1,by omega,by omega,fun _ _=>rfl,ownsRow_base o1 (zero_le _),o2⟩
 ·rintro i wr⟨l,σi,rki,gvi,y1,y2,y3,y4,y5,y6,y7,y8,y9⟩ hi
  have hri:rows[i]?=some rows[i]:=List.getElem?_eq_getElem (by omega)
  have hdr:rows.drop i=rows[i]::rows.drop (i+1):=List.drop_eq_getElem_cons (by omega)
  generalize rows[i]=row at hri hdr
  obtain⟨b,hb,hm⟩:=y9.at hri
  obtain⟨g',rfl⟩:=hav (by omega)
  refine⟨g',b,rfl,?_,(y8.lt g' rfl).2,?_⟩
  ·rw[y8.cellAt i (by omega),List.getElem?_map,hb];rfl
  ·have hc:=hR i row b wr l t σ1.nodes.length σi rki gvi hri hm y1 y4 y6 y5
   rw[y7 t (by rw[h3.len];omega),htv,y7 _ (by rw[h3.len];omega),hnew]at hc
   refine hc.mono fun e wr2 ha=>?_
   rw[hdr,rowsO]at y3
   rcases AnEx.go y2 ha (o:=matchO d oa oR rows) (fun e=>by unfold matchO;rw[q1,Option.bind_some];simp only;rw[<- y3,e];rfl)with⟨r1,r2⟩|⟨σ2,l2,rk2,gv2,r1,r2,r4,r5,r6,r7⟩
   ·exact inl ⟨r1,r2⟩
   ·rw[r1,Option.bind_some]at y3
    have hl2:=r4.len
    have hli:=y1.len
    have hkk:Kn (Dm (ad++l) tb yb gvi) wr wr2:=ha.1
    have hkt:∀(q:Nat)(c:Array Value)(t:TypeId)(f:Nat×Nat),t=tyTree\/t=tyTreeP->wr.heap[q]?=some (.cells c t f)->wr2.heap[q]?=wr.heap[q]?:=fun q c t f ht hc=>hkk.block q (lt_of_heap hc) (y1.dm_not hc (by rcases ht with rfl|rfl<;>decide) (by rcases ht with rfl|rfl<;>decide) (by rcases ht with rfl|rfl<;>decide))
    refine inr ⟨r2,hide ⟨l2,σ2,rk2,gv2,r4,r5,y3,hBs i row t _ σi σ2 hri y4 r1,by omega,by omega,fun j hj=>?_,ownsRow_kept y8 fun q c f _ hc=>hkt q c _ f (inr rfl) hc,y9.kept (fun q c f hc=>hkt q c _ f (inl rfl) hc) (fun q c f hc=>hkt q c _ f (inr rfl) hc)⟩⟩
    rw[r6 j (by rw[hli];have:=h3.len;omega),y7 j hj]
 ·rintro wr⟨l,σi,rki,gvi,y1,y2,y3,y4,y5,y6,y7,y8,y9⟩
  rw[show lr.length=rows.length from hlr,List.drop_length,rowsO]at y3
  have:=AnTy.ok (o:=matchO d oa oR rows) (t:=σ1.nodes.length) (by unfold matchO;rw[q1,Option.bind_some];simp only;rw[<- y3];rfl) y5 y1 y2
  rw[y7 _ (by rw[h3.len];omega),hnew]at this
  exact this
theorem match_of{k g cap ba:Nat}{bl:List Nat}{a:Nd}{rows:List Nd}{oa:Option (Nat×TS)}{oR:Nat->Nat->Nd->TS->Option TS}(h:YM ar ad Y rk σ ρ tb yb d gv w)(hn:NMem w (.mk k txt (a::rows)) nb)(hp:PtAt nb k txt g cap (ba::bl) w)(hpl:(a::rows).length<=1000000)(hks:∀p∈a::rows,p.k<=1000)(hak:a.k≠16)(hrk:∀x∈rows,x.k=16)
  (hA:∀u,Kn (Dm ad tb yb gv) w u->YM ar ad Y rk σ ρ tb yb d gv u->Calls prog 141 #[ptrV yb,ptrV ba] u (AnTy ar ad Y ρ tb yb d gv oa u))
  {B:Nat->TS->Prop} (hB0:∀t σ1,oa=some (t,σ1)->B 0 (σ1.letter d).2) (hBs:∀i row t ans σ σ',rows[i]?=some row->B i σ->oR t ans row σ=some σ'->B (i+1) σ')
  (hR:∀i row rb u l t ans σ' rk' gv',rows[i]?=some row->NMem u row rb->YM ar (ad++l) Y rk' σ' ρ tb yb d gv' u->B i σ'->t<σ'.nodes.length->ans<σ'.nodes.length->Calls prog 204 #[ptrV yb,ptrV rb,adV (ad++l) t,adV (ad++l) ans] u (AnEx ar (ad++l) Y ρ tb yb d gv' (oR t ans row σ') u)) :
  Calls prog 186 #[ptrV yb,ptrV nb] w (AnTy ar ad Y ρ tb yb d gv (matchO d oa oR rows) w):=by
 have hf:=match_facts h hn hp hpl hks hak hrk hA hB0 hBs hR (Kn.refl _ w)
 have hc0:First nb k txt g cap bl.length ba w:=hp.first
 have HF:=hide hf
 clear hf hA hB0 hBs hR h hn hp hpl hks hak hrk
 generalize AnTy ar ad Y ρ tb yb d gv (matchO d oa oR rows) w=Q at *
 generalize bl.length=pn at *
 unfold noTy noTypeV First ptrV at *
 generalize bs txt=tx at *
 obtain⟨_,_,c1a,c2a⟩:=hc0
 go_enter func186,ntmps186
 go_wp2_with fail
 refine(HF.out).mono ?_;rintro e u2 (⟨rfl,hp⟩|⟨bt,rfl,⟨_,_,c1a,c2a⟩,hc⟩)
 ·exact⟨rfl,hp⟩
 have HC:=hide hc
 clear hc HF
 go_wp2_with fail
 refine(HC.out).mono ?_;rintro e u3⟨rfl,⟨_,_,c1b,c2b⟩,hc⟩
 have HO:=hide hc
 clear hc HC
 go_wp2_with fail
 refine(HO.out).mono ?_;rintro e u4⟨av,nv,cv,rfl,RM,hnv,hr0,hrs,hre⟩
 have HR0:=hide hr0
 have HRS:=hide hrs
 have HRE:=hide hre
 clear hr0 hrs hre HO c1a c2a c1b c2b
 go_wp2_with fail
 go_loopg [22] nv (fun gk v22 wr=>∃i,v22=.int .i64 (i:Nat)/\i+gk=nv/\Hid (RM i wr))
 case atStart=>exact⟨0,rfl,by omega,HR0⟩
 case round=>
  clear HR0
  obtain⟨i,rfl,hi,HR⟩:=hrel
  by_cases hlt:i<nv
  ·obtain⟨g',b,rfl,e1,e2,hc⟩:=HRS.out _ _ HR.out hlt
   have HC:=hide hc
   have hlt3:(i:Int)<(nv:Int):=by omega
   clear hc HRS HRE HR
   go_wp2_with fail
   refine(HC.out).mono ?_;rintro e wr2 (⟨rfl,hq⟩|⟨rfl,HR⟩)
   ·exact⟨rfl,hq⟩
   ·clear HC
    go_wp2_with fail
    go_roundg (nv-(i+1))
    case rel=>exact⟨i+1,by simp,by omega,HR⟩
    case measure=>omega
  ·have hin:i=nv:=by omega
   subst hin
   have hlt3:¬(i:Int)<(i:Int):=by omega
   have HG:=hide (HRE.out _ HR.out)
   clear HRS HRE HR
   go_wp2
   exact HG.out
end
end
section
theorem only_sz{k:Nat}:∀(rows:List Nd),Nd.sz.szs (only k rows)<=Nd.sz.szs rows:=by
 intro rows
 induction rows with
 |nil=>simp[only]
 |cons x r ih=>
  unfold only at *
  rw[List.filter_cons]
  split
  ·rw[Nd.sz.szs,Nd.sz.szs];omega
  ·rw[Nd.sz.szs];omega
section
variable {g:Env->Nat->Nd->TS->Option (Nat×TS)}
theorem exX_given(hg:∀ρ d a σ t σ',g ρ d a σ=some (t,σ')->σ'.given.length<=σ.given.length+a.sz){ρ:Env}{d:Nat}{p:Nd}{want:Nat}{σ σ':TS}(h:exX g ρ d p want σ=some σ'):σ'.given.length<=σ.given.length+p.sz:=by
 unfold exX at h
 split at h
 ·rename_i t s1 hs
  have:=hg _ _ _ _ _ _ hs
  rw[unify_given h];exact this
 ·cases h
theorem boundT_given(hg:∀ρ d a σ t σ',g ρ d a σ=some (t,σ')->σ'.given.length<=σ.given.length+a.sz){ρ:Env}{d:Nat}{isRec:Bool}{txt:Nm}{a:Nd}{σ:TS}{t:Nat}{σ':TS}(h:boundT g ρ d isRec txt a σ=some (t,σ')):σ'.given.length<=σ.given.length+a.sz:=by
 unfold boundT at h
 dsimp only at h
 split at h
 ·rename_i t1 s1 hs
  split at h
  ·cases h
   rw[openAll_given]
   split at hs
   ·split at hs
    ·rename_i t2 s2 hs2
     obtain⟨s3,h3,h4⟩:=map_eq_some_iff.1 hs
     cases h4
     rw[unify_given h3]
     have:=hg _ _ _ _ _ _ hs2
     exact this
    ·cases hs
   ·exact hg _ _ _ _ _ _ hs
  ·cases h
 ·cases h
theorem rowsT_given(hg:∀ρ d a σ t σ',g ρ d a σ=some (t,σ')->σ'.given.length<=σ.given.length+a.sz){ρ:Env}{d subj ans:Nat}:∀(rows:List Nd)(σ σ':TS),rowsT g ρ d subj ans rows σ=some σ'->σ'.given.length<=σ.given.length+Nd.sz.szs rows:=by
 intro rows
 induction rows with
 |nil=>intro σ σ' h;rw[rowsT]at h;cases h;simp
 |cons r rest ih=>
  intro σ σ' h
  obtain⟨k,txt,ps⟩:=r
  match ps,h with
  |[p,e],h=>
   rw[rowsT]at h
   split at h
   ·rename_i σ1 vs h1
    have q1:σ1.given.length<=σ.given.length+p.sz:=patX_given (fun s t s'=>patT_given _ p s t s') h1
    split at h
    ·rename_i σ2 h2
     have q2:=exX_given hg h2
     have q3:=ih _ _ h
     rw[Nd.sz.szs,Nd.sz,Nd.sz.szs,Nd.sz.szs,Nd.sz.szs]
     omega
    ·cases h
   ·cases h
  |[],h=>cases h
  |[_],h=>cases h
  |_::_::_::_,h=>cases h
theorem formT_given(hg:∀ρ d a σ t σ',g ρ d a σ=some (t,σ')->σ'.given.length<=σ.given.length+a.sz){ρ:Env}{d:Nat}{nd:Nd}{σ:TS}{t:Nat}{σ':TS}(h:formT g ρ d nd σ=some (t,σ')):σ'.given.length+1<=σ.given.length+nd.sz:=by
 obtain⟨k,txt,ps⟩:=nd
 rw[Nd.sz]
 unfold formT at h
 dsimp only at h
 split at h
 ·cases h;simp[TS.named,TS.new]
 ·cases h;simp[TS.named,TS.new]
 ·cases h;simp[TS.named,TS.new]
 ·split at h
  ·split at h
   ·unfold TS.inst at h
    obtain⟨r,h1,h2⟩:=map_eq_some_iff.1 h
    cases h2
    rw[(inst_ext h1).given];omega
   ·cases h
  ·cases h
 ·have h1:=conT_given (get:=id) (put:=fun _ τ=>τ) (fun _ _=>rfl) (fun p _ want s s' hx=>exX_given hg hx) h
  have h1:σ'.given.length<=σ.given.length+Nd.sz.szs _:=h1
  omega
 ·split at h
  ·rename_i a t1 s1 hs
   cases h
   have:=hg _ _ _ _ _ _ hs
   simp only[TS.named,TS.letter,TS.new]at *
   rw[Nd.sz.szs,Nd.sz.szs]
   omega
  ·cases h
 ·split at h
  ·rename_i a b f σ1 h1
   split at h
   ·rename_i x σ2 h2
    obtain⟨s,h3,h4⟩:=map_eq_some_iff.1 h
    cases h4
    have q1:=hg _ _ _ _ _ _ h1
    have q2:=hg _ _ _ _ _ _ h2
    have q3:=unify_given h3
    simp only[TS.named,TS.letter,TS.new]at q3
    rw[q3,Nd.sz.szs,Nd.sz.szs,Nd.sz.szs]
    omega
   ·cases h
  ·cases h
 ·split at h
  ·rename_i a b t1 σ1 h1
   have q1:=boundT_given hg h1
   have q2:=hg _ _ _ _ _ _ h
   rw[Nd.sz.szs,Nd.sz.szs,Nd.sz.szs]
   omega
  ·cases h
 ·split at h
  ·rename_i a b t1 σ1 h1
   have q1:=boundT_given hg h1
   have q2:=hg _ _ _ _ _ _ h
   rw[Nd.sz.szs,Nd.sz.szs,Nd.sz.szs]
   omega
  ·cases h
 ·split at h
  ·rename_i c a b σ1 h1
   split at h
   ·rename_i t2 σ2 h2
    obtain⟨s,h3,h4⟩:=map_eq_some_iff.1 h
    cases h4
    have q1:=exX_given hg h1
    have q2:=hg _ _ _ _ _ _ h2
    have q3:=exX_given hg h3
    simp only[TS.named,TS.new]at q1
    rw[Nd.sz.szs,Nd.sz.szs,Nd.sz.szs,Nd.sz.szs]
    omega
   ·cases h
  ·cases h
 ·split at h
  ·rename_i a b σ1 h1
   have q1:=exX_given hg h1
   have q2:=hg _ _ _ _ _ _ h
   simp only[TS.named,TS.new]at q1
   rw[Nd.sz.szs,Nd.sz.szs,Nd.sz.szs]
   omega
  ·cases h
 ·split at h
  ·rename_i a b c σ1 h1
   split at h
   ·rename_i v σ2 h2
    split at h
    ·rename_i σ3 h3
     cases h
     have q1:=hg _ _ _ _ _ _ h1
     have q2:=hg _ _ _ _ _ _ h2
     have q3:=unify_given h3
     simp only[TS.named,TS.new]at q3 ⊢
     rw[q3,Nd.sz.szs,Nd.sz.szs,Nd.sz.szs]
     omega
    ·cases h
   ·cases h
  ·cases h
 ·obtain⟨s,h3,h4⟩:=map_eq_some_iff.1 h
  cases h4
  have q1:=exX_given hg h3
  simp only[TS.named,TS.letter,TS.new]at q1
  rw[Nd.sz.szs,Nd.sz.szs]
  omega
 ·split at h
  ·rename_i t1 σ1 h1
   obtain⟨s,h3,h4⟩:=map_eq_some_iff.1 h
   cases h4
   have q1:=hg _ _ _ _ _ _ h1
   have q2:=le_trans (rowsT_given hg _ _ _ h3) (Nat.add_le_add_left (only_sz _) _)
   simp only[TS.letter,TS.new]at q2
   rw[Nd.sz.szs]
   omega
  ·cases h
 ·split at h
  ·rename_i a b _ _ σ1 h1
   split at h
   ·rename_i σ2 h2
    cases h
    have q1:=exX_given hg h1
    have q2:=exX_given hg h2
    simp only[TS.named,TS.new]at q1 q2 ⊢
    rw[Nd.sz.szs,Nd.sz.szs,Nd.sz.szs]
    omega
   ·cases h
  ·cases h
 ·cases h
end
theorem exT_given:∀(n:Nat)(ρ:Env)(d:Nat)(nd:Nd)(σ:TS)(t:Nat)(σ':TS),exT n ρ d nd σ=some (t,σ')->σ'.given.length<=σ.given.length+nd.sz:=by
 intro n
 induction n with
 |zero=>intro ρ d nd σ t σ' h;cases h
 |succ n ih=>
  intro ρ d nd σ t σ' h
  rw[exT]at h
  split at h
  ·rename_i t1 s1 hs
   cases h
   have:=formT_given ih hs
   simp only[TS.give,length_append,length_cons,length_nil]
   omega
  ·cases h
end
section
open Go.RowKit
def PtSh(p:Nd):Prop:=∀x∈p.all,x.txt.length<=100000000/\x.ps.length<=1000000/\(x.k<=4\/x.k=14)/\(x.k≠14->x.ps=[])
def XSh:Nat->Nd->Prop
 |0,_=>True
 |m+1,.mk k txt ps=>txt.length<=100000000/\ps.length<=1000000 /\
  match k,ps with
  |0,_=>True
  |1,_=>True
  |2,_=>True
  |3,_=>True
  |14,ps=>∀p∈ps,XSh m p
  |5,[a]=>XSh m a
  |12,[a]=>XSh m a
  |6,[a,b]=>XSh m a/\XSh m b
  |7,[a,b]=>XSh m a/\XSh m b
  |9,[a,b]=>XSh m a/\XSh m b
  |10,[a,b]=>XSh m a/\XSh m b
  |11,[a,b]=>XSh m a/\XSh m b
  |13,[a,b]=>XSh m a/\XSh m b
  |8,[c,a,b]=>XSh m c/\XSh m a/\XSh m b
  |15,a::rows=>XSh m a/\a.k<=15/\∀r∈rows,∃t p e,r=.mk 16 t [p,e]/\PtSh p/\XSh m e
  |_,_=>False
structure EnvB(ar:Nm->Nat)(ρ:Env):Prop where
 con:∀c m,ρ.get (1,c)=some m->ConIn ar m m.vr.parts.length
 var:∀x m,ρ.get (0,x)=some m->∃t,m.scheme=some t
theorem EnvB.bind{ar:Nm->Nat}{ρ:Env}(h:EnvB ar ρ)(x:Nm)(t:Nat):EnvB ar (((0,x),Mg.var t)::ρ):=by
 refine⟨fun c m hc=>?_,fun y m hy=>?_⟩
 ·rw[get_cons_ne (by simp)]at hc;exact h.con c m hc
 ·rw[Env.get]at hy
  split at hy
  ·cases hy;exact⟨t,rfl⟩
  ·exact h.var y m hy
theorem EnvB.binds{ar:Nm->Nat}:∀(vs:List (Nm×Nat)) {ρ:Env},EnvB ar ρ->EnvB ar (bindTs ρ vs):=by
 intro vs
 induction vs with
 |nil=>intro ρ h;exact h
 |cons v r ih=>intro ρ h;exact ih (h.bind v.1 v.2)
theorem PtSh.ptOk{ar:Nm->Nat}{ρ:Env}{p:Nd}(h:PtSh p)(he:EnvB ar ρ)(hc:∀x∈p.all,x.k=14->ConOk ρ x):PtOk ar ρ p:=fun x hx=>by
 obtain⟨h1,h2,h3,h4⟩:=h x hx
 refine⟨h1,h2,h3,fun hk=>?_⟩
 obtain⟨m,hm,hl⟩:=hc x hx hk
 exact⟨m,hm,by rw[hl];exact he.con _ _ hm⟩
theorem alls_flat:∀ps:List Nd,Nd.all.alls ps=ps.flatMap Nd.all:=by
 intro ps
 induction ps with
 |nil=>rfl
 |cons p r ih=>rw[Nd.all.alls,ih];rfl
theorem varsOf_con(txt:Nm)(ps:List Nd):varsOf (.mk 14 txt ps)=ps.flatMap varsOf:=by
 unfold varsOf
 rw[Nd.all,List.filter_cons_of_neg (by simp[Nd.k]),alls_flat]
 induction ps with
 |nil=>rfl
 |cons p r ih=>simp only[List.flatMap_cons,List.filter_append,map_append,ih]
theorem varsOf_leaf{k:Nat}(txt:Nm)(hk:k≠3):varsOf (.mk k txt [])=[]:=by
 unfold varsOf
 rw[Nd.all,Nd.all.alls,List.filter_cons_of_neg (by simpa [Nd.k]using hk)]
 rfl
theorem varsOf_var(txt:Nm):varsOf (.mk 3 txt [])=[txt]:=by
 unfold varsOf
 rw[Nd.all,Nd.all.alls]
 rfl
theorem varsOf_mem{p:Nd}{x:Nm}(h:x∈varsOf p):∃y∈p.all,y.txt=x:=by
 unfold varsOf at h
 obtain⟨y,hy,rfl⟩:=List.mem_map.1 h
 exact⟨y,(List.mem_filter.1 hy).1,rfl⟩
theorem conGo_vars{ex:Nd->Nat->TS×List (Nm×Nat)->Option (TS×List (Nm×Nat))}{ch:List (Nm×Nat)}:∀(l:List (Nd×Nd)) (s s':TS×List (Nm×Nat)),(∀p∈l.map Prod.fst,∀want s s',ex p want s=some s'->s'.2.map Prod.fst=s.2.map Prod.fst++varsOf p)->conT.go Prod.fst (fun s τ=>(τ,s.2)) ex ch l s=some s'->s'.2.map Prod.fst=s.2.map Prod.fst++(l.map Prod.fst).flatMap varsOf:=by
 intro l
 induction l with
 |nil=>intro s s' _ h;rw[conT.go]at h;cases h;simp
 |cons a r ih=>
  intro s s' hp h
  obtain⟨p,q⟩:=a
  rw[conT.go]at h
  split at h
  ·rename_i s1 hs1
   have h1:=hp p (by simp) _ _ _ hs1
   have h2:=ih s1 s' (fun p hp2=>hp p (by simp only[map_cons,mem_cons];exact inr hp2)) h
   rw[h2,h1]
   simp
  ·cases h
theorem patX_vars{g:Nd->TS×List (Nm×Nat)->Option (Nat×(TS×List (Nm×Nat)))}{p:Nd}(hg:∀s t s',g p s=some (t,s')->s'.2.map Prod.fst=s.2.map Prod.fst++varsOf p){want:Nat}{s s':TS×List (Nm×Nat)}(h:patT.patX g p want s=some s'):s'.2.map Prod.fst=s.2.map Prod.fst++varsOf p:=by
 unfold patT.patX at h
 split at h
 ·rename_i t s1 hs1
  obtain⟨σ2,h2,rfl⟩:=map_eq_some_iff.1 h
  have:=hg _ _ _ hs1
  exact this
 ·cases h
theorem patT_vars{ar:Nm->Nat}{ρ:Env}{d:Nat}:∀(n:Nat)(p:Nd),PtSh p->PtOk ar ρ p->∀(s:TS×List (Nm×Nat)) (t:Nat) (s':TS×List (Nm×Nat)),patT ρ d n p s=some (t,s')->s'.2.map Prod.fst=s.2.map Prod.fst++varsOf p:=by
 intro n
 induction n with
 |zero=>intro p _ _ s t s' h;cases h
 |succ n ih=>
  intro p hsh hok s t s' h
  obtain⟨k,txt,ps⟩:=p
  obtain⟨_,_,hk,hl⟩:=hsh _ (all_self _)
  have hk:k<=4\/k=14:=hk
  have hl:k≠14->ps=[]:=hl
  rw[patT]at h
  split at h
  ·rename_i hk4
   subst hk4
   rw[hl (by decide),varsOf_leaf _ (by decide)]
   cases h;simp
  ·split at h
   ·rename_i _ hk3
    subst hk3
    rw[hl (by decide),varsOf_var]
    cases h;simp
   ·split at h
    ·rename_i _ _ hk14
     subst hk14
     rw[varsOf_con]
     obtain⟨m,hm,hci⟩:=(hok _ (all_self _)).2.2.2 rfl
     have hm:ρ.get (1,txt)=some m:=hm
     have hnp:ps.length=m.vr.parts.length:=hci.np
     unfold conT at h
     rw[hm]at h
     dsimp only at h
     split at h
     ·rename_i s1 hs1
      cases h
      have hfp:(ps.zip m.vr.parts).map Prod.fst=ps:=by rw[List.map_fst_zip];rw[hnp];exact le_refl _
      have h1:=conGo_vars _ _ _ (fun p hp want s s' hx=>patX_vars (fun s t s'=>ih p (fun x hx=>hsh x (all_part (by rw[hfp]at hp;exact hp) hx)) (hok.part (by rw[hfp]at hp;exact hp)) s t s') hx) hs1
      rw[hfp]at h1
      exact h1
     ·cases h
    ·rename_i hk4 hk3 hk14
     rw[hl hk14,varsOf_leaf _ hk3]
     cases h;simp
section
variable {ar:Nm->Nat}{ad:List Nat}{Y:Nat->Prop}{rk:Nat->Nat}{σ:TS}{ρ:Env}{tb yb d:Nat}{gv:Value}{w w':World}{nb:Nat}{txt:Nm}
theorem AnCT.toTy{o:Option (Nat×TS)}{e:Ending}(ha:AnCT id (EX yb) yb ar ad Y ρ tb yb d gv (.slice none 0 0) o w e w'):AnTy ar ad Y ρ tb yb d gv o w e w':=by
 refine⟨ha.1.wide fun k _ hd=>?_,?_⟩
 ·rcases hd with hd|hd|hd
  ·exact hd
  ·exact inr (inr (inl hd))
  ·simp[Value.ownBlock]at hd
 ·rcases ha.2 with h|⟨t,s',l,rk',gv',vv',a1,a2,a3,a4,a5,a6,a7,a8⟩
  ·exact inl h
  ·exact inr ⟨t,s',l,rk',gv',a1,a2,a3,a4,a6,a7⟩
theorem AnEx.toC{o:Option TS}{e:Ending}(ha:AnEx ar ad Y ρ tb yb d gv o w e w'):AnC id (EX yb) yb ar ad Y ρ tb yb d gv (.slice none 0 0) o w e w':=by
 refine⟨ha.1.wide fun k _ hd=>inl hd,?_⟩
 rcases ha.2 with h|⟨s',l,rk',gv',a1,a2,a4,a6,a7⟩
 ·exact inl h
 ·exact inr ⟨s',l,rk',gv',.slice none 0 0,a1,a2,a4,⟨rfl,_,a4.typ⟩,a6,a7,fun b hb=>by simp[Value.ownBlock]at hb⟩
theorem form_con{o:Option (Nat×TS)}(hk:w.cell? ⟨nb,0,none⟩=some (.int .i64 (14:Nat)))
  (hC:Calls prog 182 #[ptrV yb,ptrV nb,.func (.func 116) #[ptrV yb] #[]] w (AnTy ar ad Y ρ tb yb d gv o w)) :
  Calls prog 163 #[ptrV yb,ptrV nb] w (AnTy ar ad Y ρ tb yb d gv o w):=by
 have hch:=hC.mono fun e u2 ha=>AnTy.last (Bt.refl ad tb yb gv w) (show AnTy ar (ad++[]) Y ρ tb yb d gv o w e u2 by rw[append_nil];exact ha) rfl
 have HC:=hide hch
 clear hch hC
 generalize AnTy ar ad Y ρ tb yb d gv o w=Q at *
 unfold noTy noTypeV ptrV at *
 have hmf:∀(fn:Fn)(first cap:Array Value)(w:World),(Instr.makeFunc fn first cap).run prog w=.ok (.func fn first cap) w:=fun _ _ _ _=>rfl
 go_enter func163,ntmps163
 go_wp2_with fail
 refine(HC.out).mono ?_;rintro e u3 (⟨rfl,hp⟩|⟨b,rfl,hq⟩)
 ·exact⟨rfl,hp⟩
 have HG:=hide hq
 clear hq HC
 go_wp2
 exact HG.out
end
end
section
open Go.RowKit
section
variable {ar:Nm->Nat}{ad:List Nat}{Y:Nat->Prop}{rk:Nat->Nat}{σ:TS}{ρ:Env}{tb yb d:Nat}{gv:Value}{w w':World}{nb:Nat}{txt:Nm}
theorem form_seq{g cap ba bb:Nat}{oa:Option TS}{ob:TS->Option (Nat×TS)}(h0:ar unitN=0)(h:YM ar ad Y rk σ ρ tb yb d gv w)(hp:PtAt nb 9 txt g cap [ba,bb] w)
  (hA:∀u,Kn (Dm ad tb yb gv) w u->YM ar (ad++[w.heap.size]) Y rk (σ.named unitN []).2 ρ tb yb d gv u->Calls prog 116 #[ptrV yb,ptrV ba,adV (ad++[w.heap.size]) σ.nodes.length] u (AnEx ar (ad++[w.heap.size]) Y ρ tb yb d gv oa u))
  (hB:∀u σ' l rk' gv',Kn (Dm ad tb yb gv) w u->oa=some σ'->YM ar (ad++l) Y rk' σ' ρ tb yb d gv' u->Calls prog 141 #[ptrV yb,ptrV bb] u (AnTy ar (ad++l) Y ρ tb yb d gv' (ob σ') u)) :
  Calls prog 163 #[ptrV yb,ptrV nb] w (AnTy ar ad Y ρ tb yb d gv (oa.bind ob) w):=by
 have hc0:=seq_chain h0 h hp hA hB w.drew (Kn.drewF w) rfl
 obtain⟨ck,_,_,_⟩:=hp.cells
 have HCH:=hide hc0
 clear hc0 h0 h hp hA hB
 generalize AnTy ar ad Y ρ tb yb d gv (oa.bind ob) w=Q at *
 unfold noTy noTypeV Two ptrV at *
 go_enter func163,ntmps163
 go_wp2_with fail
 obtain⟨⟨c1a,c2a,c3a⟩,hu⟩:=HCH.out
 have HU:=hide hu
 clear hu HCH
 go_region_held2 (fun w'=>w'.cell? ⟨nb,2,none⟩=some (.slice (some ⟨g,0,none⟩) 2 cap)/\w'.cell? ⟨g,0,none⟩=some (.pointer (some ⟨ba,0,none⟩))/\w'.cell? ⟨g,1,none⟩=some (.pointer (some ⟨bb,0,none⟩))) (exact⟨c1a,c2a,c3a⟩) (first|(go_at_call 41;refine(HU.out).mono ?_;rintro e u1⟨rfl,⟨c1a,c2a,c3a⟩,hc⟩;have HC:=hide hc;clear hc)|(go_at_call 116;refine(HC.out).mono ?_;rintro e u2 (⟨rfl,hp⟩|⟨rfl,⟨c1a,c2a,c3a⟩,hc⟩);(focus (exact⟨rfl,hp⟩));have HE:=hide hc;clear hc))
 all_goals
  go_wp2_with fail
  refine(HE.out).mono ?_;rintro e u3 (⟨rfl,hp⟩|⟨b,rfl,hq⟩)
  ·exact⟨rfl,hp⟩
  ·have HG:=hide hq
   clear hq HE
   go_wp2
   exact HG.out
end
end
end Go.Proofs.YtcbppnefeonmgaaGreatDoor
