import Derived.Test.YtbkiipiocpnnnaaGreatDoorC28
import Derived.Recover
import Derived.Orders
import Derived.Laws.CopyRow
set_option linter.all false
set_option maxHeartbeats 40000000
set_option maxRecDepth 100000
open Go.Proofs.Tryz
open Or (inl inr)
open Nat (le_refl le_trans zero_le lt_of_lt_of_le)
open List (length_cons mem_cons)
namespace Go.Proofs.YtbkiipiocpnnnaaGreatDoor
open Go.RowKit
section
variable {mb tb bb:Nat}{ρ:List Nm}{w:World}
theorem slice_tail(g off n cp:Nat)(w:World):(Instr.slice 36 (.slice (some ⟨g,off,none⟩) (n+1) (cp+1+1)) (some (.int .i64 1)) none none).run prog w=.ok (.slice (some ⟨g,off+1,none⟩) n (cp+1)) w:=by
 have hs:(prog.info? tyTreeP).map (fun i=>i.size)=some 1:=by kernel_rfl
 cases hi:prog.info? tyTreeP with
 |none=>rw[hi]at hs;cases hs
 |some j=>
  rw[hi]at hs
  have hz:j.size=1:=by simpa using hs
  have h1:(1:Int)<=(n:Int)+1:=by omega
  simp[Instr.slice,run_underlying underlying36,Instr.sliceBounds,Instr.sliceBound,asIntOf,sizeOf,typeInfo,hi,hz,h1,Addr.add]
theorem rest_prog{g off cp s1 s2:Nat}{d:Nd}{l:List Nd}{c:Cd}(hB:BM mb tb bb ρ ρ.length w)(h1:w.heap[s1]?=some (.cells #[ptrV bb] 136 (0,0)))(h2:w.heap[s2]?=some (.cells #[.slice (some ⟨g,off,none⟩) (d::l).length cp] 36 (0,0)))(hd:DlAt g off cp (d::l) w)
  (hE:∀u v,BM mb tb bb ρ ρ.length u->((l=[]/\∃a c,v=.slice a 0 c)\/∃g off cp,v=.slice (some ⟨g,off,none⟩) l.length cp/\l≠[]/\DlAt g off cp l u)->Calls prog 43 #[ptrV bb,v] u (BA mb tb bb ρ c u)) :
  Calls prog 70 #[ptrV s1,ptrV s2] w (BA mb tb bb ρ c w):=by
 have hcap:=hd.cap
 rw[length_cons]at hcap h2
 have ht:=hd.tail
 match cp,hcap with
 |1,hcap=>
  have hl:l=[]:=List.length_eq_zero_iff.1 (by omega)
  subst hl
  exact clo_progA (cp:=0) (n:=0) h1 h2 fun u hu=>hE u _ (hB.stays hu) (inl ⟨rfl,_,_,rfl⟩)
 |cp+2,hcap=>
  refine clo_progB h1 h2 (slice_tail _ _ _ _ _) fun u hu=>hE u _ (hB.stays hu) ?_
  by_cases hl:l=[]
  ·subst hl;exact inl ⟨rfl,_,_,rfl⟩
  ·exact inr ⟨_,_,_,rfl,hl,ht.kept hB (hu.wide fun _ _ h=>h.elim)⟩
theorem prog_nil{a:Option Addr}{c:Nat}(hB:BM mb tb bb ρ ρ.length w):Calls prog 43 #[ptrV bb,.slice a 0 c] w (BA mb tb bb ρ ⟨2,0,[],[],[]⟩ w):=by
 have hF:Fresh w ((w.alloc (.cells #[ptrV bb] 136)).alloc (.cells #[.slice a 0 c] 36)):=((Fresh.refl w).alloc _).alloc _
 have d12:=al2 w (.cells #[ptrV bb] 136) (.cells #[.slice a 0 c] 36)
 have z2:=cell_of' d12.2
 have z3:=cell_of' d12.1
 generalize hw1:(w.alloc (.cells #[ptrV bb] 136)).alloc (.cells #[.slice a 0 c] 36)=w1 at *
 have HP:=hide ((b_unit (nm:=[]) (hB.stays hF.kn)).mono fun e u2 ha=>ha.behind (hF.kn.wide fun _ _ h=>h.elim))
 clear d12 hF hB
 unfold ptrV unitV at *
 go_enter func43,ntmps43
 go_wp2_with fail
 refine(HP.out).mono ?_
 intro e u2 hq
 obtain⟨Kr,csr,rfl,hq2⟩:=hq
 have HQ:=hide (show BA mb tb bb ρ _ w _ u2 from⟨Kr,csr,rfl,hq2⟩)
 clear hq2
 go_wp2
 refine bodyPost_ret (v:=.func (.func Kr) #[] csr) (by simp[results,results43,go_sem]) rfl HQ.out
theorem prog6{g off cp:Nat}{txt:Nm}{ps:List Nd}{l:List Nd}{c:Cd}(hx:okK (0,txt))(hlen:ρ.length+1<=1000000)(hB:BM mb tb bb ρ ρ.length w)(hd:DlAt g off cp (.mk 6 txt ps::l) w){cb:Cd}
  (hE:∀u v,BM mb tb bb (txt::ρ) (txt::ρ).length u->((l=[]/\∃a c,v=.slice a 0 c)\/∃g off cp,v=.slice (some ⟨g,off,none⟩) l.length cp/\l≠[]/\DlAt g off cp l u)->Calls prog 43 #[ptrV bb,v] u (BA mb tb bb (txt::ρ) cb u))
  (hbind:∀u nb Kb csb,BM mb tb bb ρ ρ.length u->NMem u (.mk 6 txt ps) nb->BodyC mb tb bb ρ u txt Kb csb cb->Calls prog 73 #[ptrV bb,ptrV nb,.func (.func Kb) #[] csb] u (BA mb tb bb ρ c u)) :
  Calls prog 43 #[ptrV bb,.slice (some ⟨g,off,none⟩) (l.length+1) cp] w (BA mb tb bb ρ c w):=by
 have hF:Fresh w ((w.alloc (.cells #[ptrV bb] 136)).alloc (.cells #[.slice (some ⟨g,off,none⟩) (l.length+1) cp] 36)):=((Fresh.refl w).alloc _).alloc _
 have d12:=al2 w (.cells #[ptrV bb] 136) (.cells #[.slice (some ⟨g,off,none⟩) (l.length+1) cp] 36)
 have hFk:Kn (fun k=>k=tb\/k=bb) w ((w.alloc (.cells #[ptrV bb] 136)).alloc (.cells #[.slice (some ⟨g,off,none⟩) (l.length+1) cp] 36)):=hF.kn.wide fun _ _ h=>h.elim
 have hd1:=hd.kept hB hFk
 have z2:=cell_of' d12.2
 have z3:=cell_of' d12.1
 have hlen2:=hd.len
 rw[length_cons]at hlen2
 generalize hw1:(w.alloc (.cells #[ptrV bb] 136)).alloc (.cells #[.slice (some ⟨g,off,none⟩) (l.length+1) cp] 36)=w1 at *
 have hB1:=hB.stays hF.kn
 obtain⟨nb,z4,hnb⟩:=hd1.first
 have z0:w1.cell? ⟨nb,0,none⟩=some (.int .i64 6):=by obtain⟨pv,bl,h1,_⟩:=hnb.inv;simp[World.cell?,h1]
 have hbody:BodyC mb tb bb ρ w1 txt 70 #[ptrV w.heap.size,ptrV (w.heap.size+1)] cb:=by
  refine⟨Enters.prog1,fun v hv h2=>?_⟩
  have e1:=(hv.block _ (lt_of_heap d12.1) fun e=>by rcases e with e|e;exact hB1.not_tb d12.1 e;exact hB1.not_bb d12.1 (by decide) e).trans d12.1
  have e2:=(hv.block _ (lt_of_heap d12.2) fun e=>by rcases e with e|e;exact hB1.not_tb d12.2 e;exact hB1.not_bb d12.2 (by decide) e).trans d12.2
  exact rest_prog (d:=.mk 6 txt ps) h2 e1 e2 (hd1.kept hB1 hv) hE
 have HP:=hide (show ∀u,Kn (fun _=>False) w1 u->Calls prog 73 #[ptrV bb,ptrV nb,.func (.func 70) #[] #[ptrV w.heap.size,ptrV (w.heap.size+1)]] u (BA mb tb bb ρ c w)from fun u hu=>by
  have hu':Kn (fun k=>k=tb\/k=bb) w1 u:=hu.wide fun _ _ h=>h.elim
  exact(hbind u nb _ _ (hB1.stays hu) (hB1.tree hu' hnb) ⟨hbody.1,fun v hv h2=>hbody.2 v (hu'.trans hv) h2⟩).mono fun e u2 ha=>ha.behind (hFk.trans hu'))
 clear hE hbind d12 hF hB hB1 hd hd1 hnb hbody hFk
 unfold ptrV at *
 generalize l.length=n at *
 have hz:((n:Int)+1==0)=false:=by simp;omega
 go_enter func43,ntmps43
 go_wp2_with fail
 refine(HP.out _ (Kn.refl _ _)).mono ?_
 intro e u2 hq
 obtain⟨Kr,csr,rfl,hq2⟩:=hq
 have HQ:=hide (show BA mb tb bb ρ _ w _ u2 from⟨Kr,csr,rfl,hq2⟩)
 clear hq2
 go_wp2
 refine bodyPost_ret (v:=.func (.func Kr) #[] csr) (by simp[results,results43,go_sem]) rfl HQ.out
theorem prog7{g off cp:Nat}{txt:Nm}{ps:List Nd}{l:List Nd}{c:Cd}(hx:okK (0,txt))(hlen:ρ.length+1<=1000000)(hB:BM mb tb bb ρ ρ.length w)(hd:DlAt g off cp (.mk 7 txt ps::l) w){cb:Cd}
  (hE:∀u v,BM mb tb bb (txt::ρ) (txt::ρ).length u->((l=[]/\∃a c,v=.slice a 0 c)\/∃g off cp,v=.slice (some ⟨g,off,none⟩) l.length cp/\l≠[]/\DlAt g off cp l u)->Calls prog 43 #[ptrV bb,v] u (BA mb tb bb (txt::ρ) cb u))
  (hbind:∀u nb Kb csb,BM mb tb bb ρ ρ.length u->NMem u (.mk 7 txt ps) nb->BodyC mb tb bb ρ u txt Kb csb cb->Calls prog 73 #[ptrV bb,ptrV nb,.func (.func Kb) #[] csb] u (BA mb tb bb ρ c u)) :
  Calls prog 43 #[ptrV bb,.slice (some ⟨g,off,none⟩) (l.length+1) cp] w (BA mb tb bb ρ c w):=by
 have hF:Fresh w ((w.alloc (.cells #[ptrV bb] 136)).alloc (.cells #[.slice (some ⟨g,off,none⟩) (l.length+1) cp] 36)):=((Fresh.refl w).alloc _).alloc _
 have d12:=al2 w (.cells #[ptrV bb] 136) (.cells #[.slice (some ⟨g,off,none⟩) (l.length+1) cp] 36)
 have hFk:Kn (fun k=>k=tb\/k=bb) w ((w.alloc (.cells #[ptrV bb] 136)).alloc (.cells #[.slice (some ⟨g,off,none⟩) (l.length+1) cp] 36)):=hF.kn.wide fun _ _ h=>h.elim
 have hd1:=hd.kept hB hFk
 have z2:=cell_of' d12.2
 have z3:=cell_of' d12.1
 have hlen2:=hd.len
 rw[length_cons]at hlen2
 generalize hw1:(w.alloc (.cells #[ptrV bb] 136)).alloc (.cells #[.slice (some ⟨g,off,none⟩) (l.length+1) cp] 36)=w1 at *
 have hB1:=hB.stays hF.kn
 obtain⟨nb,z4,hnb⟩:=hd1.first
 have z0:w1.cell? ⟨nb,0,none⟩=some (.int .i64 7):=by obtain⟨pv,bl,h1,_⟩:=hnb.inv;simp[World.cell?,h1]
 have hbody:BodyC mb tb bb ρ w1 txt 70 #[ptrV w.heap.size,ptrV (w.heap.size+1)] cb:=by
  refine⟨Enters.prog1,fun v hv h2=>?_⟩
  have e1:=(hv.block _ (lt_of_heap d12.1) fun e=>by rcases e with e|e;exact hB1.not_tb d12.1 e;exact hB1.not_bb d12.1 (by decide) e).trans d12.1
  have e2:=(hv.block _ (lt_of_heap d12.2) fun e=>by rcases e with e|e;exact hB1.not_tb d12.2 e;exact hB1.not_bb d12.2 (by decide) e).trans d12.2
  exact rest_prog (d:=.mk 7 txt ps) h2 e1 e2 (hd1.kept hB1 hv) hE
 have HP:=hide (show ∀u,Kn (fun _=>False) w1 u->Calls prog 73 #[ptrV bb,ptrV nb,.func (.func 70) #[] #[ptrV w.heap.size,ptrV (w.heap.size+1)]] u (BA mb tb bb ρ c w)from fun u hu=>by
  have hu':Kn (fun k=>k=tb\/k=bb) w1 u:=hu.wide fun _ _ h=>h.elim
  exact(hbind u nb _ _ (hB1.stays hu) (hB1.tree hu' hnb) ⟨hbody.1,fun v hv h2=>hbody.2 v (hu'.trans hv) h2⟩).mono fun e u2 ha=>ha.behind (hFk.trans hu'))
 clear hE hbind d12 hF hB hB1 hd hd1 hnb hbody hFk
 unfold ptrV at *
 generalize l.length=n at *
 have hz:((n:Int)+1==0)=false:=by simp;omega
 go_enter func43,ntmps43
 go_wp2_with fail
 refine(HP.out _ (Kn.refl _ _)).mono ?_
 intro e u2 hq
 obtain⟨Kr,csr,rfl,hq2⟩:=hq
 have HQ:=hide (show BA mb tb bb ρ _ w _ u2 from⟨Kr,csr,rfl,hq2⟩)
 clear hq2
 go_wp2
 refine bodyPost_ret (v:=.func (.func Kr) #[] csr) (by simp[results,results43,go_sem]) rfl HQ.out
theorem prog17{g off cp:Nat}{txt:Nm}{a:Nd}{r:List Nd}{l:List Nd}{ca cb:Cd}(hr:r.length<=100)(hB:BM mb tb bb ρ ρ.length w)(hd:DlAt g off cp (.mk 17 txt (a::r)::l) w)
  (hE:∀u v,BM mb tb bb ρ ρ.length u->((l=[]/\∃a c,v=.slice a 0 c)\/∃g off cp,v=.slice (some ⟨g,off,none⟩) l.length cp/\l≠[]/\DlAt g off cp l u)->Calls prog 43 #[ptrV bb,v] u (BA mb tb bb ρ cb u))
  (hX:∀u b,BM mb tb bb ρ ρ.length u->NMem u a b->Calls prog 72 #[ptrV bb,ptrV b] u (BA mb tb bb ρ ca u)) :
  Calls prog 43 #[ptrV bb,.slice (some ⟨g,off,none⟩) (l.length+1) cp] w (BA mb tb bb ρ ⟨9,0,[],[ca,cb],[]⟩ w):=by
 have hF:Fresh w ((w.alloc (.cells #[ptrV bb] 136)).alloc (.cells #[.slice (some ⟨g,off,none⟩) (l.length+1) cp] 36)):=((Fresh.refl w).alloc _).alloc _
 have d12:=al2 w (.cells #[ptrV bb] 136) (.cells #[.slice (some ⟨g,off,none⟩) (l.length+1) cp] 36)
 have hFk:Kn (fun k=>k=tb\/k=bb) w ((w.alloc (.cells #[ptrV bb] 136)).alloc (.cells #[.slice (some ⟨g,off,none⟩) (l.length+1) cp] 36)):=hF.kn.wide fun _ _ h=>h.elim
 have hd1:=hd.kept hB hFk
 have z2:=cell_of' d12.2
 have z3:=cell_of' d12.1
 have hlen2:=hd.len
 rw[length_cons]at hlen2
 generalize hw1:(w.alloc (.cells #[ptrV bb] 136)).alloc (.cells #[.slice (some ⟨g,off,none⟩) (l.length+1) cp] 36)=w1 at *
 have hB1:=hB.stays hF.kn
 obtain⟨nb,z4,hnb⟩:=hd1.first
 obtain⟨g2,cap2,bl',hp,hm,hbl⟩:=hnb.pt (by simp)
 obtain⟨m,hbm⟩:∃m,bl'.length=m+1:=⟨r.length,by rw[hbl,length_cons]⟩
 have hmb:m<=100:=by rw[length_cons]at hbl;omega
 obtain⟨ba,hba,_⟩:=hm.at (i:=0) (p:=a) rfl
 have z0:w1.cell? ⟨nb,0,none⟩=some (.int .i64 17):=hp.cells.1
 have hcl:∀v,Kn (fun k=>k=tb\/k=bb) w1 v->v.cell? ⟨w.heap.size,0,none⟩=some (ptrV bb)/\v.cell? ⟨nb,2,none⟩=some (.slice (some ⟨g2,0,none⟩) (m+1) cap2)/\v.cell? ⟨g2,0,none⟩=some (ptrV ba):=fun v hv=>by
  have hpv:=(hB1.pt hv hp).cells
  rw[hbm]at hpv
  exact⟨cell_of' ((hv.block _ (lt_of_heap d12.1) fun e=>by rcases e with e|e;exact hB1.not_tb d12.1 e;exact hB1.not_bb d12.1 (by decide) e).trans d12.1),hpv.2.2.1,hpv.2.2.2 0 ba hba⟩
 have hA:∀u,Kn (fun _=>False) w1 u->Calls prog 72 #[ptrV bb,ptrV ba] u fun e u2=>∃K1 cs1,e=.returned (.func (.func K1) #[] cs1)/\(u2.cell? ⟨w.heap.size,0,none⟩=some (ptrV bb)/\u2.cell? ⟨nb,2,none⟩=some (.slice (some ⟨g2,0,none⟩) (m+1) cap2)/\u2.cell? ⟨g2,0,none⟩=some (ptrV ba))/\Hid (Calls prog 70 #[ptrV w.heap.size,ptrV (w.heap.size+1)] u2 fun e u3=>∃K2 cs2,e=.returned (.func (.func K2) #[] cs2)/\(u3.cell? ⟨w.heap.size,0,none⟩=some (ptrV bb)/\u3.cell? ⟨nb,2,none⟩=some (.slice (some ⟨g2,0,none⟩) (m+1) cap2)/\u3.cell? ⟨g2,0,none⟩=some (ptrV ba))/\Hid (Calls prog 71 #[.func (.func K1) #[] cs1,.func (.func K2) #[] cs2] u3 fun e u4=>BA mb tb bb ρ ⟨9,0,[],[ca,cb],[]⟩ w e u4/\(u4.cell? ⟨w.heap.size,0,none⟩=some (ptrV bb)/\u4.cell? ⟨nb,2,none⟩=some (.slice (some ⟨g2,0,none⟩) (m+1) cap2)/\u4.cell? ⟨g2,0,none⟩=some (ptrV ba)))):=fun u hu=>by
  have hu':Kn (fun k=>k=tb\/k=bb) w1 u:=hu.wide fun _ _ h=>h.elim
  have hm2:NMem.NMems u (a::r) bl':=hm.kept (fun k c f hc=>hu'.block k (lt_of_heap hc) fun e=>by rcases e with e|e;exact hB1.not_tb hc e;exact hB1.not_bb hc (by decide) e) (fun k c f hc=>hu'.block k (lt_of_heap hc) fun e=>by rcases e with e|e;exact hB1.not_tb hc e;exact hB1.not_bb hc (by decide) e)
  obtain⟨bb',hbb',hnm⟩:=hm2.at (i:=0) (p:=a) rfl
  rw[hba]at hbb'
  cases hbb'
  refine(hX u ba (hB1.stays hu) hnm).mono ?_
  rintro e u2⟨K1,cs1,rfl,q1,q2,q3⟩
  have k2:=hu'.trans q2
  refine⟨K1,cs1,rfl,hcl u2 k2,?_⟩
  have e1:=(k2.block _ (lt_of_heap d12.1) fun e=>by rcases e with e|e;exact hB1.not_tb d12.1 e;exact hB1.not_bb d12.1 (by decide) e).trans d12.1
  have e2:=(k2.block _ (lt_of_heap d12.2) fun e=>by rcases e with e|e;exact hB1.not_tb d12.2 e;exact hB1.not_bb d12.2 (by decide) e).trans d12.2
  refine(rest_prog (d:=.mk 17 txt (a::r)) q1 e1 e2 (hd1.kept hB1 k2) hE).mono ?_
  rintro e u3⟨K2,cs2,rfl,p1,p2,p3⟩
  have k3:=k2.trans p2
  refine⟨K2,cs2,rfl,hcl u3 k3,(b_seq (nm:=[]) p1 (q3.kept (q1.kr p2)) p3).mono fun e u4 ha=>?_⟩
  have hk4:Kn (fun k=>k=tb\/k=bb) u3 u4:=by obtain⟨_,_,_,_,h,_⟩:=ha;exact h
  exact⟨ha.behind (hFk.trans k3),hcl u4 (k3.trans hk4)⟩
 have HA:=hide hA
 obtain⟨c1a,c2a,c3a⟩:=hcl w1.drew ((Kn.drewF w1).wide fun _ _ h=>h.elim)
 have HV:=hide (Kn.drewF w1)
 clear hE hX d12 hF hB hB1 hd hd1 hnb hFk hA hcl hp hm hba hbl hbm
 unfold ptrV at *
 generalize l.length=n at *
 have hz:((n:Int)+1==0)=false:=by simp;omega
 go_enter func43,ntmps43
 go_wp2_with fail
 go_region_held2 (fun w'=>w'.cell? ⟨w.heap.size,0,none⟩=some (.pointer (some ⟨bb,0,none⟩))/\w'.cell? ⟨nb,2,none⟩=some (.slice (some ⟨g2,0,none⟩) (m+1) cap2)/\w'.cell? ⟨g2,0,none⟩=some (.pointer (some ⟨ba,0,none⟩))) (exact⟨c1a,c2a,c3a⟩)
  (first
   |(go_at_call 72;(refine(HA.out _ HV.out).mono ?_);rintro e u2⟨K1,cs1,rfl,⟨c1a,c2a,c3a⟩,H2⟩)
   |(go_at_call 70;(refine(H2.out).mono ?_);rintro e u3⟨K2,cs2,rfl,⟨c1a,c2a,c3a⟩,HC⟩)
   |(go_at_call 71;(refine(HC.out).mono ?_);rintro e u4⟨hq,c1a,c2a,c3a⟩;obtain⟨Kr,csr,rfl,hq2⟩:=hq;have HQ:=hide (show BA mb tb bb ρ _ w _ u4 from⟨Kr,csr,rfl,hq2⟩);clear hq2))
 all_goals
  go_wp2
  refine bodyPost_ret (v:=.func (.func Kr) #[] csr) (by simp[results,results43,go_sem]) rfl HQ.out
end
def okP:List Nm->List Nd->Bool
 |_,[]=>true
 |ρ,d::l=>decide (d.ps.length<=100) && decide (d.txt.length<=1000) && decide (ρ.length<=1000) && (
  match d.k,d.ps with
  |17,a::_=>okE (a.ht+1) ρ a && okP ρ l
  |6,a::_=>okE (a.ht+1) ρ a && okP (d.txt::ρ) l
  |7,a::_=>okE (a.ht+1) (d.txt::ρ) a && okP (d.txt::ρ) l
  |_,_=>false)
def SlV(l:List Nd)(v:Value)(u:World):Prop:=(l=[]/\∃a c,v=.slice a 0 c)\/∃g off cp,v=.slice (some ⟨g,off,none⟩) l.length cp/\l≠[]/\DlAt g off cp l u
section
variable {mb tb bb:Nat}{w:World}
theorem prog_any:∀(l:List Nd)(ρ:List Nm)(w:World)(v:Value),okP ρ l=true->BM mb tb bb ρ ρ.length w->SlV l v w->Calls prog 43 #[ptrV bb,v] w (BA mb tb bb ρ (cdProg ρ l) w):=by
 intro l
 induction l with
 |nil=>
  intro ρ w v _ hB hv
  rcases hv with⟨_,a,c,rfl⟩|⟨_,_,_,_,h,_⟩
  ·exact prog_nil hB
  ·exact absurd rfl h
 |cons d l ih=>
  intro ρ w v h hB hv
  rcases hv with⟨h0,_⟩|⟨g,off,cp,rfl,_,hd⟩
  ·cases h0
  obtain⟨k,txt,ps⟩:=d
  rw[okP]at h
  simp only[Bool.and_eq_true,decide_eq_true_eq]at h
  obtain⟨⟨⟨hp,ht⟩,hl⟩,h⟩:=h
  replace hp:ps.length<=100:=hp
  replace ht:txt.length<=1000:=ht
  have hx:okK (0,txt):=⟨show 0<3 by decide,show txt.length<=100000000 by omega⟩
  have hlen:ρ.length+1<=1000000:=by omega
  split at h
  ·rename_i a r _
   simp only[Bool.and_eq_true]at h
   rw[length_cons]at hp
   show Calls prog 43 #[ptrV bb,.slice (some ⟨g,off,none⟩) (l.length+1) cp] w (BA mb tb bb ρ ⟨9,0,[],[cdOf (a.ht+1) ρ a,cdProg ρ l],[]⟩ w)
   exact prog17 (by omega) hB hd (fun u v hu hv=>ih ρ u v h.2 hu hv) (fun u b hu hb=>expr_any _ _ _ u b h.1 hu hb)
  ·rename_i a r _
   simp only[Bool.and_eq_true]at h
   rw[length_cons]at hp
   show Calls prog 43 #[ptrV bb,.slice (some ⟨g,off,none⟩) (l.length+1) cp] w (BA mb tb bb ρ ⟨6,0,txt,[cdOf (a.ht+1) ρ a,cdProg (txt::ρ) l],[]⟩ w)
   exact prog6 hx hlen hB hd (fun u v hu hv=>ih _ u v h.2 hu hv) (fun u nb Kb csb hu hn hb=>bindLet (by omega) hx hlen hu hn hb (fun u b hu hb=>expr_any _ _ _ u b h.1 hu hb))
  ·rename_i a r _
   simp only[Bool.and_eq_true]at h
   rw[length_cons]at hp
   show Calls prog 43 #[ptrV bb,.slice (some ⟨g,off,none⟩) (l.length+1) cp] w (BA mb tb bb ρ ⟨7,0,txt,[cdOf (a.ht+1) (txt::ρ) a,cdProg (txt::ρ) l],[]⟩ w)
   exact prog7 hx hlen hB hd (fun u v hu hv=>ih _ u v h.2 hu hv) (fun u nb Kb csb hu hn hb=>bindRec (by omega) hx hlen hu hn hb (fun u b hu hb=>expr_any _ _ _ u b h.1 hu hb))
  ·cases h
structure StartB(mb:Nat)(v:Value)(w u:World):Prop where
 kn:Kn (fun _=>False) w u
 dec:u.heap[w.heap.size]?=some (.cells #[v] 36 (0,0))
 tab:u.heap[w.heap.size+1]?=some (.map #[] 0)
 bld:u.heap[w.heap.size+1+1]?=some (.cells #[stepV mb,.map (some (w.heap.size+1)),.int .i64 0] tyBld (0,0))
 row:u.heap[w.heap.size+1+1+1]?=some (.cells #[.string ⟨#[112,117,116]⟩,.string ⟨#[103,101,116]⟩,.string ⟨#[114,101,102]⟩] tyStr (0,0))
theorem StartB.bm{v:Value}{u:World}(h:StartB mb v w u):BM mb (w.heap.size+1) (w.heap.size+1+1) [] 0 u:=
 ⟨h.bld,⟨0,fun _=>none,⟨#[],0,h.tab,by simp,by simp,rfl,by simp⟩,fun v _=>rfl⟩,by omega⟩
theorem work_of{a:Option Addr}{n c:Nat}{Q:Ending->World->Prop}
  (hW:∀u,StartB mb (.slice a n c) w u->Calls prog 41 #[ptrV (w.heap.size+1+1),.func (.func 42) #[] #[ptrV (w.heap.size+1+1),ptrV w.heap.size],.slice (some ⟨w.heap.size+1+1+1,0,none⟩) 3 3] u fun e u2=>∃K cs,e=.returned (.func (.func K) #[] cs)/\Hid (Calls prog 44 #[.func (.func K) #[] cs,ptrV (u2.heap.size+1+1)] (((u2.alloc (.cells #[.iface tyFn (.func (.func 46) #[ptrV mb] #[]),.pointer none] tyScope)).alloc (.cells #[.iface tyFn (.func (.func 47) #[ptrV mb] #[]),ptrV u2.heap.size] tyScope)).alloc (.cells #[.iface tyFn (.func (.func 48) #[] #[]),ptrV (u2.heap.size+1)] tyScope)) fun e u3=>e=.returned (.tuple #[])/\Hid (Q (.returned (.tuple #[])) u3))) :
  Calls prog 19 #[ptrV mb,.slice a n c] w Q:=by
 have hmm:∀u:World,(Instr.makeMap tyTabI none).run prog u=.ok (.map (some u.heap.size)) (u.alloc (.map #[] 0)):=fun _=>rfl
 have h3:=al3 w (.cells #[.slice a n c] 36) (.map #[] 0) (.cells #[.nilFunc,.map none,.int .i64 0] tyBld)
 have hk3:Kn (fun _=>False) w (((w.alloc (.cells #[.slice a n c] 36)).alloc (.map #[] 0)).alloc (.cells #[.nilFunc,.map none,.int .i64 0] tyBld)):=(((Kn.refl _ w).alloc _).alloc _).alloc _
 have hs3:(((w.alloc (.cells #[.slice a n c] 36)).alloc (.map #[] 0)).alloc (.cells #[.nilFunc,.map none,.int .i64 0] tyBld)).heap.size=w.heap.size+1+1+1:=by rw[alloc_size,alloc_size,alloc_size]
 generalize hw3:((w.alloc (.cells #[.slice a n c] 36)).alloc (.map #[] 0)).alloc (.cells #[.nilFunc,.map none,.int .i64 0] tyBld)=w3 at *
 have b0:w3.cell? ⟨w.heap.size+1+1,0,none⟩=some .nilFunc:=(cell_of h3.2.2 0).trans rfl
 have b1:w3.cell? ⟨w.heap.size+1+1,1,none⟩=some (.map none):=(cell_of h3.2.2 1).trans rfl
 have b2:w3.cell? ⟨w.heap.size+1+1,2,none⟩=some (.int .i64 0):=(cell_of h3.2.2 2).trans rfl
 have f0:w3.frozen? ⟨w.heap.size+1+1,0,none⟩=false:=froz_of h3.2.2 0
 have f1:w3.frozen? ⟨w.heap.size+1+1,1,none⟩=false:=froz_of h3.2.2 1
 have f2:w3.frozen? ⟨w.heap.size+1+1,2,none⟩=false:=froz_of h3.2.2 2
 have u1:=Upd.set h3.2.2 0 (stepV mb)
 have u2:=Upd.set u1.here 1 (.map (some (w.heap.size+1)))
 have u3:=Upd.set u2.here 2 (.int .i64 0)
 have hk4:Kn (fun _=>False) w (((w3.setCell ⟨w.heap.size+1+1,0,none⟩ (stepV mb)).setCell ⟨w.heap.size+1+1,1,none⟩ (.map (some (w.heap.size+1)))).setCell ⟨w.heap.size+1+1,2,none⟩ (.int .i64 0)):=((hk3.set (p:=⟨w.heap.size+1+1,0,none⟩) (inr (by show w.heap.size<=w.heap.size+1+1;omega)) _).set (p:=⟨w.heap.size+1+1,1,none⟩) (inr (by show w.heap.size<=w.heap.size+1+1;omega)) _).set (p:=⟨w.heap.size+1+1,2,none⟩) (inr (by show w.heap.size<=w.heap.size+1+1;omega)) _
 have hst:StartB mb (.slice a n c) w ((((w3.setCell ⟨w.heap.size+1+1,0,none⟩ (stepV mb)).setCell ⟨w.heap.size+1+1,1,none⟩ (.map (some (w.heap.size+1)))).setCell ⟨w.heap.size+1+1,2,none⟩ (.int .i64 0)).alloc (.cells #[.string ⟨#[112,117,116]⟩,.string ⟨#[103,101,116]⟩,.string ⟨#[114,101,102]⟩] tyStr)):=by
  have hsz:(((w3.setCell ⟨w.heap.size+1+1,0,none⟩ (stepV mb)).setCell ⟨w.heap.size+1+1,1,none⟩ (.map (some (w.heap.size+1)))).setCell ⟨w.heap.size+1+1,2,none⟩ (.int .i64 0)).heap.size=w.heap.size+1+1+1:=by rw[u3.size,u2.size,u1.size,hs3]
  refine⟨hk4.alloc _,?_,?_,?_,?_⟩
  ·rw[alloc_heap,if_neg (by omega),u3.rest _ (by omega),u2.rest _ (by omega),u1.rest _ (by omega)];exact h3.1
  ·rw[alloc_heap,if_neg (by omega),u3.rest _ (by omega),u2.rest _ (by omega),u1.rest _ (by omega)];exact h3.2.1
  ·rw[alloc_heap,if_neg (by omega),u3.here];rfl
  ·rw[alloc_heap,if_pos hsz.symm]
 have HW:=hide (hW _ hst)
 have hs6:(((w3.setCell ⟨w.heap.size+1+1,0,none⟩ (stepV mb)).setCell ⟨w.heap.size+1+1,1,none⟩ (.map (some (w.heap.size+1)))).setCell ⟨w.heap.size+1+1,2,none⟩ (.int .i64 0)).heap.size=w.heap.size+1+1+1:=by rw[u3.size,u2.size,u1.size,hs3]
 have hwa:=fun(p:Option Addr) (K:Nat) (fs:Array Value) (u:World)=>with_any (v:=.iface tyFn (.func (.func K) fs #[])) p (inl ⟨_,_,rfl⟩) u
 have HWA:=hide hwa
 clear hW hwa h3 hk3 hk4 u1 u2 u3 hst
 unfold ptrV stepV at *
 have hsf:∀(u:World),(store ⟨w.heap.size+1+1,0,none⟩ (.func (.func 40) #[.pointer (some ⟨mb,0,none⟩)] #[])).run prog u=stored prog u ⟨w.heap.size+1+1,0,none⟩ (.func (.func 40) #[.pointer (some ⟨mb,0,none⟩)] #[]) .plain:=fun u=>run_store prog u _ _ _ rfl
 go_enter func19,ntmps19
 go_wp2_with fail
 refine(HW.out).mono ?_
 rintro e u2⟨K,cs,rfl,HC⟩
 go_wp2_with fail
 refine(HWA.out _ _ _ _).mono ?_
 rintro e v1⟨rfl,rfl⟩
 go_wp2_with fail
 refine(HWA.out _ _ _ _).mono ?_
 rintro e v2⟨rfl,rfl⟩
 go_wp2_with fail
 refine(HWA.out _ _ _ _).mono ?_
 rintro e v3⟨rfl,rfl⟩
 go_wp2_with fail
 refine(HC.out).mono ?_
 rintro e v4⟨rfl,HQ⟩
 go_wp2
 refine bodyPost_end (v:=.tuple #[]) (by simp[results,results19,go_sem]) rfl HQ.out
end
section
variable {mb:Nat}{w:World}
theorem Enters.work1:Enters 42:=enters func42 (by kernel_rfl) rfl
theorem Work1_of{tb bb s2:Nat}{v:Value}{ρ:List Nm}{c:Cd}(h2:w.heap[s2]?=some (.cells #[v] 36 (0,0)))(hE:Calls prog 43 #[ptrV bb,v] w (BA mb tb bb ρ c w)):Calls prog 42 #[ptrV bb,ptrV s2] w (BA mb tb bb ρ c w):=by
 have d2:w.cell? ⟨s2,0,none⟩=some v:=cell_of' h2
 have HE:=hide hE
 clear hE h2
 unfold ptrV at *
 go_enter func42,ntmps42
 go_wp2_with fail
 refine(HE.out).mono ?_
 intro e u2 hq
 obtain⟨Kr,csr,rfl,hq2⟩:=hq
 have HQ:=hide (show BA mb tb bb ρ _ w _ u2 from⟨Kr,csr,rfl,hq2⟩)
 clear hq2
 go_wp2
 refine bodyPost_ret (v:=.func (.func Kr) #[] csr) (by simp[results,results42,go_sem]) rfl HQ.out
theorem Work_any{B:Nat}(hBm:B<=mb){l:List Nd}{N steps:Nat}{I:Nm}{out:Mach}{a:Option Addr}{n c:Nat}(hm:w.heap[mb]?=some (.cells #[.string (bs I),.slice none 0 0,.int .i64 steps,.int .i64 0] tyMach (0,0)))(hI:I.length<=1000000)(hst:steps<=4000)
  (hv:SlV l (.slice a n c) w) (hok:okP [refN,getN,putN] l=true) (hr:runR N (startM I steps) (startS l)=some (0,out)) :
  Calls prog 19 #[ptrV mb,.slice a n c] w fun e w'=>e=.returned (.tuple #[])/\KR B w w'/\∃sa ca,RM B mb sa ca out w':=by
 refine work_of fun u hu=>?_
 have hBM:=hu.bm
 have hkr:KR B w u:=⟨hu.kn.size,fun k c t f _ hc=>hu.kn.block k (lt_of_heap hc) id,fun k _ hl=>hu.kn.block k hl id,hu.kn.os,hu.kn.tape,hu.kn.output⟩
 have hrow:u.ownsRow 0 tyStr 1 (.slice (some ⟨w.heap.size+1+1+1,0,none⟩) 3 3) [putN,getN,refN].length ([putN,getN,refN].map strV):=
  ⟨rfl,inr ⟨_,3,_,rfl,zero_le _,hu.row,le_refl _,by decide,rfl,rfl⟩⟩
 have hmb:mb<w.heap.size:=lt_of_heap hm
 refine(withinR_of (c:=cdProg [refN,getN,putN] l) (vs:=[putN,getN,refN]) Enters.work1 hrow (fun x hx=>?_) (by decide) hBM (fun v hv1 hv2=>?_)).mono ?_
 ·simp only[mem_cons,List.not_mem_nil,or_false]at hx
  rcases hx with rfl|rfl|rfl<;>exact⟨by decide,by decide⟩
 ·have hk:Kn (fun k=>k=w.heap.size+1\/k=w.heap.size+1+1) w v:=(hu.kn.wide fun _ _ h=>h.elim).trans hv1
  have e2:=(hv1.block _ (lt_of_heap hu.dec) fun e=>by rcases e with e|e<;>omega).trans hu.dec
  refine Work1_of e2 (prog_any l _ v _ hok hv2 ?_)
  rcases hv with h0|⟨g,off,cp,h1,h2,h3⟩
  ·exact inl h0
  ·refine inr ⟨g,off,cp,h1,h2,?_⟩
   obtain⟨cs,q1,q2⟩:=h3.row
   have hkeep:∀(k:Nat)(c:Array Value)(t:TypeId)(f:Nat×Nat),w.heap[k]?=some (.cells c t f)->v.heap[k]?=w.heap[k]?:=fun k c t f hc=>hk.block k (lt_of_heap hc) fun e=>by have:=lt_of_heap hc;rcases e with e|e<;>omega
   refine⟨⟨cs,(hkeep _ _ _ _ q1).trans q1,fun j nd hj=>?_⟩,h3.cap,h3.len⟩
   obtain⟨b,q3,q4⟩:=q2 j nd hj
   exact⟨b,q3,NMem.kept (fun k c f hc=>hkeep k c _ f hc) (fun k c f hc=>hkeep k c _ f hc) nd b q4⟩
 ·rintro e u2⟨K,cs,rfl,p1,p2,p3⟩
  refine⟨K,cs,rfl,?_⟩
  have hkr1:KR B u u2:=⟨p2.size,(hBM.kr p2).block,fun k hkB hl=>p2.block k hl (fun e=>by rcases e with e|e<;>omega),p2.os,p2.tape,p2.output⟩
  have hkr2:=hkr.trans hkr1
  have hm2:u2.heap[mb]?=some (.cells #[.string (bs I),.slice none 0 0,.int .i64 steps,.int .i64 0] tyMach (0,0)):=by
   rw[p2.block mb (lt_of_lt_of_le hmb hu.kn.size) (fun e=>by rcases e with e|e<;>omega),hu.kn.block mb hmb id];exact hm
  have hBu:B<=u2.heap.size:=by have:=hkr2.size;omega
  have r0:RM B mb [] [] ⟨I,[],steps,0,[],[]⟩ u2:=⟨⟨_,hm2,World.ownsRow_nil _ _ _ _⟩,rfl,List.nodup_nil,fun i v o h=>by simp at h,rfl,List.nodup_nil,fun i v h=>by simp at h,hI,zero_le _,zero_le _,hst,hBm,fun b hb=>by simp at hb,fun b hb=>by simp at hb,hBu⟩
  have q1:PEq (u2.alloc (.cells #[.iface tyFn (.func (.func 46) #[ptrV mb] #[]),.pointer none] tyScope)) u2 (.cells #[.iface tyFn (.func (.func 46) #[ptrV mb] #[]),.pointer none] tyScope (0,0)):=PEq.alloc _ _
  have r1:=r0.with (v:=RV.put) (sc:=0) (inr (inr (inr (inr (inl ⟨rfl,rfl⟩))))) (inl ⟨rfl,rfl⟩) q1
  have s1:=push_size q1
  generalize hv1:u2.alloc (.cells #[.iface tyFn (.func (.func 46) #[ptrV mb] #[]),.pointer none] tyScope)=v1 at *
  have q2:PEq (v1.alloc (.cells #[.iface tyFn (.func (.func 47) #[ptrV mb] #[]),ptrV u2.heap.size] tyScope)) v1 (.cells #[.iface tyFn (.func (.func 47) #[ptrV mb] #[]),ptrV u2.heap.size] tyScope (0,0)):=PEq.alloc _ _
  have r2:=r1.with (v:=RV.get) (sc:=1) (inr (inr (inr (inr (inr (inl ⟨rfl,rfl⟩)))))) (inr ⟨u2.heap.size,by decide,rfl,rfl⟩) q2
  have s2:=push_size q2
  generalize hv2:v1.alloc (.cells #[.iface tyFn (.func (.func 47) #[ptrV mb] #[]),ptrV u2.heap.size] tyScope)=v2 at *
  have q3:PEq (v2.alloc (.cells #[.iface tyFn (.func (.func 48) #[] #[]),ptrV (u2.heap.size+1)] tyScope)) v2 (.cells #[.iface tyFn (.func (.func 48) #[] #[]),ptrV (u2.heap.size+1)] tyScope (0,0)):=PEq.alloc _ _
  rw[s1]at r2
  have r3:=r2.with (v:=RV.ref) (sc:=2) (inr (inr (inr (inr (inr (inr (inl ⟨rfl,rfl⟩))))))) (inr ⟨u2.heap.size+1,by decide,rfl,rfl⟩) q3
  rw[s2,s1]at r3
  generalize hv3:v2.alloc (.cells #[.iface tyFn (.func (.func 48) #[] #[]),ptrV (u2.heap.size+1)] tyScope)=v3 at *
  have k3:KR B u2 v3:=(((KR.refl B u2).push q1).push q2).push q3
  refine(workOut_any (m:=startM I steps) (c:=cdProg [refN,getN,putN] l) (sc:=3) r3 (p3.kept k3) (inr ⟨u2.heap.size+1+1,by decide,rfl,rfl⟩) hr).mono ?_
  rintro e w'⟨rfl,t1,t2⟩
  exact⟨rfl,rfl,hkr2.trans (k3.trans t1),t2⟩
end
theorem lin_step(md:Region.Mode)(ops:Array Oper)(fuel t:Nat)(listed:Array Bool)(acc:List Nat):Region.linearise.go md ops (fuel+1) t listed acc=(match (Region.ready md ops listed)[t % (Region.ready md ops listed).length]? with
  |some i=>Region.linearise.go md ops fuel (t / (Region.ready md ops listed).length) (listed.setIfInBounds i true) (i::acc)
  |none=>acc.reverse):=by
 simp only[Region.linearise.go]
 rfl
theorem lin_zero(md:Region.Mode)(ops:Array Oper)(t:Nat)(listed:Array Bool)(acc:List Nat):Region.linearise.go md ops 0 t listed acc=acc.reverse:=by simp[Region.linearise.go]
theorem orders5{ops:Array Oper}(h0:Region.ready .any ops #[false,false,false,false,false]=[0,1])(h1:Region.ready .any ops #[true,false,false,false,false]=[1])(h2:Region.ready .any ops #[false,true,false,false,false]=[0,2])(h3:Region.ready .any ops #[true,true,false,false,false]=[2])
  (h4:Region.ready .any ops #[false,true,true,false,false]=[0]) (h5:Region.ready .any ops #[true,true,true,false,false]=[3]) (h6:Region.ready .any ops #[true,true,true,true,false]=[4]) (t:Nat) :
  Region.linearise.go .any ops 5 t #[false,false,false,false,false] []=[0,1,2,3,4]\/Region.linearise.go .any ops 5 t #[false,false,false,false,false] []=[1,0,2,3,4]\/Region.linearise.go .any ops 5 t #[false,false,false,false,false] []=[1,2,0,3,4]:=by
 have e2:t % 2=0\/t % 2=1:=by omega
 have e4:t / 2 % 2=0\/t / 2 % 2=1:=by omega
 rcases e2 with e2|e2<;>rcases e4 with e4|e4<;>simp[lin_step,lin_zero,h0,h1,h2,h3,h4,h5,h6,e2,e4,Nat.mod_one]
theorem wpS_region3{P:Program}{Q:Exit->Act->List Frame->World->Prop}{a:Act}{cs:List Frame}{w:World}{id:Nat}{ops:Array Oper}{l1 l2 l3:List Nat}(hm:P.follows .mixedOrders=true)
  (hord:∀t,Region.linearise .any ops t=l1\/Region.linearise .any ops t=l2\/Region.linearise .any ops t=l3)
  (h1:wpOpsS P ops Q l1 a cs w.drew) (h2:wpOpsS P ops Q l2 a cs w.drew) (h3:wpOpsS P ops Q l3 a cs w.drew):(Code.region id ops true).wpS P Q a cs w:=by
 intro b k hb hr
 have hl:wpOpsS P ops Q (Region.schedule (P.follows .mixedOrders) ops (w.tape w.drawn (.order b.fn id))) a cs w.drew:=by
  simp only[Region.schedule,hm,Bool.true_or,if_true]
  rcases hord (w.tape w.drawn (.order b.fn id))with h|h|h<;>rw[h]<;>assumption
 obtain⟨e,a',cs',w',q,r⟩:=wp_opsS _ a cs w.drew hl b k hb hr
 exact⟨e,a',cs',w',q,.of_steps (.one step_region_draw) r⟩
structure SameS(u w:World):Prop where
 so:SameO u w
 size:w.heap.size<=u.heap.size
section
variable {B mb:Nat}{w:World}
theorem result1_end{s1 s2:Nat}{sa ca:List Nat}{m:Mach}(h:RM B mb sa ca m w)(h1:w.heap[s1]?=some (.cells #[ptrV mb] 59 (0,0)))(h2:w.heap[s2]?=some (.cells #[.string ⟨#[]⟩,.int .i64 0,.int .i64 0] 28 (0,0))) :
  CallsD prog 16 #[ptrV s1,ptrV s2] .returning w fun e u' w'=>e=.returned (.tuple #[])/\u'=.returning/\w'.heap[s2]?=some (.cells #[.string (bs m.output),.int .i64 0,.int .i64 m.done] 28 (0,0))/\(∀k:Nat,k≠s2->k<w.heap.size->w'.heap[k]?=w.heap[k]?)/\SameS w' w:=by
 have d1:w.drew.cell? ⟨s1,0,none⟩=some (ptrV mb):=cell_of' (w:=w.drew) h1
 have hE:=EndOf_nil w.drew
 have hR:=Result_any (w:=w.drew) (h.heap (HEq.drew w))
 unfold ptrV at *
 refine callsD_of_wpS func16 rfl fun c₀ cs hu=>?_
 refine wpS_region3 (l1:=[0,1,2,3,4]) (l2:=[1,0,2,3,4]) (l3:=[1,2,0,3,4]) (by kernel_rfl) (fun t=>orders5 (by kernel_rfl) (by kernel_rfl) (by kernel_rfl) (by kernel_rfl) (by kernel_rfl) (by kernel_rfl) (by kernel_rfl) t) ?_ ?_ ?_
 all_goals
  simp[wpOpsS,go_sem,recoverD,hu,ntmps16,d1]
  refine hE.mono ?_
  rintro e w1⟨rfl,rfl⟩
  simp[d1,Act.put]
  refine hR.mono ?_
  rintro e w2⟨rfl,hk⟩
  have hs2:w2.heap[s2]?=some (.cells #[.string ⟨#[]⟩,.int .i64 0,.int .i64 0] 28 (0,0)):=(hk.block s2 (lt_of_heap h2) id).trans h2
  have hst:=run_storeCells_at (P:=prog) s2 0 28 [.string (bs m.output),.int .i64 0,.int .i64 m.done] 0 _ w2 hs2 (by simp) (by intro v hv;simp at hv;rcases hv with rfl|rfl|rfl<;>rfl)
  simp[hst,Oper.upon,bodyPostS,Act.put]
  refine⟨.returning,?_,.tuple #[],?_,rfl,rfl,?_,fun k hks hkl=>?_,⟨hk.os,hk.tape,hk.output⟩,by simpa [World.setRow]using hk.size⟩
  ·cases c₀;simp_all
  ·simp[results,results16]
  ·simp[World.setRow,Array.getElem?_modify,hs2]
  ·have:=hk.block k hkl id
   simp only[World.setRow,Array.getElem?_modify]
   rw[if_neg (fun e=>hks e.symm)]
   exact this
theorem same3{u:World}{b:Nat}{x y z:Value}{t:TypeId}(h:u.heap[b]?=some (.cells #[x,y,z] t (0,0))):∀k:Nat,(((u.setCell ⟨b,0,none⟩ x).setCell ⟨b,1,none⟩ y).setCell ⟨b,2,none⟩ z).heap[k]?=u.heap[k]?:=fun k=>by
 have u1:=Upd.set h 0 x
 have u2:=Upd.set u1.here 1 y
 have u3:=Upd.set u2.here 2 z
 by_cases hk:k=b
 ·subst hk;rw[u3.here,h];rfl
 ·rw[u3.rest k hk,u2.rest k hk,u1.rest k hk]
theorem resultOf_of{pb:Nat}{s:ByteArray}{n:Int}{dv bv tv:Value}{tp:TypeId}{out:Mach}(ftp:Fixed tp)(hp:w.heap[pb]?=some (.cells #[dv,bv,tv] tp (0,0)))
  (hW:∀u mb,Kn (fun _=>False) w u->w.heap.size<=mb->u.heap[mb]?=some (.cells #[.string s,.slice none 0 0,.int .i64 n,.int .i64 0] tyMach (0,0))->Calls prog 19 #[ptrV mb,dv] u fun e w'=>e=.returned (.tuple #[])/\KR w.heap.size u w'/\∃sa ca,RM w.heap.size mb sa ca out w') :
  Calls prog 9 #[ptrV pb,.string s,.int .i64 n] w fun e w'=>e=.returned (.agg #[.string (bs out.output),.int .i64 0,.int .i64 out.done])/\Below w.heap.size w w':=by
 have hN:=fun u=>newM_any s n u
 have HN:=hide hN
 have a3:=al3 w (.cells #[.string ⟨#[]⟩,.int .i64 0,.int .i64 0] 28) (.cells #[.string s,.slice none 0 0,.int .i64 n,.int .i64 0] tyMach) (.cells #[ptrV (w.heap.size+1)] 59)
 have hk3:Kn (fun _=>False) w (((w.alloc (.cells #[.string ⟨#[]⟩,.int .i64 0,.int .i64 0] 28)).alloc (.cells #[.string s,.slice none 0 0,.int .i64 n,.int .i64 0] tyMach)).alloc (.cells #[ptrV (w.heap.size+1)] 59)):=(((Kn.refl _ w).alloc _).alloc _).alloc _
 generalize hw3:((w.alloc (.cells #[.string ⟨#[]⟩,.int .i64 0,.int .i64 0] 28)).alloc (.cells #[.string s,.slice none 0 0,.int .i64 n,.int .i64 0] tyMach)).alloc (.cells #[ptrV (w.heap.size+1)] 59)=w3 at *
 have z1:w3.cell? ⟨w.heap.size+1+1,0,none⟩=some (ptrV (w.heap.size+1)):=cell_of' a3.2.2
 have hp3:=(hk3.block pb (lt_of_heap hp) id).trans hp
 have z2:w3.cell? ⟨pb,0,none⟩=some dv:=(cell_of hp3 0).trans rfl
 have fR:Fixed 28:=by unfold Fixed;decide
 have fB:Fixed 59:=by unfold Fixed;decide
 have hW1:Calls prog 19 #[ptrV (w.heap.size+1),dv] w3.drew fun e u=>e=.returned (.tuple #[])/\(u.cell? ⟨w.heap.size+1+1,0,none⟩=some (ptrV (w.heap.size+1))/\u.cell? ⟨pb,0,none⟩=some dv)/\((u.cell? ⟨w.heap.size,0,none⟩=some (.string ⟨#[]⟩)/\u.cell? ⟨w.heap.size,1,none⟩=some (.int .i64 0)/\u.cell? ⟨w.heap.size,2,none⟩=some (.int .i64 0))/\(u.frozen? ⟨w.heap.size,0,none⟩=false/\u.frozen? ⟨w.heap.size,1,none⟩=false/\u.frozen? ⟨w.heap.size,2,none⟩=false))/\Hid (CallsD prog 16 #[ptrV (w.heap.size+1+1),ptrV w.heap.size] .returning (((u.setCell ⟨w.heap.size,0,none⟩ (.string ⟨#[]⟩)).setCell ⟨w.heap.size,1,none⟩ (.int .i64 0)).setCell ⟨w.heap.size,2,none⟩ (.int .i64 0)) fun e u' w'=>e=.returned (.tuple #[])/\u'=.returning/\(w'.cell? ⟨w.heap.size,0,none⟩=some (.string (bs out.output))/\w'.cell? ⟨w.heap.size,1,none⟩=some (.int .i64 0)/\w'.cell? ⟨w.heap.size,2,none⟩=some (.int .i64 out.done))/\Hid (Below w.heap.size w w')):=by
  refine(hW w3.drew (w.heap.size+1) hk3.drew (Nat.le_succ _) a3.2.1).mono ?_
  rintro e u⟨rfl,hk,sa,ca,hM⟩
  have hR:u.heap[w.heap.size]?=some (.cells #[.string ⟨#[]⟩,.int .i64 0,.int .i64 0] 28 (0,0)):=(hk.block _ _ _ _ fR a3.1).trans a3.1
  have hB:u.heap[w.heap.size+1+1]?=some (.cells #[ptrV (w.heap.size+1)] 59 (0,0)):=(hk.block _ _ _ _ fB a3.2.2).trans a3.2.2
  have hs:=same3 hR
  have hM2:RM w.heap.size (w.heap.size+1) sa ca out (((u.setCell ⟨w.heap.size,0,none⟩ (.string ⟨#[]⟩)).setCell ⟨w.heap.size,1,none⟩ (.int .i64 0)).setCell ⟨w.heap.size,2,none⟩ (.int .i64 0)):=hM.more (by simp[World.setCell]) (fun k _=>hs k) ⟨rfl,rfl,rfl⟩
  have hP:u.heap[pb]?=some (.cells #[dv,bv,tv] tp (0,0)):=(hk.block _ _ _ _ ftp hp3).trans hp3
  refine⟨rfl,⟨cell_of' hB,(cell_of hP 0).trans rfl⟩,⟨⟨(cell_of hR 0).trans rfl,(cell_of hR 1).trans rfl,(cell_of hR 2).trans rfl⟩,froz_of hR 0,froz_of hR 1,froz_of hR 2⟩,(result1_end hM2 ((hs _).trans hB) ((hs _).trans hR)).mono ?_⟩
  rintro e u' w'⟨rfl,rfl,h1,h1k,hss⟩
  refine⟨rfl,rfl,⟨(cell_of h1 0).trans rfl,(cell_of h1 1).trans rfl,(cell_of h1 2).trans rfl⟩,hide ⟨hss.so.os.trans (hk.so.os.trans hk3.os),hss.so.tape.trans (hk.so.tape.trans hk3.tape),hss.so.output.trans (hk.so.output.trans hk3.output),le_trans hk3.size (le_trans hk.size (le_trans (by simp[World.setCell]) hss.size)),fun k hlt=>?_⟩⟩
  have e4:u.heap[k]?=w.heap[k]?:=(hk.low k hlt (lt_of_lt_of_le hlt hk3.size)).trans (hk3.block k hlt id)
  rw[h1k k (by omega) (by simp only[World.setCell,Array.size_modify];exact lt_of_lt_of_le hlt (le_trans hk3.size hk.size)),hs k,e4]
 have HW:=hide hW1
 clear hN hW hp hp3 hW1 a3 hk3 fR fB ftp
 have c1a:w3.drew.cell? ⟨w.heap.size+1+1,0,none⟩=some (ptrV (w.heap.size+1)):=z1
 have c2a:w3.drew.cell? ⟨pb,0,none⟩=some dv:=z2
 unfold ptrV at *
 generalize bs out.output=so at *
 generalize (out.done:Int)=dn at *
 go_enter_defers func9,ntmps9
 go_wp2_with fail
 refine(HN.out _).mono ?_
 rintro e w1⟨rfl,rfl⟩
 go_wp2_with fail
 go_region_held3 (fun w'=>w'.cell? ⟨w.heap.size+1+1,0,none⟩=some (.pointer (some ⟨w.heap.size+1,0,none⟩))/\w'.cell? ⟨pb,0,none⟩=some dv) (exact⟨c1a,c2a⟩)
  (first|(go_at_call 19;(refine(HW.out).mono ?_);rintro e u⟨rfl,⟨c1a,c2a⟩,⟨⟨r0,r1,r2⟩,f0,f1,f2⟩,HD⟩))
 all_goals
  go_wp2
  refine leaves_cons (f:=16) (by simp) (by simp[go_sem];rfl) ?_
  refine(HD.out).mono ?_
  rintro e u' w8⟨rfl,rfl,⟨q0,q1,q2⟩,HF⟩
  simp[Leaves,settle,results,results9,go_sem,q0,q1,q2]
  exact HF.out
end
end Go.Proofs.YtbkiipiocpnnnaaGreatDoor
