import Derived.Test.YtbkiipiocpnnnaaGreatDoorC26
set_option linter.all false
set_option maxHeartbeats 40000000
set_option maxRecDepth 100000
open Go.Proofs.Tryz
namespace Go.Proofs.YtbkiipiocpnnnaaGreatDoor
open Go.RowKit
section
variable {mb tb bb:Nat}{ρ:List Nm}{w:World}
theorem composed13{nb:Nat}{txt:Nm}{n1 n2:Nd}{c1 c2:Cd}(hB:BM mb tb bb ρ ρ.length w)(hn:NMem w (.mk 13 txt [n1,n2]) nb)
  (hE:∀(i:Nat)(nd:Nd)(b:Nat)(c:Cd)(u:World),[n1,n2][i]?=some nd->[c1,c2][i]?=some c->BM mb tb bb ρ ρ.length u->NMem u nd b->Calls prog 72 #[ptrV bb,ptrV b] u (BA mb tb bb ρ c u)) :
  Calls prog 113 #[ptrV bb,ptrV nb] w (BA mb tb bb ρ ⟨13,0,txt,[c1,c2],[]⟩ w):=by
 obtain⟨g,cap,bl,hp,hm,hbl⟩:=hn.pt (by simp)
 obtain⟨LI,hbn,h0,hs,he⟩:=cp_facts (cds:=[c1,c2]) hB hp hm rfl (by simp) (fun i nd b c u h1 _ h3 h4 h5=>hE i nd b c u h1 h3 h4 h5)
 have hbl:bl.length=2:=hbl
 have hfin:∀v wr,LI 2 v wr->∃g2 cap2 K1 cs1 K2 cs2,v=.slice (some ⟨g2,0,none⟩) 2 cap2/\(wr.cell? ⟨g2,0,none⟩=some (.func (.func K1) #[] cs1)/\wr.cell? ⟨g2,1,none⟩=some (.func (.func K2) #[] cs2))/\(wr.cell? ⟨nb,0,none⟩=some (.int .i64 13)/\wr.cell? ⟨nb,1,none⟩=some (.string (bs txt))/\wr.cell? ⟨bb,0,none⟩=some (stepV mb))/\Hid (∀u,Kn (fun _=>False) wr u->Calls prog 157 #[.func (.func 40) #[ptrV mb] #[],.func (.func K1) #[] cs1,.func (.func K2) #[] cs2] u (BA mb tb bb ρ ⟨13,0,txt,[c1,c2],[]⟩ w)):=fun v wr hh=>by
  have hcp:=he v wr (by rw[hbl];exact hh)
  obtain⟨g2,cap2,K1,cs1,K2,cs2,rfl,r1,r2,q1,q2⟩:=hcp.end2
  have hc:=(hB.pt hcp.kn hp).cells
  refine⟨_,_,_,_,_,_,rfl,⟨r1,r2⟩,⟨hc.1,hc.2.1,by simp[World.cell?,hcp.bm.bld]⟩,?_⟩
  exact fun u hu=>(b_apply (hcp.bm.stays hu) (q1.kept (hcp.bm.kr (hu.wide fun _ _ h=>h.elim))) (q2.kept (hcp.bm.kr (hu.wide fun _ _ h=>h.elim)))).mono fun e u2 ha=>ha.behind (hcp.kn.trans (hu.wide fun _ _ h=>h.elim))
 have hc:=hp.cells
 obtain⟨z0,z1,z2,_⟩:=hc
 rw[hbl]at z2 hs
 have H0:=hide h0
 have HS:=hide hs
 have HF:=hide hfin
 clear h0 hs he hp hm hE hB hn hfin hbn
 generalize bs txt=tx at *
 unfold ptrV stepV at *
 go_enter func113,ntmps113
 go_wp2_with fail
 go_loopg [5,13] 2 (fun gk v5 v13 wr=>∃i:Nat,v13=.int .i64 (i:Nat)/\i+gk=2/\Hid (LI i v5 wr))
 case atStart=>exact⟨0,rfl,rfl,H0⟩
 case round=>
  clear H0
  obtain⟨i,rfl,hi,HL⟩:=hrel
  by_cases hlt:i<2
  ·obtain⟨b,e1,e2,hc⟩:=HS.out _ _ _ HL.out hlt
   have hlt3:(i:Int)<2:=by omega
   have HC:=hide hc
   clear hc HS HF HL
   go_wp2_with fail
   refine(HC.out).mono ?_
   rintro e u⟨K,cs,v',w2,rfl,hrun,HL⟩
   have HR:=hide hrun
   clear HC hrun
   go_wp2_with (at_builtin;refine wpList_run_append rfl _ _ _ rfl (by simp[Act.eval,Act.put]) (by simp[Act.eval,Act.put]) HR.out ?_)
   go_roundg (2-(i+1))
   case rel=>exact⟨i+1,by simp,by omega,HL⟩
   case measure=>omega
  ·have hin:i=2:=by omega
   subst hin
   have hlt3:¬((2:Nat):Int)<2:=by omega
   have hz:=HF.out _ _ HL.out
   obtain⟨g2,cap2,K1,cs1,K2,cs2,rfl,⟨r1,r2⟩,⟨d0,d1,d2⟩,HC⟩:=hz
   clear HS HF HL
   have HV:=hide (Kn.drewF wr)
   go_wp2_with fail
   go_region_with ((refine(HC.out _ HV.out).mono ?_);intro e u hq;obtain⟨Kr,csr,rfl,hq2⟩:=hq;have HQ:=hide (show BA mb tb bb ρ _ w _ u from⟨Kr,csr,rfl,hq2⟩);clear hq2)
   all_goals
    go_wp2
    refine bodyPost_ret (v:=.func (.func Kr) #[] csr) (by simp[results,results113,go_sem]) rfl HQ.out
theorem composed10{nb:Nat}{txt:Nm}{n1 n2:Nd}{c1 c2:Cd}(hB:BM mb tb bb ρ ρ.length w)(hn:NMem w (.mk 10 txt [n1,n2]) nb)
  (hE:∀(i:Nat)(nd:Nd)(b:Nat)(c:Cd)(u:World),[n1,n2][i]?=some nd->[c1,c2][i]?=some c->BM mb tb bb ρ ρ.length u->NMem u nd b->Calls prog 72 #[ptrV bb,ptrV b] u (BA mb tb bb ρ c u)) :
  Calls prog 113 #[ptrV bb,ptrV nb] w (BA mb tb bb ρ ⟨10,0,txt,[c1,c2],[]⟩ w):=by
 obtain⟨g,cap,bl,hp,hm,hbl⟩:=hn.pt (by simp)
 obtain⟨LI,hbn,h0,hs,he⟩:=cp_facts (cds:=[c1,c2]) hB hp hm rfl (by simp) (fun i nd b c u h1 _ h3 h4 h5=>hE i nd b c u h1 h3 h4 h5)
 have hbl:bl.length=2:=hbl
 have hfin:∀v wr,LI 2 v wr->∃g2 cap2 K1 cs1 K2 cs2,v=.slice (some ⟨g2,0,none⟩) 2 cap2/\(wr.cell? ⟨g2,0,none⟩=some (.func (.func K1) #[] cs1)/\wr.cell? ⟨g2,1,none⟩=some (.func (.func K2) #[] cs2))/\(wr.cell? ⟨nb,0,none⟩=some (.int .i64 10)/\wr.cell? ⟨nb,1,none⟩=some (.string (bs txt))/\wr.cell? ⟨bb,0,none⟩=some (stepV mb))/\Hid (∀u,Kn (fun _=>False) wr u->Calls prog 159 #[.func (.func K1) #[] cs1,.func (.func K2) #[] cs2] u (BA mb tb bb ρ ⟨10,0,txt,[c1,c2],[]⟩ w)):=fun v wr hh=>by
  have hcp:=he v wr (by rw[hbl];exact hh)
  obtain⟨g2,cap2,K1,cs1,K2,cs2,rfl,r1,r2,q1,q2⟩:=hcp.end2
  have hc:=(hB.pt hcp.kn hp).cells
  refine⟨_,_,_,_,_,_,rfl,⟨r1,r2⟩,⟨hc.1,hc.2.1,by simp[World.cell?,hcp.bm.bld]⟩,?_⟩
  exact fun u hu=>(b_set (hcp.bm.stays hu) (q1.kept (hcp.bm.kr (hu.wide fun _ _ h=>h.elim))) (q2.kept (hcp.bm.kr (hu.wide fun _ _ h=>h.elim)))).mono fun e u2 ha=>ha.behind (hcp.kn.trans (hu.wide fun _ _ h=>h.elim))
 have hc:=hp.cells
 obtain⟨z0,z1,z2,_⟩:=hc
 rw[hbl]at z2 hs
 have H0:=hide h0
 have HS:=hide hs
 have HF:=hide hfin
 clear h0 hs he hp hm hE hB hn hfin hbn
 generalize bs txt=tx at *
 unfold ptrV stepV at *
 go_enter func113,ntmps113
 go_wp2_with fail
 go_loopg [5,13] 2 (fun gk v5 v13 wr=>∃i:Nat,v13=.int .i64 (i:Nat)/\i+gk=2/\Hid (LI i v5 wr))
 case atStart=>exact⟨0,rfl,rfl,H0⟩
 case round=>
  clear H0
  obtain⟨i,rfl,hi,HL⟩:=hrel
  by_cases hlt:i<2
  ·obtain⟨b,e1,e2,hc⟩:=HS.out _ _ _ HL.out hlt
   have hlt3:(i:Int)<2:=by omega
   have HC:=hide hc
   clear hc HS HF HL
   go_wp2_with fail
   refine(HC.out).mono ?_
   rintro e u⟨K,cs,v',w2,rfl,hrun,HL⟩
   have HR:=hide hrun
   clear HC hrun
   go_wp2_with (at_builtin;refine wpList_run_append rfl _ _ _ rfl (by simp[Act.eval,Act.put]) (by simp[Act.eval,Act.put]) HR.out ?_)
   go_roundg (2-(i+1))
   case rel=>exact⟨i+1,by simp,by omega,HL⟩
   case measure=>omega
  ·have hin:i=2:=by omega
   subst hin
   have hlt3:¬((2:Nat):Int)<2:=by omega
   have hz:=HF.out _ _ HL.out
   obtain⟨g2,cap2,K1,cs1,K2,cs2,rfl,⟨r1,r2⟩,⟨d0,d1,d2⟩,HC⟩:=hz
   clear HS HF HL
   have HV:=hide (Kn.drewF wr)
   go_wp2_with fail
   go_region_with ((refine(HC.out _ HV.out).mono ?_);intro e u hq;obtain⟨Kr,csr,rfl,hq2⟩:=hq;have HQ:=hide (show BA mb tb bb ρ _ w _ u from⟨Kr,csr,rfl,hq2⟩);clear hq2)
   all_goals
    go_wp2
    refine bodyPost_ret (v:=.func (.func Kr) #[] csr) (by simp[results,results113,go_sem]) rfl HQ.out
end
section
variable {mb tb bb:Nat}{ρ:List Nm}{w:World}
theorem composed12{nb:Nat}{txt:Nm}{n1:Nd}{c1:Cd}(hB:BM mb tb bb ρ ρ.length w)(hn:NMem w (.mk 12 txt [n1]) nb)
  (hE:∀(i:Nat)(nd:Nd)(b:Nat)(c:Cd)(u:World),[n1][i]?=some nd->[c1][i]?=some c->BM mb tb bb ρ ρ.length u->NMem u nd b->Calls prog 72 #[ptrV bb,ptrV b] u (BA mb tb bb ρ c u)) :
  Calls prog 113 #[ptrV bb,ptrV nb] w (BA mb tb bb ρ ⟨12,0,txt,[c1],[]⟩ w):=by
 obtain⟨g,cap,bl,hp,hm,hbl⟩:=hn.pt (by simp)
 obtain⟨LI,hbn,h0,hs,he⟩:=cp_facts (cds:=[c1]) hB hp hm rfl (by simp) (fun i nd b c u h1 _ h3 h4 h5=>hE i nd b c u h1 h3 h4 h5)
 have hbl:bl.length=1:=hbl
 have hfin:∀v wr,LI 1 v wr->∃g2 cap2 K1 cs1,v=.slice (some ⟨g2,0,none⟩) 1 cap2/\(wr.cell? ⟨g2,0,none⟩=some (.func (.func K1) #[] cs1))/\(wr.cell? ⟨nb,0,none⟩=some (.int .i64 12)/\wr.cell? ⟨nb,1,none⟩=some (.string (bs txt))/\wr.cell? ⟨bb,0,none⟩=some (stepV mb))/\Hid (∀u,Kn (fun _=>False) wr u->Calls prog 160 #[.func (.func K1) #[] cs1] u (BA mb tb bb ρ ⟨12,0,txt,[c1],[]⟩ w)):=fun v wr hh=>by
  have hcp:=he v wr (by rw[hbl];exact hh)
  obtain⟨g2,cap2,K1,cs1,rfl,r1,q1⟩:=hcp.end1
  have hc:=(hB.pt hcp.kn hp).cells
  refine⟨_,_,_,_,rfl,r1,⟨hc.1,hc.2.1,by simp[World.cell?,hcp.bm.bld]⟩,?_⟩
  exact fun u hu=>(b_fetch (hcp.bm.stays hu) (q1.kept (hcp.bm.kr (hu.wide fun _ _ h=>h.elim)))).mono fun e u2 ha=>ha.behind (hcp.kn.trans (hu.wide fun _ _ h=>h.elim))
 have hc:=hp.cells
 obtain⟨z0,z1,z2,_⟩:=hc
 rw[hbl]at z2 hs
 have H0:=hide h0
 have HS:=hide hs
 have HF:=hide hfin
 clear h0 hs he hp hm hE hB hn hfin hbn
 generalize bs txt=tx at *
 unfold ptrV stepV at *
 go_enter func113,ntmps113
 go_wp2_with fail
 go_loopg [5,13] 1 (fun gk v5 v13 wr=>∃i:Nat,v13=.int .i64 (i:Nat)/\i+gk=1/\Hid (LI i v5 wr))
 case atStart=>exact⟨0,rfl,rfl,H0⟩
 case round=>
  clear H0
  obtain⟨i,rfl,hi,HL⟩:=hrel
  by_cases hlt:i<1
  ·obtain⟨b,e1,e2,hc⟩:=HS.out _ _ _ HL.out hlt
   have hlt3:(i:Int)<1:=by omega
   have HC:=hide hc
   clear hc HS HF HL
   go_wp2_with fail
   refine(HC.out).mono ?_
   rintro e u⟨K,cs,v',w2,rfl,hrun,HL⟩
   have HR:=hide hrun
   clear HC hrun
   go_wp2_with (at_builtin;refine wpList_run_append rfl _ _ _ rfl (by simp[Act.eval,Act.put]) (by simp[Act.eval,Act.put]) HR.out ?_)
   go_roundg (1-(i+1))
   case rel=>exact⟨i+1,by simp,by omega,HL⟩
   case measure=>omega
  ·have hin:i=1:=by omega
   subst hin
   have hlt3:¬((1:Nat):Int)<1:=by omega
   have hz:=HF.out _ _ HL.out
   obtain⟨g2,cap2,K1,cs1,rfl,r1,⟨d0,d1,d2⟩,HC⟩:=hz
   clear HS HF HL
   have HV:=hide (Kn.drewF wr)
   go_wp2_with fail
   refine(HC.out _ (Kn.refl _ wr)).mono ?_
   intro e u hq
   obtain⟨Kr,csr,rfl,hq2⟩:=hq
   have HQ:=hide (show BA mb tb bb ρ _ w _ u from⟨Kr,csr,rfl,hq2⟩)
   clear hq2
   all_goals
    go_wp2
    refine bodyPost_ret (v:=.func (.func Kr) #[] csr) (by simp[results,results113,go_sem]) rfl HQ.out
theorem composed8{nb:Nat}{txt:Nm}{n1 n2 n3:Nd}{c1 c2 c3:Cd}(hB:BM mb tb bb ρ ρ.length w)(hn:NMem w (.mk 8 txt [n1,n2,n3]) nb)
  (hE:∀(i:Nat)(nd:Nd)(b:Nat)(c:Cd)(u:World),[n1,n2,n3][i]?=some nd->[c1,c2,c3][i]?=some c->BM mb tb bb ρ ρ.length u->NMem u nd b->Calls prog 72 #[ptrV bb,ptrV b] u (BA mb tb bb ρ c u)) :
  Calls prog 113 #[ptrV bb,ptrV nb] w (BA mb tb bb ρ ⟨8,0,txt,[c1,c2,c3],[]⟩ w):=by
 obtain⟨g,cap,bl,hp,hm,hbl⟩:=hn.pt (by simp)
 obtain⟨LI,hbn,h0,hs,he⟩:=cp_facts (cds:=[c1,c2,c3]) hB hp hm rfl (by simp) (fun i nd b c u h1 _ h3 h4 h5=>hE i nd b c u h1 h3 h4 h5)
 have hbl:bl.length=3:=hbl
 have hfin:∀v wr,LI 3 v wr->∃g2 cap2 K1 cs1 K2 cs2 K3 cs3,v=.slice (some ⟨g2,0,none⟩) 3 cap2/\(wr.cell? ⟨g2,0,none⟩=some (.func (.func K1) #[] cs1)/\wr.cell? ⟨g2,1,none⟩=some (.func (.func K2) #[] cs2)/\wr.cell? ⟨g2,2,none⟩=some (.func (.func K3) #[] cs3))/\(wr.cell? ⟨nb,0,none⟩=some (.int .i64 8)/\wr.cell? ⟨nb,1,none⟩=some (.string (bs txt))/\wr.cell? ⟨bb,0,none⟩=some (stepV mb))/\Hid (∀u,Kn (fun _=>False) wr u->Calls prog 158 #[.func (.func K1) #[] cs1,.func (.func K2) #[] cs2,.func (.func K3) #[] cs3] u (BA mb tb bb ρ ⟨8,0,txt,[c1,c2,c3],[]⟩ w)):=fun v wr hh=>by
  have hcp:=he v wr (by rw[hbl];exact hh)
  obtain⟨g2,cap2,K1,cs1,K2,cs2,K3,cs3,rfl,r1,r2,r3,q1,q2,q3⟩:=hcp.end3
  have hc:=(hB.pt hcp.kn hp).cells
  refine⟨_,_,_,_,_,_,_,_,rfl,⟨r1,r2,r3⟩,⟨hc.1,hc.2.1,by simp[World.cell?,hcp.bm.bld]⟩,?_⟩
  exact fun u hu=>(b_choice (hcp.bm.stays hu) (q1.kept (hcp.bm.kr (hu.wide fun _ _ h=>h.elim))) (q2.kept (hcp.bm.kr (hu.wide fun _ _ h=>h.elim))) (q3.kept (hcp.bm.kr (hu.wide fun _ _ h=>h.elim)))).mono fun e u2 ha=>ha.behind (hcp.kn.trans (hu.wide fun _ _ h=>h.elim))
 have hc:=hp.cells
 obtain⟨z0,z1,z2,_⟩:=hc
 rw[hbl]at z2 hs
 have H0:=hide h0
 have HS:=hide hs
 have HF:=hide hfin
 clear h0 hs he hp hm hE hB hn hfin hbn
 generalize bs txt=tx at *
 unfold ptrV stepV at *
 go_enter func113,ntmps113
 go_wp2_with fail
 go_loopg [5,13] 3 (fun gk v5 v13 wr=>∃i:Nat,v13=.int .i64 (i:Nat)/\i+gk=3/\Hid (LI i v5 wr))
 case atStart=>exact⟨0,rfl,rfl,H0⟩
 case round=>
  clear H0
  obtain⟨i,rfl,hi,HL⟩:=hrel
  by_cases hlt:i<3
  ·obtain⟨b,e1,e2,hc⟩:=HS.out _ _ _ HL.out hlt
   have hlt3:(i:Int)<3:=by omega
   have HC:=hide hc
   clear hc HS HF HL
   go_wp2_with fail
   refine(HC.out).mono ?_
   rintro e u⟨K,cs,v',w2,rfl,hrun,HL⟩
   have HR:=hide hrun
   clear HC hrun
   go_wp2_with (at_builtin;refine wpList_run_append rfl _ _ _ rfl (by simp[Act.eval,Act.put]) (by simp[Act.eval,Act.put]) HR.out ?_)
   go_roundg (3-(i+1))
   case rel=>exact⟨i+1,by simp,by omega,HL⟩
   case measure=>omega
  ·have hin:i=3:=by omega
   subst hin
   have hlt3:¬((3:Nat):Int)<3:=by omega
   have hz:=HF.out _ _ HL.out
   obtain⟨g2,cap2,K1,cs1,K2,cs2,K3,cs3,rfl,⟨r1,r2,r3⟩,⟨d0,d1,d2⟩,HC⟩:=hz
   clear HS HF HL
   have HV:=hide (Kn.drewF wr)
   go_wp2_with fail
   go_region_with ((refine(HC.out _ HV.out).mono ?_);intro e u hq;obtain⟨Kr,csr,rfl,hq2⟩:=hq;have HQ:=hide (show BA mb tb bb ρ _ w _ u from⟨Kr,csr,rfl,hq2⟩);clear hq2)
   all_goals
    go_wp2
    refine bodyPost_ret (v:=.func (.func Kr) #[] csr) (by simp[results,results113,go_sem]) rfl HQ.out
end
section
variable {mb tb bb:Nat}{ρ:List Nm}{w:World}
theorem kn_cell{u u2:World}{g i:Nat}{v:Value}{c:Array Value}{t:TypeId}{f:Nat×Nat}(hk:Kn (fun k=>k=tb\/k=bb) u u2)(hg:u.heap[g]?=some (.cells c t f))(h1:g≠tb)(h2:g≠bb)(h:u.cell? ⟨g,i,none⟩=some v):u2.cell? ⟨g,i,none⟩=some v:=by
 have e:=hk.block g (lt_of_heap hg) (fun e=>by rcases e with e|e;exact h1 e;exact h2 e)
 unfold World.cell? at h ⊢
 rw[show u2.heap[g]?=u.heap[g]? from e];exact h
theorem BA.kn{c:Cd}{e:Ending}{w1 w2:World}(h:BA mb tb bb ρ c w1 e w2):Kn (fun k=>k=tb\/k=bb) w1 w2:=by
 obtain⟨K,cs,h1,h2,h3,h4⟩:=h;exact h3
theorem CpAt.blk{cds:List Cd}{i g n cap:Nat}{wr:World}(h:CpAt mb tb bb ρ w cds i (.slice (some ⟨g,0,none⟩) n cap) wr):∃c f,wr.heap[g]?=some (.cells c tyCode f):=by
 obtain⟨xs,h1,_⟩:=h.row
 rcases h1.2 with⟨e,_⟩|⟨g',cap',cur,e,_,hg,_⟩
 ·cases e
 ·have:g=g':=by simp at e;exact e.1
  subst this
  exact⟨_,_,hg⟩
theorem composed11{nb:Nat}{txt:Nm}{n1 n2:Nd}{c1 c2:Cd}(hB:BM mb tb bb ρ ρ.length w)(hn:NMem w (.mk 11 txt [n1,n2]) nb)(hop:txt=[43]\/txt=[60])
  (hE:∀(i:Nat)(nd:Nd)(b:Nat)(c:Cd)(u:World),[n1,n2][i]?=some nd->[c1,c2][i]?=some c->BM mb tb bb ρ ρ.length u->NMem u nd b->Calls prog 72 #[ptrV bb,ptrV b] u (BA mb tb bb ρ c u)) :
  Calls prog 113 #[ptrV bb,ptrV nb] w (BA mb tb bb ρ ⟨11,0,txt,[c1,c2],[]⟩ w):=by
 obtain⟨g,cap,bl,hp,hm,hbl⟩:=hn.pt (by simp)
 obtain⟨LI,hbn,h0,hs,he⟩:=cp_facts (cds:=[c1,c2]) hB hp hm rfl (by simp) (fun i nd b c u h1 _ h3 h4 h5=>hE i nd b c u h1 h3 h4 h5)
 have hbl:bl.length=2:=hbl
 have hfin:∀v wr,LI 2 v wr->∃g2 cap2 K1 cs1 K2 cs2,v=.slice (some ⟨g2,0,none⟩) 2 cap2/\(wr.cell? ⟨g2,0,none⟩=some (.func (.func K1) #[] cs1)/\wr.cell? ⟨g2,1,none⟩=some (.func (.func K2) #[] cs2))/\(wr.cell? ⟨nb,0,none⟩=some (.int .i64 11)/\wr.cell? ⟨nb,1,none⟩=some (.string (bs txt))/\wr.cell? ⟨bb,0,none⟩=some (stepV mb))/\Hid (∀u,Kn (fun _=>False) wr u->Calls prog 162 #[.string (bs txt)] u fun e u1=>∃Ko,e=.returned (.func (.func Ko) #[] #[])/\u1=u/\Hid (Calls prog 161 #[.func (.func Ko) #[] #[],.func (.func K1) #[] cs1,.func (.func K2) #[] cs2] u fun e u2=>BA mb tb bb ρ ⟨11,0,txt,[c1,c2],[]⟩ w e u2/\(u2.cell? ⟨nb,1,none⟩=some (.string (bs txt))/\u2.cell? ⟨g2,0,none⟩=some (.func (.func K1) #[] cs1)/\u2.cell? ⟨g2,1,none⟩=some (.func (.func K2) #[] cs2)))):=fun v wr hh=>by
  have hcp:=he v wr (by rw[hbl];exact hh)
  obtain⟨g2,cap2,K1,cs1,K2,cs2,rfl,r1,r2,q1,q2⟩:=hcp.end2
  have hc:=(hB.pt hcp.kn hp).cells
  refine⟨_,_,_,_,_,_,rfl,⟨r1,r2⟩,⟨hc.1,hc.2.1,by simp[World.cell?,hcp.bm.bld]⟩,?_⟩
  refine fun u hu=>?_
  obtain⟨Ko,ho,hcall⟩:=operationOf_any hop u
  refine hcall.mono ?_
  rintro e u1⟨rfl,hu1⟩
  subst hu1
  refine⟨Ko,rfl,rfl,(b_calc ho (hcp.bm.stays hu) (q1.kept (hcp.bm.kr (hu.wide fun _ _ h=>h.elim))) (q2.kept (hcp.bm.kr (hu.wide fun _ _ h=>h.elim)))).mono ?_⟩
  intro e u2 ha
  have hk2:Kn (fun k=>k=tb\/k=bb) wr u2:=(hu.wide fun _ _ h=>h.elim).trans (BA.kn ha)
  obtain⟨cg,fg,hg⟩:=hcp.blk
  refine⟨ha.behind (hcp.kn.trans (hu.wide fun _ _ h=>h.elim)),?_,kn_cell hk2 hg (fun e=>hcp.bm.not_tb hg e) (fun e=>hcp.bm.not_bb hg (by decide) e) r1,kn_cell hk2 hg (fun e=>hcp.bm.not_tb hg e) (fun e=>hcp.bm.not_bb hg (by decide) e) r2⟩
  exact(hB.pt (hcp.kn.trans hk2) hp).cells.2.1
 have hc:=hp.cells
 obtain⟨z0,z1,z2,_⟩:=hc
 rw[hbl]at z2 hs
 have H0:=hide h0
 have HS:=hide hs
 have HF:=hide hfin
 clear h0 hs he hp hm hE hB hn hfin hbn
 generalize bs txt=tx at *
 unfold ptrV stepV at *
 go_enter func113,ntmps113
 go_wp2_with fail
 go_loopg [5,13] 2 (fun gk v5 v13 wr=>∃i:Nat,v13=.int .i64 (i:Nat)/\i+gk=2/\Hid (LI i v5 wr))
 case atStart=>exact⟨0,rfl,rfl,H0⟩
 case round=>
  clear H0
  obtain⟨i,rfl,hi,HL⟩:=hrel
  by_cases hlt:i<2
  ·obtain⟨b,e1,e2,hc⟩:=HS.out _ _ _ HL.out hlt
   have hlt3:(i:Int)<2:=by omega
   have HC:=hide hc
   clear hc HS HF HL
   go_wp2_with fail
   refine(HC.out).mono ?_
   rintro e u⟨K,cs,v',w2,rfl,hrun,HL⟩
   have HR:=hide hrun
   clear HC hrun
   go_wp2_with (at_builtin;refine wpList_run_append rfl _ _ _ rfl (by simp[Act.eval,Act.put]) (by simp[Act.eval,Act.put]) HR.out ?_)
   go_roundg (2-(i+1))
   case rel=>exact⟨i+1,by simp,by omega,HL⟩
   case measure=>omega
  ·have hin:i=2:=by omega
   subst hin
   have hlt3:¬((2:Nat):Int)<2:=by omega
   have hz:=HF.out _ _ HL.out
   obtain⟨g2,cap2,K1,cs1,K2,cs2,rfl,⟨r1,r2⟩,⟨d0,d1,d2⟩,HC⟩:=hz
   clear HS HF HL
   have HV:=hide (Kn.drewF wr)
   have c1a:wr.drew.cell? ⟨nb,1,none⟩=some (.string tx):=d1
   have c2a:wr.drew.cell? ⟨g2,0,none⟩=some (.func (.func K1) #[] cs1):=r1
   have c3a:wr.drew.cell? ⟨g2,1,none⟩=some (.func (.func K2) #[] cs2):=r2
   go_wp2_with fail
   go_region_held2 (fun w'=>w'.cell? ⟨nb,1,none⟩=some (.string tx)/\w'.cell? ⟨g2,0,none⟩=some (.func (.func K1) #[] cs1)/\w'.cell? ⟨g2,1,none⟩=some (.func (.func K2) #[] cs2)) (exact⟨c1a,c2a,c3a⟩)
    (first|(go_at_call 162;(refine(HC.out _ HV.out).mono ?_);rintro e u1⟨Ko,rfl,hu1,HC2⟩;subst hu1)|(go_at_call 161;(refine(HC2.out).mono ?_);rintro e u2⟨hq,c1a,c2a,c3a⟩;obtain⟨Kr,csr,rfl,hq2⟩:=hq;have HQ:=hide (show BA mb tb bb ρ _ w _ u2 from⟨Kr,csr,rfl,hq2⟩);clear hq2))
   all_goals
    go_wp2
    refine bodyPost_ret (v:=.func (.func Kr) #[] csr) (by simp[results,results113,go_sem]) rfl HQ.out
end
theorem cell_of'{w:World}{b:Nat}{v:Value}{t:TypeId}{f:Nat×Nat}(h:w.heap[b]?=some (.cells #[v] t f)):w.cell? ⟨b,0,none⟩=some v:=by simp[World.cell?,h]
section
variable {mb tb bb:Nat}{ρ:List Nm}{w:World}
structure BxN(bb nb s1 s2:Nat)(w:World):Prop where
 b:w.heap[s1]?=some (.cells #[ptrV bb] 136 (0,0))
 n:w.heap[s2]?=some (.cells #[ptrV nb] 50 (0,0))
theorem BxN.kept{nb s1 s2:Nat}{u:World}(h:BxN bb nb s1 s2 w)(hB:BM mb tb bb ρ ρ.length w)(hk:Kn (fun k=>k=tb\/k=bb) w u):BxN bb nb s1 s2 u:=
 ⟨(hk.block _ (lt_of_heap h.b) fun e=>by rcases e with e|e;exact hB.not_tb h.b e;exact hB.not_bb h.b (by decide) e).trans h.b,(hk.block _ (lt_of_heap h.n) fun e=>by rcases e with e|e;exact hB.not_tb h.n e;exact hB.not_bb h.n (by decide) e).trans h.n⟩
theorem Enters.xe1:Enters 109:=enters func109 (by kernel_rfl) rfl
theorem clo_e1{nb s1 s2 k g cap b:Nat}{txt:Nm}{bl:List Nat}{c:Cd}(hx:BxN bb nb s1 s2 w)(hp:PtAt nb k txt g cap bl w)(hb:bl[0]?=some b)(hl:bl.length<=1000)(hE:∀u,Kn (fun _=>False) w u->Calls prog 72 #[ptrV bb,ptrV b] u (BA mb tb bb ρ c u)) :
  Calls prog 109 #[ptrV s1,ptrV s2] w (BA mb tb bb ρ c w):=by
 have hcl:=hp.cells
 obtain⟨c0,c1,c2,c3⟩:=hcl
 have c3:=c3 0 b hb
 have d1:w.cell? ⟨s1,0,none⟩=some (ptrV bb):=cell_of' hx.b
 have d2:w.cell? ⟨s2,0,none⟩=some (ptrV nb):=cell_of' hx.n
 have hlt:(0:Nat)<bl.length:=(List.getElem?_eq_some_iff.1 hb).1
 obtain⟨m,hm⟩:∃m,bl.length=m+0+1:=⟨bl.length-0-1,by omega⟩
 rw[hm]at c2 hl
 have HE:=hide (show ∀u,Kn (fun _=>False) w u->Calls prog 72 #[ptrV bb,ptrV b] u (BA mb tb bb ρ c w)from fun u hu=>(hE u hu).mono fun e u2 ha=>ha.behind (hu.wide fun _ _ h=>h.elim))
 have HV:=hide (Kn.drewF w)
 clear hE hp hx hb hlt hm
 unfold ptrV at *
 go_enter func109,ntmps109
 go_wp2_with fail
 go_region_with ((refine(HE.out _ HV.out).mono ?_);intro e u hq;obtain⟨Kr,csr,rfl,hq2⟩:=hq;have HQ:=hide (show BA mb tb bb ρ c w _ u from⟨Kr,csr,rfl,hq2⟩);clear hq2)
 all_goals
  go_wp2
  refine bodyPost_ret (v:=.func (.func Kr) #[] csr) (by simp[results,results109,go_sem]) rfl HQ.out
theorem Enters.xe2:Enters 110:=enters func110 (by kernel_rfl) rfl
theorem clo_e2{nb s1 s2 k g cap b:Nat}{txt:Nm}{bl:List Nat}{c:Cd}(hx:BxN bb nb s1 s2 w)(hp:PtAt nb k txt g cap bl w)(hb:bl[1]?=some b)(hl:bl.length<=1000)(hE:∀u,Kn (fun _=>False) w u->Calls prog 72 #[ptrV bb,ptrV b] u (BA mb tb bb ρ c u)) :
  Calls prog 110 #[ptrV s1,ptrV s2] w (BA mb tb bb ρ c w):=by
 have hcl:=hp.cells
 obtain⟨c0,c1,c2,c3⟩:=hcl
 have c3:=c3 1 b hb
 have d1:w.cell? ⟨s1,0,none⟩=some (ptrV bb):=cell_of' hx.b
 have d2:w.cell? ⟨s2,0,none⟩=some (ptrV nb):=cell_of' hx.n
 have hlt:(1:Nat)<bl.length:=(List.getElem?_eq_some_iff.1 hb).1
 obtain⟨m,hm⟩:∃m,bl.length=m+1+1:=⟨bl.length-1-1,by omega⟩
 rw[hm]at c2 hl
 have HE:=hide (show ∀u,Kn (fun _=>False) w u->Calls prog 72 #[ptrV bb,ptrV b] u (BA mb tb bb ρ c w)from fun u hu=>(hE u hu).mono fun e u2 ha=>ha.behind (hu.wide fun _ _ h=>h.elim))
 have HV:=hide (Kn.drewF w)
 clear hE hp hx hb hlt hm
 unfold ptrV at *
 go_enter func110,ntmps110
 go_wp2_with fail
 go_region_with ((refine(HE.out _ HV.out).mono ?_);intro e u hq;obtain⟨Kr,csr,rfl,hq2⟩:=hq;have HQ:=hide (show BA mb tb bb ρ c w _ u from⟨Kr,csr,rfl,hq2⟩);clear hq2)
 all_goals
  go_wp2
  refine bodyPost_ret (v:=.func (.func Kr) #[] csr) (by simp[results,results110,go_sem]) rfl HQ.out
theorem Enters.xb1:Enters 114:=enters func114 (by kernel_rfl) rfl
theorem clo_b1{nb s1 s2 k g cap b:Nat}{txt:Nm}{bl:List Nat}{c:Cd}(hx:BxN bb nb s1 s2 w)(hp:PtAt nb k txt g cap bl w)(hb:bl[0]?=some b)(hl:bl.length<=1000)(hE:∀u,Kn (fun _=>False) w u->Calls prog 72 #[ptrV bb,ptrV b] u (BA mb tb bb ρ c u)) :
  Calls prog 114 #[ptrV s1,ptrV s2] w (BA mb tb bb ρ c w):=by
 have hcl:=hp.cells
 obtain⟨c0,c1,c2,c3⟩:=hcl
 have c3:=c3 0 b hb
 have d1:w.cell? ⟨s1,0,none⟩=some (ptrV bb):=cell_of' hx.b
 have d2:w.cell? ⟨s2,0,none⟩=some (ptrV nb):=cell_of' hx.n
 have hlt:(0:Nat)<bl.length:=(List.getElem?_eq_some_iff.1 hb).1
 obtain⟨m,hm⟩:∃m,bl.length=m+0+1:=⟨bl.length-0-1,by omega⟩
 rw[hm]at c2 hl
 have HE:=hide (show ∀u,Kn (fun _=>False) w u->Calls prog 72 #[ptrV bb,ptrV b] u (BA mb tb bb ρ c w)from fun u hu=>(hE u hu).mono fun e u2 ha=>ha.behind (hu.wide fun _ _ h=>h.elim))
 have HV:=hide (Kn.drewF w)
 clear hE hp hx hb hlt hm
 unfold ptrV at *
 go_enter func114,ntmps114
 go_wp2_with fail
 go_region_with ((refine(HE.out _ HV.out).mono ?_);intro e u hq;obtain⟨Kr,csr,rfl,hq2⟩:=hq;have HQ:=hide (show BA mb tb bb ρ c w _ u from⟨Kr,csr,rfl,hq2⟩);clear hq2)
 all_goals
  go_wp2
  refine bodyPost_ret (v:=.func (.func Kr) #[] csr) (by simp[results,results114,go_sem]) rfl HQ.out
theorem ex0{nb:Nat}(hB:BM mb tb bb ρ ρ.length w)(hn:NMem w (.mk 0 [48] []) nb):Calls prog 72 #[ptrV bb,ptrV nb] w (BA mb tb bb ρ ⟨0,0,[48],[],[]⟩ w):=by
 have hF:Fresh w ((w.alloc (.cells #[ptrV bb] 136)).alloc (.cells #[ptrV nb] 50)):=((Fresh.refl w).alloc _).alloc _
 have d2:=(al2 w (.cells #[ptrV bb] 136) (.cells #[ptrV nb] 50)).2
 have hn1:=hB.tree (hF.kn.wide fun _ _ h=>h.elim) hn
 obtain⟨pv,bl,h1,_⟩:=hn1.inv
 have z2:=cell_of' d2
 generalize hw1:(w.alloc (.cells #[ptrV bb] 136)).alloc (.cells #[ptrV nb] 50)=w1 at *
 have z0:w1.cell? ⟨nb,0,none⟩=some (.int .i64 0):=by simp[World.cell?,h1]
 have z1:w1.cell? ⟨nb,1,none⟩=some (.string (bs [48])):=by simp[World.cell?,h1]
 have hP:Calls prog 106 #[ptrV nb] w1 fun e u=>e=.returned (numV 0)/\Hid (Calls prog 69 #[(numV 0)] u (BA mb tb bb ρ ⟨0,0,[48],[],[]⟩ w)):=(plainZero z0 z1).mono (by
  rintro e u⟨rfl,hf⟩
  have hf2:=hF.trans hf
  exact⟨rfl,(b_num (hB.stays hf2.kn)).mono fun e u2 ha=>ha.behind (hf2.kn.wide fun _ _ h=>h.elim)⟩)
 have HP:=hide hP
 clear hP hn hn1 h1 d2 hF z1
 unfold ptrV numV at *
 go_enter func72,ntmps72
 go_wp2_with fail
 refine(HP.out).mono ?_
 rintro e u⟨rfl,HQ⟩
 go_wp2_with fail
 refine(HQ.out).mono ?_
 intro e u2 hq
 obtain⟨Kr,csr,rfl,hq2⟩:=hq
 have HQ:=hide (show BA mb tb bb ρ _ w _ u2 from⟨Kr,csr,rfl,hq2⟩)
 clear hq2
 go_wp2
 refine bodyPost_ret (v:=.func (.func Kr) #[] csr) (by simp[results,results72,go_sem]) rfl HQ.out
theorem ex2{nb:Nat}{txt:Nm}(hB:BM mb tb bb ρ ρ.length w)(hn:NMem w (.mk 2 txt []) nb):Calls prog 72 #[ptrV bb,ptrV nb] w (BA mb tb bb ρ ⟨2,0,txt,[],[]⟩ w):=by
 have hF:Fresh w ((w.alloc (.cells #[ptrV bb] 136)).alloc (.cells #[ptrV nb] 50)):=((Fresh.refl w).alloc _).alloc _
 have d2:=(al2 w (.cells #[ptrV bb] 136) (.cells #[ptrV nb] 50)).2
 have hn1:=hB.tree (hF.kn.wide fun _ _ h=>h.elim) hn
 obtain⟨pv,bl,h1,_⟩:=hn1.inv
 have z2:=cell_of' d2
 generalize hw1:(w.alloc (.cells #[ptrV bb] 136)).alloc (.cells #[ptrV nb] 50)=w1 at *
 have z0:w1.cell? ⟨nb,0,none⟩=some (.int .i64 2):=by simp[World.cell?,h1]
 have z1:w1.cell? ⟨nb,1,none⟩=some (.string (bs txt)):=by simp[World.cell?,h1]
 have hP:Calls prog 106 #[ptrV nb] w1 fun e u=>e=.returned unitV/\Hid (Calls prog 69 #[unitV] u (BA mb tb bb ρ ⟨2,0,txt,[],[]⟩ w)):=(plainUnit z0).mono (by
  rintro e u⟨rfl,rfl⟩
  have hf2:=hF
  exact⟨rfl,(b_unit (hB.stays hf2.kn)).mono fun e u2 ha=>ha.behind (hf2.kn.wide fun _ _ h=>h.elim)⟩)
 have HP:=hide hP
 clear hP hn hn1 h1 d2 hF z1
 unfold ptrV unitV at *
 go_enter func72,ntmps72
 go_wp2_with fail
 refine(HP.out).mono ?_
 rintro e u⟨rfl,HQ⟩
 go_wp2_with fail
 refine(HQ.out).mono ?_
 intro e u2 hq
 obtain⟨Kr,csr,rfl,hq2⟩:=hq
 have HQ:=hide (show BA mb tb bb ρ _ w _ u2 from⟨Kr,csr,rfl,hq2⟩)
 clear hq2
 go_wp2
 refine bodyPost_ret (v:=.func (.func Kr) #[] csr) (by simp[results,results72,go_sem]) rfl HQ.out
end
section
variable {mb tb bb:Nat}{ρ:List Nm}{w:World}
theorem exC8{nb:Nat}{txt:Nm}{ps:List Nd}{c:Cd}(hB:BM mb tb bb ρ ρ.length w)(hn:NMem w (.mk 8 txt ps) nb)(hE:∀u,Kn (fun _=>False) w u->Calls prog 113 #[ptrV bb,ptrV nb] u (BA mb tb bb ρ c u)):Calls prog 72 #[ptrV bb,ptrV nb] w (BA mb tb bb ρ c w):=by
 have hF:Fresh w ((w.alloc (.cells #[ptrV bb] 136)).alloc (.cells #[ptrV nb] 50)):=((Fresh.refl w).alloc _).alloc _
 have d12:=al2 w (.cells #[ptrV bb] 136) (.cells #[ptrV nb] 50)
 have hn1:=hB.tree (hF.kn.wide fun _ _ h=>h.elim) hn
 obtain⟨pv,bl,h1,_⟩:=hn1.inv
 have z2:=cell_of' d12.2
 have z3:=cell_of' d12.1
 generalize hw1:(w.alloc (.cells #[ptrV bb] 136)).alloc (.cells #[ptrV nb] 50)=w1 at *
 have z0:w1.cell? ⟨nb,0,none⟩=some (.int .i64 8):=by simp[World.cell?,h1]
 have HP:=hide ((hE w1 hF.kn).mono fun e u2 ha=>ha.behind (hF.kn.wide fun _ _ h=>h.elim))
 clear hE hn hn1 h1 d12 hF hB
 unfold ptrV at *
 go_enter func72,ntmps72
 go_wp2_with fail
 refine(HP.out).mono ?_
 intro e u2 hq
 obtain⟨Kr,csr,rfl,hq2⟩:=hq
 have HQ:=hide (show BA mb tb bb ρ _ w _ u2 from⟨Kr,csr,rfl,hq2⟩)
 clear hq2
 go_wp2
 refine bodyPost_ret (v:=.func (.func Kr) #[] csr) (by simp[results,results72,go_sem]) rfl HQ.out
theorem exC9{nb:Nat}{txt:Nm}{ps:List Nd}{c:Cd}(hB:BM mb tb bb ρ ρ.length w)(hn:NMem w (.mk 9 txt ps) nb)(hE:∀u,Kn (fun _=>False) w u->Calls prog 113 #[ptrV bb,ptrV nb] u (BA mb tb bb ρ c u)):Calls prog 72 #[ptrV bb,ptrV nb] w (BA mb tb bb ρ c w):=by
 have hF:Fresh w ((w.alloc (.cells #[ptrV bb] 136)).alloc (.cells #[ptrV nb] 50)):=((Fresh.refl w).alloc _).alloc _
 have d12:=al2 w (.cells #[ptrV bb] 136) (.cells #[ptrV nb] 50)
 have hn1:=hB.tree (hF.kn.wide fun _ _ h=>h.elim) hn
 obtain⟨pv,bl,h1,_⟩:=hn1.inv
 have z2:=cell_of' d12.2
 have z3:=cell_of' d12.1
 generalize hw1:(w.alloc (.cells #[ptrV bb] 136)).alloc (.cells #[ptrV nb] 50)=w1 at *
 have z0:w1.cell? ⟨nb,0,none⟩=some (.int .i64 9):=by simp[World.cell?,h1]
 have HP:=hide ((hE w1 hF.kn).mono fun e u2 ha=>ha.behind (hF.kn.wide fun _ _ h=>h.elim))
 clear hE hn hn1 h1 d12 hF hB
 unfold ptrV at *
 go_enter func72,ntmps72
 go_wp2_with fail
 refine(HP.out).mono ?_
 intro e u2 hq
 obtain⟨Kr,csr,rfl,hq2⟩:=hq
 have HQ:=hide (show BA mb tb bb ρ _ w _ u2 from⟨Kr,csr,rfl,hq2⟩)
 clear hq2
 go_wp2
 refine bodyPost_ret (v:=.func (.func Kr) #[] csr) (by simp[results,results72,go_sem]) rfl HQ.out
theorem exC10{nb:Nat}{txt:Nm}{ps:List Nd}{c:Cd}(hB:BM mb tb bb ρ ρ.length w)(hn:NMem w (.mk 10 txt ps) nb)(hE:∀u,Kn (fun _=>False) w u->Calls prog 113 #[ptrV bb,ptrV nb] u (BA mb tb bb ρ c u)):Calls prog 72 #[ptrV bb,ptrV nb] w (BA mb tb bb ρ c w):=by
 have hF:Fresh w ((w.alloc (.cells #[ptrV bb] 136)).alloc (.cells #[ptrV nb] 50)):=((Fresh.refl w).alloc _).alloc _
 have d12:=al2 w (.cells #[ptrV bb] 136) (.cells #[ptrV nb] 50)
 have hn1:=hB.tree (hF.kn.wide fun _ _ h=>h.elim) hn
 obtain⟨pv,bl,h1,_⟩:=hn1.inv
 have z2:=cell_of' d12.2
 have z3:=cell_of' d12.1
 generalize hw1:(w.alloc (.cells #[ptrV bb] 136)).alloc (.cells #[ptrV nb] 50)=w1 at *
 have z0:w1.cell? ⟨nb,0,none⟩=some (.int .i64 10):=by simp[World.cell?,h1]
 have HP:=hide ((hE w1 hF.kn).mono fun e u2 ha=>ha.behind (hF.kn.wide fun _ _ h=>h.elim))
 clear hE hn hn1 h1 d12 hF hB
 unfold ptrV at *
 go_enter func72,ntmps72
 go_wp2_with fail
 refine(HP.out).mono ?_
 intro e u2 hq
 obtain⟨Kr,csr,rfl,hq2⟩:=hq
 have HQ:=hide (show BA mb tb bb ρ _ w _ u2 from⟨Kr,csr,rfl,hq2⟩)
 clear hq2
 go_wp2
 refine bodyPost_ret (v:=.func (.func Kr) #[] csr) (by simp[results,results72,go_sem]) rfl HQ.out
theorem exC11{nb:Nat}{txt:Nm}{ps:List Nd}{c:Cd}(hB:BM mb tb bb ρ ρ.length w)(hn:NMem w (.mk 11 txt ps) nb)(hE:∀u,Kn (fun _=>False) w u->Calls prog 113 #[ptrV bb,ptrV nb] u (BA mb tb bb ρ c u)):Calls prog 72 #[ptrV bb,ptrV nb] w (BA mb tb bb ρ c w):=by
 have hF:Fresh w ((w.alloc (.cells #[ptrV bb] 136)).alloc (.cells #[ptrV nb] 50)):=((Fresh.refl w).alloc _).alloc _
 have d12:=al2 w (.cells #[ptrV bb] 136) (.cells #[ptrV nb] 50)
 have hn1:=hB.tree (hF.kn.wide fun _ _ h=>h.elim) hn
 obtain⟨pv,bl,h1,_⟩:=hn1.inv
 have z2:=cell_of' d12.2
 have z3:=cell_of' d12.1
 generalize hw1:(w.alloc (.cells #[ptrV bb] 136)).alloc (.cells #[ptrV nb] 50)=w1 at *
 have z0:w1.cell? ⟨nb,0,none⟩=some (.int .i64 11):=by simp[World.cell?,h1]
 have HP:=hide ((hE w1 hF.kn).mono fun e u2 ha=>ha.behind (hF.kn.wide fun _ _ h=>h.elim))
 clear hE hn hn1 h1 d12 hF hB
 unfold ptrV at *
 go_enter func72,ntmps72
 go_wp2_with fail
 refine(HP.out).mono ?_
 intro e u2 hq
 obtain⟨Kr,csr,rfl,hq2⟩:=hq
 have HQ:=hide (show BA mb tb bb ρ _ w _ u2 from⟨Kr,csr,rfl,hq2⟩)
 clear hq2
 go_wp2
 refine bodyPost_ret (v:=.func (.func Kr) #[] csr) (by simp[results,results72,go_sem]) rfl HQ.out
theorem exC12{nb:Nat}{txt:Nm}{ps:List Nd}{c:Cd}(hB:BM mb tb bb ρ ρ.length w)(hn:NMem w (.mk 12 txt ps) nb)(hE:∀u,Kn (fun _=>False) w u->Calls prog 113 #[ptrV bb,ptrV nb] u (BA mb tb bb ρ c u)):Calls prog 72 #[ptrV bb,ptrV nb] w (BA mb tb bb ρ c w):=by
 have hF:Fresh w ((w.alloc (.cells #[ptrV bb] 136)).alloc (.cells #[ptrV nb] 50)):=((Fresh.refl w).alloc _).alloc _
 have d12:=al2 w (.cells #[ptrV bb] 136) (.cells #[ptrV nb] 50)
 have hn1:=hB.tree (hF.kn.wide fun _ _ h=>h.elim) hn
 obtain⟨pv,bl,h1,_⟩:=hn1.inv
 have z2:=cell_of' d12.2
 have z3:=cell_of' d12.1
 generalize hw1:(w.alloc (.cells #[ptrV bb] 136)).alloc (.cells #[ptrV nb] 50)=w1 at *
 have z0:w1.cell? ⟨nb,0,none⟩=some (.int .i64 12):=by simp[World.cell?,h1]
 have HP:=hide ((hE w1 hF.kn).mono fun e u2 ha=>ha.behind (hF.kn.wide fun _ _ h=>h.elim))
 clear hE hn hn1 h1 d12 hF hB
 unfold ptrV at *
 go_enter func72,ntmps72
 go_wp2_with fail
 refine(HP.out).mono ?_
 intro e u2 hq
 obtain⟨Kr,csr,rfl,hq2⟩:=hq
 have HQ:=hide (show BA mb tb bb ρ _ w _ u2 from⟨Kr,csr,rfl,hq2⟩)
 clear hq2
 go_wp2
 refine bodyPost_ret (v:=.func (.func Kr) #[] csr) (by simp[results,results72,go_sem]) rfl HQ.out
theorem exC13{nb:Nat}{txt:Nm}{ps:List Nd}{c:Cd}(hB:BM mb tb bb ρ ρ.length w)(hn:NMem w (.mk 13 txt ps) nb)(hE:∀u,Kn (fun _=>False) w u->Calls prog 113 #[ptrV bb,ptrV nb] u (BA mb tb bb ρ c u)):Calls prog 72 #[ptrV bb,ptrV nb] w (BA mb tb bb ρ c w):=by
 have hF:Fresh w ((w.alloc (.cells #[ptrV bb] 136)).alloc (.cells #[ptrV nb] 50)):=((Fresh.refl w).alloc _).alloc _
 have d12:=al2 w (.cells #[ptrV bb] 136) (.cells #[ptrV nb] 50)
 have hn1:=hB.tree (hF.kn.wide fun _ _ h=>h.elim) hn
 obtain⟨pv,bl,h1,_⟩:=hn1.inv
 have z2:=cell_of' d12.2
 have z3:=cell_of' d12.1
 generalize hw1:(w.alloc (.cells #[ptrV bb] 136)).alloc (.cells #[ptrV nb] 50)=w1 at *
 have z0:w1.cell? ⟨nb,0,none⟩=some (.int .i64 13):=by simp[World.cell?,h1]
 have HP:=hide ((hE w1 hF.kn).mono fun e u2 ha=>ha.behind (hF.kn.wide fun _ _ h=>h.elim))
 clear hE hn hn1 h1 d12 hF hB
 unfold ptrV at *
 go_enter func72,ntmps72
 go_wp2_with fail
 refine(HP.out).mono ?_
 intro e u2 hq
 obtain⟨Kr,csr,rfl,hq2⟩:=hq
 have HQ:=hide (show BA mb tb bb ρ _ w _ u2 from⟨Kr,csr,rfl,hq2⟩)
 clear hq2
 go_wp2
 refine bodyPost_ret (v:=.func (.func Kr) #[] csr) (by simp[results,results72,go_sem]) rfl HQ.out
end
end Go.Proofs.YtbkiipiocpnnnaaGreatDoor
