import Derived.Test.YthakgdfmbknakaaGreatDoorC8
import Derived.RangeFuncNested
import Derived.RangeFuncBound
import Derived.RangeFuncCalls
import Derived.RangeFuncLeaves
import Derived.Shelf.Abstract
import Derived.Shelf.RegionOpen
import Derived.OwnWalkIn
import Derived.TacticsInMore
import Derived.LoopNIn
import Derived.LoopIn
import Derived.Lib.SlicesS
set_option linter.all false
set_option maxHeartbeats 40000000
set_option maxRecDepth 100000
open Go.Proofs.Tryz
open Or (inl inr)
open Nat (le_refl le_trans zero_le lt_succ_self)
open List (append_nil length_append length_cons mem_cons_self mem_cons_of_mem mem_singleton append_assoc cons_append mem_cons length_nil map_append length_map map_cons nil_append)
namespace Go.Proofs.YthakgdfmbknakaaGreatDoor
open World (cell?)
open Kn (AH)
open Builtin (append_ zeroCells)
open List (append_toArray getElem?_map length_take map_nil mem_of_getElem? push_toArray size_toArray)
open MapKept (heap_alloc)
open _root_.Array (getElem?_toList length_toList replicate_succ replicate_zero size_append)
open Ending (returned)
open CallsIn (inRound)
section
open Go.RowKit
section
variable {mb tb bb:Nat}{A:List Nm}{w:World}
def LU{u u2:World}{g i:Nat}{v:Value}{c:Array Value}{t:TypeId}{f:Nat×Nat}(hk:Kn (fun k=>k=tb\/k=bb) u u2)(hg:u.heap[g]?=some (.cells c t f))(h1:g≠tb)(h2:g≠bb)(h:u.cell? ⟨g,i,none⟩=some v):u2.cell? ⟨g,i,none⟩=some v:=by
 have e:=hk.block g (aB hg) (fun e=>by rcases e with e|e;exact h1 e;exact h2 e);unfold cell? at h ⊢;rw[show u2.heap[g]?=u.heap[g]? from e];exact h
def BA.kn{c:Cd}{e:Ending}{w1 w2:World}(h:BA mb tb bb A c w1 e w2):Kn (fun k=>k=tb\/k=bb) w1 w2:=by
 obtain⟨K,cs,h1,h2,h3,h4⟩:=h;exact h3
def qW.blk{cds:List Cd}{i g n cap:Nat}{wr:World}(h:qW mb tb bb A w cds i (.slice (some ⟨g,0,none⟩) n cap) wr):∃c f,wr.heap[g]?=some (.cells c aW f):=by
 obtain⟨xs,h1,_⟩:=h.row;rcases h1.2 with⟨e,_⟩|⟨g',cap',cur,e,_,hg,_⟩
 ·cases e
 ·have:g=g':=by simp at e;exact e.1
  subst this;exact⟨_,_,hg⟩
def JH{nb:Nat}{txt:Nm}{n1 n2:Nd}{c1 c2:Cd}(hB:BM mb tb bb A A.length w)(hn:AB w (.mk 11 txt [n1,n2]) nb)(hop:txt=[60])
  (hE:∀(i:Nat)(nd:Nd)(b:Nat)(c:Cd)(u:World),[n1,n2][i]?=some nd->[c1,c2][i]?=some c->BM mb tb bb A A.length u->AB u nd b->Calls prog 91 #[aA bb,aA b] u (BA mb tb bb A c u)) :
  Calls prog 135 #[aA bb,aA nb] w (BA mb tb bb A ⟨11,0,txt,[c1,c2],[]⟩ w):=by
 obtain⟨g,cap,bl,hp,hm,Kx⟩:=hn.pt (by simp);obtain⟨LI,Wn,h0,hs,he⟩:=mC (cds:=[c1,c2]) hB hp hm rfl (by simp) (fun i nd b c u h1 _ h3 h4 h5=>hE i nd b c u h1 h3 h4 h5);have Kx:bl.length=2:=Kx
 have Jp:∀v wr,LI 2 v wr->∃g2 cap2 K1 cs1 K2 cs2,v=.slice (some ⟨g2,0,none⟩) 2 cap2/\(wr.cell? ⟨g2,0,none⟩=some (.func (.func K1) #[] cs1)/\wr.cell? ⟨g2,1,none⟩=some (.func (.func K2) #[] cs2))/\(wr.cell? ⟨nb,0,none⟩=some (.int .i64 11)/\wr.cell? ⟨nb,1,none⟩=some (.string (bs txt))/\wr.cell? ⟨bb,0,none⟩=some (eT mb))/\Hid (∀u,Kn (fun _=>False) wr u->Calls prog 186 #[.string (bs txt)] u fun e u1=>∃Ko,e=.returned (.func (.func Ko) #[] #[])/\u1=u/\Hid (Calls prog 185 #[.func (.func Ko) #[] #[],.func (.func K1) #[] cs1,.func (.func K2) #[] cs2] u fun e u2=>BA mb tb bb A ⟨11,0,txt,[c1,c2],[]⟩ w e u2/\(u2.cell? ⟨nb,1,none⟩=some (.string (bs txt))/\u2.cell? ⟨g2,0,none⟩=some (.func (.func K1) #[] cs1)/\u2.cell? ⟨g2,1,none⟩=some (.func (.func K2) #[] cs2)))):=fun v wr hh=>by
  have Ms:=he v wr (by rw[Kx];exact hh);obtain⟨g2,cap2,K1,cs1,K2,cs2,rfl,r1,r2,q1,q2⟩:=Ms.end2;have hc:=(hB.pt Ms.kn hp).cells;refine⟨_,_,_,_,_,_,rfl,⟨r1,r2⟩,⟨hc.1,hc.2.1,by simp[cell?,Ms.bm.bld]⟩,?_⟩;refine fun u hu=>?_;have Jq:=qR u;rw[<- hop]at Jq;refine Jq.mono ?_;rintro e u1⟨rfl,Sf⟩;subst Sf;refine⟨250,rfl,rfl,(Gd (nm:=txt) (Ms.bm.stays hu) (q1.kept (Ms.bm.kr (hu.wide fun _ _ h=>h.elim))) (q2.kept (Ms.bm.kr (hu.wide fun _ _ h=>h.elim)))).mono ?_⟩;intro e u2 ha;have Jy:Kn (fun k=>k=tb\/k=bb) wr u2:=(hu.wide fun _ _ h=>h.elim).trans (BA.kn ha);obtain⟨cg,fg,hg⟩:=Ms.blk;refine⟨ha.behind (Ms.kn.trans (hu.wide fun _ _ h=>h.elim)),?_,LU Jy hg (fun e=>Ms.bm.AF hg e) (fun e=>Ms.bm.AI hg (by decide) e) r1,LU Jy hg (fun e=>Ms.bm.AF hg e) (fun e=>Ms.bm.AI hg (by decide) e) r2⟩;exact(hB.pt (Ms.kn.trans Jy) hp).cells.2.1
 have hc:=hp.cells;obtain⟨z0,z1,z2,_⟩:=hc;rw[Kx]at z2 hs;have H0:=aC h0;have HS:=aC hs;have HF:=aC Jp;clear h0 hs he hp hm hE hB hn Jp Wn;generalize bs txt=tx at *;unfold aA eT at *;go_enter func135,ntmps135;go_wp2_with fail
 go_loopg [5,13] 2 (fun gk v5 v13 wr=>∃i:Nat,v13=.int .i64 (i:Nat)/\i+gk=2/\Hid (LI i v5 wr))
 case atStart=>exact⟨0,rfl,rfl,H0⟩
 case round=>
  clear H0;obtain⟨i,rfl,hi,HL⟩:=hrel
  by_cases Js:i<2
  ·obtain⟨b,e1,e2,hc⟩:=HS.out _ _ _ HL.out Js;have Jt:(i:Int)<2:=by omega
   have HC:=aC hc;clear hc HS HF HL;go_wp2_with fail;refine(HC.out).mono ?_;rintro e u⟨K,cs,v',w2,rfl,Jo,HL⟩;have HR:=aC Jo;clear HC Jo
   go_wp2_with (at_builtin;refine aU rfl _ _ _ rfl (by simp[Act.eval,Act.put]) (by simp[Act.eval,Act.put]) HR.out ?_)
   go_roundg (2-(i+1))
   case rel=>exact⟨i+1,by simp,by omega,HL⟩
   case measure=>omega
  ·have Kg:i=2:=by omega
   subst Kg;have Jt:¬((2:Nat):Int)<2:=by omega
   have hz:=HF.out _ _ HL.out;obtain⟨g2,cap2,K1,cs1,K2,cs2,rfl,⟨r1,r2⟩,⟨d0,d1,d2⟩,HC⟩:=hz;clear HS HF HL;have HV:=aC (AH wr);have c1a:wr.drew.cell? ⟨nb,1,none⟩=some (.string tx):=d1;have c2a:wr.drew.cell? ⟨g2,0,none⟩=some (.func (.func K1) #[] cs1):=r1;have c3a:wr.drew.cell? ⟨g2,1,none⟩=some (.func (.func K2) #[] cs2):=r2;go_wp2_with fail
   go_region_held2 (fun w'=>w'.cell? ⟨nb,1,none⟩=some (.string tx)/\w'.cell? ⟨g2,0,none⟩=some (.func (.func K1) #[] cs1)/\w'.cell? ⟨g2,1,none⟩=some (.func (.func K2) #[] cs2)) (exact⟨c1a,c2a,c3a⟩)
    (first|(go_at_call 186;(refine(HC.out _ HV.out).mono ?_);rintro e u1⟨Ko,rfl,Sf,Oe⟩;subst Sf)|(go_at_call 185;(refine(Oe.out).mono ?_);rintro e u2⟨hq,c1a,c2a,c3a⟩;obtain⟨Kr,csr,rfl,Ki⟩:=hq;have HQ:=aC (show BA mb tb bb A _ w _ u2 from⟨Kr,csr,rfl,Ki⟩);clear Ki))
   all_goals
    go_wp2;refine bodyPost_ret (v:=.func (.func Kr) #[] csr) (by simp[results,results135,go_sem]) rfl HQ.out
end
end
section
open Go.RowKit
def cell_of'{w:World}{b:Nat}{v:Value}{t:TypeId}{f:Nat×Nat}(h:w.heap[b]?=some (.cells #[v] t f)):w.cell? ⟨b,0,none⟩=some v:=by simp[cell?,h]
section
variable {mb tb bb:Nat}{A:List Nm}{w:World}
structure RA(bb nb s1 s2:Nat)(w:World):Prop where
 b:w.heap[s1]?=some (.cells #[aA bb] 164 (0,0))
 n:w.heap[s2]?=some (.cells #[aA nb] 51 (0,0))
def RA.kept{nb s1 s2:Nat}{u:World}(h:RA bb nb s1 s2 w)(hB:BM mb tb bb A A.length w)(hk:Kn (fun k=>k=tb\/k=bb) w u):RA bb nb s1 s2 u:=
 ⟨(hk.block _ (aB h.b) fun e=>by rcases e with e|e;exact hB.AF h.b e;exact hB.AI h.b (by decide) e).trans h.b,(hk.block _ (aB h.n) fun e=>by rcases e with e|e;exact hB.AF h.n e;exact hB.AI h.n (by decide) e).trans h.n⟩
def aF.xe1:aF 131:=enters func131 (by kernel_rfl) rfl
def Fy{nb s1 s2 k g cap b:Nat}{txt:Nm}{bl:List Nat}{c:Cd}(hx:RA bb nb s1 s2 w)(hp:dH nb k txt g cap bl w)(hb:bl[0]?=some b)(hl:bl.length<=1000)(hE:∀u,Kn (fun _=>False) w u->Calls prog 91 #[aA bb,aA b] u (BA mb tb bb A c u)) :
  Calls prog 131 #[aA s1,aA s2] w (BA mb tb bb A c w):=by
 have Jw:=hp.cells;obtain⟨c0,c1,c2,c3⟩:=Jw;have c3:=c3 0 b hb;have d1:w.cell? ⟨s1,0,none⟩=some (aA bb):=cell_of' hx.b;have d2:w.cell? ⟨s2,0,none⟩=some (aA nb):=cell_of' hx.n;have Js:(0:Nat)<bl.length:=(List.getElem?_eq_some_iff.1 hb).1;obtain⟨m,hm⟩:∃m,bl.length=m+0+1:=⟨bl.length-0-1,by omega⟩;rw[hm]at c2 hl;have HE:=aC (show ∀u,Kn (fun _=>False) w u->Calls prog 91 #[aA bb,aA b] u (BA mb tb bb A c w)from fun u hu=>(hE u hu).mono fun e u2 ha=>ha.behind (hu.wide fun _ _ h=>h.elim));have HV:=aC (AH w);clear hE hp hx hb Js hm;unfold aA at *;go_enter func131,ntmps131;go_wp2_with fail
 go_region_with ((refine(HE.out _ HV.out).mono ?_);intro e u hq;obtain⟨Kr,csr,rfl,Ki⟩:=hq;have HQ:=aC (show BA mb tb bb A c w _ u from⟨Kr,csr,rfl,Ki⟩);clear Ki)
 all_goals
  go_wp2;refine bodyPost_ret (v:=.func (.func Kr) #[] csr) (by simp[results,results131,go_sem]) rfl HQ.out
def aF.xe2:aF 132:=enters func132 (by kernel_rfl) rfl
def Fx{nb s1 s2 k g cap b:Nat}{txt:Nm}{bl:List Nat}{c:Cd}(hx:RA bb nb s1 s2 w)(hp:dH nb k txt g cap bl w)(hb:bl[1]?=some b)(hl:bl.length<=1000)(hE:∀u,Kn (fun _=>False) w u->Calls prog 91 #[aA bb,aA b] u (BA mb tb bb A c u)) :
  Calls prog 132 #[aA s1,aA s2] w (BA mb tb bb A c w):=by
 have Jw:=hp.cells;obtain⟨c0,c1,c2,c3⟩:=Jw;have c3:=c3 1 b hb;have d1:w.cell? ⟨s1,0,none⟩=some (aA bb):=cell_of' hx.b;have d2:w.cell? ⟨s2,0,none⟩=some (aA nb):=cell_of' hx.n;have Js:(1:Nat)<bl.length:=(List.getElem?_eq_some_iff.1 hb).1;obtain⟨m,hm⟩:∃m,bl.length=m+1+1:=⟨bl.length-1-1,by omega⟩;rw[hm]at c2 hl;have HE:=aC (show ∀u,Kn (fun _=>False) w u->Calls prog 91 #[aA bb,aA b] u (BA mb tb bb A c w)from fun u hu=>(hE u hu).mono fun e u2 ha=>ha.behind (hu.wide fun _ _ h=>h.elim));have HV:=aC (AH w);clear hE hp hx hb Js hm;unfold aA at *;go_enter func132,ntmps132;go_wp2_with fail
 go_region_with ((refine(HE.out _ HV.out).mono ?_);intro e u hq;obtain⟨Kr,csr,rfl,Ki⟩:=hq;have HQ:=aC (show BA mb tb bb A c w _ u from⟨Kr,csr,rfl,Ki⟩);clear Ki)
 all_goals
  go_wp2;refine bodyPost_ret (v:=.func (.func Kr) #[] csr) (by simp[results,results132,go_sem]) rfl HQ.out
def aF.xb1:aF 136:=enters func136 (by kernel_rfl) rfl
def WJ{nb s1 s2 k g cap b:Nat}{txt:Nm}{bl:List Nat}{c:Cd}(hx:RA bb nb s1 s2 w)(hp:dH nb k txt g cap bl w)(hb:bl[0]?=some b)(hl:bl.length<=1000)(hE:∀u,Kn (fun _=>False) w u->Calls prog 91 #[aA bb,aA b] u (BA mb tb bb A c u)) :
  Calls prog 136 #[aA s1,aA s2] w (BA mb tb bb A c w):=by
 have Jw:=hp.cells;obtain⟨c0,c1,c2,c3⟩:=Jw;have c3:=c3 0 b hb;have d1:w.cell? ⟨s1,0,none⟩=some (aA bb):=cell_of' hx.b;have d2:w.cell? ⟨s2,0,none⟩=some (aA nb):=cell_of' hx.n;have Js:(0:Nat)<bl.length:=(List.getElem?_eq_some_iff.1 hb).1;obtain⟨m,hm⟩:∃m,bl.length=m+0+1:=⟨bl.length-0-1,by omega⟩;rw[hm]at c2 hl;have HE:=aC (show ∀u,Kn (fun _=>False) w u->Calls prog 91 #[aA bb,aA b] u (BA mb tb bb A c w)from fun u hu=>(hE u hu).mono fun e u2 ha=>ha.behind (hu.wide fun _ _ h=>h.elim));have HV:=aC (AH w);clear hE hp hx hb Js hm;unfold aA at *;go_enter func136,ntmps136;go_wp2_with fail
 go_region_with ((refine(HE.out _ HV.out).mono ?_);intro e u hq;obtain⟨Kr,csr,rfl,Ki⟩:=hq;have HQ:=aC (show BA mb tb bb A c w _ u from⟨Kr,csr,rfl,Ki⟩);clear Ki)
 all_goals
  go_wp2;refine bodyPost_ret (v:=.func (.func Kr) #[] csr) (by simp[results,results136,go_sem]) rfl HQ.out
def Jk{nb:Nat}(hB:BM mb tb bb A A.length w)(hn:AB w (.mk 0 [48] []) nb):Calls prog 91 #[aA bb,aA nb] w (BA mb tb bb A ⟨0,0,[48],[],[]⟩ w):=by
 have hF:Fresh w ((w.alloc (.cells #[aA bb] 164)).alloc (.cells #[aA nb] 51)):=((Fresh.refl w).alloc _).alloc _;have d2:=(qU w (.cells #[aA bb] 164) (.cells #[aA nb] 51)).2;have Ld:=hB.tree (hF.kn.wide fun _ _ h=>h.elim) hn;obtain⟨pv,bl,h1,_⟩:=Ld.inv;have z2:=cell_of' d2;generalize My:(w.alloc (.cells #[aA bb] 164)).alloc (.cells #[aA nb] 51)=w1 at *;have z0:w1.cell? ⟨nb,0,none⟩=some (.int .i64 0):=by simp[cell?,h1]
 have z1:w1.cell? ⟨nb,1,none⟩=some (.string (bs [48])):=by simp[cell?,h1]
 have hP:Calls prog 128 #[aA nb] w1 fun e u=>e=.returned (jB 0)/\Hid (Calls prog 88 #[(jB 0)] u (BA mb tb bb A ⟨0,0,[48],[],[]⟩ w)):=(NY z0 z1).mono (by
  rintro e u⟨rfl,hf⟩;have Wa:=hF.trans hf
  exact⟨rfl,(Hq (hB.stays Wa.kn)).mono fun e u2 ha=>ha.behind (Wa.kn.wide fun _ _ h=>h.elim)⟩)
 have HP:=aC hP;clear hP hn Ld h1 d2 hF z1;unfold aA jB at *;go_enter func91,ntmps91;go_wp2_with fail;refine(HP.out).mono ?_;rintro e u⟨rfl,HQ⟩;go_wp2_with fail;refine(HQ.out).mono ?_;intro e u2 hq;obtain⟨Kr,csr,rfl,Ki⟩:=hq;have HQ:=aC (show BA mb tb bb A _ w _ u2 from⟨Kr,csr,rfl,Ki⟩);clear Ki;go_wp2;refine bodyPost_ret (v:=.func (.func Kr) #[] csr) (by simp[results,results91,go_sem]) rfl HQ.out
def Jj{nb:Nat}{txt:Nm}(hB:BM mb tb bb A A.length w)(hn:AB w (.mk 2 txt []) nb):Calls prog 91 #[aA bb,aA nb] w (BA mb tb bb A ⟨2,0,txt,[],[]⟩ w):=by
 have hF:Fresh w ((w.alloc (.cells #[aA bb] 164)).alloc (.cells #[aA nb] 51)):=((Fresh.refl w).alloc _).alloc _;have d2:=(qU w (.cells #[aA bb] 164) (.cells #[aA nb] 51)).2;have Ld:=hB.tree (hF.kn.wide fun _ _ h=>h.elim) hn;obtain⟨pv,bl,h1,_⟩:=Ld.inv;have z2:=cell_of' d2;generalize My:(w.alloc (.cells #[aA bb] 164)).alloc (.cells #[aA nb] 51)=w1 at *;have z0:w1.cell? ⟨nb,0,none⟩=some (.int .i64 2):=by simp[cell?,h1]
 have z1:w1.cell? ⟨nb,1,none⟩=some (.string (bs txt)):=by simp[cell?,h1]
 have hP:Calls prog 128 #[aA nb] w1 fun e u=>e=.returned iW/\Hid (Calls prog 88 #[iW] u (BA mb tb bb A ⟨2,0,txt,[],[]⟩ w)):=(NZ z0).mono (by
  rintro e u⟨rfl,rfl⟩;have Wa:=hF
  exact⟨rfl,(WW (hB.stays Wa.kn)).mono fun e u2 ha=>ha.behind (Wa.kn.wide fun _ _ h=>h.elim)⟩)
 have HP:=aC hP;clear hP hn Ld h1 d2 hF z1;unfold aA iW at *;go_enter func91,ntmps91;go_wp2_with fail;refine(HP.out).mono ?_;rintro e u⟨rfl,HQ⟩;go_wp2_with fail;refine(HQ.out).mono ?_;intro e u2 hq;obtain⟨Kr,csr,rfl,Ki⟩:=hq;have HQ:=aC (show BA mb tb bb A _ w _ u2 from⟨Kr,csr,rfl,Ki⟩);clear Ki;go_wp2;refine bodyPost_ret (v:=.func (.func Kr) #[] csr) (by simp[results,results91,go_sem]) rfl HQ.out
end
end
section
open Go.RowKit
section
variable {mb tb bb:Nat}{A:List Nm}{w:World}
def Im{nb:Nat}{txt:Nm}{ps:List Nd}{c:Cd}(hB:BM mb tb bb A A.length w)(hn:AB w (.mk 8 txt ps) nb)(hE:∀u,Kn (fun _=>False) w u->Calls prog 135 #[aA bb,aA nb] u (BA mb tb bb A c u)):Calls prog 91 #[aA bb,aA nb] w (BA mb tb bb A c w):=by
 have hF:Fresh w ((w.alloc (.cells #[aA bb] 164)).alloc (.cells #[aA nb] 51)):=((Fresh.refl w).alloc _).alloc _;have d12:=qU w (.cells #[aA bb] 164) (.cells #[aA nb] 51);have Ld:=hB.tree (hF.kn.wide fun _ _ h=>h.elim) hn;obtain⟨pv,bl,h1,_⟩:=Ld.inv;have z2:=cell_of' d12.2;have z3:=cell_of' d12.1;generalize My:(w.alloc (.cells #[aA bb] 164)).alloc (.cells #[aA nb] 51)=w1 at *;have z0:w1.cell? ⟨nb,0,none⟩=some (.int .i64 8):=by simp[cell?,h1]
 have HP:=aC ((hE w1 hF.kn).mono fun e u2 ha=>ha.behind (hF.kn.wide fun _ _ h=>h.elim));clear hE hn Ld h1 d12 hF hB;unfold aA at *;go_enter func91,ntmps91;go_wp2_with fail;refine(HP.out).mono ?_;intro e u2 hq;obtain⟨Kr,csr,rfl,Ki⟩:=hq;have HQ:=aC (show BA mb tb bb A _ w _ u2 from⟨Kr,csr,rfl,Ki⟩);clear Ki;go_wp2;refine bodyPost_ret (v:=.func (.func Kr) #[] csr) (by simp[results,results91,go_sem]) rfl HQ.out
def Il{nb:Nat}{txt:Nm}{ps:List Nd}{c:Cd}(hB:BM mb tb bb A A.length w)(hn:AB w (.mk 9 txt ps) nb)(hE:∀u,Kn (fun _=>False) w u->Calls prog 135 #[aA bb,aA nb] u (BA mb tb bb A c u)):Calls prog 91 #[aA bb,aA nb] w (BA mb tb bb A c w):=by
 have hF:Fresh w ((w.alloc (.cells #[aA bb] 164)).alloc (.cells #[aA nb] 51)):=((Fresh.refl w).alloc _).alloc _;have d12:=qU w (.cells #[aA bb] 164) (.cells #[aA nb] 51);have Ld:=hB.tree (hF.kn.wide fun _ _ h=>h.elim) hn;obtain⟨pv,bl,h1,_⟩:=Ld.inv;have z2:=cell_of' d12.2;have z3:=cell_of' d12.1;generalize My:(w.alloc (.cells #[aA bb] 164)).alloc (.cells #[aA nb] 51)=w1 at *;have z0:w1.cell? ⟨nb,0,none⟩=some (.int .i64 9):=by simp[cell?,h1]
 have HP:=aC ((hE w1 hF.kn).mono fun e u2 ha=>ha.behind (hF.kn.wide fun _ _ h=>h.elim));clear hE hn Ld h1 d12 hF hB;unfold aA at *;go_enter func91,ntmps91;go_wp2_with fail;refine(HP.out).mono ?_;intro e u2 hq;obtain⟨Kr,csr,rfl,Ki⟩:=hq;have HQ:=aC (show BA mb tb bb A _ w _ u2 from⟨Kr,csr,rfl,Ki⟩);clear Ki;go_wp2;refine bodyPost_ret (v:=.func (.func Kr) #[] csr) (by simp[results,results91,go_sem]) rfl HQ.out
def Hn{nb:Nat}{txt:Nm}{ps:List Nd}{c:Cd}(hB:BM mb tb bb A A.length w)(hn:AB w (.mk 11 txt ps) nb)(hE:∀u,Kn (fun _=>False) w u->Calls prog 135 #[aA bb,aA nb] u (BA mb tb bb A c u)):Calls prog 91 #[aA bb,aA nb] w (BA mb tb bb A c w):=by
 have hF:Fresh w ((w.alloc (.cells #[aA bb] 164)).alloc (.cells #[aA nb] 51)):=((Fresh.refl w).alloc _).alloc _;have d12:=qU w (.cells #[aA bb] 164) (.cells #[aA nb] 51);have Ld:=hB.tree (hF.kn.wide fun _ _ h=>h.elim) hn;obtain⟨pv,bl,h1,_⟩:=Ld.inv;have z2:=cell_of' d12.2;have z3:=cell_of' d12.1;generalize My:(w.alloc (.cells #[aA bb] 164)).alloc (.cells #[aA nb] 51)=w1 at *;have z0:w1.cell? ⟨nb,0,none⟩=some (.int .i64 11):=by simp[cell?,h1]
 have HP:=aC ((hE w1 hF.kn).mono fun e u2 ha=>ha.behind (hF.kn.wide fun _ _ h=>h.elim));clear hE hn Ld h1 d12 hF hB;unfold aA at *;go_enter func91,ntmps91;go_wp2_with fail;refine(HP.out).mono ?_;intro e u2 hq;obtain⟨Kr,csr,rfl,Ki⟩:=hq;have HQ:=aC (show BA mb tb bb A _ w _ u2 from⟨Kr,csr,rfl,Ki⟩);clear Ki;go_wp2;refine bodyPost_ret (v:=.func (.func Kr) #[] csr) (by simp[results,results91,go_sem]) rfl HQ.out
def Hm{nb:Nat}{txt:Nm}{ps:List Nd}{c:Cd}(hB:BM mb tb bb A A.length w)(hn:AB w (.mk 13 txt ps) nb)(hE:∀u,Kn (fun _=>False) w u->Calls prog 135 #[aA bb,aA nb] u (BA mb tb bb A c u)):Calls prog 91 #[aA bb,aA nb] w (BA mb tb bb A c w):=by
 have hF:Fresh w ((w.alloc (.cells #[aA bb] 164)).alloc (.cells #[aA nb] 51)):=((Fresh.refl w).alloc _).alloc _;have d12:=qU w (.cells #[aA bb] 164) (.cells #[aA nb] 51);have Ld:=hB.tree (hF.kn.wide fun _ _ h=>h.elim) hn;obtain⟨pv,bl,h1,_⟩:=Ld.inv;have z2:=cell_of' d12.2;have z3:=cell_of' d12.1;generalize My:(w.alloc (.cells #[aA bb] 164)).alloc (.cells #[aA nb] 51)=w1 at *;have z0:w1.cell? ⟨nb,0,none⟩=some (.int .i64 13):=by simp[cell?,h1]
 have HP:=aC ((hE w1 hF.kn).mono fun e u2 ha=>ha.behind (hF.kn.wide fun _ _ h=>h.elim));clear hE hn Ld h1 d12 hF hB;unfold aA at *;go_enter func91,ntmps91;go_wp2_with fail;refine(HP.out).mono ?_;intro e u2 hq;obtain⟨Kr,csr,rfl,Ki⟩:=hq;have HQ:=aC (show BA mb tb bb A _ w _ u2 from⟨Kr,csr,rfl,Ki⟩);clear Ki;go_wp2;refine bodyPost_ret (v:=.func (.func Kr) #[] csr) (by simp[results,results91,go_sem]) rfl HQ.out
def Ds{nb:Nat}{txt:Nm}{ps:List Nd}{c:Cd}(hB:BM mb tb bb A A.length w)(hn:AB w (.mk 14 txt ps) nb)(hE:∀u,Kn (fun _=>False) w u->Calls prog 135 #[aA bb,aA nb] u (BA mb tb bb A c u)):Calls prog 91 #[aA bb,aA nb] w (BA mb tb bb A c w):=by
 have hF:Fresh w ((w.alloc (.cells #[aA bb] 164)).alloc (.cells #[aA nb] 51)):=((Fresh.refl w).alloc _).alloc _;have d12:=qU w (.cells #[aA bb] 164) (.cells #[aA nb] 51);have Ld:=hB.tree (hF.kn.wide fun _ _ h=>h.elim) hn;obtain⟨pv,bl,h1,_⟩:=Ld.inv;have z2:=cell_of' d12.2;have z3:=cell_of' d12.1;generalize My:(w.alloc (.cells #[aA bb] 164)).alloc (.cells #[aA nb] 51)=w1 at *;have z0:w1.cell? ⟨nb,0,none⟩=some (.int .i64 14):=by simp[cell?,h1]
 have HP:=aC ((hE w1 hF.kn).mono fun e u2 ha=>ha.behind (hF.kn.wide fun _ _ h=>h.elim));clear hE hn Ld h1 d12 hF hB;unfold aA at *;go_enter func91,ntmps91;go_wp2_with fail;refine(HP.out).mono ?_;intro e u2 hq;obtain⟨Kr,csr,rfl,Ki⟩:=hq;have HQ:=aC (show BA mb tb bb A _ w _ u2 from⟨Kr,csr,rfl,Ki⟩);clear Ki;go_wp2;refine bodyPost_ret (v:=.func (.func Kr) #[] csr) (by simp[results,results91,go_sem]) rfl HQ.out
end
end
section
open Go.RowKit
def wrap_i64{n:Int}(h:QX n):IntKind.i64.wrap n=n:=by
 obtain⟨h1,h2⟩:=h;simp[IntKind.wrap,IntKind.bits,IntKind.signed];omega
section
variable {mb tb bb:Nat}{A:List Nm}{w:World}
def Ji{nb:Nat}{txt:Nm}{i:Nat}(hx:cL (0,txt))(hi:A.idxOf? txt=some i)(hB:BM mb tb bb A A.length w)(hn:AB w (.mk 3 txt []) nb) :
  Calls prog 91 #[aA bb,aA nb] w (BA mb tb bb A ⟨3,(i:Nat),txt,[],[]⟩ w):=by
 have Lc:i<A.length:=by
  have:=List.of_findIdx?_eq_some hi;exact(List.findIdx?_eq_some_iff_getElem.1 hi).1
 have hF:Fresh w ((w.alloc (.cells #[aA bb] 164)).alloc (.cells #[aA nb] 51)):=((Fresh.refl w).alloc _).alloc _;have d12:=qU w (.cells #[aA bb] 164) (.cells #[aA nb] 51);have Ld:=hB.tree (hF.kn.wide fun _ _ h=>h.elim) hn;obtain⟨pv,bl,h1,_⟩:=Ld.inv;have z2:=cell_of' d12.2;have z3:=cell_of' d12.1;generalize My:(w.alloc (.cells #[aA bb] 164)).alloc (.cells #[aA nb] 51)=w1 at *;have z0:w1.cell? ⟨nb,0,none⟩=some (.int .i64 3):=by simp[cell?,h1]
 have Kf:=hB.stays hF.kn;have Jm:=hB.len;obtain⟨n,f,hm,hf⟩:=Kf.tab
 have S7:f (0,txt)=some (.int .i64 ((A.length-1-i:Nat):Int)):=by
  rw[hf txt hx];unfold yX;rw[hi];rfl
 have Jw:∀u,Kn (fun _=>False) w1 u->(u.cell? ⟨w.heap.size,0,none⟩=some (aA bb)/\u.cell? ⟨w.heap.size+1,0,none⟩=some (aA nb)/\u.cell? ⟨nb,1,none⟩=some (.string (bs txt))/\u.cell? ⟨bb,1,none⟩=some (.map (some tb))/\u.cell? ⟨bb,2,none⟩=some (.int .i64 (A.length:Nat)))/\(Instr.lookup lL (.map (some tb)) (.agg #[.int .i64 0,.string (bs txt)]) false).run prog u=.ok (.int .i64 ((A.length-1-i:Nat):Int)) u:=fun u hu=>by
  have hk:∀(k:Nat)(c:Array Value)(t:TypeId)(f:Nat×Nat),w1.heap[k]?=some (.cells c t f)->u.heap[k]?=some (.cells c t f):=fun k c t f hc=>(hu.block k (aB hc) id).trans hc;have hb:=(Kf.stays hu).bld;refine⟨⟨cell_of' (hk _ _ _ _ d12.1),cell_of' (hk _ _ _ _ d12.2),by simp[cell?,hk _ _ _ _ h1],by simp[cell?,hb],by simp[cell?,hb]⟩,?_⟩;have:=vF (hm.kept (hu.block tb hm.lt id)) hx false;rw[S7]at this
  simpa using this
 have hV:∀u,Kn (fun _=>False) w1 u->Calls prog 129 #[.int .i64 (i:Nat)] u fun e u2=>BA mb tb bb A ⟨3,(i:Nat),txt,[],[]⟩ w e u2/\(u2.cell? ⟨w.heap.size,0,none⟩=some (aA bb)/\u2.cell? ⟨w.heap.size+1,0,none⟩=some (aA nb)/\u2.cell? ⟨nb,1,none⟩=some (.string (bs txt))/\u2.cell? ⟨bb,1,none⟩=some (.map (some tb))/\u2.cell? ⟨bb,2,none⟩=some (.int .i64 (A.length:Nat))):=fun u hu=>by
  refine(zE).mono ?_;rintro e u2⟨rfl,rfl⟩;have Rl:Kn (fun _=>False) w1 (u.alloc (.cells #[.int .i64 (i:Nat)] 3)):=hu.alloc _;have K9:=Kf.stays hu;refine⟨?_,(Jw _ Rl).1⟩;have:=BA.of (c:=⟨3,(i:Nat),txt,[],[]⟩) (l:=[u.heap.size]) (xs:=[]) K9 ((Fresh.refl u).alloc (.cells #[.int .i64 (i:Nat)] 3)) ⟨by unfold QX;dsimp only;omega,fun _=>by dsimp only;omega⟩ trivial rfl aF.variable ⟨JZ _ _,Hl,trivial⟩;exact this.behind ((hF.kn.trans hu).wide fun _ _ h=>h.elim)
 have Kv:∀u o u',Kn (fun _=>False) w1 u->u'=World.alloc u o->Kn (fun _=>False) w1 u':=fun u o u' hu e=>by
  subst e;exact hu.alloc o
 have hK:=fun(u:World)=>yS (bs txt) u
 have Yv:IntKind.i64.wrap (IntKind.i64.wrap ((A.length:Int)-1)-((A.length-1-i:Nat):Int))=(i:Int):=by
  rw[wrap_i64 (n:=(A.length:Int)-1) (by unfold QX;omega),wrap_i64 (by unfold QX;omega)];omega
 have HV:=aC (AH w1);have Ni:=aC Kv;have HK:=aC hK;have HX:=aC Jw;have hV2:∀u,Kn (fun _=>False) w1 u->Calls prog 129 #[.int .i64 (IntKind.i64.wrap (IntKind.i64.wrap ((A.length:Int)-1)-((A.length-1-i:Nat):Int)))] u fun e u2=>BA mb tb bb A ⟨3,(i:Nat),txt,[],[]⟩ w e u2/\(u2.cell? ⟨w.heap.size,0,none⟩=some (aA bb)/\u2.cell? ⟨w.heap.size+1,0,none⟩=some (aA nb)/\u2.cell? ⟨nb,1,none⟩=some (.string (bs txt))/\u2.cell? ⟨bb,1,none⟩=some (.map (some tb))/\u2.cell? ⟨bb,2,none⟩=some (.int .i64 (A.length:Nat))):=fun u hu=>by rw[Yv];exact hV u hu
 have HM:=aC hV2;obtain⟨⟨c1a,c2a,c3a,c4a,c5a⟩,Mq⟩:=Jw _ (AH w1);clear hn Ld h1 d12 hF hB Kf hm hf S7 Jw hV hV2 Kv hK hx hi;unfold aA at *;generalize hL:A.length=L at *;have hJb:L-1-i<=1000000:=by omega
 generalize hJ:L-1-i=J at *;generalize bs txt=tx at *;generalize Kn (fun _=>False) w1=V at *;go_enter func91,ntmps91;go_wp2_with fail;clear hL hJ Yv Lc
 go_region_held3 (fun w'=>w'.cell? ⟨w.heap.size,0,none⟩=some (.pointer (some ⟨bb,0,none⟩))/\w'.cell? ⟨w.heap.size+1,0,none⟩=some (.pointer (some ⟨nb,0,none⟩))/\w'.cell? ⟨nb,1,none⟩=some (.string tx)/\w'.cell? ⟨bb,1,none⟩=some (.map (some tb))/\w'.cell? ⟨bb,2,none⟩=some (.int .i64 (L:Nat))) (exact⟨c1a,c2a,c3a,c4a,c5a⟩)
  (first|(go_at_call 87;(refine(HK.out _).mono ?_);rintro e u⟨rfl,hu⟩;have HV:=aC (Ni.out _ _ _ HV.out hu);have hz:=HX.out _ HV.out;obtain⟨⟨c1a,c2a,c3a,c4a,c5a⟩,Mq⟩:=hz;clear hu)|(go_at_call 129;(refine(HM.out _ HV.out).mono ?_);rintro e u3⟨hq,c1a,c2a,c3a,c4a,c5a⟩;obtain⟨Kr,csr,rfl,Ki⟩:=hq;have HQ:=aC (show BA mb tb bb A _ w _ u3 from⟨Kr,csr,rfl,Ki⟩);clear Ki))
 all_goals
  go_wp2;refine bodyPost_ret (v:=.func (.func Kr) #[] csr) (by simp[results,results91,go_sem]) rfl HQ.out
end
end
section
open Go.RowKit
section
variable {mb tb bb:Nat}{A:List Nm}{w:World}
def Ii(u:World)(txt:Nm):(u.alloc (.cells #[.string (bs txt)] aI)).ownsRow 0 aI 1 (.slice (some ⟨u.heap.size,0,none⟩) 1 1) [txt].length ([txt].map bM):=
 ⟨rfl,inr ⟨u.heap.size,1,#[.string (bs txt)],rfl,zero_le _,JZ _ _,le_refl _,by decide,rfl,rfl⟩⟩
def MS{txt:Nm}{c:Cd}{Kb:Nat}{csb:Array Value}{u:World}(Zp:aF Kb)(hx:cL (0,txt))(Jm:A.length+1<=1000000)(hB:BM mb tb bb A A.length u)
  (hE:∀v,Kn (fun k=>k=tb\/k=bb) u v->BM mb tb bb (txt::A) (txt::A).length v->Calls prog Kb csb v (BA mb tb bb (txt::A) c v)) :
  Calls prog 56 #[aA bb,.func (.func Kb) #[] csb,.slice (some ⟨u.heap.size,0,none⟩) 1 1] (u.alloc (.cells #[.string (bs txt)] aI)) (BA mb tb bb A c u):=by
 have hk:Kn (fun _=>False) u (u.alloc (.cells #[.string (bs txt)] aI)):=(Kn.refl _ u).alloc _;have Jy:Kn (fun k=>k=tb\/k=bb) u (u.alloc (.cells #[.string (bs txt)] aI)):=hk.wide fun _ _ h=>h.elim;exact(kO (vs:=[txt]) Zp (Ii u txt) (fun x Pl=>by rw[mem_singleton.1 Pl];exact hx) Jm (hB.stays hk) (fun v h1 h2=>hE v (Jy.trans h1) h2)).mono fun e u2 ha=>ha.behind Jy
def Jh{nb:Nat}{txt:Nm}{a:Nd}{c:Cd}(hx:cL (0,txt))(Jm:A.length+1<=1000000)(hB:BM mb tb bb A A.length w)(hn:AB w (.mk 5 txt [a]) nb)
  (hE:∀u b,BM mb tb bb (txt::A) (txt::A).length u->AB u a b->Calls prog 91 #[aA bb,aA b] u (BA mb tb bb (txt::A) c u)) :
  Calls prog 91 #[aA bb,aA nb] w (BA mb tb bb A ⟨5,0,txt,[c],[]⟩ w):=by
 have hF:Fresh w ((w.alloc (.cells #[aA bb] 164)).alloc (.cells #[aA nb] 51)):=((Fresh.refl w).alloc _).alloc _;have d12:=qU w (.cells #[aA bb] 164) (.cells #[aA nb] 51);have Ld:=hB.tree (hF.kn.wide fun _ _ h=>h.elim) hn;obtain⟨pv,bl,h1,_⟩:=Ld.inv;have z2:=cell_of' d12.2;have z3:=cell_of' d12.1;generalize My:(w.alloc (.cells #[aA bb] 164)).alloc (.cells #[aA nb] 51)=w1 at *;have z0:w1.cell? ⟨nb,0,none⟩=some (.int .i64 5):=by simp[cell?,h1]
 have z1:w1.cell? ⟨nb,1,none⟩=some (.string (bs txt)):=by simp[cell?,h1]
 have Kf:=hB.stays hF.kn;have Lw:RA bb nb w.heap.size (w.heap.size+1) w1:=⟨d12.1,d12.2⟩;obtain⟨g,cap,bl',hp,hm,Kx⟩:=Ld.pt (by simp);have Rp:bl'.length=1:=Kx;obtain⟨ba,Od,_⟩:=hm.at (i:=0) (p:=a) rfl
 have hW:∀u,Kn (fun _=>False) w1 u->(u.cell? ⟨w.heap.size,0,none⟩=some (aA bb)/\u.cell? ⟨w.heap.size+1,0,none⟩=some (aA nb)/\u.cell? ⟨nb,1,none⟩=some (.string (bs txt)))/\Calls prog 56 #[aA bb,.func (.func 131) #[] #[aA w.heap.size,aA (w.heap.size+1)],.slice (some ⟨u.heap.size,0,none⟩) 1 1] (u.alloc (.cells #[.string (bs txt)] aI)) fun e u2=>∃K cs,e=.returned (.func (.func K) #[] cs)/\(u2.cell? ⟨w.heap.size,0,none⟩=some (aA bb)/\u2.cell? ⟨w.heap.size+1,0,none⟩=some (aA nb)/\u2.cell? ⟨nb,1,none⟩=some (.string (bs txt)))/\Hid (Calls prog 130 #[.func (.func K) #[] cs] u2 fun e u3=>BA mb tb bb A ⟨5,0,txt,[c],[]⟩ w e u3/\(u3.cell? ⟨w.heap.size,0,none⟩=some (aA bb)/\u3.cell? ⟨w.heap.size+1,0,none⟩=some (aA nb)/\u3.cell? ⟨nb,1,none⟩=some (.string (bs txt)))):=fun u hu=>by
  have Jw:∀v,Kn (fun k=>k=tb\/k=bb) w1 v->v.cell? ⟨w.heap.size,0,none⟩=some (aA bb)/\v.cell? ⟨w.heap.size+1,0,none⟩=some (aA nb)/\v.cell? ⟨nb,1,none⟩=some (.string (bs txt)):=fun v hv=>⟨cell_of' (Lw.kept Kf hv).b,cell_of' (Lw.kept Kf hv).n,(Kf.pt hv hp).cells.2.1⟩;have Ns:Kn (fun k=>k=tb\/k=bb) w1 u:=hu.wide fun _ _ h=>h.elim;refine⟨Jw u Ns,(MS (c:=c) aF.xe1 hx Jm (Kf.stays hu) (fun v h1 h2=>?_)).mono ?_⟩
  ·have hv:=Ns.trans h1;have Vp:=Kf.pt hv hp;refine Fy (Lw.kept Kf hv) Vp Od (by omega) (fun v2 Mx=>?_);have Ua:Kn (fun k=>k=tb\/k=bb) w1 v2:=hv.trans (Mx.wide fun _ _ h=>h.elim);have Ly:AB.AD v2 [a] bl':=hm.kept (fun k c f hc=>Ua.block k (aB hc) fun e=>by rcases e with e|e;exact Kf.AF hc e;exact Kf.AI hc (by decide) e) (fun k c f hc=>Ua.block k (aB hc) fun e=>by rcases e with e|e;exact Kf.AF hc e;exact Kf.AI hc (by decide) e);obtain⟨bb',Pg,Lr⟩:=Ly.at (i:=0) (p:=a) rfl;rw[Od]at Pg;cases Pg;exact hE v2 ba (h2.stays Mx) Lr
  ·rintro e u2⟨K,cs,rfl,q1,q2,q3⟩;have k2:=Ns.trans q2;refine⟨K,cs,rfl,Jw u2 k2,(Hs (nm:=txt) q1 q3).mono fun e u3 ha=>?_⟩;have Le:Kn (fun k=>k=tb\/k=bb) u2 u3:=by obtain⟨_,_,_,_,h,_⟩:=ha;exact h
   exact⟨ha.behind ((hF.kn.wide fun _ _ h=>h.elim).trans k2),Jw u3 (k2.trans Le)⟩
 have HW:=aC hW;have HV:=aC (AH w1);obtain⟨⟨c1a,c2a,c3a⟩,_⟩:=hW _ (AH w1);clear hE hn Ld h1 d12 hF hB hW Kf Lw hp hm Od Kx Rp;unfold aA at *;generalize bs txt=tx at *;go_enter func91,ntmps91;go_wp2_with fail
 go_region_held2 (fun w'=>w'.cell? ⟨w.heap.size,0,none⟩=some (.pointer (some ⟨bb,0,none⟩))/\w'.cell? ⟨w.heap.size+1,0,none⟩=some (.pointer (some ⟨nb,0,none⟩))/\w'.cell? ⟨nb,1,none⟩=some (.string tx)) (first|exact⟨c1a,c2a,c3a⟩|exact⟨aL c1a,aL c2a,aL c3a⟩)
  (first|(go_at_call 56;(refine((HW.out _ HV.out).2).mono ?_);rintro e u2⟨K,cs,rfl,⟨c1a,c2a,c3a⟩,HC⟩)|(go_at_call 130;(refine(HC.out).mono ?_);rintro e u3⟨hq,c1a,c2a,c3a⟩;obtain⟨Kr,csr,rfl,Ki⟩:=hq;have HQ:=aC (show BA mb tb bb A _ w _ u3 from⟨Kr,csr,rfl,Ki⟩);clear Ki))
 all_goals
  go_wp2;refine bodyPost_ret (v:=.func (.func Kr) #[] csr) (by simp[results,results91,go_sem]) rfl HQ.out
end
end
section
open Go.RowKit
section
variable {mb tb bb:Nat}{A:List Nm}{w:World}
def tP(mb tb bb:Nat)(A:List Nm)(w:World)(txt:Nm)(Kb:Nat)(csb:Array Value)(cb:Cd):Prop:=
 aF Kb/\∀v,Kn (fun k=>k=tb\/k=bb) w v->BM mb tb bb (txt::A) (txt::A).length v->Calls prog Kb csb v (BA mb tb bb (txt::A) cb v)
def Row(txt:Nm)(g:Nat)(v:World):Prop:=v.heap[g]?=some (.cells #[.string (bs txt)] aI (0,0))
def Row.owns{txt:Nm}{g:Nat}{v:World}(h:Row txt g v):v.ownsRow 0 aI 1 (.slice (some ⟨g,0,none⟩) 1 1) [txt].length ([txt].map bM):=⟨rfl,inr ⟨g,1,#[.string (bs txt)],rfl,zero_le _,h,le_refl _,by decide,rfl,rfl⟩⟩
def Row.kept{txt:Nm}{g:Nat}{v v2:World}(h:Row txt g v)(hB:BM mb tb bb A A.length v)(hk:Kn (fun k=>k=tb\/k=bb) v v2):Row txt g v2:=
 (hk.block g (aB h) fun e=>by rcases e with e|e;exact hB.AF h e;exact hB.AI h (by decide) e).trans h
def vW{txt:Nm}{c:Cd}{Kb g:Nat}{csb:Array Value}{u:World}(Zp:aF Kb)(hx:cL (0,txt))(Jm:A.length+1<=1000000)(hB:BM mb tb bb A A.length u)(hg:Row txt g u)
  (hE:∀v,Kn (fun k=>k=tb\/k=bb) u v->BM mb tb bb (txt::A) (txt::A).length v->Calls prog Kb csb v (BA mb tb bb (txt::A) c v)) :
  Calls prog 56 #[aA bb,.func (.func Kb) #[] csb,.slice (some ⟨g,0,none⟩) 1 1] u (BA mb tb bb A c u):=
 kO (vs:=[txt]) Zp hg.owns (fun x Pl=>by rw[mem_singleton.1 Pl];exact hx) Jm hB (fun v h1 h2=>hE v h1 h2)
def Kn.a1(w:World)(o:Obj):Kn (fun _=>False) w (w.alloc o).drew:=((Kn.refl _ w).alloc o).drew
def Kn.a2(w:World)(o o2:Obj):Kn (fun _=>False) w ((w.alloc o).alloc o2).drew:=(((Kn.refl _ w).alloc o).alloc o2).drew
def MG{nb Kb:Nat}{csb:Array Value}{txt:Nm}{a:Nd}{r:List Nd}{ca cb:Cd}(hr:r.length<=100)(hx:cL (0,txt))(Jm:A.length+1<=1000000)(hB:BM mb tb bb A A.length w)(hn:AB w (.mk 6 txt (a::r)) nb)(hb:tP mb tb bb A w txt Kb csb cb)
  (hE:∀u b,BM mb tb bb A A.length u->AB u a b->Calls prog 91 #[aA bb,aA b] u (BA mb tb bb A ca u)) :
  Calls prog 92 #[aA bb,aA nb,.func (.func Kb) #[] csb] w (BA mb tb bb A ⟨6,0,txt,[ca,cb],[]⟩ w):=by
 have hF:Fresh w ((w.alloc (.cells #[aA bb] 164)).alloc (.cells #[aA nb] 51)):=((Fresh.refl w).alloc _).alloc _;have d12:=qU w (.cells #[aA bb] 164) (.cells #[aA nb] 51);have Ld:=hB.tree (hF.kn.wide fun _ _ h=>h.elim) hn;have z2:=cell_of' d12.2;have z3:=cell_of' d12.1;generalize My:(w.alloc (.cells #[aA bb] 164)).alloc (.cells #[aA nb] 51)=w1 at *;have Kf:=hB.stays hF.kn;have Lw:RA bb nb w.heap.size (w.heap.size+1) w1:=⟨d12.1,d12.2⟩;obtain⟨g,cap,bl',hp,hm,Kx⟩:=Ld.pt (by simp);have Rp:bl'.length<=1000:=by rw[Kx,length_cons];omega
 obtain⟨ba,Od,_⟩:=hm.at (i:=0) (p:=a) rfl;have z0:w1.cell? ⟨nb,0,none⟩=some (.int .i64 6):=hp.cells.1;have Rb:Kn (fun k=>k=tb\/k=bb) w w1:=hF.kn.wide fun _ _ h=>h.elim;have Jw:∀v,Kn (fun k=>k=tb\/k=bb) w1 v->v.cell? ⟨w.heap.size,0,none⟩=some (aA bb)/\v.cell? ⟨w.heap.size+1,0,none⟩=some (aA nb)/\v.cell? ⟨nb,1,none⟩=some (.string (bs txt)):=fun v hv=>⟨cell_of' (Lw.kept Kf hv).b,cell_of' (Lw.kept Kf hv).n,(Kf.pt hv hp).cells.2.1⟩
 have hA:∀u,Kn (fun _=>False) w1 u->Calls prog 136 #[aA w.heap.size,aA (w.heap.size+1)] u fun e u2=>∃K1 cs1,e=.returned (.func (.func K1) #[] cs1)/\(u2.cell? ⟨w.heap.size,0,none⟩=some (aA bb)/\u2.cell? ⟨w.heap.size+1,0,none⟩=some (aA nb)/\u2.cell? ⟨nb,1,none⟩=some (.string (bs txt)))/\Hid (∀g,Row txt g u->Row txt g u2)/\Hid (∀v g,Kn (fun _=>False) u2 v->Row txt g v->Calls prog 56 #[aA bb,.func (.func Kb) #[] csb,.slice (some ⟨g,0,none⟩) 1 1] v fun e u3=>∃K2 cs2,e=.returned (.func (.func K2) #[] cs2)/\(u3.cell? ⟨w.heap.size,0,none⟩=some (aA bb)/\u3.cell? ⟨w.heap.size+1,0,none⟩=some (aA nb)/\u3.cell? ⟨nb,1,none⟩=some (.string (bs txt)))/\Hid (Calls prog 138 #[.func (.func K1) #[] cs1,.func (.func K2) #[] cs2] u3 fun e u4=>BA mb tb bb A ⟨6,0,txt,[ca,cb],[]⟩ w e u4/\(u4.cell? ⟨w.heap.size,0,none⟩=some (aA bb)/\u4.cell? ⟨w.heap.size+1,0,none⟩=some (aA nb)/\u4.cell? ⟨nb,1,none⟩=some (.string (bs txt))))):=fun u hu=>by
  have Ns:Kn (fun k=>k=tb\/k=bb) w1 u:=hu.wide fun _ _ h=>h.elim;refine(WJ (mb:=mb) (tb:=tb) (c:=ca) (A:=A) (Lw.kept Kf Ns) (Kf.pt Ns hp) Od Rp (fun v2 Mx=>?_)).mono ?_
  ·have Ua:Kn (fun k=>k=tb\/k=bb) w1 v2:=Ns.trans (Mx.wide fun _ _ h=>h.elim);have Ly:AB.AD v2 (a::r) bl':=hm.kept (fun k c f hc=>Ua.block k (aB hc) fun e=>by rcases e with e|e;exact Kf.AF hc e;exact Kf.AI hc (by decide) e) (fun k c f hc=>Ua.block k (aB hc) fun e=>by rcases e with e|e;exact Kf.AF hc e;exact Kf.AI hc (by decide) e);obtain⟨bb',Pg,Lr⟩:=Ly.at (i:=0) (p:=a) rfl;rw[Od]at Pg;cases Pg;exact hE v2 ba ((Kf.stays hu).stays Mx) Lr
  ·rintro e u2⟨K1,cs1,rfl,q1,q2,q3⟩;have k2:=Ns.trans q2;refine⟨K1,cs1,rfl,Jw u2 k2,fun g hg=>hg.kept (Kf.stays hu) q2,fun v g hv hg=>?_⟩;have Uh:Kn (fun k=>k=tb\/k=bb) u2 v:=hv.wide fun _ _ h=>h.elim;refine(vW (c:=cb) hb.1 hx Jm (q1.stays hv) hg (fun v2 h1 h2=>hb.2 v2 (((Rb.trans k2).trans Uh).trans h1) h2)).mono ?_;rintro e u3⟨K2,cs2,rfl,p1,p2,p3⟩;have k3:=(k2.trans Uh).trans p2;refine⟨K2,cs2,rfl,Jw u3 k3,(Hr (nm:=txt) p1 (q3.kept (q1.kr (Uh.trans p2))) p3).mono fun e u4 ha=>?_⟩;have Mr:Kn (fun k=>k=tb\/k=bb) u3 u4:=by obtain⟨_,_,_,_,h,_⟩:=ha;exact h
   exact⟨ha.behind (Rb.trans k3),Jw u4 (k3.trans Mr)⟩
 have HA:=aC hA;obtain⟨c1a,c2a,c3a⟩:=Jw w1.drew ((AH w1).wide fun _ _ h=>h.elim);clear hE hn Ld d12 hF hB hA Kf Lw hp hm Od Kx Rp Jw hb Rb;unfold aA Row at *;generalize bs txt=tx at *;have Ju:((6:Int)==7)=false:=by decide
 go_enter func92,ntmps92;go_wp2_with fail
 go_region_held2 (fun w'=>w'.cell? ⟨w.heap.size,0,none⟩=some (.pointer (some ⟨bb,0,none⟩))/\w'.cell? ⟨w.heap.size+1,0,none⟩=some (.pointer (some ⟨nb,0,none⟩))/\w'.cell? ⟨nb,1,none⟩=some (.string tx)) (first|exact⟨c1a,c2a,c3a⟩|exact⟨aL c1a,aL c2a,aL c3a⟩)
  (first
   |(go_at_call 136;first
     |((refine(HA.out _ (AH w1)).mono ?_);rintro e u2⟨K1,cs1,rfl,⟨c1a,c2a,c3a⟩,H1,H2⟩)
     |((refine(HA.out _ (Kn.a1 w1 _)).mono ?_);rintro e u2⟨K1,cs1,rfl,⟨c1a,c2a,c3a⟩,H1,H2⟩;have HR:=aC (H1.out _ (JZ w1 _))))
   |(go_at_call 56;first
     |((refine(H2.out _ _ (Kn.refl _ _) HR.out).mono ?_);rintro e u3⟨K2,cs2,rfl,⟨c1a,c2a,c3a⟩,HC⟩)
     |((refine(H2.out _ _ ((Kn.refl _ u2).alloc _) (JZ u2 _)).mono ?_);rintro e u3⟨K2,cs2,rfl,⟨c1a,c2a,c3a⟩,HC⟩))
   |(go_at_call 138;(refine(HC.out).mono ?_);rintro e u4⟨hq,c1a,c2a,c3a⟩;obtain⟨Kr,csr,rfl,Ki⟩:=hq;have HQ:=aC (show BA mb tb bb A _ w _ u4 from⟨Kr,csr,rfl,Ki⟩);clear Ki))
 all_goals
  go_wp2;refine bodyPost_ret (v:=.func (.func Kr) #[] csr) (by simp[results,results92,go_sem]) rfl HQ.out
end
end
section
open Go.RowKit
section
variable {w u:World}{nb:Nat}{txt:Nm}
def GX:Value:=.func (.func 223) #[] #[]
def UZ:(prog.info? kG).map (fun i=>(i.zero,i.size,i.bytes))=some (some .nilFunc,1,8):=by kernel_rfl
def IA(h:w.cell? ⟨nb,0,none⟩=some (.int .i64 3)):Calls prog 178 #[aA nb] w fun e u=>e=.returned GX/\u=w:=by
 unfold aA at *;go_enter func178,ntmps178;go_wp2;refine bodyPost_ret (v:=GX) (by simp[results,results178,go_sem,GX]) rfl ⟨rfl,rfl⟩
def JD(tx:ByteArray)(a:Option Addr)(n c:Nat)(w:World):Calls prog 224 #[.string tx,.slice a n c] w fun e u=>e=.returned (.func (.func 278) #[] #[aA w.heap.size,aA (w.heap.size+1)])/\u=(w.alloc (.cells #[.string tx] aI)).alloc (.cells #[.slice a n c] rF):=by
 unfold aA at *;go_enter func224,ntmps224;go_wp2;refine bodyPost_ret (by simp[results,results224,go_sem]) rfl ⟨rfl,rfl⟩
structure xP(w:World)(i:Nat)(v:Value)(wr:World):Prop where
 kn:Kn (fun _=>False) w wr
 row:wr.ownsRow w.heap.size kG 1 v i (List.replicate i GX)
def xP.more{i:Nat}{v:Value}(h:xP w i v u)(hn:i<=1000) :
  ∃v' w2,(append_ #[260,260] 260 #[v,.slice (some ⟨u.heap.size,0,none⟩) 1 1]).run prog (u.alloc (.cells #[GX] kG))=.ok v' w2/\xP w (i+1) v' w2:=by
 obtain⟨i0,B8,Og,Lz,Nj⟩:=info_parts UZ;have Ll:=h.row.alloc (.cells #[GX] kG);have Ks:∀j z,[GX][j]?=some z->(u.alloc (.cells #[GX] kG)).cell? ((⟨u.heap.size,0,none⟩:Addr).add j)=some z:=fun j z hj=>fK rfl (by simpa using hj);have Qh:∀z∈[GX],z.oneCell'=true:=by intro z hz;simp at hz;subst hz;rfl
 have Ra:w.heap.size<=u.heap.size:=h.kn.size;obtain⟨v',w2,Jo,Nf,Pe,_⟩:=run_append_own (P:=prog) (u.alloc (.cells #[GX] kG)) w.heap.size 260 260 kG i0 .nilFunc 1 8 underlying260 B8 Og Lz Nj rfl (by decide) v i _ Ll ⟨u.heap.size,0,none⟩ 1 1 [GX] rfl Ks Qh (by unfold maxLen;omega) (by omega) (by rw[aK];omega);refine⟨v',w2,Jo,(h.kn.alloc _).grown Pe fun k e=>inr (h.row.lt k e).1,?_⟩;rw[List.replicate_succ'];exact Nf
def IC{ps:List Nd}(hn:AB w (.mk 14 txt ps) nb)(hl:ps.length<=1000)(hv:∀p∈ps,p.k=3) :
  Calls prog 178 #[aA nb] w fun e u=>∃v,e=.returned v/\Kn (fun _=>False) w u/\QV u ⟨txt,ps.length⟩ v:=by
 obtain⟨pv,bl,n1,n2,n3⟩:=hn.inv;have Jm:=n3.len;have z0:w.cell? ⟨nb,0,none⟩=some (.int .i64 14):=by simp[cell?,n1]
 have z1:∀v wr,xP w ps.length v wr->wr.cell? ⟨nb,1,none⟩=some (.string (bs txt)):=fun v wr h=>by
  rw[show wr.cell? ⟨nb,1,none⟩=w.cell? ⟨nb,1,none⟩ by simp[cell?,h.kn.block nb (aB n1) id]];simp[cell?,n1]
 have z2:w.cell? ⟨nb,2,none⟩=some pv:=by simp[cell?,n1]
 obtain⟨a,cap,rfl,ha⟩:∃a cap,pv=.slice a bl.length cap/\(0<bl.length->∃g,a=some ⟨g,0,none⟩):=by
  rcases aD n2 with⟨h,h0⟩|⟨g,cap,h⟩
  ·exact⟨none,0,by rw[h,h0],fun h=>by omega⟩
  ·exact⟨_,cap,h,fun _=>⟨g,rfl⟩⟩
 have Ob:=bI n2;have Jz:xP w 0 (.slice none 0 0) w:=⟨Kn.refl _ _,World.ownsRow_nil _ _ _ _⟩
 have Kp:∀i v wr,xP w i v wr->i<ps.length->∃g b,a=some ⟨g,0,none⟩/\wr.cell? ⟨g,i,none⟩=some (aA b)/\g<wr.heap.size/\Calls prog 178 #[aA b] wr fun e u=>e=.returned GX/\u=wr/\∃v' w2,(append_ #[260,260] 260 #[v,.slice (some ⟨wr.heap.size,0,none⟩) 1 1]).run prog (wr.alloc (.cells #[GX] kG))=.ok v' w2/\Hid (xP w (i+1) v' w2):=by
  intro i v wr Kl hi;have Rn:ps[i]?=some ps[i]:=List.getElem?_eq_getElem hi;have Le:=hv _ (mem_of_getElem? Rn);generalize ps[i]=p at Rn Le;obtain⟨b,hb,hm⟩:=n3.at Rn;have hib:=(List.getElem?_eq_some_iff.1 hb).1;obtain⟨g,rfl⟩:=ha (by omega);have Jn:wr.ownsRow 0 aH 1 (.slice (some ⟨g,0,none⟩) bl.length cap) bl.length (bl.map aA):=aE n2 fun q c f _ hc=>Kl.kn.block q (aB hc) fun h=>h;refine⟨g,b,rfl,?_,(Jn.lt g rfl).2,?_⟩
  ·rw[Jn.cellAt i (by omega),getElem?_map,hb];rfl
  ·obtain⟨pk,pt,pp⟩:=p;obtain⟨pv2,bl2,m1,_,_⟩:=hm.inv;have:wr.heap[b]?=w.heap[b]?:=Kl.kn.block b (aB m1) fun h=>h;refine(IA (w:=wr) (nb:=b) (by simp[cell?,this,m1];exact_mod_cast Le)).mono ?_;rintro e u⟨rfl,rfl⟩;obtain⟨v',w2,h1,h2⟩:=Kl.more (by omega);exact⟨rfl,rfl,v',w2,h1,h2⟩
 have Jp:∀v wr,xP w ps.length v wr->∃a n c,v=.slice a n c/\wr.cell? ⟨nb,1,none⟩=some (.string (bs txt))/\Calls prog 224 #[.string (bs txt),v] wr fun e u=>∃K cs,e=.returned (.func (.func K) #[] cs)/\Hid (Kn (fun _=>False) w u/\QV u ⟨txt,ps.length⟩ (.func (.func K) #[] cs)):=by
  intro v wr h
  obtain⟨va,vn,vc,rfl⟩:∃a n c,v=.slice a n c:=by
   rcases aD h.row with⟨h,_⟩|⟨g,cap,h⟩
   ·exact⟨_,_,_,h⟩
   ·exact⟨_,_,_,h⟩
  refine⟨_,_,_,rfl,z1 _ _ h,(JD _ _ _ _ _).mono ?_⟩;rintro e u⟨rfl,rfl⟩;have Jy:Kn (fun _=>False) wr ((wr.alloc (.cells #[.string (bs txt)] aI)).alloc (.cells #[.slice va vn vc] rF)):=((Kn.refl _ wr).alloc _).alloc _;refine⟨_,_,rfl,h.kn.trans Jy,hl,.slice va vn vc,⟨enters func278 (by kernel_rfl) rfl,[wr.heap.size,wr.heap.size+1],rfl,?_,inl (by unfold Fixed;decide),?_,inl (by unfold Fixed;decide),trivial⟩,?_⟩
  ·rw[Below.heap_alloc _ _ _ (by simp)];exact(heap_alloc wr _).1
  ·have:=(heap_alloc (wr.alloc (.cells #[.string (bs txt)] aI)) (.cells #[.slice va vn vc] rF)).1
   simpa using this
  ·rcases h.row.2 with⟨h1,h0⟩|⟨g,cap,cur,h1,_,hg,_,_,Rh,Lo⟩
   ·cases h1;exact inl ⟨by show ps.length=0;omega,_,_,rfl⟩
   ·cases h1;refine inr ⟨g,_,cur,rfl,(Jy.block g (aB hg) id).trans hg,fun i hi=>?_⟩;have hi:i<ps.length:=hi;have h3:(List.replicate ps.length GX)[i]?=some GX:=by rw[List.getElem?_replicate,if_pos hi]
    rw[<- Lo,List.getElem?_take_of_lt (by omega),getElem?_toList]at h3;exact h3
 rw[Jm]at *;have Km:=aC Jz;have HS:=aC Kp;have HF:=aC Jp;clear Jz Kp Jp n1 n2 n3 hn ha hv z1 Jm;generalize xP w=OA at *;generalize QV=PM at *;generalize bs txt=tx at *;generalize ps.length=pn at *;unfold aA at *;go_enter func178,ntmps178;go_wp2_with fail
 go_loopg [3,21] pn (fun gk v3 v21 wr=>∃i:Nat,v21=.int .i64 (i:Nat)/\i+gk=pn/\Hid (OA i v3 wr))
 case atStart=>exact⟨0,rfl,by omega,Km⟩
 case round=>
  clear Km;obtain⟨i,rfl,hi,Kd⟩:=hrel
  by_cases Js:i<pn
  ·obtain⟨g,b,rfl,e1,e2,hc⟩:=HS.out _ _ _ Kd.out Js;have Jt:(i:Int)<(pn:Int):=by omega
   have HC:=aC hc;clear hc HS HF Kd;go_wp2_with fail;refine(HC.out).mono ?_;rintro e u⟨rfl,rfl,v',w2,Jo,HL⟩;have HR:=aC Jo;clear HC Jo
   go_wp2_with (at_builtin;refine aU rfl _ _ _ rfl (by simp[Act.eval,Act.put]) (by simp[Act.eval,Act.put]) HR.out ?_)
   go_roundg (pn-(i+1))
   case rel=>exact⟨i+1,by simp,by omega,HL⟩
   case measure=>omega
  ·have Kg:i=pn:=by omega
   subst Kg;have Jt:¬(i:Int)<(i:Int):=by omega
   obtain⟨av,nv,cv,rfl,d1,hc⟩:=HF.out _ _ Kd.out;have HC:=aC hc;clear hc HS HF Kd;go_wp2_with fail;refine(HC.out).mono ?_;rintro e u⟨Kr,csr,rfl,HQ⟩;clear HC;go_wp2;refine bodyPost_ret (v:=.func (.func Kr) #[] csr) (by simp[results,results178,go_sem]) rfl ⟨_,rfl,HQ.out⟩
end
end
section
open Go.RowKit
def UY:(prog.info? cW).map (fun i=>(i.zero,i.size,i.bytes))=some (some (.agg #[.nilFunc,.nilFunc]),2,16):=by kernel_rfl
def RF{n j:Nat}(h:j<n*2):(zeroCells (Value.cells (.agg #[.nilFunc,.nilFunc])) n)[j]?=some .nilFunc:=by
 have:Value.cells (.agg #[.nilFunc,.nilFunc])=#[.nilFunc,.nilFunc]:=by kernel_rfl
 unfold zeroCells;rw[this];have h2:j % 2=0\/j % 2=1:=by omega
 rcases h2 with h2|h2<;>simp[h2,h]
def MN(n:Nat):(zeroCells (Value.cells (.agg #[.nilFunc,.nilFunc])) n).size=n*2:=by
 have:Value.cells (.agg #[.nilFunc,.nilFunc])=#[.nilFunc,.nilFunc]:=by kernel_rfl
 rw[size_zeroCells,this];rfl
def FF(B:Nat)(w:World)(n:Nat)(ys:List Value)(v:Value):Prop:=
 ys.length=n*2/\((v=.slice none 0 0/\n=0)\/∃g cap cs,v=.slice (some ⟨g,0,none⟩) n cap/\B<=g/\w.heap[g]?=some (.cells cs cW (0,0))/\n<=cap/\cap<=maxLen/\cs.size=cap*2/\(∀(i:Nat)(y:Value),ys[i]?=some y->cs[i]?=some y)/\∀i,ys.length<=i->i<cs.size->cs[i]?=some .nilFunc)
structure mT(w w':World):Prop where
 size:w.heap.size<=w'.heap.size
 one:∀(k:Nat)(x:Value)(t:TypeId),w.heap[k]?=some (.cells #[x] t (0,0))->w'.heap[k]?=w.heap[k]?
 oth:∀(k:Nat)(o:Obj),w.heap[k]?=some o->(∀c f,o≠.cells c cW f)->w'.heap[k]?=w.heap[k]?
 row:∀(k:Nat)(c:Array Value)(f:Nat×Nat),w.heap[k]?=some (.cells c cW f)->∃c',w'.heap[k]?=some (.cells c' cW f)/\∀(i:Nat)(x:Value),c[i]?=some x->x≠.nilFunc->c'[i]?=some x
def mT.same{w u:World}(hs:w.heap.size<=u.heap.size)(h:∀k,k<w.heap.size->u.heap[k]?=w.heap[k]?):mT w u:=
 ⟨hs,fun k _ _ hc=>h k (aB hc),fun k _ ho _=>h k (Array.getElem?_eq_some_iff.1 ho).1,fun k c _ hc=>⟨c,(h k (aB hc)).trans hc,fun _ _ h _=>h⟩⟩
def Bxs.AS{w w':World}(hk:mT w w'):∀{r:List (TypeId×Value)}{l:List Nat},Bxs w r l->Bxs w' r l:=by
 intro r
 induction r with
 |nil=>intro l h;cases l with|nil=>trivial|cons=>exact h.elim
 |cons x r ih=>
  intro l h;obtain⟨t,v⟩:=x
  cases l with
  |nil=>exact h.elim
  |cons b l=>exact⟨(hk.one b _ _ h.1).trans h.1,h.2.1,ih h.2.2⟩
def Clo.AS{w w':World}(hk:mT w w'){v:Value}{K:Nat}{r:List (TypeId×Value)}(h:Clo w v K r):Clo w' v K r:=by
 obtain⟨h0,l,h1,h2⟩:=h;exact⟨h0,l,h1,h2.AS hk⟩
def FA.AS{w u:World}(hk:mT w u){nm:Nm}:∀{xs:List Value}{v:Value},FA w nm xs v->FA u nm xs v:=by
 intro xs
 induction xs with
 |nil=>intro v h;exact Clo.AS hk h
 |cons x r ih=>intro v h;obtain⟨q,h1,h2⟩:=h;exact⟨q,ih h1,h2.AS hk⟩
def QV.AS{w u:World}(hk:mT w u){p:Pt}{v:Value}(h:QV w p v):QV u p v:=by
 obtain⟨hn,sl,h1,h2⟩:=h;refine⟨hn,sl,h1.AS hk,?_⟩;rcases h2 with h2|⟨g,cap,cs,h3,h4,h5⟩
 ·exact inl h2
 ·exact inr ⟨g,cap,cs,h3,(hk.oth _ _ h4 (by intro c f e;cases e)).trans h4,h5⟩
def QV.some{w:World}{p:Pt}{v:Value}(h:QV w p v):v≠.nilFunc:=by
 obtain⟨_,_,⟨_,l,rfl,_⟩,_⟩:=h;intro e;cases e
def jV.AS{w u:World}(hk:mT w u){pts:List Pt}{xs:List Value}{v:Value}(hx:∀x∈xs,x≠.nilFunc)(h:jV w pts xs v):jV u pts xs v:=by
 obtain⟨h0,hl,g,cap,cs,h1,h2,h3⟩:=h;obtain⟨c',h4,h5⟩:=hk.row _ _ _ h2;refine⟨h0,hl,g,cap,c',h1,h4,fun i p x hp Pl=>?_⟩;obtain⟨pv,q1,q2,q3⟩:=h3 i p x hp Pl;exact⟨pv,h5 _ _ q1 q3.some,h5 _ _ q2 (hx x (mem_of_getElem? Pl)),q3.AS hk⟩
def Each.forms{mb n:Nat}{w:World}:∀{cds:List Cd}{xs:List Value},Each (pB mb w n) cds xs->∀x∈xs,x≠.nilFunc:=by
 intro cds
 induction cds with
 |nil=>intro xs h;cases xs with|nil=>intro x hx;cases hx|cons=>exact h.elim
 |cons c r ih=>
  intro xs h
  cases xs with
  |nil=>exact h.elim
  |cons y xs=>
   intro x hx;rcases mem_cons.1 hx with rfl|hx
   ·obtain⟨K,cs,rfl,_⟩:=h.1.form;intro e;cases e
   ·exact ih h.2 x hx
def pB.AS{mb:Nat}{w w':World}(hk:mT w w'):∀(n:Nat)(c:Cd)(v:Value),pB mb w n c v->pB mb w' n c v:=by
 intro n
 induction n with
 |zero=>intro c v h;exact h.elim
 |succ n ih=>
  intro c v h;obtain⟨h0,xs,h1,⟨K,bl,h2,h3⟩|⟨h2,hl,q,h3,h4⟩|⟨h2,x,r,q,h3,h4,h5⟩⟩:=h
  ·exact⟨h0,xs,h1.imp ih,inl ⟨K,bl,h2,h3.AS hk⟩⟩
  ·exact⟨h0,xs,h1.imp ih,inr (inl ⟨h2,hl,q,h3.AS hk,h4.AS hk⟩)⟩
  ·exact⟨h0,xs,h1.imp ih,inr (inr ⟨h2,x,r,q,h3,h4.AS hk (fun y hy=>h1.forms y (by rw[h3];exact mem_cons_of_mem _ hy)),h5.AS hk⟩)⟩
def fP.AS{mb:Nat}{w w':World}(hk:mT w w')(c:Cd)(v:Value)(h:fP mb w c v):fP mb w' c v:=h.elim fun n hn=>⟨n,hn.AS hk⟩
section
variable {B:Nat}{w u w0:World}{n:Nat}{ys:List Value}{v p x:Value}
def TU{cap:Nat}(hl:ys.length=n*2)(hB:B<=w0.heap.size)(h1:n+1<=cap)(h2:cap<=maxLen)(e:PEq u w0 (.cells (ys.toArray++[p,x].toArray++zeroCells (Value.cells (.agg #[.nilFunc,.nilFunc])) (cap-(n+1))) cW (0,0))) :
  FF B u (n+1) (ys++[p,x]) (.slice (some ⟨w0.heap.size,0,none⟩) (n+1) cap):=by
 have hs:(ys.toArray++[p,x].toArray++zeroCells (Value.cells (.agg #[.nilFunc,.nilFunc])) (cap-(n+1))).size=cap*2:=by
  rw[size_append,MN,size_append,size_toArray,size_toArray,hl];simp only[length_cons,length_nil];omega
 have Mb:(ys++[p,x]).length=n*2+2:=by rw[length_append,hl];rfl
 refine⟨by rw[Mb];omega,inr ⟨w0.heap.size,cap,_,rfl,hB,bT e,h1,h2,hs,fun i y hy=>?_,fun i hi F4=>?_⟩⟩
 ·have Lc:=(List.getElem?_eq_some_iff.1 hy).1;rw[Array.getElem?_append_left (by rw[size_append,size_toArray,size_toArray,<- length_append];exact Lc)];rw[append_toArray,List.getElem?_toArray];exact hy
 ·rw[Mb]at hi;rw[hs]at F4;have hsa:(ys.toArray++[p,x].toArray).size=n*2+2:=by rw[size_append,size_toArray,size_toArray,hl];rfl
  rw[Array.getElem?_append_right (by rw[hsa];omega),hsa];exact RF (by omega)
def JX(ho:FF B w n ys v)(hn:n<=1000)(hB:B<=w.heap.size)(hp:p.oneCell'=true)(hx:x.oneCell'=true) :
  ∃v' u,(append_ #[dU,dU] dU #[v,.slice (some ⟨w.heap.size,0,none⟩) 1 1]).run prog (w.alloc (.cells #[p,x] cW))=.ok v' u/\FF B u (n+1) (ys++[p,x]) v'/\mT w u/\eS u w/\∀k,k<B->u.heap[k]?=w.heap[k]?:=by
 obtain⟨i0,hi,Og,Lz,Nj⟩:=info_parts UY;have e0:PEq (w.alloc (.cells #[p,x] cW)) w (.cells #[p,x] cW (0,0)):=⟨rfl,rfl,rfl,rfl⟩;have s0:=bP e0;have Ks:∀j y,[p,x][j]?=some y->(w.alloc (.cells #[p,x] cW)).cell? ((⟨w.heap.size,0,none⟩:Addr).add j)=some y:=fun j y hj=>fK rfl (by simpa using hj);generalize (w.alloc (.cells #[p,x] cW))=w0 at *;obtain⟨hl,ho⟩:=ho
 have Mw:∀cap,n+1<=cap->cap<=maxLen->∀u,PEq u w0 (.cells (ys.toArray++[p,x].toArray++zeroCells (Value.cells (.agg #[.nilFunc,.nilFunc])) (cap-(n+1))) cW (0,0))->FF B u (n+1) (ys++[p,x]) (.slice (some ⟨w0.heap.size,0,none⟩) (n+1) cap)/\mT w u/\eS u w/\∀k,k<B->u.heap[k]?=w.heap[k]?:=fun cap h1 h2 u e=>by
  have J2:eS u w:=e0.so.trans e.so;have hold:∀k,k<w.heap.size->u.heap[k]?=w.heap[k]?:=fun k hk=>(aS e (by omega)).trans (aS e0 hk);exact⟨TU hl (by omega) h1 h2 e,mT.same (by have:=bP e;omega) hold,J2,fun k hk=>hold k (by omega)⟩
 rcases ho with⟨rfl,rfl⟩|⟨g,cap,cs,rfl,h1,h2,h3,h4,h5,h6,h7⟩
 ·have hy:ys=[]:=List.length_eq_zero_iff.1 (by omega);subst hy;have hr:=run_append_nil (P:=prog) w0 dU dU cW i0 (.agg #[.nilFunc,.nilFunc]) underlying201 hi Og ⟨w.heap.size,0,none⟩ 1 1 [p,x] (by rw[Lz];rfl) Ks (by omega) (by omega) (by rw[Nj];omega);have q:=Mw _ (grownCap_ge w0 1 0 cW) (grownCap_le_maxLen w0 1 0 cW (by decide)) (w0.drew.alloc (.cells (#[]++[p,x].toArray++zeroCells (Value.cells (.agg #[.nilFunc,.nilFunc])) (grownCap w0 1 0 cW-(0+1))) cW)) ⟨rfl,rfl,rfl,rfl⟩;refine⟨_,_,hr,?_⟩
  simpa using q
 ·have Ov:w0.heap[g]?=some (.cells cs cW (0,0)):=(aS e0 (aB h2)).trans h2
  by_cases Pa:n+1<=cap
  ·have hr:=run_append_room (P:=prog) w0 dU dU cW i0 underlying201 hi g n cap cs Ov ⟨w.heap.size,0,none⟩ 1 1 [p,x] (by rw[Lz];rfl) Ks (by intro y hy;simp at hy;rcases hy with rfl|rfl;exact hp;exact hx) Pa (by rw[Lz];simp only[length_cons,length_nil];omega);rw[Lz]at hr;have C6:[p,x].length=2:=rfl;rw[C6]at hr;generalize hR:(cs.toList.take (n*2)++[p,x]++cs.toList.drop (n*2+2)).toArray=R at hr;have Jn:=setRow_heap w0 g cs R cW (0,0) Ov;have Sx:∀k,k≠g->(w0.setRow g R).heap[k]?=w0.heap[k]?:=fun k hk=>setRow_other w0 g k _ hk;have Xj:min (n*2) cs.size=n*2:=Nat.min_eq_left (by omega)
   have Ke:R.size=cs.size:=by
    rw[<- hR];simp only[size_toArray,length_append,length_take,List.length_drop,length_toList,C6];omega
   have Kl:∀i,i<n*2\/n*2+2<=i->R[i]?=cs[i]?:=fun i hi=>by
    rw[<- hR,List.getElem?_toArray,append_assoc];rcases hi with hi|hi
    ·rw[List.getElem?_append_left (by simp;omega),List.getElem?_take_of_lt hi,getElem?_toList]
    ·rw[List.getElem?_append_right (by simp;omega),List.getElem?_append_right (by simp;omega)];simp only[length_take,length_toList,Xj,C6];rw[List.getElem?_drop,getElem?_toList];congr 1;omega
   have E6:∀(j:Nat)(y:Value),[p,x][j]?=some y->R[n*2+j]?=some y:=fun j y hj=>by
    have hj2:=(List.getElem?_eq_some_iff.1 hj).1;rw[<- hR,List.getElem?_toArray,append_assoc,List.getElem?_append_right (by simp;omega)];simp only[length_take,length_toList,Xj];rw[show n*2+j-n*2=j by omega,List.getElem?_append_left hj2];exact hj
   have Mb:(ys++[p,x]).length=n*2+2:=by rw[length_append,hl];rfl
   refine⟨_,_,hr,⟨by rw[Mb];omega,inr ⟨g,cap,R,rfl,h1,Jn,Pa,h4,by rw[Ke];exact h5,fun i y hy=>?_,fun i Yk S2=>?_⟩⟩,⟨by simp[World.setRow];omega,fun k y t hc=>?_,fun k o hc Ju=>?_,fun k c f hc=>?_⟩,⟨e0.so.os,e0.so.tape,e0.so.output⟩,fun k hk=>(Sx k (by omega)).trans (aS e0 (by omega))⟩
   ·by_cases Yk:i<n*2
    ·rw[Kl i (inl Yk)];rw[List.getElem?_append_left (by omega)]at hy;exact h6 i y hy
    ·rw[List.getElem?_append_right (by omega),hl]at hy;have:=E6 (i-n*2) y hy
     rwa [show n*2+(i-n*2)=i by omega]at this
   ·rw[Mb]at Yk;rw[Ke]at S2;rw[Kl i (inr Yk)];exact h7 i (by omega) S2
   ·by_cases P9:k=g
    ·subst P9;rw[h2]at hc;have Ny:cs=#[y]:=by simp at hc;exact hc.1
     rw[Ny]at h5;have:(#[y]:Array Value).size=1:=rfl;omega
    ·exact(Sx k P9).trans (aS e0 (aB hc))
   ·exact(Sx k fun e=>by subst e;rw[h2]at hc;cases hc;exact Ju _ _ rfl).trans (aS e0 (Array.getElem?_eq_some_iff.1 hc).1)
   ·by_cases P9:k=g
    ·subst P9;rw[h2]at hc;obtain⟨rfl,rfl⟩:cs=c/\(0,0)=f:=by simp at hc;exact⟨hc.1,hc.2⟩
     refine⟨R,Jn,fun i y hy hny=>?_⟩;have Lc:=(Array.getElem?_eq_some_iff.1 hy).1
     by_cases Yk:i<n*2
     ·rw[Kl i (inl Yk)];exact hy
     ·have:=h7 i (by omega) Lc;rw[hy]at this;cases this;exact absurd rfl hny
    ·exact⟨c,(Sx k P9).trans ((aS e0 (aB hc)).trans hc),fun _ _ h _=>h⟩
  ·have holds:∀j y,ys[j]?=some y->w0.cell? ((⟨g,0,none⟩:Addr).add j)=some y:=fun j y hj=>by
    rw[Addr.add_lit,Nat.zero_add];simp[cell?,Ov,h6 j y hj]
   have hr:=run_append_grow (P:=prog) w0 dU dU cW i0 (.agg #[.nilFunc,.nilFunc]) underlying201 hi Og ⟨g,0,none⟩ n cap ys (by rw[Lz];exact hl) holds ⟨w.heap.size,0,none⟩ 1 1 [p,x] (by rw[Lz];rfl) Ks (by omega) (by omega) (growslice_fits (by omega) (by rw[Nj];omega));exact⟨_,_,hr,Mw _ (grownCap_ge w0 (n+1) cap cW) (grownCap_le_maxLen w0 (n+1) cap cW (by unfold maxLen;omega)) _ ⟨rfl,rfl,rfl,rfl⟩⟩
end
end
section
open Go.RowKit
section
variable {ad:List Nat}{A:Env}{tb lb:Nat}{s s':Lk}{w w':World}{nb:Nat}{txt:Nm}
def Tab.has(h:Tab ad tb A w){x:Ky}(hx:cL x):Calls prog 154 #[.map (some tb),.agg #[.int .i64 x.1,.string (bs x.2)]] w fun e w'=>e=.returned (.bool (A.get x).isSome)/\Kn (fun _=>False) w w':=by
 obtain⟨n,f,hm,hf,Qe⟩:=h.six;refine(Dg hm hx (fun v hv=>Qe _ hx v hv)).mono ?_;rintro e w'⟨rfl,hb⟩;refine⟨?_,Kn.AP hb⟩;rcases hf x hx with⟨h1,h2⟩|⟨m,v,h1,h2,_⟩
 ·rw[h1,h2];rfl
 ·rw[h1,h2];rfl
def OK{ps:List Nd}(hx:txt.length<=100000000)(h:bR ad A tb lb s w)(hn:AB w (.mk 3 txt ps) nb) :
  Calls prog 112 #[aA lb,aA nb] w (fG ad A tb lb (s.name (A.get (0,txt)).isNone) w):=by
 obtain⟨pv,bl,n1,_,_⟩:=hn.inv;have Lb:cL (0,txt):=⟨show 0<3 by decide,hx⟩;have c0:w.cell? ⟨nb,0,none⟩=some (.int .i64 (3:Nat)):=by simp[cell?,n1]
 have Pz:(!(A.get (0,txt)).isSome)=(A.get (0,txt)).isNone:=by cases A.get (0,txt)<;>rfl
 have Lh:∀u,Kn (fun _=>False) w u->(u.cell? ⟨lb,0,none⟩=some (.map (some tb))/\u.cell? ⟨nb,1,none⟩=some (.string (bs txt)))/\Calls prog 154 #[.map (some tb),.agg #[.int .i64 (0:Nat),.string (bs txt)]] u fun e u2=>e=.returned (.bool (A.get (0,txt)).isSome)/\(u2.cell? ⟨lb,0,none⟩=some (.map (some tb))/\u2.cell? ⟨nb,1,none⟩=some (.string (bs txt)))/\Calls prog 153 #[aA lb,.bool (!(A.get (0,txt)).isSome)] u2 fun e u3=>e=.returned (.tuple #[])/\(u3.cell? ⟨lb,0,none⟩=some (.map (some tb))/\u3.cell? ⟨nb,1,none⟩=some (.string (bs txt)))/\fG ad A tb lb (s.name (A.get (0,txt)).isNone) w (.returned (.tuple #[])) u3:=fun u hu=>by
  have Jw:∀u',Kn (fun k=>k=tb\/k=lb) w u'->∀s',bR ad A tb lb s' u'->u'.cell? ⟨lb,0,none⟩=some (.map (some tb))/\u'.cell? ⟨nb,1,none⟩=some (.string (bs txt)):=fun u' hk s' hl=>by
   have e1:u'.heap[nb]?=w.heap[nb]?:=hk.block nb (aB n1) (h.not n1 (by decide));exact⟨by simp[cell?,hl.lk],by simp[cell?,e1,n1]⟩
  have hl:=h.stays hu;refine⟨Jw u (hu.wide fun _ _ h=>h.elim) s hl,(hl.tab.has Lb).mono ?_⟩;rintro e u2⟨rfl,Jy⟩;have Mb:=hl.stays Jy;have Nq:Kn (fun k=>k=tb\/k=lb) w u2:=(hu.trans Jy).wide fun _ _ h=>h.elim;refine⟨rfl,Jw u2 Nq s Mb,(eU _ Mb).mono ?_⟩;rintro e u3⟨rfl,q1,q2⟩;rw[Pz]at q1;exact⟨rfl,Jw u3 (Nq.trans q2) _ q1,rfl,q1,Nq.trans q2⟩
 have Kv:∀u o u',Kn (fun _=>False) w u->u'=World.alloc u o->Kn (fun _=>False) w u':=fun u o u' hu e=>by
  subst e;exact hu.alloc o
 have hK:=fun(u:World)=>gL (bs txt) u;have Lt:=aC Lh;have Ni:=aC Kv;have HK:=aC hK;have HV:=aC (AH w);clear Lh Kv hK h hn n1 Pz Lb;generalize fG ad A tb lb (s.name (A.get (0,txt)).isNone) w=Q at *;generalize (A.get (0,txt)).isSome=iS at *;generalize Kn (fun _=>False) w=V at *;generalize bs txt=tx at *;unfold aA at *;obtain⟨⟨c1a,c2a⟩,_⟩:=Lt.out _ HV.out;go_enter func112,ntmps112;go_wp2_with fail
 go_region_held3 (fun w'=>w'.cell? ⟨lb,0,none⟩=some (.map (some tb))/\w'.cell? ⟨nb,1,none⟩=some (.string tx)) (with_reducible exact⟨c1a,c2a⟩)
  (first|(go_at_call 36;refine(HK.out _).mono ?_;rintro e u⟨rfl,hu⟩;have HV:=aC (Ni.out _ _ _ HV.out hu);have hz:=Lt.out _ HV.out;obtain⟨⟨c1a,c2a⟩,hh⟩:=hz;have HH:=aC hh;clear hu hh)|(go_at_call 154;refine(HH.out).mono ?_;rintro e u2⟨rfl,⟨c1a,c2a⟩,hr⟩;have HR:=aC hr;clear hr)|(go_at_call 153;refine(HR.out).mono ?_;rintro e u3⟨rfl,⟨c1a,c2a⟩,hq⟩;have HG:=aC hq;clear hq))
 all_goals
  go_wp2;refine bodyPost_end (v:=.tuple #[]) (by simp[results,results112,go_sem]) rfl HG.out
def vX{x:Nm}{ba:Nat}(hx:x.length<=100000000)(h:bR ad A tb lb s w){u:World}(hu:Kn (fun _=>False) w u)
  (hE:∀u,Kn (fun k=>k=tb\/k=lb) w u->bR ad (((0,x),Mg.zero)::A) tb lb s u->Calls prog 112 #[aA lb,aA ba] u (fG ad (((0,x),Mg.zero)::A) tb lb s' u)) :
  Calls prog 111 #[aA lb,aA ba,.slice (some ⟨u.heap.size,0,none⟩) 1 1] (u.alloc (.cells #[.string (bs x)] aI)).drew (fG ad A tb lb s' w):=by
 have Sf:Kn (fun _=>False) w (u.alloc (.cells #[.string (bs x)] aI)).drew:=(hu.alloc _).drew
 have hr:(u.alloc (.cells #[.string (bs x)] aI)).drew.ownsRow 0 aI 1 (.slice (some ⟨u.heap.size,0,none⟩) 1 1) [x].length ([x].map bM):=
  ⟨rfl,inr ⟨u.heap.size,1,#[.string (bs x)],rfl,zero_le _,(heap_alloc u _).1,le_refl _,by decide,rfl,rfl⟩⟩
 refine(mY (vs:=[x]) hr (fun y hy=>by rw[mem_singleton.1 hy];exact⟨show 0<3 by decide,hx⟩) (h.stays Sf) (s':=s') fun u2 hk hl=>?_).mono fun e w2 ha=>⟨ha.1,ha.2.1,(Sf.wide fun _ _ h=>h.elim).trans ha.2.2⟩;exact hE u2 ((Sf.wide fun _ _ h=>h.elim).trans hk) hl
def bR.pt(h:bR ad A tb lb s w)(hk:Kn (fun k=>k=tb\/k=lb) w w'){k g cap:Nat}{bl:List Nat}(hp:dH nb k txt g cap bl w):dH nb k txt g cap bl w':=by
 obtain⟨cs,h1,h2⟩:=hp.row;refine⟨?_,cs,?_,h2⟩
 ·rw[hk.block nb (aB hp.node) (h.not hp.node (by decide))];exact hp.node
 ·rw[hk.block g (aB h1) (h.not h1 (by decide))];exact h1
def ON{g cap ba:Nat}(hx:txt.length<=100000000)(h:bR ad A tb lb s w)(hp:dH nb 5 txt g cap [ba] w)
  (hE:∀u,Kn (fun k=>k=tb\/k=lb) w u->bR ad (((0,txt),Mg.zero)::A) tb lb s u->Calls prog 112 #[aA lb,aA ba] u (fG ad (((0,txt),Mg.zero)::A) tb lb s' u)) :
  Calls prog 112 #[aA lb,aA nb] w (fG ad A tb lb s' w):=by
 obtain⟨c0,c1,c2,c3⟩:=hp.cells;have c3:=c3 0 ba rfl
 have Jw:∀u,Kn (fun k=>k=tb\/k=lb) w u->u.cell? ⟨nb,1,none⟩=some (.string (bs txt))/\u.cell? ⟨nb,2,none⟩=some (.slice (some ⟨g,0,none⟩) 1 cap)/\u.cell? ⟨g,0,none⟩=some (aA ba):=fun u hu=>by
  obtain⟨_,c1,c2,c3⟩:=(h.pt hu hp).cells;exact⟨c1,c2,c3 0 ba rfl⟩
 have hw:Calls prog 111 #[aA lb,aA ba,.slice (some ⟨w.heap.size,0,none⟩) 1 1] (w.alloc (.cells #[.string (bs txt)] aI)).drew fun e u=>e=.returned (.tuple #[])/\(u.cell? ⟨nb,1,none⟩=some (.string (bs txt))/\u.cell? ⟨nb,2,none⟩=some (.slice (some ⟨g,0,none⟩) 1 cap)/\u.cell? ⟨g,0,none⟩=some (aA ba))/\fG ad A tb lb s' w (.returned (.tuple #[])) u:=(vX hx h (Kn.refl _ w) hE).mono fun e u ha=>by
  obtain⟨rfl,a2,a3⟩:=ha;exact⟨rfl,Jw u a3,rfl,a2,a3⟩
 have Uq:∀o,(World.alloc w o).drew.cell? ⟨nb,1,none⟩=some (.string (bs txt))/\(World.alloc w o).drew.cell? ⟨nb,2,none⟩=some (.slice (some ⟨g,0,none⟩) 1 cap)/\(World.alloc w o).drew.cell? ⟨g,0,none⟩=some (aA ba):=fun o=>Jw _ ((Kn.refl _ w).alloc o).drew;obtain⟨c1a,c2a,c3a⟩:=Jw _ (Kn.refl _ w).drew;have HW:=aC hw;have Oo:=aC Uq;clear hw Jw Uq h hE hp c3;generalize fG ad A tb lb s' w=Q at *;generalize bs txt=tx at *;unfold aA at *;go_enter func112,ntmps112;go_wp2_with fail
 go_region_held3 (fun w'=>w'.cell? ⟨nb,1,none⟩=some (.string tx)/\w'.cell? ⟨nb,2,none⟩=some (.slice (some ⟨g,0,none⟩) 1 cap)/\w'.cell? ⟨g,0,none⟩=some (.pointer (some ⟨ba,0,none⟩)))
  (first|with_reducible exact⟨c1a,c2a,c3a⟩|with_reducible exact Oo.out _)
  (first|(go_at_call 111;refine(HW.out).mono ?_;rintro e u6⟨rfl,⟨c1a,c2a,c3a⟩,hq⟩;have HG:=aC hq;clear hq))
 all_goals
  go_wp2;refine bodyPost_end (v:=.tuple #[]) (by simp[results,results112,go_sem]) rfl HG.out
def OM{g cap ba bb:Nat}{s1:Lk}(hx:txt.length<=100000000)(h:bR ad A tb lb s w)(hp:dH nb 6 txt g cap [ba,bb] w)
  (hA:∀u,Kn (fun k=>k=tb\/k=lb) w u->bR ad A tb lb s u->Calls prog 112 #[aA lb,aA ba] u (fG ad A tb lb s1 u))
  (hE:∀u,Kn (fun k=>k=tb\/k=lb) w u->bR ad (((0,txt),Mg.zero)::A) tb lb s1 u->Calls prog 112 #[aA lb,aA bb] u (fG ad (((0,txt),Mg.zero)::A) tb lb s' u)) :
  Calls prog 112 #[aA lb,aA nb] w (fG ad A tb lb s' w):=by
 obtain⟨c0,c1,c2,c3⟩:=hp.cells;have c4:=c3 1 bb rfl;have c3:=c3 0 ba rfl
 have Jw:∀u,Kn (fun k=>k=tb\/k=lb) w u->u.cell? ⟨nb,1,none⟩=some (.string (bs txt))/\u.cell? ⟨nb,2,none⟩=some (.slice (some ⟨g,0,none⟩) 2 cap)/\u.cell? ⟨g,0,none⟩=some (aA ba)/\u.cell? ⟨g,1,none⟩=some (aA bb):=fun u hu=>by
  obtain⟨_,c1,c2,c3⟩:=(h.pt hu hp).cells;exact⟨c1,c2,c3 0 ba rfl,c3 1 bb rfl⟩
 have Lh:∀u,Kn (fun _=>False) w u->Calls prog 112 #[aA lb,aA ba] u fun e u1=>e=.returned (.tuple #[])/\(∀u2,Kn (fun _=>False) u1 u2->(u2.cell? ⟨nb,1,none⟩=some (.string (bs txt))/\u2.cell? ⟨nb,2,none⟩=some (.slice (some ⟨g,0,none⟩) 2 cap)/\u2.cell? ⟨g,0,none⟩=some (aA ba)/\u2.cell? ⟨g,1,none⟩=some (aA bb)))/\Calls prog 111 #[aA lb,aA bb,.slice (some ⟨u1.heap.size,0,none⟩) 1 1] (u1.alloc (.cells #[.string (bs txt)] aI)).drew fun e u=>e=.returned (.tuple #[])/\(u.cell? ⟨nb,1,none⟩=some (.string (bs txt))/\u.cell? ⟨nb,2,none⟩=some (.slice (some ⟨g,0,none⟩) 2 cap)/\u.cell? ⟨g,0,none⟩=some (aA ba)/\u.cell? ⟨g,1,none⟩=some (aA bb))/\fG ad A tb lb s' w (.returned (.tuple #[])) u:=fun u hu=>by
  have Nq:Kn (fun k=>k=tb\/k=lb) w u:=hu.wide fun _ _ h=>h.elim;refine(hA u Nq (h.stays hu)).mono fun e u1 ha=>?_;obtain⟨rfl,a2,a3⟩:=ha;have Kj:=Nq.trans a3;refine⟨rfl,fun u2 h2=>Jw u2 (Kj.trans (h2.wide fun _ _ h=>h.elim)),?_⟩;refine(vX hx a2 (Kn.refl _ u1) (s':=s') fun u3 h3 l3=>hE u3 (Kj.trans h3) l3).mono fun e u4 ha=>?_;obtain⟨rfl,b2,b3⟩:=ha;exact⟨rfl,Jw u4 (Kj.trans b3),rfl,b2,Kj.trans b3⟩
 obtain⟨c1a,c2a,c3a,c4a⟩:=Jw _ (Kn.refl _ w).drew;have Lt:=aC Lh;have HV:=aC (Kn.refl (fun _=>False) w);have HVD:=aC (AH w);have HD:=aC AH;have Uq:∀(w:World) o,Kn (fun _=>False) w (World.alloc w o).drew:=fun w o=>((Kn.refl _ w).alloc o).drew;have Oo:=aC Uq;clear Lh Jw h hA hE hp;generalize fG ad A tb lb s' w=Q at *;generalize bs txt=tx at *;unfold aA at *;go_enter func112,ntmps112;go_wp2_with fail;refine(Lt.out _ HV.out).mono ?_;rintro e u1⟨rfl,hc,hw⟩;have HW:=aC hw;have HC:=aC hc;have hz:=HC.out _ (HD.out u1);obtain⟨c1a,c2a,c3a,c4a⟩:=hz;clear hc hw Lt;go_wp2_with fail
 go_region_held3 (fun w'=>w'.cell? ⟨nb,1,none⟩=some (.string tx)/\w'.cell? ⟨nb,2,none⟩=some (.slice (some ⟨g,0,none⟩) 2 cap)/\w'.cell? ⟨g,0,none⟩=some (.pointer (some ⟨ba,0,none⟩))/\w'.cell? ⟨g,1,none⟩=some (.pointer (some ⟨bb,0,none⟩)))
  (first|with_reducible exact⟨c1a,c2a,c3a,c4a⟩|with_reducible exact HC.out _ (Oo.out _ _))
  (first|(go_at_call 111;refine(HW.out).mono ?_;rintro e u6⟨rfl,⟨c1a,c2a,c3a,c4a⟩,hq⟩;have HG:=aC hq;clear hq))
 all_goals
  go_wp2;refine bodyPost_end (v:=.tuple #[]) (by simp[results,results112,go_sem]) rfl HG.out
end
end
section
open Go.RowKit
section
variable {ad:List Nat}{A:Env}{tb lb:Nat}{s s':Lk}{w w':World}{nb:Nat}{txt:Nm}
def OL{ps:List Nd}(hn:AB w (.mk 16 txt ps) nb)
  (hR:Calls prog 158 #[aA lb,aA nb] w (fG ad A tb lb s' w)) :
  Calls prog 112 #[aA lb,aA nb] w (fG ad A tb lb s' w):=by
 obtain⟨pv,bl,n1,_,_⟩:=hn.inv;have c0:w.cell? ⟨nb,0,none⟩=some (.int .i64 (16:Nat)):=by simp[cell?,n1]
 have hr:=hR.mono (R':=fun e u=>e=.returned (.tuple #[])/\fG ad A tb lb s' w (.returned (.tuple #[])) u) fun e u ha=>by
  obtain⟨rfl,a2,a3⟩:=ha;exact⟨rfl,rfl,a2,a3⟩
 have HR:=aC hr;clear hr hR hn n1;generalize fG ad A tb lb s' w=Q at *;unfold aA at *;go_enter func112,ntmps112;go_wp2_with fail;refine(HR.out).mono ?_;rintro e u6⟨rfl,hq⟩;have HG:=aC hq;clear hq;go_wp2;refine bodyPost_end (v:=.tuple #[]) (by simp[results,results112,go_sem]) rfl HG.out
def yW{f:Nd->Lk->Lk}{k:Nat}{ps:List Nd}{w0:World}(h0:Kn (fun k=>k=tb\/k=lb) w0 w)(h:bR ad A tb lb s w)(hn:AB w (.mk k txt ps) nb)
  (hE:∀p∈ps,∀(b:Nat)(s:Lk)(u:World),AB u p b->bR ad A tb lb s u->Calls prog 112 #[aA lb,aA b] u (fG ad A tb lb (f p s) u)) :
  ∃(a:Option Addr) (n c:Nat) (LP:Nat->World->Prop),w.cell? ⟨nb,2,none⟩=some (.slice a n c)/\n<=9223372036854775807/\Hid (LP 0 w) /\
   (∀i wr,LP i wr->i<n->∃g b,a=some ⟨g,0,none⟩/\wr.cell? ⟨g,i,none⟩=some (aA b)/\g<wr.heap.size /\
    Calls prog 112 #[aA lb,aA b] wr fun e u=>e=.returned (.tuple #[])/\Hid (LP (i+1) u)) /\
   ∀wr,LP n wr->fG ad A tb lb (ps.foldl (fun s p=>f p s) s) w0 (.returned (.tuple #[])) wr:=by
 obtain⟨pv,bl,n1,n2,n3⟩:=hn.inv;have Jm:=n3.len;have Yh:=bI n2;have n2:=n2
 obtain⟨a,c,rfl,Qk⟩:∃a c,pv=.slice a ps.length c/\(0<ps.length->∃g',a=some ⟨g',0,none⟩):=by
  rcases aD n2 with⟨h,h0⟩|⟨g,cap,h⟩
  ·exact⟨none,0,by rw[h,<- Jm,h0],fun h=>by omega⟩
  ·exact⟨_,cap,by rw[h,Jm],fun _=>⟨g,rfl⟩⟩
 refine⟨a,ps.length,c,fun i wr=>Kn (fun k=>k=tb\/k=lb) w wr/\bR ad A tb lb ((ps.take i).foldl (fun s p=>f p s) s) wr,by simp[cell?,n1],?_,aC ⟨Kn.refl _ _,by simpa using h⟩,?_,?_⟩
 ·rw[<- Jm];exact Yh
 ·rintro i wr⟨hk,hl⟩ hi;have hv:ps[i]?=some ps[i]:=List.getElem?_eq_getElem hi;have Jv:=mem_of_getElem? hv;have Lo:ps.take (i+1)=ps.take i++[ps[i]]:=by rw[List.take_add_one,hv];rfl
  generalize ps[i]=p at hv Jv Lo;obtain⟨b,hb,Mp⟩:=n3.at hv;obtain⟨g,rfl⟩:=Qk (by omega);rw[Jm]at n2;have Jn:wr.ownsRow 0 aH 1 (.slice (some ⟨g,0,none⟩) ps.length c) ps.length (bl.map aA):=aE n2 fun q c f _ hc=>hk.block q (aB hc) (h.not hc (by decide));refine⟨g,b,rfl,?_,(Jn.lt g rfl).2,?_⟩
  ·rw[Jn.cellAt i (by omega),getElem?_map,hb];rfl
  ·refine(hE p Jv b _ wr (h.tree hk Mp) hl).mono fun e u ha=>?_;obtain⟨rfl,a2,a3⟩:=ha;refine⟨rfl,aC ⟨hk.trans a3,?_⟩⟩;rw[Lo,List.foldl_append];exact a2
 ·rintro wr⟨hk,hl⟩;rw[List.take_length]at hl;exact⟨rfl,hl,h0.trans hk⟩
def zH{f:Nd->Lk->Lk}{k:Nat}{ps:List Nd}(Le:k≠3)(R0:k≠5)(hk6:k≠6)(Yj:k≠7)(Qx:k≠14)(hk16:k≠16)(h:bR ad A tb lb s w)(hn:AB w (.mk k txt ps) nb)
  (hE:∀p∈ps,∀(b:Nat)(s:Lk)(u:World),AB u p b->bR ad A tb lb s u->Calls prog 112 #[aA lb,aA b] u (fG ad A tb lb (f p s) u)) :
  Calls prog 112 #[aA lb,aA nb] w (fG ad A tb lb (ps.foldl (fun s p=>f p s) s) w):=by
 obtain⟨a,n,c,LP,c2,Ob,H0,hs,he⟩:=yW (Kn.refl _ w) h hn hE;obtain⟨pv,bl,n1,_,_⟩:=hn.inv;have c0:w.cell? ⟨nb,0,none⟩=some (.int .i64 k):=by simp[cell?,n1]
 have e3:¬(k:Int)=3:=by omega
 have e5:¬(k:Int)=5:=by omega
 have e6:¬(k:Int)=6:=by omega
 have e7:¬(k:Int)=7:=by omega
 have e14:¬(k:Int)=14:=by omega
 have e16:¬(k:Int)=16:=by omega
 have b3:((k:Int)==3)=false:=by simp only[beq_eq_false_iff_ne,ne_eq];exact e3
 have b5:((k:Int)==5)=false:=by simp only[beq_eq_false_iff_ne,ne_eq];exact e5
 have b6:((k:Int)==6)=false:=by simp only[beq_eq_false_iff_ne,ne_eq];exact e6
 have b7:((k:Int)==7)=false:=by simp only[beq_eq_false_iff_ne,ne_eq];exact e7
 have b14:((k:Int)==14)=false:=by simp only[beq_eq_false_iff_ne,ne_eq];exact e14
 have b16:((k:Int)==16)=false:=by simp only[beq_eq_false_iff_ne,ne_eq];exact e16
 have HS:=aC hs;have HE:=aC he;clear hs he h hn hE n1 Le R0 hk6 Yj Qx hk16;generalize fG ad A tb lb (ps.foldl (fun s p=>f p s) s) w=Q at *;unfold aA at *;go_enter func112,ntmps112;go_wp2_with fail
 go_loopg [106] n (fun gk v wr=>∃i,v=.int .i64 (i:Nat)/\i+gk=n/\Hid (LP i wr))
 case atStart=>exact⟨0,rfl,by omega,H0⟩
 case round=>
  obtain⟨i,rfl,hi,HR⟩:=hrel;clear H0
  by_cases Js:i<n
  ·obtain⟨g,b,rfl,Kh,Qo,hc⟩:=HS.out i _ HR.out Js;have Jt:(i:Int)<(n:Int):=by omega
   have HC:=aC hc;clear hc HS HE HR;go_wp2_with fail;refine(HC.out).mono ?_;rintro e w2⟨rfl,Zs⟩;go_wp2_with fail
   go_roundg (n-(i+1))
   case rel=>exact⟨i+1,by simp,by omega,Zs⟩
   case measure=>omega
  ·have Kg:i=n:=by omega
   subst Kg;have Jt:¬(i:Int)<(i:Int):=by omega
   have HG:=aC (HE.out _ HR.out);clear HS HE HR;go_wp2;refine bodyPost_end (v:=.tuple #[]) (by simp[results,results112,go_sem]) rfl HG.out
def OO{f:Nd->Lk->Lk}{ps:List Nd}(hx:txt.length<=100000000)(h:bR ad A tb lb s w)(hn:AB w (.mk 14 txt ps) nb)
  (hE:∀p∈ps,∀(b:Nat)(s:Lk)(u:World),AB u p b->bR ad A tb lb s u->Calls prog 112 #[aA lb,aA b] u (fG ad A tb lb (f p s) u)) :
  Calls prog 112 #[aA lb,aA nb] w (fG ad A tb lb (ps.foldl (fun s p=>f p s) (jT A (.mk 14 txt ps) s)) w):=by
 obtain⟨pv,bl,n1,_,_⟩:=id hn.inv;have c0:w.cell? ⟨nb,0,none⟩=some (.int .i64 (14:Nat)):=by simp[cell?,n1]
 have T5:=(EJ hx h hn).mono (R':=fun e u=>e=.returned (.tuple #[])/\∃(a:Option Addr) (n c:Nat) (LP:Nat->World->Prop),u.cell? ⟨nb,2,none⟩=some (.slice a n c)/\n<=9223372036854775807/\Hid (LP 0 u) /\
   (∀i wr,LP i wr->i<n->∃g b,a=some ⟨g,0,none⟩/\wr.cell? ⟨g,i,none⟩=some (aA b)/\g<wr.heap.size /\
    Calls prog 112 #[aA lb,aA b] wr fun e u=>e=.returned (.tuple #[])/\Hid (LP (i+1) u)) /\
   ∀wr,LP n wr->fG ad A tb lb (ps.foldl (fun s p=>f p s) (jT A (.mk 14 txt ps) s)) w (.returned (.tuple #[])) wr) fun e u ha=>by
  obtain⟨rfl,a2,a3⟩:=ha;exact⟨rfl,yW a3 a2 (h.tree a3 hn) hE⟩
 have HCN:=aC T5;clear T5 h hn hE n1;generalize fG ad A tb lb (ps.foldl (fun s p=>f p s) (jT A (.mk 14 txt ps) s)) w=Q at *;unfold aA at *;go_enter func112,ntmps112;go_wp2_with fail;refine(HCN.out).mono ?_;rintro e u⟨rfl,a,n,c,LP,c2,Ob,H0,hs,he⟩;have HS:=aC hs;have HE:=aC he;clear hs he HCN;go_wp2_with fail
 go_loopg [106] n (fun gk v wr=>∃i,v=.int .i64 (i:Nat)/\i+gk=n/\Hid (LP i wr))
 case atStart=>exact⟨0,rfl,by omega,H0⟩
 case round=>
  obtain⟨i,rfl,hi,HR⟩:=hrel;clear H0
  by_cases Js:i<n
  ·obtain⟨g,b,rfl,Kh,Qo,hc⟩:=HS.out i _ HR.out Js;have Jt:(i:Int)<(n:Int):=by omega
   have HC:=aC hc;clear hc HS HE HR;go_wp2_with fail;refine(HC.out).mono ?_;rintro e w2⟨rfl,Zs⟩;go_wp2_with fail
   go_roundg (n-(i+1))
   case rel=>exact⟨i+1,by simp,by omega,Zs⟩
   case measure=>omega
  ·have Kg:i=n:=by omega
   subst Kg;have Jt:¬(i:Int)<(i:Int):=by omega
   have HG:=aC (HE.out _ HR.out);clear HS HE HR;go_wp2;refine bodyPost_end (v:=.tuple #[]) (by simp[results,results112,go_sem]) rfl HG.out
end
end
section
open Go.RowKit Go.Shelf
section
attribute [local go_sem] Oper.semAt_some
def NQ{F:Fence}(hd:F.depth=none)(k:Nat):F.room k:=fun d h=>by rw[hd]at h;cases h
def yE{F:Fence}(hd:F.depth=none){m:Nat}(m':Nat){P:Program}{l:Nat}{args:Array Value}{W:World}{R:Ending->World->Prop}(h:YieldAt F m P l args W R):YieldAt F m' P l args W R:=by
 obtain⟨fn,tmps,assign,body,hy,hR⟩:=h;exact⟨fn,tmps,assign,body,hy,hR.1,fun c cs _=>hR.2 c cs (NQ hd _)⟩
def fD(W W':World):Prop:=W.heap.size<=W'.heap.size/\∀(k:Nat)(c:Array Value)(t:TypeId)(f:Nat×Nat),t=cS\/t=aH->W.heap[k]?=some (.cells c t f)->W'.heap[k]?=W.heap[k]?
def fD.refl(W:World):fD W W:=⟨le_refl _,fun _ _ _ _ _ _=>rfl⟩
def fD.trans{a b c:World}(h:fD a b)(k:fD b c):fD a c:=⟨le_trans h.1 k.1,fun i x t f ht hi=>by
 have e:=h.2 i x t f ht hi
 rw[k.2 i x t f ht (e.trans hi),e]⟩
def fD.tree{W W':World}(h:fD W W'){nd:Nd}{b:Nat}(hn:AB W nd b):AB W' nd b:=
 AB.kept (fun k c f hc=>h.2 k c _ f (inl rfl) hc) (fun k c f hc=>h.2 k c _ f (inr rfl) hc) nd b hn
def fD.putObj{W:World}{l:Nat}{o:Obj}(o':Obj)(hl:W.heap[l]?=some o)(hc:o.isCells=false):fD W (W.putObj l o'):=by
 refine⟨by simp,fun k c t f _ hk=>World.putObj_heap_other fun e=>?_⟩;subst e;rw[hk]at hl;obtain rfl:=Option.some.inj hl;simp[Obj.isCells]at hc
def fD.DU{D:Nat->Prop}{W W':World}(h:Kn D W W')(hD:∀(k:Nat)(c:Array Value)(t:TypeId)(f:Nat×Nat),t=cS\/t=aH->W.heap[k]?=some (.cells c t f)->¬D k):fD W W':=
 ⟨h.size,fun k c t f ht hk=>h.block k (aB hk) (hD k c t f ht hk)⟩
abbrev Jl(x:Nd):Prop:=x.txt.length<=100000000
abbrev eN(w0:World)(Px:Nd->Prop:=Jl):={ x:Nd×Nat // AB w0 x.1 x.2/\Px x.1 }
def ED{w0:World}{Px:Nd->Prop}(x:eN w0 Px):Array Value:=#[aA x.1.2]
def qK(a b:List Nd):Nd.all.alls (a++b)=Nd.all.alls a++Nd.all.alls b:=by
 induction a with
 |nil=>simp[Nd.all.alls]
 |cons p r ih=>rw[cons_append,Nd.all.alls,Nd.all.alls,ih,append_assoc]
def vR(a:List Nd)(p:Nd):Nd.all.alls (a++[p])=Nd.all.alls a++p.all:=by
 rw[qK,Nd.all.alls,Nd.all.alls,append_nil]
def MT{Px:Nd->Prop}{F:Fence}{l N:Nat}{w0:World}{J Jx:List (eN w0 Px)->World->Prop}{k:Nat}{txt:Nm}{ps:List Nd}{b:Nat}(hm:AB w0 (.mk k txt ps) b)
  (ih:∀(p:Nd)(bp:Nat),p∈ps->AB w0 p bp->∀(n:Nat) (pre:List (eN w0 Px)) (W:World),fD w0 W->J pre W->pre.length+p.all.length<=N ->
   CallsIn F n prog 20 #[aA bp,.func (.yield l) #[] #[]] W fun e W'=>∃q:List (eN w0 Px),(e=.returned (.bool true)/\q.map (·.1.1)=p.all/\J (pre++q) W'/\fD W W')\/(e=.returned (.bool false)/\Jx (pre++q) W'))
  {pre:List (eN w0 Px)}{Wb:World} (U4:fD w0 Wb) (hN:pre.length+(Nd.all.alls ps).length<=N) :
  ∃(a:Option Addr) (n c:Nat) (LP:Nat->World->Prop),n<=9223372036854775807/\(∀W,fD Wb W->J pre W->W.cell? ⟨b,2,none⟩=some (.slice a n c)/\Hid (LP 0 W)) /\
   (∀i wr m,LP i wr->i<n->∃g bp,a=some ⟨g,0,none⟩/\wr.cell? ⟨g,i,none⟩=some (aA bp)/\g<wr.heap.size /\
    CallsIn F m prog 20 #[aA bp,.func (.yield l) #[] #[]] wr fun e u=>(e=.returned (.bool true)/\Hid (LP (i+1) u))\/(e=.returned (.bool false)/\∃q:List (eN w0 Px),Jx (pre++q) u)) /\
   ∀wr,LP n wr->fD Wb wr/\∃q:List (eN w0 Px),q.map (·.1.1)=Nd.all.alls ps/\J (pre++q) wr:=by
 obtain⟨pv,bl,n1,n2,n3⟩:=hm.inv;have Jm:=n3.len;have Yh:=bI n2
 obtain⟨a,c,rfl,Qk⟩:∃a c,pv=.slice a ps.length c/\(0<ps.length->∃g',a=some ⟨g',0,none⟩):=by
  rcases aD n2 with⟨h,h0⟩|⟨g,cap,h⟩
  ·exact⟨none,0,by rw[h,<- Jm,h0],fun h=>by omega⟩
  ·exact⟨_,cap,by rw[h,Jm],fun _=>⟨g,rfl⟩⟩
 rw[Jm]at n2;refine⟨a,ps.length,c,fun i wr=>fD Wb wr/\∃q:List (eN w0 Px),q.map (·.1.1)=Nd.all.alls (ps.take i)/\J (pre++q) wr,by omega,fun W hW hJ=>⟨?_,aC ⟨hW,[],by simp[Nd.all.alls],by simpa using hJ⟩⟩,?_,?_⟩
 ·simp[cell?,(U4.trans hW).2 b _ _ _ (inl rfl) n1,n1]
 ·rintro i wr m⟨hk,q,hq,hJ⟩ hi;have hv:ps[i]?=some ps[i]:=List.getElem?_eq_getElem hi;have Jv:=mem_of_getElem? hv;have Lo:ps.take (i+1)=ps.take i++[ps[i]]:=by rw[List.take_add_one,hv];rfl
  generalize ps[i]=p at hv Jv Lo;obtain⟨bp,hb,Mp⟩:=n3.at hv;obtain⟨g,rfl⟩:=Qk (by omega);have Jn:wr.ownsRow 0 aH 1 (.slice (some ⟨g,0,none⟩) ps.length c) ps.length (bl.map aA):=aE n2 fun q c f _ hc=>(U4.trans hk).2 q c _ f (inr rfl) hc
  have hle:q.length+p.all.length<=(Nd.all.alls ps).length:=by
   have h1:q.length=(Nd.all.alls (ps.take i)).length:=by rw[<- hq,length_map]
   have h2:Nd.all.alls ps=Nd.all.alls (ps.take (i+1))++Nd.all.alls (ps.drop (i+1)):=by rw[<- qK,List.take_append_drop]
   rw[h1,h2,Lo,vR];simp
  refine⟨g,bp,rfl,?_,(Jn.lt g rfl).2,?_⟩
  ·rw[Jn.cellAt i (by omega),getElem?_map,hb];rfl
  ·refine(ih p bp Jv Mp m (pre++q) wr (U4.trans hk) hJ (by rw[length_append];omega)).mono ?_;rintro e u⟨q2,⟨rfl,h2,hj,Jy⟩|⟨rfl,hx⟩⟩
   ·refine inl ⟨rfl,aC ⟨hk.trans Jy,q++q2,?_,by rw[<- append_assoc];exact hj⟩⟩;rw[map_append,hq,h2,Lo,vR]
   ·exact inr ⟨rfl,q++q2,by rw[<- append_assoc];exact hx⟩
 ·rintro wr⟨hk,q,hq,hJ⟩;rw[List.take_length]at hq;exact⟨hk,q,hq,hJ⟩
def XX{Px:Nd->Prop}(F:Fence)(hd:F.depth=none)(hf:F.fn 20)(Oj:F.round=none)(l N:Nat)(w0:World)(J Jx:List (eN w0 Px)->World->Prop)
  (hY:∀m pre x W,J pre W->pre.length<N->YieldAt F m prog l (ED x) W fun e W'=>
   (e=.returned (.bool true)/\J (pre++[x]) W'/\fD W W')\/(e=.returned (.bool false)/\Jx (pre++[x]) W')) :
  ∀(h:Nat)(nd:Nd)(b:Nat),nd.ht<h->AB w0 nd b->(∀x∈nd.all,Px x)->∀(n:Nat) (pre:List (eN w0 Px)) (W:World),fD w0 W->J pre W->pre.length+nd.all.length<=N ->
   CallsIn F n prog 20 #[aA b,.func (.yield l) #[] #[]] W fun e W'=>∃q:List (eN w0 Px),(e=.returned (.bool true)/\q.map (·.1.1)=nd.all/\J (pre++q) W'/\fD W W')\/(e=.returned (.bool false)/\Jx (pre++q) W'):=by
 intro h
 induction h with
 |zero=>intro nd b h;omega
 |succ h ihh=>
  intro nd b hh hm hx n pre W hW hJ hN;have b9:∀k:Nat,(F.depth.isSome=true->1<=k):=fun k h=>by rw[hd]at h;cases h
  obtain⟨k,txt,ps⟩:=nd;rw[Nd.all_eq,length_cons]at hN;have Ly:AB w0 (.mk k txt ps) b/\Px (.mk k txt ps):=⟨hm,hx _ (by rw[Nd.all_eq];exact mem_cons_self)⟩
  obtain⟨a,pn,c,LP,Ob,Po,hs,he⟩:=MT (F:=F) (l:=l) (N:=N) (J:=J) (Jx:=Jx) (pre:=pre++[⟨(.mk k txt ps,b),Ly⟩]) hm
   (fun p bp hp Rt n pre W hW hJ hN=>ihh p bp (Nd.BG hp hh) Rt (fun x m5=>hx x (by rw[Nd.all_eq];exact mem_cons_of_mem _ (kM hp x m5))) n pre W hW hJ hN) hW (by rw[length_append];simp;omega)
  have hy:=YieldAt.mono (hY (n-1) pre ⟨(.mk k txt ps,b),Ly⟩ W hJ (by omega)) (R':=fun e W'=>(e=.returned (.bool true)/\W'.cell? ⟨b,2,none⟩=some (.slice a pn c)/\Hid (LP 0 W'))\/(e=.returned (.bool false)/\Hid (Jx (pre++[⟨(.mk k txt ps,b),Ly⟩]) W'))) (by
    rintro e W' (⟨rfl,hj,hk⟩|⟨rfl,hx⟩)
    ·obtain⟨c2,h0⟩:=Po W' hk hj;exact inl ⟨rfl,c2,h0⟩
    ·exact inr ⟨rfl,aC hx⟩)
  have Jp:∀wr,LP pn wr->∃q:List (eN w0 Px),(returned (.bool true)=.returned (.bool true)/\q.map (·.1.1)=(Nd.mk k txt ps).all/\J (pre++q) wr/\fD W wr)\/(returned (.bool true)=.returned (.bool false)/\Jx (pre++q) wr):=fun wr Wl=>by
   obtain⟨hk,q,hq,hj⟩:=he wr Wl;exact⟨⟨(.mk k txt ps,b),Ly⟩::q,inl ⟨rfl,by rw[map_cons,hq,Nd.all_eq],by simpa using hj,hk⟩⟩
  have Xv:∀(q:List (eN w0 Px)) wr,Jx (pre++[⟨(.mk k txt ps,b),Ly⟩]++q) wr->∃q:List (eN w0 Px),(returned (.bool false)=.returned (.bool true)/\q.map (·.1.1)=(Nd.mk k txt ps).all/\J (pre++q) wr/\fD W wr)\/(returned (.bool false)=.returned (.bool false)/\Jx (pre++q) wr):=fun q wr hx=>
   ⟨⟨(.mk k txt ps,b),Ly⟩::q,inr ⟨rfl,by simpa using hx⟩⟩
  have C5:∀wr,Jx (pre++[⟨(.mk k txt ps,b),Ly⟩]) wr->∃q:List (eN w0 Px),(returned (.bool false)=.returned (.bool true)/\q.map (·.1.1)=(Nd.mk k txt ps).all/\J (pre++q) wr/\fD W wr)\/(returned (.bool false)=.returned (.bool false)/\Jx (pre++q) wr):=fun wr hx=>
   Xv [] wr (by simpa using hx)
  obtain⟨fn,tmps,assign,body,hyr,hR⟩:=hy;have HR:=aC hR;have HS:=aC hs;have D1:=aC Jp;have HB1:=aC Xv;have Y1:=aC C5;clear hR hs he Jp Xv C5 ihh hY Po hJ hN hh hW hx;generalize hQ:(fun(e:Ending) (W':World)=>∃q:List (eN w0 Px),(e=.returned (.bool true)/\q.map (·.1.1)=(Nd.mk k txt ps).all/\J (pre++q) W'/\fD W W')\/(e=.returned (.bool false)/\Jx (pre++q) W'))=Q;have HE:Hid (∀wr,LP pn wr->Q (.returned (.bool true)) wr):=aC fun wr h=>by rw[<- hQ];exact D1.out wr h
  have HB:Hid (∀(q:List (eN w0 Px)) wr,Jx (pre++[⟨(.mk k txt ps,b),Ly⟩]++q) wr->Q (.returned (.bool false)) wr):=aC fun q wr h=>by rw[<- hQ];exact HB1.out q wr h
  have HB0:Hid (∀wr,Jx (pre++[⟨(.mk k txt ps,b),Ly⟩]) wr->Q (.returned (.bool false)) wr):=aC fun wr h=>by rw[<- hQ];exact Y1.out wr h
  clear hQ D1 HB1 Y1;refine callsIn_of_wp func20 rfl hf ?_ Oj;simp only[ntmps20,size_toArray,length_cons,length_nil,Nat.reduceAdd,Nat.reduceSub,replicate_succ,replicate_zero,push_toArray,append_toArray,nil_append,cons_append];unfold ED aA at *
  gi_wp2_with ((try refine⟨b9 _,?_⟩);refine HR.out.mono ?_;clear HR;rintro e W2 (⟨rfl,c2,H0⟩|⟨rfl,HX⟩))
  ·gi_loopw [16] (fun i wr=>∃j:Nat,j<=pn/\i=.int .i64 (j:Nat)/\Hid (LP j wr)) (fun i _=>(pn-intOf i).toNat)
   case atStart=>exact⟨0,zero_le _,rfl,H0⟩
   case round=>
    obtain⟨i,hi,rfl,HL⟩:=hrel;clear H0 c2
    by_cases Js:i<pn
    ·obtain⟨g,bp,rfl,Kh,Qo,hc⟩:=HS.out i _ (n-1) HL.out Js;have HC:=aC hc;have Jt:(i:Int)<(pn:Int):=by omega
     clear hc HL
     gi_wp2_with ((try refine⟨b9 _,?_⟩);gi_at_call 20;refine HC.out.mono ?_;clear HC;rintro e W3 (⟨rfl,HN⟩|⟨rfl,q,hx⟩))
     ·go_roundw
      case rel=>exact⟨i+1,by omega,by simp,HN⟩
      case measure=>simp[intOf];omega
     ·exact HB.out _ _ hx
    ·obtain rfl:i=pn:=by omega
     have Jt:¬(i:Int)<(i:Int):=by omega
     have HG:=aC (HE.out _ HL.out);clear HL HE HS
     gi_wp2
     exact HG.out
  ·exact HB0.out _ HX.out
def Cx{Px:Nd->Prop}(F:Fence)(hd:F.depth=none)(n:Nat)(Wc:F.fn 19)(hf:F.fn 20)(Oj:F.round=none)(l Bt:Nat)(nd:Nd)(b:Nat)(w0:World)(hm:AB w0 nd b)(hx:∀x∈nd.all,Px x)(J Jx:List (eN w0 Px)->World->Prop)
  (hY:∀pre x W,J pre W->pre.length<nd.all.length->YieldAt F (n-1) prog l (ED x) W fun e W'=>
   (e=.returned (.bool true)/\J (pre++[x]) W'/\fD W W')\/(e=.returned (.bool false)/\Jx (pre++[x]) W'))
  (W:World) (hW:fD w0 W) (hBt:W.cell? ⟨Bt,0,none⟩=some (aA b)) (h0:J [] W) :
  CallsIn F n prog 19 #[.func (.yield l) #[] #[],.pointer (some ⟨Bt,0,none⟩)] W fun e W'=>(∃v,e=.returned v) /\
   ((∃ys:List (eN w0 Px),ys.map (·.1.1)=nd.all/\J ys W')\/(∃pre:List (eN w0 Px),True/\Jx pre W')):=by
 have b9:∀k:Nat,(F.depth.isSome=true->1<=k):=fun k h=>by rw[hd]at h;cases h
 have hp:=XX F hd hf Oj l nd.all.length w0 J Jx (fun m pre x W hj hl=>yE hd m (hY pre x W hj hl)) (nd.ht+1) nd b (lt_succ_self _) hm hx (n-1) [] W hW h0 (by simp);have HP:=aC hp;clear hp;unfold aA at *;refine callsIn_of_wp func19 rfl Wc ?_ Oj;simp only[ntmps19,size_toArray,length_cons,length_nil,Nat.reduceAdd,Nat.reduceSub,replicate_succ,replicate_zero,push_toArray,append_toArray,nil_append,cons_append]
 gi_wp2_with ((try refine⟨b9 _,?_⟩);gi_at_call 20;refine HP.out.mono ?_;clear HP;rintro e W1⟨q,⟨rfl,hq,hJ1,_⟩|⟨rfl,Pl⟩⟩)
 ·go_end0;exact⟨⟨_,rfl⟩,.inl ⟨q,hq,by simpa using hJ1⟩⟩
 ·go_end0;exact⟨⟨_,rfl⟩,.inr ⟨q,trivial,by simpa using Pl⟩⟩
def xI(F:Fence)(n:Nat)(hf:F.fn 10)(Oj:F.round=none)(b:Nat)(w:World) :
  CallsIn F n prog 10 #[aA b] w fun e w'=>e=.returned (.func (.func 19) #[] #[.pointer (some ⟨w.heap.size,0,none⟩)])/\w'=w.alloc (.cells #[aA b] aH):=by
 unfold aA;refine callsIn_of_wp func10 rfl hf ?_ Oj;simp only[ntmps10,size_toArray,length_cons,length_nil,Nat.reduceAdd,Nat.reduceSub,replicate_succ,replicate_zero,push_toArray,append_toArray,nil_append,cons_append]
 gi_wp2
 go_ret;exact⟨rfl,rfl⟩
def fD.AP{w W:World}(h:Below w.heap.size w W):fD w W:=⟨h.size,fun k _ _ _ _ hk=>h.block k (aB hk)⟩
def mP{Px:Nd->Prop}(F:Fence)(hd:F.depth=none)(n:Nat)(Wc:F.fn 19)(hf:F.fn 20)(Oj:F.round=none)(Bt:Nat)(nd:Nd)(b:Nat)(w0:World)(hm:AB w0 nd b)(hx:∀x∈nd.all,Px x)(hc:w0.heap[Bt]?=some (.cells #[aA b] aH (0,0))) :
  SeqStopsK F n prog 19 #[.pointer (some ⟨Bt,0,none⟩)] (ED (w0:=w0) (Px:=Px)) fD (fun ys=>ys.map (·.1.1)=nd.all) (fun _=>True) nd.all.length w0:=fun l J Jx W hW _ _ hY h0=>
 Cx F hd n Wc hf Oj l Bt nd b w0 hm hx J Jx hY W (fD.AP hW) (by simp[cell?,hW.block Bt (aB hc),hc]) h0
end
end
section
open Go.RowKit Go.Shelf
section
attribute [local go_sem] Oper.semAt_some
variable {ad:List Nat}{A:Env}{tb lb:Nat}{s s':Lk}{w w':World}{nb:Nat}{txt:Nm}
def bR.grown(h:bR ad A tb lb s w){row:Option Nat}(hg:w.grownBy w' row)(hr:∀r,row=some r->tb≠r/\∃o:Obj,w.heap[r]?=some o/\o.isCells=false):bR ad A tb lb s w':=by
 have hc:∀(k:Nat)(c:Array Value)(t:TypeId)(f:Nat×Nat),w.heap[k]?=some (.cells c t f)->w'.heap[k]?=w.heap[k]?:=fun k c t f hk=>by
  refine hg.block k (aB hk) fun e=>?_;obtain⟨_,o,ho,hn⟩:=hr k e.symm;rw[hk]at ho;cases ho;cases hn
 refine⟨?_,(hc _ _ _ _ h.lk).trans h.lk⟩;obtain⟨n,f,h1,_⟩:=id h.tab;have:=h.tab.kept (l:=[]) (w':=w') (hg.block tb h1.lt fun e=>(hr tb e.symm).1 rfl) (fun k c f hk=>hc k c _ f hk) (fun k c f hk=>hc k c _ f hk) (fun k c f hk=>hc k c _ f hk);rw[append_nil]at this;exact this
def wW{ls:List Nm}{a:Option Addr}{n c:Nat}(hr:w.ownsRow 0 aI 1 (.slice a n c) ls.length (ls.map bM))(x:Nm) :
  Calls prog 204 #[.slice a n c,.string (bs x)] w fun e w'=>e=.returned (.bool (ls.contains x))/\w'=w:=by
 have Yh:=bI hr;rcases aD hr with⟨h,h0⟩|⟨g,cap,h⟩
 ·cases h;have hl:ls=[]:=List.length_eq_zero_iff.1 h0;subst hl;exact Tryz.slices_Contains_string_empty none 0 (bs x) w
 ·cases h
  have hc:=Tryz.slices_Contains_string g 0 ls.length c (ls.map bs) (bs x) w (by simp) Yh (fun j hj=>by
   have R9:j<ls.length:=by simpa using hj
   rw[Nat.zero_add,hr.cellAt j (by omega),getElem?_map,List.getElem?_eq_getElem R9]
   simp[bM,List.getD,R9])
  have e:Lib.containsS ((ls.map bs).take ls.length) (bs x)=ls.contains x:=by
   rw[List.take_of_length_le (by simp)];rw[Bool.eq_iff_iff,Lib.containsS_iff,List.contains_iff_mem];constructor
   ·intro hm;obtain⟨y,hy,Nz⟩:=List.mem_map.1 hm;rw[<- Cn Nz];exact hy
   ·exact fun hm=>List.mem_map.2 ⟨x,hm,rfl⟩
  rw[e]at hc;exact hc
abbrev fQ:TypeId:=187
abbrev cM:TypeId:=22
structure oQ(ad:List Nat)(A:Env)(tb lb:Nat)(s:Lk)(ls:List Nm)(w wl:World){w0:World}(pre:List (eN w0))(W:World):Prop where
 lk:bR ad A tb lb (FJ A ls (pre.map (·.1.1)) s) W
 kn:Kn (fun k=>k=tb\/k=lb) wl W
def oQ.own{ls:List Nm}{wl w0:World}{B:Nat}(ht:tb<B)(hB:wl.heap.size<=B):OwnFrom B (oQ ad A tb lb s ls w wl (w0:=w0)):=by
 rintro pre W W' row h hg hr;refine⟨h.lk.grown hg fun r e=>⟨by have:=(hr r e).1;omega,(hr r e).2⟩,?_⟩;refine h.kn.grown hg fun k e=>inr ?_;have:=(hr k e).1;omega
def zN{W W':World}{B:Nat}(h:Kn (fun k=>k=tb\/k=lb) W W')(h1:tb<B)(h2:lb<B):KeepsFrom B W W':=⟨h.size,fun k o hB hk _=>by
 rw[h.block k (Array.getElem?_eq_some_iff.1 hk).1 (by rintro (e|e)<;>omega)];exact hk⟩
def sE(ls:List Nm)(l:List Nd)(x:Nd)(s:Lk):FJ A ls (l++[x]) s=(if x.k=21 then(FJ A ls l s).name (!ls.contains x.txt)else if x.k=22 then dS A (2,x.txt) Mg.AE x.ps.length (FJ A ls l s)else FJ A ls l s):=by
 unfold FJ;rw[List.foldl_append];rfl
def RH{ls:List Nm}{a:Option Addr}{n c:Nat}{wl W:World}{pre:List (eN wl)}(x:eN wl)(hr:wl.ownsRow 0 aI 1 (.slice a n c) ls.length (ls.map bM))(Rf:bR ad A tb lb s wl)
  {B0:Nat} (b0:wl.heap[B0]?=some (.cells #[aA lb] fQ (0,0))) (b1:wl.heap[B0+1]?=some (.cells #[.slice a n c] cM (0,0)))
  (hI:oQ ad A tb lb s ls w wl pre W) :
  (∀u,Kn (fun _=>False) W u->(u.cell? ⟨B0,0,none⟩=some (aA lb)/\u.cell? ⟨B0+1,0,none⟩=some (.slice a n c)/\u.cell? ⟨x.1.2,0,none⟩=some (.int .i64 x.1.1.k)/\u.cell? ⟨x.1.2,1,none⟩=some (.string (bs x.1.1.txt)))) /\
  (x.1.1.k=21->∀u,Kn (fun _=>False) W u->Calls prog 204 #[.slice a n c,.string (bs x.1.1.txt)] u fun e u'=>∃b,e=.returned (.bool b)/\u'=u /\
   Calls prog 153 #[aA lb,.bool (!b)] u fun e u'=>e=.returned (.tuple #[])/\KeepsFrom wl.heap.size W u'/\fD W u'/\oQ ad A tb lb s ls w wl (pre++[x]) u') /\
  (x.1.1.k=22->∀u,Kn (fun _=>False) W u->Calls prog 205 #[aA lb,aA x.1.2,.agg #[.int .i64 (2:Nat),.string (bs x.1.1.txt)],.func (.func 206) #[] #[]] u fun e u'=>e=.returned (.tuple #[])/\KeepsFrom wl.heap.size W u'/\fD W u'/\oQ ad A tb lb s ls w wl (pre++[x]) u') /\
  (x.1.1.k≠21->x.1.1.k≠22->KeepsFrom wl.heap.size W W/\fD W W/\oQ ad A tb lb s ls w wl (pre++[x]) W):=by
 have hm:=x.2.1;have Ru:x.1.1=.mk x.1.1.k x.1.1.txt x.1.1.ps:=by cases x.1.1;rfl
 have hx:=x.2.2;obtain⟨Mq,Mj⟩:=hI
 have E7:AB W (.mk x.1.1.k x.1.1.txt x.1.1.ps) x.1.2:=by
  have:=Rf.tree Mj hm;rw[Ru]at this;exact this
 obtain⟨pv,bl,n1,_,_⟩:=E7.inv;have Tf:lb<wl.heap.size:=aB Rf.lk;obtain⟨_,_,Rt,_⟩:=id Rf.tab;have Vo:tb<wl.heap.size:=Rt.lt;have d0:W.heap[B0]?=some (.cells #[aA lb] fQ (0,0)):=(Mj.block _ (aB b0) (Rf.not b0 (by decide))).trans b0;have d1:W.heap[B0+1]?=some (.cells #[.slice a n c] cM (0,0)):=(Mj.block _ (aB b1) (Rf.not b1 (by decide))).trans b1;have Jn:W.ownsRow 0 aI 1 (.slice a n c) ls.length (ls.map bM):=aE hr fun q c f _ hc=>Mj.block q (aB hc) (Rf.not hc (by decide))
 have Jp:∀u' s2,Kn (fun k=>k=tb\/k=lb) W u'->bR ad A tb lb s2 u'->s2=FJ A ls ((pre++[x]).map (·.1.1)) s->KeepsFrom wl.heap.size W u'/\fD W u'/\oQ ad A tb lb s ls w wl (pre++[x]) u':=fun u' s2 hk hl hs=>by
  subst hs;exact⟨zN hk Vo Tf,fD.DU hk fun q c t f ht hc=>Mq.not hc (by rcases ht with rfl|rfl<;>decide),hl,Mj.trans hk⟩
 refine⟨fun u hu=>⟨hu.cell id (by simp[cell?,d0]),hu.cell id (by simp[cell?,d1]),hu.cell id (by simp[cell?,n1]),hu.cell id (by simp[cell?,n1])⟩,?_,?_,?_⟩
 ·intro hk u hu;refine(wW (aE Jn fun q c f _ hc=>hu.block q (aB hc) id) x.1.1.txt).mono ?_;rintro e u'⟨rfl,rfl⟩;refine⟨_,rfl,rfl,(eU _ (Mq.stays hu)).mono ?_⟩;rintro e u2⟨rfl,q1,q2⟩;refine⟨rfl,Jp u2 _ ((hu.wide fun _ _ h=>h.elim).trans q2) q1 ?_⟩;rw[map_append,map_cons,map_nil,sE,if_pos hk]
 ·intro hk u hu;have O6:AB u (.mk x.1.1.k x.1.1.txt x.1.1.ps) x.1.2:=AB.kept (fun k c f hc=>hu.block k (aB hc) id) (fun k c f hc=>hu.block k (aB hc) id) _ x.1.2 E7;refine(zI hx (Mq.stays hu) O6).mono ?_;rintro e u2⟨rfl,q1,q2⟩;refine⟨rfl,Jp u2 _ ((hu.wide fun _ _ h=>h.elim).trans q2) q1 ?_⟩;rw[map_append,map_cons,map_nil,sE,if_neg (by omega),if_pos hk]
 ·intro h1 h2;refine Jp W _ (Kn.refl _ _) Mq ?_;rw[map_append,map_cons,map_nil,sE,if_neg h1,if_neg h2]
def qN{nd:Nd}{ls:List Nm}{a:Option Addr}{n c:Nat}(hr:w.ownsRow 0 aI 1 (.slice a n c) ls.length (ls.map bM))(hx:∀x∈nd.all,x.txt.length<=100000000)(h:bR ad A tb lb s w)(hn:AB w nd nb) :
  Calls prog 157 #[aA lb,aA nb,.slice a n c] w (fG ad A tb lb (FJ A ls nd.all s) w):=by
 obtain⟨wl,Nx⟩:∃wl,wl=((w.alloc (.cells #[aA lb] fQ)).alloc (.cells #[.slice a n c] cM)).alloc (.cells #[aA nb] aH):=⟨_,rfl⟩;have Lv:Kn (fun _=>False) w wl:=by rw[Nx];exact(((Kn.refl _ w).alloc _).alloc _).alloc _
 have Ke:wl.heap.size=w.heap.size+3:=by rw[Nx];simp
 have Tf:lb<w.heap.size:=aB h.lk;obtain⟨_,_,Rt,_⟩:=id h.tab;have Vo:tb<w.heap.size:=Rt.lt
 have b0:wl.heap[w.heap.size]?=some (.cells #[aA lb] fQ (0,0)):=by
  rw[Nx,Below.heap_alloc _ _ _ (by simp;omega),Below.heap_alloc _ _ _ (by simp)];exact(heap_alloc w _).1
 have b1:wl.heap[w.heap.size+1]?=some (.cells #[.slice a n c] cM (0,0)):=by
  rw[Nx,Below.heap_alloc _ _ _ (by simp)];have:=(heap_alloc (w.alloc (.cells #[aA lb] fQ)) (.cells #[.slice a n c] cM)).1
  simpa using this
 have b2:wl.heap[w.heap.size+2]?=some (.cells #[aA nb] aH (0,0)):=by
  rw[Nx];have:=(heap_alloc ((w.alloc (.cells #[aA lb] fQ)).alloc (.cells #[.slice a n c] cM)) (.cells #[aA nb] aH)).1
  simpa using this
 have Rf:=h.stays Lv;have Ol:AB wl nd nb:=AB.kept (fun k c f hc=>Lv.block k (aB hc) id) (fun k c f hc=>Lv.block k (aB hc) id) _ nb hn;have Jz:=mP Fence.wide rfl (5-1) trivial trivial rfl (w.heap.size+2) nd nb wl Ol hx b2;have Ss:oQ ad A tb lb s ls w wl (w0:=wl) [] wl:=⟨by simpa [FJ]using Rf,Kn.refl _ _⟩;have Jr:OwnFrom wl.heap.size (oQ ad A tb lb s ls w wl (w0:=wl)):=oQ.own (by omega) (le_refl _);have Km:=aC Jz;have Wi:=aC Ss;have Mk:=aC Jr;refine(callsIn_wide (n:=5)).1 ?_;refine callsIn_of_wp_marks func157 rfl trivial ?_ rfl;simp only[ntmps157,size_toArray,length_cons,length_nil,Nat.reduceAdd,Nat.reduceSub,replicate_succ,replicate_zero,push_toArray,append_toArray,nil_append,cons_append];unfold aA at *
 gi_wp2_with (refine⟨trivial,?_⟩;gi_at_call 10;refine(xI Fence.wide _ trivial rfl _ _).mono ?_;rintro e w'⟨rfl,rfl⟩)
 unfold aA;rw[<- Nx];have E0:wl.ownsRow 0 aI 1 (.slice a n c) ls.length (ls.map bM):=aE hr fun q c f _ hc=>Lv.block q (aB hc) id;have Us:=aC (fun(pre:List (eN wl)) (x:eN wl) (W:World) (hI:oQ ad A tb lb s ls w wl pre W)=>RH (w:=w) x E0 Rf b0 b1 hI)
 have Mu:∀D (W:World) (xs:List (eN wl)),xs.map (·.1.1)=nd.all->oQ ad A tb lb s ls w wl xs W->wl.heap.size<=D->W.heap[D]?=some (.deferred (some []))->fG ad A tb lb (FJ A ls nd.all s) w (.returned (.tuple #[])) (W.putObj D (.deferred none)):=fun D W xs Uv hI hD hK=>by
  obtain⟨h1,h2⟩:=hI;rw[Uv]at h1;refine⟨rfl,h1.grown (grownBy_putObj' W D _) fun r e=>?_,((Lv.wide fun _ _ h=>h.elim).trans h2).grown (grownBy_putObj' W D _) fun k e=>inr ?_⟩
  ·cases e;exact⟨by omega,_,hK,rfl⟩
  ·cases e;omega
 have Lx:=aC Mu;clear E0 Mu hr hx h hn Lv Rt Rf Ol Jz Ss Jr b0 b1 b2 Nx;have Ol:∀(W:World)(l:Nat)(o o':Obj),wl.heap.size<=l->W.heap[l]?=some o->o.isCells=false->o.isWalk=false->fD W (W.putObj l o'):=fun W l o o' _ hl hc _=>fD.putObj o' hl hc;generalize fG ad A tb lb (FJ A ls nd.all s) w=Q at *
 refine wpIn_rangeFunc_ownG rfl (by omega) (gf:=19) (lb:=#[.pointer (some ⟨w.heap.size+2,0,none⟩)]) ?hg trivial (enters_of func19 (by kernel_rfl) rfl)
  Km.out fD.trans Ol (Below.refl _ _) (fun _=>rfl) (oQ ad A tb lb s ls w wl) (fun _ _ _=>False) Mk.out (fun _ _ _ _ _ hs _ _=>hs) Wi.out
  (fun x=>{ tmps:=#[.pointer (some ⟨lb,0,none⟩),.pointer (some ⟨nb,0,none⟩),.slice a n c,.pointer (some ⟨w.heap.size,0,none⟩),undef,.pointer (some ⟨w.heap.size+1,0,none⟩),.pointer (some ⟨x.1.2,0,none⟩),.pointer (some ⟨nb,0,none⟩),.func (.func 19) #[] #[.pointer (some ⟨w.heap.size+2,0,none⟩)],.pointer (some ⟨x.1.2,0,none⟩),undef,undef,undef,undef,undef,undef,undef,undef,undef,undef,undef,undef,undef,undef,undef,undef,undef,undef,undef,undef,undef,undef,undef,undef,undef],defers:=[] }) ?assign ?body ?done ?stop
 case hg=>simp[go_sem,Act.eval]
 case assign=>
  intro lr x W K hK;unfold ED aA
  gi_wp2
  exact hK
 case body=>
  intro lr pre x W hI _;obtain⟨Kh,i3,C6,Lg⟩:=Us.out pre x W hI;obtain⟨Ti,_⟩:(W.cell? ⟨x.1.2,0,none⟩=some (.int .i64 x.1.1.k))/\True:=⟨(Kh W (Kn.refl _ _)).2.2.1,trivial⟩;have HC:=aC Kh;have l4:=aC i3;have k9:=aC C6;have Me:=aC Lg;have HD:=aC (AH W)
  have Kv:∀u o u',Kn (fun _=>False) W u->u'=World.alloc u o->Kn (fun _=>False) W u':=fun u o u' hu e=>by
   subst e;exact hu.alloc o
  have Ni:=aC Kv;have hK:=fun(tx:ByteArray) (u:World)=>jG tx u;have HK:=aC hK;clear Kh i3 C6 Lg hI Kv hK Km Wi Mk Us Lx Ol;generalize oQ ad A tb lb s ls w wl (w0:=wl)=I at *;generalize hV:Kn (fun _=>False) W=V at *;generalize bs x.1.1.txt=tx at *;generalize x.1.1.k=k at *
  by_cases hk:k=21
  ·subst hk;obtain⟨d1,d2,d3,d4⟩:=HC.out _ HD.out;have HS:=aC (l4.out rfl _ HD.out);clear l4 k9 Me HC HK Ni
   gi_wp2_with fail
   unfold aA at *
   gi_region_with (first|(refine⟨trivial,?_⟩;gi_at_call 204;refine(inRound lr (callsIn_wide.2 HS.out)).mono ?_;clear HS;rintro e u2⟨bb,rfl,rfl,N5⟩;have W6:=aC N5;clear N5)|(refine⟨trivial,?_⟩;gi_at_call 153;refine(inRound lr (callsIn_wide.2 W6.out)).mono ?_;clear W6;rintro e u3⟨rfl,hq⟩;have HQ:=aC hq;clear hq))
   all_goals
    gi_wp2
    exact HQ.out
  ·by_cases Jy:k=22
   ·subst Jy;obtain⟨d1,d2,d3,d4⟩:=HC.out _ HD.out;have HS:=aC (k9.out rfl);have e1:((22:Int)==21)=false:=by decide
    clear l4 k9 Me
    gi_wp2_with fail
    unfold aA at *
    gi_region_with (first|(refine⟨trivial,?_⟩;gi_at_call 35;refine(inRound lr (callsIn_wide.2 (HK.out _ _))).mono ?_;rintro e u2⟨rfl,hu⟩;have HV:=aC (Ni.out _ _ _ HD.out hu);clear hu;have HP:=aC (HS.out _ HV.out);have hz:=HC.out _ HV.out;obtain⟨d1,d2,d3,d4⟩:=hz)|(refine⟨trivial,?_⟩;gi_at_call 205;refine(inRound lr (callsIn_wide.2 HP.out)).mono ?_;clear HP;rintro e u3⟨rfl,hq⟩;have HQ:=aC hq;clear hq))
    all_goals
     gi_wp2
     exact HQ.out
   ·have e1:((k:Int)==21)=false:=by simp only[beq_eq_false_iff_ne,ne_eq];omega
    have e2:((k:Int)==22)=false:=by simp only[beq_eq_false_iff_ne,ne_eq];omega
    have HG:=aC (Me.out hk Jy);clear Me l4 k9 HC
    gi_wp2
    rw[<- Ke];exact HG.out
 case done=>
  intro D xs W hD Uv hI hK;have HQ:=aC (Lx.out D W xs Uv hI hD hK);clear hI
  gi_wp2
  refine⟨by simp,.inl ⟨_,_,rfl,run_takeDeferred hK,?_⟩⟩;exact⟨.tuple #[],by simp[results,results157,go_sem],HQ.out⟩
 case stop=>
  intro D c pre W _ _ h _;exact h.elim
end
end
end Go.Proofs.YthakgdfmbknakaaGreatDoor
