import Derived.Test.YtcbppnefeonmgaaGreatDoorC11
set_option linter.all false
set_option maxHeartbeats 40000000
set_option maxRecDepth 100000
open Go.Proofs.Tryz
open Or (inl inr)
open Nat (le_refl le_trans zero_le lt_of_lt_of_le lt_succ_self)
open List (mem_cons_self mem_cons_of_mem mem_append mem_singleton cons_append mem_cons)
namespace Go.Proofs.YtcbppnefeonmgaaGreatDoor
section
open Go.RowKit
section
variable {ar:Nm->Nat}{ad:List Nat}{X:Nat->Prop}{rk:Nat->Nat}{σ:TS}{w w':World}{a b pb pl:Nat}
def UnL(ar:Nm->Nat)(ad:List Nat)(X:Nat->Prop)(pb n:Nat)(σ:TS)(o:Option (TS×Nat))(xs ys:List Nat)(w:World)(k:Nat)(wr:World):Prop:=
 ∃σk pk rkk,un.unL (un n) σk pk (xs.drop k) (ys.drop k)=o/\SameN σ σk/\pk<=201+n*1000000+k/\201<=pk+n/\StoM ar ad X rkk σk wr/\wr.heap[pb]?=some (.cells #[.int .i64 pk] tyIntB (0,0))/\Kn (fun k=>k∈ad\/k=pb) w wr
theorem drop_consT{l:List Nat}{k x:Nat}(h:l[k]?=some x):l.drop k=x::l.drop (k+1):=by
 obtain⟨hl,rfl⟩:=List.getElem?_eq_some_iff.1 h
 exact List.drop_eq_getElem_cons hl
theorem un_parts(h:StoM ar ad X rk σ w)(ha:a<σ.nodes.length)(hb:b<σ.nodes.length)(hp:w.heap[pb]?=some (.cells #[.int .i64 pl] tyIntB (0,0)))(hpl:pl<=1000000000){n:Nat}(he:σ.root a≠σ.root b)(hbig:¬200<pl+1)(hl0:σ.isLetter (σ.root a)=false)(hl1:σ.isLetter (σ.root b)=false)(hnn:(σ.node (σ.root a)).name=(σ.node (σ.root b)).name)(har:∀nm,ar nm<=1000000)(hn1:1<=n)(hn2:n<=202)(hn:201<=pl+1+n)(ih:∀(σ1:TS)(rk1:Nat->Nat)(w1:World)(p1 a1 b1:Nat),StoM ar ad X rk1 σ1 w1->a1<σ1.nodes.length->b1<σ1.nodes.length->w1.heap[pb]?=some (.cells #[.int .i64 p1] tyIntB (0,0))->p1<=1000000000->201<=p1+n->Calls prog 161 #[adV ad a1,adV ad b1,.pointer (some ⟨pb,0,none⟩)] w1 (AnsUn ar ad X pb (un n σ1 p1 a1 b1) w1)) :
  Calls prog 161 #[adV ad a,adV ad b,.pointer (some ⟨pb,0,none⟩)] w (AnsUn ar ad X pb (un.unL (un n) σ (pl+1) (σ.node (σ.root a)).parts (σ.node (σ.root b)).parts) w):=by
 have hra:=h.ok.root_lt ha
 have hrb:=h.ok.root_lt hb
 have hR1:=root_any (rk a+1) a w (lt_succ_self _) h ha
 have hR2:∀w1,StoM ar ad X rk σ w1->Calls prog 46 #[adV ad b] w1 (AnsRoot ar ad X rk σ b w1):=fun w1 h1=>root_any (rk b+1) b w1 (lt_succ_self _) h1 hb
 have hA1:∀e w1,AnsRoot ar ad X rk σ a w e w1->e=.returned (adV ad (σ.root a))/\StoM ar ad X rk σ w1/\Kn (·∈ad) w w1:=fun e w1 x=>⟨x.1,x.2.1,x.2.2.1⟩
 have hA2:∀w1,Kn (·∈ad) w w1->∀e w2,AnsRoot ar ad X rk σ b w1 e w2->e=.returned (adV ad (σ.root b))/\w2.cell? ⟨pb,0,none⟩=some (.int .i64 pl)/\w2.frozen? ⟨pb,0,none⟩=false/\UnAt ar ad X rk σ pb pl (σ.root a) (σ.root b) w (w2.setCell ⟨pb,0,none⟩ (.int .i64 ((pl:Int)+1))):=fun w1 k1 e w2 x=>⟨x.1,unAt_step hp h x.2.1 (k1.trans x.2.2.1)⟩
 have hEq:∀w3,UnAt ar ad X rk σ pb pl (σ.root a) (σ.root b) w w3->(binOp .eql tyTypeP (.pointer (some ⟨adA ad (σ.root a),0,none⟩)) (.pointer (some ⟨adA ad (σ.root b),0,none⟩))).run prog w3=.ok (.bool (decide (σ.root a=σ.root b))) w3:=fun w3 x=>x.eql hra hrb
 have hBx:∀w3,UnAt ar ad X rk σ pb pl (σ.root a) (σ.root b) w w3->w3.cell? ⟨pb,0,none⟩=some (.int .i64 ((pl:Int)+1)):=fun w3 x=>by simp[World.cell?,x.box]
 have hnl1:∀w3,UnAt ar ad X rk σ pb pl (σ.root a) (σ.root b) w w3->Calls prog 47 #[adV ad (σ.root a)] w3 fun e w'=>e=.returned (.bool false)/\w'=w3:=fun w3 x=>by rw[<- hl0];exact isLetter_any x.sto hra
 have hnl2:∀w3,UnAt ar ad X rk σ pb pl (σ.root a) (σ.root b) w w3->Calls prog 47 #[adV ad (σ.root b)] w3 fun e w'=>e=.returned (.bool false)/\w'=w3:=fun w3 x=>by rw[<- hl1];exact isLetter_any x.sto hrb
 have hnm:∀w3,UnAt ar ad X rk σ pb pl (σ.root a) (σ.root b) w w3->w3.cell? ⟨adA ad (σ.root a),0,none⟩=some (.string (bs (σ.node (σ.root a)).name))/\w3.cell? ⟨adA ad (σ.root b),0,none⟩=some (.string (bs (σ.node (σ.root b)).name)):=fun w3 x=>by
  obtain⟨_,_,c1,_⟩:=x.sto.cell hra
  obtain⟨_,_,c2,_⟩:=x.sto.cell hrb
  exact⟨c1,c2⟩
 have hd:decide (σ.root a=σ.root b)=false:=decide_eq_false he
 have hbig2:¬(200:Int)<(pl:Int)+1:=by omega
 have HN1:=hide hnl1
 have HN2:=hide hnl2
 have HNM:=hide hnm
 clear hnl1 hnl2 hnm
 have hname:(σ.node (σ.root a)).name≠[]:=fun e=>by unfold TS.isLetter at hl0;rw[e]at hl0;simp at hl0
 have hlenA:=(h.ok.parts _ _ (TS.node_some hra)).2.2 hname
 have hlenB:=(h.ok.parts _ _ (TS.node_some hrb)).2.2 (by rw[<- hnn];exact hname)
 have hlen:(σ.node (σ.root b)).parts.length=(σ.node (σ.root a)).parts.length:=by rw[hlenA,hlenB,hnn]
 have hA:∀i,(σ.node i).parts.length<=1000000:=fun i=>by
  by_cases hi:i<σ.nodes.length
  ·have h1:=h.ok.parts i _ (TS.node_some hi)
   by_cases hz:(σ.node i).name=[]
   ·rw[h1.2.1 hz];exact zero_le _
   ·rw[h1.2.2 hz];exact har _
  ·unfold TS.node;rw[List.getElem?_eq_none (by omega)];exact zero_le _
 have hpA:∀p∈(σ.node (σ.root a)).parts,p<σ.nodes.length:=fun p hp=>h.ok.part_lt hra hp
 have hpB:∀p∈(σ.node (σ.root b)).parts,p<σ.nodes.length:=fun p hp=>h.ok.part_lt hrb hp
 have hlm:=hA (σ.root a)
 have hbq:((bs (σ.node (σ.root a)).name).toList==(bs (σ.node (σ.root b)).name).toList)=true:=by rw[hnn];simp
 have hst:∀w3 q,UnAt ar ad X rk σ pb pl (σ.root a) (σ.root b) w w3->UnL ar ad X pb n σ (un.unL (un n) σ (pl+1) (σ.node (σ.root a)).parts (σ.node (σ.root b)).parts) (σ.node (σ.root a)).parts (σ.node (σ.root b)).parts w 0 (w3.drewN q):=fun w3 q x=>
  ⟨σ,pl+1,rk,rfl,SameN.refl _,by omega,hn,x.sto.drewN q,x.box,x.kn.drewN q⟩
 have hrd:∀o k wr,UnL ar ad X pb n σ o (σ.node (σ.root a)).parts (σ.node (σ.root b)).parts w k wr->∃pv qv,wr.cell? ⟨adA ad (σ.root a),1,none⟩=some pv/\wr.cell? ⟨adA ad (σ.root b),1,none⟩=some qv/\wr.ownsRow 0 tyTypeP 1 pv (σ.node (σ.root a)).parts.length ((σ.node (σ.root a)).parts.map (adV ad))/\wr.ownsRow 0 tyTypeP 1 qv (σ.node (σ.root b)).parts.length ((σ.node (σ.root b)).parts.map (adV ad)):=by
  rintro o k wr⟨σk,pk,rkk,_,x2,_,_,x4,_,_⟩
  obtain⟨pv,_,_,c1,_,_,_,_,c2,_⟩:=x4.cell (i:=σ.root a) (by rw[x2.len];exact hra)
  obtain⟨qv,_,_,d1,_,_,_,_,d2,_⟩:=x4.cell (i:=σ.root b) (by rw[x2.len];exact hrb)
  rw[x2.parts]at c2 d2
  exact⟨pv,qv,c1,d1,c2,d2⟩
 have hstep:∀o k wr p q,k<1000000->(σ.node (σ.root a)).parts[k]?=some p->(σ.node (σ.root b)).parts[k]?=some q->UnL ar ad X pb n σ o (σ.node (σ.root a)).parts (σ.node (σ.root b)).parts w k wr->∃u:Option (TS×Nat),(∀m,Calls prog 161 #[adV ad p,adV ad q,.pointer (some ⟨pb,0,none⟩)] (wr.drewN m) (AnsUn ar ad X pb u (wr.drewN m)))/\∀m e wr2,AnsUn ar ad X pb u (wr.drewN m) e wr2->(e=.returned (.bool false)/\AnsUn ar ad X pb o w (.returned (.bool false)) wr2)\/(e=.returned (.bool true)/\UnL ar ad X pb n σ o (σ.node (σ.root a)).parts (σ.node (σ.root b)).parts w (k+1) wr2):=by
  rintro o k wr p q hk1 hp hq⟨σk,pk,rkk,x1,x2,x3,x3b,x4,x5,x6⟩
  rw[drop_consT hp,drop_consT hq,un.unL]at x1
  have hAk:∀i,(σk.node i).parts.length<=1000000:=fun i=>by rw[x2.parts];exact hA i
  have hnb:n*1000000<=202*1000000:=Nat.mul_le_mul_right _ hn2
  refine⟨un n σk pk p q,fun m=>ih σk rkk (wr.drewN m) pk p q (x4.drewN m) (by rw[x2.len];exact hpA p (List.mem_of_getElem? hp)) (by rw[x2.len];exact hpB q (List.mem_of_getElem? hq)) x5 (by omega) x3b,?_⟩
  rintro m e wr2⟨k2,⟨y1,y2⟩|⟨σ',pl',rk',y1,y2,y3,y4⟩⟩
  ·rw[y1]at x1
   exact inl ⟨y2,(x6.drewN m).trans k2,inl ⟨x1.symm,rfl⟩⟩
  ·rw[y1]at x1
   obtain⟨z1,z2⟩:=un_same n σk pk p q σ' pl' y1
   have z3:=un_bound (A:=1000000) n σk pk p q σ' pl' hAk y1
   exact inr ⟨y2,σ',pl',rk',x1,x2.trans z1,by omega,by omega,y3,y4,(x6.drewN m).trans k2⟩
 have hend:∀o wr,UnL ar ad X pb n σ o (σ.node (σ.root a)).parts (σ.node (σ.root b)).parts w (σ.node (σ.root a)).parts.length wr->AnsUn ar ad X pb o w (.returned (.bool true)) wr:=by
  rintro o wr⟨σk,pk,rkk,x1,x2,x3,_,x4,x5,x6⟩
  rw[List.drop_length,un.unL]at x1
  ·exact⟨x6,inr ⟨σk,pk,rkk,x1.symm,rfl,x4,x5⟩⟩
  ·intro _ _ _ _ e;cases e
 have HST:=hide hst
 generalize hou:un.unL (un n) σ (pl+1) (σ.node (σ.root a)).parts (σ.node (σ.root b)).parts=o at *
 have HRD:=hide (fun k wr=>hrd o k wr)
 have HSTEP:=hide (fun k wr p q=>hstep o k wr p q)
 have HEND:=hide (fun wr=>hend o wr)
 clear hst hrd hstep hend hA hpA hpB ih har hlenA hlenB hname hou
 generalize (σ.node (σ.root a)).parts=pa at *
 generalize (σ.node (σ.root b)).parts=qa at *
 have HR1:=hide hR1
 have HR2:=hide hR2
 have HA1:=hide hA1
 have HA2:=hide hA2
 have HEQ:=hide hEq
 have HBX:=hide hBx
 clear hR1 hR2 hA1 hA2 hEq hBx hp he h
 generalize hu:UnAt ar ad X rk σ pb pl (σ.root a) (σ.root b) w=U at *
 generalize hq:AnsUn ar ad X pb o w=Q at *
 generalize hr1:AnsRoot ar ad X rk σ a w=Q1 at *
 generalize hr2:AnsRoot ar ad X rk σ b=Q2 at *
 clear hq hr1 hr2
 unfold adV ptrV at *
 go_enter func161,ntmps161
 go_wp2_with fail
 refine(HR1.out).mono ?_;intro e w1 x
 obtain⟨rfl,s1,k1⟩:=HA1.out e w1 x
 have HC2:=hide (HR2.out w1 s1)
 have HN:=hide (HA2.out w1 k1)
 clear x s1 k1 HR1 HA1 HR2 HA2
 go_wp2_with fail
 refine(HC2.out).mono ?_;intro e w2 x
 obtain⟨rfl,c2,f2,u3⟩:=HN.out e w2 x
 have HU:=hide u3
 clear x u3 HC2 HN
 have hw2:pl<2000000000:=by omega
 have hrun:=HEQ.out _ HU.out
 have hcb:=HBX.out _ HU.out
 have HC1:=hide (HN1.out _ HU.out)
 have HC2:=hide (HN2.out _ HU.out)
 obtain⟨n1,n2⟩:=HNM.out _ HU.out
 have HST2:=hide (fun q=>HST.out _ q HU.out)
 clear HST HU HEQ HBX HN1 HN2 HNM
 rw[hd]at hrun
 generalize bs (σ.node (σ.root a)).name=x1 at *
 generalize bs (σ.node (σ.root b)).name=x2 at *
 go_wp2_with fail
 generalize w2.setCell ⟨pb,0,none⟩ (.int .i64 ((pl:Int)+1))=w3 at *
 refine(HC1.out).mono ?_;rintro e w4⟨rfl,hw4⟩;subst w4
 go_wp2_with fail
 refine(HC2.out).mono ?_;rintro e w4⟨rfl,hw4⟩;subst w4
 go_wp2_with fail
 go_quiet (fail)
 have HAT:=hide (HST2.out nq)
 clear HST2 HC1 HC2 n1 n2 hcb hrun
 generalize w3.drewN nq=w5 at *
 obtain⟨pv,qv,c1,d1,o1,o2⟩:=HRD.out 0 w5 HAT.out
 clear d1 o2
 rcases ownsRow_forms o1 with⟨rfl,hn0⟩|⟨g,cap2,rfl⟩
 ·have hpa:pa=[]:=List.length_eq_zero_iff.1 hn0
  subst hpa
  have HE:=hide (HEND.out w5 HAT.out)
  clear HRD HSTEP HEND HAT o1
  go_wp2_with fail
  refine wp_loop_rounds 1 ?_
  rw[rounds_succ]
  go_wp2
  exact HE.out
 ·clear o1
  generalize hpn:pa.length=pn at *
  go_wp2_with fail
  go_loopg [53] pn (fun gk v53 wr=>∃k,v53=.int .i64 (k:Nat)/\k+gk=pn/\Hid (UnL ar ad X pb n σ o pa qa w k wr))
  case atStart=>exact⟨0,rfl,by omega,HAT⟩
  case round=>
   clear HAT
   obtain⟨k,rfl,hk,HAT⟩:=hrel
   by_cases hlt:k<pn
   ·have hp:pa[k]?=some pa[k]:=List.getElem?_eq_getElem (by omega)
    generalize pa[k]=p at hp
    have hq:qa[k]?=some qa[k]:=List.getElem?_eq_getElem (by omega)
    generalize qa[k]=q at hq
    obtain⟨pv,qv,c1,d1,o1,o2⟩:=HRD.out k wr HAT.out
    obtain⟨u,hcall,hnx⟩:=HSTEP.out k wr p q (by omega) hp hq HAT.out
    obtain⟨g1,cp1,rfl⟩:∃g cap,pv=.slice (some ⟨g,0,none⟩) pn cap:=by
     rcases ownsRow_forms o1 with⟨_,hn0⟩|⟨g,cap,h⟩
     ·omega
     ·exact⟨g,cap,h⟩
    rw[hlen]at o2
    obtain⟨g2,cp2,rfl⟩:∃g cap,qv=.slice (some ⟨g,0,none⟩) pn cap:=by
     rcases ownsRow_forms o2 with⟨_,hn0⟩|⟨g,cap,h⟩
     ·omega
     ·exact⟨g,cap,h⟩
    have e1:wr.cell? ⟨g1,k,none⟩=some (.pointer (some ⟨adA ad p,0,none⟩)):=by
     rw[o1.cellAt k (by omega),List.getElem?_map,hp];rfl
    have e2:wr.cell? ⟨g2,k,none⟩=some (.pointer (some ⟨adA ad q,0,none⟩)):=by
     rw[o2.cellAt k (by omega),List.getElem?_map,hq];rfl
    have hlt3:(k:Int)<(pn:Int):=by omega
    have HC:=hide hcall
    have HNX:=hide hnx
    clear hcall hnx HAT hp hq o1 o2 HRD HSTEP HEND
    generalize hz:AnsUn ar ad X pb u=Q7 at *
    clear hz
    have hNX2:∀e wr2,Q7 wr.drew e wr2->∃v,e=.returned (.bool v)/\Hid ((v=false->Q (.returned (.bool false)) wr2)/\(v=true->UnL ar ad X pb n σ o pa qa w (k+1) wr2)):=fun e wr2 y=>by
     rcases HNX.out 1 e wr2 y with⟨h1,h2⟩|⟨h1,h2⟩
     ·exact⟨false,h1,fun _=>h2,fun e=>by cases e⟩
     ·exact⟨true,h1,fun e=>(by cases e),fun _=>h2⟩
    have HNX2:=hide hNX2
    clear HNX hNX2
    go_wp2_with fail
    go_region_with (first|(go_at_call 161;refine(HC.out 1).mono ?_;intro e wr2 y;obtain⟨v,rfl,hy⟩:=HNX2.out e wr2 y))
    all_goals
     cases v with
     |false=>
      have HF:=hide (hy.out.1 rfl)
      clear hy HC HNX2
      go_wp2
      exact HF.out
     |true=>
      have HF:=hide (hy.out.2 rfl)
      clear hy HC HNX2
      go_wp2_with fail
      go_roundg (pn-(k+1))
      case rel=>exact⟨k+1,by simp,by omega,HF⟩
      case measure=>omega
   ·have hkn:k=pn:=by omega
    subst hkn
    have HE:=hide (HEND.out wr HAT.out)
    have hlt3:¬(k:Int)<(k:Int):=by omega
    clear HAT HSTEP HEND HRD
    go_wp2
    exact HE.out
end
end
section
open Go.RowKit
section
variable {ar:Nm->Nat}{ad:List Nat}{X:Nat->Prop}
theorem unify_any(har:∀nm,ar nm<=1000000):∀(n:Nat),n<=202->∀(σ:TS)(rk:Nat->Nat)(w:World)(pb pl a b:Nat),1<=n->StoM ar ad X rk σ w->a<σ.nodes.length->b<σ.nodes.length->w.heap[pb]?=some (.cells #[.int .i64 pl] tyIntB (0,0))->pl<=1000000000->201<=pl+n ->
  Calls prog 161 #[adV ad a,adV ad b,.pointer (some ⟨pb,0,none⟩)] w (AnsUn ar ad X pb (un n σ pl a b) w):=by
 intro n
 induction n with
 |zero=>intro _ _ _ _ _ _ _ _ h;omega
 |succ n ih=>
  intro hn σ rk w pb pl a b _ h ha hb hp hpl h201
  rw[un]
  by_cases he:σ.root a=σ.root b
  ·rw[if_pos he];exact un_one h ha hb hp hpl he
  ·rw[if_neg he]
   by_cases hbig:maxSize<pl+1
   ·rw[if_pos hbig];exact un_big h ha hb hp hpl he hbig
   ·rw[if_neg hbig]
    cases hl0:σ.isLetter (σ.root a)with
    |true=>rw[if_pos rfl];exact un_letA h ha hb hp hpl he hbig hl0
    |false=>
     rw[if_neg (by simp)]
     cases hl1:σ.isLetter (σ.root b)with
     |true=>rw[if_pos rfl];exact un_letB h ha hb hp hpl he hbig hl0 hl1
     |false=>
      rw[if_neg (by simp)]
      by_cases hnn:(σ.node (σ.root a)).name=(σ.node (σ.root b)).name
      ·rw[if_pos hnn]
       have hn1:1<=n:=by unfold maxSize at hbig;omega
       exact un_parts h ha hb hp hpl he hbig hl0 hl1 hnn har hn1 (by omega) (by omega) (fun σ1 rk1 w1 p1 a1 b1 c1 c2 c3 c4 c5 c6=>ih (by omega) σ1 rk1 w1 pb p1 a1 b1 hn1 c1 c2 c3 c4 c5 c6)
      ·rw[if_neg hnn];exact un_names h ha hb hp hpl he hbig hl0 hl1 hnn
variable {rk:Nat->Nat}{σ:TS}{w:World}{a b:Nat}
theorem Unify_any(har:∀nm,ar nm<=1000000)(h:StoM ar ad X rk σ w)(ha:a<σ.nodes.length)(hb:b<σ.nodes.length):Calls prog 140 #[adV ad a,adV ad b] w (AnsU ar ad X (σ.unify a b) w):=by
 have hbox:(w.alloc (.cells #[.int .i64 (0:Nat)] tyIntB)).heap[w.heap.size]?=some (.cells #[.int .i64 (0:Nat)] tyIntB (0,0)):=(MapKept.heap_alloc w _).1
 have hc:=unify_any har wkFuel (by decide) σ rk (w.alloc (.cells #[.int .i64 (0:Nat)] tyIntB)) w.heap.size 0 a b (by decide) (h.alloc _) ha hb hbox (by decide) (by decide)
 have hq:∀e w',AnsUn ar ad X w.heap.size (un wkFuel σ 0 a b) (w.alloc (.cells #[.int .i64 (0:Nat)] tyIntB)) e w'->∃v,e=.returned (.bool v)/\AnsU ar ad X (σ.unify a b) w (.returned (.bool v)) w':=by
  rintro e w'⟨k1,h1⟩
  have hk:Kn (·∈ad) w w':=((Kn.refl _ w).alloc _).trans' k1 fun i hi hd=>by
   rcases hd with hd|rfl
   ·exact hd
   ·omega
  rcases h1 with⟨h1,h2⟩|⟨σ',pl',rk',h1,h2,h3,_⟩
  ·exact⟨false,h2,hk,inl ⟨by unfold TS.unify;rw[h1];rfl,rfl⟩⟩
  ·exact⟨true,h2,hk,inr ⟨σ',rk',by unfold TS.unify;rw[h1];rfl,rfl,h3⟩⟩
 have HC:=hide hc
 have HQ:=hide hq
 clear hc hq hbox h
 generalize AnsU ar ad X (σ.unify a b) w=Q at *
 generalize hz:AnsUn ar ad X w.heap.size (un wkFuel σ 0 a b) (w.alloc (.cells #[.int .i64 (0:Nat)] tyIntB))=Q1 at *
 clear hz
 unfold adV ptrV at *
 go_enter func140,ntmps140
 go_wp2_with fail
 refine(HC.out).mono ?_;intro e w1 x
 obtain⟨v,rfl,hq⟩:=HQ.out e w1 x
 have HF:=hide hq
 clear x hq HQ HC
 go_wp2
 exact HF.out
end
end
section
structure OpenSet(σ:TS)(S:Nat->Prop):Prop where
 lt:∀i,S i->i<σ.nodes.length
 root:∀i,S i->S (σ.root i)
 letter:∀i,S i->σ.isLetter (σ.root i)=true->σ.depth (σ.root i)=openD
 parts:∀i,S i->∀p∈(σ.node (σ.root i)).parts,S p
structure Grow(dm:Nat)(σ0 σ:TS):Prop where
 len:σ0.nodes.length<=σ.nodes.length
 old:∀i,i<σ0.nodes.length->σ.node i=σ0.node i
 fnd:∃ext,σ.fnd=ext++σ0.fnd/\∀x∈ext,σ0.nodes.length<=x.1/\σ0.nodes.length<=x.2
 parts:∀i,σ0.nodes.length<=i->∀p∈(σ.node i).parts,σ0.nodes.length<=p
 deep:∀i,σ0.nodes.length<=i->i<σ.nodes.length->σ.isLetter i=true->dm<=σ.depth i
 rg:σ.Rg
theorem TS.node_out{σ:TS}{i:Nat}(h:σ.nodes.length<=i):σ.node i=⟨[],[],0⟩:=by
 unfold TS.node;rw[List.getElem?_eq_none h];rfl
theorem Grow.refl(dm:Nat){σ:TS}(h:σ.Rg):Grow dm σ σ:=
 ⟨le_refl _,fun _ _=>rfl,⟨[],rfl,by simp⟩,fun i hi p hp=>(by rw[TS.node_out hi]at hp;cases hp),fun i h1 h2=>(by omega),h⟩
section
variable {dm:Nat}{σ0 σ:TS}
theorem rootL_ext_old{n0:Nat}{b:List (Nat×Nat)}{i:Nat}(hi:rootL b i<n0):∀ext:List (Nat×Nat),(∀x∈ext,n0<=x.1/\n0<=x.2)->rootL (ext++b) i=rootL b i:=by
 intro ext
 induction ext with
 |nil=>intro _;rfl
 |cons x r ih=>
  obtain⟨t,o⟩:=x
  intro h
  rw[cons_append,rootL,ih fun y hy=>h y (mem_cons_of_mem _ hy)]
  rw[if_neg]
  have:=(h (t,o) (mem_cons_self ..)).1
  simp only at this
  omega
theorem rootL_ext_new{n0:Nat}{b:List (Nat×Nat)}{i:Nat}(hi:n0<=rootL b i):∀ext:List (Nat×Nat),(∀x∈ext,n0<=x.1/\n0<=x.2)->n0<=rootL (ext++b) i:=by
 intro ext
 induction ext with
 |nil=>intro _;exact hi
 |cons x r ih=>
  obtain⟨t,o⟩:=x
  intro h
  have h1:=ih fun y hy=>h y (mem_cons_of_mem _ hy)
  rw[cons_append,rootL]
  split
  ·exact(h (t,o) (mem_cons_self ..)).2
  ·exact h1
theorem Grow.root_old(h:Grow dm σ0 σ)(hok:σ0.Rg){i:Nat}(hi:i<σ0.nodes.length):σ.root i=σ0.root i:=by
 obtain⟨ext,he,hx⟩:=h.fnd
 unfold TS.root
 rw[he]
 exact rootL_ext_old (rootL_lt hok.fnd hi) ext hx
theorem Grow.root_new(h:Grow dm σ0 σ)(hok:σ0.Rg){i:Nat}(hi:σ0.nodes.length<=i):σ0.nodes.length<=σ.root i:=by
 obtain⟨ext,he,hx⟩:=h.fnd
 unfold TS.root
 rw[he]
 exact rootL_ext_new (by rw[rootL_out hok.fnd hi];exact hi) ext hx
theorem Grow.new(h:Grow dm σ0 σ){t:TN}(hp:∀p∈t.parts,σ0.nodes.length<=p/\p<σ.nodes.length)(hd:t.name=[]->dm<=t.depth):Grow dm σ0 (σ.new t).2 where
 len:=by rw[TS.new_len];have:=h.len;omega
 old i hi:=by rw[TS.new_node,if_neg (by have:=h.len;omega)];exact h.old i hi
 fnd:=h.fnd
 parts i hi p hp':=by
  rw[TS.new_node]at hp'
  split at hp'
  ·exact(hp p hp').1
  ·exact h.parts i hi p hp'
 deep i h1 h2 h3:=by
  rw[TS.new_len]at h2
  unfold TS.depth TS.isLetter at *
  rw[TS.new_node]at h3 ⊢
  split
  ·rename_i e
   rw[if_pos e]at h3
   exact hd (by simpa using h3)
  ·rename_i e
   rw[if_neg e]at h3
   exact h.deep i h1 (by omega) h3
 rg:=h.rg.new fun p hp'=>(hp p hp').2
theorem Grow.letter(h:Grow dm σ0 σ){d:Nat}(hd:dm<=d):Grow dm σ0 (σ.letter d).2:=h.new (by simp) (fun _=>hd)
theorem Grow.named(h:Grow dm σ0 σ){nm:Nm}{ps:List Nat}(hn:nm≠[])(hp:∀p∈ps,σ0.nodes.length<=p/\p<σ.nodes.length):Grow dm σ0 (σ.named nm ps).2:=h.new hp (fun e=>absurd e hn)
theorem Grow.give(h:Grow dm σ0 σ)(i:Nat):Grow dm σ0 (σ.give i):=⟨h.len,h.old,h.fnd,h.parts,h.deep,h.rg.give i⟩
theorem Grow.setDepth(h:Grow dm σ0 σ){j d:Nat}(hj:σ0.nodes.length<=j)(hd:dm<=d):Grow dm σ0 (σ.setDepth j d) where
 len:=by rw[(Alike.setDepth σ j d).len];exact h.len
 old i hi:=by rw[TS.setDepth_node,if_neg (by omega)];exact h.old i hi
 fnd:=h.fnd
 parts i hi p hp:=by rw[(Alike.setDepth σ j d).parts]at hp;exact h.parts i hi p hp
 deep i h1 h2 h3:=by
  rw[(Alike.setDepth σ j d).isLetter]at h3
  rw[(Alike.setDepth σ j d).len]at h2
  rw[TS.setDepth_depth]
  split
  ·exact hd
  ·exact h.deep i h1 h2 h3
 rg:=h.rg.alike (Alike.setDepth _ _ _)
theorem Grow.found(h:Grow dm σ0 σ){t o:Nat}(ht:σ0.nodes.length<=t)(ho:σ0.nodes.length<=o)(hr:(σ.found t o).Rg):Grow dm σ0 (σ.found t o) where
 len:=h.len
 old:=h.old
 fnd:=by
  obtain⟨ext,he,hx⟩:=h.fnd
  refine⟨(t,o)::ext,by show (t,o)::σ.fnd=_;rw[he];rfl,fun x hx'=>?_⟩
  rcases mem_cons.1 hx' with rfl|h'
  ·exact⟨ht,ho⟩
  ·exact hx x h'
 parts:=h.parts
 deep:=h.deep
 rg:=hr
theorem wkL_new{n0:Nat}{g:List Nat->Nat->Option (List Nat×Bool)}:∀{ps:List Nat}{acc acc':List Nat}{b:Bool},wk.wkL g acc ps=some (acc',b)->(∀p∈ps,∀a a' b,g a p=some (a',b)->∀x∈a',x∈a\/n0<=x)->∀x∈acc',x∈acc\/n0<=x:=by
 intro ps
 induction ps with
 |nil=>intro acc acc' b h _ x hx;rw[wk.wkL]at h;cases h;exact inl hx
 |cons p r ih=>
  intro acc acc' b h hp x hx
  rw[wk.wkL]at h
  cases hg:g acc p with
  |none=>rw[hg]at h;cases h
  |some y=>
   obtain⟨a1,b1⟩:=y
   rw[hg]at h
   have h1:=hp p (mem_cons_self ..) _ _ _ hg
   cases b1 with
   |false=>cases h;exact h1 x hx
   |true=>
    rcases ih h (fun q hq=>hp q (mem_cons_of_mem _ hq)) x hx with h2|h2
    ·exact h1 x h2
    ·exact inr h2
theorem wk_new{T:List Nat->Nat->Bool}(h:Grow dm σ0 σ)(hok:σ0.Rg):∀{n:Nat}{acc acc':List Nat}{i:Nat}{b:Bool},σ0.nodes.length<=i->wk σ T n acc i=some (acc',b)->∀x∈acc',x∈acc\/σ0.nodes.length<=x:=by
 intro n
 induction n with
 |zero=>intro acc acc' i b _ h;cases h
 |succ n ih=>
  intro acc acc' i b hi hw x hx
  have hr:=h.root_new hok hi
  rw[wk]at hw
  split at hw
  ·rcases wkL_new hw (fun p hp a a' b hg=>ih (h.parts _ hr p hp) hg) x hx with h2|h2
   ·rcases mem_append.1 h2 with h3|h3
    ·exact inl h3
    ·rw[mem_singleton.1 h3];exact inr hr
   ·exact inr h2
  ·cases hw
   rcases mem_append.1 hx with h3|h3
   ·exact inl h3
   ·rw[mem_singleton.1 h3];exact inr hr
theorem Grow.pre_new(h:Grow dm σ0 σ)(hok:σ0.Rg){i:Nat}(hi:σ0.nodes.length<=i)(hf:σ.fits i=true):∀x∈σ.pre i,σ0.nodes.length<=x:=fun x hx=>by
 rcases wk_new h hok hi (TS.fits_pre hf) x hx with h|h
 ·cases h
 ·exact h
theorem Grow.lower(h:Grow dm σ0 σ){t:Nat}(ht:σ0.nodes.length<=t)(htl:t<σ.nodes.length)(hlet:σ.isLetter t=true):∀(l:List Nat),(∀x∈l,σ0.nodes.length<=x/\x<σ.nodes.length)->Grow dm σ0 (lower σ t l):=by
 intro l
 induction l generalizing σ with
 |nil=>intro _;exact h
 |cons j r ih=>
  intro hl
  unfold Go.Proofs.YtcbppnefeonmgaaGreatDoor.lower
  rw[List.foldl_cons]
  split
  ·rename_i hj
   have hj1:=hl j (mem_cons_self ..)
   have h1:=h.deep j hj1.1 hj1.2 hj
   have h2:=h.deep t ht htl hlet
   refine ih (σ:=σ.setDepth j (min (σ.depth j) (σ.depth t))) (h.setDepth hj1.1 (by omega)) ?_ ?_ ?_
   ·rw[(Alike.setDepth _ _ _).len];exact htl
   ·rw[(Alike.setDepth _ _ _).isLetter];exact hlet
   ·intro x hx;rw[(Alike.setDepth _ _ _).len];exact hl x (mem_cons_of_mem _ hx)
  ·exact ih h htl hlet fun x hx=>hl x (mem_cons_of_mem _ hx)
theorem Grow.openAll(h:Grow dm σ0 σ)(hdm:dm<=openD)(d:Nat):∀(l:List Nat),(∀x∈l,σ0.nodes.length<=x)->Grow dm σ0 (opened σ d l):=by
 intro l
 induction l generalizing σ with
 |nil=>intro _;exact h
 |cons j r ih=>
  intro hl
  unfold opened
  rw[List.foldl_cons]
  split
  ·exact ih (h.setDepth (hl j (mem_cons_self ..)) hdm) fun x hx=>hl x (mem_cons_of_mem _ hx)
  ·exact ih h fun x hx=>hl x (mem_cons_of_mem _ hx)
structure Step(dm:Nat)(σ0 σ σ':TS):Prop where
 grow:Grow dm σ0 σ'
 le:σ.nodes.length<=σ'.nodes.length
theorem Step.trans{a b c:TS}(h:Step dm σ0 a b)(k:Step dm σ0 b c):Step dm σ0 a c:=⟨k.grow,le_trans h.le k.le⟩
def NewT(σ0 σ:TS)(t:Nat):Prop:=σ0.nodes.length<=t/\t<σ.nodes.length
theorem NewT.mono{σ':TS}{t:Nat}(h:NewT σ0 σ t)(hl:σ.nodes.length<=σ'.nodes.length):NewT σ0 σ' t:=⟨h.1,lt_of_lt_of_le h.2 hl⟩
theorem Grow.newT(h:Grow dm σ0 σ)(t:TN):NewT σ0 (σ.new t).2 σ.nodes.length:=⟨h.len,by rw[TS.new_len];omega⟩
theorem Grow.root_newT(h:Grow dm σ0 σ)(hok:σ0.Rg){i:Nat}(hi:NewT σ0 σ i):NewT σ0 σ (σ.root i):=⟨h.root_new hok hi.1,h.rg.root_lt hi.2⟩
theorem Grow.part_newT(h:Grow dm σ0 σ){i p:Nat}(hi:NewT σ0 σ i)(hp:p∈(σ.node i).parts):NewT σ0 σ p:=⟨h.parts i hi.1 p hp,h.rg.part_lt hi.2 hp⟩
theorem standFor_grow(h:Grow dm σ0 σ)(hok:σ0.Rg){t o:Nat}{σ':TS}(ht:NewT σ0 σ t)(ho:NewT σ0 σ o)(hl:σ.isLetter t=true)(h1:σ.root t=t)(h2:σ.root o=o)(hne:t≠o)(hs:σ.standFor t o=some σ'):Step dm σ0 σ σ':=by
 rw[TS.standFor_eq]at hs
 split at hs
 ·rename_i hc
  rw[Bool.and_eq_true]at hc
  cases hs
  have hal:=lower_alike (σ.pre o) σ t
  have hpm:=h.rg.pre_mem ho.2 hc.1
  have hpn:=h.pre_new hok ho.1 hc.1
  have hg:=h.lower ht.1 ht.2 hl (σ.pre o) (fun x hx=>⟨hpn x hx,(hpm x hx).1⟩)
  refine⟨hg.found ht.1 ho.1 (hg.rg.found (by rw[hal.len];exact ht.2) (by rw[hal.len];exact ho.2) (by rw[hal.isLetter];exact hl) (by rw[hal.root];exact h1) (by rw[hal.root];exact h2) hne),?_⟩
  show σ.nodes.length<=(Go.Proofs.YtcbppnefeonmgaaGreatDoor.lower σ t (σ.pre o)).nodes.length
  rw[hal.len];exact le_refl _
 ·cases hs
theorem unL_grow{g:TS->Nat->Nat->Nat->Option (TS×Nat)}(hg:∀σ pl a b σ' pl',Grow dm σ0 σ->NewT σ0 σ a->NewT σ0 σ b->g σ pl a b=some (σ',pl')->Step dm σ0 σ σ') :
  ∀(az bs:List Nat)(σ:TS)(pl:Nat)(σ':TS)(pl':Nat),Grow dm σ0 σ->(∀a∈az,NewT σ0 σ a)->(∀b∈bs,NewT σ0 σ b)->un.unL g σ pl az bs=some (σ',pl')->Step dm σ0 σ σ':=by
 intro az
 induction az with
 |nil=>intro bs σ pl σ' pl' h _ _ hs;rw[un.unL]at hs;cases hs;exact⟨h,le_refl _⟩;intro _ _ _ _ h;cases h
 |cons a az ih=>
  intro bs σ pl σ' pl' h ha hb hs
  cases bs with
  |nil=>rw[un.unL]at hs;cases hs;exact⟨h,le_refl _⟩;intro _ _ _ _ _ h;cases h
  |cons b bs=>
   rw[un.unL]at hs
   cases hgx:g σ pl a b with
   |none=>rw[hgx]at hs;cases hs
   |some x=>
    obtain⟨σ1,pl1⟩:=x
    rw[hgx]at hs
    have s1:=hg σ pl a b σ1 pl1 h (ha a (mem_cons_self ..)) (hb b (mem_cons_self ..)) hgx
    exact s1.trans (ih bs σ1 pl1 σ' pl' s1.grow (fun x hx=>(ha x (mem_cons_of_mem _ hx)).mono s1.le) (fun x hx=>(hb x (mem_cons_of_mem _ hx)).mono s1.le) hs)
theorem un_grow(hok:σ0.Rg):∀(n:Nat)(σ:TS)(pl a b:Nat)(σ':TS)(pl':Nat),Grow dm σ0 σ->NewT σ0 σ a->NewT σ0 σ b->un n σ pl a b=some (σ',pl')->Step dm σ0 σ σ':=by
 intro n
 induction n with
 |zero=>intro σ pl a b σ' pl' _ _ _ hs;cases hs
 |succ n ih=>
  intro σ pl a b σ' pl' h ha hb hs
  have ra:=h.root_newT hok ha
  have rb:=h.root_newT hok hb
  have rra:=h.rg.root_root a
  have rrb:=h.rg.root_root b
  rw[un]at hs
  split at hs
  ·cases hs;exact⟨h,le_refl _⟩
  ·rename_i hne
   split at hs
   ·cases hs
   ·split at hs
    ·rename_i hl
     cases hx:σ.standFor (σ.root a) (σ.root b)with
     |none=>rw[hx]at hs;cases hs
     |some y=>rw[hx]at hs;cases hs;exact standFor_grow h hok ra rb hl rra rrb hne hx
    ·split at hs
     ·rename_i hl
      cases hx:σ.standFor (σ.root b) (σ.root a)with
      |none=>rw[hx]at hs;cases hs
      |some y=>rw[hx]at hs;cases hs;exact standFor_grow h hok rb ra hl rrb rra (Ne.symm hne) hx
     ·split at hs
      ·exact unL_grow (fun σ pl a b σ' pl' h1 h2 h3 h4=>ih σ pl a b σ' pl' h1 h2 h3 h4) _ _ _ _ _ _ h (fun p hp=>h.part_newT ra hp) (fun p hp=>h.part_newT rb hp) hs
      ·cases hs
theorem unify_grow(hok:σ0.Rg){a b:Nat}{σ':TS}(h:Grow dm σ0 σ)(ha:NewT σ0 σ a)(hb:NewT σ0 σ b)(hs:σ.unify a b=some σ'):Step dm σ0 σ σ':=by
 unfold TS.unify at hs
 cases hx:un wkFuel σ 0 a b with
 |none=>rw[hx]at hs;cases hs
 |some y=>
  obtain⟨y1,y2⟩:=y
  rw[hx]at hs
  cases hs
  exact un_grow hok _ _ _ _ _ _ _ h ha hb hx
end
end
end Go.Proofs.YtcbppnefeonmgaaGreatDoor
