import Derived.Test.YthakgdfmbknakaaGreatDoorC4
import Derived.Deep.OwnRows
set_option linter.all false
set_option maxHeartbeats 40000000
set_option maxRecDepth 100000
open Go.Proofs.Tryz
open Or (inl inr)
open Option (map_eq_some_iff)
open Nat (le_refl le_trans zero_le lt_of_lt_of_le lt_succ_self)
open List (append_nil length_append mem_cons_self mem_cons_of_mem mem_append mem_singleton append_assoc mem_cons map_append length_map map_cons)
namespace Go.Proofs.YthakgdfmbknakaaGreatDoor
open World (cell?)
open TS (AO AR)
open List (foldl_cons getElem?_map map_map map_nil replicate)
open Value (ownBlock pointer)
section
open Go.RowKit
section
variable {ar:Nm->Nat}{ad:List Nat}{X:Nat->Prop}{rk:Nat->Nat}{U:TS}{w w':World}{a b pb pl:Nat}
def Gg(ar:Nm->Nat)(ad:List Nat)(X:Nat->Prop)(pb n:Nat)(U:TS)(o:Option (TS×Nat))(xs ys:List Nat)(w:World)(k:Nat)(wr:World):Prop:=
 ∃Uk pk rkk,un.unL (un n) Uk pk (xs.drop k) (ys.drop k)=o/\gT U Uk/\pk<=201+n*1000000+k/\201<=pk+n/\aO ar ad X rkk Uk wr/\wr.heap[pb]?=some (.cells #[.int .i64 pk] bU (0,0))/\Kn (fun k=>k∈ad\/k=pb) w wr
def sR{l:List Nat}{k x:Nat}(h:l[k]?=some x):l.drop k=x::l.drop (k+1):=by
 obtain⟨hl,rfl⟩:=List.getElem?_eq_some_iff.1 h;exact List.drop_eq_getElem_cons hl
def SD(h:aO ar ad X rk U w)(ha:a<U.nodes.length)(hb:b<U.nodes.length)(hp:w.heap[pb]?=some (.cells #[.int .i64 pl] bU (0,0)))(Nb:pl<=1000000000){n:Nat}(he:U.root a≠U.root b)(Mo:¬200<pl+1)(Pk:U.AC (U.root a)=false)(Si:U.AC (U.root b)=false)(Uc:(U.node (U.root a)).name=(U.node (U.root b)).name)(Ln:∀nm,ar nm<=1000000)(Ld:1<=n)(Pj:n<=202)(hn:201<=pl+1+n)(ih:∀(U1:TS)(rk1:Nat->Nat)(w1:World)(p1 a1 b1:Nat),aO ar ad X rk1 U1 w1->a1<U1.nodes.length->b1<U1.nodes.length->w1.heap[pb]?=some (.cells #[.int .i64 p1] bU (0,0))->p1<=1000000000->201<=p1+n->Calls prog 208 #[aM ad a1,aM ad b1,.pointer (some ⟨pb,0,none⟩)] w1 (eJ ar ad X pb (un n U1 p1 a1 b1) w1)) :
  Calls prog 208 #[aM ad a,aM ad b,.pointer (some ⟨pb,0,none⟩)] w (eJ ar ad X pb (un.unL (un n) U (pl+1) (U.node (U.root a)).parts (U.node (U.root b)).parts) w):=by
 have Qn:=h.ok.AK ha;have Qm:=h.ok.AK hb;have Sa:=dX (rk a+1) a w (lt_succ_self _) h ha;have To:∀w1,aO ar ad X rk U w1->Calls prog 44 #[aM ad b] w1 (bG ar ad X rk U b w1):=fun w1 h1=>dX (rk b+1) b w1 (lt_succ_self _) h1 hb;have Ts:∀e w1,bG ar ad X rk U a w e w1->e=.returned (aM ad (U.root a))/\aO ar ad X rk U w1/\Kn (·∈ad) w w1:=fun e w1 x=>⟨x.1,x.2.1,x.2.2.1⟩;have Sc:∀w1,Kn (·∈ad) w w1->∀e w2,bG ar ad X rk U b w1 e w2->e=.returned (aM ad (U.root b))/\w2.cell? ⟨pb,0,none⟩=some (.int .i64 pl)/\w2.frozen? ⟨pb,0,none⟩=false/\eA ar ad X rk U pb pl (U.root a) (U.root b) w (w2.setCell ⟨pb,0,none⟩ (.int .i64 ((pl:Int)+1))):=fun w1 k1 e w2 x=>⟨x.1,iT hp h x.2.1 (k1.trans x.2.2.1)⟩;have Sb:∀w3,eA ar ad X rk U pb pl (U.root a) (U.root b) w w3->(binOp .eql aG (.pointer (some ⟨bH ad (U.root a),0,none⟩)) (.pointer (some ⟨bH ad (U.root b),0,none⟩))).run prog w3=.ok (.bool (decide (U.root a=U.root b))) w3:=fun w3 x=>x.eql Qn Qm;have Tr:∀w3,eA ar ad X rk U pb pl (U.root a) (U.root b) w w3->w3.cell? ⟨pb,0,none⟩=some (.int .i64 ((pl:Int)+1)):=fun w3 x=>by simp[cell?,x.box]
 have Xi:∀w3,eA ar ad X rk U pb pl (U.root a) (U.root b) w w3->Calls prog 45 #[aM ad (U.root a)] w3 fun e w'=>e=.returned (.bool false)/\w'=w3:=fun w3 x=>by rw[<- Pk];exact cH x.sto Qn
 have Xh:∀w3,eA ar ad X rk U pb pl (U.root a) (U.root b) w w3->Calls prog 45 #[aM ad (U.root b)] w3 fun e w'=>e=.returned (.bool false)/\w'=w3:=fun w3 x=>by rw[<- Si];exact cH x.sto Qm
 have Lr:∀w3,eA ar ad X rk U pb pl (U.root a) (U.root b) w w3->w3.cell? ⟨bH ad (U.root a),0,none⟩=some (.string (bs (U.node (U.root a)).name))/\w3.cell? ⟨bH ad (U.root b),0,none⟩=some (.string (bs (U.node (U.root b)).name)):=fun w3 x=>by
  obtain⟨_,_,c1,_⟩:=x.sto.cell Qn;obtain⟨_,_,c2,_⟩:=x.sto.cell Qm;exact⟨c1,c2⟩
 have hd:decide (U.root a=U.root b)=false:=decide_eq_false he;have Ve:¬(200:Int)<(pl:Int)+1:=by omega
 have Yn:=aC Xi;have W9:=aC Xh;have Sv:=aC Lr;clear Xi Xh Lr;have Sz:(U.node (U.root a)).name≠[]:=fun e=>by unfold TS.AC at Pk;rw[e]at Pk;simp at Pk
 have B6:=(h.ok.parts _ _ (AR Qn)).2.2 Sz;have B5:=(h.ok.parts _ _ (AR Qm)).2.2 (by rw[<- Uc];exact Sz);have Jm:(U.node (U.root b)).parts.length=(U.node (U.root a)).parts.length:=by rw[B6,B5,Uc]
 have hA:∀i,(U.node i).parts.length<=1000000:=fun i=>by
  by_cases hi:i<U.nodes.length
  ·have h1:=h.ok.parts i _ (AR hi)
   by_cases hz:(U.node i).name=[]
   ·rw[h1.2.1 hz];exact zero_le _
   ·rw[h1.2.2 hz];exact Ln _
  ·unfold TS.node;rw[List.getElem?_eq_none (by omega)];exact zero_le _
 have hpA:∀p∈(U.node (U.root a)).parts,p<U.nodes.length:=fun p hp=>h.ok.AQ Qn hp;have hpB:∀p∈(U.node (U.root b)).parts,p<U.nodes.length:=fun p hp=>h.ok.AQ Qm hp;have Yi:=hA (U.root a);have hbq:((bs (U.node (U.root a)).name).toList==(bs (U.node (U.root b)).name).toList)=true:=by rw[Uc];simp
 have Jz:∀w3 q,eA ar ad X rk U pb pl (U.root a) (U.root b) w w3->Gg ar ad X pb n U (un.unL (un n) U (pl+1) (U.node (U.root a)).parts (U.node (U.root b)).parts) (U.node (U.root a)).parts (U.node (U.root b)).parts w 0 (w3.drewN q):=fun w3 q x=>
  ⟨U,pl+1,rk,rfl,gT.refl _,by omega,hn,x.sto.drewN q,x.box,x.kn.drewN q⟩
 have A4:∀o k wr,Gg ar ad X pb n U o (U.node (U.root a)).parts (U.node (U.root b)).parts w k wr->∃pv qv,wr.cell? ⟨bH ad (U.root a),1,none⟩=some pv/\wr.cell? ⟨bH ad (U.root b),1,none⟩=some qv/\wr.ownsRow 0 aG 1 pv (U.node (U.root a)).parts.length ((U.node (U.root a)).parts.map (aM ad))/\wr.ownsRow 0 aG 1 qv (U.node (U.root b)).parts.length ((U.node (U.root b)).parts.map (aM ad)):=by
  rintro o k wr⟨Uk,pk,rkk,_,x2,_,_,x4,_,_⟩;obtain⟨pv,_,_,c1,_,_,_,_,c2,_⟩:=x4.cell (i:=U.root a) (by rw[x2.len];exact Qn);obtain⟨qv,_,_,d1,_,_,_,_,d2,_⟩:=x4.cell (i:=U.root b) (by rw[x2.len];exact Qm);rw[x2.parts]at c2 d2;exact⟨pv,qv,c1,d1,c2,d2⟩
 have Kp:∀o k wr p q,k<1000000->(U.node (U.root a)).parts[k]?=some p->(U.node (U.root b)).parts[k]?=some q->Gg ar ad X pb n U o (U.node (U.root a)).parts (U.node (U.root b)).parts w k wr->∃u:Option (TS×Nat),(∀m,Calls prog 208 #[aM ad p,aM ad q,.pointer (some ⟨pb,0,none⟩)] (wr.drewN m) (eJ ar ad X pb u (wr.drewN m)))/\∀m e wr2,eJ ar ad X pb u (wr.drewN m) e wr2->(e=.returned (.bool false)/\eJ ar ad X pb o w (.returned (.bool false)) wr2)\/(e=.returned (.bool true)/\Gg ar ad X pb n U o (U.node (U.root a)).parts (U.node (U.root b)).parts w (k+1) wr2):=by
  rintro o k wr p q Kj hp hq⟨Uk,pk,rkk,x1,x2,x3,x3b,x4,x5,x6⟩;rw[sR hp,sR hq,un.unL]at x1;have hAk:∀i,(Uk.node i).parts.length<=1000000:=fun i=>by rw[x2.parts];exact hA i
  have Ox:n*1000000<=202*1000000:=Nat.mul_le_mul_right _ Pj;refine⟨un n Uk pk p q,fun m=>ih Uk rkk (wr.drewN m) pk p q (x4.drewN m) (by rw[x2.len];exact hpA p (List.mem_of_getElem? hp)) (by rw[x2.len];exact hpB q (List.mem_of_getElem? hq)) x5 (by omega) x3b,?_⟩;rintro m e wr2⟨k2,⟨y1,y2⟩|⟨U',pl',rk',y1,y2,y3,y4⟩⟩
  ·rw[y1]at x1;exact inl ⟨y2,(x6.drewN m).trans k2,inl ⟨x1.symm,rfl⟩⟩
  ·rw[y1]at x1;obtain⟨z1,z2⟩:=mI n Uk pk p q U' pl' y1;have z3:=SF (Aa:=1000000) n Uk pk p q U' pl' hAk y1;exact inr ⟨y2,U',pl',rk',x1,x2.trans z1,by omega,by omega,y3,y4,(x6.drewN m).trans k2⟩
 have Mu:∀o wr,Gg ar ad X pb n U o (U.node (U.root a)).parts (U.node (U.root b)).parts w (U.node (U.root a)).parts.length wr->eJ ar ad X pb o w (.returned (.bool true)) wr:=by
  rintro o wr⟨Uk,pk,rkk,x1,x2,x3,_,x4,x5,x6⟩;rw[List.drop_length,un.unL]at x1
  ·exact⟨x6,inr ⟨Uk,pk,rkk,x1.symm,rfl,x4,x5⟩⟩
  ·intro _ _ _ _ e;cases e
 have Km:=aC Jz;generalize hou:un.unL (un n) U (pl+1) (U.node (U.root a)).parts (U.node (U.root b)).parts=o at *;have Us:=aC (fun k wr=>A4 o k wr);have Ku:=aC (fun k wr p q=>Kp o k wr p q);have Lx:=aC (fun wr=>Mu o wr);clear Jz A4 Kp Mu hA hpA hpB ih Ln B6 B5 Sz hou;generalize (U.node (U.root a)).parts=pa at *;generalize (U.node (U.root b)).parts=qa at *;have Tv:=aC Sa;have Tu:=aC To;have Oo:=aC Ts;have Qq:=aC Sc;have Rj:=aC Sb;have Ty:=aC Tr;clear Sa To Ts Sc Sb Tr hp he h;generalize hu:eA ar ad X rk U pb pl (U.root a) (U.root b) w=Uu at *;generalize hq:eJ ar ad X pb o w=Q at *;generalize Nk:bG ar ad X rk U a w=Q1 at *;generalize Nc:bG ar ad X rk U b=Q2 at *;clear hq Nk Nc;unfold aM aA at *;go_enter func208,ntmps208;go_wp2_with fail;refine(Tv.out).mono ?_;intro e w1 x;obtain⟨rfl,s1,k1⟩:=Oo.out e w1 x;have Oe:=aC (Tu.out w1 s1);have HN:=aC (Qq.out w1 k1);clear x s1 k1 Tv Oo Tu Qq;go_wp2_with fail;refine(Oe.out).mono ?_;intro e w2 x;obtain⟨rfl,c2,f2,u3⟩:=HN.out e w2 x;have HU:=aC u3;clear x u3 Oe HN;have Qc:pl<2000000000:=by omega
 have Jo:=Rj.out _ HU.out;have K7:=Ty.out _ HU.out;have Ue:=aC (Yn.out _ HU.out);have Oe:=aC (W9.out _ HU.out);obtain⟨n1,n2⟩:=Sv.out _ HU.out;have W0:=aC (fun q=>Km.out _ q HU.out);clear Km HU Rj Ty Yn W9 Sv;rw[hd]at Jo;generalize bs (U.node (U.root a)).name=x1 at *;generalize bs (U.node (U.root b)).name=x2 at *;go_wp2_with fail;generalize w2.setCell ⟨pb,0,none⟩ (.int .i64 ((pl:Int)+1))=w3 at *;refine(Ue.out).mono ?_;rintro e w4⟨rfl,Uw⟩;subst w4;go_wp2_with fail;refine(Oe.out).mono ?_;rintro e w4⟨rfl,Uw⟩;subst w4;go_wp2_with fail
 go_quiet (fail)
 have Kd:=aC (W0.out nq);clear W0 Ue Oe n1 n2 K7 Jo;generalize w3.drewN nq=w5 at *;obtain⟨pv,qv,c1,d1,o1,o2⟩:=Us.out 0 w5 Kd.out;clear d1 o2;rcases aD o1 with⟨rfl,Ou⟩|⟨g,cap2,rfl⟩
 ·have hpa:pa=[]:=List.length_eq_zero_iff.1 Ou;subst hpa;have HE:=aC (Lx.out w5 Kd.out);clear Us Ku Lx Kd o1;go_wp2_with fail;refine wp_loop_rounds 1 ?_;rw[rounds_succ];go_wp2;exact HE.out
 ·clear o1;generalize A6:pa.length=pn at *;go_wp2_with fail
  go_loopg [53] pn (fun gk v53 wr=>∃k,v53=.int .i64 (k:Nat)/\k+gk=pn/\Hid (Gg ar ad X pb n U o pa qa w k wr))
  case atStart=>exact⟨0,rfl,by omega,Kd⟩
  case round=>
   clear Kd;obtain⟨k,rfl,hk,Kd⟩:=hrel
   by_cases Js:k<pn
   ·have hp:pa[k]?=some pa[k]:=List.getElem?_eq_getElem (by omega);generalize pa[k]=p at hp;have hq:qa[k]?=some qa[k]:=List.getElem?_eq_getElem (by omega);generalize qa[k]=q at hq;obtain⟨pv,qv,c1,d1,o1,o2⟩:=Us.out k wr Kd.out;obtain⟨u,Jq,Ml⟩:=Ku.out k wr p q (by omega) hp hq Kd.out
    obtain⟨g1,cp1,rfl⟩:∃g cap,pv=.slice (some ⟨g,0,none⟩) pn cap:=by
     rcases aD o1 with⟨_,Ou⟩|⟨g,cap,h⟩
     ·omega
     ·exact⟨g,cap,h⟩
    rw[Jm]at o2
    obtain⟨g2,cp2,rfl⟩:∃g cap,qv=.slice (some ⟨g,0,none⟩) pn cap:=by
     rcases aD o2 with⟨_,Ou⟩|⟨g,cap,h⟩
     ·omega
     ·exact⟨g,cap,h⟩
    have e1:wr.cell? ⟨g1,k,none⟩=some (.pointer (some ⟨bH ad p,0,none⟩)):=by
     rw[o1.cellAt k (by omega),getElem?_map,hp];rfl
    have e2:wr.cell? ⟨g2,k,none⟩=some (.pointer (some ⟨bH ad q,0,none⟩)):=by
     rw[o2.cellAt k (by omega),getElem?_map,hq];rfl
    have Jt:(k:Int)<(pn:Int):=by omega
    have HC:=aC Jq;have Vk:=aC Ml;clear Jq Ml Kd hp hq o1 o2 Us Ku Lx;generalize hz:eJ ar ad X pb u=Q7 at *;clear hz
    have U9:∀e wr2,Q7 wr.drew e wr2->∃v,e=.returned (.bool v)/\Hid ((v=false->Q (.returned (.bool false)) wr2)/\(v=true->Gg ar ad X pb n U o pa qa w (k+1) wr2)):=fun e wr2 y=>by
     rcases Vk.out 1 e wr2 y with⟨h1,h2⟩|⟨h1,h2⟩
     ·exact⟨false,h1,fun _=>h2,fun e=>by cases e⟩
     ·exact⟨true,h1,fun e=>(by cases e),fun _=>h2⟩
    have I9:=aC U9;clear Vk U9;go_wp2_with fail
    go_region_with (first|(go_at_call 208;refine(HC.out 1).mono ?_;intro e wr2 y;obtain⟨v,rfl,hy⟩:=I9.out e wr2 y))
    all_goals
     cases v with
     |false=>
      have HF:=aC (hy.out.1 rfl);clear hy HC I9;go_wp2;exact HF.out
     |true=>
      have HF:=aC (hy.out.2 rfl);clear hy HC I9;go_wp2_with fail
      go_roundg (pn-(k+1))
      case rel=>exact⟨k+1,by simp,by omega,HF⟩
      case measure=>omega
   ·have Mj:k=pn:=by omega
    subst Mj;have HE:=aC (Lx.out wr Kd.out);have Jt:¬(k:Int)<(k:Int):=by omega
    clear Kd Ku Lx Us;go_wp2;exact HE.out
end
end
section
open Go.RowKit
section
variable {ar:Nm->Nat}{ad:List Nat}{X:Nat->Prop}
def NB(Ln:∀nm,ar nm<=1000000):∀(n:Nat),n<=202->∀(U:TS)(rk:Nat->Nat)(w:World)(pb pl a b:Nat),1<=n->aO ar ad X rk U w->a<U.nodes.length->b<U.nodes.length->w.heap[pb]?=some (.cells #[.int .i64 pl] bU (0,0))->pl<=1000000000->201<=pl+n ->
  Calls prog 208 #[aM ad a,aM ad b,.pointer (some ⟨pb,0,none⟩)] w (eJ ar ad X pb (un n U pl a b) w):=by
 intro n
 induction n with
 |zero=>intro _ _ _ _ _ _ _ _ h;omega
 |succ n ih=>
  intro hn U rk w pb pl a b _ h ha hb hp Nb h201;rw[un]
  by_cases he:U.root a=U.root b
  ·rw[if_pos he];exact Ee h ha hb hp Nb he
  ·rw[if_neg he]
   by_cases Mo:eR<pl+1
   ·rw[if_pos Mo];exact Ef h ha hb hp Nb he Mo
   ·rw[if_neg Mo]
    cases Pk:U.AC (U.root a)with
    |true=>rw[if_pos rfl];exact YG h ha hb hp Nb he Mo Pk
    |false=>
     rw[if_neg (by simp)]
     cases Si:U.AC (U.root b)with
     |true=>rw[if_pos rfl];exact YF h ha hb hp Nb he Mo Pk Si
     |false=>
      rw[if_neg (by simp)]
      by_cases Uc:(U.node (U.root a)).name=(U.node (U.root b)).name
      ·rw[if_pos Uc];have Ld:1<=n:=by unfold eR at Mo;omega
       exact SD h ha hb hp Nb he Mo Pk Si Uc Ln Ld (by omega) (by omega) (fun U1 rk1 w1 p1 a1 b1 c1 c2 c3 c4 c5 c6=>ih (by omega) U1 rk1 w1 pb p1 a1 b1 Ld c1 c2 c3 c4 c5 c6)
      ·rw[if_neg Uc];exact SE h ha hb hp Nb he Mo Pk Si Uc
variable {rk:Nat->Nat}{U:TS}{w:World}{a b:Nat}
def vT(Ln:∀nm,ar nm<=1000000)(h:aO ar ad X rk U w)(ha:a<U.nodes.length)(hb:b<U.nodes.length):Calls prog 160 #[aM ad a,aM ad b] w (mV ar ad X (U.AO a b) w):=by
 have Sl:(w.alloc (.cells #[.int .i64 (0:Nat)] bU)).heap[w.heap.size]?=some (.cells #[.int .i64 (0:Nat)] bU (0,0)):=(MapKept.heap_alloc w _).1;have hc:=NB Ln dF (by decide) U rk (w.alloc (.cells #[.int .i64 (0:Nat)] bU)) w.heap.size 0 a b (by decide) (h.alloc _) ha hb Sl (by decide) (by decide)
 have hq:∀e w',eJ ar ad X w.heap.size (un dF U 0 a b) (w.alloc (.cells #[.int .i64 (0:Nat)] bU)) e w'->∃v,e=.returned (.bool v)/\mV ar ad X (U.AO a b) w (.returned (.bool v)) w':=by
  rintro e w'⟨k1,h1⟩
  have hk:Kn (·∈ad) w w':=((Kn.refl _ w).alloc _).trans' k1 fun i hi hd=>by
   rcases hd with hd|rfl
   ·exact hd
   ·omega
  rcases h1 with⟨h1,h2⟩|⟨U',pl',rk',h1,h2,h3,_⟩
  ·exact⟨false,h2,hk,inl ⟨by unfold AO;rw[h1];rfl,rfl⟩⟩
  ·exact⟨true,h2,hk,inr ⟨U',rk',by unfold AO;rw[h1];rfl,rfl,h3⟩⟩
 have HC:=aC hc;have HQ:=aC hq;clear hc hq Sl h;generalize mV ar ad X (U.AO a b) w=Q at *;generalize hz:eJ ar ad X w.heap.size (un dF U 0 a b) (w.alloc (.cells #[.int .i64 (0:Nat)] bU))=Q1 at *;clear hz;unfold aM aA at *;go_enter func160,ntmps160;go_wp2_with fail;refine(HC.out).mono ?_;intro e w1 x;obtain⟨v,rfl,hq⟩:=HQ.out e w1 x;have HF:=aC hq;clear x hq HQ HC;go_wp2;exact HF.out
end
end
section
section
variable {dm:Nat}{U0 U:TS}
def XI(q:Nd):Prop:=∀x∈q.all,x.k≠21->x.k≠23->x.txt≠[]
def kM{p:Nd}:∀{ps:List Nd},p∈ps->∀x∈p.all,x∈Nd.all.alls ps:=by
 intro ps
 induction ps with
 |nil=>intro h;cases h
 |cons q r ih=>
  intro h x hx;rw[Nd.all.alls];rcases mem_cons.1 h with rfl|h
  ·exact mem_append.2 (inl hx)
  ·exact mem_append.2 (inr (ih h x hx))
def Nd.all_eq(k:Nat)(txt:Nm)(ps:List Nd):(Nd.mk k txt ps).all=.mk k txt ps::Nd.all.alls ps:=by rw[Nd.all]
def lV{m:List (Nm×Nat)}{k:Nm}{j:Nat}(h:m.lookup k=some j):(k,j)∈m:=by
 induction m with
 |nil=>cases h
 |cons x r ih=>
  obtain⟨a,b⟩:=x;rw[List.lookup_cons]at h;split at h
  ·rename_i hk;have:k=a:=by simpa using hk
   cases h;subst this;exact mem_cons_self ..
  ·exact mem_cons_of_mem _ (ih h)
end
end
section
def XP(nd:Nd):Prop:=nd.k=18->nd.txt≠[]/\∀v∈nd.ps,∀q∈v.ps,XI q
def dN{A:Env}{x y:Ky}{m:Mg}(h:x≠y):Env.get ((y,m)::A) x=A.get x:=by rw[Env.get,if_neg h]
def qS{txt:Nm}{ls:List Nm}{k:Nat}{x:Nm}:∀(vs:List Nd)(A:Env),Env.get (vs.foldl (fun A v=>(((1,v.txt),Mg.con ⟨txt,ls,v.ps,k⟩)::A:Env)) A) (0,x)=A.get (0,x):=by
 intro vs
 induction vs with
 |nil=>intro A;rfl
 |cons v r ih=>intro A;rw[foldl_cons,ih,dN (by simp)]
def iI:Nat->Nat->Nm
 |0,_=>[]
 |f+1,n=>if n<10 then[UInt8.ofNat (48+n)]else iI f (n / 10)++[UInt8.ofNat (48+n % 10)]
def dO(n:Nat):Nm:=39::UInt8.ofNat (97+n % 26)::(if n / 26=0 then[]else iI 20 (n / 26))
def cQ(b:Bool)(s:Nm):Nm:=if b then 40::s++[41]else s
def wr(U:TS):Nat->List Nat->Nat->Option (Nm×List Nat)
 |0,_,_=>none
 |n+1,ls,i=>
  if U.AC (U.root i)then
   match ls.idxOf? (U.root i)with
   |some k=>some (dO k,ls)
   |none=>some (dO ls.length,ls++[U.root i])
  else if (U.node (U.root i)).name=bA then
   match (U.node (U.root i)).parts with
   |a::b::_=>
    match wr U n ls a with
    |none=>none
    |some (s1,ls1)=>
     match wr U n ls1 b with
     |none=>none
     |some (s2,ls2)=>some (cQ ((U.node (U.root a)).name==bA) s1++[32,45,62,32]++s2,ls2)
   |_=>none
  else
   match wrL (wr U n) ls (U.node (U.root i)).parts with
   |none=>none
   |some (s,ls')=>some ((U.node (U.root i)).name++s,ls')
 where
 wrL (g:List Nat->Nat->Option (Nm×List Nat)) (ls:List Nat):List Nat->Option (Nm×List Nat)
  |[]=>some ([],ls)
  |p::r=>
   match g ls p with
   |none=>none
   |some (s1,ls1)=>
    match wrL g ls1 r with
    |none=>none
    |some (s2,ls2)=>some (32::cQ (decide (0<(U.node (U.root p)).parts.length)) s1++s2,ls2)
def TS.text(U:TS)(i:Nat):Nm:=((wr U dF [] i).getD ([],[])).1
def cZ(p:PS):List Nm:=p.binds.map fun b=>b.1++[32,58,32]++p.sto.text b.2
end
section
def Lk.fine(s:Lk):Prop:=s.wn=false/\s.wc=false
def Lk.BF{s:Lk}{b:Bool}(h:(s.name b).fine):s.fine/\b=false:=by
 obtain⟨h1,h2⟩:=h;unfold Lk.name at h1 h2;simp only[Bool.or_eq_false_iff]at h1;exact⟨⟨h1.1,h2⟩,h1.2⟩
def mF(A:Env)(x:Nd):Prop:=∃m,A.get (1,x.txt)=some m/\x.ps.length=m.vr.parts.length
def oG{A:Env}{key:Ky}{cnt:Mg->Nat}{np:Nat}{s:Lk}(h:(dS A key cnt np s).fine):s.fine/\∃m,A.get key=some m/\np=cnt m:=by
 obtain⟨h1,h2⟩:=h;unfold dS at h1 h2;simp only[Bool.or_eq_false_iff]at h1 h2
 cases hm:A.get key with
 |none=>rw[hm]at h1;simp at h1
 |some m=>
  rw[hm]at h2;refine⟨⟨h1.1,h2.1⟩,m,rfl,?_⟩;have:=h2.2
  simpa using this
def sG{A:Env}{x:Nd}{s:Lk}(h:(jT A x s).fine):s.fine/\mF A x:=oG h
def fZ{α:Type}{f:Lk->α->Lk}{P:α->Prop}:∀(l:List α)(s:Lk),(∀a∈l,∀s,(f s a).fine->s.fine/\P a)->(l.foldl f s).fine->s.fine/\∀a∈l,P a:=by
 intro l
 induction l with
 |nil=>intro s _ h;exact⟨h,by simp⟩
 |cons a r ih=>
  intro s hf h;rw[foldl_cons]at h;obtain⟨h1,h2⟩:=ih (f s a) (fun b hb=>hf b (mem_cons_of_mem _ hb)) h;obtain⟨h3,h4⟩:=hf a (mem_cons_self ..) s h1;refine⟨h3,fun b hb=>?_⟩;rcases mem_cons.1 hb with rfl|hb
  ·exact h4
  ·exact h2 b hb
def eM:Nat->Env->Nd->Prop
 |0,_,_=>True
 |n+1,A,.mk k txt ps=>
  match k,ps with
  |3,_=>(A.get (0,txt)).isSome=true
  |5,[a]=>eM n (((0,txt),Mg.zero)::A) a
  |6,[a,b]=>eM n A a/\eM n (((0,txt),Mg.zero)::A) b
  |7,[a,b]=>eM n (((0,txt),Mg.zero)::A) a/\eM n (((0,txt),Mg.zero)::A) b
  |16,[p,e]=>(∀x∈p.all,x.k=14->mF A x)/\eM n (cE A (bK p) Mg.zero) e
  |14,ps=>mF A (.mk 14 txt ps)/\∀p∈ps,eM n A p
  |_,ps=>∀p∈ps,eM n A p
def zJ:∀(n:Nat)(A:Env)(nd:Nd)(s:Lk),(lH n A nd s).fine->s.fine/\eM n A nd:=by
 intro n
 induction n with
 |zero=>intro A nd s h;exact⟨h,trivial⟩
 |succ n ih=>
  intro A nd s h;obtain⟨k,txt,ps⟩:=nd;unfold lH at h;unfold eM;split at h
  ·obtain⟨h1,h2⟩:=Lk.BF h;refine⟨h1,?_⟩
   cases hx:A.get (0,txt)with
   |none=>rw[hx]at h2;cases h2
   |some m=>rfl
  ·exact ih _ _ _ h
  ·obtain⟨h1,h2⟩:=ih _ _ _ h;obtain⟨h3,h4⟩:=ih _ _ _ h1;exact⟨h3,h4,h2⟩
  ·obtain⟨h1,h2⟩:=ih _ _ _ h;obtain⟨h3,h4⟩:=ih _ _ _ h1;exact⟨h3,h4,h2⟩
  ·rename_i p e;obtain⟨h1,h2⟩:=ih _ _ _ h;obtain⟨h3,_⟩:=Lk.BF h1;obtain⟨h4,h5⟩:=fZ (P:=fun x=>mF A x) _ _ (fun a _ s hs=>sG hs) h3;exact⟨h4,fun x hx hk=>h5 x (List.mem_filter.2 ⟨hx,by simpa using hk⟩),h2⟩
  ·obtain⟨h1,h2⟩:=fZ (P:=fun p=>eM n A p) _ _ (fun a _ s hs=>ih _ _ _ hs) h;obtain⟨h3,h4⟩:=sG h1;exact⟨h3,h4,h2⟩
  ·obtain⟨h1,h2⟩:=fZ (P:=fun p=>eM n A p) _ _ (fun a _ s hs=>ih _ _ _ hs) h;refine⟨h1,?_⟩
   split
   all_goals first|exact h2|(exfalso;simp_all;done)
structure Knows(A A':Env):Prop where
 var:∀x,(A.get (0,x)).isSome=true->(A'.get (0,x)).isSome=true
 con:∀x,A'.get (1,x)=A.get (1,x)
def Knows.refl(A:Env):Knows A A:=⟨fun _ h=>h,fun _=>rfl⟩
def Knows.bind{A A':Env}(h:Knows A A')(x:Nm)(m m':Mg):Knows (((0,x),m)::A) (((0,x),m')::A'):=by
 refine⟨fun y hy=>?_,fun y=>?_⟩
 ·rw[Env.get]at hy ⊢
  split
  ·rfl
  ·rename_i Ju;rw[if_neg Ju]at hy;exact h.var y hy
 ·rw[dN (by simp),dN (by simp)];exact h.con y
def mF.knows{A A':Env}(h:Knows A A'){x:Nd}(hc:mF A x):mF A' x:=by
 obtain⟨m,h1,h2⟩:=hc;exact⟨m,by rw[h.con];exact h1,h2⟩
def Knows.binds{A A':Env}(h:Knows A A')(m:Mg):∀vs:List Nm,Knows (cE A vs m) (cE A' vs m):=by
 intro vs
 induction vs generalizing A A' with
 |nil=>exact h
 |cons v r ih=>exact ih (h.bind v m m)
def Knows.DJ{A A':Env}(h:Knows A A')(m:Mg):∀vs:List (Nm×Nat),Knows (cE A (vs.map Prod.fst) m) (eD A' vs):=by
 intro vs
 induction vs generalizing A A' with
 |nil=>exact h
 |cons v r ih=>exact ih (h.bind v.1 m _)
def eM.knows:∀(n:Nat)(A A':Env)(nd:Nd),Knows A A'->eM n A nd->eM n A' nd:=by
 intro n
 induction n with
 |zero=>intro _ _ _ _ _;trivial
 |succ n ih=>
  intro A A' nd hk h;obtain⟨k,txt,ps⟩:=nd;unfold eM at h ⊢
  split
  ·exact hk.var _ h
  ·exact ih _ _ _ (hk.bind _ _ _) h
  ·exact⟨ih _ _ _ hk h.1,ih _ _ _ (hk.bind _ _ _) h.2⟩
  ·exact⟨ih _ _ _ (hk.bind _ _ _) h.1,ih _ _ _ (hk.bind _ _ _) h.2⟩
  ·exact⟨fun x hx Pl=>(h.1 x hx Pl).knows hk,ih _ _ _ (hk.binds _ _) h.2⟩
  ·exact⟨h.1.knows hk,fun p hp=>ih _ _ _ hk (h.2 p hp)⟩
  ·have h2:∀p∈ps,eM n A p:=by
    split at h
    all_goals first|exact h|(exfalso;simp_all;done)
   exact fun p hp=>ih _ _ _ hk (h2 p hp)
end
section
def Iq(ar:Nm->Nat)(ls:List Nm)(q:Nd):Prop:=∀x∈q.all,(x.k=21->x.txt∈ls)/\(x.k=22->x.ps.length=ar x.txt)
structure Iz(ar:Nm->Nat)(v:Vr):Prop where
 len:v.AE.length=ar v.data
 nodup:v.AE.Nodup
 parts:∀q∈v.parts,Iq ar v.AE q
structure Gj(ar:Nm->Nat)(A:Env):Prop where
 type:∀nm m,A.get (2,nm)=some m->m.AE=ar nm
 con:∀c m,A.get (1,c)=some m->Iz ar m.vr
def UL{A:Env}{ls:List Nm}{l:List Nd}{s:Lk}(h:(FJ A ls l s).fine):s.fine/\∀x∈l,(x.k=21->x.txt∈ls)/\(x.k=22->∃m,A.get (2,x.txt)=some m/\x.ps.length=m.AE):=by
 refine fZ (P:=fun x=>(x.k=21->x.txt∈ls)/\(x.k=22->∃m,A.get (2,x.txt)=some m/\x.ps.length=m.AE)) l s (fun a _ s hs=>?_) h;split at hs
 ·rename_i hk;obtain⟨h1,h2⟩:=Lk.BF hs;refine⟨h1,fun _=>by simpa using h2,fun e=>by omega⟩
 ·rename_i hk;split at hs
  ·obtain⟨h1,h2⟩:=oG hs;exact⟨h1,fun e=>absurd e hk,fun _=>h2⟩
  ·rename_i Jy;exact⟨hs,fun e=>absurd e hk,fun e=>absurd e Jy⟩
def sM{l:List Nm}(h:bZ l=false):l.Nodup:=by
 unfold bZ at h
 simpa using h
def qE{A:Env}{txt:Nm}{ps:List Nd}{s:Lk}(h:(jY A txt ps s).fine) :
  s.fine/\A.get (2,txt)=none/\((only 19 ps).map Nd.txt).Nodup/\(∀v∈only 20 ps,A.get (1,v.txt)=none) /\
   ∀v∈only 20 ps,∀q∈v.ps,∀x∈q.all,(x.k=21->x.txt∈(only 19 ps).map Nd.txt)/\(x.k=22->∃m,Env.get (((2,txt),Mg.type ((only 19 ps).map Nd.txt).length)::A) (2,x.txt)=some m/\x.ps.length=m.AE):=by
 unfold jY at h;simp only at h
 obtain⟨h1,h2⟩:=fZ (P:=fun v:Nd=>∀q∈v.ps,∀x∈q.all,(x.k=21->x.txt∈(only 19 ps).map Nd.txt)/\(x.k=22->∃m,Env.get (((2,txt),Mg.type ((only 19 ps).map Nd.txt).length)::A) (2,x.txt)=some m/\x.ps.length=m.AE)) _ _ (fun v _ s hs=>by
  exact fZ (P:=fun q:Nd=>∀x∈q.all,(x.k=21->x.txt∈(only 19 ps).map Nd.txt)/\(x.k=22->∃m,Env.get (((2,txt),Mg.type ((only 19 ps).map Nd.txt).length)::A) (2,x.txt)=some m/\x.ps.length=m.AE)) _ _ (fun q _ s hs=>UL hs) hs) h
 obtain⟨h3,h4⟩:=fZ (P:=fun c:Nm=>A.get (1,c)=none) _ _ (fun c _ s hs=>by
  obtain⟨a,b⟩:=Lk.BF hs;refine⟨a,?_⟩
  cases hx:A.get (1,c)with
  |none=>rfl
  |some m=>rw[hx]at b;cases b) h1
 obtain⟨h5,h6⟩:=Lk.BF h3;simp only[Bool.or_eq_false_iff]at h6;refine⟨h5,?_,sM h6.1.2,fun v hv=>h4 _ (List.mem_map.2 ⟨v,hv,rfl⟩),h2⟩
 cases hx:A.get (2,txt)with
 |none=>rfl
 |some m=>rw[hx]at h6;simp at h6
def lC{txt:Nm}{ls:List Nm}{k:Nat}{x:Nm}:∀(vs:List Nd)(A:Env)(m:Mg),Env.get (vs.foldl (fun A v=>(((1,v.txt),Mg.con ⟨txt,ls,v.ps,k⟩)::A:Env)) A) (1,x)=some m->(∃v∈vs,m=Mg.con ⟨txt,ls,v.ps,k⟩)\/A.get (1,x)=some m:=by
 intro vs
 induction vs with
 |nil=>intro A m h;exact inr h
 |cons v r ih=>
  intro A m h;rw[foldl_cons]at h;rcases ih _ m h with⟨u,hu,h1⟩|h1
  ·exact inl ⟨u,mem_cons_of_mem _ hu,h1⟩
  ·rw[Env.get]at h1;split at h1
   ·exact inl ⟨v,mem_cons_self ..,(Option.some.inj h1).symm⟩
   ·exact inr h1
def gX{txt:Nm}{ls:List Nm}{k:Nat}{x:Nm}:∀(vs:List Nd)(A:Env),Env.get (vs.foldl (fun A v=>(((1,v.txt),Mg.con ⟨txt,ls,v.ps,k⟩)::A:Env)) A) (2,x)=A.get (2,x):=by
 intro vs
 induction vs with
 |nil=>intro A;rfl
 |cons v r ih=>intro A;rw[foldl_cons,ih,dN (by simp)]
def pR{ar:Nm->Nat}{A:Env}{txt:Nm}{ps:List Nd}{s:Lk}(h:Gj ar A)(hf:(jY A txt ps s).fine)(ha:ar txt=(only 19 ps).length):Gj ar (cA A txt ps):=by
 obtain⟨_,h1,h2,_,h4⟩:=qE hf
 have Pi:∀nm m,Env.get (((2,txt),Mg.type ((only 19 ps).map Nd.txt).length)::A) (2,nm)=some m->m.AE=ar nm:=by
  intro nm m hm;rw[Env.get]at hm;split at hm
  ·rename_i e;cases hm;have e:nm=txt:=(Prod.mk.inj e).2;rw[e,ha];simp[Mg.type]
  ·exact h.type nm m hm
 refine⟨fun nm m hm=>?_,fun c m hm=>?_⟩
 ·unfold cA at hm;rw[gX]at hm;exact Pi nm m hm
 ·unfold cA at hm;rcases lC _ _ m hm with⟨v,hv,rfl⟩|hm
  ·refine⟨by rw[show (Mg.con _).vr.data=txt from rfl,ha];simp[Mg.con],h2,fun q hq x hx=>?_⟩;obtain⟨h5,h6⟩:=h4 v hv q hq x hx;refine⟨h5,fun hk=>?_⟩;obtain⟨m',Tc,hl⟩:=h6 hk;rw[hl];exact Pi _ _ Tc
  ·rw[dN (by simp)]at hm;exact h.con c m hm
def nS(l:List Nd)(nm:Nm):Nat:=
 if nm=bA then 2 else if nm=gP then 1 else if nm=eI\/nm=dZ\/nm=bY then 0
 else match l.find? (fun d=>d.k==18 && d.txt==nm)with
  |some d=>(only 19 d.ps).length
  |none=>1000000
def tM(A:Env)(l:List Nd):Prop:=(∀nm,nm=gP\/nm=eI\/nm=dZ\/nm=bY->(A.get (2,nm)).isSome=true)/\∀d∈l,d.k=18->(A.get (2,d.txt)).isSome=true
def QN{a b:List Nd}{d:Nd}{A:Env}(hk:d.k=18)(hn:A.get (2,d.txt)=none)(ht:tM A a)(Ju:d.txt≠bA):nS (a++d::b) d.txt=(only 19 d.ps).length:=by
 have Qf:¬(d.txt=gP\/d.txt=eI\/d.txt=dZ\/d.txt=bY):=fun e=>by
  have:=ht.1 _ e;rw[hn]at this;cases this
 unfold nS;rw[if_neg Ju,if_neg (fun e=>Qf (inl e)),if_neg (fun e=>Qf (inr e)),List.find?_append]
 have Pz:a.find? (fun x=>x.k==18 && x.txt==d.txt)=none:=by
  rw[List.find?_eq_none];intro x hx hc;simp only[Bool.and_eq_true,beq_iff_eq]at hc;have:=ht.2 x hx hc.1;rw[hc.2,hn]at this;cases this
 rw[Pz];simp[hk]
end
section
structure dR(U τ:TS):Prop where
 fnd:τ.fnd=U.fnd
 given:τ.given=U.given
 len:U.nodes.length<=τ.nodes.length
 node:∀i,i<U.nodes.length->τ.node i=U.node i
def dR.refl(U:TS):dR U U:=⟨rfl,rfl,le_refl _,fun _ _=>rfl⟩
def dR.trans{a b c:TS}(h:dR a b)(k:dR b c):dR a c:=⟨k.fnd.trans h.fnd,k.given.trans h.given,le_trans h.len k.len,fun i hi=>(k.node i (lt_of_lt_of_le hi h.len)).trans (h.node i hi)⟩
def dR.new(U:TS)(t:TN):dR U (U.new t).2:=⟨rfl,rfl,by rw[TS.BD];omega,fun i hi=>by rw[TS.BB,if_neg (by omega)]⟩
def dR.root{U τ:TS}(h:dR U τ)(i:Nat):τ.root i=U.root i:=by unfold TS.root;rw[h.fnd]
def IQ{U:TS}{T:List Nat->Nat->Bool}{d n:Nat}(ih:∀{acc acc':List Nat}{i:Nat}{τ:TS}{m:List (Nat×Nat)},dR U τ->i<U.nodes.length->wk U T n acc i=some (acc',true)->∃j τ' m',inst d n τ m i=some (j,τ',m')/\dR τ τ') :
  ∀(ps:List Nat) {acc acc':List Nat}{τ:TS}{m:List (Nat×Nat)},dR U τ->(∀p∈ps,p<U.nodes.length)->wk.wkL (wk U T n) acc ps=some (acc',true)->∃js τ' m',inst.instL (inst d n) τ m ps=some (js,τ',m')/\dR τ τ'/\js.length=ps.length:=by
 intro ps
 induction ps with
 |nil=>intro acc acc' τ m h _ _;exact⟨[],τ,m,rfl,dR.refl _,rfl⟩
 |cons p r ihr=>
  intro acc acc' τ m h hp hw;rw[wk.wkL]at hw
  cases hg:wk U T n acc p with
  |none=>rw[hg]at hw;cases hw
  |some y=>
   obtain⟨a1,b1⟩:=y;rw[hg]at hw
   cases b1 with
   |false=>cases hw
   |true=>
    obtain⟨j,τ1,m1,h1,h2⟩:=ih (τ:=τ) (m:=m) h (hp p (mem_cons_self ..)) hg;obtain⟨js,τ2,m2,h3,h4,h5⟩:=ihr (τ:=τ1) (m:=m1) (h.trans h2) (fun q hq=>hp q (mem_cons_of_mem _ hq)) hw;refine⟨j::js,τ2,m2,?_,h2.trans h4,by simp[h5]⟩;rw[inst.instL,h1];simp only;rw[h3]
def OX{U:TS}(Lb:U.Rg){T:List Nat->Nat->Bool}{d:Nat}:∀{n:Nat}{acc acc':List Nat}{i:Nat}{τ:TS}{m:List (Nat×Nat)},dR U τ->i<U.nodes.length->wk U T n acc i=some (acc',true)->∃j τ' m',inst d n τ m i=some (j,τ',m')/\dR τ τ':=by
 intro n
 induction n with
 |zero=>intro acc acc' i τ m _ _ h;cases h
 |succ n ih=>
  intro acc acc' i τ m h hi hw;have hr:=Lb.AK hi;rw[wk]at hw;split at hw
  ·rw[inst,h.root];have hl:τ.AC (U.root i)=U.AC (U.root i):=by unfold TS.AC;rw[h.node _ hr]
   by_cases h1:τ.AC (U.root i)=true
   ·rw[if_pos h1]
    split
    ·exact⟨_,_,_,rfl,dR.refl _⟩
    ·split
     ·exact⟨_,_,_,rfl,dR.refl _⟩
     ·exact⟨_,_,_,rfl,dR.new _ _⟩
   ·rw[if_neg h1,h.node _ hr];obtain⟨js,τ',m',h2,h3,_⟩:=IQ (fun {acc acc' i τ m} a b c=>ih a b c) (τ:=τ) (m:=m) _ h (fun p hp=>Lb.AQ hr hp) hw;rw[h2];exact⟨_,_,_,rfl,h3.trans (dR.new _ _)⟩
  ·cases hw
def TS.CJ{U:TS}(Lb:U.Rg){i:Nat}(hi:i<U.nodes.length)(hf:U.fits i=true)(d:Nat):∃j τ m,Go.Proofs.YthakgdfmbknakaaGreatDoor.inst d dF U [] i=some (j,τ,m)/\dR U τ:=by
 obtain⟨a,ha⟩:=U.BR i;rw[hf]at ha;exact OX Lb (dR.refl U) hi ha
end
section
open Go.RowKit
def uW:prog.underlying 111=some (.slice aG):=by kernel_rfl
def LZ:(prog.info? aG).map (fun i=>(i.zero,i.size,i.bytes))=some (some (.pointer none),1,8):=by kernel_rfl
def tY{w:World}{base:Nat}{v:Value}{ns:List Nat}{ty:TypeId}(k:Nat)(Jr:w.ownsRow base aG 1 v ns.length (ns.map aA))(hn:ns.length<=100000000)(hb:base<=w.heap.size) :
  ∃v' w',(Builtin.append_ #[111,111] ty #[v,.slice (some ⟨w.heap.size,0,none⟩) 1 1]).run prog (w.alloc (.cells #[.pointer (some ⟨k,0,none⟩)] aG))=.ok v' w' /\
   w'.ownsRow base aG 1 v' (ns++[k]).length ((ns++[k]).map aA)/\(w.alloc (.cells #[.pointer (some ⟨k,0,none⟩)] aG)).grownBy w' v.ownBlock/\(∀g,v'.ownBlock=some g->v.ownBlock=some g\/w.heap.size<g)/\∃g cap,v'=.slice (some ⟨g,0,none⟩) (ns++[k]).length cap:=by
 rw[length_append,map_append];exact gG uW LZ (by decide) rfl rfl Jr hn hb
def pV{ops:Array Oper}{rest:List Oper}{o:Oper}{a:Act}{Q:Exit->Act->World->Prop}{w:World}(Vx:o.guard=none)(s x:Operand)
  (ho:o.op=.call { callee:=.builtin .append,args:=#[s,x],argTypes:=#[111,111] }) {base:Nat}{v:Value}{ns:List Nat} (k:Nat)
  (Jr:w.ownsRow base aG 1 v ns.length (ns.map aA)) (hn:ns.length<=100000000) (hb:base<=w.heap.size) (hs:a.eval s=v) (hx:a.eval x=.slice (some ⟨w.heap.size,0,none⟩) 1 1)
  (h:∀v' w',w'.ownsRow base aG 1 v' (ns++[k]).length ((ns++[k]).map aA)->(w.alloc (.cells #[.pointer (some ⟨k,0,none⟩)] aG)).grownBy w' v.ownBlock->Hid (∀g,v'.ownBlock=some g->v.ownBlock=some g\/w.heap.size<g)->wpList prog ops Q rest (a.put o.dst v') w') :
  wpList prog ops Q (o::rest) a (w.alloc (.cells #[.pointer (some ⟨k,0,none⟩)] aG)):=by
 obtain⟨v',w',hr,h2,h3,h4,_⟩:=tY (ty:=o.type) k Jr hn hb;refine wpList_plain Vx fun K hK=>?_;unfold Oper.wp execOp;simp only[ho,resolve,invoke,builtin,Sem.run_bind,Sem.run_pure,Result.andThen_ok,List.map_toArray,map_cons,map_nil,hs,hx,hr];exact hK _ _ (h v' w' h2 h3 h4)
end
section
open Go.RowKit
def OY{d n:Nat}(ih:∀{U U':TS}{m m':List (Nat×Nat)}{i j:Nat},inst d n U m i=some (j,U',m')->dR U U'):∀(ps:List Nat) {U U':TS}{m m':List (Nat×Nat)}{js:List Nat},inst.instL (inst d n) U m ps=some (js,U',m')->dR U U'/\js.length=ps.length:=by
 intro ps
 induction ps with
 |nil=>intro U U' m m' js h;rw[inst.instL]at h;cases h;exact⟨dR.refl _,rfl⟩
 |cons p r ihr=>
  intro U U' m m' js h;rw[inst.instL]at h
  cases hx:inst d n U m p with
  |none=>rw[hx]at h;cases h
  |some y=>
   obtain⟨j,U1,m1⟩:=y;rw[hx]at h;simp only at h
   cases hy:inst.instL (inst d n) U1 m1 r with
   |none=>rw[hy]at h;cases h
   |some z=>
    obtain⟨js2,U2,m2⟩:=z;rw[hy]at h;cases h;obtain⟨a,b⟩:=ihr hy;exact⟨(ih hx).trans a,by simp[b]⟩
def oH{d:Nat}:∀{n:Nat}{U U':TS}{m m':List (Nat×Nat)}{i j:Nat},inst d n U m i=some (j,U',m')->dR U U':=by
 intro n
 induction n with
 |zero=>intro U U' m m' i j h;cases h
 |succ n ih=>
  intro U U' m m' i j h;rw[inst]at h;split at h
  ·split at h
   ·cases h;exact dR.refl _
   ·split at h
    ·cases h;exact dR.refl _
    ·cases h;exact dR.new _ _
  ·cases hx:inst.instL (inst d n) U m (U.node (U.root i)).parts with
   |none=>rw[hx]at h;cases h
   |some z=>
    obtain⟨js2,U2,m2⟩:=z;rw[hx]at h;cases h;exact(OY (fun {_ _ _ _ _ _} h=>ih h) _ hx).1.trans (dR.new _ _)
def sB(n:Nat):madeCells #[.pointer none] n=(replicate n (pointer none)).toArray:=by
 apply Array.ext
 ·simp[madeCells]
 ·intro i h1 h2;simp[madeCells,Nat.mod_one]
section
variable {ar:Nm->Nat}{lb d:Nat}
def pY(ar:Nm->Nat)(ad:List Nat)(X:Nat->Prop)(lb d n:Nat)(U:TS)(w:World)(g:Nat)(pv:Value)(ps js':List Nat)(U':TS)(m':List (Nat×Nat))(k:Nat)(wr:World):Prop:=
 ∃l rk' jsk Uk mk js2,inst.instL (inst d n) Uk mk (ps.drop k)=some (js2,U',m')/\jsk++js2=js'/\jsk.length=k/\(∀q∈jsk,q<Uk.nodes.length)/\dR U Uk/\aO ar (ad++l) (fun b=>X b\/b=g) rk' Uk wr/\LM (ad++l) mk lb wr /\
  Kn (fun k=>k∈ad\/k=lb) w wr/\wr.heap[g]?=some (.cells (jsk.map (aM (ad++l))++replicate (ps.length-k) (pointer none)).toArray aG (0,0))/\wr.ownsRow 0 aG 1 pv ps.length (ps.map (aM ad))/\(∀b∈l,w.heap.size<=b)
def LM.BT{ad:List Nat}{m:List (Nat×Nat)}{w:World}{k:Nat}{c:Array Value}{t:TypeId}{f:Nat×Nat}(h:LM ad m lb w)(hk:w.heap[k]?=some (.cells c t f)):k≠lb:=by
 rintro rfl;obtain⟨n,f,⟨es,cl,h1,_⟩,_⟩:=h;rw[hk]at h1;cases h1
def lT{ad:List Nat}(l js:List Nat)(h:∀q∈js,q<ad.length):js.map (aM (ad++l))=js.map (aM ad):=
 List.map_congr_left fun q hq=>eF l (h q hq)
def YP{ad l js:List Nat}{k pl j:Nat}(hk:js.length=k)(hl:k<pl):((js.map (aM (ad++l))++replicate (pl-k) (pointer none)).toArray).setIfInBounds k (aM (ad++l) j)=((js++[j]).map (aM (ad++l))++replicate (pl-(k+1)) (pointer none)).toArray:=by
 subst hk;obtain⟨q,hq⟩:∃q,pl-js.length=q+1:=⟨pl-js.length-1,by omega⟩;have Ki:pl-(js.length+1)=q:=by omega
 rw[hq,Ki,List.replicate_succ];simp[List.setIfInBounds_toArray]
def pY.step{n:Nat}{ad:List Nat}{X:Nat->Prop}{U U':TS}{w wr:World}{g k p:Nat}{pv:Value}{ps js':List Nat}{m':List (Nat×Nat)}(h:pY ar ad X lb d n U w g pv ps js' U' m' k wr)(hg:w.heap.size<=g)(hp:ps[k]?=some p)(Nb:p<U.nodes.length)(hX:∀b,X b->b<w.heap.size)(had:ad.length=U.nodes.length)(w9:pv.ownBlock≠some g) :
  ∃l rk' Uk mk j1 U1 m1,inst d n Uk mk p=some (j1,U1,m1)/\p<Uk.nodes.length/\aO ar (ad++l) (fun b=>X b\/b=g) rk' Uk wr/\LM (ad++l) mk lb wr/\(∀b,(X b\/b=g)->b<wr.heap.size)/\aM ad p=aM (ad++l) p /\
   ∀e wr2,mW ar (ad++l) (fun b=>X b\/b=g) lb (j1,U1,m1) wr e wr2->∃bj,e=.returned (aA bj)/\wr2.frozen? ⟨g,k,none⟩=false/\(wr2.cell? ⟨g,k,none⟩).isSome=true/\pY ar ad X lb d n U w g pv ps js' U' m' (k+1) (wr2.setCell ⟨g,k,none⟩ (aA bj)):=by
 obtain⟨l,rk',jsk,Uk,mk,js2,h1,h2,h3,h4,h5,h6,h7,h8,h9,I6,L4⟩:=h;have Lv:=(List.getElem?_eq_some_iff.1 hp).1
 have hd:ps.drop k=p::ps.drop (k+1):=by
  rw[List.drop_eq_getElem_cons Lv];rw[List.getElem?_eq_getElem Lv]at hp;rw[Option.some.inj hp]
 rw[hd,inst.instL]at h1
 cases hw:inst d n Uk mk p with
 |none=>rw[hw]at h1;cases h1
 |some y=>
  obtain⟨j1,U1,m1⟩:=y;rw[hw]at h1;simp only at h1
  cases hy:inst.instL (inst d n) U1 m1 (ps.drop (k+1))with
  |none=>rw[hy]at h1;cases h1
  |some z=>
   obtain⟨js3,U3,m3⟩:=z;rw[hy]at h1;cases h1;have Qo:=aB h9;refine⟨l,rk',Uk,mk,j1,U1,m1,hw,lt_of_lt_of_le Nb h5.len,h6,h7,?_,?_,?_⟩
   ·rintro b (hb|rfl)
    ·exact lt_of_lt_of_le (hX b hb) h8.size
    ·exact Qo
   ·rw[eF l (by rw[had];exact Nb)]
   ·rintro e wr2⟨l2,rk2,e1,e2,e3,e4,e5,e6⟩;have hgm:g∉ad++l:=h6.BI h9 (fun c f e=>absurd (aN (congrArg some e)) (by decide));have S6:g≠lb:=h7.BT h9
    have Un:wr2.heap[g]?=some (.cells (jsk.map (aM (ad++l))++replicate (ps.length-k) (pointer none)).toArray aG (0,0)):=by
     rw[e5.block g Qo (fun hc=>hc.elim hgm S6)];exact h9
    have Mc:∀q∈jsk,q<(ad++l).length:=fun q hq=>by rw[h6.len];exact h4 q hq
    rw[<- lT l2 jsk Mc,append_assoc]at Un;rw[append_assoc]at e1 e3 e4
    have Kh:∃old,wr2.cell? ⟨g,k,none⟩=some old:=by
     refine⟨.pointer none,?_⟩;simp[cell?,Un];rw[List.getElem?_append_right (by simp[h3])];simp[h3,List.getElem?_replicate];omega
    have Jn:(wr2.setCell ⟨g,k,none⟩ (aM (ad++(l++l2)) j1)).heap[g]?=some (.cells ((jsk++[j1]).map (aM (ad++(l++l2)))++replicate (ps.length-(k+1)) (pointer none)).toArray aG (0,0)):=by
     rw[heap_setCell_same _ _ _ _ _ _ Un];simp only[Option.some.injEq];rw[YP h3 Lv]
    have Pp:∀q,q≠g->(wr2.setCell ⟨g,k,none⟩ (aM (ad++(l++l2)) j1)).heap[q]?=wr2.heap[q]?:=fun q hq=>Below.heap_setCell _ _ _ _ hq
    have Jz:aO ar (ad++(l++l2)) (fun b=>X b\/b=g) rk2 U1 (wr2.setCell ⟨g,k,none⟩ (aM (ad++(l++l2)) j1)):=by
     refine e3.kept (fun q hq=>Pp q ?_) (fun q c f hq _=>Pp q fun e=>hq (inr e));rintro rfl;exact e3.BI Un (fun c f e=>absurd (aN (congrArg some e)) (by decide)) hq
    refine⟨bH (ad++(l++l2)) j1,e1,frozen_of_row _ _ _ _ _ Un,by obtain⟨o,ho⟩:=Kh;rw[ho];rfl,l++l2,rk2,jsk++[j1],U1,m1,js3,hy,by simpa using h2,by simp[h3],?_,h5.trans (oH hw),Jz,e4.kept (Pp lb (Ne.symm S6)),?_,Jn,?_,?_⟩
    ·intro q hq;rcases mem_append.1 hq with hq|hq
     ·exact lt_of_lt_of_le (h4 q hq) (oH hw).len
     ·rw[mem_singleton.1 hq];exact e2
    ·refine(h8.trans' e5 fun q hq hc=>?_).set (inr hg) _;rcases hc with hc|hc
     ·rcases mem_append.1 hc with hc|hc
      ·exact inl hc
      ·have:=L4 q hc;omega
     ·exact inr hc
    ·refine aE (aE I6 fun q c f _ hc=>e5.block q (aB hc) fun hd=>?_) fun q c f ho hc=>Pp q fun e=>?_
     ·rcases hd with hd|rfl
      ·exact h6.BI hc (fun c f e=>absurd (aN (congrArg some e)) (by decide)) hd
      ·exact h7.BT hc rfl
     ·subst e;exact w9 ho
    ·intro b hb;rcases mem_append.1 hb with hb|hb
     ·exact L4 b hb
     ·exact le_trans h8.size (e6 b hb)
def aO.narrow{ad:List Nat}{X Y:Nat->Prop}{rk:Nat->Nat}{U:TS}{w:World}(h:aO ar ad X rk U w)(hY:∀b,Y b->X b):aO ar ad Y rk U w:=
 ⟨h.ok,h.len,h.lt,fun i hi=>by
  obtain⟨pv,fv,a1,a2,a3,a4⟩:=h.node i hi
  exact⟨pv,fv,a1,a2,fun g hg hy=>a3 g hg (hY g hy),a4⟩⟩
def pY.start{n:Nat}{ad:List Nat}{X:Nat->Prop}{rk:Nat->Nat}{U U':TS}{w w1:World}{pv:Value}{ps js':List Nat}{m m':List (Nat×Nat)}(h:aO ar ad X rk U w1)(hm:LM ad m lb w1)(hk:Kn (·∈ad) w w1)(hw:inst.instL (inst d n) U m ps=some (js',U',m'))(hr:w1.ownsRow 0 aG 1 pv ps.length (ps.map (aM ad))) :
  pY ar ad X lb d n U w w1.heap.size pv ps js' U' m' 0 (w1.alloc (.cells (madeCells #[.pointer none] ps.length) aG)):=by
 refine⟨[],rk,[],U,m,js',by simpa using hw,rfl,rfl,by simp,dR.refl _,?_,?_,?_,?_,hr.alloc _,by simp⟩
 ·rw[append_nil];have h1:=h.alloc (.cells (madeCells #[.pointer none] ps.length) aG);refine⟨h1.ok,h1.len,h1.lt,fun i hi=>?_⟩;obtain⟨pv2,fv,a1,a2,a3,a4⟩:=h1.node i hi;refine⟨pv2,fv,a1,a2,fun g hg hx=>?_,a4⟩;rcases hx with hx|rfl
  ·exact a3 g hg hx
  ·obtain⟨pv3,fv3,b1,b2,_⟩:=h.node i hi;rw[Below.heap_alloc _ _ _ (aB b1),b1]at a1
   have e:pv3=pv2:=by
    have:=Option.some.inj a1;simp at this;exact this.1
   subst e;have:=(b2.lt _ hg).2;omega
 ·rw[append_nil];exact hm.kept (Below.heap_alloc _ _ _ hm.lt)
 ·exact(hk.wide fun q _ hq=>inl hq).alloc _
 ·rw[(MapKept.heap_alloc w1 _).1,sB];rfl
def pY.fin{n:Nat}{ad:List Nat}{X:Nat->Prop}{U U':TS}{w wr:World}{g r:Nat}{pv:Value}{ps js':List Nat}{m':List (Nat×Nat)}(h:pY ar ad X lb d n U w g pv ps js' U' m' ps.length wr)(hr:r<U.nodes.length)(Lu:(U.node r).parts=ps)(hl:U.AC r=false)(had:ad.length=U.nodes.length)(hX:∀b,X b->b<w.heap.size)(hg:w.heap.size<=g)(Lb:U.Ok ar) :
  wr.cell? ⟨bH ad r,0,none⟩=some (.string (bs (U.node r).name))/\mW ar ad X lb (U'.nodes.length,(U'.named (U.node r).name js').2,m') w (.returned (aA wr.heap.size)) (wr.alloc (.cells #[.string (bs (U.node r).name),.slice (some ⟨g,0,none⟩) ps.length ps.length,.pointer none,.int .i64 0] aT)):=by
 obtain⟨l,rk',jsk,Uk,mk,js2,h1,h2,h3,h4,h5,h6,h7,h8,h9,I6,L4⟩:=h;rw[List.drop_length,inst.instL]at h1;cases h1;rw[append_nil]at h2;subst h2;have Uz:r<U'.nodes.length:=lt_of_lt_of_le hr h5.len;obtain⟨_,_,c0,_⟩:=h6.cell Uz;rw[h5.node r hr,jU l (by rw[had];exact hr)]at c0;refine⟨c0,l++[wr.heap.size],rk',?_,?_,?_,?_,?_,?_⟩
 ·rw[<- append_assoc];unfold aM;rw[<- h6.len,fC]
 ·simp[TS.named,TS.new]
 ·rw[<- append_assoc]
  have Oc:ps.length<=maxLen:=by
   rcases I6.2 with⟨_,e⟩|⟨_,_,_,_,_,_,e1,e2,_⟩
   ·rw[e];exact zero_le _
   ·omega
  refine(h6.narrow fun b hb=>inl hb).new (t:=⟨(U.node r).name,jsk,0⟩) (pv:=.slice (some ⟨g,0,none⟩) ps.length ps.length) h4 (fun e=>?_) (fun e=>?_) ?_ (fun g' Pe hx=>?_)
  ·unfold TS.AC at hl;have e':(U.node r).name=[]:=e;rw[e']at hl;cases hl
  ·show jsk.length=ar (U.node r).name;rw[h3,<- Lu];exact(Lb.parts r _ (AR hr)).2.2 e
  ·show wr.ownsRow 0 aG 1 (.slice (some ⟨g,0,none⟩) ps.length ps.length) jsk.length (jsk.map (aM (ad++l)));rw[h3];refine⟨by simp[h3],inr ⟨g,ps.length,_,rfl,zero_le _,h9,le_refl _,Oc,?_,?_⟩⟩
   ·simp[h3]
   ·simp only[Nat.sub_self,List.replicate_zero,append_nil];simp;rw[List.take_of_length_le (by simp[h3])]
  ·have:g=g':=by simpa [ownBlock]using Pe
   subst this;have:=hX g hx;omega
 ·rw[<- append_assoc];exact(h7.kept (Below.heap_alloc _ _ _ h7.lt)).more _ fun e=>Nat.lt_irrefl _ (h6.BJ e)
 ·exact h8.alloc _
 ·intro b hb;rcases mem_append.1 hb with hb|hb
  ·exact L4 b hb
  ·rw[mem_singleton.1 hb];exact h8.size
def wR(Ln:∀nm,ar nm<=1000000):∀(n:Nat) (ad:List Nat) (X:Nat->Prop) (rk:Nat->Nat) (U:TS) (m:List (Nat×Nat)) (i:Nat) (w:World) (o:Nat×TS×List (Nat×Nat)),inst d n U m i=some o->i<U.nodes.length->aO ar ad X rk U w->LM ad m lb w->(∀b,X b->b<w.heap.size) ->
  Calls prog 308 #[aM ad i,.int .i64 d,.map (some lb)] w (mW ar ad X lb o w):=by
 intro n
 induction n with
 |zero=>intro ad X rk U m i w o h;cases h
 |succ n ih=>
  intro ad X rk U m i w o Kg hi hS hM hX;have hr:=hS.ok.AK hi;have Mz:=dX (rk i+1) i w (lt_succ_self _) hS hi
  have h1:∀e w1,bG ar ad X rk U i w e w1->e=.returned (aM ad (U.root i))/\aO ar ad X rk U w1/\LM ad m lb w1/\Kn (·∈ad) w w1:=by
   rintro e w1⟨a1,a2,a3,_⟩;exact⟨a1,a2,hM.kept (a3.block lb hM.lt fun hc=>by obtain⟨c,f,hc⟩:=hS.isT hc;exact hM.BT hc rfl),a3⟩
  have h2:=fun w1 (h:aO ar ad X rk U w1)=>cH h hr;rw[inst]at Kg;generalize hrt:U.root i=r at *
  cases hl:U.AC r with
  |true=>
   rw[hl,if_pos rfl]at Kg
   have ho:o=IK U d m r:=by
    unfold IK;split at Kg
    ·next hd=>rw[if_pos hd];exact(Option.some.inj Kg).symm
    ·next hd=>
     rw[if_neg hd]
     cases Mq:m.lookup r with
     |some j=>rw[Mq]at Kg;exact(Option.some.inj Kg).symm
     |none=>rw[Mq]at Kg;exact(Option.some.inj Kg).symm
   subst ho;have h3:=fun w1 (h:aO ar ad X rk U w1) (hm:LM ad m lb w1)=>nM (d:=d) h hr hm
   have h4:∀w1 e w2,Kn (·∈ad) w w1->mW ar ad X lb (IK U d m r) w1 e w2->∃b,e=.returned (aA b)/\mW ar ad X lb (IK U d m r) w (.returned (aA b)) w2:=by
    rintro w1 e w2 hk⟨l,rk',e1,e2,e3,e4,e5,e6⟩;refine⟨_,e1,l,rk',rfl,e2,e3,e4,hk.wide (fun q _ hq=>inl hq) |>.trans e5,fun b hb=>le_trans hk.size (e6 b hb)⟩
   have HR:=aC Mz;have H1:=aC h1;have H2:=aC h2;have H3:=aC h3;have H4:=aC h4;rw[hl]at H2;clear Mz h1 h2 h3 h4 ih hS hM hX Kg hr hl;generalize bG ar ad X rk U i w=Q1 at *;generalize mW ar ad X lb (IK U d m r)=Q2 at *;unfold aM aA at *;go_enter func308,ntmps308;go_wp2_with fail;refine(HR.out).mono ?_;intro e w1 ha;obtain⟨rfl,Li,Sr,Kj⟩:=H1.out e w1 ha;have HL:=aC (H2.out w1 Li);have HI:=aC (H3.out w1 Li Sr);have HF:=aC (fun e w2=>H4.out w1 e w2 Kj);clear ha Li Sr Kj H1 H2 H3 H4 HR;go_wp2_with fail;refine(HL.out).mono ?_;rintro e w2⟨rfl,rfl⟩;clear HL;go_wp2_with fail;refine(HI.out).mono ?_;intro e w2 ha;obtain⟨b,rfl,hf⟩:=HF.out e w2 ha;have HG:=aC hf;clear ha hf HF HI;go_wp2;exact HG.out
  |false=>
   rw[hl]at Kg;simp only[Bool.false_eq_true,if_false]at Kg
   cases hx:inst.instL (inst d n) U m (U.node r).parts with
   |none=>rw[hx]at Kg;cases Kg
   |some z=>
    obtain⟨js',U',m'⟩:=z;rw[hx]at Kg;obtain rfl:=(Option.some.inj Kg).symm;have Nb:∀p∈(U.node r).parts,p<U.nodes.length:=fun p hp=>hS.ok.AQ hr hp
    have hP:∀w2,aO ar ad X rk U w2->∃pv,w2.cell? ⟨bH ad r,1,none⟩=some pv/\w2.ownsRow 0 aG 1 pv (U.node r).parts.length ((U.node r).parts.map (aM ad)):=by
     intro w2 Rm;obtain⟨pv,fv,_,c2,_,_,_,_,c7,_⟩:=Rm.cell (i:=r) hr;exact⟨pv,c2,c7⟩
    have Lr:(U.node r).name≠[]:=fun e=>by unfold TS.AC at hl;rw[e]at hl;cases hl
    have A6:(U.node r).parts.length<=1000000:=by rw[(hS.ok.parts r _ (AR hr)).2.2 Lr];exact Ln _
    have Ru:=fun(w1:World)=>run_make_row' (P:=prog) 111 aG (.pointer none) 8 uW LZ rfl .i64 .i64 (U.node r).parts.length (by omega) (by omega) w1;have Jz:=fun(pv:Value) (w1:World) (h:aO ar ad X rk U w1) (hm:LM ad m lb w1) (hk:Kn (·∈ad) w w1) (Sg:w1.ownsRow 0 aG 1 pv (U.node r).parts.length ((U.node r).parts.map (aM ad)))=>pY.start h hm hk hx Sg;have Kp:=fun(g k p:Nat) (pv:Value) (wr:World) (h:pY ar ad X lb d n U w g pv (U.node r).parts js' U' m' k wr) (hg:w.heap.size<=g) (hp:(U.node r).parts[k]?=some p) (w9:pv.ownBlock≠some g)=>h.step hg hp (Nb p (List.mem_of_getElem? hp)) hX hS.len w9;have Mu:=fun(g:Nat) (pv:Value) (wr:World) (h:pY ar ad X lb d n U w g pv (U.node r).parts js' U' m' (U.node r).parts.length wr) (hg:w.heap.size<=g)=>h.fin hr rfl hl hS.len hX hg hS.ok;have Jr:∀g pv k wr,pY ar ad X lb d n U w g pv (U.node r).parts js' U' m' k wr->wr.ownsRow 0 aG 1 pv (U.node r).parts.length ((U.node r).parts.map (aM ad)):=fun g pv k wr ⟨_,_,_,_,_,_,_,_,_,_,_,_,_,_,_,h,_⟩=>h;have Lf:∀g pv k wr,pY ar ad X lb d n U w g pv (U.node r).parts js' U' m' k wr->g<wr.heap.size:=fun g pv k wr ⟨_,_,_,_,_,_,_,_,_,_,_,_,_,_,h,_⟩=>aB h;have Zt:=aC ih;have HR:=aC Mz;have H1:=aC h1;have H2:=aC h2;have HP:=aC hP;have Km:=aC Jz;have Ku:=aC Kp;have Lx:=aC Mu;have Mk:=aC Jr;have j8:=aC Lf;have HMK:=aC Ru;have HRL:=aC hr;have Nt:=fun(s:ByteArray) (g n c:Nat) (w:World)=>gE s (some ⟨g,0,none⟩) n c w;have HN:=aC Nt;clear Nt;rw[hl]at H2;clear Mz h1 h2 ih hS hM hX Kg hr hl hP Jz Kp Mu Jr Lf Ru hx Nb Lr Ln;generalize Lu:(U.node r).parts=ps at *;generalize (U.node r).name=nm at *;generalize bG ar ad X rk U i w=Q1 at *;generalize mW ar ad X lb (U'.nodes.length,(U'.named nm js').2,m') w=Q2 at *;clear Lu;unfold aM aA at *;go_enter func308,ntmps308;go_wp2_with fail;refine(HR.out).mono ?_;intro e w1 ha;obtain⟨rfl,Li,Sr,Kj⟩:=H1.out e w1 ha;have HL:=aC (H2.out w1 Li);obtain⟨pv,hc,Sg⟩:=HP.out w1 Li;have Kd:=aC (Km.out pv w1 Li Sr Kj Sg);have G7:w.heap.size<=w1.heap.size:=Kj.size;have O9:=HMK.out w1;have Kx:pv.ownBlock≠some w1.heap.size:=fun e=>Nat.lt_irrefl _ (Sg.lt _ e).2;have Kt:=aD Sg;have E0:bH ad r<w1.heap.size:=Li.BJ (dE (by rw[Li.len];exact HRL.out));clear ha Li Sr Kj H1 H2 HR HP Km HMK Sg;go_wp2_with fail;refine(HL.out).mono ?_;rintro e w2⟨rfl,rfl⟩;clear HL;generalize hpn2:ps.length=pn at *;rcases Kt with⟨rfl,rfl⟩|⟨g,cap2,rfl⟩
    ·obtain⟨Nh,C3⟩:=Lx.out _ _ _ Kd.out G7;rw[aK]at C3;have HF:=aC C3;have Tw:=aC (HN.out (bs nm) w2.heap.size 0 0 (w2.alloc (.cells (madeCells #[.pointer none] 0) aG)));have hmk0:(Instr.makeSlice 111 (.int .i64 0) (.int .i64 0)).run prog w2=.ok (.slice (some ⟨w2.heap.size,0,none⟩) 0 0) (w2.alloc (.cells (madeCells #[.pointer none] 0) aG)):=O9;clear O9 Kd Ku Lx Mk j8 Zt HN C3;go_wp2_with fail;refine wp_loop_rounds 1 ?_;rw[rounds_succ];go_wp2_with fail;refine(Tw.out).mono ?_;rintro e w3⟨rfl,rfl⟩;clear Tw;go_wp2;exact HF.out
    ·have Qo:=Mk.out _ _ _ _ Kd.out;go_wp2_with fail
     go_loopg [29] pn (fun gk v29 wr=>∃k,v29=.int .i64 (k:Nat)/\k+gk=pn/\Hid (pY ar ad X lb d n U w w2.heap.size (.slice (some ⟨g,0,none⟩) pn cap2) ps js' U' m' k wr))
     case atStart=>exact⟨0,rfl,by omega,Kd⟩
     case round=>
      clear Kd;obtain⟨k,rfl,hk,Kd⟩:=hrel
      by_cases Js:k<pn
      ·have Lv:k<ps.length:=by omega
       have hp:ps[k]?=some ps[k]:=List.getElem?_eq_getElem Lv;generalize ps[k]=p at hp;obtain⟨l,rk',Uk,mk,j1,U1,m1,My,Qc,D7,Uw,hw5,hw6,Ml⟩:=Ku.out _ k p _ wr Kd.out G7 hp Kx
       have Kh:wr.cell? ⟨g,k,none⟩=some (.pointer (some ⟨bH ad p,0,none⟩)):=by
        have:=(Mk.out _ _ k wr Kd.out).cellAt k (by omega);rw[this,getElem?_map,hp];rfl
       have hgl2:g<wr.heap.size:=((Mk.out _ _ k wr Kd.out).lt g rfl).2;have Vw:=j8.out _ _ _ _ Kd.out;have Ny:=Zt.out (ad++l) _ rk' Uk mk p wr (j1,U1,m1) My Qc D7 Uw hw5;rw[<- hw6]at Ny;have HC:=aC Ny;have Vk:=aC Ml;have Jt:(k:Int)<(pn:Int):=by omega
       clear My Qc D7 Uw hw5 hw6 Ml Ny Kd hp Ku Lx Mk Zt j8 Qo;go_wp2_with fail;refine(HC.out).mono ?_;intro e wr2 ha;obtain⟨bj,rfl,Ld,Pj,Va⟩:=Vk.out e wr2 ha;have HF:=aC Va;obtain⟨old,hold⟩:=Option.isSome_iff_exists.1 Pj;clear ha Pj Va HC Vk;go_wp2_with fail
       go_roundg (pn-(k+1))
       case rel=>exact⟨k+1,by simp,by omega,HF⟩
       case measure=>omega
      ·have Mj:k=pn:=by omega
       subst Mj;obtain⟨Nh,C3⟩:=Lx.out _ _ _ Kd.out G7;have HF:=aC C3;have Tw:=aC (HN.out (bs nm) w2.heap.size k k wr);have Jt:¬(k:Int)<(k:Int):=by omega
       clear Kd Ku Lx Mk Zt j8 Qo HN C3;go_wp2_with fail;refine(Tw.out).mono ?_;rintro e w3⟨rfl,rfl⟩;clear Tw;go_wp2;exact HF.out
def FI(ar:Nm->Nat)(ad:List Nat)(X:Nat->Prop)(o:Nat×TS)(w:World)(e:Ending)(w':World):Prop:=
 ∃l rk',e=.returned (aM (ad++l) o.1)/\o.1<o.2.nodes.length/\aO ar (ad++l) X rk' o.2 w'/\Kn (·∈ad) w w'/\∀b∈l,w.heap.size<=b
def xW(Ln:∀nm,ar nm<=1000000){ad:List Nat}{X:Nat->Prop}{rk:Nat->Nat}{U:TS}{i:Nat}{w:World}{o:Nat×TS}(h:aO ar ad X rk U w)(hi:i<U.nodes.length)(hX:∀b,X b->b<w.heap.size)(ho:U.inst d i=some o) :
  Calls prog 287 #[aM ad i,.int .i64 d] w (FI ar ad X o w):=by
 unfold TS.inst at ho;obtain⟨⟨j,U',m'⟩,h1,rfl⟩:=map_eq_some_iff.1 ho;have Yi:LM ad [] w.heap.size (w.alloc (.map #[] 0)):=⟨0,_,aQ.made _ _ w,⟨fun i _=>rfl,fun b hb=>(by cases hb),by simp⟩⟩;have hc:=wR (lb:=w.heap.size) Ln dF ad X rk U [] i (w.alloc (.map #[] 0)) _ h1 hi (h.alloc _) Yi (fun b hb=>by have:=hX b hb;rw[aK];omega)
 have hq:∀e w',mW ar ad X w.heap.size (j,U',m') (w.alloc (.map #[] 0)) e w'->∃b,e=.returned (aA b)/\FI ar ad X (j,U') w (.returned (aA b)) w':=by
  rintro e w'⟨l,rk',e1,e2,e3,e4,e5,e6⟩;refine⟨_,e1,l,rk',rfl,e2,e3,((Kn.refl _ w).alloc _).trans' e5 fun q hq hc=>?_,fun b hb=>?_⟩
  ·rcases hc with hc|rfl
   ·exact hc
   ·omega
  ·have:=e6 b hb;rw[aK]at this;omega
 have HC:=aC hc;have HQ:=aC hq;clear hc hq h Yi ho h1;generalize mW ar ad X w.heap.size (j,U',m') (w.alloc (.map #[] 0))=Q1 at *;generalize U7:FI ar ad X (j,U') w=Q2 at *;unfold aM aA at *;generalize bH ad i=b at *;clear U7;have O8:(Instr.makeMap Gx none).run prog w=.ok (.map (some w.heap.size)) (w.alloc (.map #[] 0)):=rfl
 show Calls prog 287 #[.pointer (some ⟨b,0,none⟩),.int .i64 d] w Q2;go_enter func287,ntmps287;go_wp2_with fail;refine(HC.out).mono ?_;intro e w1 ha;obtain⟨bj,rfl,hf⟩:=HQ.out e w1 ha;have HF:=aC hf;clear ha hf HQ HC;go_wp2;exact HF.out
end
end
section
open Go.RowKit
section
variable {ar:Nm->Nat}{ad:List Nat}{X:Nat->Prop}{rk:Nat->Nat}{U:TS}{w w':World}{i:Nat}
def oX(w:World) :
  Calls prog 34 #[] w fun e w'=>e=.returned (aA w.heap.size)/\w'=w.alloc (.cells #[.string (bs []),.slice none 0 0,.pointer none,.int .i64 (gJ:Nat)] aT):=by
 have hc:=kD gJ w;have HC:=aC hc;clear hc;generalize hQ:(fun(e:Ending) (w':World)=>e=.returned (aA w.heap.size)/\w'=w.alloc (.cells #[.string (bs []),.slice none 0 0,.pointer none,.int .i64 (gJ:Nat)] aT))=Q at *;go_enter func34,ntmps34;go_wp2_with fail;refine(HC.out).mono ?_;intro e w1 x;rw[<- hQ]at x;obtain⟨rfl,rfl⟩:=x;go_wp2;rw[<- hQ];exact⟨rfl,rfl⟩
def kZ{b1 b2 cap g:Nat}{c:Array Value}(h:w.heap[g]?=some (.cells c aG (0,0)))(h0:c[0]?=some (aA b1))(h1:c[1]?=some (aA b2)) :
  Calls prog 37 #[.slice (some ⟨g,0,none⟩) 2 cap] w fun e w'=>e=.returned (aA (w.heap.size+1))/\w'=(w.alloc (.cells #[aA b1,aA b2] aG)).alloc (.cells #[.string (bs bA),.slice (some ⟨w.heap.size,0,none⟩) 2 2,.pointer none,.int .i64 0] aT):=by
 have c0:w.cell? ⟨g,0,none⟩=some (aA b1):=by simp[cell?,h,h0]
 have c1:w.cell? ⟨g,1,none⟩=some (aA b2):=by simp[cell?,h,h1]
 have Qo:g<w.heap.size:=aB h;have hc:=gE (bs bA) (some ⟨w.heap.size,0,none⟩) 2 2 (w.alloc (.cells #[aA b1,aA b2] aG));generalize hQ:(fun(e:Ending) (w':World)=>e=.returned (aA (w.heap.size+1))/\w'=(w.alloc (.cells #[aA b1,aA b2] aG)).alloc (.cells #[.string (bs bA),.slice (some ⟨w.heap.size,0,none⟩) 2 2,.pointer none,.int .i64 0] aT))=Q
 have hq:∀(e:Ending)(w1:World),(e=.returned (aA (w.alloc (.cells #[aA b1,aA b2] aG)).heap.size)/\w1=(w.alloc (.cells #[aA b1,aA b2] aG)).alloc (.cells #[.string (bs bA),.slice (some ⟨w.heap.size,0,none⟩) 2 2,.pointer none,.int .i64 0] aT))->e=.returned (aA (w.heap.size+1))/\Q (.returned (aA (w.heap.size+1))) w1:=by
  rintro e w1⟨rfl,rfl⟩;rw[<- hQ];exact⟨by simp,rfl,rfl⟩
 have HC:=aC hc;have HQ:=aC hq;clear hc hq h h0 h1 hQ;unfold aA at *;go_enter func37,ntmps37;go_wp2_with fail;refine wp_loop_rounds 2 ?_;rw[rounds_succ];go_wp2_with fail;refine(HC.out).mono ?_;intro e w1 x;obtain⟨rfl,hq⟩:=HQ.out e w1 x;have HF:=aC hq;clear x hq HQ HC;go_wp2_with fail;rw[rounds_succ];go_wp2;exact HF.out
def aO.arrow(h:aO ar ad X rk U w){x y:Nat}(hx:x<U.nodes.length)(hy:y<U.nodes.length)(h2:ar bA=2)(hX:∀g,X g->g<w.heap.size) :
  aO ar (ad++[w.heap.size+1]) X rk (U.named bA [x,y]).2 ((w.alloc (.cells #[aM ad x,aM ad y] aG)).alloc (.cells #[.string (bs bA),.slice (some ⟨w.heap.size,0,none⟩) 2 2,.pointer none,.int .i64 0] aT)):=by
 have h1:=h.alloc (.cells #[aM ad x,aM ad y] aG)
 have Jn:(w.alloc (.cells #[aM ad x,aM ad y] aG)).ownsRow 0 aG 1 (.slice (some ⟨w.heap.size,0,none⟩) 2 2) 2 ([x,y].map (aM ad)):=
  ⟨rfl,inr ⟨w.heap.size,2,#[aM ad x,aM ad y],rfl,zero_le _,(MapKept.heap_alloc w _).1,le_refl _,by decide,rfl,rfl⟩⟩
 have:=h1.new (t:=⟨bA,[x,y],0⟩) (pv:=.slice (some ⟨w.heap.size,0,none⟩) 2 2) (fun p hp=>by
  rcases mem_cons.1 hp with rfl|hp
  ·exact hx
  ·rw[mem_singleton.1 hp];exact hy) (fun e=>absurd e (show bA≠[] by decide)) (fun _=>h2.symm) Jn (fun g hg e=>by
   have hg:w.heap.size=g:=by simpa [ownBlock]using hg
   have:=hX g e
   omega)
 have hs:(w.alloc (.cells #[aM ad x,aM ad y] aG)).heap.size=w.heap.size+1:=by simp
 rw[hs]at this;exact this
end
end
section
open Go.RowKit
abbrev cV:TypeId:=154
def bQ:Value:=.iface 152 (.agg #[])
def bE:Ending:=.panicked [{ v:=bQ,recovered:=false }]
def XG(Y:Nat->Prop)(gv:Value)(b:Nat):Prop:=Y b\/gv.ownBlock=some b
structure YM(ar:Nm->Nat)(ad:List Nat)(Y:Nat->Prop)(rk:Nat->Nat)(U:TS)(A:Env)(tb yb d:Nat)(gv:Value)(w:World):Prop where
 sto:aO ar ad (XG Y gv) rk U w
 tab:Tab ad tb A w
 typ:w.heap[yb]?=some (.cells #[.map (some tb),.int .i64 d,gv] cV (0,0))
 giv:w.ownsRow 0 aG 1 gv U.given.length (U.given.map (aM ad))
 yok:∀b,Y b->b<w.heap.size
def Dm(ad:List Nat)(tb yb:Nat)(gv:Value)(k:Nat):Prop:=k∈ad\/k=tb\/k=yb\/gv.ownBlock=some k
def aJ(ar:Nm->Nat)(ad:List Nat)(Y:Nat->Prop)(A:Env)(tb yb d:Nat)(gv:Value)(o:Option (Nat×TS))(w:World)(e:Ending)(w':World):Prop:=
 Kn (Dm ad tb yb gv) w w'/\((o=none/\e=bE/\∃n f,aQ cL eL w' tb n f) \/
  ∃t U' l rk' gv',o=some (t,U')/\e=.returned (aM (ad++l) t)/\t<U'.nodes.length/\YM ar (ad++l) Y rk' U' A tb yb d gv' w'/\(∀b∈l,w.heap.size<=b)/\∀b,gv'.ownBlock=some b->gv.ownBlock=some b\/w.heap.size<=b)
def cR(ar:Nm->Nat)(ad:List Nat)(Y:Nat->Prop)(A:Env)(tb yb d:Nat)(gv:Value)(o:Option TS)(w:World)(e:Ending)(w':World):Prop:=
 Kn (Dm ad tb yb gv) w w'/\((o=none/\e=bE/\∃n f,aQ cL eL w' tb n f) \/
  ∃U' l rk' gv',o=some U'/\e=.returned (.tuple #[])/\YM ar (ad++l) Y rk' U' A tb yb d gv' w'/\(∀b∈l,w.heap.size<=b)/\∀b,gv'.ownBlock=some b->gv.ownBlock=some b\/w.heap.size<=b)
section
variable {ar:Nm->Nat}{ad:List Nat}{Y:Nat->Prop}{rk:Nat->Nat}{U:TS}{A:Env}{tb yb d:Nat}{gv:Value}{w w':World}
def Tab.kept(h:Tab ad tb A w){l:List Nat}(hm:w'.heap[tb]?=w.heap[tb]?)(h0:∀(k:Nat)(c:Array Value)(f:Nat×Nat),w.heap[k]?=some (.cells c aI f)->w'.heap[k]?=w.heap[k]?)
  (h1:∀(k:Nat)(c:Array Value)(f:Nat×Nat),w.heap[k]?=some (.cells c cS f)->w'.heap[k]?=w.heap[k]?) (h2:∀(k:Nat)(c:Array Value)(f:Nat×Nat),w.heap[k]?=some (.cells c aH f)->w'.heap[k]?=w.heap[k]?):Tab (ad++l) tb A w':=by
 obtain⟨n,f,a1,a2⟩:=h;refine⟨n,f,a1.kept hm,fun x hx=>?_⟩;rcases a2 x hx with b|⟨m,v,b1,b2,b3⟩
 ·exact inl b
 ·exact inr ⟨m,v,b1,b2,b3.kept (fun i hi=>jU l hi) (by simp) h0 h1 h2⟩
def YM.CE(h:YM ar ad Y rk U A tb yb d gv w):tb∉ad:=fun e=>by
 obtain⟨n,f,⟨es,cl,hm,_⟩,_⟩:=h.tab;obtain⟨c,f,hc⟩:=h.sto.isT e;rw[hm]at hc;cases hc
def YM.BH(h:YM ar ad Y rk U A tb yb d gv w):tb<w.heap.size:=by
 obtain⟨n,f,hm,_⟩:=h.tab;exact hm.lt
def aO.CB{X:Nat->Prop}(h:aO ar ad X rk U w){k:Nat}{c:Array Value}{t:TypeId}{f:Nat×Nat}(hc:w.heap[k]?=some (.cells c t f))(ht:t≠aT):k∉ad:=fun e=>by
 obtain⟨c2,f2,h2⟩:=h.isT e;rw[hc]at h2;exact ht (aN h2)
def YM.step(h:YM ar ad Y rk U A tb yb d gv w)(hk:Kn (·∈ad) w w'){l:List Nat}{rk':Nat->Nat}{U':TS}(hs:aO ar (ad++l) (XG Y gv) rk' U' w')(hg:U'.given=U.given):YM ar (ad++l) Y rk' U' A tb yb d gv w':=by
 have hb:∀(k:Nat)(c:Array Value)(t:TypeId)(f:Nat×Nat),t≠aT->w.heap[k]?=some (.cells c t f)->w'.heap[k]?=w.heap[k]?:=fun k c t f ht hc=>hk.block k (aB hc) (h.sto.CB hc ht);refine⟨hs,h.tab.kept (hk.block tb h.BH h.CE) (fun k c f=>hb k c _ f (by decide)) (fun k c f=>hb k c _ f (by decide)) (fun k c f=>hb k c _ f (by decide)),?_,?_,fun b Mf=>lt_of_lt_of_le (h.yok b Mf) hk.size⟩
 ·rw[hb _ _ _ _ (by decide) h.typ];exact h.typ
 ·rw[hg,lT l _ (fun q hq=>by rw[h.sto.len];exact h.sto.ok.given q hq)];exact aE h.giv fun k c f _ hc=>hb k c _ f (by decide) hc
def YM.alloc(h:YM ar ad Y rk U A tb yb d gv w)(o:Obj):YM ar ad Y rk U A tb yb d gv (w.alloc o):=by
 have:=h.step (l:=[]) (w':=w.alloc o) ((Kn.refl _ w).alloc o) (by rw[append_nil];exact h.sto.alloc o) rfl;rw[append_nil]at this;exact this
def oE(w:World):Calls prog 76 #[.bool true] w fun e w'=>e=.returned (.tuple #[])/\w'=w:=by
 go_enter func76,ntmps76;go_wp2;refine bodyPost_end (v:=.tuple #[]) (by simp[results,results76,go_sem]) rfl ⟨rfl,rfl⟩
def qY(w:World):Calls prog 76 #[.bool false] w fun e w'=>e=bE/\w'=w:=by
 unfold bE bQ;go_enter func76,ntmps76;go_wp2;exact⟨rfl,rfl,rfl⟩
def kJ(w:World):Calls prog 38 #[] w fun e w'=>e=.returned (aA w.heap.size)/\w'=w.alloc (.cells #[.string (bs eI),.slice none 0 0,.pointer none,.int .i64 0] aT):=by
 have hc:=gE (bs eI) none 0 0 w;have HC:=aC hc;clear hc;unfold aA at *;generalize hQ:(fun(e:Ending) (w':World)=>e=.returned (.pointer (some ⟨w.heap.size,0,none⟩))/\w'=w.alloc (.cells #[.string (bs eI),.slice none 0 0,.pointer none,.int .i64 0] aT))=Q at *;go_enter func38,ntmps38;go_wp2_with fail;refine(HC.out).mono ?_;intro e w1 x;rw[<- hQ]at x;obtain⟨rfl,rfl⟩:=x;go_wp2;rw[<- hQ];exact⟨rfl,rfl⟩
def vQ(w:World):Calls prog 265 #[] w fun e w'=>e=.returned (aA w.heap.size)/\w'=w.alloc (.cells #[.string (bs dZ),.slice none 0 0,.pointer none,.int .i64 0] aT):=by
 have hc:=gE (bs dZ) none 0 0 w;have HC:=aC hc;clear hc;unfold aA at *;generalize hQ:(fun(e:Ending) (w':World)=>e=.returned (.pointer (some ⟨w.heap.size,0,none⟩))/\w'=w.alloc (.cells #[.string (bs dZ),.slice none 0 0,.pointer none,.int .i64 0] aT))=Q at *;go_enter func265,ntmps265;go_wp2_with fail;refine(HC.out).mono ?_;intro e w1 x;rw[<- hQ]at x;obtain⟨rfl,rfl⟩:=x;go_wp2;rw[<- hQ];exact⟨rfl,rfl⟩
def iQ(w:World):Calls prog 39 #[] w fun e w'=>e=.returned (aA w.heap.size)/\w'=w.alloc (.cells #[.string (bs bY),.slice none 0 0,.pointer none,.int .i64 0] aT):=by
 have hc:=gE (bs bY) none 0 0 w;have HC:=aC hc;clear hc;unfold aA at *;generalize hQ:(fun(e:Ending) (w':World)=>e=.returned (.pointer (some ⟨w.heap.size,0,none⟩))/\w'=w.alloc (.cells #[.string (bs bY),.slice none 0 0,.pointer none,.int .i64 0] aT))=Q at *;go_enter func39,ntmps39;go_wp2_with fail;refine(HC.out).mono ?_;intro e w1 x;rw[<- hQ]at x;obtain⟨rfl,rfl⟩:=x;go_wp2;rw[<- hQ];exact⟨rfl,rfl⟩
def wZ(b:Nat)(w:World):Calls prog 40 #[aA b] w fun e w'=>e=.returned (aA (w.heap.size+1))/\w'=(w.alloc (.cells #[aA b] aG)).alloc (.cells #[.string (bs gP),.slice (some ⟨w.heap.size,0,none⟩) 1 1,.pointer none,.int .i64 0] aT):=by
 have hc:=gE (bs gP) (some ⟨w.heap.size,0,none⟩) 1 1 (w.alloc (.cells #[aA b] aG));rw[aK]at hc;have HC:=aC hc;clear hc;unfold aA at *;generalize hQ:(fun(e:Ending) (w':World)=>e=.returned (.pointer (some ⟨w.heap.size+1,0,none⟩))/\w'=(w.alloc (.cells #[.pointer (some ⟨b,0,none⟩)] aG)).alloc (.cells #[.string (bs gP),.slice (some ⟨w.heap.size,0,none⟩) 1 1,.pointer none,.int .i64 0] aT))=Q at *;go_enter func40,ntmps40;go_wp2_with fail;refine(HC.out).mono ?_;intro e w1 x;rw[<- hQ]at x;obtain⟨rfl,rfl⟩:=x;go_wp2;rw[<- hQ];exact⟨rfl,rfl⟩
end
end
section
open Go.RowKit
section
variable {ar:Nm->Nat}{ad:List Nat}{Y:Nat->Prop}{rk:Nat->Nat}{U:TS}{A:Env}{tb yb d:Nat}{gv:Value}{w w':World}
def YM.letter(h:YM ar ad Y rk U A tb yb d gv w)(dl:Nat):YM ar (ad++[w.heap.size]) Y rk (U.letter dl).2 A tb yb d gv (w.alloc (.cells #[.string (bs []),.slice none 0 0,.pointer none,.int .i64 dl] aT)):=
 h.step ((Kn.refl _ w).alloc _) (h.sto.new (t:=⟨[],[],dl⟩) (pv:=.slice none 0 0) (by simp) (fun _=>rfl) (fun e=>absurd rfl e) ⟨rfl,inl ⟨rfl,rfl⟩⟩ (fun g hg=>by simp[ownBlock]at hg)) rfl
def YM.plain(h:YM ar ad Y rk U A tb yb d gv w){nm:Nm}(ha:ar nm=0):YM ar (ad++[w.heap.size]) Y rk (U.named nm []).2 A tb yb d gv (w.alloc (.cells #[.string (bs nm),.slice none 0 0,.pointer none,.int .i64 0] aT)):=
 h.step ((Kn.refl _ w).alloc _) (h.sto.new (t:=⟨nm,[],0⟩) (pv:=.slice none 0 0) (by simp) (fun _=>rfl) (fun _=>ha.symm) ⟨rfl,inl ⟨rfl,rfl⟩⟩ (fun g hg=>by simp[ownBlock]at hg)) rfl
def YM.len(h:YM ar ad Y rk U A tb yb d gv w):ad.length=U.nodes.length:=h.sto.len
def YM.BY(h:YM ar ad Y rk U A tb yb d gv w){b:Nat}(hb:gv.ownBlock=some b):b<w.heap.size:=(h.giv.lt b hb).2
def aJ.BN(h:YM ar ad Y rk U A tb yb d gv w){o:Obj}{U':TS}(h':YM ar (ad++[w.heap.size]) Y rk U' A tb yb d gv (w.alloc o))(hn:U'.nodes.length=U.nodes.length+1):aJ ar ad Y A tb yb d gv (some (U.nodes.length,U')) w (.returned (aA w.heap.size)) (w.alloc o):=
 ⟨(Kn.refl _ w).alloc _,inr ⟨_,_,[w.heap.size],rk,gv,rfl,by unfold aM;rw[<- h.len,fC],by omega,h',fun b hb=>by rw[mem_singleton.1 hb];exact le_refl _,fun b hb=>inl hb⟩⟩
def gB(h:YM ar ad Y rk U A tb yb d gv w):Calls prog 211 #[aA yb] w fun e w'=>e=.returned (aA w.heap.size)/\w'=w.alloc (.cells #[.string (bs []),.slice none 0 0,.pointer none,.int .i64 d] aT):=by
 have c1:w.cell? ⟨yb,1,none⟩=some (.int .i64 d):=by simp[cell?,h.typ]
 have hc:=kD d w;have HC:=aC hc;clear hc h;unfold aA at *;generalize hQ:(fun(e:Ending) (w':World)=>e=.returned (.pointer (some ⟨w.heap.size,0,none⟩))/\w'=w.alloc (.cells #[.string (bs []),.slice none 0 0,.pointer none,.int .i64 d] aT))=Q at *;go_enter func211,ntmps211;go_wp2_with fail;refine(HC.out).mono ?_;intro e w1 x;rw[<- hQ]at x;obtain⟨rfl,rfl⟩:=x;go_wp2;rw[<- hQ];exact⟨rfl,rfl⟩
def aO.reX{X X':Nat->Prop}(h:aO ar ad X rk U w)(h1:∀k,k∈ad->w'.heap[k]?=w.heap[k]?)(h2:∀k c f,¬X k->w.heap[k]?=some (.cells c aG f)->w'.heap[k]?=w.heap[k]?)(h3:∀k,k<w.heap.size->X' k->X k):aO ar ad X' rk U w':=by
 have h':=h.kept h1 h2;refine⟨h'.ok,h'.len,h'.lt,fun i hi=>?_⟩;obtain⟨pv,fv,a1,a2,a3,a4⟩:=h.node i hi;have Lc:i<ad.length:=by rw[h.len];exact hi
 refine⟨pv,fv,(h1 _ (dE Lc)).trans a1,aE a2 fun k c f hk hc=>h2 k c f (a3 k hk) hc,fun g hg hx=>a3 g hg (h3 g ((a2.lt g hg).2) hx),a4⟩
def zQ{t:Nat}(h:YM ar ad Y rk U A tb yb d gv w)(ht:t<U.nodes.length)(hn:U.given.length<=100000000):Calls prog 209 #[aA yb,aM ad t] w (aJ ar ad Y A tb yb d gv (some (t,U.give t)) w):=by
 have c2:w.cell? ⟨yb,2,none⟩=some gv:=by simp[cell?,h.typ]
 have hyl:yb<w.heap.size:=aB h.typ;have hf:w.frozen? ⟨yb,2,none⟩=false:=frozen_of_row _ _ _ _ _ h.typ;have hgf:=aD h.giv
 have Jr:w.ownsRow 0 aG 1 gv (U.given.map (bH ad)).length ((U.given.map (bH ad)).map aA):=by
  rw[length_map,map_map];exact h.giv
 have Jp:∀v' w2,w2.ownsRow 0 aG 1 v' (U.given.map (bH ad)++[bH ad t]).length ((U.given.map (bH ad)++[bH ad t]).map aA)->(w.alloc (.cells #[.pointer (some ⟨bH ad t,0,none⟩)] aG)).grownBy w2 gv.ownBlock->(∀g,v'.ownBlock=some g->gv.ownBlock=some g\/w.heap.size<g) ->
   w2.frozen? ⟨yb,2,none⟩=false/\w2.cell? ⟨yb,2,none⟩=some gv/\aJ ar ad Y A tb yb d gv (some (t,U.give t)) w (.returned (aM ad t)) (w2.setCell ⟨yb,2,none⟩ v'):=by
  intro v' w2 ho hg hl
  have hgt:∀b,gv.ownBlock=some b->∃c f,w.heap[b]?=some (.cells c aG f):=fun b hb=>by
   rcases h.giv.2 with⟨rfl,_⟩|⟨g,cap,cur,rfl,_,Ng,_⟩
   ·simp[ownBlock]at hb
   ·have:g=b:=by simpa [ownBlock]using hb
    subst this;exact⟨_,_,Ng⟩
  have Ju:∀(k:Nat)(c:Array Value)(t:TypeId)(f:Nat×Nat),w.heap[k]?=some (.cells c t f)->t≠aG->w2.heap[k]?=w.heap[k]?:=fun k c t f hc ht=>by
   rw[hg.block k (by rw[aK];have:=aB hc;omega) (fun e=>by
    obtain⟨c2,f2,h2⟩:=hgt k e.symm
    rw[hc]at h2;exact ht (aN h2)),Below.heap_alloc _ _ _ (aB hc)]
  have Rd:w2.heap[yb]?=some (.cells #[.map (some tb),.int .i64 d,gv] cV (0,0)):=by rw[Ju _ _ _ _ h.typ (by decide)];exact h.typ
  have Ma:∀k,k≠yb->(w2.setCell ⟨yb,2,none⟩ v').heap[k]?=w2.heap[k]?:=fun k hk=>Below.heap_setCell _ _ _ _ hk;have Yx:∀(k:Nat)(c:Array Value)(t:TypeId)(f:Nat×Nat),w.heap[k]?=some (.cells c t f)->t≠aG->k≠yb->(w2.setCell ⟨yb,2,none⟩ v').heap[k]?=w.heap[k]?:=fun k c t f hc ht hk=>(Ma k hk).trans (Ju k c t f hc ht)
  have Wu:∀(k:Nat)(c:Array Value)(t:TypeId)(f:Nat×Nat),w.heap[k]?=some (.cells c t f)->t≠cV->k≠yb:=fun k c t f hc ht e=>by
   subst e;rw[h.typ]at hc;exact ht (aN hc).symm
  have Pb:(w2.setCell ⟨yb,2,none⟩ v').heap[tb]?=w.heap[tb]?:=by
   obtain⟨n,f,⟨es,cl,hm,_⟩,_⟩:=h.tab;have Oh:=h.BH
   rw[Ma tb (fun e=>by subst e;rw[h.typ]at hm;cases hm),hg.block tb (by rw[aK];omega) (fun e=>by
    obtain⟨c2,f2,h2⟩:=hgt tb e.symm
    rw[hm]at h2;cases h2),Below.heap_alloc _ _ _ Oh]
  refine⟨frozen_of_row _ _ _ _ _ Rd,by simp[cell?,Rd],?_,inr ⟨t,U.give t,[],rk,v',rfl,by rw[append_nil],ht,?_,by simp,fun b hb=>?_⟩⟩
  ·exact(((Kn.refl (Dm ad tb yb gv) w).alloc _).grown hg (fun k hk=>inl (inr (inr (inr hk))))).set (p:=⟨yb,2,none⟩) (inl (inr (inr (inl rfl)))) _
  ·rw[append_nil];refine⟨?_,?_,?_,?_,fun b hb=>?_⟩
   ·have h1:aO ar ad (XG Y v') rk U (w2.setCell ⟨yb,2,none⟩ v'):=by
     refine h.sto.reX (fun k hk=>?_) (fun k c f hX hc=>?_) (fun k hk hX=>?_)
     ·obtain⟨c,f,hc⟩:=h.sto.isT hk;exact Yx k c _ f hc (by decide) (Wu k c _ f hc (by decide))
     ·rw[Ma k (Wu k c _ f hc (by decide)),hg.block k (by rw[aK];have:=aB hc;omega) (fun e=>hX (inr e.symm)),Below.heap_alloc _ _ _ (aB hc)]
     ·rcases hX with hX|hX
      ·exact inl hX
      ·rcases hl k hX with h2|h2
       ·exact inr h2
       ·omega
    exact⟨h1.ok.give ht,h1.len,h1.lt,h1.node⟩
   ·have:=h.tab.kept (l:=[]) Pb (fun k c f hc=>Yx k c _ f hc (by decide) (Wu k c _ f hc (by decide))) (fun k c f hc=>Yx k c _ f hc (by decide) (Wu k c _ f hc (by decide))) (fun k c f hc=>Yx k c _ f hc (by decide) (Wu k c _ f hc (by decide)));rw[append_nil]at this;exact this
   ·rw[heap_setCell_same _ _ _ _ _ _ Rd];rfl
   ·have h1:w2.ownsRow 0 aG 1 v' (U.give t).given.length ((U.give t).given.map (aM ad)):=by
     have:(U.give t).given=U.given++[t]:=rfl;rw[this];have h2:=ho;rw[<- List.map_singleton (f:=bH ad),<- map_append,length_map,map_map]at h2;exact h2
    refine aE h1 fun k c f _ hc=>Ma k fun e=>?_;subst e;rw[Rd]at hc;exact absurd (aN hc) (by decide)
   ·have:=h.yok b hb;have:=hg.size;rw[aK]at this;have e:(w2.setCell ⟨yb,2,none⟩ v').heap.size=w2.heap.size:=by simp[World.setCell]
    rw[e];omega
  ·rcases hl b hb with h2|h2
   ·exact inl h2
   ·exact inr (by omega)
 have HF:=aC Jp;clear Jp h hgf;generalize aJ ar ad Y A tb yb d gv (some (t,U.give t)) w=Q at *;have Ol:(U.given.map (bH ad)).length<=100000000:=by rw[length_map];exact hn
 generalize U.given.map (bH ad)=ns at *;unfold aM aA at *;generalize bH ad t=bt at *;go_enter func209,ntmps209
 go_wp2_with (at_builtin;refine pV rfl _ _ rfl bt Jr Ol (zero_le _) rfl rfl ?_)
 intro v' w2 ho hg hl;have Mm:=aD ho;obtain⟨f1,f2,f3⟩:=HF.out v' w2 (by have h2:=ho;simp only[length_append,List.length_singleton,map_append,map_cons,map_nil];exact h2) hg hl.out;have HG:=aC f3;clear f3 HF ho hg hl;rcases Mm with⟨rfl,h0⟩|⟨g,cap,rfl⟩
 ·simp at h0
 ·go_wp2;exact HG.out
end
end
section
open Go.RowKit
def OH(p:Option Addr)(s:ByteArray)(a1:Option Addr)(n1 c1:Nat)(a2:Option Addr)(n2 c2:Nat)(i j:Int)(u:World):(Instr.field iK (.agg #[.pointer p,.string s,.slice a1 n1 c1,.slice a2 n2 c2,.int .i64 i,.int .i64 j]) 0).run prog u=.ok (.pointer p) u:=by
 simp[Instr.field,run_underlying underlying84,go_sem,asAgg]
def vE(p:Option Addr)(s:ByteArray)(a1:Option Addr)(n1 c1:Nat)(a2:Option Addr)(n2 c2:Nat)(i j:Int)(u:World):(Instr.field iK (.agg #[.pointer p,.string s,.slice a1 n1 c1,.slice a2 n2 c2,.int .i64 i,.int .i64 j]) 1).run prog u=.ok (.agg #[.string s,.slice a1 n1 c1,.slice a2 n2 c2,.int .i64 i]) u:=by
 simp[Instr.field,run_underlying underlying84,go_sem,asAgg]
end
section
open Go.RowKit
section
variable {ar:Nm->Nat}{ad:List Nat}{Y:Nat->Prop}{rk:Nat->Nat}{U:TS}{A:Env}{tb yb d:Nat}{gv:Value}{w w':World}
def aJ.panic{o:Option (Nat×TS)}(ho:o=none)(hk:Kn (Dm ad tb yb gv) w w')(hm:∃n f,aQ cL eL w' tb n f):aJ ar ad Y A tb yb d gv o w bE w':=⟨hk,inl ⟨ho,rfl,hm⟩⟩
def YM.raw(h:YM ar ad Y rk U A tb yb d gv w):∃n f,aQ cL eL w tb n f:=h.tab.raw
def Kn.dm(h:Kn (·∈ad) w w'):Kn (Dm ad tb yb gv) w w':=h.wide fun _ _ hq=>inl hq
def YM.drew(h:YM ar ad Y rk U A tb yb d gv w):YM ar ad Y rk U A tb yb d gv w.drew:=by
 have:=h.step (l:=[]) (w':=w.drew) (Kn.refl _ w).drew (by rw[append_nil];exact h.sto.kept (fun _ _=>rfl) (fun _ _ _ _ _=>rfl)) rfl;rw[append_nil]at this;exact this
structure VB(ar:Nm->Nat)(ad:List Nat)(Y:Nat->Prop)(rk:Nat->Nat)(U:TS)(A:Env)(tb yb d:Nat)(gv:Value)(nb:Nat)(txt:Nm)(n:Nat)(f:Ky->Option Value)(w w':World):Prop where
 kn:Kn (·∈ad) w w'
 ym:YM ar ad Y rk U A tb yb d gv w'
 nd:w'.cell? ⟨nb,1,none⟩=some (.string (bs txt))
 mp:aQ cL eL w' tb n f
def aL{w:World}{o:Obj}{b i:Nat}{v:Value}(h:w.cell? ⟨b,i,none⟩=some v):(w.alloc o).cell? ⟨b,i,none⟩=some v:=by
 have hb:b<w.heap.size:=by
  cases hh:w.heap[b]? with
  |none=>simp[cell?,hh]at h
  |some o=>exact aB hh
 have:=Below.heap_alloc w o b hb;unfold cell? at *;rw[this];exact h
variable {nb n:Nat}{txt:Nm}{f:Ky->Option Value}
def VB.drew(h:VB ar ad Y rk U A tb yb d gv nb txt n f w w'):VB ar ad Y rk U A tb yb d gv nb txt n f w w'.drew:=⟨h.kn.drew,h.ym.drew,h.nd,h.mp⟩
def VB.alloc(h:VB ar ad Y rk U A tb yb d gv nb txt n f w w')(o:Obj):VB ar ad Y rk U A tb yb d gv nb txt n f w (w'.alloc o):=
 ⟨h.kn.alloc o,h.ym.alloc o,aL h.nd,h.mp.alloc o⟩
def VB.out(h:VB ar ad Y rk U A tb yb d gv nb txt n f w w'){sp:Nat}(hx:cL (sp,txt)){v:Value}(hv:f (sp,txt)=some v):w'.cell? ⟨yb,0,none⟩=some (.map (some tb))/\w'.cell? ⟨nb,1,none⟩=some (.string (bs txt))/\(Instr.lookup dA (.map (some tb)) (.agg #[.int .i64 (sp:Nat),.string (bs txt)]) false).run prog w'=.ok v w':=by
 refine⟨by simp[cell?,h.ym.typ],h.nd,?_⟩;have:=jE h.mp hx false;rw[hv]at this
 simpa using this
def YM.vb(h:YM ar ad Y rk U A tb yb d gv w){sp:Nat}{m:Mg}(hn:w.cell? ⟨nb,1,none⟩=some (.string (bs txt)))(hx:cL (sp,txt))(hg:A.get (sp,txt)=some m):∃n f v,VB ar ad Y rk U A tb yb d gv nb txt n f w w/\f (sp,txt)=some v/\fE ad w m v:=by
 obtain⟨n,f,hm,hf⟩:=h.tab;rcases hf (sp,txt) hx with⟨h1,_⟩|⟨m',v,h1,h2,h3⟩
 ·rw[hg]at h1;cases h1
 ·rw[hg]at h1;cases h1;exact⟨n,f,v,⟨Kn.refl _ _,h,hn,hm⟩,h2,h3⟩
def vY(Ln:∀nm,ar nm<=1000000){t:Nat}{m:Mg}(h:YM ar ad Y rk U A tb yb d gv w)(hn:w.cell? ⟨nb,1,none⟩=some (.string (bs txt)))(hx:cL (0,txt))(hg:A.get (0,txt)=some m)(hm:m.scheme=some t) :
  Calls prog 261 #[aA yb,aA nb] w (aJ ar ad Y A tb yb d gv (if U.fits t then U.inst d t else none) w):=by
 obtain⟨n,f,v,Ww,Yl,lv,pv,bl,hv,ht,Sq,Nf,_⟩:=h.vb hn hx hg;rw[hm]at hv;have Oh:t<U.nodes.length:=by rw[<- h.len];exact ht t hm
 have hF:=fun(u:World) (hu:VB ar ad Y rk U A tb yb d gv nb txt n f w u)=>oZ hu.ym.sto Oh
 have Qe:∃a1 n1 c1 a2 n2 c2,lv=.slice a1 n1 c1/\pv=.slice a2 n2 c2:=by
  rcases aD Sq with⟨rfl,_⟩|⟨g,cap,rfl⟩<;>rcases aD Nf with⟨rfl,_⟩|⟨g',cap',rfl⟩<;>exact⟨_,_,_,_,_,_,rfl,rfl⟩
 obtain⟨a1,n1,k1,a2,n2,k2,rfl,rfl⟩:=Qe;subst hv;have Qg:∀(u:World),VB ar ad Y rk U A tb yb d gv nb txt n f w u->u.cell? ⟨yb,0,none⟩=some (.map (some tb))/\u.cell? ⟨nb,1,none⟩=some (.string (bs txt))/\(Instr.lookup dA (.map (some tb)) (.agg #[.int .i64 0,.string (bs txt)]) false).run prog u=.ok (.agg #[aM ad t,.string (bs m.vr.data),.slice a1 n1 k1,.slice a2 n2 k2,.int .i64 m.vr.sibs,.int .i64 m.AE]) u:=fun u hu=>hu.out hx Yl
 have Lp:∀u,VB ar ad Y rk U A tb yb d gv nb txt n f w u->∀e w2,eK ar ad (XG Y gv) rk U (.bool (U.fits t)) u e w2->e=.returned (.bool (U.fits t))/\w2.cell? ⟨yb,1,none⟩=some (.int .i64 d) /\
   (U.fits t=false->aJ ar ad Y A tb yb d gv (if U.fits t then U.inst d t else none) w bE w2)/\(U.fits t=true->∃o,U.inst d t=some o/\Calls prog 287 #[aM ad t,.int .i64 d] w2 (FI ar ad (XG Y gv) o w2) /\
    ∀e w3,FI ar ad (XG Y gv) o w2 e w3->∃b,e=.returned (aA b)/\aJ ar ad Y A tb yb d gv (if U.fits t then U.inst d t else none) w (.returned (aA b)) w3):=by
  rintro u hu e w2⟨e1,e2,e3⟩;have hk:Kn (·∈ad) w w2:=hu.kn.trans e3;have h2:=h.step (l:=[]) hk (by rw[append_nil];exact e2) rfl;rw[append_nil]at h2;refine⟨e1,by simp[cell?,h2.typ],fun hf=>?_,fun hf=>?_⟩
  ·exact aJ.panic (by rw[hf];rfl) hk.dm h2.raw
  ·obtain⟨j,τ,mm,Kg,_⟩:=TS.CJ h.sto.ok.rg Oh hf d;have ho:U.inst d t=some (j,τ):=by unfold TS.inst;rw[Kg];rfl
   refine⟨(j,τ),ho,xW Ln e2 Oh (fun b hb=>?_) ho,?_⟩
   ·rcases hb with hb|hb
    ·exact h2.yok b hb
    ·exact h2.BY hb
   ·rintro e w3⟨l,rk',f1,f2,f3,f4,f5⟩;refine⟨_,f1,(hk.trans f4).dm,inr ⟨j,τ,l,rk',gv,by rw[hf,if_pos rfl,ho],rfl,f2,h2.step f4 f3 (oH Kg).given,fun b hb=>le_trans hk.size (f5 b hb),fun b hb=>inl hb⟩⟩
 have hK:=fun(u:World)=>gL (bs txt) u;have Kv:∀u o u',VB ar ad Y rk U A tb yb d gv nb txt n f w u->u'=World.alloc u o->VB ar ad Y rk U A tb yb d gv nb txt n f w u':=fun u o u' hu e=>by subst e;exact hu.alloc o
 have Mi:=aC Ww.drew;have HK:=aC hK;have Ni:=aC Kv;have HF:=aC hF;have HY:=aC Lp;have HO:=aC Qg;have W8:=aC oE;have Tw:=aC qY;clear hK hF Lp h Sq Nf Ln ht Oh hg hm hx Ww Qg Kv hn Yl;generalize aJ ar ad Y A tb yb d gv (if U.fits t then U.inst d t else none) w=Q at *;generalize VB ar ad Y rk U A tb yb d gv nb txt n f w=V at *;obtain⟨c0a,c1a,lka⟩:=HO.out _ Mi.out;generalize bs txt=tx at *;generalize bs m.vr.data=dt at *;unfold aM aA at *;generalize bH ad t=bt at *;have T0:=fun u=>OH (some ⟨bt,0,none⟩) dt a1 n1 k1 a2 n2 k2 m.vr.sibs m.AE u;go_enter func261,ntmps261;go_wp2_with fail
 go_region_held3 (fun w'=>w'.cell? ⟨yb,0,none⟩=some (.map (some tb))/\w'.cell? ⟨nb,1,none⟩=some (.string tx)/\(Instr.lookup dA (.map (some tb)) (.agg #[.int .i64 0,.string tx]) false).run prog w'=.ok (.agg #[.pointer (some ⟨bt,0,none⟩),.string dt,.slice a1 n1 k1,.slice a2 n2 k2,.int .i64 m.vr.sibs,.int .i64 m.AE]) w'/\Hid (V w')) (exact⟨c0a,c1a,lka,Mi⟩)
  (first|(go_at_call 36;refine(HK.out _).mono ?_;rintro e u⟨rfl,hu⟩;have Mi:=aC (Ni.out _ _ _ Mi.out hu);obtain⟨c0a,c1a,lka⟩:=HO.out _ Mi.out;clear hu))
 all_goals
  have Zu:=aC (HF.out _ Mi.out);have HY1:=aC (HY.out _ Mi.out);clear HF HY HO Ni HK c0a c1a lka Mi;go_wp2_with fail;refine(Zu.out).mono ?_;intro e w2 ha;obtain⟨rfl,Ny,Lg,Lb⟩:=HY1.out e w2 ha;have Me:=aC Lg;have i8:=aC Lb;clear ha Lg Lb HY1 Zu
  cases S7:U.fits t with
  |false=>
   rw[S7]at Me;have HG:=aC (Me.out rfl);clear Me i8;go_wp2_with fail;refine(Tw.out w2).mono ?_;rintro e w3⟨rfl,rfl⟩;unfold bE bQ at *;go_wp2;exact⟨rfl,HG.out⟩
  |true=>
   rw[S7]at i8;obtain⟨o,_,hc,Jp⟩:=i8.out rfl;have HC:=aC hc;have Kk:=aC Jp;clear Me i8 hc Jp;go_wp2_with fail;refine(W8.out w2).mono ?_;rintro e w3⟨rfl,rfl⟩;go_wp2_with fail;refine(HC.out).mono ?_;intro e w4 ha;obtain⟨b,rfl,hf⟩:=Kk.out e w4 ha;have HG:=aC hf;clear ha hf Kk HC;go_wp2;exact HG.out
end
end
section
open Go.RowKit
section
variable {ar:Nm->Nat}{ad:List Nat}{Y:Nat->Prop}{rk:Nat->Nat}{U:TS}{A:Env}{tb yb d:Nat}{gv:Value}{w w':World}{nb:Nat}{txt:Nm}
def Tab.six(h:Tab ad tb A w):∃n f,aQ cL eL w tb n f/\(∀x,cL x->(A.get x=none/\f x=none)\/∃m v,A.get x=some m/\f x=some v/\fE ad w m v)/\∀x,cL x->∀v,f x=some v->Six v:=by
 obtain⟨n,f,h1,h2⟩:=h;refine⟨n,f,h1,h2,fun x hx v hv=>?_⟩;rcases h2 x hx with⟨_,h3⟩|⟨m,v',_,h3,h4⟩
 ·rw[hv]at h3;cases h3
 ·rw[hv]at h3;cases h3;exact h4.six
def YM.bound(h:YM ar ad Y rk U A tb yb d gv w){x:Ky}{m:Mg}{v:Value}{n n':Nat}{f:Ky->Option Value}(_hm:aQ cL eL w tb n f)(hf:∀x,cL x->(A.get x=none/\f x=none)\/∃m v,A.get x=some m/\f x=some v/\fE ad w m v)
  (Tc:aQ cL eL w' tb n' (fun y=>if y=x then some v else f y)) (hk:Kn (·=tb) w w') (hv:fE ad w m v):YM ar ad Y rk U ((x,m)::A) tb yb d gv w':=by
 have Pv:∀(k:Nat)(c:Array Value)(t:TypeId)(f:Nat×Nat),w.heap[k]?=some (.cells c t f)->w'.heap[k]?=w.heap[k]?:=fun k c t f hc=>hk.block k (aB hc) fun e=>by
  subst e;obtain⟨es,cl,hb,_⟩:=_hm;rw[hb]at hc;cases hc
 have Nu:∀{m:Mg}{v:Value},fE ad w m v->fE ad w' m v:=fun hh=>hh.kept (fun _ _=>rfl) (le_refl _) (fun k c f=>Pv k c _ f) (fun k c f=>Pv k c _ f) (fun k c f=>Pv k c _ f);refine⟨h.sto.kept (fun k Jy=>?_) (fun k c f _=>Pv k c _ f),⟨n',_,Tc,fun y hy=>?_⟩,?_,aE h.giv fun k c f _=>Pv k c _ f,fun b hb=>lt_of_lt_of_le (h.yok b hb) hk.size⟩
 ·obtain⟨c,f,hc⟩:=h.sto.isT Jy;exact Pv k c _ f hc
 ·rw[Env.get]
  by_cases Nz:y=x
  ·rw[if_pos Nz];simp only[if_pos Nz];exact inr ⟨m,v,rfl,rfl,Nu hv⟩
  ·rw[if_neg Nz];simp only[if_neg Nz];rcases hf y hy with h1|⟨m',v',h1,h2,h3⟩
   ·exact inl h1
   ·exact inr ⟨m',v',h1,h2,Nu h3⟩
 ·rw[Pv _ _ _ _ h.typ];exact h.typ
def YM.BK{l:List Nat}{rk':Nat->Nat}{U':TS}{gv':Value}{x:Ky}{m:Mg}{w8 w1:World}{n8:Nat}{f f7:Ky->Option Value}(h:YM ar (ad++l) Y rk' U' ((x,m)::A) tb yb d gv' w')(hx:cL x)
  (Vz:∀y,cL y->(Env.get ((x,m)::A) y=none/\f7 y=none)\/∃m' v,Env.get ((x,m)::A) y=some m'/\f7 y=some v/\fE (ad++l) w' m' v)
  (hf:∀x,cL x->(A.get x=none/\f x=none)\/∃m v,A.get x=some m/\f x=some v/\fE ad w1 m v) (hk:∀(k:Nat)(c:Array Value)(t:TypeId)(f:Nat×Nat),t=aI\/t=cS\/t=aH->w1.heap[k]?=some (.cells c t f)->w'.heap[k]?=w1.heap[k]?)
  (Qi:aQ cL eL w8 tb n8 (fun y=>if y=x then f x else f7 y)) (ht:w'.mapTurned w8 tb):YM ar (ad++l) Y rk' U' A tb yb d gv' w8:=by
 refine⟨h.sto.kept (fun k Jy=>?_) (fun k c f _ hc=>bJ ht hc),⟨n8,_,Qi,fun y hy=>?_⟩,?_,aE h.giv fun k c f _ hc=>bJ ht hc,fun b hb=>by rw[jP ht];exact h.yok b hb⟩
 ·obtain⟨c,f,hc⟩:=h.sto.isT Jy;exact bJ ht hc
 ·by_cases Nz:y=x
  ·subst Nz;simp only[if_true];rcases hf y hy with h1|⟨m',v',h1,h2,h3⟩
   ·exact inl h1
   ·refine inr ⟨m',v',h1,h2,fE.AM (h3.kept (fun i hi=>jU l hi) (by simp) (fun k c f hc=>hk k c _ f (inl rfl) hc) (fun k c f hc=>hk k c _ f (inr (inl rfl)) hc) (fun k c f hc=>hk k c _ f (inr (inr rfl)) hc)) ht⟩
  ·simp only[if_neg Nz];rcases Vz y hy with⟨h1,h2⟩|⟨m',v',h1,h2,h3⟩
   ·rw[Env.get,if_neg Nz]at h1;exact inl ⟨h1,h2⟩
   ·rw[Env.get,if_neg Nz]at h1;exact inr ⟨m',v',h1,h2,h3.AM ht⟩
 ·rw[bJ ht h.typ];exact h.typ
def YM.CW(h:YM ar ad Y rk U A tb yb d gv w){k:Nat}(hk:Dm ad tb yb gv k):k<w.heap.size:=by
 rcases hk with hk|rfl|rfl|hk
 ·exact h.sto.BJ hk
 ·exact h.BH
 ·exact aB h.typ
 ·exact h.BY hk
def YM.AU(h:YM ar ad Y rk U A tb yb d gv w){k:Nat}{c:Array Value}{t:TypeId}{f:Nat×Nat}(hc:w.heap[k]?=some (.cells c t f))(h1:t≠aT)(h2:t≠cV)(h3:t≠aG):¬Dm ad tb yb gv k:=by
 rintro (hk|rfl|rfl|hk)
 ·exact h.sto.CB hc h1 hk
 ·obtain⟨n,f,⟨es,cl,hm,_⟩,_⟩:=h.tab;rw[hm]at hc;cases hc
 ·rw[h.typ]at hc;exact h2 (aN hc).symm
 ·rcases h.giv.2 with⟨rfl,_⟩|⟨g,cap,cur,rfl,_,Ng,_⟩
  ·simp[ownBlock]at hk
  ·have:g=k:=by simpa [ownBlock]using hk
   subst this;rw[Ng]at hc;exact h3 (aN hc).symm
structure F6(ar:Nm->Nat)(ad:List Nat)(Y:Nat->Prop)(rk:Nat->Nat)(U:TS)(A:Env)(tb yb d:Nat)(gv:Value)(x:Ky)(m:Mg)(old:Option Value)(w:World)(W:Nat)(u:World):Prop where
 w0:w.heap.size<=W
 kn:Kn (Dm ad tb yb gv) w u
 ym:YM ar ad Y rk U ((x,m)::A) tb yb d gv u
 unb:Unb tb x old W u
 sz:W+5<=u.heap.size
def F6.fin{x:Ky}{m:Mg}{W:Nat}{f:Ky->Option Value}{u:World}(h:YM ar ad Y rk U A tb yb d gv w)(hx:cL x)(hf:∀x,cL x->(A.get x=none/\f x=none)\/∃m v,A.get x=some m/\f x=some v/\fE ad w m v)
  (h6:F6 ar ad Y rk U A tb yb d gv x m (f x) w W u) {o:Option (Nat×TS)}{e:Ending}{w7:World} (ha:aJ ar ad Y ((x,m)::A) tb yb d gv o u e w7) :
  ∃n7 f7,(e=bE\/∃b,e=.returned (aA b))/\aQ cL eL w7 tb n7 f7/\Unb tb x (f x) W w7/\∀w8,(∃n',aQ cL eL w8 tb n' (fun y=>if y=x then f x else f7 y))->w7.mapTurned w8 tb->aJ ar ad Y A tb yb d gv o w e w8:=by
 obtain⟨hk,ha⟩:=ha;have Nq:Kn (Dm ad tb yb gv) w w7:=h6.kn.trans hk
 have Se:Unb tb x (f x) W w7:=h6.unb.kept fun k Kj Jy=>hk.block k (by have:=h6.sz;omega) fun hd=>by
  have:=h.CW hd;have:=h6.w0;omega
 have Vv:∀w8,w7.mapTurned w8 tb->Kn (Dm ad tb yb gv) w w8:=fun w8 ht=>Nq.AM ht (inl (inr (inl rfl)));rcases ha with⟨h1,h2,n7,f7,h3⟩|⟨t,U',l,rk',gv',h1,h2,h3,h4,h5,h7⟩
 ·refine⟨n7,f7,inl h2,h3,Se,fun w8 Qi ht=>⟨Vv w8 ht,inl ⟨h1,h2,?_⟩⟩⟩;obtain⟨n',Tc⟩:=Qi;exact⟨n',_,Tc⟩
 ·obtain⟨n7,f7,Ta,Vz⟩:=h4.tab;refine⟨n7,f7,inr ⟨_,h2⟩,Ta,Se,fun w8 Qi ht=>⟨Vv w8 ht,inr ⟨t,U',l,rk',gv',h1,h2,h3,?_,fun b hb=>le_trans h6.kn.size (h5 b hb),fun b hb=>?_⟩⟩⟩
  ·obtain⟨n',Tc⟩:=Qi;refine h4.BK hx Vz hf (fun k c t f Oq hc=>Nq.block k (aB hc) (h.AU hc ?_ ?_ ?_)) Tc ht
   ·rcases Oq with rfl|rfl|rfl<;>decide
   ·rcases Oq with rfl|rfl|rfl<;>decide
   ·rcases Oq with rfl|rfl|rfl<;>decide
  ·rcases h7 b hb with h8|h8
   ·exact inl h8
   ·exact inr (le_trans h6.kn.size h8)
def sA{t:Nat}(ht:t<ad.length)(w:World):fE ad w (Mg.var t) (.agg #[aM ad t,.string ⟨#[]⟩,.slice none 0 0,.slice none 0 0,.int .i64 0,.int .i64 0]):=
 ⟨.slice none 0 0,.slice none 0 0,[],rfl,fun t' e=>by cases e;exact ht,World.ownsRow_nil _ _ _ _,World.ownsRow_nil _ _ _ _,by simp[Mg.var,Vr.zero,AB.AD]⟩
def YM.stays(h:YM ar ad Y rk U A tb yb d gv w)(hk:Kn (fun _=>False) w w'):YM ar ad Y rk U A tb yb d gv w':=by
 have:=h.step (l:=[]) (hk.wide fun _ _ h=>h.elim) (by rw[append_nil];exact h.sto.kept (fun k Jy=>hk.block k (h.sto.BJ Jy) id) (fun k c f _ hc=>hk.block k (aB hc) id)) rfl;rw[append_nil]at this;exact this
end
end
section
open Go.RowKit
section
variable {ar:Nm->Nat}{ad:List Nat}{Y:Nat->Prop}{rk:Nat->Nat}{U:TS}{A:Env}{tb yb d:Nat}{gv:Value}{w w':World}{nb:Nat}{txt:Nm}
def FQ{t:Nat}{o:Option (Nat×TS)}(h:YM ar ad Y rk U A tb yb d gv w)(ht:t<U.nodes.length)(hx:cL (0,txt))
  (hE:∀u,Kn (Dm ad tb yb gv) w u->YM ar ad Y rk U (((0,txt),Mg.var t)::A) tb yb d gv u->Calls prog 161 #[aA yb,aA nb] u (aJ ar ad Y (((0,txt),Mg.var t)::A) tb yb d gv o u)) :
  Calls prog 212 #[aA yb,.string (bs txt),aM ad t,aA nb] w (aJ ar ad Y A tb yb d gv o w):=by
 obtain⟨n,f,hm,hf,Qe⟩:=h.tab.six;have Oh:t<ad.length:=by rw[h.len];exact ht
 have Ru:∀u,Kn (fun _=>False) w u->aQ cL eL u tb n f:=fun u hu=>hm.kept (hu.block tb hm.lt id)
 have hBI:∀u,Kn (fun _=>False) w u->Calls prog 156 #[.map (some tb),.agg #[.int .i64 0,.string (bs txt)],.agg #[aM ad t,.string ⟨#[]⟩,.slice none 0 0,.slice none 0 0,.int .i64 0,.int .i64 0]] u fun e u'=>e=.returned (lK u.heap.size)/\F6 ar ad Y rk U A tb yb d gv (0,txt) (Mg.var t) (f (0,txt)) w u.heap.size u':=fun u hu=>by
  refine(pA (Ru u hu) hx (fun v hv=>Qe _ hx v hv) (m:=.agg #[aM ad t,.string ⟨#[]⟩,.slice none 0 0,.slice none 0 0,.int .i64 0,.int .i64 0]) ⟨_,_,_,_,_,_,_,_,_,_,rfl⟩).mono ?_;rintro e u'⟨e1,⟨n',e2⟩,e3,e4,e5⟩;have Wt:=h.stays hu;refine⟨e1,hu.size,(hu.wide fun _ _ hh=>hh.elim).trans (e5.wide fun k _ hk=>inr (inl hk)),Wt.bound (Ru u hu) (fun x Pl=>?_) e2 e5 (sA Oh u),e3,by omega⟩;rcases hf x Pl with h1|⟨m',v',h1,h2,h3⟩
  ·exact inl h1
  ·exact inr ⟨m',v',h1,h2,h3.kept (fun _ _=>rfl) (le_refl _) (fun k c f hc=>hu.block k (aB hc) id) (fun k c f hc=>hu.block k (aB hc) id) (fun k c f hc=>hu.block k (aB hc) id)⟩
 have hE6:=fun(W:Nat) (u:World) (h6:F6 ar ad Y rk U A tb yb d gv (0,txt) (Mg.var t) (f (0,txt)) w W u)=>hE u h6.kn h6.ym;have Jp:=fun(W:Nat) (u:World) (h6:F6 ar ad Y rk U A tb yb d gv (0,txt) (Mg.var t) (f (0,txt)) w W u) (e:Ending) (w7:World)=>F6.fin (o:=o) (e:=e) (w7:=w7) h hx hf h6;have Mu:=fun(W:Nat) (w7:World) (n7:Nat) (f7:Ky->Option Value) (um:FrameMode) (Ta:aQ cL eL w7 tb n7 f7) (Se:Unb tb (0,txt) (f (0,txt)) W w7)=>kN (u:=um) Ta hx Se;have Nh:∀u,Kn (fun _=>False) w u->u.cell? ⟨yb,0,none⟩=some (.map (some tb)):=fun u hu=>by simp[cell?,(h.stays hu).typ]
 have hc6:∀W u,F6 ar ad Y rk U A tb yb d gv (0,txt) (Mg.var t) (f (0,txt)) w W u->u.cell? ⟨yb,0,none⟩=some (.map (some tb)):=fun W u h6=>by simp[cell?,h6.ym.typ]
 have Kv:∀u o u',Kn (fun _=>False) w u->u'=World.alloc u o->Kn (fun _=>False) w u':=fun u o u' hu e=>by subst e;exact hu.alloc o
 have hK:=fun(u:World)=>gL (bs txt) u;have hE':=aC hE6;have Mi:=aC (show Kn (fun _=>False) w w.drew from(Kn.refl _ w).drew);have k8:=aC hBI;have HE:=aC hE6;have Kk:=aC Jp;have Lx:=aC Mu;have Uf:=aC Nh;have HC6:=aC hc6;have Ni:=aC Kv;have HK:=aC hK;clear hE' hE6 hE hBI Jp Mu Nh hc6 Kv hK h hm hf Qe Ru Oh ht hx;generalize aJ ar ad Y A tb yb d gv o w=Q at *;generalize hQ6:(fun u=>aJ ar ad Y (((0,txt),Mg.var t)::A) tb yb d gv o u)=Q6 at *;generalize F6 ar ad Y rk U A tb yb d gv (0,txt) (Mg.var t) (f (0,txt)) w=F at *;generalize Kn (fun _=>False) w=V at *;have c0a:=Uf.out _ Mi.out;generalize bs txt=tx at *;unfold aM aA lK at *;generalize bH ad t=bt at *
 go_enter_defers func212,ntmps212
 go_wp2_with fail
 go_region_held3 (fun w'=>w'.cell? ⟨yb,0,none⟩=some (.map (some tb))) (exact c0a)
  (first|(go_at_call 36;refine(HK.out _).mono ?_;rintro e u⟨rfl,hu⟩;have Mi:=aC (Ni.out _ _ _ Mi.out hu);have c0a:=Uf.out _ Mi.out;clear hu)|(go_at_call 156;refine(k8.out _ Mi.out).mono ?_;rintro e u6⟨rfl,r8⟩;have H6:=aC r8;have c0a:=HC6.out _ _ r8;clear r8))
 all_goals
  have D1:=aC (HE.out _ _ H6.out);have Zu:=aC (Kk.out _ _ H6.out);clear HE Kk k8 Uf HC6 Ni HK H6 c0a Mi;go_wp2_with fail;refine(D1.out).mono ?_;intro e w7 ha;obtain⟨n7,f7,he,Ta,Se,hq⟩:=Zu.out e w7 ha;have HD:=aC (fun um=>Lx.out _ _ _ _ um Ta Se);have HQ:=aC hq;clear ha Ta Se hq D1 Zu Lx;rcases he with rfl|⟨b,rfl⟩
  ·unfold bE bQ at *;go_wp2;refine leaves_cons (f:=203) (by simp) (by simp[go_sem];rfl) ?_;refine(HD.out _).mono ?_;rintro e u' w8⟨rfl,rfl,Qi,Sp⟩;have HG:=aC (HQ.out w8 Qi Sp);simp[Leaves,settle,results,results212,go_sem];exact HG.out
  ·go_wp2;refine leaves_cons (f:=203) (by simp) (by simp[go_sem];rfl) ?_;refine(HD.out _).mono ?_;rintro e u' w8⟨rfl,rfl,Qi,Sp⟩;have HG:=aC (HQ.out w8 Qi Sp);simp[Leaves,settle,results,results212,go_sem];exact HG.out
end
end
end Go.Proofs.YthakgdfmbknakaaGreatDoor
