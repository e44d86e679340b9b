import Derived.Test.YtbkiipiocpnnnaaGreatDoorC14
set_option linter.all false
set_option maxHeartbeats 40000000
set_option maxRecDepth 100000
open Go.Proofs.Tryz
open Or (inl inr)
open Nat (zero_le lt_succ_self)
namespace Go.Proofs.YtbkiipiocpnnnaaGreatDoor
open Go.RowKit
def AnsUn(ar:Nm->Nat)(ad:List Nat)(X:Nat->Prop)(pb:Nat)(o:Option (TS×Nat))(w:World)(e:Ending)(w':World):Prop:=
 Kn (fun k=>k∈ad\/k=pb) w w'/\((o=none/\e=.returned (.bool false))\/∃σ' pl' rk',o=some (σ',pl')/\e=.returned (.bool true)/\StoM ar ad X rk' σ' w'/\w'.heap[pb]?=some (.cells #[.int .i64 pl'] tyIntB (0,0)))
section
variable {ar:Nm->Nat}{ad:List Nat}{X:Nat->Prop}{rk:Nat->Nat}{σ:TS}{w w':World}{a b pb pl:Nat}
structure UnAt(ar:Nm->Nat)(ad:List Nat)(X:Nat->Prop)(rk:Nat->Nat)(σ:TS)(pb pl ra rb:Nat)(w w3:World):Prop where
 sto:StoM ar ad X rk σ w3
 box:w3.heap[pb]?=some (.cells #[.int .i64 (pl+1:Nat)] tyIntB (0,0))
 kn:Kn (fun k=>k∈ad\/k=pb) w w3
theorem unAt_step{ra rb:Nat}(hp:w.heap[pb]?=some (.cells #[.int .i64 pl] tyIntB (0,0)))(h:StoM ar ad X rk σ w){w1:World}(h1:StoM ar ad X rk σ w1)(k1:Kn (·∈ad) w w1) :
  w1.cell? ⟨pb,0,none⟩=some (.int .i64 pl)/\w1.frozen? ⟨pb,0,none⟩=false/\UnAt ar ad X rk σ pb pl ra rb w (w1.setCell ⟨pb,0,none⟩ (.int .i64 ((pl:Int)+1))):=by
 have hb:w1.heap[pb]?=some (.cells #[.int .i64 pl] tyIntB (0,0)):=by rw[k1.block pb (lt_of_heap hp) (box_ne (by decide) hp h)];exact hp
 refine⟨by simp[World.cell?,hb],frozen_of_row _ _ _ _ _ hb,h1.box (by decide) (by decide) hb 0 _,?_,Kn.set (D:=fun k=>k∈ad\/k=pb) (k1.wide fun k _ hk=>inl hk) (p:=⟨pb,0,none⟩) (inl (inr rfl)) _⟩
 rw[heap_setCell_same _ _ _ _ _ _ hb]
 rfl
theorem UnAt.eql{ra rb:Nat}{w3:World}(h:UnAt ar ad X rk σ pb pl ra rb w w3)(hra:ra<σ.nodes.length)(hrb:rb<σ.nodes.length):(binOp .eql tyTypeP (.pointer (some ⟨adA ad ra,0,none⟩)) (.pointer (some ⟨adA ad rb,0,none⟩))).run prog w3=.ok (.bool (decide (ra=rb))) w3:=by
 rw[ptr_eql (h.sto.isVar hra) (h.sto.isVar hrb)]
 congr 2
 by_cases he:ra=rb
 ·subst he;simp
 ·have:adA ad ra≠adA ad rb:=fun e=>he (adA_inj h.sto.lt (by rw[h.sto.len];exact hra) (by rw[h.sto.len];exact hrb) e)
  simp[he,this]
theorem un_one(h:StoM ar ad X rk σ w)(ha:a<σ.nodes.length)(hb:b<σ.nodes.length)(hp:w.heap[pb]?=some (.cells #[.int .i64 pl] tyIntB (0,0)))(hpl:pl<=1000000000)(he:σ.root a=σ.root b) :
  Calls prog 185 #[adV ad a,adV ad b,.pointer (some ⟨pb,0,none⟩)] w (AnsUn ar ad X pb (some (σ,pl+1)) w):=by
 have hra:=h.ok.root_lt ha
 have hrb:=h.ok.root_lt hb
 have hR1:=root_any (rk a+1) a w (lt_succ_self _) h ha
 have hR2:∀w1,StoM ar ad X rk σ w1->Calls prog 33 #[adV ad b] w1 (AnsRoot ar ad X rk σ b w1):=fun w1 h1=>root_any (rk b+1) b w1 (lt_succ_self _) h1 hb
 have hA1:∀e w1,AnsRoot ar ad X rk σ a w e w1->e=.returned (adV ad (σ.root a))/\StoM ar ad X rk σ w1/\Kn (·∈ad) w w1:=fun e w1 x=>⟨x.1,x.2.1,x.2.2.1⟩
 have hA2:∀w1,Kn (·∈ad) w w1->∀e w2,AnsRoot ar ad X rk σ b w1 e w2->e=.returned (adV ad (σ.root b))/\w2.cell? ⟨pb,0,none⟩=some (.int .i64 pl)/\w2.frozen? ⟨pb,0,none⟩=false/\UnAt ar ad X rk σ pb pl (σ.root a) (σ.root b) w (w2.setCell ⟨pb,0,none⟩ (.int .i64 ((pl:Int)+1))):=fun w1 k1 e w2 x=>⟨x.1,unAt_step hp h x.2.1 (k1.trans x.2.2.1)⟩
 have hEq:∀w3,UnAt ar ad X rk σ pb pl (σ.root a) (σ.root b) w w3->(binOp .eql tyTypeP (.pointer (some ⟨adA ad (σ.root a),0,none⟩)) (.pointer (some ⟨adA ad (σ.root b),0,none⟩))).run prog w3=.ok (.bool (decide (σ.root a=σ.root b))) w3:=fun w3 x=>x.eql hra hrb
 have hBx:∀w3,UnAt ar ad X rk σ pb pl (σ.root a) (σ.root b) w w3->w3.cell? ⟨pb,0,none⟩=some (.int .i64 ((pl:Int)+1)):=fun w3 x=>by simp[World.cell?,x.box]
 have hfin:∀w3,UnAt ar ad X rk σ pb pl (σ.root a) (σ.root b) w w3->AnsUn ar ad X pb (some (σ,pl+1)) w (.returned (.bool true)) w3:=fun w3 x=>⟨x.kn,inr ⟨_,_,_,rfl,rfl,x.sto,x.box⟩⟩
 have hd:decide (σ.root a=σ.root b)=true:=decide_eq_true he
 have HFIN:=hide hfin
 clear hfin
 have HR1:=hide hR1
 have HR2:=hide hR2
 have HA1:=hide hA1
 have HA2:=hide hA2
 have HEQ:=hide hEq
 have HBX:=hide hBx
 clear hR1 hR2 hA1 hA2 hEq hBx hp he
 generalize hu:UnAt ar ad X rk σ pb pl (σ.root a) (σ.root b) w=U at *
 generalize hq:AnsUn ar ad X pb (some (σ,pl+1)) w=Q at *
 generalize hr1:AnsRoot ar ad X rk σ a w=Q1 at *
 generalize hr2:AnsRoot ar ad X rk σ b=Q2 at *
 clear hq hr1 hr2
 unfold adV ptrV at *
 go_enter func185,ntmps185
 go_wp2_with fail
 refine(HR1.out).mono ?_;intro e w1 x
 obtain⟨rfl,s1,k1⟩:=HA1.out e w1 x
 have HC2:=hide (HR2.out w1 s1)
 have HN:=hide (HA2.out w1 k1)
 clear x s1 k1 HR1 HA1 HR2 HA2
 go_wp2_with fail
 refine(HC2.out).mono ?_;intro e w2 x
 obtain⟨rfl,c2,f2,u3⟩:=HN.out e w2 x
 have HU:=hide u3
 clear x u3 HC2 HN
 have hw2:pl<2000000000:=by omega
 have hrun:=HEQ.out _ HU.out
 have hcb:=HBX.out _ HU.out
 have HE:=hide (HFIN.out _ HU.out)
 clear HFIN HU HEQ HBX
 rw[hd]at hrun
 go_wp2
 exact HE.out
theorem un_big(h:StoM ar ad X rk σ w)(ha:a<σ.nodes.length)(hb:b<σ.nodes.length)(hp:w.heap[pb]?=some (.cells #[.int .i64 pl] tyIntB (0,0)))(hpl:pl<=1000000000)(he:σ.root a≠σ.root b)(hbig:200<pl+1) :
  Calls prog 185 #[adV ad a,adV ad b,.pointer (some ⟨pb,0,none⟩)] w (AnsUn ar ad X pb none w):=by
 have hra:=h.ok.root_lt ha
 have hrb:=h.ok.root_lt hb
 have hR1:=root_any (rk a+1) a w (lt_succ_self _) h ha
 have hR2:∀w1,StoM ar ad X rk σ w1->Calls prog 33 #[adV ad b] w1 (AnsRoot ar ad X rk σ b w1):=fun w1 h1=>root_any (rk b+1) b w1 (lt_succ_self _) h1 hb
 have hA1:∀e w1,AnsRoot ar ad X rk σ a w e w1->e=.returned (adV ad (σ.root a))/\StoM ar ad X rk σ w1/\Kn (·∈ad) w w1:=fun e w1 x=>⟨x.1,x.2.1,x.2.2.1⟩
 have hA2:∀w1,Kn (·∈ad) w w1->∀e w2,AnsRoot ar ad X rk σ b w1 e w2->e=.returned (adV ad (σ.root b))/\w2.cell? ⟨pb,0,none⟩=some (.int .i64 pl)/\w2.frozen? ⟨pb,0,none⟩=false/\UnAt ar ad X rk σ pb pl (σ.root a) (σ.root b) w (w2.setCell ⟨pb,0,none⟩ (.int .i64 ((pl:Int)+1))):=fun w1 k1 e w2 x=>⟨x.1,unAt_step hp h x.2.1 (k1.trans x.2.2.1)⟩
 have hEq:∀w3,UnAt ar ad X rk σ pb pl (σ.root a) (σ.root b) w w3->(binOp .eql tyTypeP (.pointer (some ⟨adA ad (σ.root a),0,none⟩)) (.pointer (some ⟨adA ad (σ.root b),0,none⟩))).run prog w3=.ok (.bool (decide (σ.root a=σ.root b))) w3:=fun w3 x=>x.eql hra hrb
 have hBx:∀w3,UnAt ar ad X rk σ pb pl (σ.root a) (σ.root b) w w3->w3.cell? ⟨pb,0,none⟩=some (.int .i64 ((pl:Int)+1)):=fun w3 x=>by simp[World.cell?,x.box]
 have hfin:∀w3,UnAt ar ad X rk σ pb pl (σ.root a) (σ.root b) w w3->AnsUn ar ad X pb none w (.returned (.bool false)) w3:=fun w3 x=>⟨x.kn,inl ⟨rfl,rfl⟩⟩
 have hd:decide (σ.root a=σ.root b)=false:=decide_eq_false he
 have hbig2:(200:Int)<(pl:Int)+1:=by omega
 have HFIN:=hide hfin
 clear hfin
 have HR1:=hide hR1
 have HR2:=hide hR2
 have HA1:=hide hA1
 have HA2:=hide hA2
 have HEQ:=hide hEq
 have HBX:=hide hBx
 clear hR1 hR2 hA1 hA2 hEq hBx hp he
 generalize hu:UnAt ar ad X rk σ pb pl (σ.root a) (σ.root b) w=U at *
 generalize hq:AnsUn ar ad X pb none w=Q at *
 generalize hr1:AnsRoot ar ad X rk σ a w=Q1 at *
 generalize hr2:AnsRoot ar ad X rk σ b=Q2 at *
 clear hq hr1 hr2
 unfold adV ptrV at *
 go_enter func185,ntmps185
 go_wp2_with fail
 refine(HR1.out).mono ?_;intro e w1 x
 obtain⟨rfl,s1,k1⟩:=HA1.out e w1 x
 have HC2:=hide (HR2.out w1 s1)
 have HN:=hide (HA2.out w1 k1)
 clear x s1 k1 HR1 HA1 HR2 HA2
 go_wp2_with fail
 refine(HC2.out).mono ?_;intro e w2 x
 obtain⟨rfl,c2,f2,u3⟩:=HN.out e w2 x
 have HU:=hide u3
 clear x u3 HC2 HN
 have hw2:pl<2000000000:=by omega
 have hrun:=HEQ.out _ HU.out
 have hcb:=HBX.out _ HU.out
 have HE:=hide (HFIN.out _ HU.out)
 clear HFIN HU HEQ HBX
 rw[hd]at hrun
 go_wp2
 exact HE.out
theorem un_letA(h:StoM ar ad X rk σ w)(ha:a<σ.nodes.length)(hb:b<σ.nodes.length)(hp:w.heap[pb]?=some (.cells #[.int .i64 pl] tyIntB (0,0)))(hpl:pl<=1000000000)(he:σ.root a≠σ.root b)(hbig:¬200<pl+1)(hl:σ.isLetter (σ.root a)=true) :
  Calls prog 185 #[adV ad a,adV ad b,.pointer (some ⟨pb,0,none⟩)] w (AnsUn ar ad X pb ((σ.standFor (σ.root a) (σ.root b)).map (·,pl+1)) w):=by
 have hra:=h.ok.root_lt ha
 have hrb:=h.ok.root_lt hb
 have hR1:=root_any (rk a+1) a w (lt_succ_self _) h ha
 have hR2:∀w1,StoM ar ad X rk σ w1->Calls prog 33 #[adV ad b] w1 (AnsRoot ar ad X rk σ b w1):=fun w1 h1=>root_any (rk b+1) b w1 (lt_succ_self _) h1 hb
 have hA1:∀e w1,AnsRoot ar ad X rk σ a w e w1->e=.returned (adV ad (σ.root a))/\StoM ar ad X rk σ w1/\Kn (·∈ad) w w1:=fun e w1 x=>⟨x.1,x.2.1,x.2.2.1⟩
 have hA2:∀w1,Kn (·∈ad) w w1->∀e w2,AnsRoot ar ad X rk σ b w1 e w2->e=.returned (adV ad (σ.root b))/\w2.cell? ⟨pb,0,none⟩=some (.int .i64 pl)/\w2.frozen? ⟨pb,0,none⟩=false/\UnAt ar ad X rk σ pb pl (σ.root a) (σ.root b) w (w2.setCell ⟨pb,0,none⟩ (.int .i64 ((pl:Int)+1))):=fun w1 k1 e w2 x=>⟨x.1,unAt_step hp h x.2.1 (k1.trans x.2.2.1)⟩
 have hEq:∀w3,UnAt ar ad X rk σ pb pl (σ.root a) (σ.root b) w w3->(binOp .eql tyTypeP (.pointer (some ⟨adA ad (σ.root a),0,none⟩)) (.pointer (some ⟨adA ad (σ.root b),0,none⟩))).run prog w3=.ok (.bool (decide (σ.root a=σ.root b))) w3:=fun w3 x=>x.eql hra hrb
 have hBx:∀w3,UnAt ar ad X rk σ pb pl (σ.root a) (σ.root b) w w3->w3.cell? ⟨pb,0,none⟩=some (.int .i64 ((pl:Int)+1)):=fun w3 x=>by simp[World.cell?,x.box]
 have hil:∀w3,UnAt ar ad X rk σ pb pl (σ.root a) (σ.root b) w w3->Calls prog 34 #[adV ad (σ.root a)] w3 fun e w'=>e=.returned (.bool true)/\w'=w3:=fun w3 x=>by rw[<- hl];exact isLetter_any x.sto (by assumption)
 have hst:∀w3,UnAt ar ad X rk σ pb pl (σ.root a) (σ.root b) w w3->Calls prog 238 #[adV ad (σ.root a),adV ad (σ.root b)] w3 (AnsU ar ad X (σ.standFor (σ.root a) (σ.root b)) w3):=fun w3 x=>standFor_any x.sto (by assumption) (by assumption) hl (h.ok.root_root _) (h.ok.root_root _) (by first|exact he|exact Ne.symm he)
 have hfin:∀w3 e w4,UnAt ar ad X rk σ pb pl (σ.root a) (σ.root b) w w3->AnsU ar ad X (σ.standFor (σ.root a) (σ.root b)) w3 e w4->∃v,e=.returned (.bool v)/\AnsUn ar ad X pb ((σ.standFor (σ.root a) (σ.root b)).map (·,pl+1)) w (.returned (.bool v)) w4:=by
  rintro w3 e w4 x⟨k4,⟨h1,h2⟩|⟨σ',rk',h1,h2,h3⟩⟩
  ·exact⟨false,h2,x.kn.trans (k4.wide fun k _ hk=>inl hk),inl ⟨by rw[h1];rfl,rfl⟩⟩
  ·refine⟨true,h2,x.kn.trans (k4.wide fun k _ hk=>inl hk),inr ⟨σ',pl+1,rk',by rw[h1];rfl,rfl,h3,?_⟩⟩
   rw[k4.block pb (lt_of_heap x.box) (box_ne (by decide) x.box x.sto)];exact x.box
 have hd:decide (σ.root a=σ.root b)=false:=decide_eq_false he
 have hbig2:¬(200:Int)<(pl:Int)+1:=by omega
 have HIL:=hide hil
 have HST:=hide hst
 have HFIN:=hide hfin
 clear hfin hil hst
 have HR1:=hide hR1
 have HR2:=hide hR2
 have HA1:=hide hA1
 have HA2:=hide hA2
 have HEQ:=hide hEq
 have HBX:=hide hBx
 clear hR1 hR2 hA1 hA2 hEq hBx hp he
 generalize hu:UnAt ar ad X rk σ pb pl (σ.root a) (σ.root b) w=U at *
 generalize hq:AnsUn ar ad X pb ((σ.standFor (σ.root a) (σ.root b)).map (·,pl+1)) w=Q at *
 generalize hr1:AnsRoot ar ad X rk σ a w=Q1 at *
 generalize hr2:AnsRoot ar ad X rk σ b=Q2 at *
 clear hq hr1 hr2
 unfold adV ptrV at *
 go_enter func185,ntmps185
 go_wp2_with fail
 refine(HR1.out).mono ?_;intro e w1 x
 obtain⟨rfl,s1,k1⟩:=HA1.out e w1 x
 have HC2:=hide (HR2.out w1 s1)
 have HN:=hide (HA2.out w1 k1)
 clear x s1 k1 HR1 HA1 HR2 HA2
 go_wp2_with fail
 refine(HC2.out).mono ?_;intro e w2 x
 obtain⟨rfl,c2,f2,u3⟩:=HN.out e w2 x
 have HU:=hide u3
 clear x u3 HC2 HN
 have hw2:pl<2000000000:=by omega
 have hrun:=HEQ.out _ HU.out
 have hcb:=HBX.out _ HU.out
 have HU2:=HU
 have HC3:=hide (HIL.out _ HU.out)
 have HC4:=hide (HST.out _ HU.out)
 have HE:=hide (fun e w4=>HFIN.out _ e w4 HU.out)
 clear HFIN HU HEQ HBX HIL HST HU2
 generalize hs:AnsU ar ad X (σ.standFor (σ.root a) (σ.root b))=Q5 at *
 clear hs
 rw[hd]at hrun
 go_wp2_with fail
 generalize w2.setCell ⟨pb,0,none⟩ (.int .i64 ((pl:Int)+1))=w3 at *
 refine(HC3.out).mono ?_;rintro e w4⟨rfl,hw4⟩;subst w4
 go_wp2_with fail
 refine(HC4.out).mono ?_;intro e w4 y
 obtain⟨v,rfl,hq⟩:=HE.out e w4 y
 have HF:=hide hq
 clear y hq HE HC4 HC3
 go_wp2
 exact HF.out
theorem un_letB(h:StoM ar ad X rk σ w)(ha:a<σ.nodes.length)(hb:b<σ.nodes.length)(hp:w.heap[pb]?=some (.cells #[.int .i64 pl] tyIntB (0,0)))(hpl:pl<=1000000000)(he:σ.root a≠σ.root b)(hbig:¬200<pl+1)(hl0:σ.isLetter (σ.root a)=false)(hl:σ.isLetter (σ.root b)=true) :
  Calls prog 185 #[adV ad a,adV ad b,.pointer (some ⟨pb,0,none⟩)] w (AnsUn ar ad X pb ((σ.standFor (σ.root b) (σ.root a)).map (·,pl+1)) w):=by
 have hra:=h.ok.root_lt ha
 have hrb:=h.ok.root_lt hb
 have hR1:=root_any (rk a+1) a w (lt_succ_self _) h ha
 have hR2:∀w1,StoM ar ad X rk σ w1->Calls prog 33 #[adV ad b] w1 (AnsRoot ar ad X rk σ b w1):=fun w1 h1=>root_any (rk b+1) b w1 (lt_succ_self _) h1 hb
 have hA1:∀e w1,AnsRoot ar ad X rk σ a w e w1->e=.returned (adV ad (σ.root a))/\StoM ar ad X rk σ w1/\Kn (·∈ad) w w1:=fun e w1 x=>⟨x.1,x.2.1,x.2.2.1⟩
 have hA2:∀w1,Kn (·∈ad) w w1->∀e w2,AnsRoot ar ad X rk σ b w1 e w2->e=.returned (adV ad (σ.root b))/\w2.cell? ⟨pb,0,none⟩=some (.int .i64 pl)/\w2.frozen? ⟨pb,0,none⟩=false/\UnAt ar ad X rk σ pb pl (σ.root a) (σ.root b) w (w2.setCell ⟨pb,0,none⟩ (.int .i64 ((pl:Int)+1))):=fun w1 k1 e w2 x=>⟨x.1,unAt_step hp h x.2.1 (k1.trans x.2.2.1)⟩
 have hEq:∀w3,UnAt ar ad X rk σ pb pl (σ.root a) (σ.root b) w w3->(binOp .eql tyTypeP (.pointer (some ⟨adA ad (σ.root a),0,none⟩)) (.pointer (some ⟨adA ad (σ.root b),0,none⟩))).run prog w3=.ok (.bool (decide (σ.root a=σ.root b))) w3:=fun w3 x=>x.eql hra hrb
 have hBx:∀w3,UnAt ar ad X rk σ pb pl (σ.root a) (σ.root b) w w3->w3.cell? ⟨pb,0,none⟩=some (.int .i64 ((pl:Int)+1)):=fun w3 x=>by simp[World.cell?,x.box]
 have hnl:∀w3,UnAt ar ad X rk σ pb pl (σ.root a) (σ.root b) w w3->Calls prog 34 #[adV ad (σ.root a)] w3 fun e w'=>e=.returned (.bool false)/\w'=w3:=fun w3 x=>by rw[<- hl0];exact isLetter_any x.sto hra
 have HNL:=hide hnl
 clear hnl
 have hil:∀w3,UnAt ar ad X rk σ pb pl (σ.root a) (σ.root b) w w3->Calls prog 34 #[adV ad (σ.root b)] w3 fun e w'=>e=.returned (.bool true)/\w'=w3:=fun w3 x=>by rw[<- hl];exact isLetter_any x.sto (by assumption)
 have hst:∀w3,UnAt ar ad X rk σ pb pl (σ.root a) (σ.root b) w w3->Calls prog 238 #[adV ad (σ.root b),adV ad (σ.root a)] w3 (AnsU ar ad X (σ.standFor (σ.root b) (σ.root a)) w3):=fun w3 x=>standFor_any x.sto (by assumption) (by assumption) hl (h.ok.root_root _) (h.ok.root_root _) (by first|exact he|exact Ne.symm he)
 have hfin:∀w3 e w4,UnAt ar ad X rk σ pb pl (σ.root a) (σ.root b) w w3->AnsU ar ad X (σ.standFor (σ.root b) (σ.root a)) w3 e w4->∃v,e=.returned (.bool v)/\AnsUn ar ad X pb ((σ.standFor (σ.root b) (σ.root a)).map (·,pl+1)) w (.returned (.bool v)) w4:=by
  rintro w3 e w4 x⟨k4,⟨h1,h2⟩|⟨σ',rk',h1,h2,h3⟩⟩
  ·exact⟨false,h2,x.kn.trans (k4.wide fun k _ hk=>inl hk),inl ⟨by rw[h1];rfl,rfl⟩⟩
  ·refine⟨true,h2,x.kn.trans (k4.wide fun k _ hk=>inl hk),inr ⟨σ',pl+1,rk',by rw[h1];rfl,rfl,h3,?_⟩⟩
   rw[k4.block pb (lt_of_heap x.box) (box_ne (by decide) x.box x.sto)];exact x.box
 have hd:decide (σ.root a=σ.root b)=false:=decide_eq_false he
 have hbig2:¬(200:Int)<(pl:Int)+1:=by omega
 have HIL:=hide hil
 have HST:=hide hst
 have HFIN:=hide hfin
 clear hfin hil hst
 have HR1:=hide hR1
 have HR2:=hide hR2
 have HA1:=hide hA1
 have HA2:=hide hA2
 have HEQ:=hide hEq
 have HBX:=hide hBx
 clear hR1 hR2 hA1 hA2 hEq hBx hp he
 generalize hu:UnAt ar ad X rk σ pb pl (σ.root a) (σ.root b) w=U at *
 generalize hq:AnsUn ar ad X pb ((σ.standFor (σ.root b) (σ.root a)).map (·,pl+1)) w=Q at *
 generalize hr1:AnsRoot ar ad X rk σ a w=Q1 at *
 generalize hr2:AnsRoot ar ad X rk σ b=Q2 at *
 clear hq hr1 hr2
 unfold adV ptrV at *
 go_enter func185,ntmps185
 go_wp2_with fail
 refine(HR1.out).mono ?_;intro e w1 x
 obtain⟨rfl,s1,k1⟩:=HA1.out e w1 x
 have HC2:=hide (HR2.out w1 s1)
 have HN:=hide (HA2.out w1 k1)
 clear x s1 k1 HR1 HA1 HR2 HA2
 go_wp2_with fail
 refine(HC2.out).mono ?_;intro e w2 x
 obtain⟨rfl,c2,f2,u3⟩:=HN.out e w2 x
 have HU:=hide u3
 clear x u3 HC2 HN
 have hw2:pl<2000000000:=by omega
 have hrun:=HEQ.out _ HU.out
 have hcb:=HBX.out _ HU.out
 have HU2:=HU
 have HC3:=hide (HIL.out _ HU.out)
 have HC4:=hide (HST.out _ HU.out)
 have HE:=hide (fun e w4=>HFIN.out _ e w4 HU.out)
 have HC0:=hide (HNL.out _ HU.out)
 clear HNL
 clear HFIN HU HEQ HBX HIL HST HU2
 generalize hs:AnsU ar ad X (σ.standFor (σ.root b) (σ.root a))=Q5 at *
 clear hs
 rw[hd]at hrun
 go_wp2_with fail
 generalize w2.setCell ⟨pb,0,none⟩ (.int .i64 ((pl:Int)+1))=w3 at *
 refine(HC0.out).mono ?_;rintro e w4⟨rfl,hw4⟩;subst w4
 go_wp2_with fail
 refine(HC3.out).mono ?_;rintro e w4⟨rfl,hw4⟩;subst w4
 go_wp2_with fail
 refine(HC4.out).mono ?_;intro e w4 y
 obtain⟨v,rfl,hq⟩:=HE.out e w4 y
 have HF:=hide hq
 clear y hq HE HC4 HC3
 go_wp2
 exact HF.out
theorem un_names(h:StoM ar ad X rk σ w)(ha:a<σ.nodes.length)(hb:b<σ.nodes.length)(hp:w.heap[pb]?=some (.cells #[.int .i64 pl] tyIntB (0,0)))(hpl:pl<=1000000000)(he:σ.root a≠σ.root b)(hbig:¬200<pl+1)(hl0:σ.isLetter (σ.root a)=false)(hl1:σ.isLetter (σ.root b)=false)(hnn:(σ.node (σ.root a)).name≠(σ.node (σ.root b)).name) :
  Calls prog 185 #[adV ad a,adV ad b,.pointer (some ⟨pb,0,none⟩)] w (AnsUn ar ad X pb none w):=by
 have hra:=h.ok.root_lt ha
 have hrb:=h.ok.root_lt hb
 have hR1:=root_any (rk a+1) a w (lt_succ_self _) h ha
 have hR2:∀w1,StoM ar ad X rk σ w1->Calls prog 33 #[adV ad b] w1 (AnsRoot ar ad X rk σ b w1):=fun w1 h1=>root_any (rk b+1) b w1 (lt_succ_self _) h1 hb
 have hA1:∀e w1,AnsRoot ar ad X rk σ a w e w1->e=.returned (adV ad (σ.root a))/\StoM ar ad X rk σ w1/\Kn (·∈ad) w w1:=fun e w1 x=>⟨x.1,x.2.1,x.2.2.1⟩
 have hA2:∀w1,Kn (·∈ad) w w1->∀e w2,AnsRoot ar ad X rk σ b w1 e w2->e=.returned (adV ad (σ.root b))/\w2.cell? ⟨pb,0,none⟩=some (.int .i64 pl)/\w2.frozen? ⟨pb,0,none⟩=false/\UnAt ar ad X rk σ pb pl (σ.root a) (σ.root b) w (w2.setCell ⟨pb,0,none⟩ (.int .i64 ((pl:Int)+1))):=fun w1 k1 e w2 x=>⟨x.1,unAt_step hp h x.2.1 (k1.trans x.2.2.1)⟩
 have hEq:∀w3,UnAt ar ad X rk σ pb pl (σ.root a) (σ.root b) w w3->(binOp .eql tyTypeP (.pointer (some ⟨adA ad (σ.root a),0,none⟩)) (.pointer (some ⟨adA ad (σ.root b),0,none⟩))).run prog w3=.ok (.bool (decide (σ.root a=σ.root b))) w3:=fun w3 x=>x.eql hra hrb
 have hBx:∀w3,UnAt ar ad X rk σ pb pl (σ.root a) (σ.root b) w w3->w3.cell? ⟨pb,0,none⟩=some (.int .i64 ((pl:Int)+1)):=fun w3 x=>by simp[World.cell?,x.box]
 have hnl1:∀w3,UnAt ar ad X rk σ pb pl (σ.root a) (σ.root b) w w3->Calls prog 34 #[adV ad (σ.root a)] w3 fun e w'=>e=.returned (.bool false)/\w'=w3:=fun w3 x=>by rw[<- hl0];exact isLetter_any x.sto hra
 have hnl2:∀w3,UnAt ar ad X rk σ pb pl (σ.root a) (σ.root b) w w3->Calls prog 34 #[adV ad (σ.root b)] w3 fun e w'=>e=.returned (.bool false)/\w'=w3:=fun w3 x=>by rw[<- hl1];exact isLetter_any x.sto hrb
 have hnm:∀w3,UnAt ar ad X rk σ pb pl (σ.root a) (σ.root b) w w3->w3.cell? ⟨adA ad (σ.root a),0,none⟩=some (.string (bs (σ.node (σ.root a)).name))/\w3.cell? ⟨adA ad (σ.root b),0,none⟩=some (.string (bs (σ.node (σ.root b)).name)):=fun w3 x=>by
  obtain⟨_,_,c1,_⟩:=x.sto.cell hra
  obtain⟨_,_,c2,_⟩:=x.sto.cell hrb
  exact⟨c1,c2⟩
 have hd:decide (σ.root a=σ.root b)=false:=decide_eq_false he
 have hbig2:¬(200:Int)<(pl:Int)+1:=by omega
 have HN1:=hide hnl1
 have HN2:=hide hnl2
 have HNM:=hide hnm
 clear hnl1 hnl2 hnm
 have hfin:∀w3,UnAt ar ad X rk σ pb pl (σ.root a) (σ.root b) w w3->∀n,AnsUn ar ad X pb none w (.returned (.bool false)) (w3.drewN n):=fun w3 x n=>⟨x.kn.drewN n,inl ⟨rfl,rfl⟩⟩
 have hbq:((bs (σ.node (σ.root a)).name).toList==(bs (σ.node (σ.root b)).name).toList)=false:=by
  rw[ByteArray.toList_eq,ByteArray.toList_eq,bs_data,bs_data]
  simpa using hnn
 have HFIN:=hide hfin
 clear hfin
 have HR1:=hide hR1
 have HR2:=hide hR2
 have HA1:=hide hA1
 have HA2:=hide hA2
 have HEQ:=hide hEq
 have HBX:=hide hBx
 clear hR1 hR2 hA1 hA2 hEq hBx hp he
 generalize hu:UnAt ar ad X rk σ pb pl (σ.root a) (σ.root b) w=U at *
 generalize hq:AnsUn ar ad X pb none w=Q at *
 generalize hr1:AnsRoot ar ad X rk σ a w=Q1 at *
 generalize hr2:AnsRoot ar ad X rk σ b=Q2 at *
 clear hq hr1 hr2
 unfold adV ptrV at *
 go_enter func185,ntmps185
 go_wp2_with fail
 refine(HR1.out).mono ?_;intro e w1 x
 obtain⟨rfl,s1,k1⟩:=HA1.out e w1 x
 have HC2:=hide (HR2.out w1 s1)
 have HN:=hide (HA2.out w1 k1)
 clear x s1 k1 HR1 HA1 HR2 HA2
 go_wp2_with fail
 refine(HC2.out).mono ?_;intro e w2 x
 obtain⟨rfl,c2,f2,u3⟩:=HN.out e w2 x
 have HU:=hide u3
 clear x u3 HC2 HN
 have hw2:pl<2000000000:=by omega
 have hrun:=HEQ.out _ HU.out
 have hcb:=HBX.out _ HU.out
 have HC1:=hide (HN1.out _ HU.out)
 have HC2:=hide (HN2.out _ HU.out)
 obtain⟨n1,n2⟩:=HNM.out _ HU.out
 have HE:=hide (HFIN.out _ HU.out)
 clear HFIN HU HEQ HBX HN1 HN2 HNM
 rw[hd]at hrun
 generalize bs (σ.node (σ.root a)).name=x1 at *
 generalize bs (σ.node (σ.root b)).name=x2 at *
 go_wp2_with fail
 generalize w2.setCell ⟨pb,0,none⟩ (.int .i64 ((pl:Int)+1))=w3 at *
 refine(HC1.out).mono ?_;rintro e w4⟨rfl,hw4⟩;subst w4
 go_wp2_with fail
 refine(HC2.out).mono ?_;rintro e w4⟨rfl,hw4⟩;subst w4
 go_wp2_with fail
 go_quiet (fail)
 go_wp2
 exact HE.out _
end
section
variable {ar:Nm->Nat}{ad:List Nat}{X:Nat->Prop}{rk:Nat->Nat}{σ:TS}{w w':World}{a b pb pl:Nat}
def UnL(ar:Nm->Nat)(ad:List Nat)(X:Nat->Prop)(pb n:Nat)(σ:TS)(o:Option (TS×Nat))(xs ys:List Nat)(w:World)(k:Nat)(wr:World):Prop:=
 ∃σk pk rkk,un.unL (un n) σk pk (xs.drop k) (ys.drop k)=o/\SameN σ σk/\pk<=201+n*1000000+k/\201<=pk+n/\StoM ar ad X rkk σk wr/\wr.heap[pb]?=some (.cells #[.int .i64 pk] tyIntB (0,0))/\Kn (fun k=>k∈ad\/k=pb) w wr
theorem drop_consT{l:List Nat}{k x:Nat}(h:l[k]?=some x):l.drop k=x::l.drop (k+1):=by
 obtain⟨hl,rfl⟩:=List.getElem?_eq_some_iff.1 h
 exact List.drop_eq_getElem_cons hl
theorem un_parts(h:StoM ar ad X rk σ w)(ha:a<σ.nodes.length)(hb:b<σ.nodes.length)(hp:w.heap[pb]?=some (.cells #[.int .i64 pl] tyIntB (0,0)))(hpl:pl<=1000000000){n:Nat}(he:σ.root a≠σ.root b)(hbig:¬200<pl+1)(hl0:σ.isLetter (σ.root a)=false)(hl1:σ.isLetter (σ.root b)=false)(hnn:(σ.node (σ.root a)).name=(σ.node (σ.root b)).name)(har:∀nm,ar nm<=1000000)(hn1:1<=n)(hn2:n<=202)(hn:201<=pl+1+n)(ih:∀(σ1:TS)(rk1:Nat->Nat)(w1:World)(p1 a1 b1:Nat),StoM ar ad X rk1 σ1 w1->a1<σ1.nodes.length->b1<σ1.nodes.length->w1.heap[pb]?=some (.cells #[.int .i64 p1] tyIntB (0,0))->p1<=1000000000->201<=p1+n->Calls prog 185 #[adV ad a1,adV ad b1,.pointer (some ⟨pb,0,none⟩)] w1 (AnsUn ar ad X pb (un n σ1 p1 a1 b1) w1)) :
  Calls prog 185 #[adV ad a,adV ad b,.pointer (some ⟨pb,0,none⟩)] w (AnsUn ar ad X pb (un.unL (un n) σ (pl+1) (σ.node (σ.root a)).parts (σ.node (σ.root b)).parts) w):=by
 have hra:=h.ok.root_lt ha
 have hrb:=h.ok.root_lt hb
 have hR1:=root_any (rk a+1) a w (lt_succ_self _) h ha
 have hR2:∀w1,StoM ar ad X rk σ w1->Calls prog 33 #[adV ad b] w1 (AnsRoot ar ad X rk σ b w1):=fun w1 h1=>root_any (rk b+1) b w1 (lt_succ_self _) h1 hb
 have hA1:∀e w1,AnsRoot ar ad X rk σ a w e w1->e=.returned (adV ad (σ.root a))/\StoM ar ad X rk σ w1/\Kn (·∈ad) w w1:=fun e w1 x=>⟨x.1,x.2.1,x.2.2.1⟩
 have hA2:∀w1,Kn (·∈ad) w w1->∀e w2,AnsRoot ar ad X rk σ b w1 e w2->e=.returned (adV ad (σ.root b))/\w2.cell? ⟨pb,0,none⟩=some (.int .i64 pl)/\w2.frozen? ⟨pb,0,none⟩=false/\UnAt ar ad X rk σ pb pl (σ.root a) (σ.root b) w (w2.setCell ⟨pb,0,none⟩ (.int .i64 ((pl:Int)+1))):=fun w1 k1 e w2 x=>⟨x.1,unAt_step hp h x.2.1 (k1.trans x.2.2.1)⟩
 have hEq:∀w3,UnAt ar ad X rk σ pb pl (σ.root a) (σ.root b) w w3->(binOp .eql tyTypeP (.pointer (some ⟨adA ad (σ.root a),0,none⟩)) (.pointer (some ⟨adA ad (σ.root b),0,none⟩))).run prog w3=.ok (.bool (decide (σ.root a=σ.root b))) w3:=fun w3 x=>x.eql hra hrb
 have hBx:∀w3,UnAt ar ad X rk σ pb pl (σ.root a) (σ.root b) w w3->w3.cell? ⟨pb,0,none⟩=some (.int .i64 ((pl:Int)+1)):=fun w3 x=>by simp[World.cell?,x.box]
 have hnl1:∀w3,UnAt ar ad X rk σ pb pl (σ.root a) (σ.root b) w w3->Calls prog 34 #[adV ad (σ.root a)] w3 fun e w'=>e=.returned (.bool false)/\w'=w3:=fun w3 x=>by rw[<- hl0];exact isLetter_any x.sto hra
 have hnl2:∀w3,UnAt ar ad X rk σ pb pl (σ.root a) (σ.root b) w w3->Calls prog 34 #[adV ad (σ.root b)] w3 fun e w'=>e=.returned (.bool false)/\w'=w3:=fun w3 x=>by rw[<- hl1];exact isLetter_any x.sto hrb
 have hnm:∀w3,UnAt ar ad X rk σ pb pl (σ.root a) (σ.root b) w w3->w3.cell? ⟨adA ad (σ.root a),0,none⟩=some (.string (bs (σ.node (σ.root a)).name))/\w3.cell? ⟨adA ad (σ.root b),0,none⟩=some (.string (bs (σ.node (σ.root b)).name)):=fun w3 x=>by
  obtain⟨_,_,c1,_⟩:=x.sto.cell hra
  obtain⟨_,_,c2,_⟩:=x.sto.cell hrb
  exact⟨c1,c2⟩
 have hd:decide (σ.root a=σ.root b)=false:=decide_eq_false he
 have hbig2:¬(200:Int)<(pl:Int)+1:=by omega
 have HN1:=hide hnl1
 have HN2:=hide hnl2
 have HNM:=hide hnm
 clear hnl1 hnl2 hnm
 have hname:(σ.node (σ.root a)).name≠[]:=fun e=>by unfold TS.isLetter at hl0;rw[e]at hl0;simp at hl0
 have hlenA:=(h.ok.parts _ _ (TS.node_some hra)).2.2 hname
 have hlenB:=(h.ok.parts _ _ (TS.node_some hrb)).2.2 (by rw[<- hnn];exact hname)
 have hlen:(σ.node (σ.root b)).parts.length=(σ.node (σ.root a)).parts.length:=by rw[hlenA,hlenB,hnn]
 have hA:∀i,(σ.node i).parts.length<=1000000:=fun i=>by
  by_cases hi:i<σ.nodes.length
  ·have h1:=h.ok.parts i _ (TS.node_some hi)
   by_cases hz:(σ.node i).name=[]
   ·rw[h1.2.1 hz];exact zero_le _
   ·rw[h1.2.2 hz];exact har _
  ·unfold TS.node;rw[List.getElem?_eq_none (by omega)];exact zero_le _
 have hpA:∀p∈(σ.node (σ.root a)).parts,p<σ.nodes.length:=fun p hp=>h.ok.part_lt hra hp
 have hpB:∀p∈(σ.node (σ.root b)).parts,p<σ.nodes.length:=fun p hp=>h.ok.part_lt hrb hp
 have hlm:=hA (σ.root a)
 have hbq:((bs (σ.node (σ.root a)).name).toList==(bs (σ.node (σ.root b)).name).toList)=true:=by rw[hnn];simp
 have hst:∀w3 q,UnAt ar ad X rk σ pb pl (σ.root a) (σ.root b) w w3->UnL ar ad X pb n σ (un.unL (un n) σ (pl+1) (σ.node (σ.root a)).parts (σ.node (σ.root b)).parts) (σ.node (σ.root a)).parts (σ.node (σ.root b)).parts w 0 (w3.drewN q):=fun w3 q x=>
  ⟨σ,pl+1,rk,rfl,SameN.refl _,by omega,hn,x.sto.drewN q,x.box,x.kn.drewN q⟩
 have hrd:∀o k wr,UnL ar ad X pb n σ o (σ.node (σ.root a)).parts (σ.node (σ.root b)).parts w k wr->∃pv qv,wr.cell? ⟨adA ad (σ.root a),1,none⟩=some pv/\wr.cell? ⟨adA ad (σ.root b),1,none⟩=some qv/\wr.ownsRow 0 tyTypeP 1 pv (σ.node (σ.root a)).parts.length ((σ.node (σ.root a)).parts.map (adV ad))/\wr.ownsRow 0 tyTypeP 1 qv (σ.node (σ.root b)).parts.length ((σ.node (σ.root b)).parts.map (adV ad)):=by
  rintro o k wr⟨σk,pk,rkk,_,x2,_,_,x4,_,_⟩
  obtain⟨pv,_,_,c1,_,_,_,_,c2,_⟩:=x4.cell (i:=σ.root a) (by rw[x2.len];exact hra)
  obtain⟨qv,_,_,d1,_,_,_,_,d2,_⟩:=x4.cell (i:=σ.root b) (by rw[x2.len];exact hrb)
  rw[x2.parts]at c2 d2
  exact⟨pv,qv,c1,d1,c2,d2⟩
 have hstep:∀o k wr p q,k<1000000->(σ.node (σ.root a)).parts[k]?=some p->(σ.node (σ.root b)).parts[k]?=some q->UnL ar ad X pb n σ o (σ.node (σ.root a)).parts (σ.node (σ.root b)).parts w k wr->∃u:Option (TS×Nat),(∀m,Calls prog 185 #[adV ad p,adV ad q,.pointer (some ⟨pb,0,none⟩)] (wr.drewN m) (AnsUn ar ad X pb u (wr.drewN m)))/\∀m e wr2,AnsUn ar ad X pb u (wr.drewN m) e wr2->(e=.returned (.bool false)/\AnsUn ar ad X pb o w (.returned (.bool false)) wr2)\/(e=.returned (.bool true)/\UnL ar ad X pb n σ o (σ.node (σ.root a)).parts (σ.node (σ.root b)).parts w (k+1) wr2):=by
  rintro o k wr p q hk1 hp hq⟨σk,pk,rkk,x1,x2,x3,x3b,x4,x5,x6⟩
  rw[drop_consT hp,drop_consT hq,un.unL]at x1
  have hAk:∀i,(σk.node i).parts.length<=1000000:=fun i=>by rw[x2.parts];exact hA i
  have hnb:n*1000000<=202*1000000:=Nat.mul_le_mul_right _ hn2
  refine⟨un n σk pk p q,fun m=>ih σk rkk (wr.drewN m) pk p q (x4.drewN m) (by rw[x2.len];exact hpA p (List.mem_of_getElem? hp)) (by rw[x2.len];exact hpB q (List.mem_of_getElem? hq)) x5 (by omega) x3b,?_⟩
  rintro m e wr2⟨k2,⟨y1,y2⟩|⟨σ',pl',rk',y1,y2,y3,y4⟩⟩
  ·rw[y1]at x1
   exact inl ⟨y2,(x6.drewN m).trans k2,inl ⟨x1.symm,rfl⟩⟩
  ·rw[y1]at x1
   obtain⟨z1,z2⟩:=un_same n σk pk p q σ' pl' y1
   have z3:=un_bound (A:=1000000) n σk pk p q σ' pl' hAk y1
   exact inr ⟨y2,σ',pl',rk',x1,x2.trans z1,by omega,by omega,y3,y4,(x6.drewN m).trans k2⟩
 have hend:∀o wr,UnL ar ad X pb n σ o (σ.node (σ.root a)).parts (σ.node (σ.root b)).parts w (σ.node (σ.root a)).parts.length wr->AnsUn ar ad X pb o w (.returned (.bool true)) wr:=by
  rintro o wr⟨σk,pk,rkk,x1,x2,x3,_,x4,x5,x6⟩
  rw[List.drop_length,un.unL]at x1
  ·exact⟨x6,inr ⟨σk,pk,rkk,x1.symm,rfl,x4,x5⟩⟩
  ·intro _ _ _ _ e;cases e
 have HST:=hide hst
 generalize hou:un.unL (un n) σ (pl+1) (σ.node (σ.root a)).parts (σ.node (σ.root b)).parts=o at *
 have HRD:=hide (fun k wr=>hrd o k wr)
 have HSTEP:=hide (fun k wr p q=>hstep o k wr p q)
 have HEND:=hide (fun wr=>hend o wr)
 clear hst hrd hstep hend hA hpA hpB ih har hlenA hlenB hname hou
 generalize (σ.node (σ.root a)).parts=pa at *
 generalize (σ.node (σ.root b)).parts=qa at *
 have HR1:=hide hR1
 have HR2:=hide hR2
 have HA1:=hide hA1
 have HA2:=hide hA2
 have HEQ:=hide hEq
 have HBX:=hide hBx
 clear hR1 hR2 hA1 hA2 hEq hBx hp he h
 generalize hu:UnAt ar ad X rk σ pb pl (σ.root a) (σ.root b) w=U at *
 generalize hq:AnsUn ar ad X pb o w=Q at *
 generalize hr1:AnsRoot ar ad X rk σ a w=Q1 at *
 generalize hr2:AnsRoot ar ad X rk σ b=Q2 at *
 clear hq hr1 hr2
 unfold adV ptrV at *
 go_enter func185,ntmps185
 go_wp2_with fail
 refine(HR1.out).mono ?_;intro e w1 x
 obtain⟨rfl,s1,k1⟩:=HA1.out e w1 x
 have HC2:=hide (HR2.out w1 s1)
 have HN:=hide (HA2.out w1 k1)
 clear x s1 k1 HR1 HA1 HR2 HA2
 go_wp2_with fail
 refine(HC2.out).mono ?_;intro e w2 x
 obtain⟨rfl,c2,f2,u3⟩:=HN.out e w2 x
 have HU:=hide u3
 clear x u3 HC2 HN
 have hw2:pl<2000000000:=by omega
 have hrun:=HEQ.out _ HU.out
 have hcb:=HBX.out _ HU.out
 have HC1:=hide (HN1.out _ HU.out)
 have HC2:=hide (HN2.out _ HU.out)
 obtain⟨n1,n2⟩:=HNM.out _ HU.out
 have HST2:=hide (fun q=>HST.out _ q HU.out)
 clear HST HU HEQ HBX HN1 HN2 HNM
 rw[hd]at hrun
 generalize bs (σ.node (σ.root a)).name=x1 at *
 generalize bs (σ.node (σ.root b)).name=x2 at *
 go_wp2_with fail
 generalize w2.setCell ⟨pb,0,none⟩ (.int .i64 ((pl:Int)+1))=w3 at *
 refine(HC1.out).mono ?_;rintro e w4⟨rfl,hw4⟩;subst w4
 go_wp2_with fail
 refine(HC2.out).mono ?_;rintro e w4⟨rfl,hw4⟩;subst w4
 go_wp2_with fail
 go_quiet (fail)
 have HAT:=hide (HST2.out nq)
 clear HST2 HC1 HC2 n1 n2 hcb hrun
 generalize w3.drewN nq=w5 at *
 obtain⟨pv,qv,c1,d1,o1,o2⟩:=HRD.out 0 w5 HAT.out
 clear d1 o2
 rcases ownsRow_forms o1 with⟨rfl,hn0⟩|⟨g,cap2,rfl⟩
 ·have hpa:pa=[]:=List.length_eq_zero_iff.1 hn0
  subst hpa
  have HE:=hide (HEND.out w5 HAT.out)
  clear HRD HSTEP HEND HAT o1
  go_wp2_with fail
  refine wp_loop_rounds 1 ?_
  rw[rounds_succ]
  go_wp2
  exact HE.out
 ·clear o1
  generalize hpn:pa.length=pn at *
  go_wp2_with fail
  go_loopg [53] pn (fun gk v53 wr=>∃k,v53=.int .i64 (k:Nat)/\k+gk=pn/\Hid (UnL ar ad X pb n σ o pa qa w k wr))
  case atStart=>exact⟨0,rfl,by omega,HAT⟩
  case round=>
   clear HAT
   obtain⟨k,rfl,hk,HAT⟩:=hrel
   by_cases hlt:k<pn
   ·have hp:pa[k]?=some pa[k]:=List.getElem?_eq_getElem (by omega)
    generalize pa[k]=p at hp
    have hq:qa[k]?=some qa[k]:=List.getElem?_eq_getElem (by omega)
    generalize qa[k]=q at hq
    obtain⟨pv,qv,c1,d1,o1,o2⟩:=HRD.out k wr HAT.out
    obtain⟨u,hcall,hnx⟩:=HSTEP.out k wr p q (by omega) hp hq HAT.out
    obtain⟨g1,cp1,rfl⟩:∃g cap,pv=.slice (some ⟨g,0,none⟩) pn cap:=by
     rcases ownsRow_forms o1 with⟨_,hn0⟩|⟨g,cap,h⟩
     ·omega
     ·exact⟨g,cap,h⟩
    rw[hlen]at o2
    obtain⟨g2,cp2,rfl⟩:∃g cap,qv=.slice (some ⟨g,0,none⟩) pn cap:=by
     rcases ownsRow_forms o2 with⟨_,hn0⟩|⟨g,cap,h⟩
     ·omega
     ·exact⟨g,cap,h⟩
    have e1:wr.cell? ⟨g1,k,none⟩=some (.pointer (some ⟨adA ad p,0,none⟩)):=by
     rw[o1.cellAt k (by omega),List.getElem?_map,hp];rfl
    have e2:wr.cell? ⟨g2,k,none⟩=some (.pointer (some ⟨adA ad q,0,none⟩)):=by
     rw[o2.cellAt k (by omega),List.getElem?_map,hq];rfl
    have hlt3:(k:Int)<(pn:Int):=by omega
    have HC:=hide hcall
    have HNX:=hide hnx
    clear hcall hnx HAT hp hq o1 o2 HRD HSTEP HEND
    generalize hz:AnsUn ar ad X pb u=Q7 at *
    clear hz
    have hNX2:∀e wr2,Q7 wr.drew e wr2->∃v,e=.returned (.bool v)/\Hid ((v=false->Q (.returned (.bool false)) wr2)/\(v=true->UnL ar ad X pb n σ o pa qa w (k+1) wr2)):=fun e wr2 y=>by
     rcases HNX.out 1 e wr2 y with⟨h1,h2⟩|⟨h1,h2⟩
     ·exact⟨false,h1,fun _=>h2,fun e=>by cases e⟩
     ·exact⟨true,h1,fun e=>(by cases e),fun _=>h2⟩
    have HNX2:=hide hNX2
    clear HNX hNX2
    go_wp2_with fail
    go_region_with (first|(go_at_call 185;refine(HC.out 1).mono ?_;intro e wr2 y;obtain⟨v,rfl,hy⟩:=HNX2.out e wr2 y))
    all_goals
     cases v with
     |false=>
      have HF:=hide (hy.out.1 rfl)
      clear hy HC HNX2
      go_wp2
      exact HF.out
     |true=>
      have HF:=hide (hy.out.2 rfl)
      clear hy HC HNX2
      go_wp2_with fail
      go_roundg (pn-(k+1))
      case rel=>exact⟨k+1,by simp,by omega,HF⟩
      case measure=>omega
   ·have hkn:k=pn:=by omega
    subst hkn
    have HE:=hide (HEND.out wr HAT.out)
    have hlt3:¬(k:Int)<(k:Int):=by omega
    clear HAT HSTEP HEND HRD
    go_wp2
    exact HE.out
end
section
variable {ar:Nm->Nat}{ad:List Nat}{X:Nat->Prop}
theorem unify_any(har:∀nm,ar nm<=1000000):∀(n:Nat),n<=202->∀(σ:TS)(rk:Nat->Nat)(w:World)(pb pl a b:Nat),1<=n->StoM ar ad X rk σ w->a<σ.nodes.length->b<σ.nodes.length->w.heap[pb]?=some (.cells #[.int .i64 pl] tyIntB (0,0))->pl<=1000000000->201<=pl+n ->
  Calls prog 185 #[adV ad a,adV ad b,.pointer (some ⟨pb,0,none⟩)] w (AnsUn ar ad X pb (un n σ pl a b) w):=by
 intro n
 induction n with
 |zero=>intro _ _ _ _ _ _ _ _ h;omega
 |succ n ih=>
  intro hn σ rk w pb pl a b _ h ha hb hp hpl h201
  rw[un]
  by_cases he:σ.root a=σ.root b
  ·rw[if_pos he];exact un_one h ha hb hp hpl he
  ·rw[if_neg he]
   by_cases hbig:maxSize<pl+1
   ·rw[if_pos hbig];exact un_big h ha hb hp hpl he hbig
   ·rw[if_neg hbig]
    cases hl0:σ.isLetter (σ.root a)with
    |true=>rw[if_pos rfl];exact un_letA h ha hb hp hpl he hbig hl0
    |false=>
     rw[if_neg (by simp)]
     cases hl1:σ.isLetter (σ.root b)with
     |true=>rw[if_pos rfl];exact un_letB h ha hb hp hpl he hbig hl0 hl1
     |false=>
      rw[if_neg (by simp)]
      by_cases hnn:(σ.node (σ.root a)).name=(σ.node (σ.root b)).name
      ·rw[if_pos hnn]
       have hn1:1<=n:=by unfold maxSize at hbig;omega
       exact un_parts h ha hb hp hpl he hbig hl0 hl1 hnn har hn1 (by omega) (by omega) (fun σ1 rk1 w1 p1 a1 b1 c1 c2 c3 c4 c5 c6=>ih (by omega) σ1 rk1 w1 pb p1 a1 b1 hn1 c1 c2 c3 c4 c5 c6)
      ·rw[if_neg hnn];exact un_names h ha hb hp hpl he hbig hl0 hl1 hnn
variable {rk:Nat->Nat}{σ:TS}{w:World}{a b:Nat}
theorem Unify_any(har:∀nm,ar nm<=1000000)(h:StoM ar ad X rk σ w)(ha:a<σ.nodes.length)(hb:b<σ.nodes.length):Calls prog 138 #[adV ad a,adV ad b] w (AnsU ar ad X (σ.unify a b) w):=by
 have hbox:(w.alloc (.cells #[.int .i64 (0:Nat)] tyIntB)).heap[w.heap.size]?=some (.cells #[.int .i64 (0:Nat)] tyIntB (0,0)):=(MapKept.heap_alloc w _).1
 have hc:=unify_any har wkFuel (by decide) σ rk (w.alloc (.cells #[.int .i64 (0:Nat)] tyIntB)) w.heap.size 0 a b (by decide) (h.alloc _) ha hb hbox (by decide) (by decide)
 have hq:∀e w',AnsUn ar ad X w.heap.size (un wkFuel σ 0 a b) (w.alloc (.cells #[.int .i64 (0:Nat)] tyIntB)) e w'->∃v,e=.returned (.bool v)/\AnsU ar ad X (σ.unify a b) w (.returned (.bool v)) w':=by
  rintro e w'⟨k1,h1⟩
  have hk:Kn (·∈ad) w w':=((Kn.refl _ w).alloc _).trans' k1 fun i hi hd=>by
   rcases hd with hd|rfl
   ·exact hd
   ·omega
  rcases h1 with⟨h1,h2⟩|⟨σ',pl',rk',h1,h2,h3,_⟩
  ·exact⟨false,h2,hk,inl ⟨by unfold TS.unify;rw[h1];rfl,rfl⟩⟩
  ·exact⟨true,h2,hk,inr ⟨σ',rk',by unfold TS.unify;rw[h1];rfl,rfl,h3⟩⟩
 have HC:=hide hc
 have HQ:=hide hq
 clear hc hq hbox h
 generalize AnsU ar ad X (σ.unify a b) w=Q at *
 generalize hz:AnsUn ar ad X w.heap.size (un wkFuel σ 0 a b) (w.alloc (.cells #[.int .i64 (0:Nat)] tyIntB))=Q1 at *
 clear hz
 unfold adV ptrV at *
 go_enter func138,ntmps138
 go_wp2_with fail
 refine(HC.out).mono ?_;intro e w1 x
 obtain⟨v,rfl,hq⟩:=HQ.out e w1 x
 have HF:=hide hq
 clear x hq HQ HC
 go_wp2
 exact HF.out
end
end Go.Proofs.YtbkiipiocpnnnaaGreatDoor
