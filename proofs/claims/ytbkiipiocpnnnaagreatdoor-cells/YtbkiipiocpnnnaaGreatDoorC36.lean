import Derived.Test.YtbkiipiocpnnnaaGreatDoorC35
import Derived.Lib.SlicesS
set_option linter.all false
set_option maxHeartbeats 40000000
set_option maxRecDepth 100000
open Go.Proofs.Tryz
open Classical (choice)
open Option (bind_eq_some_iff)
open Nat (le_refl zero_le)
open List (mem_cons)
namespace Go.Proofs.YtbkiipiocpnnnaaGreatDoor
open Go.RowKit
theorem bs_inj{a b:List UInt8}(h:bs a=bs b):a=b:=by
 have:=congrArg (fun s:ByteArray=>s.data.toList) h
 simpa [bs_data]using this
theorem contains_two(a b:UInt8)(x:List UInt8):Lib.containsS [bs [a],bs [b]] (bs x)=(x==[a] || x==[b]):=by
 cases h:(x==[a] || x==[b])
 ·cases h2:Lib.containsS [bs [a],bs [b]] (bs x)
  ·rfl
  ·rw[Lib.containsS_iff]at h2
   simp only[mem_cons,List.not_mem_nil,or_false]at h2
   simp only[Bool.or_eq_false_iff,beq_eq_false_iff_ne]at h
   rcases h2 with h2|h2
   ·exact absurd (bs_inj h2) h.1
   ·exact absurd (bs_inj h2) h.2
 ·rw[Lib.containsS_iff]
  simp only[mem_cons,List.not_mem_nil,or_false]
  rcases Bool.or_eq_true_iff.1 h with h|h
  ·left;congr 1;simpa using h
  ·right;congr 1;simpa using h
def LeftAt(rb:Nat)(w:World)(k:Nat)(ts:Toks)(gk:Nat)(v:Value)(wr:World):Prop:=
 ∃t b ts1,v=ptrV b/\Mem (From w) wr 0 t b/\Rq rb ts1 wr/\Kq rb w wr/\gk=wt ts1/\wt ts1<=wt ts/\(choice lf).level k ts=(choice lf).levels k t ts1
theorem sign_kindof{k:Nat}{a b:UInt8}(hab:signsAt k=[a,b]){x:List UInt8}(hx:(x==[a] || x==[b])=true):KindOf 0 x [] 11 x [0,0]:=by
 refine KindOf.calc_ x ?_
 have h2:x=[a]\/x=[b]:=by simpa using hx
 unfold signsAt at hab
 by_cases h0:k=0
 ·rw[if_pos h0]at hab
  simp only[List.cons.injEq,and_true]at hab
  obtain⟨rfl,rfl⟩:=hab
  rcases h2 with rfl|rfl<;>decide
 ·rw[if_neg h0]at hab
  by_cases h1:k=1
  ·rw[if_pos h1]at hab
   simp only[List.cons.injEq,and_true]at hab
   obtain⟨rfl,rfl⟩:=hab
   rcases h2 with rfl|rfl<;>decide
  ·rw[if_neg h1]at hab
   simp only[List.cons.injEq,and_true]at hab
   obtain⟨rfl,rfl⟩:=hab
   rcases h2 with rfl|rfl<;>decide
theorem sign_cons{ts:Toks}{a b:UInt8}(h:(ts.headD []==[a] || ts.headD []==[b])=true):∃t r,ts=t::r:=by
 cases ts with
 |nil=>simp at h
 |cons t r=>exact⟨t,r,rfl⟩
theorem p_fromTheLeft{rb fk M k sb:Nat}{a b:UInt8}(hk1:k=1\/k=2)(hab:signsAt k=[a,b])(ha:tokKind [a]=119)(hb:tokKind [b]=119)(HE:Enters fk)(HK:∀ts w,wt ts<=M->Rq rb ts w->Calls prog fk #[ptrV rb] w (AnsN rb 0 w ((choice lf).level (k+1) ts)))(ts:Toks)(w:World)
  (hM:wt ts<=M) (h:Rq rb ts w) (hsb:w.heap[sb]?=some (.cells #[.string (bs [a]),.string (bs [b])] tyStr (0,0))) :
  Calls prog 275 #[ptrV rb,.func (.func fk) #[ptrV rb] #[],.slice (some ⟨sb,0,none⟩) 2 2] w (AnsN rb 0 w ((choice lf).level k ts)):=by
 have hE:=fun(args:Array Value) (w:World)=>HE args w
 have H1:=hide (HK ts w hM h)
 have HR:=hide HK
 have HP:=hide (fun(ts:Toks) (w:World) (h:Rq rb ts w)=>peek_any h)
 have HT:=hide (fun(t:List UInt8) (r:Toks) (w:World) (h:Rq rb (t::r) w)=>take_one h)
 have hL:(choice lf).level k ts=((choice lf).level (k+1) ts).bind fun a=>(choice lf).levels k a.1 a.2:=by rw[(choice lf).level_eq,if_neg (by omega)]
 have hLs:∀t ts1,(choice lf).levels k t ts1=bif (ts1.headD []==[a] || ts1.headD []==[b])then((choice lf).level (k+1) ts1.tail).bind fun q=>(choice lf).levels k (.mk (ts1.headD []) [] [t,q.1]) q.2 else some (t,ts1):=by
  intro t ts1
  rw[(choice lf).levels_eq,sign_level k a b hab ha hb]
  congr 1
  congr 1
  funext q
  rw[if_neg (by omega)]
 have HCon:=hide (fun(x:List UInt8) (wr:World) (hz:wr.heap[sb]?=some (.cells #[.string (bs [a]),.string (bs [b])] tyStr (0,0)))=>by
  have:=Tryz.slices_Contains_string sb 0 2 2 [bs [a],bs [b]] (bs x) wr (le_refl _) (by omega) (by
   intro j hj
   match j,hj with
   |0,_=>simp[World.cell?,hz]
   |1,_=>simp[World.cell?,hz])
  rw[show [bs [a],bs [b]].take 2=[bs [a],bs [b]]from rfl,contains_two]at this
  exact this)
 have HSB:=hide (fun(wr:World) (hq:Kq rb w wr)=>(kq_other (T:=tyStr) (by decide) h.isR hq hsb).trans hsb)
 have HL:=hide hL
 have HLs:=hide hLs
 have HKO:=hide (fun(x:List UInt8) (hx:(x==[a] || x==[b])=true)=>sign_kindof hab hx)
 clear HK HE h hsb hL hLs hab ha hb
 go_enter func275,ntmps275
 go_wp2_with fail
 refine(H1.out).mono ?_;rintro e w1⟨hq1,⟨ho1,rfl⟩|⟨t1,r1,b1,ho1,rfl,hm1,hr1⟩⟩
 ·have HQ:=hide (AnsN.no (c:=0) (o:=(choice lf).level k ts) hq1 (by rw[HL.out,ho1]<;>rfl))
  unfold gaveUp noForm
  go_wp2
  exact⟨rfl,HQ.out⟩
 ·have hlt:mu t1+wt r1<=wt ts:=(choice lf).level_w ho1
  have HAt:Hid (LeftAt rb w k ts (wt r1) (ptrV b1) w1):=⟨t1,b1,r1,rfl,hm1,hr1,hq1,rfl,by omega,by rw[HL.out,ho1]<;>rfl⟩
  clear hm1 hr1 ho1 hq1 H1 hlt HL
  go_wp2_with fail
  go_loopg [7] (wt r1) (fun gk v wr=>Hid (LeftAt rb w k ts gk v wr))
  case atStart=>exact HAt
  case round=>
   clear HAt
   obtain⟨t,b0,ts1,rfl,hm2,hr2,hq2,rfl,hle,hE2⟩:=hrel.out
   have HP2:=hide (HP.out ts1 wr hr2)
   have HC2:=hide (HCon.out (ts1.headD []) wr (HSB.out wr hq2))
   have hLt:=HLs.out t ts1
   cases hs:(ts1.headD []==[a] || ts1.headD []==[b])
   ·rw[hs]at HC2 hLt
    have HQ:=hide (AnsN.yes (c:=0) (o:=(choice lf).level k ts) hq2 (by rw[hE2,hLt]<;>rfl) hm2 hr2)
    clear hrel hm2 hr2 hq2 hE2 hLt hs HLs HKO HSB HCon HT HR
    unfold ptrV at *
    generalize bs (ts1.headD [])=bx at *
    go_wp2_with fail
    refine(HP2.out).mono ?_;rintro e wp⟨rfl,hw⟩
    rw[hw];clear hw wp
    go_wp2_with fail
    refine(HC2.out).mono ?_;rintro e wp⟨rfl,hw⟩
    rw[hw];clear hw wp
    go_wp2
    go_ret
    exact HQ.out
   ·rw[hs]at HC2 hLt
    obtain⟨tk,r2,rfl⟩:=sign_cons hs
    have hkd:=HKO.out _ hs
    rw[show (tk::r2).headD []=tk from rfl]at HP2 HC2 hLt hkd hs
    rw[show (tk::r2).tail=r2 from rfl,cond_true]at hLt
    have hwt2:wt r2<wt (tk::r2):=by rw[wt];omega
    have HT2:=hide (HT.out tk r2 wr hr2)
    have HM2:=hide hm2
    have HR2:=hide hr2
    have HQ2:=hide hq2
    have HLt:=hide (hE2.trans hLt)
    have HKD:=hide hkd
    clear hrel hm2 hr2 hq2 hE2 hLt hs HLs HKO HCon hkd
    go_wp2_with fail
    refine(HP2.out).mono ?_;rintro e wp⟨rfl,hw⟩
    rw[hw];clear hw wp
    go_wp2_with fail
    refine(HC2.out).mono ?_;rintro e wp⟨rfl,hw⟩
    rw[hw];clear hw wp
    go_wp2_with fail
    refine(HT2.out).mono ?_;rintro e w3⟨rfl,hT⟩
    have hq3:=hT.out.1
    have HC3:=hide (HR.out r2 w3 (by omega) hT.out.2)
    go_wp2_with fail
    refine(HC3.out).mono ?_;rintro e w4⟨hk4,⟨ho4,rfl⟩|⟨t4,r4,b4,ho4,rfl,hm4,hr4⟩⟩
    ·have HQ:=hide (AnsN.no (c:=0) (o:=(choice lf).level k ts) ((HQ2.out.to hq3).to hk4) (by rw[HLt.out,ho4]<;>rfl))
     unfold gaveUp noForm
     go_wp2
     exact⟨rfl,HQ.out⟩
    ·have hlt4:mu t4+wt r4<=wt r2:=(choice lf).level_w ho4
     have hm3:=(HM2.out.kq HR2.out hq3).kq hT.out.2 hk4
     have hnode:=node2 (o:=some (Tr.mk tk [] [t,t4],r4)) HKD.out ((HQ2.out.to hq3).to hk4) hm3 (hm4.since (HQ2.out.to hq3)) hr4 rfl
     have hLe:(choice lf).level k ts=(choice lf).levels k (.mk tk [] [t,t4]) r4:=by rw[HLt.out,ho4,Option.bind_some]
     have HAt:Hid (LeftAt rb w k ts (wt r4) (ptrV (w4.heap.size+1)) (w2P w4 b0 b4 11 (bs tk))):=by
      obtain⟨hq9,⟨hno,_⟩|⟨t9,r9,b9,ho9,he9,hm9,hr9⟩⟩:=hnode
      ·cases hno
      ·have hz:=Option.some.inj ho9
       have hz1:t9=.mk tk [] [t,t4]:=(congrArg Prod.fst hz).symm
       have hz2:r9=r4:=(congrArg Prod.snd hz).symm
       have hz3:w4.heap.size+1=b9:=by simpa [ptrV]using he9
       subst hz1
       subst hz2
       subst hz3
       exact⟨_,_,_,rfl,hm9,hr9,hq9,rfl,by omega,hLe⟩
     have HN:=hide (New2 w4 b0 b4 11 (bs tk))
     clear hm3 hm4 hr4 ho4 hk4 hnode hLe HLt HKD HM2 HR2 HQ2 HP2 HC2 HT2 HC3 hT hq3
     unfold ptrV at *
     generalize bs tk=bx at *
     go_wp2_with fail
     refine(HN.out).mono ?_;rintro e w9⟨rfl,rfl⟩
     go_wp2_with fail
     go_roundg (wt r4)
     case rel=>exact HAt
     case measure=>omega
theorem p_product{rb m:Nat}(hX:Below_ rb m)(ts:Toks)(w:World)(hm:wt ts<=m)(h:Rq rb ts w):Calls prog 276 #[ptrV rb] w (AnsN rb 0 w ((choice lf).level 2 ts)):=by
 have HC:=hide (p_fromTheLeft (rb:=rb) (fk:=290) (M:=m) (k:=2) (sb:=w.heap.size) (a:=42) (b:=47) (by decide) rfl (by decide) (by decide) Enters.application (fun ts w h1 h2=>(by rw[(choice lf).level_eq,if_pos rfl];exact p_application hX ts w h1 h2)) ts (w.alloc (.cells #[.string ⟨#[42]⟩,.string ⟨#[47]⟩] tyStr)) hm (h.alloc _) (by simp only[World.alloc,Array.getElem?_push_size];rfl))
 have HF:=hide (fun(e:Ending) (wz:World) (z:AnsN rb 0 (w.alloc (.cells #[.string ⟨#[42]⟩,.string ⟨#[47]⟩] tyStr)) ((choice lf).level 2 ts) e wz)=>AnsN.later ((Kq.refl rb w).alloc _) z)
 have hmf:∀(fn:Fn)(first cap:Array Value)(w:World),(Instr.makeFunc fn first cap).run prog w=.ok (.func fn first cap) w:=fun _ _ _ _=>rfl
 clear hX h
 go_enter func276,ntmps276
 go_wp2_with fail
 refine(HC.out).mono ?_;intro e wz ha
 have HQ:=hide (HF.out _ _ ha)
 rcases ha.ends with rfl|⟨v,rfl⟩
 ·unfold gaveUp noForm
  clear ha
  go_wp2
  exact⟨rfl,HQ.out⟩
 ·clear ha
  go_wp2
  go_ret
  exact HQ.out
theorem p_sum{rb m:Nat}(hX:Below_ rb m)(ts:Toks)(w:World)(hm:wt ts<=m)(h:Rq rb ts w):Calls prog 261 #[ptrV rb] w (AnsN rb 0 w ((choice lf).level 1 ts)):=by
 have HC:=hide (p_fromTheLeft (rb:=rb) (fk:=276) (M:=m) (k:=1) (sb:=w.heap.size) (a:=43) (b:=45) (by decide) rfl (by decide) (by decide) Enters.product (fun ts w h1 h2=>p_product hX ts w h1 h2) ts (w.alloc (.cells #[.string ⟨#[43]⟩,.string ⟨#[45]⟩] tyStr)) hm (h.alloc _) (by simp only[World.alloc,Array.getElem?_push_size];rfl))
 have HF:=hide (fun(e:Ending) (wz:World) (z:AnsN rb 0 (w.alloc (.cells #[.string ⟨#[43]⟩,.string ⟨#[45]⟩] tyStr)) ((choice lf).level 1 ts) e wz)=>AnsN.later ((Kq.refl rb w).alloc _) z)
 have hmf:∀(fn:Fn)(first cap:Array Value)(w:World),(Instr.makeFunc fn first cap).run prog w=.ok (.func fn first cap) w:=fun _ _ _ _=>rfl
 clear hX h
 go_enter func261,ntmps261
 go_wp2_with fail
 refine(HC.out).mono ?_;intro e wz ha
 have HQ:=hide (HF.out _ _ ha)
 rcases ha.ends with rfl|⟨v,rfl⟩
 ·unfold gaveUp noForm
  clear ha
  go_wp2
  exact⟨rfl,HQ.out⟩
 ·clear ha
  go_wp2
  go_ret
  exact HQ.out
theorem p_comparison{rb m:Nat}(hX:Below_ rb m)(ts:Toks)(w:World)(hm:wt ts<=m)(h:Rq rb ts w):Calls prog 232 #[ptrV rb] w (AnsN rb 0 w ((choice lf).level 0 ts)):=by
 have H1:=hide (p_sum hX ts w hm h)
 have HS:=hide (fun(ts:Toks) (w:World) (hm:wt ts<=m) (h:Rq rb ts w)=>p_sum hX ts w hm h)
 have HP:=hide (fun(ts:Toks) (w:World) (h:Rq rb ts w)=>peek_any h)
 have HT:=hide (fun(t:List UInt8) (r:Toks) (w:World) (h:Rq rb (t::r) w)=>take_one h)
 have HL:=hide (show (choice lf).level 0 ts=((choice lf).level 1 ts).bind fun a=>(choice lf).levels 0 a.1 a.2 by rw[(choice lf).level_eq,if_neg (by decide)])
 have HLs:=hide (fun(t:Tr) (ts1:Toks)=>show (choice lf).levels 0 t ts1=bif (ts1.headD []==[61] || ts1.headD []==[60])then((choice lf).level 1 ts1.tail).bind fun q=>some (.mk (ts1.headD []) [] [t,q.1],q.2)else some (t,ts1) by
  rw[(choice lf).levels_eq,sign_level 0 61 60 rfl (by decide) (by decide)]
  rfl)
 clear hX h
 go_enter func232,ntmps232
 go_wp2_with fail
 refine(H1.out).mono ?_;rintro e w1⟨hk1,⟨ho1,rfl⟩|⟨t1,r1,b1,ho1,rfl,hm1,hr1⟩⟩
 ·have HQ:=hide (AnsN.no (c:=0) (o:=(choice lf).level 0 ts) hk1 (by rw[HL.out,ho1]<;>rfl))
  unfold gaveUp noForm
  go_wp2
  exact⟨rfl,HQ.out⟩
 ·have hlt:mu t1+wt r1<=wt ts:=(choice lf).level_w ho1
  have HP1:=hide (HP.out r1 w1 hr1)
  have hLt:=HLs.out t1 r1
  have hE:(choice lf).level 0 ts=(choice lf).levels 0 t1 r1:=by rw[HL.out,ho1]<;>rfl
  cases h61:(r1.headD []==[61])
  ·have e61:((bs (r1.headD [])).toList==[61])=false:=(bs_lit (r1.headD []) [61]).trans h61
   cases h60:(r1.headD []==[60])
   ·have e60:((bs (r1.headD [])).toList==[60])=false:=(bs_lit (r1.headD []) [60]).trans h60
    have HQ:=hide (AnsN.yes (c:=0) (o:=(choice lf).level 0 ts) hk1 (by rw[hE,hLt,h61,h60]<;>rfl) hm1 hr1)
    clear hm1 hr1 hk1 ho1 hLt hE h61 h60 HLs HL HT HS H1 HP
    unfold ptrV at *
    generalize bs (r1.headD [])=bx at *
    go_wp2_with fail
    refine(HP1.out).mono ?_;rintro e wp⟨rfl,hw⟩
    rw[hw];clear hw wp
    go_wp2
    go_ret
    exact HQ.out
   ·have e60:((bs (r1.headD [])).toList==[60])=true:=(bs_lit (r1.headD []) [60]).trans h60
    obtain⟨tk,r2,rfl⟩:∃t r,r1=t::r:=by
     cases r1 with
     |nil=>exact absurd h60 (by decide)
     |cons t r=>exact⟨t,r,rfl⟩
    rw[show (tk::r2).headD []=tk from rfl]at *
    rw[show (tk::r2).tail=r2 from rfl]at hLt
    have hwt2:wt r2<wt (tk::r2):=by rw[wt];omega
    have hsign:(tk==[61] || tk==[60])=true:=by rw[h61,h60]<;>rfl
    rw[hsign,cond_true]at hLt
    have hkd:=sign_kindof (k:=0) rfl hsign
    have HT2:=hide (HT.out tk r2 w1 hr1)
    have HE:=hide (hE.trans hLt)
    have HKD:=hide hkd
    clear hLt hE h61 h60 hsign hkd HLs HL HT
    go_wp2_with fail
    refine(HP1.out).mono ?_;rintro e wp⟨rfl,hw⟩
    rw[hw];clear hw wp
    go_wp2_with fail
    refine(HT2.out).mono ?_;rintro e w3⟨rfl,hT⟩
    have hq3:=hT.out.1
    have HC3:=hide (HS.out r2 w3 (by omega) hT.out.2)
    go_wp2_with fail
    refine(HC3.out).mono ?_;rintro e w4⟨hk4,⟨ho4,rfl⟩|⟨t4,r4,b4,ho4,rfl,hm4,hr4⟩⟩
    ·have HQ:=hide (AnsN.no (c:=0) (o:=(choice lf).level 0 ts) ((hk1.to hq3).to hk4) (by rw[HE.out,ho4]<;>rfl))
     unfold gaveUp noForm
     go_wp2
     exact⟨rfl,HQ.out⟩
    ·have HQ:=hide (node2 (o:=(choice lf).level 0 ts) HKD.out ((hk1.to hq3).to hk4) ((hm1.kq hr1 hq3).kq hT.out.2 hk4) (hm4.since (hk1.to hq3)) hr4 (by rw[HE.out,ho4]<;>rfl))
     have HN:=hide (New2 w4 b1 b4 11 (bs tk))
     clear hm4 hr4 ho4 hk4 HE HKD HP1 HT2 HC3 hT hq3 hm1 hr1 hk1
     unfold ptrV at *
     go_wp2_with fail
     refine(HN.out).mono ?_;rintro e w9⟨rfl,rfl⟩
     go_wp2
     go_ret
     exact HQ.out
  ·have e61:((bs (r1.headD [])).toList==[61])=true:=(bs_lit (r1.headD []) [61]).trans h61
   obtain⟨tk,r2,rfl⟩:∃t r,r1=t::r:=by
    cases r1 with
    |nil=>exact absurd h61 (by decide)
    |cons t r=>exact⟨t,r,rfl⟩
   rw[show (tk::r2).headD []=tk from rfl]at *
   rw[show (tk::r2).tail=r2 from rfl]at hLt
   have hwt2:wt r2<wt (tk::r2):=by rw[wt];omega
   have hsign:(tk==[61] || tk==[60])=true:=by rw[h61]<;>rfl
   rw[hsign,cond_true]at hLt
   have hkd:=sign_kindof (k:=0) rfl hsign
   have HT2:=hide (HT.out tk r2 w1 hr1)
   have HE:=hide (hE.trans hLt)
   have HKD:=hide hkd
   clear hLt hE h61 hsign hkd HLs HL HT
   go_wp2_with fail
   refine(HP1.out).mono ?_;rintro e wp⟨rfl,hw⟩
   rw[hw];clear hw wp
   go_wp2_with fail
   refine(HT2.out).mono ?_;rintro e w3⟨rfl,hT⟩
   have hq3:=hT.out.1
   have HC3:=hide (HS.out r2 w3 (by omega) hT.out.2)
   go_wp2_with fail
   refine(HC3.out).mono ?_;rintro e w4⟨hk4,⟨ho4,rfl⟩|⟨t4,r4,b4,ho4,rfl,hm4,hr4⟩⟩
   ·have HQ:=hide (AnsN.no (c:=0) (o:=(choice lf).level 0 ts) ((hk1.to hq3).to hk4) (by rw[HE.out,ho4]<;>rfl))
    unfold gaveUp noForm
    go_wp2
    exact⟨rfl,HQ.out⟩
   ·have HQ:=hide (node2 (o:=(choice lf).level 0 ts) HKD.out ((hk1.to hq3).to hk4) ((hm1.kq hr1 hq3).kq hT.out.2 hk4) (hm4.since (hk1.to hq3)) hr4 (by rw[HE.out,ho4]<;>rfl))
    have HN:=hide (New2 w4 b1 b4 11 (bs tk))
    clear hm4 hr4 ho4 hk4 HE HKD HP1 HT2 HC3 hT hq3 hm1 hr1 hk1
    unfold ptrV at *
    go_wp2_with fail
    refine(HN.out).mono ?_;rintro e w9⟨rfl,rfl⟩
    go_wp2
    go_ret
    exact HQ.out
def LFam.setE(L:LFam)(ts:Toks):Option (Tr×Toks):=(L.level 0 ts).bind fun a=>L.set a.1 a.2
theorem setE_w{ts:Toks}{q:Tr×Toks}(h:(choice lf).setE ts=some q):mu q.1+wt q.2<=wt ts:=by
 unfold LFam.setE at h
 rw[bind_eq_some_iff]at h
 obtain⟨a,ha,h⟩:=h
 have h1:=(choice lf).level_w ha
 have h2:=(choice lf).set_w h
 omega
theorem p_set{rb m:Nat}(hX:Below_ rb m)(ts:Toks)(w:World)(hm:wt ts<=m)(h:Rq rb ts w):Calls prog 175 #[ptrV rb] w (AnsN rb 0 w ((choice lf).setE ts)):=by
 have H1:=hide (p_comparison hX ts w hm h)
 have HS:=hide (fun(ts:Toks) (w:World) (hm:wt ts<=m) (h:Rq rb ts w)=>p_comparison hX ts w hm h)
 have HA:=hide (fun(ts:Toks) (w:World) (h:Rq rb ts w)=>accept_w (x:=K.set_) bsK_set (by decide) h)
 clear hX h
 go_enter func175,ntmps175
 go_wp2_with fail
 refine(H1.out).mono ?_;rintro e w1⟨hk1,⟨ho1,rfl⟩|⟨t1,r1,b1,ho1,rfl,hm1,hr1⟩⟩
 ·have HQ:=hide (AnsN.no (c:=0) (o:=(choice lf).setE ts) hk1 (by unfold LFam.setE;rw[ho1]<;>rfl))
  unfold gaveUp noForm
  go_wp2
  exact⟨rfl,HQ.out⟩
 ·have hlt:mu t1+wt r1<=wt ts:=(choice lf).level_w ho1
  have HB:=hide (HA.out r1 w1 hr1)
  go_wp2_with fail
  refine(HB.out).mono ?_;rintro e w2⟨hk2,⟨ho2,rfl,hr2⟩|⟨ho2,rfl,hr2⟩⟩
  ·have HQ:=hide (AnsN.yes (c:=0) (o:=(choice lf).setE ts) (hk1.to hk2) (by unfold LFam.setE;rw[ho1,Option.bind_some,(choice lf).set_eq,ho2]<;>rfl) (hm1.kq hr1 hk2) hr2)
   unfold ptrV at *
   go_wp2
   go_ret
   exact HQ.out
  ·have hlt2:=wt_isW_lt ho2
   have HC:=hide (HS.out r1.tail w2 (by omega) hr2)
   go_wp2_with fail
   refine(HC.out).mono ?_;rintro e w3⟨hk3,⟨ho3,rfl⟩|⟨t3,r3,b3,ho3,rfl,hm3,hr3⟩⟩
   ·have HQ:=hide (AnsN.no (c:=0) (o:=(choice lf).setE ts) ((hk1.to hk2).to hk3) (by unfold LFam.setE;rw[ho1,Option.bind_some,(choice lf).set_eq,ho2,cond_true,ho3]<;>rfl))
    unfold gaveUp noForm
    go_wp2
    exact⟨rfl,HQ.out⟩
   ·have HQ:=hide (node2 (o:=(choice lf).setE ts) KindOf.set ((hk1.to hk2).to hk3) ((hm1.kq hr1 hk2).kq hr2 hk3) (hm3.since (hk1.to hk2)) hr3 (by unfold LFam.setE;rw[ho1,Option.bind_some,(choice lf).set_eq,ho2,cond_true,ho3]<;>rfl))
    have HN:=hide (New2 w3 b1 b3 10 ⟨#[]⟩)
    unfold ptrV at *
    go_wp2_with fail
    refine(HN.out).mono ?_;rintro e w4⟨rfl,rfl⟩
    go_wp2
    go_ret
    exact HQ.out
def LFam.seqE(L:LFam)(ts:Toks):Option (Tr×Toks):=(L.setE ts).bind fun a=>bif G.isW K.semi_ a.2 then(L.expr a.2.tail).bind fun b=>some (.mk K.seq_ [] [a.1,b.1],b.2)else some a
theorem p_sequence{rb m:Nat}(hX:Below_ rb m)(ts:Toks)(w:World)(hm:wt ts<=m)(h:Rq rb ts w):Calls prog 130 #[ptrV rb] w (AnsN rb 0 w ((choice lf).seqE ts)):=by
 have H1:=hide (p_set hX ts w hm h)
 have HS:=hide (fun(ts:Toks) (w:World) (hm:wt ts<m) (h:Rq rb ts w)=>(hX ts w hm h).1)
 have HA:=hide (fun(ts:Toks) (w:World) (h:Rq rb ts w)=>accept_w (x:=K.semi_) bsK_semi (by decide) h)
 unfold ExprAt at HS
 clear hX h
 go_enter func130,ntmps130
 go_wp2_with fail
 refine(H1.out).mono ?_;rintro e w1⟨hk1,⟨ho1,rfl⟩|⟨t1,r1,b1,ho1,rfl,hm1,hr1⟩⟩
 ·have HQ:=hide (AnsN.no (c:=0) (o:=(choice lf).seqE ts) hk1 (by unfold LFam.seqE;rw[ho1]<;>rfl))
  unfold gaveUp noForm
  go_wp2
  exact⟨rfl,HQ.out⟩
 ·have hlt:mu t1+wt r1<=wt ts:=setE_w ho1
  have HB:=hide (HA.out r1 w1 hr1)
  go_wp2_with fail
  refine(HB.out).mono ?_;rintro e w2⟨hk2,⟨ho2,rfl,hr2⟩|⟨ho2,rfl,hr2⟩⟩
  ·have HQ:=hide (AnsN.yes (c:=0) (o:=(choice lf).seqE ts) (hk1.to hk2) (by unfold LFam.seqE;rw[ho1,Option.bind_some,ho2]<;>rfl) (hm1.kq hr1 hk2) hr2)
   unfold ptrV at *
   go_wp2
   go_ret
   exact HQ.out
  ·have hlt2:=wt_isW_lt ho2
   have HC:=hide (HS.out r1.tail w2 (by omega) hr2)
   go_wp2_with fail
   refine(HC.out).mono ?_;rintro e w3⟨hk3,⟨ho3,rfl⟩|⟨t3,r3,b3,ho3,rfl,hm3,hr3⟩⟩
   ·have HQ:=hide (AnsN.no (c:=0) (o:=(choice lf).seqE ts) ((hk1.to hk2).to hk3) (by unfold LFam.seqE;rw[ho1,Option.bind_some,ho2,cond_true,ho3]<;>rfl))
    unfold gaveUp noForm
    go_wp2
    exact⟨rfl,HQ.out⟩
   ·have HQ:=hide (node2 (o:=(choice lf).seqE ts) KindOf.seq ((hk1.to hk2).to hk3) ((hm1.kq hr1 hk2).kq hr2 hk3) (hm3.since (hk1.to hk2)) hr3 (by unfold LFam.seqE;rw[ho1,Option.bind_some,ho2,cond_true,ho3]<;>rfl))
    have HN:=hide (New2 w3 b1 b3 9 ⟨#[]⟩)
    unfold ptrV at *
    go_wp2_with fail
    refine(HN.out).mono ?_;rintro e w4⟨rfl,rfl⟩
    go_wp2
    go_ret
    exact HQ.out
def LFam.ifE(L:LFam)(ts:Toks):Option (Tr×Toks):=(L.expr ts).bind fun a=>(G.want K.then_ a.2).bind fun r=>(L.expr r).bind fun b=>(G.want K.else_ b.2).bind fun r=>(L.expr r).bind fun c=>some (.mk K.if_ [] [a.1,b.1,c.1],c.2)
theorem p_choice{rb m:Nat}(hX:Below_ rb m)(ts:Toks)(w:World)(hm:wt ts<m)(h:Rq rb ts w):Calls prog 129 #[ptrV rb] w (AnsN rb 0 w ((choice lf).ifE ts)):=by
 have H1:=hide ((hX ts w hm h).1)
 have HS:=hide (fun(ts:Toks) (w:World) (hm:wt ts<m) (h:Rq rb ts w)=>(hX ts w hm h).1)
 have HA:=hide (fun(ts:Toks) (w:World) (h:Rq rb ts w)=>expect_w (x:=K.then_) bsK_then (by decide) h)
 have HB:=hide (fun(ts:Toks) (w:World) (h:Rq rb ts w)=>expect_w (x:=K.else_) bsK_else (by decide) h)
 unfold ExprAt at HS H1
 clear hX h
 go_enter func129,ntmps129
 go_wp2_with fail
 refine(H1.out).mono ?_;rintro e w1⟨hk1,⟨ho1,rfl⟩|⟨t1,r1,b1,ho1,rfl,hm1,hr1⟩⟩
 ·have HQ:=hide (AnsN.no (c:=0) (o:=(choice lf).ifE ts) hk1 (by unfold LFam.ifE;rw[ho1]<;>rfl))
  unfold gaveUp noForm
  go_wp2
  exact⟨rfl,HQ.out⟩
 ·have hlt1:mu t1+wt r1<=wt ts:=(choice lf).expr_w ho1
  have HC:=hide (HA.out r1 w1 hr1)
  go_wp2_with fail
  refine(HC.out).mono ?_;rintro e w2⟨hk2,⟨ho2,rfl⟩|⟨r2,ho2,rfl,hr2⟩⟩
  ·have HQ:=hide (AnsN.no (c:=0) (o:=(choice lf).ifE ts) (hk1.to hk2) (by unfold LFam.ifE;rw[ho1,Option.bind_some,ho2]<;>rfl))
   unfold gaveUp noForm
   go_wp2
   exact⟨rfl,HQ.out⟩
  ·have hlt2:=wt_want ho2
   have HC:=hide (HS.out r2 w2 (by omega) hr2)
   go_wp2_with fail
   refine(HC.out).mono ?_;rintro e w3⟨hk3,⟨ho3,rfl⟩|⟨t3,r3,b3,ho3,rfl,hm3,hr3⟩⟩
   ·have HQ:=hide (AnsN.no (c:=0) (o:=(choice lf).ifE ts) ((hk1.to hk2).to hk3) (by unfold LFam.ifE;rw[ho1,Option.bind_some,ho2,Option.bind_some,ho3]<;>rfl))
    unfold gaveUp noForm
    go_wp2
    exact⟨rfl,HQ.out⟩
   ·have hlt3:mu t3+wt r3<=wt r2:=(choice lf).expr_w ho3
    have HC:=hide (HB.out r3 w3 hr3)
    go_wp2_with fail
    refine(HC.out).mono ?_;rintro e w4⟨hk4,⟨ho4,rfl⟩|⟨r4,ho4,rfl,hr4⟩⟩
    ·have HQ:=hide (AnsN.no (c:=0) (o:=(choice lf).ifE ts) (((hk1.to hk2).to hk3).to hk4) (by unfold LFam.ifE;rw[ho1,Option.bind_some,ho2,Option.bind_some,ho3,Option.bind_some,ho4]<;>rfl))
     unfold gaveUp noForm
     go_wp2
     exact⟨rfl,HQ.out⟩
    ·have hlt4:=wt_want ho4
     have HC:=hide (HS.out r4 w4 (by omega) hr4)
     go_wp2_with fail
     refine(HC.out).mono ?_;rintro e w5⟨hk5,⟨ho5,rfl⟩|⟨t5,r5,b5,ho5,rfl,hm5,hr5⟩⟩
     ·have HQ:=hide (AnsN.no (c:=0) (o:=(choice lf).ifE ts) ((((hk1.to hk2).to hk3).to hk4).to hk5) (by unfold LFam.ifE;rw[ho1,Option.bind_some,ho2,Option.bind_some,ho3,Option.bind_some,ho4,Option.bind_some,ho5]<;>rfl))
      unfold gaveUp noForm
      go_wp2
      exact⟨rfl,HQ.out⟩
     ·have HQ:=hide (node3 (o:=(choice lf).ifE ts) KindOf.if_ ((((hk1.to hk2).to hk3).to hk4).to hk5) ((((hm1.kq hr1 hk2).kq hr2 hk3).kq hr3 hk4).kq hr4 hk5) (((hm3.since (hk1.to hk2)).kq hr3 hk4).kq hr4 hk5) (hm5.since (((hk1.to hk2).to hk3).to hk4)) hr5 (by unfold LFam.ifE;rw[ho1,Option.bind_some,ho2,Option.bind_some,ho3,Option.bind_some,ho4,Option.bind_some,ho5]<;>rfl))
      have HN:=hide (New3 w5 b1 b3 b5 8 ⟨#[]⟩)
      unfold ptrV at *
      go_wp2_with fail
      refine(HN.out).mono ?_;rintro e w9⟨rfl,rfl⟩
      go_wp2
      go_ret
      exact HQ.out
theorem tail_extract(s:ByteArray):(s.extract 1 s.size).data.toList=s.data.toList.tail:=by
 rw[Lib.extract_to_end];simp
theorem letterLength_any(s:ByteArray)(w:World)(hs:s.size<=maxLen)(hp:0<s.size) :
  Calls prog 83 #[.string s] w fun e w'=>e=.returned (.int .i64 (letterLen s.data.toList))/\w'=w:=by
 have hs':s.size<=9223372036854775807:=hs
 have hz:(s.extract 1 s.size).size<=maxLen:=by simp;omega
 have hle:=nameLen_le s.data.toList.tail
 have hc:∀wx,Calls prog 77 #[.string (s.extract 1 s.size)] wx fun e w'=>e=.returned (.int .i64 (nameLen s.data.toList.tail))/\w'=wx:=fun wx=>by
  have:=nameLength_any _ wx hz;rw[tail_extract]at this;exact this
 have hx:((s.extract 1 s.size).extract 0 (nameLen s.data.toList.tail)).data.toList=s.data.toList.tail.take (nameLen s.data.toList.tail):=by
  rw[Lib.extract_data,tail_extract];simp
 have hd:∀wx,Calls prog 119 #[.string ((s.extract 1 s.size).extract 0 (nameLen s.data.toList.tail))] wx fun e w'=>e=.returned (.bool (wordL (s.data.toList.tail.take (nameLen s.data.toList.tail))))/\w'=wx:=fun wx=>by
  have:=isWord_any ((s.extract 1 s.size).extract 0 (nameLen s.data.toList.tail)) wx;rw[hx]at this;exact this
 have hsz:nameLen s.data.toList.tail<=s.size-1:=by simpa using hle
 clear hx hle
 have hfin:letterLen s.data.toList=bif nameLen s.data.toList.tail==0 || wordL (s.data.toList.tail.take (nameLen s.data.toList.tail))then 0 else 1+nameLen s.data.toList.tail:=rfl
 generalize wordL (s.data.toList.tail.take (nameLen s.data.toList.tail))=b at *
 generalize nameLen s.data.toList.tail=n at *
 generalize letterLen s.data.toList=R at *
 have HC:Hid (∀wx,Calls prog 77 #[.string (s.extract 1 s.size)] wx fun e w'=>e=.returned (.int .i64 n)/\w'=wx):=hc
 have HD:Hid (∀wx,Calls prog 119 #[.string ((s.extract 1 s.size).extract 0 n)] wx fun e w'=>e=.returned (.bool b)/\w'=wx):=hd
 have HF:Hid (R=bif n==0 || b then 0 else 1+n):=hfin
 clear hc hd hfin
 by_cases hn:n=0
 ·subst hn
  go_enter func83,ntmps83
  go_wp2_with (go_at_call 77;refine(HC.out _).mono ?_;rintro e w'⟨rfl,rfl⟩)
  go_ret
  exact⟨ret_int (by rw[HF.out];simp),rfl⟩
 ·have hb:((n:Int)==0)=false:=by simp[hn]
  have hsl:=fun wx=>run_slice_of_slice (P:=prog) 9 underlying9 s 1 s.size 0 n (by omega) (by omega) wx
  cases b
  ·go_enter func83,ntmps83
   go_wp2_with (first|(go_at_call 77;refine(HC.out _).mono ?_;rintro e w'⟨rfl,rfl⟩)|(go_at_call 119;refine(HD.out _).mono ?_;rintro e w'⟨rfl,rfl⟩))
   go_ret
   exact⟨ret_int (by
             have h3:(n==0)=false:=by simpa using hn
             rw[HF.out];simp[h3]),rfl⟩
  ·go_enter func83,ntmps83
   go_wp2_with (first|(go_at_call 77;refine(HC.out _).mono ?_;rintro e w'⟨rfl,rfl⟩)|(go_at_call 119;refine(HD.out _).mono ?_;rintro e w'⟨rfl,rfl⟩))
   go_ret
   exact⟨ret_int (by rw[HF.out];simp),rfl⟩
theorem remarkLength_any(s:ByteArray)(w:World) :
  Calls prog 75 #[.string s] w fun e w'=>e=.returned (.int .i64 (cnt no10B s.data.toList))/\w'=w:=by
 have hc:∀wx,Calls prog 117 #[.string s,.int .u8 10] wx fun e w'=>e=.returned (.int .i64 (Lib.indexByte s.data.toList 10))/\w'=wx:=fun wx=>Tryz.strings_IndexByte s 10 wx
 have hr:=remark_len s.data.toList
 have hlen:s.data.toList.length=s.size:=rfl
 rw[hlen]at hr
 clear hlen
 generalize Lib.indexByte s.data.toList 10=i at *
 generalize cnt no10B s.data.toList=n at *
 have HC:Hid (∀wx,Calls prog 117 #[.string s,.int .u8 10] wx fun e w'=>e=.returned (.int .i64 i)/\w'=wx):=hc
 have HR:Hid ((n:Int)=if 0<=i then i else s.size):=hr
 clear hc hr
 by_cases h:0<=i
 ·go_enter func75,ntmps75
  go_wp2_with (go_at_call 117;refine(HC.out _).mono ?_;rintro e w'⟨rfl,rfl⟩)
  go_ret
  exact⟨ret_int (by rw[HR.out,if_pos h]),rfl⟩
 ·go_enter func75,ntmps75
  go_wp2_with (go_at_call 117;refine(HC.out _).mono ?_;rintro e w'⟨rfl,rfl⟩)
  go_ret
  exact⟨ret_int (by rw[HR.out,if_neg (by omega)]),rfl⟩
theorem sign_of(s:ByteArray)(hp:0<s.size) :
  (signLen s.data.toList:Int)=if Lib.hasPrefix s.data.toList [58,61]=true\/Lib.hasPrefix s.data.toList [45,62]=true then 2 else if 0<=Lib.indexByte signs s[0]then 1 else 0:=by
 have h0:(0<=Lib.indexByte signs s[0])=(s[0]∈signs):=propext (indexByte_mem _ _)
 simp only[h0]
 have e:=head_cons s hp
 simp only[signLen]
 split
 ·rfl
 ·rw[e];dsimp only;split<;>rfl
theorem signLength_any(s:ByteArray)(w:World)(hp:0<s.size) :
  Calls prog 84 #[.string s] w fun e w'=>e=.returned (.int .i64 (signLen s.data.toList))/\w'=w:=by
 have hc1:∀wx,Calls prog 120 #[.string s,.string ⟨#[58,61]⟩] wx fun e w'=>e=.returned (.bool (Lib.hasPrefix s.data.toList [58,61]))/\w'=wx:=fun wx=>Tryz.strings_HasPrefix s ⟨#[58,61]⟩ wx
 have hc2:∀wx,Calls prog 120 #[.string s,.string ⟨#[45,62]⟩] wx fun e w'=>e=.returned (.bool (Lib.hasPrefix s.data.toList [45,62]))/\w'=wx:=fun wx=>Tryz.strings_HasPrefix s ⟨#[45,62]⟩ wx
 have hc3:∀wx,Calls prog 117 #[.string ⟨#[40,41,61,60,43,45,42,47,59,124,33,46,95]⟩,.int .u8 s[0].toNat] wx fun e w'=>e=.returned (.int .i64 (Lib.indexByte signs s[0]))/\w'=wx:=fun wx=>by
  have:=Tryz.strings_IndexByte ⟨#[40,41,61,60,43,45,42,47,59,124,33,46,95]⟩ s[0].toNat wx
  simp only[Int.toNat_natCast,UInt8.ofNat_toNat,Nat.toUInt8_eq]at this
  exact this
 have hr:=sign_of s hp
 generalize Lib.hasPrefix s.data.toList [58,61]=b1 at *
 generalize Lib.hasPrefix s.data.toList [45,62]=b2 at *
 generalize Lib.indexByte signs s[0]=i at *
 generalize signLen s.data.toList=n at *
 have HC1:Hid (∀wx,Calls prog 120 #[.string s,.string ⟨#[58,61]⟩] wx fun e w'=>e=.returned (.bool b1)/\w'=wx):=hc1
 have HC2:Hid (∀wx,Calls prog 120 #[.string s,.string ⟨#[45,62]⟩] wx fun e w'=>e=.returned (.bool b2)/\w'=wx):=hc2
 have HC3:Hid (∀wx,Calls prog 117 #[.string ⟨#[40,41,61,60,43,45,42,47,59,124,33,46,95]⟩,.int .u8 s[0].toNat] wx fun e w'=>e=.returned (.int .i64 i)/\w'=wx):=hc3
 have HR:Hid ((n:Int)=if b1=true\/b2=true then 2 else if 0<=i then 1 else 0):=hr
 clear hc1 hc2 hc3 hr
 cases b1
 ·cases b2
  ·by_cases h:0<=i
   all_goals
    go_enter func84,ntmps84
    go_wp2_with fail
    refine(HC1.out _).mono ?_;rintro e w'⟨rfl,rfl⟩
    go_wp2_with fail
    refine(HC2.out _).mono ?_;rintro e w'⟨rfl,rfl⟩
    go_wp2_with fail
    refine(HC3.out _).mono ?_;rintro e w'⟨rfl,rfl⟩
    go_wp2_with fail
    go_ret
    exact⟨ret_int (by rw[HR.out];simp[h]),rfl⟩
  ·go_enter func84,ntmps84
   go_wp2_with fail
   refine(HC1.out _).mono ?_;rintro e w'⟨rfl,rfl⟩
   go_wp2_with fail
   refine(HC2.out _).mono ?_;rintro e w'⟨rfl,rfl⟩
   go_wp2_with fail
   go_ret
   exact⟨ret_int (by rw[HR.out];simp),rfl⟩
 ·go_enter func84,ntmps84
  go_wp2_with fail
  refine(HC1.out _).mono ?_;rintro e w'⟨rfl,rfl⟩
  go_wp2_with fail
  go_ret
  exact⟨ret_int (by rw[HR.out];simp),rfl⟩
theorem u8_ne{c:UInt8}{n:Nat}(hn:n<256)(h:((c.toNat:Int)==(n:Int))=false):c≠UInt8.ofNat n:=by
 intro e;subst e
 simp at h;omega
theorem gapLength_any(s:ByteArray)(w:World)(hs:s.size<=maxLen) :
  Calls prog 49 #[.string s] w fun e w'=>e=.returned (.int .i64 (gap false s.data.toList))/\w'=w:=by
 unfold maxLen at hs
 go_enter func49,ntmps49
 go_wp2
 go_loop [3] (fun i=>∃k:Nat,k<=s.size/\i=.int .i64 k/\Hid (gap false s.data.toList=k+gap false (s.data.toList.drop k))) (fun i=>s.size-(intOf i).toNat)
 case atStart=>exact⟨0,zero_le _,rfl,show gap _ _=_ by simp⟩
 case round=>
  obtain⟨k,hk,rfl,H⟩:=hrel
  by_cases hlt:k<s.size
  ·have hl:s.data.toList.length=s.size:=rfl
   have hg:s.data.toList[k]=s[k]:=rfl
   cases hb:blankB s[k].toNat
   ·have hb':((s[k].toNat:Int)==32)=false/\((s[k].toNat:Int)==9)=false/\((s[k].toNat:Int)==10)=false:=by
     simp only[blankB,Bool.or_eq_false_iff]at hb;exact⟨hb.1.1,hb.1.2,hb.2⟩
    obtain⟨h32,h9,h10⟩:=hb'
    cases h35:((s[k].toNat:Int)==35)
    ·have HO:Hid (gap false (s.data.toList.drop k)=0):=gap_other s.data.toList k hlt hb (u8_ne (n:=35) (by omega) h35)
     clear hl hg hb
     go_wp2
     go_ret
     exact⟨ret_int (by rw[H.out,HO.out];simp),rfl⟩
    ·have hc35:s[k]=35:=by
      rw[beq_iff_eq]at h35
      exact UInt8.toNat_inj.1 (by rw[show (35:UInt8).toNat=35 from rfl];omega)
     have hr:=gap_remark s.data.toList k hlt hc35
     have hle:=cnt_le no10B (s.data.toList.drop k)
     rw[List.length_drop,hl]at hle
     have hc:∀wx,Calls prog 75 #[.string (s.extract k s.size)] wx fun e w'=>e=.returned (.int .i64 (cnt no10B (s.data.toList.drop k)))/\w'=wx:=fun wx=>by
      have:=remarkLength_any (s.extract k s.size) wx;rw[Lib.extract_to_end]at this;exact this
     clear hc35 hg hl hb
     generalize cnt no10B (s.data.toList.drop k)=n at *
     have HR:Hid (gap false (s.data.toList.drop k)=n+gap false (s.data.toList.drop (k+n))):=hr.1
     have hn1:=hr.2
     have HC:Hid (∀wx,Calls prog 75 #[.string (s.extract k s.size)] wx fun e w'=>e=.returned (.int .i64 n)/\w'=wx):=hc
     clear hc hr
     go_wp2_with (go_at_call 75;refine(HC.out _).mono ?_;rintro e w'⟨rfl,rfl⟩)
     go_round
     case rel=>exact⟨k+n,by omega,by go_num,show gap _ _=_ by rw[H.out,HR.out];omega⟩
     case measure=>simp[intOf];omega
   ·have HB:Hid (gap false (s.data.toList.drop k)=1+gap false (s.data.toList.drop (k+1))):=gap_blank s.data.toList k hlt hb
    have hb':((s[k].toNat:Int)==32)=true\/(((s[k].toNat:Int)==32)=false/\((s[k].toNat:Int)==9)=true)\/(((s[k].toNat:Int)==32)=false/\((s[k].toNat:Int)==9)=false/\((s[k].toNat:Int)==10)=true):=by
     simp only[blankB]at hb
     revert hb
     cases ((s[k].toNat:Int)==32)<;>cases ((s[k].toNat:Int)==9)<;>cases ((s[k].toNat:Int)==10)<;>simp
    clear hl hg hb
    rcases hb' with h32|⟨h32,h9⟩|⟨h32,h9,h10⟩
    all_goals
     go_wp2
     go_round
     case rel=>exact⟨k+1,by omega,by go_num,show gap _ _=_ by rw[H.out,HB.out];omega⟩
     case measure=>simp[intOf];omega
  ·go_wp2
   go_ret
   exact⟨ret_int (by rw[H.out,gap_end _ _ (show s.size<=k by omega)];simp),rfl⟩
theorem tokenLength_any(s:ByteArray)(w:World)(hs:s.size<=maxLen)(hp:0<s.size) :
  Calls prog 50 #[.string s] w fun e w'=>e=.returned (.int .i64 (tokLen s.data.toList))/\w'=w:=by
 have ht:tokLen s.data.toList=bif smallB s[0].toNat then nameLen s.data.toList else bif greatB s[0].toNat then cnt conB s.data.toList else bif digitB s[0].toNat then numLen s.data.toList else if s[0]=39 then letterLen s.data.toList else signLen s.data.toList:=by
  obtain⟨r,e⟩:∃r,s.data.toList=s[0]::r:=⟨_,head_cons s hp⟩
  rw[e];rfl
 generalize tokLen s.data.toList=R at *
 have HT:Hid (R=bif smallB s[0].toNat then nameLen s.data.toList else bif greatB s[0].toNat then cnt conB s.data.toList else bif digitB s[0].toNat then numLen s.data.toList else if s[0]=39 then letterLen s.data.toList else signLen s.data.toList):=ht
 clear ht
 cases h1:smallB s[0].toNat
 ·cases h2:greatB s[0].toNat
  ·cases h3:digitB s[0].toNat
   ·cases h4:((s[0].toNat:Int)==39)
    ·go_enter func50,ntmps50
     go_wp2_with (first|(go_at_call 76;refine(isSmall_any _ _).mono ?_;rintro e w'⟨rfl,rfl⟩)|(go_at_call 78;refine(isGreat_any _ _).mono ?_;rintro e w'⟨rfl,rfl⟩)|(go_at_call 81;refine(isDigit_any _ _).mono ?_;rintro e w'⟨rfl,rfl⟩)|(go_at_call 84;refine(signLength_any _ _ hp).mono ?_;rintro e w'⟨rfl,rfl⟩))
     go_ret
     exact⟨ret_int (by rw[HT.out,h1,h2,h3];simp[if_neg (show ¬s[0]=39 from u8_ne (n:=39) (by omega) h4)]),rfl⟩
    ·have h5:s[0]=39:=by
      rw[beq_iff_eq]at h4
      exact UInt8.toNat_inj.1 (by rw[show (39:UInt8).toNat=39 from rfl];omega)
     have H5:Hid (s[0]=39):=h5
     clear h5
     go_enter func50,ntmps50
     go_wp2_with (first|(go_at_call 76;refine(isSmall_any _ _).mono ?_;rintro e w'⟨rfl,rfl⟩)|(go_at_call 78;refine(isGreat_any _ _).mono ?_;rintro e w'⟨rfl,rfl⟩)|(go_at_call 81;refine(isDigit_any _ _).mono ?_;rintro e w'⟨rfl,rfl⟩)|(go_at_call 83;refine(letterLength_any _ _ hs hp).mono ?_;rintro e w'⟨rfl,rfl⟩))
     go_ret
     exact⟨ret_int (by rw[HT.out,h1,h2,h3];simp[H5.out]),rfl⟩
   ·go_enter func50,ntmps50
    go_wp2_with (first|(go_at_call 76;refine(isSmall_any _ _).mono ?_;rintro e w'⟨rfl,rfl⟩)|(go_at_call 78;refine(isGreat_any _ _).mono ?_;rintro e w'⟨rfl,rfl⟩)|(go_at_call 81;refine(isDigit_any _ _).mono ?_;rintro e w'⟨rfl,rfl⟩)|(go_at_call 82;refine(numberLength_any _ _ hs).mono ?_;rintro e w'⟨rfl,rfl⟩))
    go_ret
    exact⟨ret_int (by rw[HT.out,h1,h2,h3];simp),rfl⟩
  ·go_enter func50,ntmps50
   go_wp2_with (first|(go_at_call 76;refine(isSmall_any _ _).mono ?_;rintro e w'⟨rfl,rfl⟩)|(go_at_call 78;refine(isGreat_any _ _).mono ?_;rintro e w'⟨rfl,rfl⟩)|(go_at_call 79;refine(countWhile_isConstructorByte _ _ hs).mono ?_;rintro e w'⟨rfl,rfl⟩))
   go_ret
   exact⟨ret_int (by rw[HT.out,h1,h2];simp),rfl⟩
 ·go_enter func50,ntmps50
  go_wp2_with (first|(go_at_call 76;refine(isSmall_any _ _).mono ?_;rintro e w'⟨rfl,rfl⟩)|(go_at_call 77;refine(nameLength_any _ _ hs).mono ?_;rintro e w'⟨rfl,rfl⟩))
  go_ret
  exact⟨ret_int (by rw[HT.out,h1];simp),rfl⟩
end Go.Proofs.YtbkiipiocpnnnaaGreatDoor
