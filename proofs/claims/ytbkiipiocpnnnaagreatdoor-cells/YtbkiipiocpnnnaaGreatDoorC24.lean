import Derived.Test.YtbkiipiocpnnnaaGreatDoorC23
import Derived.Lib.TrimByte
import Derived.Test.YtbkiipiocpnnnaaGreatDoorC22
set_option linter.all false
set_option maxHeartbeats 40000000
set_option maxRecDepth 100000
open Go.Proofs.Tryz
open Classical (choice)
open Or (inl inr)
open Option (map_eq_some_iff)
open List (append_nil length_append length_cons mem_cons length_nil map_cons)
namespace Go.Proofs.YtbkiipiocpnnnaaGreatDoor
open Go.RowKit
theorem trim_no{a:UInt8}(h:a≠48)(r:List UInt8):Lib.trimLeftB (a::r) 48=a::r:=by
 have e:(a==48)=false:=by simpa using h
 unfold Lib.trimLeftB
 rw[List.dropWhile_cons,e]
 rfl
theorem trim_yes(r:List UInt8):Lib.trimLeftB (48::r) 48=Lib.trimLeftB r 48:=by
 unfold Lib.trimLeftB
 rw[List.dropWhile_cons]
 rfl
theorem trim_number:∀l:List UInt8,l≠[]->(if Lib.trimLeftB l 48=[]then[48]else Lib.trimLeftB l 48)=numberP l:=by
 intro l
 induction l with
 |nil=>intro h;exact absurd rfl h
 |cons a r ih=>
  intro _
  cases r with
  |nil=>
   rw[numberP]
   by_cases ha:a=48
   ·subst ha;rfl
   ·rw[trim_no ha,if_neg (by simp)]
  |cons b r=>
   rw[numberP]
   by_cases ha:a=48
   ·subst ha
    rw[if_pos rfl,<- ih (by simp),trim_yes]
   ·rw[if_neg ha,trim_no ha,if_neg (by simp)]
theorem p_noughts(l:List UInt8)(hl:l≠[])(w:World):Calls prog 306 #[.string (bs l)] w fun e w'=>e=.returned (.string (bs (numberP l)))/\w'=w:=by
 have hT:=Tryz.strings_TrimLeft_one (bs l) 48 (by decide) w
 rw[bs_data]at hT
 have hn:=trim_number l hl
 have HT:=hide hT
 by_cases h0:Lib.trimLeftB l 48=[]
 ·rw[if_pos h0]at hn
  rw[h0]at HT
  have hz:(bs (numberP l))=⟨#[48]⟩:=by rw[<- hn];rfl
  rw[hz]
  clear hT hn h0 hz
  go_enter func306,ntmps306
  go_wp2_with fail
  refine(HT.out).mono ?_;rintro e w1⟨rfl,rfl⟩
  go_wp2
  go_ret
  exact⟨rfl,rfl⟩
 ·rw[if_neg h0]at hn
  rw[hn]at HT h0
  have he:(bs (numberP l)).toList.isEmpty=false:=by
   rw[ByteArray.toList_eq,bs_data]
   cases h:numberP l with
   |nil=>exact absurd h h0
   |cons a r=>rfl
  have HT2:Hid (Calls prog 308 #[.string (bs l),.string ⟨#[48]⟩] w fun e w'=>e=.returned (.string (bs (numberP l)))/\w'=w):=HT
  clear hT hn h0 HT
  generalize bs (numberP l)=bn at *
  generalize bs l=bl at *
  go_enter func306,ntmps306
  go_wp2_with fail
  refine(HT2.out).mono ?_;rintro e w1⟨rfl,rfl⟩
  go_wp2
  go_ret
  exact⟨rfl,rfl⟩
theorem plain_cons{t:List UInt8}{r:Toks}:G.plain (t::r)=bif tokKind t==100 then some (.mk K.num_ (numberP t) [],r)else bif tokKind t==110 then some (.mk K.var_ t [],r)else bif tokKind t==99 then some (.mk K.con_ t [],r)else bif G.isW K.true_ (t::r) || G.isW K.false_ (t::r)then some (.mk K.const_ t [],r)else none:=rfl
theorem bs_lit(t x:List UInt8):((bs t).toList==x)=(t==x):=by rw[ByteArray.toList_eq,bs_data]
theorem p_plain{rb:Nat}(c:Nat)(hc:c<=1)(ts:Toks)(w:World)(h:Rq rb ts w):Calls prog 303 #[ptrV rb] w (AnsO rb c w ((choice lf).plainO ts)):=by
 have HP:=hide (peek_any h)
 have HI1:=hide (IsName_tok h.head w)
 have HI2:=hide (IsConstructor_tok h.head w)
 have HI3:=hide (IsNumber_tok h.head w)
 have htr:=isW_eq (x:=K.true_) (by decide) ts
 have hfa:=isW_eq (x:=K.false_) (by decide) ts
 cases k1:(tokKind (ts.headD [])==110)
 ·rw[k1]at HI1
  cases k2:(tokKind (ts.headD [])==99)
  ·rw[k2]at HI2
   cases k3:(tokKind (ts.headD [])==100)
   ·rw[k3]at HI3
    cases k4:(ts.headD []==K.true_)
    ·cases k5:(ts.headD []==K.false_)
     ·have HQ:=hide (AnsO.nil (c:=c) (o:=(choice lf).plainO ts) (Kq.refl rb w) (by unfold LFam.plainO G.plain G.kindOf;rw[k1,k2,k3,htr,hfa,k4,k5]<;>rfl) h)
      have e4:((bs (ts.headD [])).toList==[116,114,117,101])=false:=(bs_lit (ts.headD []) K.true_).trans k4
      have e5:((bs (ts.headD [])).toList==[102,97,108,115,101])=false:=(bs_lit (ts.headD []) K.false_).trans k5
      clear h htr hfa k1 k2 k3 k4 k5
      generalize bs (ts.headD [])=bx at *
      go_enter func303,ntmps303
      go_wp2_with fail
      refine(HP.out).mono ?_;rintro e w1⟨rfl,rfl⟩
      go_wp2_with fail
      refine(HI1.out).mono ?_;rintro e w1⟨rfl,rfl⟩
      go_wp2_with fail
      refine(HI2.out).mono ?_;rintro e w1⟨rfl,rfl⟩
      go_wp2_with fail
      refine(HI3.out).mono ?_;rintro e w1⟨rfl,rfl⟩
      go_wp2_with fail
      go_ret
      exact HQ.out
     ·obtain⟨t,r,rfl⟩:∃t r,ts=t::r:=by
       cases ts with
       |nil=>exact absurd k5 (by decide)
       |cons t r=>exact⟨t,r,rfl⟩
      have HT:=hide (take_one h)
      have HN:=hide (fun(w1:World)=>New_any 1 (bs t) none 0 0 w1)
      have ek:(tokKind t==110)=false:=k1
      have ek2:(tokKind t==99)=false:=k2
      have ek3:(tokKind t==100)=false:=k3
      have ew:(G.isW K.true_ (t::r) || G.isW K.false_ (t::r))=true:=by rw[htr,hfa];show ((t==K.true_) || (t==K.false_))=true;rw[show (t==K.true_)=false from k4,show (t==K.false_)=true from k5]<;>rfl
      have e4:((bs t).toList==[116,114,117,101])=false:=(bs_lit t K.true_).trans k4
      have e5:((bs t).toList==[102,97,108,115,101])=true:=(bs_lit t K.false_).trans k5
      have hx:t=K.false_:=by simpa using k5
      have HQ:=hide (fun(w1:World) (q1:Kq rb w w1) (q2:Rq rb r w1)=>AnsO.yes (c:=c) (o:=(choice lf).plainO (t::r)) (q1.alloc (.cells #[.int .i64 1,.string (bs t),.slice none 0 0] tyTree)) (by unfold LFam.plainO;rw[plain_cons,ek,ek2,ek3,ew]<;>rfl) (Mem.leaf (A:=From w) (KindOf.bool c hc t (inr hx)) w1) (q2.alloc _))
      rw[show (t::r).headD []=t from rfl]at *
      clear h htr hfa k1 k2 k3 k4 k5 ek ek2 ek3 ew hx
      generalize AnsO rb c w ((choice lf).plainO (t::r))=Q at *
      generalize bs t=bx at *
      go_enter func303,ntmps303
      go_wp2_with fail
      refine(HP.out).mono ?_;rintro e w1⟨rfl,rfl⟩
      go_wp2_with fail
      refine(HI1.out).mono ?_;rintro e w1⟨rfl,rfl⟩
      go_wp2_with fail
      refine(HI2.out).mono ?_;rintro e w1⟨rfl,rfl⟩
      go_wp2_with fail
      refine(HI3.out).mono ?_;rintro e w1⟨rfl,rfl⟩
      go_wp2_with fail
      refine(HT.out).mono ?_;rintro e w1⟨rfl,hT⟩
      go_wp2_with fail
      refine(HN.out _).mono ?_;rintro e w2⟨rfl,rfl⟩
      go_wp2
      exact HQ.out _ hT.out.1 hT.out.2
    ·obtain⟨t,r,rfl⟩:∃t r,ts=t::r:=by
      cases ts with
      |nil=>exact absurd k4 (by decide)
      |cons t r=>exact⟨t,r,rfl⟩
     have HT:=hide (take_one h)
     have HN:=hide (fun(w1:World)=>New_any 1 (bs t) none 0 0 w1)
     have ek:(tokKind t==110)=false:=k1
     have ek2:(tokKind t==99)=false:=k2
     have ek3:(tokKind t==100)=false:=k3
     have ew:(G.isW K.true_ (t::r) || G.isW K.false_ (t::r))=true:=by rw[htr,hfa];show ((t==K.true_) || (t==K.false_))=true;rw[show (t==K.true_)=true from k4]<;>rfl
     have e4:((bs t).toList==[116,114,117,101])=true:=(bs_lit t K.true_).trans k4
     have hx:t=K.true_:=by simpa using k4
     have HQ:=hide (fun(w1:World) (q1:Kq rb w w1) (q2:Rq rb r w1)=>AnsO.yes (c:=c) (o:=(choice lf).plainO (t::r)) (q1.alloc (.cells #[.int .i64 1,.string (bs t),.slice none 0 0] tyTree)) (by unfold LFam.plainO;rw[plain_cons,ek,ek2,ek3,ew]<;>rfl) (Mem.leaf (A:=From w) (KindOf.bool c hc t (inl hx)) w1) (q2.alloc _))
     rw[show (t::r).headD []=t from rfl]at *
     clear h htr hfa k1 k2 k3 k4 ek ek2 ek3 ew hx
     generalize AnsO rb c w ((choice lf).plainO (t::r))=Q at *
     generalize bs t=bx at *
     go_enter func303,ntmps303
     go_wp2_with fail
     refine(HP.out).mono ?_;rintro e w1⟨rfl,rfl⟩
     go_wp2_with fail
     refine(HI1.out).mono ?_;rintro e w1⟨rfl,rfl⟩
     go_wp2_with fail
     refine(HI2.out).mono ?_;rintro e w1⟨rfl,rfl⟩
     go_wp2_with fail
     refine(HI3.out).mono ?_;rintro e w1⟨rfl,rfl⟩
     go_wp2_with fail
     refine(HT.out).mono ?_;rintro e w1⟨rfl,hT⟩
     go_wp2_with fail
     refine(HN.out _).mono ?_;rintro e w2⟨rfl,rfl⟩
     go_wp2
     exact HQ.out _ hT.out.1 hT.out.2
   ·rw[k3]at HI3
    obtain⟨t,r,rfl⟩:=kind_cons (ts:=ts) (k:=100) (by decide) k3
    have HT:=hide (take_one h)
    have HN:=hide (fun(w1:World)=>New_any 0 (bs (numberP t)) none 0 0 w1)
    have ek3:(tokKind t==100)=true:=k3
    have HNO:=hide (fun(w1:World)=>p_noughts t (by rintro rfl;exact absurd (show (tokKind []==100)=true from k3) (by decide)) w1)
    have HQ:=hide (fun(w1:World) (q1:Kq rb w w1) (q2:Rq rb r w1)=>AnsO.yes (c:=c) (o:=(choice lf).plainO (t::r)) (q1.alloc (.cells #[.int .i64 0,.string (bs (numberP t)),.slice none 0 0] tyTree)) (by unfold LFam.plainO;rw[plain_cons,ek3]<;>rfl) (Mem.leaf (A:=From w) (KindOf.num c hc (numberP t)) w1) (q2.alloc _))
    rw[show (t::r).headD []=t from rfl]at *
    clear h htr hfa k1 k2 k3 ek3
    generalize AnsO rb c w ((choice lf).plainO (t::r))=Q at *
    generalize bs (numberP t)=bn at *
    generalize bs t=bx at *
    go_enter func303,ntmps303
    go_wp2_with fail
    refine(HP.out).mono ?_;rintro e w1⟨rfl,rfl⟩
    go_wp2_with fail
    refine(HI1.out).mono ?_;rintro e w1⟨rfl,rfl⟩
    go_wp2_with fail
    refine(HI2.out).mono ?_;rintro e w1⟨rfl,rfl⟩
    go_wp2_with fail
    refine(HI3.out).mono ?_;rintro e w1⟨rfl,rfl⟩
    go_wp2_with fail
    refine(HT.out).mono ?_;rintro e w1⟨rfl,hT⟩
    go_wp2_with fail
    refine(HNO.out w1).mono ?_;rintro e w2⟨rfl,rfl⟩
    go_wp2_with fail
    refine(HN.out _).mono ?_;rintro e w2⟨rfl,rfl⟩
    go_wp2
    exact HQ.out _ hT.out.1 hT.out.2
  ·rw[k2]at HI2
   obtain⟨t,r,rfl⟩:=kind_cons (ts:=ts) (k:=99) (by decide) k2
   have HT:=hide (take_one h)
   have HN:=hide (fun(w1:World)=>New_any 14 (bs t) none 0 0 w1)
   have ek:(tokKind t==110)=false:=k1
   have ek2:(tokKind t==99)=true:=k2
   have ek3:(tokKind t==100)=false:=kind_not (ts:=t::r) (k:=99) (j:=100) (by decide) k2
   have HQ:=hide (fun(w1:World) (q1:Kq rb w w1) (q2:Rq rb r w1)=>AnsO.yes (c:=c) (o:=(choice lf).plainO (t::r)) (q1.alloc (.cells #[.int .i64 14,.string (bs t),.slice none 0 0] tyTree)) (by unfold LFam.plainO;rw[plain_cons,ek,ek2,ek3]<;>rfl) (Mem.leaf (A:=From w) (KindOf.con c hc t 0) w1) (q2.alloc _))
   rw[show (t::r).headD []=t from rfl]at *
   clear h htr hfa k1 k2 ek ek2 ek3
   generalize AnsO rb c w ((choice lf).plainO (t::r))=Q at *
   generalize bs t=bx at *
   go_enter func303,ntmps303
   go_wp2_with fail
   refine(HP.out).mono ?_;rintro e w1⟨rfl,rfl⟩
   go_wp2_with fail
   refine(HI1.out).mono ?_;rintro e w1⟨rfl,rfl⟩
   go_wp2_with fail
   refine(HI2.out).mono ?_;rintro e w1⟨rfl,rfl⟩
   go_wp2_with fail
   refine(HT.out).mono ?_;rintro e w1⟨rfl,hT⟩
   go_wp2_with fail
   refine(HN.out _).mono ?_;rintro e w2⟨rfl,rfl⟩
   go_wp2
   exact HQ.out _ hT.out.1 hT.out.2
 ·rw[k1]at HI1
  obtain⟨t,r,rfl⟩:=kind_cons (ts:=ts) (k:=110) (by decide) k1
  have HT:=hide (take_one h)
  have HN:=hide (fun(w1:World)=>New_any 3 (bs t) none 0 0 w1)
  have ek:(tokKind t==110)=true:=k1
  have ek3:(tokKind t==100)=false:=kind_not (ts:=t::r) (k:=110) (j:=100) (by decide) k1
  have HQ:=hide (fun(w1:World) (q1:Kq rb w w1) (q2:Rq rb r w1)=>AnsO.yes (c:=c) (o:=(choice lf).plainO (t::r)) (q1.alloc (.cells #[.int .i64 3,.string (bs t),.slice none 0 0] tyTree)) (by unfold LFam.plainO;rw[plain_cons,ek,ek3]<;>rfl) (Mem.leaf (A:=From w) (KindOf.var c hc t) w1) (q2.alloc _))
  rw[show (t::r).headD []=t from rfl]at *
  clear h htr hfa k1 ek ek3
  generalize AnsO rb c w ((choice lf).plainO (t::r))=Q at *
  generalize bs t=bx at *
  go_enter func303,ntmps303
  go_wp2_with fail
  refine(HP.out).mono ?_;rintro e w1⟨rfl,rfl⟩
  go_wp2_with fail
  refine(HI1.out).mono ?_;rintro e w1⟨rfl,rfl⟩
  go_wp2_with fail
  refine(HT.out).mono ?_;rintro e w1⟨rfl,hT⟩
  go_wp2_with fail
  refine(HN.out _).mono ?_;rintro e w2⟨rfl,rfl⟩
  go_wp2
  exact HQ.out _ hT.out.1 hT.out.2
section
variable {ar:Nm->Nat}{ad:List Nat}{Y:Nat->Prop}{rk:Nat->Nat}{σ:TS}{ρ:Env}{tb yb d:Nat}{gv:Value}{w w':World}{nb:Nat}{txt:Nm}
theorem calculation_of{k g cap ba bb:Nat}{oa:Option TS}{ob:TS->Option TS}(hi:ar intN=0)(hbo:ar boolN=0)(h:YM ar ad Y rk σ ρ tb yb d gv w)(hp:PtAt nb k txt g cap [ba,bb] w)
  (hA:∀u,Kn (Dm ad tb yb gv) w u->YM ar (ad++[w.heap.size]) Y rk (σ.named intN []).2 ρ tb yb d gv u->Calls prog 94 #[ptrV yb,ptrV ba,adV (ad++[w.heap.size]) σ.nodes.length] u (AnEx ar (ad++[w.heap.size]) Y ρ tb yb d gv oa u))
  (hB:∀u σ' l rk' gv',Kn (Dm ad tb yb gv) w u->oa=some σ'->YM ar (ad++l) Y rk' (σ'.named intN []).2 ρ tb yb d gv' u->Calls prog 94 #[ptrV yb,ptrV bb,adV (ad++l) σ'.nodes.length] u (AnEx ar (ad++l) Y ρ tb yb d gv' (ob σ') u)) :
  Calls prog 246 #[ptrV yb,ptrV nb] w (AnTy ar ad Y ρ tb yb d gv (calcO (decide (txt=[61]\/txt=[60])) oa ob) w):=by
 have hc0:=calc_chain hi hbo h hp (decide (txt=[61]\/txt=[60])) hA hB w.drew (Kn.drewF w) rfl
 have HCH:=hide hc0
 have HDR:=hide Kn.drewF
 have ht1:((bs txt).toList==[61])=(txt==[61]):=bs_lit txt [61]
 have ht2:((bs txt).toList==[60])=(txt==[60]):=bs_lit txt [60]
 clear hc0 hi hbo h hp hA hB
 generalize AnTy ar ad Y ρ tb yb d gv (calcO (decide (txt=[61]\/txt=[60])) oa ob) w=Q at *
 unfold noTy noTypeV Two ptrV at *
 go_enter func246,ntmps246
 go_wp2_with fail
 obtain⟨⟨c1a,c2a,c3a⟩,hu⟩:=HCH.out
 have HU:=hide hu
 clear hu HCH
 go_region_held2 (fun w'=>w'.cell? ⟨nb,2,none⟩=some (.slice (some ⟨g,0,none⟩) 2 cap)/\w'.cell? ⟨g,0,none⟩=some (.pointer (some ⟨ba,0,none⟩))/\w'.cell? ⟨g,1,none⟩=some (.pointer (some ⟨bb,0,none⟩))) (exact⟨c1a,c2a,c3a⟩) (first|(go_at_call 27;refine(HU.out).mono ?_;rintro e u1⟨rfl,⟨c1a,c2a,c3a⟩,hc⟩;have HC:=hide hc;clear hc)|(go_at_call 94;refine(HC.out).mono ?_;rintro e u2 (⟨rfl,hp⟩|⟨rfl,hc⟩);(focus (exact⟨rfl,hp⟩));obtain⟨⟨c1a,c2a,c3a⟩,hd⟩:=hc _ (Kn.refl _ _) rfl;clear hd;have HE:=hide hc;clear hc))
 all_goals
  clear HU HC
  obtain⟨⟨c1b,c2b,c3b⟩,hu⟩:=HE.out _ (HDR.out _) rfl
  have HU:=hide hu
  clear hu HE
  go_wp2_with fail
  go_region_held2 (fun w'=>w'.cell? ⟨nb,2,none⟩=some (.slice (some ⟨g,0,none⟩) 2 cap)/\w'.cell? ⟨g,0,none⟩=some (.pointer (some ⟨ba,0,none⟩))/\w'.cell? ⟨g,1,none⟩=some (.pointer (some ⟨bb,0,none⟩))) (first|exact⟨c1b,c2b,c3b⟩) (first|(go_at_call 27;refine(HU.out).mono ?_;rintro e u1⟨rfl,⟨c1b,c2b,c3b⟩,hc⟩;have HC:=hide hc;clear hc)|(go_at_call 94;refine(HC.out).mono ?_;rintro e u2 (⟨rfl,hp⟩|⟨rfl,⟨c1b,c2b,c3b⟩,c4,hc⟩);(focus (exact⟨rfl,hp⟩));have HE:=hide hc;clear hc))
  all_goals
   obtain⟨hno,hyes⟩:=HE.out
   have HNO:=hide hno
   have HYES:=hide hyes
   clear hno hyes HE HU HC c1a c2a c3a c1b c2b c3b
   by_cases e1:txt=[61]
   ·rw[decide_eq_true (by exact inl e1)]at HYES
    have HF:=hide (HYES.out rfl)
    clear HNO HYES
    rw[show (txt==[61])=true by simpa using e1]at ht1
    clear e1 ht2
    generalize bs txt=tx at *
    go_wp2_with fail
    refine(HF.out).mono ?_;rintro e u5⟨b,rfl,hq⟩
    have HG:=hide hq
    clear hq HF
    go_wp2
    exact HG.out
   ·by_cases e2:txt=[60]
    ·rw[decide_eq_true (by exact inr e2)]at HYES
     have HF:=hide (HYES.out rfl)
     clear HNO HYES
     rw[show (txt==[61])=false by simpa using e1]at ht1
     rw[show (txt==[60])=true by simpa using e2]at ht2
     clear e1 e2
     generalize bs txt=tx at *
     go_wp2_with fail
     refine(HF.out).mono ?_;rintro e u5⟨b,rfl,hq⟩
     have HG:=hide hq
     clear hq HF
     go_wp2
     exact HG.out
    ·rw[decide_eq_false (by rintro (h|h);exact e1 h;exact e2 h)]at HNO
     have HF:=hide (HNO.out rfl)
     clear HNO HYES
     rw[show (txt==[61])=false by simpa using e1]at ht1
     rw[show (txt==[60])=false by simpa using e2]at ht2
     clear e1 e2
     generalize bs txt=tx at *
     go_wp2_with fail
     refine(HF.out).mono ?_;rintro e u5⟨b,rfl,hq⟩
     have HG:=hide hq
     clear hq HF
     go_wp2
     exact HG.out
def letO(ob:Option (Nat×TS))(oc:Nat->TS->Option (Nat×TS)):Option (Nat×TS):=ob.bind fun r=>oc r.1 r.2
theorem form_let{g cap ba bb:Nat}{ob:Option (Nat×TS)}{oc:Nat->TS->Option (Nat×TS)}(h:YM ar ad Y rk σ ρ tb yb d gv w)(hp:PtAt nb 6 txt g cap [ba,bb] w)
  (hA:Calls prog 95 #[ptrV yb,ptrV nb] w (AnTy ar ad Y ρ tb yb d gv ob w))
  (hB:∀u t σ' l rk' gv',Kn (Dm ad tb yb gv) w u->ob=some (t,σ')->t<σ'.nodes.length->YM ar (ad++l) Y rk' σ' ρ tb yb d gv' u->Calls prog 189 #[ptrV yb,.string (bs txt),adV (ad++l) t,ptrV bb] u (AnTy ar (ad++l) Y ρ tb yb d gv' (oc t σ') u)) :
  Calls prog 187 #[ptrV yb,ptrV nb] w (AnTy ar ad Y ρ tb yb d gv (letO ob oc) w):=by
 have hch:Calls prog 95 #[ptrV yb,ptrV nb] w fun e u2=>(e=noTy/\AnTy ar ad Y ρ tb yb d gv (letO ob oc) w noTy u2)\/∃b,e=.returned (ptrV b)/\∀u,Kn (fun _=>False) u2 u->(u.cell? ⟨nb,1,none⟩=some (.string (bs txt))/\u.cell? ⟨nb,2,none⟩=some (.slice (some ⟨g,0,none⟩) 2 cap)/\u.cell? ⟨g,1,none⟩=some (ptrV bb))/\Calls prog 189 #[ptrV yb,.string (bs txt),ptrV b,ptrV bb] u fun e u3=>
   (e=noTy/\AnTy ar ad Y ρ tb yb d gv (letO ob oc) w noTy u3)\/∃b,e=.returned (ptrV b)/\(u3.cell? ⟨nb,1,none⟩=some (.string (bs txt))/\u3.cell? ⟨nb,2,none⟩=some (.slice (some ⟨g,0,none⟩) 2 cap)/\u3.cell? ⟨g,1,none⟩=some (ptrV bb))/\AnTy ar ad Y ρ tb yb d gv (letO ob oc) w (.returned (ptrV b)) u3:=by
  refine hA.mono fun e u2 ha=>?_
  rcases AnTy.go (Bt.refl ad tb yb gv w) (show AnTy ar (ad++[]) Y ρ tb yb d gv ob w e u2 by rw[append_nil];exact ha) (o:=letO ob oc) (fun e=>by rw[e];rfl)with⟨q1,q2⟩|⟨f,σ1,l1,rk1,gv1,q1,q2,q3,q4,q5,_,_⟩
  ·exact inl ⟨q1,q2⟩
  refine inr ⟨_,q2,fun u hu=>?_⟩
  have q5u:Bt ad tb yb gv w l1 gv1 u:=⟨q5.kn.trans (hu.wide fun _ _ h=>h.elim),q5.new,q5.giv⟩
  have hc:=(h.pt q5u.kn hp).cells
  refine⟨⟨hc.2.1,hc.2.2.1,hc.2.2.2 1 bb rfl⟩,(hB u f σ1 l1 rk1 gv1 q5u.kn q1 q3 (q4.stays hu)).mono fun e u3 hb=>?_⟩
  rcases AnTy.last q5u hb (o':=letO ob oc) (by unfold letO;rw[q1];rfl)with r|⟨b,r1,r2⟩
  ·exact inl r
  ·have hc:=(h.pt r2.1 hp).cells
   exact inr ⟨b,r1,⟨hc.2.1,hc.2.2.1,hc.2.2.2 1 bb rfl⟩,r2⟩
 obtain⟨ck,_,_,_⟩:=hp.cells
 have HCH:=hide hch
 have HDR:=hide Kn.drewF
 clear hch hA hB h hp
 generalize AnTy ar ad Y ρ tb yb d gv (letO ob oc) w=Q at *
 generalize bs txt=tx at *
 unfold noTy noTypeV ptrV at *
 go_enter func187,ntmps187
 go_wp2_with fail
 refine(HCH.out).mono ?_;rintro e u2 (⟨rfl,hp⟩|⟨b,rfl,hc⟩)
 ·exact⟨rfl,hp⟩
 obtain⟨⟨c1a,c2a,c3a⟩,hc⟩:=hc _ (HDR.out u2)
 have HC:=hide hc
 clear hc HCH
 go_wp2_with fail
 go_region_held2 (fun w'=>w'.cell? ⟨nb,1,none⟩=some (.string tx)/\w'.cell? ⟨nb,2,none⟩=some (.slice (some ⟨g,0,none⟩) 2 cap)/\w'.cell? ⟨g,1,none⟩=some (.pointer (some ⟨bb,0,none⟩))) (exact⟨c1a,c2a,c3a⟩) (first|(go_at_call 189;refine(HC.out).mono ?_;rintro e u3 (⟨rfl,hp⟩|⟨b,rfl,⟨c1a,c2a,c3a⟩,hq⟩);(focus (exact⟨rfl,hp⟩));have HG:=hide hq;clear hq))
 all_goals
  go_wp2
  exact HG.out
theorem form_rec{g cap ba bb:Nat}{ob:Option (Nat×TS)}{oc:Nat->TS->Option (Nat×TS)}(h:YM ar ad Y rk σ ρ tb yb d gv w)(hp:PtAt nb 7 txt g cap [ba,bb] w)
  (hA:Calls prog 95 #[ptrV yb,ptrV nb] w (AnTy ar ad Y ρ tb yb d gv ob w))
  (hB:∀u t σ' l rk' gv',Kn (Dm ad tb yb gv) w u->ob=some (t,σ')->t<σ'.nodes.length->YM ar (ad++l) Y rk' σ' ρ tb yb d gv' u->Calls prog 189 #[ptrV yb,.string (bs txt),adV (ad++l) t,ptrV bb] u (AnTy ar (ad++l) Y ρ tb yb d gv' (oc t σ') u)) :
  Calls prog 187 #[ptrV yb,ptrV nb] w (AnTy ar ad Y ρ tb yb d gv (letO ob oc) w):=by
 have hch:Calls prog 95 #[ptrV yb,ptrV nb] w fun e u2=>(e=noTy/\AnTy ar ad Y ρ tb yb d gv (letO ob oc) w noTy u2)\/∃b,e=.returned (ptrV b)/\∀u,Kn (fun _=>False) u2 u->(u.cell? ⟨nb,1,none⟩=some (.string (bs txt))/\u.cell? ⟨nb,2,none⟩=some (.slice (some ⟨g,0,none⟩) 2 cap)/\u.cell? ⟨g,1,none⟩=some (ptrV bb))/\Calls prog 189 #[ptrV yb,.string (bs txt),ptrV b,ptrV bb] u fun e u3=>
   (e=noTy/\AnTy ar ad Y ρ tb yb d gv (letO ob oc) w noTy u3)\/∃b,e=.returned (ptrV b)/\(u3.cell? ⟨nb,1,none⟩=some (.string (bs txt))/\u3.cell? ⟨nb,2,none⟩=some (.slice (some ⟨g,0,none⟩) 2 cap)/\u3.cell? ⟨g,1,none⟩=some (ptrV bb))/\AnTy ar ad Y ρ tb yb d gv (letO ob oc) w (.returned (ptrV b)) u3:=by
  refine hA.mono fun e u2 ha=>?_
  rcases AnTy.go (Bt.refl ad tb yb gv w) (show AnTy ar (ad++[]) Y ρ tb yb d gv ob w e u2 by rw[append_nil];exact ha) (o:=letO ob oc) (fun e=>by rw[e];rfl)with⟨q1,q2⟩|⟨f,σ1,l1,rk1,gv1,q1,q2,q3,q4,q5,_,_⟩
  ·exact inl ⟨q1,q2⟩
  refine inr ⟨_,q2,fun u hu=>?_⟩
  have q5u:Bt ad tb yb gv w l1 gv1 u:=⟨q5.kn.trans (hu.wide fun _ _ h=>h.elim),q5.new,q5.giv⟩
  have hc:=(h.pt q5u.kn hp).cells
  refine⟨⟨hc.2.1,hc.2.2.1,hc.2.2.2 1 bb rfl⟩,(hB u f σ1 l1 rk1 gv1 q5u.kn q1 q3 (q4.stays hu)).mono fun e u3 hb=>?_⟩
  rcases AnTy.last q5u hb (o':=letO ob oc) (by unfold letO;rw[q1];rfl)with r|⟨b,r1,r2⟩
  ·exact inl r
  ·have hc:=(h.pt r2.1 hp).cells
   exact inr ⟨b,r1,⟨hc.2.1,hc.2.2.1,hc.2.2.2 1 bb rfl⟩,r2⟩
 obtain⟨ck,_,_,_⟩:=hp.cells
 have HCH:=hide hch
 have HDR:=hide Kn.drewF
 clear hch hA hB h hp
 generalize AnTy ar ad Y ρ tb yb d gv (letO ob oc) w=Q at *
 generalize bs txt=tx at *
 unfold noTy noTypeV ptrV at *
 go_enter func187,ntmps187
 go_wp2_with fail
 refine(HCH.out).mono ?_;rintro e u2 (⟨rfl,hp⟩|⟨b,rfl,hc⟩)
 ·exact⟨rfl,hp⟩
 obtain⟨⟨c1a,c2a,c3a⟩,hc⟩:=hc _ (HDR.out u2)
 have HC:=hide hc
 clear hc HCH
 go_wp2_with fail
 go_region_held2 (fun w'=>w'.cell? ⟨nb,1,none⟩=some (.string tx)/\w'.cell? ⟨nb,2,none⟩=some (.slice (some ⟨g,0,none⟩) 2 cap)/\w'.cell? ⟨g,1,none⟩=some (.pointer (some ⟨bb,0,none⟩))) (exact⟨c1a,c2a,c3a⟩) (first|(go_at_call 189;refine(HC.out).mono ?_;rintro e u3 (⟨rfl,hp⟩|⟨b,rfl,⟨c1a,c2a,c3a⟩,hq⟩);(focus (exact⟨rfl,hp⟩));have HG:=hide hq;clear hq))
 all_goals
  go_wp2
  exact HG.out
theorem form_variable{o:Option (Nat×TS)}(hk:w.cell? ⟨nb,0,none⟩=some (.int .i64 (3:Nat)))(hA:Calls prog 240 #[ptrV yb,ptrV nb] w (AnTy ar ad Y ρ tb yb d gv o w)) :
  Calls prog 187 #[ptrV yb,ptrV nb] w (AnTy ar ad Y ρ tb yb d gv o w):=by
 have hch:=hA.mono fun e u2 ha=>AnTy.last (Bt.refl ad tb yb gv w) (show AnTy ar (ad++[]) Y ρ tb yb d gv o w e u2 by rw[append_nil];exact ha) rfl
 have HCH:=hide hch
 clear hch hA
 generalize AnTy ar ad Y ρ tb yb d gv o w=Q at *
 unfold noTy noTypeV ptrV at *
 go_enter func187,ntmps187
 go_wp2_with fail
 refine(HCH.out).mono ?_;rintro e u3 (⟨rfl,hp⟩|⟨b,rfl,hq⟩)
 ·exact⟨rfl,hp⟩
 have HG:=hide hq
 clear hq HCH
 go_wp2
 exact HG.out
theorem form_function{o:Option (Nat×TS)}(hk:w.cell? ⟨nb,0,none⟩=some (.int .i64 (5:Nat)))(hA:Calls prog 242 #[ptrV yb,ptrV nb] w (AnTy ar ad Y ρ tb yb d gv o w)) :
  Calls prog 187 #[ptrV yb,ptrV nb] w (AnTy ar ad Y ρ tb yb d gv o w):=by
 have hch:=hA.mono fun e u2 ha=>AnTy.last (Bt.refl ad tb yb gv w) (show AnTy ar (ad++[]) Y ρ tb yb d gv o w e u2 by rw[append_nil];exact ha) rfl
 have HCH:=hide hch
 clear hch hA
 generalize AnTy ar ad Y ρ tb yb d gv o w=Q at *
 unfold noTy noTypeV ptrV at *
 go_enter func187,ntmps187
 go_wp2_with fail
 refine(HCH.out).mono ?_;rintro e u3 (⟨rfl,hp⟩|⟨b,rfl,hq⟩)
 ·exact⟨rfl,hp⟩
 have HG:=hide hq
 clear hq HCH
 go_wp2
 exact HG.out
theorem form_application{o:Option (Nat×TS)}(hk:w.cell? ⟨nb,0,none⟩=some (.int .i64 (13:Nat)))(hA:Calls prog 243 #[ptrV yb,ptrV nb] w (AnTy ar ad Y ρ tb yb d gv o w)) :
  Calls prog 187 #[ptrV yb,ptrV nb] w (AnTy ar ad Y ρ tb yb d gv o w):=by
 have hch:=hA.mono fun e u2 ha=>AnTy.last (Bt.refl ad tb yb gv w) (show AnTy ar (ad++[]) Y ρ tb yb d gv o w e u2 by rw[append_nil];exact ha) rfl
 have HCH:=hide hch
 clear hch hA
 generalize AnTy ar ad Y ρ tb yb d gv o w=Q at *
 unfold noTy noTypeV ptrV at *
 go_enter func187,ntmps187
 go_wp2_with fail
 refine(HCH.out).mono ?_;rintro e u3 (⟨rfl,hp⟩|⟨b,rfl,hq⟩)
 ·exact⟨rfl,hp⟩
 have HG:=hide hq
 clear hq HCH
 go_wp2
 exact HG.out
theorem form_calc{k:Nat}{o:Option (Nat×TS)}(hn:k=4\/k=11\/15<k)(hk:w.cell? ⟨nb,0,none⟩=some (.int .i64 (k:Nat)))(hA:Calls prog 246 #[ptrV yb,ptrV nb] w (AnTy ar ad Y ρ tb yb d gv o w)) :
  Calls prog 187 #[ptrV yb,ptrV nb] w (AnTy ar ad Y ρ tb yb d gv o w):=by
 have hch:=hA.mono fun e u2 ha=>AnTy.last (Bt.refl ad tb yb gv w) (show AnTy ar (ad++[]) Y ρ tb yb d gv o w e u2 by rw[append_nil];exact ha) rfl
 have HCH:=hide hch
 have e0:¬(k:Int)=0:=by omega
 have e1:¬(k:Int)=1:=by omega
 have e2:¬(k:Int)=2:=by omega
 have e3:¬(k:Int)=3:=by omega
 have e5:¬(k:Int)=5:=by omega
 have e6:¬(k:Int)=6:=by omega
 have e7:¬(k:Int)=7:=by omega
 have e8:¬(k:Int)=8:=by omega
 have e9:¬(k:Int)=9:=by omega
 have e10:¬(k:Int)=10:=by omega
 have e12:¬(k:Int)=12:=by omega
 have e13:¬(k:Int)=13:=by omega
 have e14:¬(k:Int)=14:=by omega
 have e15:¬(k:Int)=15:=by omega
 clear hch hA hn
 generalize AnTy ar ad Y ρ tb yb d gv o w=Q at *
 unfold noTy noTypeV ptrV at *
 go_enter func187,ntmps187
 go_wp2_with fail
 refine(HCH.out).mono ?_;rintro e u3 (⟨rfl,hp⟩|⟨b,rfl,hq⟩)
 ·exact⟨rfl,hp⟩
 have HG:=hide hq
 clear hq HCH
 go_wp2
 exact HG.out
theorem plainType0(hk:w.cell? ⟨nb,0,none⟩=some (.int .i64 (0:Nat))):Calls prog 239 #[ptrV nb] w fun e w'=>e=.returned (ptrV w.heap.size)/\w'=w.alloc (.cells #[.string (bs intN),.slice none 0 0,.pointer none,.int .i64 0] tyType):=by
 have hc:=intN_any w
 have HC:=hide hc
 clear hc
 unfold ptrV at *
 generalize hQ:(fun(e:Ending) (w':World)=>e=.returned (.pointer (some ⟨w.heap.size,0,none⟩))/\w'=w.alloc (.cells #[.string (bs intN),.slice none 0 0,.pointer none,.int .i64 0] tyType))=Q at *
 go_enter func239,ntmps239
 go_wp2_with fail
 refine(HC.out).mono ?_;intro e w1 x
 rw[<- hQ]at x
 obtain⟨rfl,rfl⟩:=x
 go_wp2
 rw[<- hQ]
 exact⟨rfl,rfl⟩
theorem form_plain0(h0:ar intN=0)(h:YM ar ad Y rk σ ρ tb yb d gv w)(hk:w.cell? ⟨nb,0,none⟩=some (.int .i64 (0:Nat))):Calls prog 187 #[ptrV yb,ptrV nb] w (AnTy ar ad Y ρ tb yb d gv (some (σ.named intN [])) w):=by
 have hch:=(plainType0 hk).mono (R':=fun e w'=>e=.returned (ptrV w.heap.size)/\AnTy ar ad Y ρ tb yb d gv (some (σ.named intN [])) w (.returned (ptrV w.heap.size)) w') fun e u2 ha=>by
  obtain⟨rfl,rfl⟩:=ha
  exact⟨rfl,AnTy.newOne h (h.plain h0) (by simp[TS.named,TS.new])⟩
 have HCH:=hide hch
 clear hch h
 generalize AnTy ar ad Y ρ tb yb d gv (some (σ.named intN [])) w=Q at *
 unfold ptrV at *
 go_enter func187,ntmps187
 go_wp2_with fail
 refine(HCH.out).mono ?_;rintro e u3⟨rfl,hq⟩
 have HG:=hide hq
 clear hq HCH
 go_wp2
 exact HG.out
theorem plainType1(hk:w.cell? ⟨nb,0,none⟩=some (.int .i64 (1:Nat))):Calls prog 239 #[ptrV nb] w fun e w'=>e=.returned (ptrV w.heap.size)/\w'=w.alloc (.cells #[.string (bs boolN),.slice none 0 0,.pointer none,.int .i64 0] tyType):=by
 have hc:=boolN_any w
 have HC:=hide hc
 clear hc
 unfold ptrV at *
 generalize hQ:(fun(e:Ending) (w':World)=>e=.returned (.pointer (some ⟨w.heap.size,0,none⟩))/\w'=w.alloc (.cells #[.string (bs boolN),.slice none 0 0,.pointer none,.int .i64 0] tyType))=Q at *
 go_enter func239,ntmps239
 go_wp2_with fail
 refine(HC.out).mono ?_;intro e w1 x
 rw[<- hQ]at x
 obtain⟨rfl,rfl⟩:=x
 go_wp2
 rw[<- hQ]
 exact⟨rfl,rfl⟩
theorem form_plain1(h0:ar boolN=0)(h:YM ar ad Y rk σ ρ tb yb d gv w)(hk:w.cell? ⟨nb,0,none⟩=some (.int .i64 (1:Nat))):Calls prog 187 #[ptrV yb,ptrV nb] w (AnTy ar ad Y ρ tb yb d gv (some (σ.named boolN [])) w):=by
 have hch:=(plainType1 hk).mono (R':=fun e w'=>e=.returned (ptrV w.heap.size)/\AnTy ar ad Y ρ tb yb d gv (some (σ.named boolN [])) w (.returned (ptrV w.heap.size)) w') fun e u2 ha=>by
  obtain⟨rfl,rfl⟩:=ha
  exact⟨rfl,AnTy.newOne h (h.plain h0) (by simp[TS.named,TS.new])⟩
 have HCH:=hide hch
 clear hch h
 generalize AnTy ar ad Y ρ tb yb d gv (some (σ.named boolN [])) w=Q at *
 unfold ptrV at *
 go_enter func187,ntmps187
 go_wp2_with fail
 refine(HCH.out).mono ?_;rintro e u3⟨rfl,hq⟩
 have HG:=hide hq
 clear hq HCH
 go_wp2
 exact HG.out
theorem plainType2(hk:w.cell? ⟨nb,0,none⟩=some (.int .i64 (2:Nat))):Calls prog 239 #[ptrV nb] w fun e w'=>e=.returned (ptrV w.heap.size)/\w'=w.alloc (.cells #[.string (bs unitN),.slice none 0 0,.pointer none,.int .i64 0] tyType):=by
 have hc:=unitN_any w
 have HC:=hide hc
 clear hc
 unfold ptrV at *
 generalize hQ:(fun(e:Ending) (w':World)=>e=.returned (.pointer (some ⟨w.heap.size,0,none⟩))/\w'=w.alloc (.cells #[.string (bs unitN),.slice none 0 0,.pointer none,.int .i64 0] tyType))=Q at *
 go_enter func239,ntmps239
 go_wp2_with fail
 refine(HC.out).mono ?_;intro e w1 x
 rw[<- hQ]at x
 obtain⟨rfl,rfl⟩:=x
 go_wp2
 rw[<- hQ]
 exact⟨rfl,rfl⟩
theorem form_plain2(h0:ar unitN=0)(h:YM ar ad Y rk σ ρ tb yb d gv w)(hk:w.cell? ⟨nb,0,none⟩=some (.int .i64 (2:Nat))):Calls prog 187 #[ptrV yb,ptrV nb] w (AnTy ar ad Y ρ tb yb d gv (some (σ.named unitN [])) w):=by
 have hch:=(plainType2 hk).mono (R':=fun e w'=>e=.returned (ptrV w.heap.size)/\AnTy ar ad Y ρ tb yb d gv (some (σ.named unitN [])) w (.returned (ptrV w.heap.size)) w') fun e u2 ha=>by
  obtain⟨rfl,rfl⟩:=ha
  exact⟨rfl,AnTy.newOne h (h.plain h0) (by simp[TS.named,TS.new])⟩
 have HCH:=hide hch
 clear hch h
 generalize AnTy ar ad Y ρ tb yb d gv (some (σ.named unitN [])) w=Q at *
 unfold ptrV at *
 go_enter func187,ntmps187
 go_wp2_with fail
 refine(HCH.out).mono ?_;rintro e u3⟨rfl,hq⟩
 have HG:=hide hq
 clear hq HCH
 go_wp2
 exact HG.out
end
theorem step_append_bg{ops:Array Oper}{o:Oper}{a:Act}{w:World}{K:Act->World->Prop}{Q:Exit->Act->World->Prop}{E:Prop}(hgd:o.guard=none)(s x:Operand)
  (ho:o.op=.call { callee:=.builtin .append,args:=#[s,x],argTypes:=#[37,37] }) {base:Nat}{v:Value}{n:Nat}{xs:List Value} (sn:ByteArray) (k:Nat)
  (hown:w.ownsRow base tyBg 2 v n xs) (hn:n<=100000000) (hb:base<=w.heap.size) (hs:a.eval s=v) (hx:a.eval x=.slice (some ⟨w.heap.size,0,none⟩) 1 1)
  (h:∀v' w',w'.ownsRow base tyBg 2 v' (n+1) (xs++[.string sn,ptrV k])->(w.alloc (.cells #[.string sn,.pointer (some ⟨k,0,none⟩)] tyBg)).grownBy w' v.ownBlock->Hid (∀g,v'.ownBlock=some g->v.ownBlock=some g\/w.heap.size<g)->K (a.put o.dst v') w') :
  if Region.wanted o (yielded ops a.tmps)=true then Oper.wp prog o a (w.alloc (.cells #[.string sn,.pointer (some ⟨k,0,none⟩)] tyBg)) K Q else E:=by
 have hw:Region.wanted o (yielded ops a.tmps)=true:=by simp[Region.wanted,hgd]
 rw[if_pos hw]
 obtain⟨v',w',hr,h2,h3,h4,_⟩:=run_append_bg (ty:=o.type) sn k hown hn hb
 unfold Oper.wp execOp
 simp only[ho,resolve,invoke,builtin,Sem.run_bind,Sem.run_pure,Result.andThen_ok,List.map_toArray,map_cons,List.map_nil,hs,hx,hr]
 exact h v' w' h2 h3 h4
structure ArOk(ar:Nm->Nat):Prop where
 le:∀nm,ar nm<=1000000
 arrow:ar arrowN=2
 int:ar intN=0
 bool:ar boolN=0
 unit:ar unitN=0
 ref:ar refN=1
section
variable {ar:Nm->Nat}{ad:List Nat}{Y:Nat->Prop}{rk:Nat->Nat}{σ:TS}{vs:List (Nm×Nat)}{ρ:Env}{tb yb d:Nat}{gv vv:Value}{w w':World}{nb:Nat}{txt:Nm}{rb:Nat}
theorem unify_given{σ σ':TS}{a b:Nat}(h:σ.unify a b=some σ'):σ'.given=σ.given:=by
 unfold TS.unify at h
 obtain⟨r,hr,rfl⟩:=map_eq_some_iff.1 h
 exact(un_same _ _ _ _ _ _ _ hr).1.given
theorem conGo_given{S:Type}{get:S->TS}{put:S->TS->S}(hgp:∀s τ,get (put s τ)=τ){ex:Nd->Nat->S->Option S}{ch:List (Nm×Nat)}:∀(l:List (Nd×Nd)) (s s':S),(∀p∈l.map Prod.fst,∀want s s',ex p want s=some s'->(get s').given.length<=(get s).given.length+p.sz)->conT.go get put ex ch l s=some s'->(get s').given.length<=(get s).given.length+Nd.sz.szs (l.map Prod.fst):=by
 intro l
 induction l with
 |nil=>intro s s' _ h;rw[conT.go]at h;cases h;simp
 |cons a r ih=>
  intro s s' hp h
  obtain⟨p,q⟩:=a
  rw[conT.go]at h
  split at h
  ·rename_i s1 hs1
   have h1:=hp p (by simp) _ _ _ hs1
   rw[hgp,(written_ext _ q (get s) (ch:=ch)).given]at h1
   have h2:=ih s1 s' (fun p hp2=>hp p (by simp only[map_cons,mem_cons];exact inr hp2)) h
   rw[map_cons,Nd.sz.szs]
   show (get s').given.length<=(get s).given.length+(p.sz+_)
   omega
  ·cases h
theorem conT_given{S:Type}{get:S->TS}{put:S->TS->S}(hgp:∀s τ,get (put s τ)=τ){ρ:Env}{ex:Nd->Nat->S->Option S}{ps:List Nd}{s:S}{t:Nat}{s':S}(hp:∀p∈ps,∀want s s',ex p want s=some s'->(get s').given.length<=(get s).given.length+p.sz)(h:conT get put ρ d txt ps ex s=some (t,s')):(get s').given.length<=(get s).given.length+Nd.sz.szs ps:=by
 unfold conT at h
 split at h
 ·cases h
 ·rename_i m hm
  simp only at h
  split at h
  ·rename_i s1 hs1
   cases h
   have hsub:∀p∈(ps.zip m.vr.parts).map Prod.fst,p∈ps:=fun p hp=>by
    obtain⟨q,hq,rfl⟩:=List.mem_map.1 hp
    exact(List.of_mem_zip hq).1
   have h1:=conGo_given hgp _ _ _ (fun p hp2=>hp p (hsub p hp2)) hs1
   rw[hgp,(lettersFor_ext d m.vr.letters (get s)).given]at h1
   have h2:Nd.sz.szs ((ps.zip m.vr.parts).map Prod.fst)<=Nd.sz.szs ps:=by
    have:∀(a:List Nd)(b:List Nd),Nd.sz.szs ((a.zip b).map Prod.fst)<=Nd.sz.szs a:=by
     intro a
     induction a with
     |nil=>intro b;simp
     |cons x r ih=>
      intro b
      cases b with
      |nil=>simp[Nd.sz.szs]
      |cons y b=>simp only[List.zip_cons_cons,map_cons,Nd.sz.szs];have:=ih b;omega
    exact this _ _
   rw[hgp]
   show (get s1).given.length<=_
   omega
  ·cases h
theorem patX_given{g:Nd->TS×List (Nm×Nat)->Option (Nat×(TS×List (Nm×Nat)))}{p:Nd}(hg:∀s t s',g p s=some (t,s')->s'.1.given.length+1<=s.1.given.length+p.sz){want:Nat}{s s':TS×List (Nm×Nat)}(h:patT.patX g p want s=some s'):s'.1.given.length<=s.1.given.length+p.sz:=by
 unfold patT.patX at h
 split at h
 ·rename_i t s1 hs1
  obtain⟨σ2,h2,rfl⟩:=map_eq_some_iff.1 h
  have:=hg _ _ _ hs1
  show σ2.given.length<=_
  rw[unify_given h2]
  simp only[TS.give,length_append,length_cons,length_nil]
  omega
 ·cases h
theorem patT_given:∀(n:Nat) (p:Nd) (s:TS×List (Nm×Nat)) (t:Nat) (s':TS×List (Nm×Nat)),patT ρ d n p s=some (t,s')->s'.1.given.length+1<=s.1.given.length+p.sz:=by
 intro n
 induction n with
 |zero=>intro p s t s' h;cases h
 |succ n ih=>
  intro p s t s' h
  obtain⟨k,txt,ps⟩:=p
  rw[patT]at h
  split at h
  ·cases h;simp[TS.letter,TS.new,Nd.sz]
  ·split at h
   ·cases h;simp[TS.letter,TS.new,Nd.sz]
   ·split at h
    ·have h1:=conT_given (get:=Prod.fst) (put:=fun s τ=>(τ,s.2)) (fun _ _=>rfl) (fun p _ want s s' hx=>patX_given (fun s t s'=>ih p s t s') hx) h
     rw[Nd.sz]
     omega
    ·cases h;simp[TS.named,TS.new,Nd.sz]
end
def unbD(W:Nat):Deferred:={ target:=.fn (.func 179) #[.pointer (some ⟨W+4,0,none⟩),.pointer (some ⟨W+3,0,none⟩),.pointer (some ⟨W,0,none⟩),.pointer (some ⟨W+1,0,none⟩)],args:=#[] }
end Go.Proofs.YtbkiipiocpnnnaaGreatDoor
