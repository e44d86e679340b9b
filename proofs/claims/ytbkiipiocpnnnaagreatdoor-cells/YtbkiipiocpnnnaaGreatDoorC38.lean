import Derived.Test.YtbkiipiocpnnnaaGreatDoorC37
import Derived.Recover
set_option linter.all false
set_option maxHeartbeats 40000000
set_option maxRecDepth 100000
open Go.Proofs.Tryz
open Classical (choice)
open Or (inl inr)
open Nat (le_refl le_trans zero_le lt_of_lt_of_le)
open List (length_append length_cons mem_append mem_singleton cons_append length_nil map_cons)
namespace Go.Proofs.YtbkiipiocpnnnaaGreatDoor
open Go.RowKit
theorem expr_prog(ts:Toks):(choice lf).expr ts =
  bif G.isW K.let_ ts then((choice lf).binding ts.tail).bind fun b=>(G.want K.in_ b.2.2.2).bind fun r=>((choice lf).expr r).bind fun x=>some (.mk b.1 b.2.1 [b.2.2.1,x.1],x.2)
  else bif G.isW K.fun_ ts then(G.kind 110 ts.tail).bind fun one=>(G.want K.arrow_ (G.every 110 one.2).2).bind fun r=>((choice lf).expr r).bind fun x=>some (G.curried (one.1::(G.every 110 one.2).1) x.1,x.2)
  else bif G.isW K.if_ ts then(choice lf).ifE ts.tail else(choice lf).seqE ts:=by
 rw[(choice lf).expr_eq]
 unfold LFam.ifE LFam.seqE LFam.setE
 rw[Option.bind_assoc]
theorem str1(w:World)(x:List UInt8):(w.alloc (.cells #[.string (bs x)] tyStr)).ownsRow w.heap.size tyStr 1 (.slice (some ⟨w.heap.size,0,none⟩) 1 1) [x].length ([x].map strV):=
 World.ownsRow_lit (base:=w.heap.size) (size:=1) w _ 1 (le_refl _) (by unfold maxLen;omega) rfl
theorem RqT.grown{rb tb:Nat}{ts:Toks}{w w':World}{d:Nat}(h:RqT rb tb ts w)(hg:w.grownBy w' (some d))(h1:rb≠d)(h2:tb≠d):RqT rb tb ts w':=by
 obtain⟨o,cap,cs,e1,e2,e3⟩:=h.own
 refine⟨h.len,h.toks,o,cap,cs,?_,?_,e3⟩
 ·rw[hg.block rb (lt_of_heap e1) (fun e=>h1 (Option.some.inj e))];exact e1
 ·rw[hg.block tb (lt_of_heap e2) (fun e=>h2 (Option.some.inj e))];exact e2
theorem p_expr_step{rb m:Nat}(hF:FunOf)(hX:Below_ rb m)(ts:Toks)(w:World)(hm:wt ts<=m)(h:Rq rb ts w):ExprAt rb ts w:=by
 unfold ExprAt
 obtain⟨i0,hi,hz0,hz1,hz2⟩:=info_parts Tryz.infoStr
 have H1:=hide (accept_w (x:=K.let_) bsK_let (by decide) h)
 have HA2:=hide (fun(ts:Toks) (w:World) (h:Rq rb ts w)=>accept_w (x:=K.fun_) bsK_fun (by decide) h)
 have HA3:=hide (fun(ts:Toks) (w:World) (h:Rq rb ts w)=>accept_w (x:=K.if_) bsK_if (by decide) h)
 have HIn:=hide (fun(ts:Toks) (w:World) (h:Rq rb ts w)=>expect_w (x:=K.in_) bsK_in (by decide) h)
 have HAr:=hide (fun(ts:Toks) (w:World) (h:Rq rb ts w)=>expect_w (x:=K.arrow_) bsK_arrow (by decide) h)
 have HX:=hide (fun(ts:Toks) (w:World) (hm:wt ts<m) (h:Rq rb ts w)=>(hX ts w hm h).1)
 have HBd:=hide (fun(ts:Toks) (w:World) (hm:wt ts<=m) (h:Rq rb ts w)=>p_binding hF (fun ts w hm h=>(hX ts w hm h).1) ts w hm h)
 have HNm:=hide (fun(ts:Toks) (w:World) (h:Rq rb ts w)=>name_any h)
 have HNs:=hide (fun(tb:Nat) (ts:Toks) (w:World) (htb:tb<w.heap.size) (h:RqT rb tb ts w)=>p_namesT ts w htb h)
 have HCh:=hide (fun(ts:Toks) (w:World) (hm:wt ts<m) (h:Rq rb ts w)=>p_choice hX ts w hm h)
 have HSq:=hide (fun(w:World) (h:Rq rb ts w)=>p_sequence hX ts w hm h)
 have HF:=hide hF
 have HE:=hide (expr_prog ts)
 unfold ExprAt at HX
 clear hX h hF
 go_enter func90,ntmps90
 go_wp2_with fail
 refine(H1.out).mono ?_;rintro e w1⟨hk1,⟨ho1,rfl,hr1⟩|⟨ho1,rfl,hr1⟩⟩
 ·have HC:=hide (HA2.out ts w1 hr1)
  go_wp2_with fail
  refine(HC.out).mono ?_;rintro e w2⟨hk2,⟨ho2,rfl,hr2⟩|⟨ho2,rfl,hr2⟩⟩
  ·have HC:=hide (HA3.out ts w2 hr2)
   go_wp2_with fail
   refine(HC.out).mono ?_;rintro e w3⟨hk3,⟨ho3,rfl,hr3⟩|⟨ho3,rfl,hr3⟩⟩
   ·have HC:=hide (HSq.out w3 hr3)
    go_wp2_with fail
    refine(HC.out).mono ?_;intro e wz ha
    have HQ:=hide (AnsN.as (o':=(choice lf).expr ts) ((hk1.to hk2).to hk3) (by rw[HE.out,ho1,ho2,ho3]<;>rfl) ha)
    rcases ha.ends with rfl|⟨v,rfl⟩
    ·unfold gaveUp noForm
     clear ha
     go_wp2
     exact⟨rfl,HQ.out⟩
    ·clear ha
     go_wp2
     go_ret
     exact HQ.out
   ·have hlt:=wt_isW_lt ho3
    have HC:=hide (HCh.out ts.tail w3 (by omega) hr3)
    go_wp2_with fail
    refine(HC.out).mono ?_;intro e wz ha
    have HQ:=hide (AnsN.as (o':=(choice lf).expr ts) ((hk1.to hk2).to hk3) (by rw[HE.out,ho1,ho2,ho3]<;>rfl) ha)
    rcases ha.ends with rfl|⟨v,rfl⟩
    ·unfold gaveUp noForm
     clear ha
     go_wp2
     exact⟨rfl,HQ.out⟩
    ·clear ha
     go_wp2
     go_ret
     exact HQ.out
  ·have hlt:=wt_isW_lt ho2
   have hE2:(choice lf).expr ts=(G.kind 110 ts.tail).bind fun one=>(G.want K.arrow_ (G.every 110 one.2).2).bind fun r=>((choice lf).expr r).bind fun x=>some (G.curried (one.1::(G.every 110 one.2).1) x.1,x.2):=by rw[HE.out,ho1,ho2]<;>rfl
   have HE2:=hide hE2
   have HC:=hide (HNm.out ts.tail w2 hr2)
   clear hE2
   go_wp2_with fail
   refine(HC.out).mono ?_;rintro e w3⟨hk3,⟨ho3,rfl⟩|⟨x3,r3,ho3,rfl,hr3⟩⟩
   ·have HQ:=hide (AnsN.no (c:=0) (o:=(choice lf).expr ts) ((hk1.to hk2).to hk3) (by rw[HE2.out,ho3]<;>rfl))
    unfold gaveUp noForm
    go_wp2
    exact⟨rfl,HQ.out⟩
   ·have hw3:=wt_kindO (by decide) ho3
    have hw3:wt ts.tail=x3.length+20+wt r3:=hw3
    have hw4:=every_wt 110 r3
    have hE3:(choice lf).expr ts=(G.want K.arrow_ (G.every 110 r3).2).bind fun r=>((choice lf).expr r).bind fun x=>some (G.curried (x3::(G.every 110 r3).1) x.1,x.2):=by rw[HE2.out,ho3]<;>rfl
    have HE3:=hide hE3
    obtain⟨tb,htb,hT3⟩:=hr3.tb
    have hrb3:=hr3.lt
    have hTa:RqT rb tb r3 (w3.alloc (.cells #[.string (bs x3)] tyStr)):=by
     obtain⟨o,cap,cs,e1,e2,e3⟩:=hT3.own
     exact⟨hT3.len,hT3.toks,o,cap,cs,by rw[Below.heap_alloc _ _ _ (lt_of_heap e1)];exact e1,by rw[Below.heap_alloc _ _ _ (lt_of_heap e2)];exact e2,e3⟩
    have HC:=hide (HNs.out tb r3 (w3.alloc (.cells #[.string (bs x3)] tyStr)) (by simp;omega) hTa)
    have hlit:=str1 w3 x3
    have HK3:=hide (((hk1.to hk2).to hk3).alloc (.cells #[.string (bs x3)] tyStr))
    have HisR:=hide hTa.rq.isR
    clear hE3 HE2 hTa hT3 hr3 hr2 hr1
    go_wp2_with fail
    refine(HC.out).mono ?_;rintro e w4⟨v4,rfl,hk4,hv4,hr4,hl4⟩
    have hlit4:=ownsRow_kept (w':=w4) hlit fun k c f _ he=>kq_other (T:=tyStr) (by decide) HisR.out hk4 he
    have hsz3:=((hk1.to hk2).to hk3).size
    have hsz4:w3.heap.size<w4.heap.size:=by have:=hk4.size;simp at this;omega
    have HQ4:=hide (HK3.out.to hk4)
    rcases ownsRow_forms hv4 with⟨rfl,hn0⟩|⟨g,cap,rfl⟩
    ·have hap:∀ty,(Builtin.append_ #[22,22] ty #[.slice (some ⟨w3.heap.size,0,none⟩) 1 1,.slice none 0 0]).run prog w4=.ok (.slice (some ⟨w3.heap.size,0,none⟩) 1 1) w4:=by
      intro ty
      have:=run_append_room_src (P:=prog) w4 22 22 ty tyStr i0 underlying22 hi w3.heap.size 0 1 1 (.slice none 0 0) 0 [] (Src.ofNil w4 underlying22 0) (by decide) (fun j hj=>by simp at hj) (fun j hj=>by simp at hj)
      rw[this]
      simp[World.setCells]
     have hrowA:w4.ownsRow 0 tyStr 1 (.slice (some ⟨w3.heap.size,0,none⟩) 1 1) (x3::(G.every 110 r3).1).length ((x3::(G.every 110 r3).1).map strV):=by rw[List.length_eq_zero_iff.1 hn0];exact ownsRow_base hlit4 (zero_le _)
     have hkA:Kq rb w w4:=HQ4.out
     have hrA:Rq rb (G.every 110 r3).2 w4:=hr4.rq
     have HD:=hide (HAr.out _ w4 hrA)
     have HKA:=hide hkA
     have HRA:=hide hrA
     have HRow:=hide hrowA
     clear hrowA hkA hrA hlit hlit4 hv4 hr4
     go_wp2_with fail
     refine(HD.out).mono ?_;rintro e w6⟨hk6,⟨ho6,rfl⟩|⟨r6,ho6,rfl,hr6⟩⟩
     ·have HQ:=hide (AnsN.no (c:=0) (o:=(choice lf).expr ts) (HKA.out.to hk6) (by rw[HE3.out,ho6]<;>rfl))
      unfold gaveUp noForm
      go_wp2
      exact⟨rfl,HQ.out⟩
     ·have hw6:=wt_want ho6
      have HG:=hide (HX.out r6 w6 (by omega) hr6)
      have HRow6:=hide (ownsRow_kept (w':=w6) HRow.out fun k c f _ he=>kq_other (T:=tyStr) (by decide) HRA.out.isR hk6 he)
      go_wp2_with fail
      refine(HG.out).mono ?_;rintro e w7⟨hk7,⟨ho7,rfl⟩|⟨t7,r7,b7,ho7,rfl,hm7,hr7⟩⟩
      ·have HQ:=hide (AnsN.no (c:=0) (o:=(choice lf).expr ts) ((HKA.out.to hk6).to hk7) (by rw[HE3.out,ho6,Option.bind_some,ho7]<;>rfl))
       unfold gaveUp noForm
       go_wp2
       exact⟨rfl,HQ.out⟩
      ·have HRow7:=hide (ownsRow_kept (w':=w7) HRow6.out fun k c f _ he=>kq_other (T:=tyStr) (by decide) hr6.isR hk7 he)
       have hq7:=(HKA.out.to hk6).to hk7
       have HFn:=hide (HF.out w w7 (.slice (some ⟨w3.heap.size,0,none⟩) 1 1) (x3::(G.every 110 r3).1) t7 b7 hq7.size HRow7.out (by rw[length_cons];omega) (hm7.since (HKA.out.to hk6)))
       have HFin:=hide (show (choice lf).expr ts=some (G.curried (x3::(G.every 110 r3).1) t7,r7) by rw[HE3.out,ho6,Option.bind_some,ho7]<;>rfl)
       have HR7:=hide hr7
       have HQ7:=hide hq7
       clear hr6 hr7 hm7 hq7 ho7 ho6 hk7 hk6 HE3 HD HG HRow HRow6 HRow7 HRA HKA
       go_wp2_with fail
       refine(HFn.out).mono ?_;rintro e w8⟨b8,rfl,h8⟩
       have HQ:=hide (AnsN.yes (c:=0) (o:=(choice lf).expr ts) (HQ7.out.to (Kq.of_below h8.out.2)) HFin.out h8.out.1 (HR7.out.onto h8.out.2))
       clear h8 HFn HFin HR7 HQ7
       unfold ptrV at *
       go_wp2
       go_ret
       exact HQ.out
    ·have hnews:∀j u,((G.every 110 r3).1.map strV)[j]?=some u->w4.cell? ((⟨g,0,none⟩:Addr).add j)=some u:=hv4.cells (g:=g) rfl
     have hone:∀u∈(G.every 110 r3).1.map strV,u.oneCell'=true:=by
      intro u hu
      obtain⟨x,_,rfl⟩:=List.mem_map.1 hu
      rfl
     have hlit5:w4.ownsRow w3.heap.size tyStr 1 (.slice (some ⟨w3.heap.size,0,none⟩) 1 1) 1 [.string (bs x3)]:=hlit4
     clear hlit hlit4
     go_wp2_with (at_builtin;refine wpList_append_own _ rfl _ _ 22 rfl w3.heap.size tyStr i0 (.string ByteArray.empty) 1 16 underlying22 hi hz0 hz1 hz2 rfl (by decide) _ _ _ rfl hlit5 ⟨g,0,none⟩ (G.every 110 r3).1.length cap ((G.every 110 r3).1.map strV) rfl (by simp) hnews hone (by unfold maxLen;omega) (by omega) (by omega) ?_)
     intro v5 w5 hown5 hgr5 _
     clear hnews hone hlit5 hv4
     have hrowA:w5.ownsRow 0 tyStr 1 v5 (x3::(G.every 110 r3).1).length ((x3::(G.every 110 r3).1).map strV):=by
      rw[length_cons,map_cons,Nat.add_comm];exact ownsRow_base hown5 (zero_le _)
     have hkA:Kq rb w w5:=HQ4.out.grownOwn hgr5 (fun g hg=>by have e:w3.heap.size=g:=(by simpa [Value.ownBlock]using hg);omega)
     have hrA:Rq rb (G.every 110 r3).2 w5:=((hr4.grown (d:=w3.heap.size) hgr5 (by omega) (by omega))).rq
     have HD:=hide (HAr.out _ w5 hrA)
     have HKA:=hide hkA
     have HRA:=hide hrA
     have HRow:=hide hrowA
     clear hrowA hkA hrA hown5 hgr5 hr4
     go_wp2_with fail
     refine(HD.out).mono ?_;rintro e w6⟨hk6,⟨ho6,rfl⟩|⟨r6,ho6,rfl,hr6⟩⟩
     ·have HQ:=hide (AnsN.no (c:=0) (o:=(choice lf).expr ts) (HKA.out.to hk6) (by rw[HE3.out,ho6]<;>rfl))
      unfold gaveUp noForm
      go_wp2
      exact⟨rfl,HQ.out⟩
     ·have hw6:=wt_want ho6
      have HG:=hide (HX.out r6 w6 (by omega) hr6)
      have HRow6:=hide (ownsRow_kept (w':=w6) HRow.out fun k c f _ he=>kq_other (T:=tyStr) (by decide) HRA.out.isR hk6 he)
      go_wp2_with fail
      refine(HG.out).mono ?_;rintro e w7⟨hk7,⟨ho7,rfl⟩|⟨t7,r7,b7,ho7,rfl,hm7,hr7⟩⟩
      ·have HQ:=hide (AnsN.no (c:=0) (o:=(choice lf).expr ts) ((HKA.out.to hk6).to hk7) (by rw[HE3.out,ho6,Option.bind_some,ho7]<;>rfl))
       unfold gaveUp noForm
       go_wp2
       exact⟨rfl,HQ.out⟩
      ·have HRow7:=hide (ownsRow_kept (w':=w7) HRow6.out fun k c f _ he=>kq_other (T:=tyStr) (by decide) hr6.isR hk7 he)
       have hq7:=(HKA.out.to hk6).to hk7
       have HFn:=hide (HF.out w w7 v5 (x3::(G.every 110 r3).1) t7 b7 hq7.size HRow7.out (by rw[length_cons];omega) (hm7.since (HKA.out.to hk6)))
       have HFin:=hide (show (choice lf).expr ts=some (G.curried (x3::(G.every 110 r3).1) t7,r7) by rw[HE3.out,ho6,Option.bind_some,ho7]<;>rfl)
       have HR7:=hide hr7
       have HQ7:=hide hq7
       clear hr6 hr7 hm7 hq7 ho7 ho6 hk7 hk6 HE3 HD HG HRow HRow6 HRow7 HRA HKA
       go_wp2_with fail
       refine(HFn.out).mono ?_;rintro e w8⟨b8,rfl,h8⟩
       have HQ:=hide (AnsN.yes (c:=0) (o:=(choice lf).expr ts) (HQ7.out.to (Kq.of_below h8.out.2)) HFin.out h8.out.1 (HR7.out.onto h8.out.2))
       clear h8 HFn HFin HR7 HQ7
       unfold ptrV at *
       go_wp2
       go_ret
       exact HQ.out
 ·have hlt:=wt_isW_lt ho1
  have hE1:(choice lf).expr ts=((choice lf).binding ts.tail).bind fun b=>(G.want K.in_ b.2.2.2).bind fun r=>((choice lf).expr r).bind fun x=>some (.mk b.1 b.2.1 [b.2.2.1,x.1],x.2):=by rw[HE.out,ho1]<;>rfl
  have HE1:=hide hE1
  have HC:=hide (HBd.out ts.tail w1 (by omega) hr1)
  clear hE1
  go_wp2_with fail
  refine(HC.out).mono ?_;rintro e w2⟨hk2,⟨ho2,rfl⟩|⟨is2,x2,t2,r2,b2,k2,ho2,hi2,rfl,hm2,hr2⟩⟩
  ·have HQ:=hide (AnsN.no (c:=0) (o:=(choice lf).expr ts) (hk1.to hk2) (by rw[HE1.out,ho2]<;>rfl))
   unfold gaveUp noForm
   go_wp2
   exact⟨rfl,HQ.out⟩
  ·have hw2:=((choice lf).binding_w ho2).2
   have hw2:mu t2+(9+x2.length)+wt r2<=wt ts.tail:=hw2
   have HD:=hide (HIn.out r2 w2 hr2)
   go_wp2_with fail
   refine(HD.out).mono ?_;rintro e w3⟨hk3,⟨ho3,rfl⟩|⟨r3,ho3,rfl,hr3⟩⟩
   ·have HQ:=hide (AnsN.no (c:=0) (o:=(choice lf).expr ts) ((hk1.to hk2).to hk3) (by rw[HE1.out,ho2,Option.bind_some,ho3]<;>rfl))
    unfold gaveUp noForm
    go_wp2
    exact⟨rfl,HQ.out⟩
   ·have hw3:=wt_want ho3
    have HG:=hide (HX.out r3 w3 (by omega) hr3)
    go_wp2_with fail
    refine(HG.out).mono ?_;rintro e w4⟨hk4,⟨ho4,rfl⟩|⟨t4,r4,b4,ho4,rfl,hm4,hr4⟩⟩
    ·have HQ:=hide (AnsN.no (c:=0) (o:=(choice lf).expr ts) (((hk1.to hk2).to hk3).to hk4) (by rw[HE1.out,ho2,Option.bind_some,ho3,Option.bind_some,ho4]<;>rfl))
     unfold gaveUp noForm
     go_wp2
     exact⟨rfl,HQ.out⟩
    ·have hkd:KindOf 0 is2 x2 k2 x2 [0,0]:=by
      rcases hi2 with⟨rfl,rfl⟩|⟨rfl,rfl⟩
      ·exact KindOf.let_ x2
      ·exact KindOf.rec_ x2
     have HQ:=hide (node2 (o:=(choice lf).expr ts) hkd (((hk1.to hk2).to hk3).to hk4) (((hm2.since hk1).kq hr2 hk3).kq hr3 hk4) (hm4.since ((hk1.to hk2).to hk3)) hr4 (by rw[HE1.out,ho2,Option.bind_some,ho3,Option.bind_some,ho4]<;>rfl))
     have HN:=hide (New2 w4 b2 b4 k2 (bs x2))
     clear hm2 hm4 hr2 hr3 hr4 ho2 ho3 ho4 hk1 hk2 hk3 hk4 hkd hi2 HE1
     unfold ptrV at *
     go_wp2_with fail
     refine(HN.out).mono ?_;rintro e w9⟨rfl,rfl⟩
     go_wp2
     go_ret
     exact HQ.out
theorem p_below{rb:Nat}(hF:FunOf):∀m,Below_ rb m:=by
 intro m
 induction m with
 |zero=>intro ts w h _;exact absurd h (Nat.not_lt_zero _)
 |succ m ih=>intro ts w h hr;exact⟨p_expr_step hF ih ts w (by omega) hr,p_atom_step ih ts w (by omega) hr⟩
theorem p_expression{rb:Nat}(hF:FunOf)(ts:Toks)(w:World)(h:Rq rb ts w):Calls prog 90 #[ptrV rb] w (AnsN rb 0 w ((choice lf).expr ts)):=((p_below hF (wt ts+1)) ts w (by omega) h).1
def LFam.declE(L:LFam)(ts:Toks):Option (Tr×Toks):=
 bif G.isW K.type_ ts then L.typeD ts.tail
 else bif G.isW K.do_ ts then(L.expr ts.tail).bind fun x=>some (.mk K.do_ [] [x.1],x.2)
 else(G.want K.let_ ts).bind fun r=>(L.binding r).bind fun b=>some (.mk b.1 b.2.1 [b.2.2.1],b.2.2.2)
theorem decl_prog(ts:Toks):(choice lf).decl ts=((choice lf).declE ts).bind fun q=>bif q.2.isEmpty then some q.1 else none:=(choice lf).decl_eq ts
theorem want_eq(x:List UInt8)(hx:tokKind x=119)(t:List UInt8)(r:Toks):G.want x (t::r)=bif t==x then some r else none:=by
 unfold G.want;rw[isW_eq hx];rfl
theorem p_declaration{rb:Nat}(hF:FunOf)(ts:Toks)(w:World)(h:Rq rb ts w):Calls prog 53 #[ptrV rb] w (AnsN rb 4 w ((choice lf).declE ts)):=by
 have HTk:=hide (take_any h)
 cases ts with
 |nil=>
  have HQ:=hide (AnsN.no (c:=4) (o:=(choice lf).declE []) (w':=w) (Kq.refl rb w) rfl)
  clear h
  go_enter func53,ntmps53
  go_wp2_with fail
  refine(HTk.out).mono ?_;rintro e w1⟨hk1,⟨_,rfl⟩|⟨t1,r1,he,_⟩⟩
  ·have HQ:=hide (AnsN.no (c:=4) (o:=(choice lf).declE []) hk1 rfl)
   unfold gaveUp noForm
   go_wp2
   exact⟨rfl,HQ.out⟩
  ·cases he
 |cons t r=>
  have HT:=hide (take_one h)
  have HTD:=hide (fun(w:World) (h:Rq rb r w)=>p_typeDeclaration r w h)
  have HBd:=hide (fun(w:World) (h:Rq rb r w)=>p_binding (m:=wt r+1) hF (fun ts w _ h=>p_expression hF ts w h) r w (by omega) h)
  have HEx:=hide (fun(w:World) (h:Rq rb r w)=>p_expression hF r w h)
  have hTy:=isW_eq (x:=K.type_) (by decide) (t::r)
  have hDo:=isW_eq (x:=K.do_) (by decide) (t::r)
  rw[show (t::r).headD []=t from rfl]at hTy hDo
  have hLt:=want_eq K.let_ (by decide) t r
  clear h hF HTk
  cases k1:(t==K.type_)
  ·have e1:((bs t).toList==[116,121,112,101])=false:=(bs_lit t K.type_).trans k1
   rw[k1]at hTy
   cases k2:(t==K.let_)
   ·have e2:((bs t).toList==[108,101,116])=false:=(bs_lit t K.let_).trans k2
    rw[k2]at hLt
    cases k3:(t==K.do_)
    ·have e3:((bs t).toList==[100,111])=false:=(bs_lit t K.do_).trans k3
     rw[k3]at hDo
     have HE:=hide (show (choice lf).declE (t::r)=none by unfold LFam.declE;rw[hTy,hDo,hLt]<;>rfl)
     clear hTy hDo hLt k1 k2 k3
     generalize bs t=bx at *
     go_enter func53,ntmps53
     go_wp2_with fail
     refine(HT.out).mono ?_;rintro e w1⟨rfl,hT⟩
     have HQ:=hide (AnsN.no (c:=4) (o:=(choice lf).declE (t::r)) hT.out.1 HE.out)
     unfold gaveUp noForm at HQ
     go_wp2
     exact⟨rfl,HQ.out⟩
    ·have e3:((bs t).toList==[100,111])=true:=(bs_lit t K.do_).trans k3
     rw[k3]at hDo
     have HE:=hide (show (choice lf).declE (t::r)=((choice lf).expr r).bind fun x=>some (.mk K.do_ [] [x.1],x.2) by unfold LFam.declE;rw[hTy,hDo]<;>rfl)
     clear hTy hDo hLt k1 k2 k3
     generalize bs t=bx at *
     go_enter func53,ntmps53
     go_wp2_with fail
     refine(HT.out).mono ?_;rintro e w1⟨rfl,hT⟩
     have HC:=hide (HEx.out w1 hT.out.2)
     go_wp2_with fail
     refine(HC.out).mono ?_;rintro e w2⟨hk2,⟨ho2,rfl⟩|⟨t2,r2,b2,ho2,rfl,hm2,hr2⟩⟩
     ·have HQ:=hide (AnsN.no (c:=4) (o:=(choice lf).declE (t::r)) (hT.out.1.to hk2) (by rw[HE.out,ho2]<;>rfl))
      unfold gaveUp noForm
      go_wp2
      exact⟨rfl,HQ.out⟩
     ·have HQ:=hide (node1 (o:=(choice lf).declE (t::r)) KindOf.do_ (hT.out.1.to hk2) (hm2.since hT.out.1) hr2 (by rw[HE.out,ho2]<;>rfl))
      have HN:=hide (New1 w2 b2 17 ⟨#[]⟩)
      unfold ptrV at *
      go_wp2_with fail
      refine(HN.out).mono ?_;rintro e w9⟨rfl,rfl⟩
      go_wp2
      go_ret
      exact HQ.out
   ·have e2:((bs t).toList==[108,101,116])=true:=(bs_lit t K.let_).trans k2
    have ht:t=K.let_:=by simpa using k2
    rw[k2]at hLt
    have hDo2:G.isW K.do_ (t::r)=false:=by rw[hDo,ht];rfl
    have HE:=hide (show (choice lf).declE (t::r)=((choice lf).binding r).bind fun b=>some (.mk b.1 b.2.1 [b.2.2.1],b.2.2.2) by unfold LFam.declE;rw[hTy,hDo2,hLt]<;>rfl)
    clear hTy hDo hDo2 hLt k1 k2 ht
    generalize bs t=bx at *
    go_enter func53,ntmps53
    go_wp2_with fail
    refine(HT.out).mono ?_;rintro e w1⟨rfl,hT⟩
    have HC:=hide (HBd.out w1 hT.out.2)
    go_wp2_with fail
    refine(HC.out).mono ?_;rintro e w2⟨hk2,⟨ho2,rfl⟩|⟨is2,x2,t2,r2,b2,k2,ho2,hi2,rfl,hm2,hr2⟩⟩
    ·have HQ:=hide (AnsN.no (c:=4) (o:=(choice lf).declE (t::r)) (hT.out.1.to hk2) (by rw[HE.out,ho2]<;>rfl))
     unfold gaveUp noForm
     go_wp2
     exact⟨rfl,HQ.out⟩
    ·have hkd:KindOf 4 is2 x2 k2 x2 [0]:=by
      rcases hi2 with⟨rfl,rfl⟩|⟨rfl,rfl⟩
      ·exact KindOf.dlet x2
      ·exact KindOf.drec x2
     have HQ:=hide (node1 (o:=(choice lf).declE (t::r)) hkd (hT.out.1.to hk2) (hm2.since hT.out.1) hr2 (by rw[HE.out,ho2]<;>rfl))
     have HN:=hide (New1 w2 b2 k2 (bs x2))
     clear hm2 hr2 ho2 hk2 hkd hi2
     unfold ptrV at *
     go_wp2_with fail
     refine(HN.out).mono ?_;rintro e w9⟨rfl,rfl⟩
     go_wp2
     go_ret
     exact HQ.out
  ·have e1:((bs t).toList==[116,121,112,101])=true:=(bs_lit t K.type_).trans k1
   rw[k1]at hTy
   have HE:=hide (show (choice lf).declE (t::r)=(choice lf).typeD r by unfold LFam.declE;rw[hTy]<;>rfl)
   clear hTy hDo hLt k1
   generalize bs t=bx at *
   go_enter func53,ntmps53
   go_wp2_with fail
   refine(HT.out).mono ?_;rintro e w1⟨rfl,hT⟩
   have HC:=hide (HTD.out w1 hT.out.2)
   go_wp2_with fail
   refine(HC.out).mono ?_;intro e wz ha
   have HQ:=hide (AnsN.as (o':=(choice lf).declE (t::r)) hT.out.1 HE.out ha)
   rcases ha.ends with rfl|⟨v,rfl⟩
   ·unfold gaveUp noForm
    clear ha
    go_wp2
    exact⟨rfl,HQ.out⟩
   ·clear ha
    go_wp2
    go_ret
    exact HQ.out
theorem catch_up(w:World):CallsD prog 52 #[] (.panicking [{ v:=noForm,recovered:=false }]) w fun e u' w'=>
   e=.returned (.tuple #[])/\u'=.panicking [{ v:=noForm,recovered:=true }]/\w'=w:=by
 unfold noForm
 refine callsD_of_wpS func52 rfl fun c₀ cs hu=>?_
 apply wpS_seq
 apply wpS_region
 simp[wpOpsS,go_sem,recoverD,hu,ntmps52,Exit.thenS]
 have hne1:∀w:World,(binOp BinOp.neq 20 (.iface 119 (.agg #[])) .nilIface).run prog w=.ok (.bool true) w:=fun _=>by kernel_rfl
 have hne2:∀w:World,(binOp BinOp.neq 20 (.iface 119 (.agg #[])) (.iface 119 (.agg #[]))).run prog w=.ok (.bool false) w:=fun _=>by kernel_rfl
 refine wpS_of_wp ?_
 go_wp2
 cases c₀
 simp_all [bodyPostS,results,results52]
theorem catch_idle(w:World):CallsD prog 52 #[] .returning w fun e u' w'=>e=.returned (.tuple #[])/\u'=.returning/\w'=w:=by
 refine callsD_of_wpS func52 rfl fun c₀ cs hu=>?_
 apply wpS_seq
 apply wpS_region
 simp[wpOpsS,go_sem,recoverD,hu,ntmps52,Exit.thenS]
 have hne1:∀w:World,(binOp BinOp.neq 20 .nilIface .nilIface).run prog w=.ok (.bool false) w:=fun _=>by kernel_rfl
 refine wpS_of_wp ?_
 go_wp2
 cases c₀
 simp_all [bodyPostS,results,results52]
structure TokAt(tb o cap:Nat)(ts:Toks)(w:World):Prop where
 len:ts.length<=4000
 toks:∀t∈ts,Tok t/\t≠[]
 own:∃cs,w.heap[tb]?=some (.cells cs tyStr (0,0))/\ts.length<=cap/\cap<=9223372036854775807/\∀i t,ts[i]?=some t->cs[o+i]?=some (strV t)
theorem TokAt.rq{tb o cap:Nat}{ts:Toks}{w:World}(h:TokAt tb o cap ts w):Rq w.heap.size ts (w.alloc (.cells #[.slice (some ⟨tb,o,none⟩) ts.length cap] tyRdr)):=by
 obtain⟨cs,h1,h2⟩:=h.own
 exact⟨h.len,h.toks,tb,o,cap,cs,by simp only[World.alloc,Array.getElem?_push_size],by rw[Below.heap_alloc _ _ _ (lt_of_heap h1)];exact h1,h2⟩
def AnsR(w:World)(o:Option Tr)(e:Ending)(w':World):Prop:=Below w.heap.size w w'/\((o=none/\e=.returned (.pointer none))\/∃t b,o=some t/\e=.returned (ptrV b)/\Mem (From w) w' 4 t b)
theorem kq_below{w w1 w2:World}(h:Kq w.heap.size w1 w2)(h1:Below w.heap.size w w1):Below w.heap.size w w2:=
 ⟨h.os.trans h1.os,h.tape.trans h1.tape,h.output.trans h1.output,le_trans h1.size h.size,fun k hk=>by
  rw[h.block k (lt_of_lt_of_le hk h1.size) (by omega)];exact h1.block k hk⟩
theorem p_readDeclaration(hF:FunOf){tb o cap:Nat}(ts:Toks)(w:World)(h:TokAt tb o cap ts w):Calls prog 22 #[.slice (some ⟨tb,o,none⟩) ts.length cap] w (AnsR w ((choice lf).decl ts)):=by
 have HD:=hide (p_declaration hF ts _ h.rq)
 have HE:=hide (decl_prog ts)
 have HB:=hide ((Below.refl w.heap.size w).alloc (le_refl _) (.cells #[.slice (some ⟨tb,o,none⟩) ts.length cap] tyRdr))
 have HEnd:=hide (fun(r:Toks) (w1:World) (h:Rq w.heap.size r w1)=>end_any h)
 have hsz:w.heap.size<=(w.alloc (.cells #[.slice (some ⟨tb,o,none⟩) ts.length cap] tyRdr)).heap.size:=by simp
 have HSZ:=hide hsz
 clear h hF hsz
 unfold ptrV at *
 generalize ts.length=n at *
 go_enter_defers func22,ntmps22
 go_wp2_with fail
 refine(HD.out).mono ?_
 rintro e w2⟨hk2,⟨ho2,rfl⟩|⟨t2,r2,b2,ho2,rfl,hm2,hr2⟩⟩
 ·have HQ:=hide (show AnsR w ((choice lf).decl ts) (.returned (.pointer none)) w2 from⟨kq_below hk2 HB.out,inl ⟨by rw[HE.out,ho2]<;>rfl,rfl⟩⟩)
  unfold gaveUp noForm
  go_wp2
  refine leaves_cons (f:=52) (args:=#[]) (by simp) (by simp[go_sem]) ?_
  refine(catch_up _).mono ?_
  rintro e u' w''⟨rfl,rfl,rfl⟩
  simp[Leaves,settle,results,results22,go_sem]
  exact HQ.out
 ·have HC:=hide (HEnd.out r2 w2 hr2)
  unfold ptrV at *
  go_wp2_with fail
  refine(HC.out).mono ?_
  rintro e w3⟨rfl,⟨hne,rfl⟩|⟨rfl,rfl⟩⟩
  ·have HQ:=hide (show AnsR w ((choice lf).decl ts) (.returned (.pointer none)) w3 from⟨kq_below hk2 HB.out,inl ⟨by rw[HE.out,ho2];cases r2 with
    |nil=>exact absurd rfl hne
    |cons a b=>rfl,rfl⟩⟩)
   unfold gaveUp noForm
   go_wp2
   refine leaves_cons (f:=52) (args:=#[]) (by simp) (by simp[go_sem]) ?_
   refine(catch_up _).mono ?_
   rintro e u' w''⟨rfl,rfl,rfl⟩
   simp[Leaves,settle,results,results22,go_sem]
   exact HQ.out
  ·have HQ:=hide (show AnsR w ((choice lf).decl ts) (.returned (ptrV b2)) w3 from⟨kq_below hk2 HB.out,inr ⟨t2,b2,by rw[HE.out,ho2]<;>rfl,rfl,hm2.wide fun k hf _=>le_trans HSZ.out hf⟩⟩)
   go_wp2
   refine leaves_cons (f:=52) (args:=#[]) (by simp) (by simp[go_sem]) ?_
   refine(catch_idle _).mono ?_
   rintro e u' w''⟨rfl,rfl,rfl⟩
   simp[Leaves,settle,results,results22,go_sem]
   exact HQ.out
def stopAt:Toks->Nat
 |[]=>0
 |t::r=>if t=K.dot_ then 0 else stopAt r+1
theorem stopAt_le:∀T,stopAt T<=T.length:=by
 intro T
 induction T with
 |nil=>exact le_refl _
 |cons t r ih=>
  rw[stopAt]
  split
  ·exact zero_le _
  ·rw[length_cons];omega
theorem wt_take(k:Nat):∀T,wt (T.take k)<=wt T:=by
 induction k with
 |zero=>intro T;rw[List.take_zero];exact zero_le _
 |succ k ih=>
  intro T
  cases T with
  |nil=>exact le_refl _
  |cons t r=>rw[List.take_succ_cons,wt,wt];have:=ih r;omega
theorem wt_drop(k:Nat):∀T,wt (T.drop k)<=wt T:=by
 induction k with
 |zero=>intro T;exact le_refl _
 |succ k ih=>
  intro T
  cases T with
  |nil=>exact le_refl _
  |cons t r=>rw[List.drop_succ_cons,wt];have:=ih r;omega
theorem cutF_len(n:Nat):∀(l:List UInt8) (k:Nat) (acc:List (List UInt8)),(cutF n l k acc).1.length<=acc.length+l.length:=by
 induction n with
 |zero=>intro l k acc;simp[cutF]
 |succ n ih=>
  intro l k acc
  simp only[cutF]
  split
  ·simp
  ·split
   ·simp
   ·rename_i h1 h2
    have:=ih ((l.drop (gap false l)).drop (tokLen (l.drop (gap false l)))) (k+gap false l+tokLen (l.drop (gap false l))) (acc++[(l.drop (gap false l)).take (tokLen (l.drop (gap false l)))])
    have h3:=tokLen_le (l.drop (gap false l))
    simp only[length_append,List.length_drop,length_cons,length_nil]at this h3
    omega
theorem cutL_len(l:List UInt8):(cutL l).1.length<=4000:=by
 unfold cutL
 split
 ·simp
 ·have:=cutF_len (l.length+1) l 0 []
  simp at this;omega
def GoodTok(t:List UInt8):Prop:=t≠[]/\∀r,Stops r->tokLen (t++r)=t.length/\gap false (t++r)=0
theorem gap_head(c:UInt8)(t x:List UInt8)(h:gap false (c::t)=0):gap false (c::x)=0:=by
 cases hb:blankB c.toNat
 ·by_cases hc:c=35
  ·subst hc
   simp only[gap,hb,cond_false,if_true]at h
   omega
  ·simp[gap,hb,hc]
 ·simp only[gap,hb,cond_true]at h
  omega
theorem good_of(l:List UInt8)(ht:tokLen l≠0)(hg:gap false l=0):GoodTok (l.take (tokLen l)):=by
 have hle:=tokLen_le l
 have hlen:(l.take (tokLen l)).length=tokLen l:=by simp;omega
 refine⟨fun e=>?_,fun r hr=>⟨?_,?_⟩⟩
 ·rw[e]at hlen;simp at hlen;omega
 ·rw[hlen];exact(tok_stop hr l ht).1
 ·cases l with
  |nil=>simp[tokLen]at ht
  |cons c t=>
   obtain⟨m,hm⟩:∃m,tokLen (c::t)=m+1:=⟨tokLen (c::t)-1,by omega⟩
   rw[hm,List.take_succ_cons,cons_append]
   exact gap_head c t _ hg
theorem cutF_good(n:Nat):∀(l:List UInt8) (k:Nat) (acc toks:List (List UInt8)),cutF n l k acc=(toks,0,0)->∀t∈toks,t∈acc\/(GoodTok t/\t.length<=l.length):=by
 induction n with
 |zero=>
  intro l k acc toks h t ht
  simp only[cutF,Prod.mk.injEq,and_true]at h
  subst h;exact inl ht
 |succ n ih=>
  intro l k acc toks h t ht
  simp only[cutF]at h
  split at h
  ·simp only[Prod.mk.injEq,and_true]at h
   subst h;exact inl ht
  ·split at h
   ·simp at h
   ·rename_i h1 h2
    rcases ih _ _ _ _ h t ht with h3|h3
    ·rcases mem_append.1 h3 with h4|h4
     ·exact inl h4
     ·rw[mem_singleton]at h4
      subst h4
      refine inr ⟨good_of _ h2 (gap_gap l false),?_⟩
      simp;omega
    ·refine inr ⟨h3.1,le_trans h3.2 ?_⟩
     simp
theorem cutL_good(l:List UInt8)(toks:List (List UInt8))(h:cutL l=(toks,0,0)):∀t∈toks,GoodTok t/\t.length<=4000:=by
 unfold cutL at h
 split at h
 ·simp at h
 ·intro t ht
  rcases cutF_good _ _ _ _ _ h t ht with h1|h1
  ·cases h1
  ·exact⟨h1.1,by omega⟩
theorem cutF_err(n:Nat):∀(l:List UInt8) (k:Nat) (acc:List (List UInt8)),((cutF n l k acc).2.2=0/\(cutF n l k acc).2.1=0)\/((cutF n l k acc).1=[]/\(cutF n l k acc).2.2=2/\(cutF n l k acc).2.1<k+l.length):=by
 induction n with
 |zero=>intro l k acc;exact inl ⟨rfl,rfl⟩
 |succ n ih=>
  intro l k acc
  simp only[cutF]
  split
  ·exact inl ⟨rfl,rfl⟩
  ·rename_i h0
   have hlt:gap false l<l.length:=by
    by_cases h:gap false l<l.length
    ·exact h
    ·rw[List.drop_of_length_le (by omega)]at h0;exact absurd rfl h0
   split
   ·exact inr ⟨rfl,rfl,by show k+gap false l < _;omega⟩
   ·have h3:=tokLen_le (l.drop (gap false l))
    rw[List.length_drop]at h3
    rcases ih ((l.drop (gap false l)).drop (tokLen (l.drop (gap false l)))) (k+gap false l+tokLen (l.drop (gap false l))) (acc++[(l.drop (gap false l)).take (tokLen (l.drop (gap false l)))])with h|⟨h4,h5,h6⟩
    ·exact inl h
    ·refine inr ⟨h4,h5,?_⟩
     rw[List.length_drop,List.length_drop]at h6
     omega
theorem cutL_err(l:List UInt8):((cutL l).2.2=0/\(cutL l).2.1=0)\/((cutL l).1=[]/\((cutL l).2.2=1/\(cutL l).2.1=0\/(cutL l).2.2=2/\(cutL l).2.1<l.length)):=by
 unfold cutL
 split
 ·exact inr ⟨rfl,inl ⟨rfl,rfl⟩⟩
 ·rcases cutF_err (l.length+1) l 0 []with h|⟨h1,h2,h3⟩
  ·exact inl h
  ·exact inr ⟨h1,inr ⟨h2,by omega⟩⟩
theorem idx_stop:∀(ts:Toks)(i:Nat),Lib.idxFromS (ts.map bs) (bs K.dot_) i=if stopAt ts=ts.length then -1 else((i+stopAt ts:Nat):Int):=by
 intro ts
 induction ts with
 |nil=>intro i;rfl
 |cons t r ih=>
  intro i
  rw[map_cons,Lib.idxFromS,stopAt]
  by_cases h:t=K.dot_
  ·rw[if_pos h,if_pos (by rw[h]),if_neg (by simp)];rfl
  ·rw[if_neg h,if_neg (fun e=>h (bs_inj e)),ih,length_cons]
   by_cases h2:stopAt r=r.length
   ·rw[if_pos h2,if_pos (by omega)]
   ·rw[if_neg h2,if_neg (by omega)];congr 1;omega
theorem TokAt.take{tb o cap:Nat}{ts:Toks}{w:World}(h:TokAt tb o cap ts w)(k:Nat)(hk:k<=ts.length):TokAt tb o cap (ts.take k) w:=by
 obtain⟨cs,h1,h2,h3,h4⟩:=h.own
 refine⟨by have:=h.len;simp;omega,fun t ht=>h.toks t (List.mem_of_mem_take ht),cs,h1,by simp;omega,h3,fun i t hi=>h4 i t ?_⟩
 rw[List.getElem?_take]at hi
 split at hi
 ·exact hi
 ·cases hi
theorem TokAt.drop{tb o cap:Nat}{ts:Toks}{w:World}(h:TokAt tb o cap ts w)(k:Nat)(hk:k<=ts.length)(o2:Nat)(ho:cap=k\/o2=o+k):TokAt tb o2 (cap-k) (ts.drop k) w:=by
 obtain⟨cs,h1,h2,h3,h4⟩:=h.own
 refine⟨by have:=h.len;simp;omega,fun t ht=>h.toks t (List.mem_of_mem_drop ht),cs,h1,by simp;omega,by omega,fun i t hi=>?_⟩
 rw[List.getElem?_drop]at hi
 rcases ho with ho|rfl
 ·exfalso
  rw[List.getElem?_eq_none (by omega)]at hi;cases hi
 ·have:=h4 (k+i) t hi
  rw[<- this];congr 1;omega
theorem TokAt.kept{tb o cap:Nat}{ts:Toks}{w w':World}(h:TokAt tb o cap ts w)(hk:∀(k:Nat)(c:Array Value)(f:Nat×Nat),w.heap[k]?=some (.cells c tyStr f)->w'.heap[k]?=w.heap[k]?):TokAt tb o cap ts w':=by
 obtain⟨cs,h1,h2⟩:=h.own
 exact⟨h.len,h.toks,cs,by rw[hk _ _ _ h1];exact h1,h2⟩
theorem cutL_zero(l:List UInt8)(h:(cutL l).2.2=0):(cutL l).2.1=0:=by
 rcases cutL_err l with h1|⟨_,⟨h1,_⟩|⟨h1,_⟩⟩
 ·exact h1.2
 ·omega
 ·omega
theorem row_put{A:World->Value->Nat->Prop}{w wr w2:World}{v v':Value}{cs:List Nat}{acc:List Tr}{ps:List Nat}{c:Nat}{t:Tr}{b:Nat}{o:Obj}(hA:A=fun w v g=>w.heap.size<=g/\v.ownBlock≠some g)(hown:wr.ownsRow w.heap.size tyTreeP 1 v ps.length (ps.map ptrV))(hms:Mem.Mems (A w v) wr cs acc ps)(hm:Mem (A w v) wr c t b)
  (hg:(wr.alloc o).grownBy w2 v.ownBlock) (hl:∀g,v'.ownBlock=some g->v.ownBlock=some g\/wr.heap.size<g):Mem.Mems (A w v') w2 (cs++[c]) (acc++[t]) (ps++[b]):=by
 subst hA
 have hA2:=((hms.append (.cons hm .nil)).wide (A':=fun g=>w.heap.size<=g/\v.ownBlock≠some g/\g<wr.heap.size) (fun k hk hlt=>⟨hk.1,hk.2,hlt⟩)).alloc o
 have hA3:=Mem.Mems.grown (hown.alloc o) hg (fun g hA=>hA.2.1) hA2
 refine hA3.wide (fun k hk _=>⟨hk.1,fun e=>?_⟩)
 rcases hl k e with h|h
 ·exact hk.2.1 h
 ·have:=hk.2.2;omega
def AnsP(w:World)(o:List Tr×Nat×Nat)(e:Ending)(w':World):Prop:=
 ∃v ps,e=.returned (.tuple #[v,.int .i64 o.2.1,.int .i64 o.2.2])/\w'.ownsRow w.heap.size tyTreeP 1 v ps.length (ps.map ptrV)/\Mem.Mems (From w) w' (List.replicate ps.length 4) o.1 ps/\Below w.heap.size w w'
end Go.Proofs.YtbkiipiocpnnnaaGreatDoor
