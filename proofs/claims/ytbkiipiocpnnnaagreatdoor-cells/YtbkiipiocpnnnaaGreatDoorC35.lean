import Derived.Test.YtbkiipiocpnnnaaGreatDoorC24
set_option linter.all false
set_option maxHeartbeats 40000000
set_option maxRecDepth 100000
open Go.Proofs.Tryz
open Classical (choice)
open Nat (le_refl zero_le)
open List (append_nil length_append cons_append map_append)
namespace Go.Proofs.YtbkiipiocpnnnaaGreatDoor
open Go.RowKit
theorem p_inBrackets{rb c fk M:Nat}(hc:c<=1){fr:Toks->Option (Tr×Toks)}(HE:Enters fk)(HK:∀ts w,wt ts<=M->Rq rb ts w->Calls prog fk #[ptrV rb] w (AnsN rb c w (fr ts)))(ts:Toks)(w:World)(hM:wt ts<=M)(h:Rq rb ts w) :
  Calls prog 301 #[ptrV rb,.func (.func fk) #[ptrV rb] #[]] w (AnsN rb c w ((choice lf).inB fr ts)):=by
 have hE:=fun(args:Array Value) (w:World)=>HE args w
 have H1:=hide (accept_w (x:=K.shut_) bsK_shut (by decide) h)
 have HX:=hide (fun(ts:Toks) (w:World) (h:Rq rb ts w)=>expect_w (x:=K.shut_) bsK_shut (by decide) h)
 have HR:=hide (fun(w:World) (h:Rq rb ts w)=>HK ts w hM h)
 clear HK h HE
 go_enter func301,ntmps301
 go_wp2_with fail
 refine(H1.out).mono ?_;rintro e w1⟨hk1,⟨ho1,rfl,hr1⟩|⟨ho1,rfl,hr1⟩⟩
 ·have HC:=hide (HR.out w1 hr1)
  go_wp2_with fail
  refine(HC.out).mono ?_;rintro e w2⟨hk2,⟨ho2,rfl⟩|⟨t2,r2,b2,ho2,rfl,hm2,hr2⟩⟩
  ·have HQ:=hide (AnsN.no (c:=c) (o:=(choice lf).inB fr ts) (hk1.to hk2) (by unfold LFam.inB;rw[ho1,cond_false,ho2]<;>rfl))
   unfold gaveUp noForm
   go_wp2
   exact⟨rfl,HQ.out⟩
  ·have HD:=hide (HX.out r2 w2 hr2)
   go_wp2_with fail
   refine(HD.out).mono ?_;rintro e w3⟨hk3,⟨ho3,rfl⟩|⟨r3,ho3,rfl,hr3⟩⟩
   ·have HQ:=hide (AnsN.no (c:=c) (o:=(choice lf).inB fr ts) ((hk1.to hk2).to hk3) (by unfold LFam.inB;rw[ho1,cond_false,ho2,Option.bind_some,ho3]<;>rfl))
    unfold gaveUp noForm
    go_wp2
    exact⟨rfl,HQ.out⟩
   ·have HQ:=hide (AnsN.yes (c:=c) (o:=(choice lf).inB fr ts) ((hk1.to hk2).to hk3) (by unfold LFam.inB;rw[ho1,cond_false,ho2,Option.bind_some,ho3]<;>rfl) ((hm2.since hk1).kq hr2 hk3) hr3)
    unfold ptrV at *
    go_wp2
    go_ret
    exact HQ.out
 ·have HQ:=hide (AnsN.yes (c:=c) (o:=(choice lf).inB fr ts) (hk1.alloc (.cells #[.int .i64 2,.string (bs K.unit_),.slice none 0 0] tyTree)) (by unfold LFam.inB;rw[ho1]<;>rfl) (Mem.leaf (A:=From w) (KindOf.unit c hc) w1) (hr1.alloc _))
  have HN:=hide (New_any 2 (bs K.unit_) none 0 0 w1)
  rw[bsK_unit]at HQ HN
  go_wp2_with fail
  refine(HN.out).mono ?_;rintro e w2⟨rfl,rfl⟩
  go_wp2
  go_ret
  exact HQ.out
def PatternAt(rb:Nat)(ts:Toks)(w:World):Prop:=Calls prog 307 #[ptrV rb] w (AnsN rb 1 w ((choice lf).pattern ts))
theorem Enters.pattern:Enters 307:=enters func307 (by kernel_rfl) rfl
theorem Enters.partPattern:Enters 309:=enters func309 (by kernel_rfl) rfl
theorem Enters.expression:Enters 90:=enters func90 (by kernel_rfl) rfl
theorem Enters.atom:Enters 299:=enters func299 (by kernel_rfl) rfl
theorem Enters.product:Enters 276:=enters func276 (by kernel_rfl) rfl
theorem Enters.application:Enters 290:=enters func290 (by kernel_rfl) rfl
theorem p_partPattern{rb m:Nat}(hP:∀ts w,wt ts<m->Rq rb ts w->PatternAt rb ts w)(ts:Toks)(w:World)(hm:wt ts<=m)(h:Rq rb ts w):Calls prog 309 #[ptrV rb] w (AnsO rb 1 w ((choice lf).apattern ts)):=by
 have H1:=hide (accept_w (x:=K.open_) bsK_open (by decide) h)
 have HA:=hide (fun(ts:Toks) (w:World) (h:Rq rb ts w)=>accept_w (x:=K.under_) bsK_under (by decide) h)
 have HL:=hide (fun(w:World) (h:Rq rb ts w)=>p_plain 1 (le_refl _) ts w h)
 have HB:=hide (fun(hlt:wt ts.tail<m) (w:World) (h:Rq rb ts.tail w)=>p_inBrackets (M:=wt ts.tail) (le_refl 1) Enters.pattern (fun ts2 w2 h1 h2=>hP ts2 w2 (by omega) h2) ts.tail w (le_refl _) h)
 have HE:=hide (apattern_prog ts)
 have hmf:∀(fn:Fn)(first cap:Array Value)(w:World),(Instr.makeFunc fn first cap).run prog w=.ok (.func fn first cap) w:=fun _ _ _ _=>rfl
 clear hP h
 go_enter func309,ntmps309
 go_wp2_with fail
 refine(H1.out).mono ?_;rintro e w1⟨hk1,⟨ho1,rfl,hr1⟩|⟨ho1,rfl,hr1⟩⟩
 ·have HC:=hide (HA.out ts w1 hr1)
  go_wp2_with fail
  refine(HC.out).mono ?_;rintro e w2⟨hk2,⟨ho2,rfl,hr2⟩|⟨ho2,rfl,hr2⟩⟩
  ·have HD:=hide (HL.out w2 hr2)
   go_wp2_with fail
   refine(HD.out).mono ?_;intro e wz ha
   have HQ:=hide (AnsO.as (o':=(choice lf).apattern ts) (hk1.to hk2) (by rw[HE.out,ho1,ho2]<;>rfl) ha)
   rcases ha.ends with rfl|⟨v,rfl⟩
   ·unfold gaveUp noForm
    clear ha
    go_wp2
    exact⟨rfl,HQ.out⟩
   ·clear ha
    go_wp2
    go_ret
    exact HQ.out
  ·have HQ:=hide (AnsO.yes (c:=1) (o:=(choice lf).apattern ts) ((hk1.to hk2).alloc (.cells #[.int .i64 4,.string (bs K.under_),.slice none 0 0] tyTree)) (by rw[HE.out,ho1,ho2]<;>rfl) (Mem.leaf (A:=From w) KindOf.wild w2) (hr2.alloc _))
   have HN:=hide (New_any 4 (bs K.under_) none 0 0 w2)
   rw[bsK_under]at HQ HN
   go_wp2_with fail
   refine(HN.out).mono ?_;rintro e w3⟨rfl,rfl⟩
   go_wp2
   go_ret
   exact HQ.out
 ·have hlt:=wt_isW_lt ho1
  have HC:=hide (HB.out (by omega) w1 hr1)
  go_wp2_with fail
  refine(HC.out).mono ?_;intro e wz ha
  have HQ:=hide ((fun(z:AnsN rb 1 w1 ((choice lf).inB (choice lf).pattern ts.tail) _ _)=>AnsO.as (o':=(choice lf).apattern ts) hk1 (by rw[HE.out,ho1]<;>rfl) z.there) ha)
  rcases ha.ends with rfl|⟨v,rfl⟩
  ·unfold gaveUp noForm
   clear ha
   go_wp2
   exact⟨rfl,HQ.out⟩
  ·clear ha
   go_wp2
   go_ret
   exact HQ.out
theorem apattern_wt(ts:Toks)(t:Tr)(r:Toks)(h:(choice lf).apattern ts=some (some t,r)):wt r<wt ts:=by
 have:=(choice lf).apattern_w h
 have h2:mu t+9+wt r<=wt ts:=this
 omega
theorem atom_wt(ts:Toks)(t:Tr)(r:Toks)(h:(choice lf).atom ts=some (some t,r)):wt r<wt ts:=by
 have:=(choice lf).atom_w h
 have h2:mu t+9+wt r<=wt ts:=this
 omega
theorem p_apatterns{rb m:Nat}(hP:∀ts w,wt ts<m->Rq rb ts w->PatternAt rb ts w)(ts:Toks)(w:World)(hm:wt ts<=m)(h:Rq rb ts w):Calls prog 122 #[.func (.func 309) #[ptrV rb] #[]] w (AnsS rb 1 w ((choice lf).apatterns ts)):=
 several_any (choice lf).apatterns_eq apattern_wt Enters.partPattern (fun ts w h1 h2=>p_partPattern hP ts w h1 h2) ts w hm h
theorem p_pattern_step{rb m:Nat}(hP:∀ts w,wt ts<m->Rq rb ts w->PatternAt rb ts w)(ts:Toks)(w:World)(hm:wt ts<=m)(h:Rq rb ts w):PatternAt rb ts w:=by
 unfold PatternAt
 have HP:=hide (peek_any h)
 have HI:=hide (IsConstructor_tok h.head w)
 have hmf:∀(fn:Fn)(first cap:Array Value)(w:World),(Instr.makeFunc fn first cap).run prog w=.ok (.func fn first cap) w:=fun _ _ _ _=>rfl
 cases hk:(tokKind (ts.headD [])==99)
 ·rw[hk]at HI
  have HC:=hide (p_partPattern hP ts w hm h)
  have hT:(choice lf).pattern ts=(choice lf).need ((choice lf).apattern ts):=by rw[pattern_prog];unfold G.kindOf;rw[hk]<;>rfl
  have HT:=hide hT
  clear hP h hT hk
  generalize bs (ts.headD [])=bx at *
  go_enter func307,ntmps307
  go_wp2_with fail
  refine(HP.out).mono ?_;rintro e w1⟨rfl,rfl⟩
  go_wp2_with fail
  refine(HI.out).mono ?_;rintro e w1⟨rfl,rfl⟩
  go_wp2_with fail
  refine(HC.out).mono ?_;rintro e w2⟨hk2,⟨ho2,rfl⟩|⟨r2,ho2,rfl,hr2⟩|⟨t2,r2,b2,ho2,rfl,hm2,hr2⟩⟩
  ·have HQ:=hide (AnsN.no (c:=1) (o:=(choice lf).pattern ts) hk2 (by rw[HT.out,ho2]<;>rfl))
   unfold gaveUp noForm
   go_wp2
   exact⟨rfl,HQ.out⟩
  ·have HQ:=hide (AnsN.no (c:=1) (o:=(choice lf).pattern ts) hk2 (by rw[HT.out,ho2]<;>rfl))
   have HN:=hide (need_nil w2)
   go_wp2_with fail
   refine(HN.out).mono ?_;rintro e w3⟨rfl,rfl⟩
   unfold gaveUp noForm
   go_wp2
   exact⟨rfl,HQ.out⟩
  ·have HQ:=hide (AnsN.yes (c:=1) (o:=(choice lf).pattern ts) hk2 (by rw[HT.out,ho2]<;>rfl) hm2 hr2)
   have HN:=hide (need_node b2 w2)
   go_wp2_with fail
   refine(HN.out).mono ?_;rintro e w3⟨rfl,rfl⟩
   unfold ptrV at *
   go_wp2
   go_ret
   exact HQ.out
 ·obtain⟨t,r,rfl⟩:=kind_cons (ts:=ts) (k:=99) (by decide) hk
  have hlt:=wt_kind_lt (ts:=t::r) (k:=99) (by decide) hk
  have HT:=hide (take_one h)
  have HS:=hide (fun(w1:World) (h1:Rq rb r w1)=>p_apatterns hP r w1 (by have:(t::r).tail=r:=rfl;rw[this]at hlt;omega) h1)
  have hE:(choice lf).pattern (t::r)=((choice lf).apatterns r).bind fun l=>some (.mk K.con_ t l.1,l.2):=by rw[pattern_prog];unfold G.kindOf;rw[hk]<;>rfl
  have HE:=hide hE
  rw[hk]at HI
  rw[show (t::r).headD []=t from rfl]at HP HI
  clear hP h hk hE hlt
  go_enter func307,ntmps307
  go_wp2_with fail
  refine(HP.out).mono ?_;rintro e w1⟨rfl,rfl⟩
  go_wp2_with fail
  refine(HI.out).mono ?_;rintro e w1⟨rfl,rfl⟩
  go_wp2_with fail
  refine(HT.out).mono ?_;rintro e w1⟨rfl,hT⟩
  have hk1:=hT.out.1
  have HC:=hide (HS.out w1 hT.out.2)
  go_wp2_with fail
  refine(HC.out).mono ?_;rintro e w2⟨hk2,⟨ho2,rfl⟩|⟨l2,r2,v2,ps2,ho2,rfl,hv2,hm2,hr2⟩⟩
  ·have HQ:=hide (AnsN.no (c:=1) (o:=(choice lf).pattern (t::r)) (hk1.to hk2) (by rw[HE.out,ho2]<;>rfl))
   unfold gaveUp noForm
   go_wp2
   exact⟨rfl,HQ.out⟩
  ·have HQ:=hide (nodeRow (o:=(choice lf).pattern (t::r)) (KindOf.con 1 (by decide) t ps2.length) hk1 hk2 hv2 hm2 hr2 (by rw[HE.out,ho2]<;>rfl))
   have HN:=hide (NewRow hv2 14 (bs t))
   clear hv2 hm2
   go_wp2_with fail
   refine(HN.out).mono ?_;rintro e w3⟨rfl,rfl⟩
   go_wp2
   go_ret
   exact HQ.out
theorem p_pattern_all{rb:Nat}:∀(m:Nat)(ts:Toks)(w:World),wt ts<=m->Rq rb ts w->PatternAt rb ts w:=by
 intro m
 induction m with
 |zero=>intro ts w hm h;exact p_pattern_step (m:=0) (fun _ _ h=>absurd h (Nat.not_lt_zero _)) ts w hm h
 |succ m ih=>intro ts w hm h;exact p_pattern_step (m:=m+1) (fun ts w h=>ih ts w (by omega)) ts w hm h
theorem p_pattern{rb:Nat}(ts:Toks)(w:World)(h:Rq rb ts w):Calls prog 307 #[ptrV rb] w (AnsN rb 1 w ((choice lf).pattern ts)):=p_pattern_all (wt ts) ts w (le_refl _) h
def ExprAt(rb:Nat)(ts:Toks)(w:World):Prop:=Calls prog 90 #[ptrV rb] w (AnsN rb 0 w ((choice lf).expr ts))
def AtomAt(rb:Nat)(ts:Toks)(w:World):Prop:=Calls prog 299 #[ptrV rb] w (AnsO rb 0 w ((choice lf).atom ts))
def Below_(rb m:Nat):Prop:=∀ts w,wt ts<m->Rq rb ts w->ExprAt rb ts w/\AtomAt rb ts w
theorem p_row{rb m:Nat}(hX:Below_ rb m)(ts:Toks)(w:World)(hm:wt ts<m)(h:Rq rb ts w):Calls prog 304 #[ptrV rb] w (AnsN rb 6 w ((choice lf).row ts)):=by
 have H1:=hide (p_pattern ts w h)
 have HA:=hide (fun(ts:Toks) (w:World) (h:Rq rb ts w)=>expect_w (x:=K.arrow_) bsK_arrow (by decide) h)
 have HX:=hide (fun(ts:Toks) (w:World) (hm:wt ts<m) (h:Rq rb ts w)=>(hX ts w hm h).1)
 clear hX h
 go_enter func304,ntmps304
 go_wp2_with fail
 refine(H1.out).mono ?_;rintro e w1⟨hk1,⟨ho1,rfl⟩|⟨t1,r1,b1,ho1,rfl,hm1,hr1⟩⟩
 ·have HQ:=hide (AnsN.no (c:=6) (o:=(choice lf).row ts) hk1 (by unfold LFam.row;rw[ho1]<;>rfl))
  unfold gaveUp noForm
  go_wp2
  exact⟨rfl,HQ.out⟩
 ·have hlt:mu t1+wt r1<=wt ts:=(choice lf).pattern_w ho1
  have HB:=hide (HA.out r1 w1 hr1)
  go_wp2_with fail
  refine(HB.out).mono ?_;rintro e w2⟨hk2,⟨ho2,rfl⟩|⟨r2,ho2,rfl,hr2⟩⟩
  ·have HQ:=hide (AnsN.no (c:=6) (o:=(choice lf).row ts) (hk1.to hk2) (by unfold LFam.row;rw[ho1,Option.bind_some,ho2]<;>rfl))
   unfold gaveUp noForm
   go_wp2
   exact⟨rfl,HQ.out⟩
  ·have hlt2:=wt_want ho2
   have HC:=hide (HX.out r2 w2 (by omega) hr2)
   unfold ExprAt at HC
   go_wp2_with fail
   refine(HC.out).mono ?_;rintro e w3⟨hk3,⟨ho3,rfl⟩|⟨t3,r3,b3,ho3,rfl,hm3,hr3⟩⟩
   ·have HQ:=hide (AnsN.no (c:=6) (o:=(choice lf).row ts) ((hk1.to hk2).to hk3) (by unfold LFam.row;rw[ho1,Option.bind_some,ho2,Option.bind_some,ho3]<;>rfl))
    unfold gaveUp noForm
    go_wp2
    exact⟨rfl,HQ.out⟩
   ·have HQ:=hide (node2 (o:=(choice lf).row ts) KindOf.row ((hk1.to hk2).to hk3) ((hm1.kq hr1 hk2).kq hr2 hk3) (hm3.since (hk1.to hk2)) hr3 (by unfold LFam.row;rw[ho1,Option.bind_some,ho2,Option.bind_some,ho3]<;>rfl))
    have HN:=hide (New2 w3 b1 b3 16 ⟨#[]⟩)
    unfold ptrV at *
    go_wp2_with fail
    refine(HN.out).mono ?_;rintro e w4⟨rfl,rfl⟩
    go_wp2
    go_ret
    exact HQ.out
def MatchAt(rb:Nat)(w:World)(ts:Toks)(gk:Nat)(v:Value)(wr:World):Prop:=
 ∃k x acc ps ts1,RowAt rb w v (0::List.replicate k 6) (x::acc) ps ts1 wr/\acc.length=k/\gk=wt ts1/\ps.length+wt ts1<=wt ts+1/\(choice lf).matches_ ts=((choice lf).rest ts1).bind fun l=>if (acc++l.1).length<1\/12<(acc++l.1).length then none else some (.mk K.match_ [] (x::(acc++l.1)),l.2)
theorem p_match{rb m:Nat}(hX:Below_ rb m)(ts:Toks)(w:World)(hm:wt ts<m)(h:Rq rb ts w):Calls prog 302 #[ptrV rb] w (AnsN rb 0 w ((choice lf).matches_ ts)):=by
 have hwt:=h.wt_le
 have H1:=hide ((hX ts w hm h).1)
 unfold ExprAt at H1
 have HX:=hide (fun(ts:Toks) (w:World) (h:Rq rb ts w)=>expect_w (x:=K.with_) bsK_with (by decide) h)
 have HY:=hide (fun(ts:Toks) (w:World) (h:Rq rb ts w)=>expect_w (x:=K.end_) bsK_end (by decide) h)
 have HA:=hide (fun(ts:Toks) (w:World) (h:Rq rb ts w)=>accept_w (x:=K.bar_) bsK_bar (by decide) h)
 have HV:=hide (fun(ts:Toks) (w:World) (hm:wt ts<m) (h:Rq rb ts w)=>p_row hX ts w hm h)
 have HE:=hide ((choice lf).matches_eq2 ts)
 clear h hX
 go_enter func302,ntmps302
 go_wp2_with fail
 refine(H1.out).mono ?_;rintro e w1⟨hk1,⟨ho1,rfl⟩|⟨t1,r1,b1,ho1,rfl,hm1,hr1⟩⟩
 ·have HQ:=hide (AnsN.no (c:=0) (o:=(choice lf).matches_ ts) hk1 (by rw[HE.out,ho1]<;>rfl))
  unfold gaveUp noForm
  go_wp2
  exact⟨rfl,HQ.out⟩
 ·have hlt:mu t1+wt r1<=wt ts:=(choice lf).expr_w ho1
  have hRow:RowAt rb w (.slice (some ⟨w1.heap.size,0,none⟩) 1 1) [0] [t1] [b1] r1 (w1.alloc (.cells #[.pointer (some ⟨b1,0,none⟩)] tyTreeP)):=by
   refine⟨ownsRow_base (ptr1 w1 b1) hk1.size,hk1.alloc _,hr1.alloc _,.cons ?_ .nil⟩
   refine(hm1.wide (A':=fun g=>w.heap.size<=g/\g<w1.heap.size) fun k hf hl=>⟨hf,hl⟩).alloc _ |>.wide fun k hf _=>⟨hf.1,?_⟩
   intro e
   have:k=w1.heap.size:=by simpa [Value.ownBlock]using e.symm
   omega
  have HRow:=hide hRow
  have HC:=hide (fun(w2:World) (h:Rq rb r1 w2)=>HX.out r1 w2 h)
  have HRq:=hide hRow.rq
  unfold ptrV at *
  clear hRow hm1
  go_wp2_with fail
  refine(HC.out _ HRq.out).mono ?_;rintro e w3⟨hk3,⟨ho3,rfl⟩|⟨r3,ho3,rfl,hr3⟩⟩
  ·have HQ:=hide (AnsN.no (c:=0) (o:=(choice lf).matches_ ts) ((hk1.alloc _).to hk3) (by rw[HE.out,ho1,Option.bind_some,ho3]<;>rfl))
   unfold gaveUp noForm
   go_wp2
   exact⟨rfl,HQ.out⟩
  ·have hq3:=wt_want ho3
   have hRow3:=HRow.out.behind hk3 hr3
   have hAt:MatchAt rb w ts (wt r3) (.slice (some ⟨w1.heap.size,0,none⟩) 1 1) w3:=⟨0,t1,[],[b1],r3,hRow3,rfl,rfl,by simp;omega,by rw[HE.out,ho1,Option.bind_some,ho3,Option.bind_some]<;>rfl⟩
   have HAt:=hide hAt
   clear HRow HRq hRow3 hAt HC H1 HE hr1 hr3 hk1 hk3 ho1 ho3 hlt hq3
   go_wp2_with fail
   go_loopg [3] (wt r3) (fun gk v wr=>Hid (MatchAt rb w ts gk v wr))
   case atStart=>exact HAt
   case round=>
    clear HAt
    obtain⟨k,x,acc,ps,ts1,hRow,hacc,rfl,hle,hE⟩:=hrel.out
    have hpl:=hRow.mems.length
    have HC:=hide (HA.out ts1 wr hRow.rq)
    have HRow:=hide hRow
    have HE:=hide hE
    have HPL:=hide hpl
    have HACC:=hide hacc
    clear hrel hRow hE hpl hacc
    go_wp2_with fail
    refine(HC.out).mono ?_;rintro e w7⟨hk7,⟨ho7,rfl,hr7⟩|⟨ho7,rfl,hr7⟩⟩
    ·have hRow7:=HRow.out.behind hk7 hr7
     have HD:=hide (HY.out ts1 w7 hr7)
     have HRow7:=hide hRow7
     clear hRow7 HRow
     go_wp2_with fail
     refine(HD.out).mono ?_;rintro e w8⟨hk8,⟨ho8,rfl⟩|⟨r8,ho8,rfl,hr8⟩⟩
     ·have HQ:=hide (AnsN.no (c:=0) (o:=(choice lf).matches_ ts) (HRow7.out.kq.to hk8) (by rw[HE.out,(choice lf).rest_eq,ho7,cond_false,ho8]<;>rfl))
      unfold gaveUp noForm
      go_wp2
      exact⟨rfl,HQ.out⟩
     ·have hRow8:=HRow7.out.behind hk8 hr8
      have hlen:ps.length=acc.length+1:=by have:=HPL.out.2;simpa using this
      have hfin:(choice lf).matches_ ts=if acc.length<1\/12<acc.length then none else some (.mk K.match_ [] (x::acc),r8):=by
       rw[HE.out,(choice lf).rest_eq,ho7,cond_false,ho8,Option.bind_some,Option.bind_some]
       simp only[append_nil]
      have hsl:∃g cap,_:=(ownsRow_forms hRow8.own).resolve_left (fun hh=>by have:=hh.2;omega)
      obtain⟨g,cap,rfl⟩:=hsl
      have HR8:=hide hRow8
      have HACC2:=HACC.out
      have HFIN:=hide hfin
      have hps:ps.length<=16080001:=by omega
      by_cases hbad:acc.length<1\/12<acc.length
      ·have HQ:=hide (AnsN.no (c:=0) (o:=(choice lf).matches_ ts) hRow8.kq (by rw[hfin,if_pos hbad]))
       unfold gaveUp noForm at HQ
       clear hRow8 hfin HFIN HE HR8 HRow7 HACC HACC2 HPL
       by_cases hone:acc.length<1
       ·have h1:(ps.length:Int)-1<1:=by omega
        clear hbad
        generalize hpn:ps.length=pn at *
        clear hlen hpn
        go_wp2
        exact⟨rfl,HQ.out⟩
       ·have h1:¬(ps.length:Int)-1<1:=by omega
        have h2:(12:Int)<(ps.length:Int)-1:=by omega
        clear hbad
        generalize hpn:ps.length=pn at *
        clear hlen hpn
        go_wp2
        exact⟨rfl,HQ.out⟩
      ·have HQ:=hide (hRow8.node (o:=(choice lf).matches_ ts) (by have:=KindOf.match_ k;exact this) (by rw[hfin,if_neg hbad]))
       have HN:=hide (NewRow hRow8.own 15 (bs []))
       have h1:¬(ps.length:Int)-1<1:=by omega
       have h2:¬(12:Int)<(ps.length:Int)-1:=by omega
       rw[bsK_nil]at HQ HN
       clear hRow8 hfin HFIN HE HR8 HRow7 HACC HACC2 HPL hbad
       generalize hpn:ps.length=pn at *
       clear hlen hpn
       go_wp2_with fail
       refine(HN.out).mono ?_;rintro e w9⟨rfl,rfl⟩
       go_wp2
       go_ret
       exact HQ.out
    ·have hRow7:=HRow.out.behind hk7 hr7
     have hq7:=wt_isW_lt ho7
     have HD:=hide (HV.out ts1.tail w7 (by have:=HPL.out.2;simp at this;omega) hr7)
     have HRow7:=hide hRow7
     clear hRow7 HRow
     go_wp2_with fail
     refine(HD.out).mono ?_;rintro e w8⟨hk8,⟨ho8,rfl⟩|⟨t8,r8,b8,ho8,rfl,hm8,hr8⟩⟩
     ·have HQ:=hide (AnsN.no (c:=0) (o:=(choice lf).matches_ ts) (HRow7.out.kq.to hk8) (by rw[HE.out,(choice lf).rest_eq,ho7,cond_true,ho8]<;>rfl))
      unfold gaveUp noForm
      go_wp2
      exact⟨rfl,HQ.out⟩
     ·have hq8:wt r8<=wt ts1.tail:=(choice lf).row_w ho8
      have hRow8:=HRow7.out.behind hk8 hr8
      have hm8':=HRow7.out.apart hm8
      have hps8:ps.length<=100000000:=by omega
      have hbs8:w.heap.size<=w8.heap.size:=hRow8.kq.size
      have hE8:(choice lf).matches_ ts=((choice lf).rest r8).bind fun l=>if ((acc++[t8])++l.1).length<1\/12<((acc++[t8])++l.1).length then none else some (.mk K.match_ [] (x::((acc++[t8])++l.1)),l.2):=by
       rw[HE.out,(choice lf).rest_eq,ho7,cond_true,ho8,Option.bind_some,Option.bind_assoc]
       congr 1
       funext z
       simp
      have hcs:(0::List.replicate k 6)++[6]=0::List.replicate (k+1) 6:=by rw[cons_append,List.replicate_succ']
      have HE8:=hide hE8
      have HM8:=hide hm8'
      have HR8:=hide hRow8
      have hown8:=hRow8.own
      clear hRow8 hm8 hm8' hE8 HRow7 HE hr7 hr8 ho7 ho8 hk7 hk8
      unfold ptrV at *
      go_wp2_with (at_builtin;refine append_ptr rfl _ _ rfl b8 hown8 hps8 hbs8 rfl rfl ?_)
      intro v9 w9 hown9 hgr9 HLt9
      have hown10:w9.ownsRow w.heap.size tyTreeP 1 v9 (ps++[b8]).length ((ps++[b8]).map ptrV):=by
       rw[length_append,map_append];exact hown9
      have hRow9:=HR8.out.put HM8.out hown10 hgr9 HLt9.out
      rw[hcs]at hRow9
      have hAt:MatchAt rb w ts (wt r8) v9 w9:=⟨k+1,x,acc++[t8],_,r8,hRow9,by simp[HACC.out],rfl,by simp;omega,HE8.out⟩
      have HAt:=hide hAt
      clear hown8 hown9 hown10 hgr9 HLt9 hRow9 HR8 HM8 HE8 hAt hcs
      go_wp2_with fail
      go_roundg (wt r8)
      case rel=>exact HAt
      case measure=>omega
theorem p_atom_step{rb m:Nat}(hX:Below_ rb m)(ts:Toks)(w:World)(hm:wt ts<=m)(h:Rq rb ts w):AtomAt rb ts w:=by
 unfold AtomAt
 have H1:=hide (accept_w (x:=K.open_) bsK_open (by decide) h)
 have HA:=hide (fun(ts:Toks) (w:World) (h:Rq rb ts w)=>accept_w (x:=K.bang_) bsK_bang (by decide) h)
 have HA2:=hide (fun(ts:Toks) (w:World) (h:Rq rb ts w)=>accept_w (x:=K.match_) bsK_match (by decide) h)
 have HL:=hide (fun(w:World) (h:Rq rb ts w)=>p_plain 0 (zero_le _) ts w h)
 have HB:=hide (fun(hlt:wt ts.tail<m) (w:World) (h:Rq rb ts.tail w)=>p_inBrackets (M:=wt ts.tail) (zero_le 1) Enters.expression (fun ts2 w2 h1 h2=>(hX ts2 w2 (by omega) h2).1) ts.tail w (le_refl _) h)
 have HR:=hide (fun(hlt:wt ts.tail<m) (w:World) (h:Rq rb ts.tail w)=>(hX ts.tail w hlt h).2)
 have HM:=hide (fun(hlt:wt ts.tail<m) (w:World) (h:Rq rb ts.tail w)=>p_match hX ts.tail w hlt h)
 have HE:=hide (atom_prog ts)
 have hmf:∀(fn:Fn)(first cap:Array Value)(w:World),(Instr.makeFunc fn first cap).run prog w=.ok (.func fn first cap) w:=fun _ _ _ _=>rfl
 unfold AtomAt at HR
 clear hX h
 go_enter func299,ntmps299
 go_wp2_with fail
 refine(H1.out).mono ?_;rintro e w1⟨hk1,⟨ho1,rfl,hr1⟩|⟨ho1,rfl,hr1⟩⟩
 ·have HC:=hide (HA.out ts w1 hr1)
  go_wp2_with fail
  refine(HC.out).mono ?_;rintro e w2⟨hk2,⟨ho2,rfl,hr2⟩|⟨ho2,rfl,hr2⟩⟩
  ·have HC:=hide (HA2.out ts w2 hr2)
   go_wp2_with fail
   refine(HC.out).mono ?_;rintro e w3⟨hk3,⟨ho3,rfl,hr3⟩|⟨ho3,rfl,hr3⟩⟩
   ·have HD:=hide (HL.out w3 hr3)
    go_wp2_with fail
    refine(HD.out).mono ?_;intro e wz ha
    have HQ:=hide (AnsO.as (o':=(choice lf).atom ts) ((hk1.to hk2).to hk3) (by rw[HE.out,ho1,ho2,ho3]<;>rfl) ha)
    rcases ha.ends with rfl|⟨v,rfl⟩
    ·unfold gaveUp noForm
     clear ha
     go_wp2
     exact⟨rfl,HQ.out⟩
    ·clear ha
     go_wp2
     go_ret
     exact HQ.out
   ·have hlt:=wt_isW_lt ho3
    have HD:=hide (HM.out (by omega) w3 hr3)
    go_wp2_with fail
    refine(HD.out).mono ?_;intro e wz ha
    have HQ:=hide ((fun(z:AnsN rb 0 w3 ((choice lf).matches_ ts.tail) _ _)=>AnsO.as (o':=(choice lf).atom ts) ((hk1.to hk2).to hk3) (by rw[HE.out,ho1,ho2,ho3]<;>rfl) z.there) ha)
    rcases ha.ends with rfl|⟨v,rfl⟩
    ·unfold gaveUp noForm
     clear ha
     go_wp2
     exact⟨rfl,HQ.out⟩
    ·clear ha
     go_wp2
     go_ret
     exact HQ.out
  ·have hlt:=wt_isW_lt ho2
   have HC:=hide (HR.out (by omega) w2 hr2)
   go_wp2_with fail
   refine(HC.out).mono ?_;rintro e w3⟨hk3,⟨ho3,rfl⟩|⟨r3,ho3,rfl,hr3⟩|⟨t3,r3,b3,ho3,rfl,hm3,hr3⟩⟩
   ·have HQ:=hide (AnsO.no (c:=0) (o:=(choice lf).atom ts) ((hk1.to hk2).to hk3) (by rw[HE.out,ho1,ho2,cond_false,cond_true,ho3]<;>rfl))
    unfold gaveUp noForm
    go_wp2
    exact⟨rfl,HQ.out⟩
   ·have HQ:=hide (AnsO.no (c:=0) (o:=(choice lf).atom ts) ((hk1.to hk2).to hk3) (by rw[HE.out,ho1,ho2,cond_false,cond_true,ho3]<;>rfl))
    have HN:=hide (need_nil w3)
    go_wp2_with fail
    refine(HN.out).mono ?_;rintro e w4⟨rfl,rfl⟩
    unfold gaveUp noForm
    go_wp2
    exact⟨rfl,HQ.out⟩
   ·have HQ:=hide (AnsO.as (o':=(choice lf).atom ts) (Kq.refl rb w) (by rw[HE.out,ho1,ho2,cond_false,cond_true,ho3]<;>rfl) (AnsN.there (node1 (o:=some (Tr.mk K.bang_ [] [t3],r3)) KindOf.fetch ((hk1.to hk2).to hk3) (hm3.since (hk1.to hk2)) hr3 rfl)))
    have HN:=hide (need_node b3 w3)
    go_wp2_with fail
    refine(HN.out).mono ?_;rintro e w4⟨rfl,rfl⟩
    have HN2:=hide (New1 w4 b3 12 ⟨#[]⟩)
    unfold ptrV at *
    go_wp2_with fail
    refine(HN2.out).mono ?_;rintro e w5⟨rfl,rfl⟩
    go_wp2
    go_ret
    exact HQ.out
 ·have hlt:=wt_isW_lt ho1
  have HC:=hide (HB.out (by omega) w1 hr1)
  go_wp2_with fail
  refine(HC.out).mono ?_;intro e wz ha
  have HQ:=hide ((fun(z:AnsN rb 0 w1 ((choice lf).inB (choice lf).expr ts.tail) _ _)=>AnsO.as (o':=(choice lf).atom ts) hk1 (by rw[HE.out,ho1]<;>rfl) z.there) ha)
  rcases ha.ends with rfl|⟨v,rfl⟩
  ·unfold gaveUp noForm
   clear ha
   go_wp2
   exact⟨rfl,HQ.out⟩
  ·clear ha
   go_wp2
   go_ret
   exact HQ.out
theorem p_atoms{rb m:Nat}(hX:Below_ rb m)(ts:Toks)(w:World)(hm:wt ts<=m)(h:Rq rb ts w):Calls prog 122 #[.func (.func 299) #[ptrV rb] #[]] w (AnsS rb 0 w ((choice lf).atoms ts)):=
 several_any (choice lf).atoms_eq atom_wt Enters.atom (fun ts w h1 h2=>p_atom_step hX ts w h1 h2) ts w hm h
def AppAt(rb:Nat)(w:World)(l:List Tr)(ps:List Nat)(v20:Value)(f0:Tr)(r:Toks)(i:Nat)(v:Value)(wr:World):Prop:=
 ∃b t,v=ptrV b/\i<=ps.length/\Mem (From w) wr 0 t b/\Rq rb r wr/\Kq rb w wr/\wr.ownsRow 0 tyTreeP 1 v20 ps.length (ps.map ptrV)/\Mem.Mems (From w) wr (List.replicate ps.length 0) l ps/\G.apps (l.drop i) t=G.apps l f0
theorem mems_at{A:Nat->Prop}{w:World}:∀{cs:List Nat}{l:List Tr}{ps:List Nat}{i:Nat},Mem.Mems A w cs l ps->i<ps.length->∃t b,l[i]?=some t/\ps[i]?=some b/\∃c,cs[i]?=some c/\Mem A w c t b:=by
 intro cs
 induction cs with
 |nil=>intro l ps i h hi;obtain⟨rfl,rfl⟩:=h.unnil;simp at hi
 |cons c cs ih=>
  intro l ps i h hi
  obtain⟨t0,r0,b0,br,rfl,rfl,h,hr⟩:=h.uncons
  cases i with
  |zero=>exact⟨_,_,rfl,rfl,c,rfl,h⟩
  |succ i=>
   obtain⟨t,b,h1,h2,c2,h3,h4⟩:=ih hr (by simpa using hi)
   exact⟨t,b,by simpa using h1,by simpa using h2,c2,by simpa using h3,h4⟩
theorem p_application{rb m:Nat}(hX:Below_ rb m)(ts:Toks)(w:World)(hm:wt ts<=m)(h:Rq rb ts w):Calls prog 290 #[ptrV rb] w (AnsN rb 0 w ((choice lf).app ts)):=by
 have HP:=hide (peek_any h)
 have HI:=hide (IsConstructor_tok h.head w)
 have hwt:=h.wt_le
 have hmf:∀(fn:Fn)(first cap:Array Value)(w:World),(Instr.makeFunc fn first cap).run prog w=.ok (.func fn first cap) w:=fun _ _ _ _=>rfl
 cases hk:(tokKind (ts.headD [])==99)
 ·rw[hk]at HI
  have HC:=hide (p_atom_step hX ts w hm h)
  unfold AtomAt at HC
  have HS:=hide (fun(ts:Toks) (w:World) (hm:wt ts<=m) (h:Rq rb ts w)=>p_atoms hX ts w hm h)
  have hT:(choice lf).app ts=((choice lf).need ((choice lf).atom ts)).bind fun a=>((choice lf).atoms a.2).bind fun l=>some (G.apps l.1 a.1,l.2):=by rw[app_prog];unfold G.kindOf;rw[hk]<;>rfl
  have HT:=hide hT
  clear hX h hT hk
  generalize bs (ts.headD [])=bx at *
  go_enter func290,ntmps290
  go_wp2_with fail
  refine(HP.out).mono ?_;rintro e w1⟨rfl,hw⟩
  rw[hw];clear hw w1
  go_wp2_with fail
  refine(HI.out).mono ?_;rintro e w1⟨rfl,hw⟩
  rw[hw];clear hw w1
  go_wp2_with fail
  refine(HC.out).mono ?_;rintro e w2⟨hk2,⟨ho2,rfl⟩|⟨r2,ho2,rfl,hr2⟩|⟨t2,r2,b2,ho2,rfl,hm2,hr2⟩⟩
  ·have HQ:=hide (AnsN.no (c:=0) (o:=(choice lf).app ts) hk2 (by rw[HT.out,ho2]<;>rfl))
   unfold gaveUp noForm
   go_wp2
   exact⟨rfl,HQ.out⟩
  ·have HQ:=hide (AnsN.no (c:=0) (o:=(choice lf).app ts) hk2 (by rw[HT.out,ho2]<;>rfl))
   have HN:=hide (need_nil w2)
   go_wp2_with fail
   refine(HN.out).mono ?_;rintro e w3⟨rfl,rfl⟩
   unfold gaveUp noForm
   go_wp2
   exact⟨rfl,HQ.out⟩
  ·have hE:(choice lf).app ts=((choice lf).atoms r2).bind fun l=>some (G.apps l.1 t2,l.2):=by rw[HT.out,ho2]<;>rfl
   have hlt:wt r2<wt ts:=atom_wt _ _ _ ho2
   have HN:=hide (need_node b2 w2)
   have HE:=hide hE
   clear hE HT ho2
   go_wp2_with fail
   refine(HN.out).mono ?_;rintro e w3⟨rfl,rfl⟩
   have HC2:=hide (HS.out r2 w3 (by omega) hr2)
   go_wp2_with fail
   refine(HC2.out).mono ?_;rintro e w4⟨hk4,⟨ho4,rfl⟩|⟨l4,r4,v4,ps4,ho4,rfl,hv4,hm4,hr4⟩⟩
   ·have HQ:=hide (AnsN.no (c:=0) (o:=(choice lf).app ts) (hk2.to hk4) (by rw[HE.out,ho4]<;>rfl))
    unfold gaveUp noForm
    go_wp2
    exact⟨rfl,HQ.out⟩
   ·have hfin:(choice lf).app ts=some (G.apps l4 t2,r4):=by rw[HE.out,ho4]<;>rfl
    have hq4:=(choice lf).atoms_w ho4
    have hpl:=hm4.length.2
    have hps:ps4.length<=16080000:=by
     have h1:mus l4+9*l4.length+wt r4<=wt r2:=hq4
     omega
    have hAt:AppAt rb w l4 ps4 v4 t2 r4 0 (ptrV b2) w4:=⟨b2,t2,rfl,zero_le _,hm2.kq hr2 hk4,hr4,hk2.to hk4,ownsRow_base hv4 (zero_le _),hm4.since hk2,rfl⟩
    have HAt:=hide hAt
    have HFIN:=hide hfin
    have HPL:=hide hpl
    rcases ownsRow_forms hv4 with⟨rfl,hn0⟩|⟨g,cap,rfl⟩
    ·have HQ:=hide (show AnsN rb 0 w ((choice lf).app ts) (.returned (ptrV b2)) w4 by
      obtain⟨b,t,h1,h2,h3,h4,h5,h6,h7,h8⟩:=hAt
      have hb:b2=b:=by simpa [ptrV]using h1
      subst hb
      have hl0:l4=[]:=List.length_eq_zero_iff.1 (by omega)
      subst hl0
      have:t=t2:=h8
      subst this
      exact AnsN.yes h5 hfin h3 h4)
     clear HAt HFIN HPL hAt hfin hpl hq4 hv4 hm4 hm2 hr2 hr4 HC HC2 HS HE
     unfold ptrV at *
     go_wp2_with fail
     refine wp_loop_rounds 1 ?_
     rw[rounds_succ]
     go_wp2
     go_ret
     exact HQ.out
    ·clear hAt hfin hpl hq4 hv4 hm4 hm2 hr2 hr4 HC HC2 HS HE HN HP HI hk2 hk4 ho4
     generalize hpn:ps4.length=pn at *
     go_wp2_with fail
     go_loopg [3,22] pn (fun gk v3 v22 wr=>∃i,v22=.int .i64 (i:Nat)/\i+gk=pn/\Hid (AppAt rb w l4 ps4 (.slice (some ⟨g,0,none⟩) pn cap) t2 r4 i v3 wr))
     case atStart=>exact⟨0,rfl,by omega,HAt⟩
     case round=>
      clear HAt
      obtain⟨i,rfl,hi,HAT⟩:=hrel
      obtain⟨b,t,rfl,h2,h3,h4,h5,h6,h7,h8⟩:=HAT.out
      clear HAT
      by_cases hlt2:i<pn
      ·obtain⟨ta,ba,e1,e2,c,e3,e4⟩:=mems_at h7 (i:=i) (by omega)
       have hc0:c=0:=by
        have:=List.mem_replicate.1 (List.mem_of_getElem? e3);exact this.2
       subst hc0
       have hcell:wr.cell? ⟨g,i,none⟩=some (.pointer (some ⟨ba,0,none⟩)):=by
        rw[hpn]at h6
        have:=h6.cellAt i (by omega)
        rw[this,List.getElem?_map,e2];rfl
       have hgl:=(h6.lt g rfl).2
       have hdrop:l4.drop i=ta::l4.drop (i+1):=by
        have hil:i<l4.length:=by have:=HPL.out;omega
        rw[List.drop_eq_getElem_cons hil]
        congr 1
        rw[List.getElem?_eq_getElem hil]at e1;exact Option.some.inj e1
       have hnode:=node2 (o:=some (Tr.mk K.app_ [] [t,ta],r4)) KindOf.app h5 h3 e4 h4 rfl
       have HN2:=hide (New2 wr b ba 13 ⟨#[]⟩)
       have hnext:AppAt rb w l4 ps4 (.slice (some ⟨g,0,none⟩) pn cap) t2 r4 (i+1) (ptrV (wr.heap.size+1)) (w2P wr b ba 13 ⟨#[]⟩):=by
        obtain⟨_,⟨hno,_⟩|⟨t9,r9,b9,ho9,he9,hm9,hr9⟩⟩:=hnode
        ·cases hno
        ·have hz:=Option.some.inj ho9
         have hz1:t9=.mk K.app_ [] [t,ta]:=(congrArg Prod.fst hz).symm
         have hz2:r9=r4:=(congrArg Prod.snd hz).symm
         have hz3:wr.heap.size+1=b9:=by simpa [ptrV]using he9
         subst hz1
         subst hz2
         subst hz3
         refine⟨_,_,rfl,by omega,hm9,hr9,(h5.alloc _).alloc _,(h6.alloc _).alloc _,(h7.alloc _).alloc _,?_⟩
         rw[<- h8,hdrop,G.apps]
       have HNX:=hide hnext
       have hlt3:(i:Int)<(pn:Int):=by omega
       have hpn2:pn<=16080000:=hps
       clear h3 h4 h5 h6 h7 h8 e1 e2 e3 e4 hnode hnext hdrop
       unfold ptrV at *
       go_wp2_with fail
       refine(HN2.out).mono ?_;rintro e w9⟨rfl,rfl⟩
       go_wp2_with fail
       go_roundg (pn-(i+1))
       case rel=>exact⟨i+1,by simp,by omega,HNX⟩
       case measure=>omega
      ·have hQ:AnsN rb 0 w ((choice lf).app ts) (.returned (ptrV b)) wr:=by
        have hl0:l4.drop i=[]:=List.drop_of_length_le (by have:=HPL.out;omega)
        rw[hl0]at h8
        have:t=G.apps l4 t2:=h8
        subst this
        exact AnsN.yes h5 HFIN.out h3 h4
       have HQ:=hide hQ
       have hlt3:¬(i:Int)<(pn:Int):=by omega
       clear h3 h4 h5 h6 h7 h8 hQ
       unfold ptrV at *
       go_wp2
       go_ret
       exact HQ.out
 ·obtain⟨t,r,rfl⟩:=kind_cons (ts:=ts) (k:=99) (by decide) hk
  have hlt:=wt_kind_lt (ts:=t::r) (k:=99) (by decide) hk
  have HT:=hide (take_one h)
  have HS:=hide (fun(w1:World) (h1:Rq rb r w1)=>p_atoms hX r w1 (by have:(t::r).tail=r:=rfl;rw[this]at hlt;omega) h1)
  have hE:(choice lf).app (t::r)=((choice lf).atoms r).bind fun l=>some (.mk K.con_ t l.1,l.2):=by rw[app_prog];unfold G.kindOf;rw[hk]<;>rfl
  have HE:=hide hE
  rw[hk]at HI
  rw[show (t::r).headD []=t from rfl]at HP HI
  clear hX h hk hE hlt
  go_enter func290,ntmps290
  go_wp2_with fail
  refine(HP.out).mono ?_;rintro e w1⟨rfl,rfl⟩
  go_wp2_with fail
  refine(HI.out).mono ?_;rintro e w1⟨rfl,rfl⟩
  go_wp2_with fail
  refine(HT.out).mono ?_;rintro e w1⟨rfl,hT⟩
  have hk1:=hT.out.1
  have HC:=hide (HS.out w1 hT.out.2)
  go_wp2_with fail
  refine(HC.out).mono ?_;rintro e w2⟨hk2,⟨ho2,rfl⟩|⟨l2,r2,v2,ps2,ho2,rfl,hv2,hm2,hr2⟩⟩
  ·have HQ:=hide (AnsN.no (c:=0) (o:=(choice lf).app (t::r)) (hk1.to hk2) (by rw[HE.out,ho2]<;>rfl))
   unfold gaveUp noForm
   go_wp2
   exact⟨rfl,HQ.out⟩
  ·have HQ:=hide (nodeRow (o:=(choice lf).app (t::r)) (KindOf.con 0 (by decide) t ps2.length) hk1 hk2 hv2 hm2 hr2 (by rw[HE.out,ho2]<;>rfl))
   have HN:=hide (NewRow hv2 14 (bs t))
   clear hv2 hm2
   go_wp2_with fail
   refine(HN.out).mono ?_;rintro e w3⟨rfl,rfl⟩
   go_wp2
   go_ret
   exact HQ.out
end Go.Proofs.YtbkiipiocpnnnaaGreatDoor
