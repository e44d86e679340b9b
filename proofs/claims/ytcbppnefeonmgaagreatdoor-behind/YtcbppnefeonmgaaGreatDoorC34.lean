import Derived.Test.YtcbppnefeonmgaaGreatDoorC33
import Derived.Test.YtcbppnefeonmgaaGreatDoorC32
set_option linter.all false
set_option maxHeartbeats 40000000
set_option maxRecDepth 100000
open Go.Proofs.Tryz
open Classical (choice)
open Or (inl inr)
open Nat (le_refl le_trans zero_le lt_succ_self)
open List (append_nil length_append mem_cons_self mem_cons_of_mem mem_append cons_append map_append)
namespace Go.Proofs.YtcbppnefeonmgaaGreatDoor
open Go.RowKit
section
variable {ar:Nm->Nat}{ad:List Nat}{rk:Nat->Nat}{p:PS}{tb pb:Nat}{dv bv:Value}{w w':World}{nb:Nat}{txt:Nm}
theorem declT_noGiven{ρ:Env}{nd:Nd}{σ:TS}{t:Nat}{s:TS}(h:declT ρ nd σ=some (t,s)):s.given=[]:=by
 obtain⟨k,txt,ps⟩:=nd
 unfold declT at h
 dsimp only at h
 split at h
 ·split at h
  ·split at h
   ·cases h;rfl
   ·cases h
  ·cases h
 ·cases h
theorem PsM.look(h:PsM ar ad rk p tb pb dv bv w){ρ:Env}(hk:Kn (·=tb) w w')(ht:Tab ad tb ρ w'):PsM ar ad rk ⟨ρ,p.sto,p.binds⟩ tb pb dv bv w':=by
 have hs:StoM ar ad (fun _=>False) rk p.sto w':=h.sto.kept (fun k hk2=>by
  obtain⟨c,f,hc⟩:=h.sto.isT hk2
  exact hk.block k (lt_of_heap hc) (h.not_tb hc)) (fun k c f _ hc=>hk.block k (lt_of_heap hc) (h.not_tb hc))
 have:=h.turn (l:=[]) (hk.wide fun k _ hd=>inr hd) (by rw[append_nil];exact hs) h.giv (by rw[append_nil];exact ht)
 rw[append_nil]at this
 exact this
theorem dc_facts{k:Nat}{ps:List Nd}(h:PsM ar ad rk p tb pb dv bv w)(hm:NMem w (.mk k txt ps) nb)(hx:okK (0,txt))(hnb:p.binds.length<=1000000)(_hk:k<100)
  (hL:Calls prog 43 #[.map (some tb),ptrV nb] w fun e u=>e=.returned (.int .i64 (lkErr (lkD p.env (.mk k txt ps) ⟨false,false⟩)))/\Tab ad tb p.env u/\Kn (·=tb) w u)
  (hT:lkErr (lkD p.env (.mk k txt ps) ⟨false,false⟩)=0->k≠18->∀u,Kn (·=tb) w u->StoM ar ad (fun _=>False) rk p.sto u->Tab ad tb p.env u->Calls prog 45 #[.map (some tb),ptrV nb] u (TdA ar ad (fun _=>False) p.env tb (declT p.env (.mk k txt ps) p.sto) u))
  (hD:lkErr (lkD p.env (.mk k txt ps) ⟨false,false⟩)=0->k=18->∀u,Kn (·=tb) w u->Tab ad tb p.env u->Calls prog 44 #[.map (some tb),ptrV nb] u fun e u2=>e=.returned (.tuple #[])/\Tab ad tb (declareType p.env txt ps) u2/\Kn (·=tb) u u2)
  {Q:Ending->World->Prop} (hQ:∀e w',DcA ar ad tb pb dv bv (declare p (.mk k txt ps)) w e w'->Q e w') :
  Calls prog 43 #[.map (some tb),ptrV nb] w fun e u1=>∃er:Nat,e=.returned (.int .i64 er)/\(er≠0->Q (.returned (.int .i64 er)) u1)/\(er=0->(u1.cell? ⟨pb,2,none⟩=some (.map (some tb))/\u1.cell? ⟨nb,0,none⟩=some (.int .i64 k)) /\
   (k=18->Calls prog 44 #[.map (some tb),ptrV nb] u1 fun e u2=>e=.returned (.tuple #[])/\Q (.returned (.int .i64 0)) u2) /\
   (k≠18->Calls prog 45 #[.map (some tb),ptrV nb] u1 fun e u2=>∃pp ok,e=.returned (.tuple #[.pointer pp,.bool ok])/\u2.cell? ⟨nb,0,none⟩=some (.int .i64 k)/\(ok=false->Q (.returned (.int .i64 6)) u2)/\(ok=true->(k=17->Q (.returned (.int .i64 0)) u2)/\(k≠17->∃bt bn,pp=some ⟨bt,0,none⟩ /\
    ∀u,Kn (fun _=>False) u2 u->(u.cell? ⟨pb,2,none⟩=some (.map (some tb))/\u.cell? ⟨nb,1,none⟩=some (.string (bs txt)))/\∃u3,(Instr.mapUpdate tyTab (.map (some tb)) (.agg #[.int .i64 0,.string (bs txt)]) (.agg #[ptrV bt,.string ⟨#[]⟩,.slice none 0 0,.slice none 0 0,.int .i64 0,.int .i64 0])).run prog u=.ok () u3/\(u3.cell? ⟨pb,2,none⟩=some (.map (some tb))/\u3.cell? ⟨nb,1,none⟩=some (.string (bs txt)))/\u3.cell? ⟨pb,1,none⟩=some bv /\
     ∃xs:List Value,u3.drew.ownsRow 0 tyBg 2 bv bn xs/\bn<=100000000/\∀v' w2,w2.ownsRow 0 tyBg 2 v' (bn+1) (xs++[.string (bs txt),ptrV bt])->(u3.drew.alloc (.cells #[.string (bs txt),ptrV bt] tyBg)).grownBy w2 bv.ownBlock->(∀g,v'.ownBlock=some g->bv.ownBlock=some g\/u3.heap.size<g) ->
      w2.frozen? ⟨pb,1,none⟩=false/\w2.cell? ⟨pb,1,none⟩=some bv/\Q (.returned (.int .i64 0)) (w2.setCell ⟨pb,1,none⟩ v'))))):=by
 obtain⟨pv,bl,n1,_,_⟩:=hm.inv
 have hnd:∀{u:World},Kn (fun k=>k∈ad\/k=tb) w u->u.heap[nb]?=some (.cells #[.int .i64 k,.string (bs txt),pv] tyTree (0,0)):=fun hu=>(hu.block nb (lt_of_heap n1) fun hd=>by
  rcases hd with hd|hd
  ·exact h.not_ad n1 (by decide) hd
  ·exact h.not_tb n1 hd).trans n1
 refine hL.mono ?_
 rintro e u1⟨rfl,ht1,hk1⟩
 have hk1':Kn (fun k=>k∈ad\/k=tb) w u1:=hk1.wide fun k _ hd=>inr hd
 have hp1:=h.look hk1 ht1
 have hp1:PsM ar ad rk p tb pb dv bv u1:=hp1
 generalize her:lkErr (lkD p.env (.mk k txt ps) ⟨false,false⟩)=er at *
 have hde:declare p (.mk k txt ps)=if er≠0 then(er,p)else if k=18 then(0,{ p with env:=declareType p.env txt ps })else match declT p.env (.mk k txt ps) p.sto with
   |none=>(6,p)
   |some (t,s)=>if k=17 then(0,{ p with sto:=s })else(0,⟨((0,txt),Mg.var t)::p.env,s,p.binds++[(txt,t)]⟩):=by
  rw[<- her];rfl
 refine⟨er,rfl,fun hne=>hQ _ _ ?_,fun h0=>⟨⟨by simp[World.cell?,hp1.prog],by simp[World.cell?,hnd hk1']⟩,fun h18=>?_,fun h18=>?_⟩⟩
 ·rw[hde,if_pos hne]
  exact⟨Kn.dmp hk1',rfl,fun e=>absurd e hne⟩
 ·refine(hD h0 h18 u1 hk1 ht1).mono ?_
  rintro e u2⟨rfl,r1,r2⟩
  refine⟨rfl,hQ _ _ ?_⟩
  rw[hde,if_neg (by simpa using h0),if_pos h18]
  refine⟨Kn.dmp ((hk1.trans r2).wide fun k _ hd=>inr hd),rfl,fun _=>⟨[],rk,bv,?_,by simp,fun b hb=>inl hb⟩⟩
  rw[append_nil]
  exact hp1.look r2 r1
 ·refine(hT h0 h18 u1 hk1 hp1.sto ht1).mono ?_
  rintro e u2⟨hk2,ha⟩
  have hk2':Kn (fun k=>k∈ad\/k=tb) w u2:=hk1'.trans hk2
  rcases ha with⟨a1,pp,rfl⟩|⟨t,s,l,rk',a1,rfl,a3,a4,a5,a6⟩
  ·refine⟨pp,false,rfl,by simp[World.cell?,hnd hk2'],fun _=>hQ _ _ ?_,fun e=>by cases e⟩
   rw[hde,if_neg (by simpa using h0),if_neg h18,a1]
   exact⟨Kn.dmp hk2',rfl,fun e=>by cases e⟩
  ·have hp2:=hp1.turn hk2 a4 (declT_noGiven a1) a5
   have hnew:∀b∈l,w.heap.size<=b:=fun b hb=>le_trans hk1.size (a6 b hb)
   refine⟨_,true,rfl,by simp[World.cell?,hnd hk2'],(fun e=>by cases e),fun _=>⟨fun h17=>hQ _ _ ?_,fun h17=>?_⟩⟩
   ·rw[hde,if_neg (by simpa using h0),if_neg h18,a1]
    simp only[if_pos h17]
    exact⟨Kn.dmp hk2',rfl,fun _=>⟨l,rk',bv,hp2,hnew,fun b hb=>inl hb⟩⟩
   ·refine⟨adA (ad++l) t,p.binds.length,rfl,fun u hu=>?_⟩
    have hb:=bind_facts (txt:=txt) (nb:=nb) hp2 a3 hx hnb ⟨_,_,_,hnd hk2',rfl,by decide,by decide⟩ u hu
    obtain⟨q1,u3,q2,q3,q4,xs,q5,q6,q7⟩:=hb
    refine⟨q1,u3,q2,q3,q4,xs,q5,q6,fun v' w2 z1 z2 z3=>?_⟩
    obtain⟨y1,y2,y3,y4,y5⟩:=q7 v' w2 z1 z2 z3
    refine⟨y1,y2,hQ _ _ ?_⟩
    rw[hde,if_neg (by simpa using h0),if_neg h18,a1]
    simp only[if_neg h17]
    refine⟨(Kn.dmp hk2').trans' y4 fun k hk hd=>?_,rfl,fun _=>⟨l,rk',v',y3,hnew,fun b hb=>?_⟩⟩
    ·rcases hd with hd|hd|hd|hd
     ·rcases mem_append.1 hd with hd|hd
      ·exact inl hd
      ·have:=hnew k hd;omega
     ·exact inr (inl hd)
     ·exact inr (inr (inl hd))
     ·exact inr (inr (inr hd))
    ·exact(y5 b hb).imp id (le_trans hk2'.size)
theorem declare_of{k:Nat}{ps:List Nd}(h:PsM ar ad rk p tb pb dv bv w)(hm:NMem w (.mk k txt ps) nb)(hx:okK (0,txt))(hnb:p.binds.length<=1000000)(hk:k<100)
  (hL:Calls prog 43 #[.map (some tb),ptrV nb] w fun e u=>e=.returned (.int .i64 (lkErr (lkD p.env (.mk k txt ps) ⟨false,false⟩)))/\Tab ad tb p.env u/\Kn (·=tb) w u)
  (hT:lkErr (lkD p.env (.mk k txt ps) ⟨false,false⟩)=0->k≠18->∀u,Kn (·=tb) w u->StoM ar ad (fun _=>False) rk p.sto u->Tab ad tb p.env u->Calls prog 45 #[.map (some tb),ptrV nb] u (TdA ar ad (fun _=>False) p.env tb (declT p.env (.mk k txt ps) p.sto) u))
  (hD:lkErr (lkD p.env (.mk k txt ps) ⟨false,false⟩)=0->k=18->∀u,Kn (·=tb) w u->Tab ad tb p.env u->Calls prog 44 #[.map (some tb),ptrV nb] u fun e u2=>e=.returned (.tuple #[])/\Tab ad tb (declareType p.env txt ps) u2/\Kn (·=tb) u u2) :
  Calls prog 24 #[ptrV pb,ptrV nb] w (DcA ar ad tb pb dv bv (declare p (.mk k txt ps)) w):=by
 have hf:=dc_facts h hm hx hnb hk hL hT hD (Q:=DcA ar ad tb pb dv bv (declare p (.mk k txt ps)) w) (fun _ _ ha=>ha)
 have c2:w.cell? ⟨pb,2,none⟩=some (.map (some tb)):=by simp[World.cell?,h.prog]
 obtain⟨av,kv,cv,hbv⟩:∃a k c,bv=.slice a k c:=by
  rcases ownsRow_forms h.row with⟨h,_⟩|⟨g,cap,h⟩
  ·exact⟨_,_,_,h⟩
  ·exact⟨_,_,_,h⟩
 have HF:=hide hf
 have hK:=fun(s:ByteArray) (u:World)=>key0_any s u
 have HK:=hide hK
 clear hf h hm hx hnb hL hT hD hK
 generalize DcA ar ad tb pb dv bv (declare p (.mk k txt ps)) w=Q at *
 subst hbv
 unfold ptrV at *
 generalize bs txt=tx at *
 go_enter func24,ntmps24
 go_wp2_with fail
 refine(HF.out).mono ?_;rintro e u1⟨er,rfl,hne,h0⟩
 have HNE:=hide hne
 have H0:=hide h0
 clear hne h0 HF c2
 by_cases he:er=0
 ·subst he
  have hz:=H0.out rfl
  clear H0 HNE
  obtain⟨⟨c2,ck⟩,hd,ht⟩:=hz
  have HD:=hide hd
  have HT:=hide ht
  clear hd ht
  by_cases h18:k=18
  ·subst h18
   have HD1:=hide (HD.out rfl)
   clear HD HT
   go_wp2_with fail
   refine(HD1.out).mono ?_;rintro e u2⟨rfl,hq⟩
   have HG:=hide hq
   clear hq HD1
   go_wp2
   exact HG.out
  ·have HT1:=hide (HT.out h18)
   have hk18:¬(k:Int)=18:=by omega
   clear HD HT
   go_wp2_with fail
   refine(HT1.out).mono ?_;rintro e u2⟨pp,ok,rfl,ck2,hno,hyes⟩
   have HNO:=hide hno
   have HYES:=hide hyes
   clear hno hyes HT1
   cases ok with
   |false=>
    have HG:=hide (HNO.out rfl)
    clear HNO HYES
    go_wp2
    exact HG.out
   |true=>
    have hz:=HYES.out rfl
    clear HNO HYES
    obtain⟨hd,hb⟩:=hz
    by_cases h17:k=17
    ·have HG:=hide (hd h17)
     have hk17:(k:Int)=17:=by omega
     clear hd hb
     go_wp2
     exact HG.out
    ·have hz:=hb h17
     have hk17:¬(k:Int)=17:=by omega
     clear hd hb
     obtain⟨bt,bn,rfl,hu⟩:=hz
     have HX:=hide hu
     have hal:∀u o u',Kn (fun _=>False) u2 u->u'=World.alloc u o->Kn (fun _=>False) u2 u':=fun u o u' hu e=>by
      subst e;exact hu.alloc o
     have HV:=hide (Kn.drewF u2)
     have HAL:=hide hal
     clear hu hal
     generalize Kn (fun _=>False) u2=V at *
     have hz:=HX.out _ HV.out
     obtain⟨⟨c1a,c2a⟩,_⟩:=hz
     go_wp2_with fail
     go_region_held3 (fun w'=>w'.cell? ⟨pb,2,none⟩=some (.map (some tb))/\w'.cell? ⟨nb,1,none⟩=some (.string tx)) (first|with_reducible exact⟨c1a,c2a⟩|with_reducible exact⟨m1a,m2a⟩)
      (first|(go_at_call 38;refine(HK.out _ _).mono ?_;rintro e u⟨rfl,hu⟩;have HV:=hide (HAL.out _ _ _ HV.out hu);have hz:=HX.out _ HV.out;obtain⟨⟨c1a,c2a⟩,u9,hup,⟨m1a,m2a⟩,c4,xs,hown,hbn,hfin⟩:=hz;have HFIN:=hide hfin;clear hu hfin))
     all_goals
      clear HX HV HAL
      have c1b:(u9.alloc (.cells #[.string tx,.pointer (some ⟨bt,0,none⟩)] 49)).cell? ⟨pb,1,none⟩=some (.slice av kv cv):=cell_alloc_old c4
      have ctb:(u9.alloc (.cells #[.string tx,.pointer (some ⟨bt,0,none⟩)] 49)).cell? ⟨nb,1,none⟩=some (.string tx):=cell_alloc_old m2a
      go_wp2_with fail
      go_region_law (refine step_append_bg rfl _ _ rfl tx bt hown hbn (zero_le _) (by simp[Act.eval,Act.put]) (by simp[Act.eval,Act.put]) ?_;intro v' w2 ho hg HL;obtain⟨hfr,hc1,hq⟩:=HFIN.out v' w2 ho hg HL.out;have HG:=hide hq;obtain⟨g',cap',rfl⟩:∃g' cap',v'=.slice (some ⟨g',0,none⟩) (bn+1) cap':=(by rcases ownsRow_forms ho with⟨_,hn0⟩|h;(focus (simp at hn0));exact h);clear hq ho hg HL)
      all_goals
       go_wp2
       exact HG.out
 ·have HG:=hide (HNE.out he)
  have he3:¬(er:Int)=0:=by omega
  clear H0 HNE
  go_wp2
  exact HG.out
end
section
variable {ad:List Nat}{rk:Nat->Nat}{p:PS}{tb pb:Nat}{dv bv:Value}{w w':World}{nb:Nat}
theorem declare_any{a b:List Nd}{nd:Nd}(hf:∀d∈a++nd::b,DeclFine d)(hE:EsOk (arOf (a++nd::b)) p.env a)(h:PsM (arOf (a++nd::b)) ad rk p tb pb dv bv w)(hm:NMem w nd nb)(hnb:p.binds.length<=1000000) :
  Calls prog 24 #[ptrV pb,ptrV nb] w (DcA (arOf (a++nd::b)) ad tb pb dv bv (declare p nd) w):=by
 have hd:=hf nd (mem_append.2 (inr mem_cons_self))
 have ha:=arOf_ok hf
 generalize arOf (a++nd::b)=ar at *
 obtain⟨k,txt,ps⟩:=nd
 have hok:DeclOk k txt ps:=hd.ok
 have hk4:=hok.kind
 refine declare_of h hm ⟨show 0<3 by decide,hok.text⟩ hnb (by omega) (lookNames_any hok h.tab hm) (fun he hk u hu hs ht=>?_) (fun he hk u hu ht=>?_)
 ·obtain⟨c,r,hps,hx,hht,hsz⟩:=hd.val hk
  have hps:ps=c::r:=hps
  subst hps
  have hfn:=lkErr_zero he
  have hmu:NMem u (.mk k txt (c::r)) nb:=NMem.kept (fun q cc f hc=>hu.block q (lt_of_heap hc) (h.not_tb hc)) (fun q cc f hc=>hu.block q (lt_of_heap hc) (h.not_tb hc)) _ nb hm
  refine typeDecl_any ha (m:=c.ht+1) (m2:=c.ht+1) (by omega) ?_ (lt_succ_self _) (lt_succ_self _) (hx _) hE.b hht hsz ⟨show 0<3 by decide,hok.text⟩ hmu hs ht (fun _ hf=>hf.elim) h.giv
  by_cases h7:k=7
  ·subst h7
   rw[lkD_rec]at hfn
   rw[if_pos rfl]
   exact(lkE_fine _ _ _ _ hfn).2
  ·rw[lkD_val hk h7]at hfn
   rw[if_neg h7]
   exact(lkE_fine _ _ _ _ hfn).2
 ·subst hk
  obtain⟨t1,t2,t3⟩:=hok.typ rfl
  have hmu:NMem u (.mk 18 txt ps) nb:=NMem.kept (fun q cc f hc=>hu.block q (lt_of_heap hc) (h.not_tb hc)) (fun q cc f hc=>hu.block q (lt_of_heap hc) (h.not_tb hc)) _ nb hm
  have hself:∀x:Nd,x∈x.all:=fun x=>by cases x;rw[Nd.all_eq];exact mem_cons_self
  exact declareType_any ht hmu t2 t3 hok.text fun q hq=>t1 q (by rw[Nd.all_eq];exact mem_cons_of_mem _ (alls_mem hq q (hself q)))
end
theorem p_inBrackets{rb c fk M:Nat}(hc:c<=1){fr:Toks->Option (Tr×Toks)}(HE:Enters fk)(HK:∀ts w,wt ts<=M->Rq rb ts w->Calls prog fk #[ptrV rb] w (AnsN rb c w (fr ts)))(ts:Toks)(w:World)(hM:wt ts<=M)(h:Rq rb ts w) :
  Calls prog 233 #[ptrV rb,.func (.func fk) #[ptrV rb] #[]] w (AnsN rb c w ((choice lf).inB fr ts)):=by
 have hE:=fun(args:Array Value) (w:World)=>HE args w
 have H1:=hide (accept_w (x:=K.shut_) bsK_shut (by decide) h)
 have HX:=hide (fun(ts:Toks) (w:World) (h:Rq rb ts w)=>expect_w (x:=K.shut_) bsK_shut (by decide) h)
 have HR:=hide (fun(w:World) (h:Rq rb ts w)=>HK ts w hM h)
 clear HK h HE
 go_enter func233,ntmps233
 go_wp2_with fail
 refine(H1.out).mono ?_;rintro e w1⟨hk1,⟨ho1,rfl,hr1⟩|⟨ho1,rfl,hr1⟩⟩
 ·have HC:=hide (HR.out w1 hr1)
  go_wp2_with fail
  refine(HC.out).mono ?_;rintro e w2⟨hk2,⟨ho2,rfl⟩|⟨t2,r2,b2,ho2,rfl,hm2,hr2⟩⟩
  ·have HQ:=hide (AnsN.no (c:=c) (o:=(choice lf).inB fr ts) (hk1.to hk2) (by unfold LFam.inB;rw[ho1,cond_false,ho2]<;>rfl))
   unfold gaveUp noForm
   go_wp2
   exact⟨rfl,HQ.out⟩
  ·have HD:=hide (HX.out r2 w2 hr2)
   go_wp2_with fail
   refine(HD.out).mono ?_;rintro e w3⟨hk3,⟨ho3,rfl⟩|⟨r3,ho3,rfl,hr3⟩⟩
   ·have HQ:=hide (AnsN.no (c:=c) (o:=(choice lf).inB fr ts) ((hk1.to hk2).to hk3) (by unfold LFam.inB;rw[ho1,cond_false,ho2,Option.bind_some,ho3]<;>rfl))
    unfold gaveUp noForm
    go_wp2
    exact⟨rfl,HQ.out⟩
   ·have HQ:=hide (AnsN.yes (c:=c) (o:=(choice lf).inB fr ts) ((hk1.to hk2).to hk3) (by unfold LFam.inB;rw[ho1,cond_false,ho2,Option.bind_some,ho3]<;>rfl) ((hm2.since hk1).kq hr2 hk3) hr3)
    unfold ptrV at *
    go_wp2
    go_ret
    exact HQ.out
 ·have HQ:=hide (AnsN.yes (c:=c) (o:=(choice lf).inB fr ts) (hk1.alloc (.cells #[.int .i64 2,.string (bs K.unit_),.slice none 0 0] tyTree)) (by unfold LFam.inB;rw[ho1]<;>rfl) (Mem.leaf (A:=From w) (KindOf.unit c hc) w1) (hr1.alloc _))
  have HN:=hide (New_any 2 (bs K.unit_) none 0 0 w1)
  rw[bsK_unit]at HQ HN
  go_wp2_with fail
  refine(HN.out).mono ?_;rintro e w2⟨rfl,rfl⟩
  go_wp2
  go_ret
  exact HQ.out
def PatternAt(rb:Nat)(ts:Toks)(w:World):Prop:=Calls prog 240 #[ptrV rb] w (AnsN rb 1 w ((choice lf).pattern ts))
theorem Enters.pattern:Enters 240:=enters func240 (by kernel_rfl) rfl
theorem Enters.partPattern:Enters 242:=enters func242 (by kernel_rfl) rfl
theorem Enters.expression:Enters 67:=enters func67 (by kernel_rfl) rfl
theorem Enters.atom:Enters 223:=enters func223 (by kernel_rfl) rfl
theorem Enters.product:Enters 195:=enters func195 (by kernel_rfl) rfl
theorem Enters.application:Enters 208:=enters func208 (by kernel_rfl) rfl
theorem p_partPattern{rb m:Nat}(hP:∀ts w,wt ts<m->Rq rb ts w->PatternAt rb ts w)(ts:Toks)(w:World)(hm:wt ts<=m)(h:Rq rb ts w):Calls prog 242 #[ptrV rb] w (AnsO rb 1 w ((choice lf).apattern ts)):=by
 have H1:=hide (accept_w (x:=K.open_) bsK_open (by decide) h)
 have HA:=hide (fun(ts:Toks) (w:World) (h:Rq rb ts w)=>accept_w (x:=K.under_) bsK_under (by decide) h)
 have HL:=hide (fun(w:World) (h:Rq rb ts w)=>p_plain 1 (le_refl _) ts w h)
 have HB:=hide (fun(hlt:wt ts.tail<m) (w:World) (h:Rq rb ts.tail w)=>p_inBrackets (M:=wt ts.tail) (le_refl 1) Enters.pattern (fun ts2 w2 h1 h2=>hP ts2 w2 (by omega) h2) ts.tail w (le_refl _) h)
 have HE:=hide (apattern_prog ts)
 have hmf:∀(fn:Fn)(first cap:Array Value)(w:World),(Instr.makeFunc fn first cap).run prog w=.ok (.func fn first cap) w:=fun _ _ _ _=>rfl
 clear hP h
 go_enter func242,ntmps242
 go_wp2_with fail
 refine(H1.out).mono ?_;rintro e w1⟨hk1,⟨ho1,rfl,hr1⟩|⟨ho1,rfl,hr1⟩⟩
 ·have HC:=hide (HA.out ts w1 hr1)
  go_wp2_with fail
  refine(HC.out).mono ?_;rintro e w2⟨hk2,⟨ho2,rfl,hr2⟩|⟨ho2,rfl,hr2⟩⟩
  ·have HD:=hide (HL.out w2 hr2)
   go_wp2_with fail
   refine(HD.out).mono ?_;intro e wz ha
   have HQ:=hide (AnsO.as (o':=(choice lf).apattern ts) (hk1.to hk2) (by rw[HE.out,ho1,ho2]<;>rfl) ha)
   rcases ha.ends with rfl|⟨v,rfl⟩
   ·unfold gaveUp noForm
    clear ha
    go_wp2
    exact⟨rfl,HQ.out⟩
   ·clear ha
    go_wp2
    go_ret
    exact HQ.out
  ·have HQ:=hide (AnsO.yes (c:=1) (o:=(choice lf).apattern ts) ((hk1.to hk2).alloc (.cells #[.int .i64 4,.string (bs K.under_),.slice none 0 0] tyTree)) (by rw[HE.out,ho1,ho2]<;>rfl) (Mem.leaf (A:=From w) KindOf.wild w2) (hr2.alloc _))
   have HN:=hide (New_any 4 (bs K.under_) none 0 0 w2)
   rw[bsK_under]at HQ HN
   go_wp2_with fail
   refine(HN.out).mono ?_;rintro e w3⟨rfl,rfl⟩
   go_wp2
   go_ret
   exact HQ.out
 ·have hlt:=wt_isW_lt ho1
  have HC:=hide (HB.out (by omega) w1 hr1)
  go_wp2_with fail
  refine(HC.out).mono ?_;intro e wz ha
  have HQ:=hide ((fun(z:AnsN rb 1 w1 ((choice lf).inB (choice lf).pattern ts.tail) _ _)=>AnsO.as (o':=(choice lf).apattern ts) hk1 (by rw[HE.out,ho1]<;>rfl) z.there) ha)
  rcases ha.ends with rfl|⟨v,rfl⟩
  ·unfold gaveUp noForm
   clear ha
   go_wp2
   exact⟨rfl,HQ.out⟩
  ·clear ha
   go_wp2
   go_ret
   exact HQ.out
theorem apattern_wt(ts:Toks)(t:Tr)(r:Toks)(h:(choice lf).apattern ts=some (some t,r)):wt r<wt ts:=by
 have:=(choice lf).apattern_w h
 have h2:mu t+9+wt r<=wt ts:=this
 omega
theorem atom_wt(ts:Toks)(t:Tr)(r:Toks)(h:(choice lf).atom ts=some (some t,r)):wt r<wt ts:=by
 have:=(choice lf).atom_w h
 have h2:mu t+9+wt r<=wt ts:=this
 omega
theorem p_apatterns{rb m:Nat}(hP:∀ts w,wt ts<m->Rq rb ts w->PatternAt rb ts w)(ts:Toks)(w:World)(hm:wt ts<=m)(h:Rq rb ts w):Calls prog 96 #[.func (.func 242) #[ptrV rb] #[]] w (AnsS rb 1 w ((choice lf).apatterns ts)):=
 several_any (choice lf).apatterns_eq apattern_wt Enters.partPattern (fun ts w h1 h2=>p_partPattern hP ts w h1 h2) ts w hm h
theorem p_pattern_step{rb m:Nat}(hP:∀ts w,wt ts<m->Rq rb ts w->PatternAt rb ts w)(ts:Toks)(w:World)(hm:wt ts<=m)(h:Rq rb ts w):PatternAt rb ts w:=by
 unfold PatternAt
 have HP:=hide (peek_any h)
 have HI:=hide (IsConstructor_tok h.head w)
 have hmf:∀(fn:Fn)(first cap:Array Value)(w:World),(Instr.makeFunc fn first cap).run prog w=.ok (.func fn first cap) w:=fun _ _ _ _=>rfl
 cases hk:(tokKind (ts.headD [])==99)
 ·rw[hk]at HI
  have HC:=hide (p_partPattern hP ts w hm h)
  have hT:(choice lf).pattern ts=(choice lf).need ((choice lf).apattern ts):=by rw[pattern_prog];unfold G.kindOf;rw[hk]<;>rfl
  have HT:=hide hT
  clear hP h hT hk
  generalize bs (ts.headD [])=bx at *
  go_enter func240,ntmps240
  go_wp2_with fail
  refine(HP.out).mono ?_;rintro e w1⟨rfl,rfl⟩
  go_wp2_with fail
  refine(HI.out).mono ?_;rintro e w1⟨rfl,rfl⟩
  go_wp2_with fail
  refine(HC.out).mono ?_;rintro e w2⟨hk2,⟨ho2,rfl⟩|⟨r2,ho2,rfl,hr2⟩|⟨t2,r2,b2,ho2,rfl,hm2,hr2⟩⟩
  ·have HQ:=hide (AnsN.no (c:=1) (o:=(choice lf).pattern ts) hk2 (by rw[HT.out,ho2]<;>rfl))
   unfold gaveUp noForm
   go_wp2
   exact⟨rfl,HQ.out⟩
  ·have HQ:=hide (AnsN.no (c:=1) (o:=(choice lf).pattern ts) hk2 (by rw[HT.out,ho2]<;>rfl))
   have HN:=hide (need_nil w2)
   go_wp2_with fail
   refine(HN.out).mono ?_;rintro e w3⟨rfl,rfl⟩
   unfold gaveUp noForm
   go_wp2
   exact⟨rfl,HQ.out⟩
  ·have HQ:=hide (AnsN.yes (c:=1) (o:=(choice lf).pattern ts) hk2 (by rw[HT.out,ho2]<;>rfl) hm2 hr2)
   have HN:=hide (need_node b2 w2)
   go_wp2_with fail
   refine(HN.out).mono ?_;rintro e w3⟨rfl,rfl⟩
   unfold ptrV at *
   go_wp2
   go_ret
   exact HQ.out
 ·obtain⟨t,r,rfl⟩:=kind_cons (ts:=ts) (k:=99) (by decide) hk
  have hlt:=wt_kind_lt (ts:=t::r) (k:=99) (by decide) hk
  have HT:=hide (take_one h)
  have HS:=hide (fun(w1:World) (h1:Rq rb r w1)=>p_apatterns hP r w1 (by have:(t::r).tail=r:=rfl;rw[this]at hlt;omega) h1)
  have hE:(choice lf).pattern (t::r)=((choice lf).apatterns r).bind fun l=>some (.mk K.con_ t l.1,l.2):=by rw[pattern_prog];unfold G.kindOf;rw[hk]<;>rfl
  have HE:=hide hE
  rw[hk]at HI
  rw[show (t::r).headD []=t from rfl]at HP HI
  clear hP h hk hE hlt
  go_enter func240,ntmps240
  go_wp2_with fail
  refine(HP.out).mono ?_;rintro e w1⟨rfl,rfl⟩
  go_wp2_with fail
  refine(HI.out).mono ?_;rintro e w1⟨rfl,rfl⟩
  go_wp2_with fail
  refine(HT.out).mono ?_;rintro e w1⟨rfl,hT⟩
  have hk1:=hT.out.1
  have HC:=hide (HS.out w1 hT.out.2)
  go_wp2_with fail
  refine(HC.out).mono ?_;rintro e w2⟨hk2,⟨ho2,rfl⟩|⟨l2,r2,v2,ps2,ho2,rfl,hv2,hm2,hr2⟩⟩
  ·have HQ:=hide (AnsN.no (c:=1) (o:=(choice lf).pattern (t::r)) (hk1.to hk2) (by rw[HE.out,ho2]<;>rfl))
   unfold gaveUp noForm
   go_wp2
   exact⟨rfl,HQ.out⟩
  ·have HQ:=hide (nodeRow (o:=(choice lf).pattern (t::r)) (KindOf.con 1 (by decide) t ps2.length) hk1 hk2 hv2 hm2 hr2 (by rw[HE.out,ho2]<;>rfl))
   have HN:=hide (NewRow hv2 14 (bs t))
   clear hv2 hm2
   go_wp2_with fail
   refine(HN.out).mono ?_;rintro e w3⟨rfl,rfl⟩
   go_wp2
   go_ret
   exact HQ.out
theorem p_pattern_all{rb:Nat}:∀(m:Nat)(ts:Toks)(w:World),wt ts<=m->Rq rb ts w->PatternAt rb ts w:=by
 intro m
 induction m with
 |zero=>intro ts w hm h;exact p_pattern_step (m:=0) (fun _ _ h=>absurd h (Nat.not_lt_zero _)) ts w hm h
 |succ m ih=>intro ts w hm h;exact p_pattern_step (m:=m+1) (fun ts w h=>ih ts w (by omega)) ts w hm h
theorem p_pattern{rb:Nat}(ts:Toks)(w:World)(h:Rq rb ts w):Calls prog 240 #[ptrV rb] w (AnsN rb 1 w ((choice lf).pattern ts)):=p_pattern_all (wt ts) ts w (le_refl _) h
def ExprAt(rb:Nat)(ts:Toks)(w:World):Prop:=Calls prog 67 #[ptrV rb] w (AnsN rb 0 w ((choice lf).expr ts))
def AtomAt(rb:Nat)(ts:Toks)(w:World):Prop:=Calls prog 223 #[ptrV rb] w (AnsO rb 0 w ((choice lf).atom ts))
def Below_(rb m:Nat):Prop:=∀ts w,wt ts<m->Rq rb ts w->ExprAt rb ts w/\AtomAt rb ts w
theorem p_row{rb m:Nat}(hX:Below_ rb m)(ts:Toks)(w:World)(hm:wt ts<m)(h:Rq rb ts w):Calls prog 237 #[ptrV rb] w (AnsN rb 6 w ((choice lf).row ts)):=by
 have H1:=hide (p_pattern ts w h)
 have HA:=hide (fun(ts:Toks) (w:World) (h:Rq rb ts w)=>expect_w (x:=K.arrow_) bsK_arrow (by decide) h)
 have HX:=hide (fun(ts:Toks) (w:World) (hm:wt ts<m) (h:Rq rb ts w)=>(hX ts w hm h).1)
 clear hX h
 go_enter func237,ntmps237
 go_wp2_with fail
 refine(H1.out).mono ?_;rintro e w1⟨hk1,⟨ho1,rfl⟩|⟨t1,r1,b1,ho1,rfl,hm1,hr1⟩⟩
 ·have HQ:=hide (AnsN.no (c:=6) (o:=(choice lf).row ts) hk1 (by unfold LFam.row;rw[ho1]<;>rfl))
  unfold gaveUp noForm
  go_wp2
  exact⟨rfl,HQ.out⟩
 ·have hlt:mu t1+wt r1<=wt ts:=(choice lf).pattern_w ho1
  have HB:=hide (HA.out r1 w1 hr1)
  go_wp2_with fail
  refine(HB.out).mono ?_;rintro e w2⟨hk2,⟨ho2,rfl⟩|⟨r2,ho2,rfl,hr2⟩⟩
  ·have HQ:=hide (AnsN.no (c:=6) (o:=(choice lf).row ts) (hk1.to hk2) (by unfold LFam.row;rw[ho1,Option.bind_some,ho2]<;>rfl))
   unfold gaveUp noForm
   go_wp2
   exact⟨rfl,HQ.out⟩
  ·have hlt2:=wt_want ho2
   have HC:=hide (HX.out r2 w2 (by omega) hr2)
   unfold ExprAt at HC
   go_wp2_with fail
   refine(HC.out).mono ?_;rintro e w3⟨hk3,⟨ho3,rfl⟩|⟨t3,r3,b3,ho3,rfl,hm3,hr3⟩⟩
   ·have HQ:=hide (AnsN.no (c:=6) (o:=(choice lf).row ts) ((hk1.to hk2).to hk3) (by unfold LFam.row;rw[ho1,Option.bind_some,ho2,Option.bind_some,ho3]<;>rfl))
    unfold gaveUp noForm
    go_wp2
    exact⟨rfl,HQ.out⟩
   ·have HQ:=hide (node2 (o:=(choice lf).row ts) KindOf.row ((hk1.to hk2).to hk3) ((hm1.kq hr1 hk2).kq hr2 hk3) (hm3.since (hk1.to hk2)) hr3 (by unfold LFam.row;rw[ho1,Option.bind_some,ho2,Option.bind_some,ho3]<;>rfl))
    have HN:=hide (New2 w3 b1 b3 16 ⟨#[]⟩)
    unfold ptrV at *
    go_wp2_with fail
    refine(HN.out).mono ?_;rintro e w4⟨rfl,rfl⟩
    go_wp2
    go_ret
    exact HQ.out
def MatchAt(rb:Nat)(w:World)(ts:Toks)(gk:Nat)(v:Value)(wr:World):Prop:=
 ∃k x acc ps ts1,RowAt rb w v (0::List.replicate k 6) (x::acc) ps ts1 wr/\acc.length=k/\gk=wt ts1/\ps.length+wt ts1<=wt ts+1/\(choice lf).matches_ ts=((choice lf).rest ts1).bind fun l=>if (acc++l.1).length<1\/12<(acc++l.1).length then none else some (.mk K.match_ [] (x::(acc++l.1)),l.2)
theorem p_match{rb m:Nat}(hX:Below_ rb m)(ts:Toks)(w:World)(hm:wt ts<m)(h:Rq rb ts w):Calls prog 234 #[ptrV rb] w (AnsN rb 0 w ((choice lf).matches_ ts)):=by
 have hwt:=h.wt_le
 have H1:=hide ((hX ts w hm h).1)
 unfold ExprAt at H1
 have HX:=hide (fun(ts:Toks) (w:World) (h:Rq rb ts w)=>expect_w (x:=K.with_) bsK_with (by decide) h)
 have HY:=hide (fun(ts:Toks) (w:World) (h:Rq rb ts w)=>expect_w (x:=K.end_) bsK_end (by decide) h)
 have HA:=hide (fun(ts:Toks) (w:World) (h:Rq rb ts w)=>accept_w (x:=K.bar_) bsK_bar (by decide) h)
 have HV:=hide (fun(ts:Toks) (w:World) (hm:wt ts<m) (h:Rq rb ts w)=>p_row hX ts w hm h)
 have HE:=hide ((choice lf).matches_eq2 ts)
 clear h hX
 go_enter func234,ntmps234
 go_wp2_with fail
 refine(H1.out).mono ?_;rintro e w1⟨hk1,⟨ho1,rfl⟩|⟨t1,r1,b1,ho1,rfl,hm1,hr1⟩⟩
 ·have HQ:=hide (AnsN.no (c:=0) (o:=(choice lf).matches_ ts) hk1 (by rw[HE.out,ho1]<;>rfl))
  unfold gaveUp noForm
  go_wp2
  exact⟨rfl,HQ.out⟩
 ·have hlt:mu t1+wt r1<=wt ts:=(choice lf).expr_w ho1
  have hRow:RowAt rb w (.slice (some ⟨w1.heap.size,0,none⟩) 1 1) [0] [t1] [b1] r1 (w1.alloc (.cells #[.pointer (some ⟨b1,0,none⟩)] tyTreeP)):=by
   refine⟨ownsRow_base (ptr1 w1 b1) hk1.size,hk1.alloc _,hr1.alloc _,.cons ?_ .nil⟩
   refine(hm1.wide (A':=fun g=>w.heap.size<=g/\g<w1.heap.size) fun k hf hl=>⟨hf,hl⟩).alloc _ |>.wide fun k hf _=>⟨hf.1,?_⟩
   intro e
   have:k=w1.heap.size:=by simpa [Value.ownBlock]using e.symm
   omega
  have HRow:=hide hRow
  have HC:=hide (fun(w2:World) (h:Rq rb r1 w2)=>HX.out r1 w2 h)
  have HRq:=hide hRow.rq
  unfold ptrV at *
  clear hRow hm1
  go_wp2_with fail
  refine(HC.out _ HRq.out).mono ?_;rintro e w3⟨hk3,⟨ho3,rfl⟩|⟨r3,ho3,rfl,hr3⟩⟩
  ·have HQ:=hide (AnsN.no (c:=0) (o:=(choice lf).matches_ ts) ((hk1.alloc _).to hk3) (by rw[HE.out,ho1,Option.bind_some,ho3]<;>rfl))
   unfold gaveUp noForm
   go_wp2
   exact⟨rfl,HQ.out⟩
  ·have hq3:=wt_want ho3
   have hRow3:=HRow.out.behind hk3 hr3
   have hAt:MatchAt rb w ts (wt r3) (.slice (some ⟨w1.heap.size,0,none⟩) 1 1) w3:=⟨0,t1,[],[b1],r3,hRow3,rfl,rfl,by simp;omega,by rw[HE.out,ho1,Option.bind_some,ho3,Option.bind_some]<;>rfl⟩
   have HAt:=hide hAt
   clear HRow HRq hRow3 hAt HC H1 HE hr1 hr3 hk1 hk3 ho1 ho3 hlt hq3
   go_wp2_with fail
   go_loopg [3] (wt r3) (fun gk v wr=>Hid (MatchAt rb w ts gk v wr))
   case atStart=>exact HAt
   case round=>
    clear HAt
    obtain⟨k,x,acc,ps,ts1,hRow,hacc,rfl,hle,hE⟩:=hrel.out
    have hpl:=hRow.mems.length
    have HC:=hide (HA.out ts1 wr hRow.rq)
    have HRow:=hide hRow
    have HE:=hide hE
    have HPL:=hide hpl
    have HACC:=hide hacc
    clear hrel hRow hE hpl hacc
    go_wp2_with fail
    refine(HC.out).mono ?_;rintro e w7⟨hk7,⟨ho7,rfl,hr7⟩|⟨ho7,rfl,hr7⟩⟩
    ·have hRow7:=HRow.out.behind hk7 hr7
     have HD:=hide (HY.out ts1 w7 hr7)
     have HRow7:=hide hRow7
     clear hRow7 HRow
     go_wp2_with fail
     refine(HD.out).mono ?_;rintro e w8⟨hk8,⟨ho8,rfl⟩|⟨r8,ho8,rfl,hr8⟩⟩
     ·have HQ:=hide (AnsN.no (c:=0) (o:=(choice lf).matches_ ts) (HRow7.out.kq.to hk8) (by rw[HE.out,(choice lf).rest_eq,ho7,cond_false,ho8]<;>rfl))
      unfold gaveUp noForm
      go_wp2
      exact⟨rfl,HQ.out⟩
     ·have hRow8:=HRow7.out.behind hk8 hr8
      have hlen:ps.length=acc.length+1:=by have:=HPL.out.2;simpa using this
      have hfin:(choice lf).matches_ ts=if acc.length<1\/12<acc.length then none else some (.mk K.match_ [] (x::acc),r8):=by
       rw[HE.out,(choice lf).rest_eq,ho7,cond_false,ho8,Option.bind_some,Option.bind_some]
       simp only[append_nil]
      have hsl:∃g cap,_:=(ownsRow_forms hRow8.own).resolve_left (fun hh=>by have:=hh.2;omega)
      obtain⟨g,cap,rfl⟩:=hsl
      have HR8:=hide hRow8
      have HACC2:=HACC.out
      have HFIN:=hide hfin
      have hps:ps.length<=16080001:=by omega
      by_cases hbad:acc.length<1\/12<acc.length
      ·have HQ:=hide (AnsN.no (c:=0) (o:=(choice lf).matches_ ts) hRow8.kq (by rw[hfin,if_pos hbad]))
       unfold gaveUp noForm at HQ
       clear hRow8 hfin HFIN HE HR8 HRow7 HACC HACC2 HPL
       by_cases hone:acc.length<1
       ·have h1:(ps.length:Int)-1<1:=by omega
        clear hbad
        generalize hpn:ps.length=pn at *
        clear hlen hpn
        go_wp2
        exact⟨rfl,HQ.out⟩
       ·have h1:¬(ps.length:Int)-1<1:=by omega
        have h2:(12:Int)<(ps.length:Int)-1:=by omega
        clear hbad
        generalize hpn:ps.length=pn at *
        clear hlen hpn
        go_wp2
        exact⟨rfl,HQ.out⟩
      ·have HQ:=hide (hRow8.node (o:=(choice lf).matches_ ts) (by have:=KindOf.match_ k;exact this) (by rw[hfin,if_neg hbad]))
       have HN:=hide (NewRow hRow8.own 15 (bs []))
       have h1:¬(ps.length:Int)-1<1:=by omega
       have h2:¬(12:Int)<(ps.length:Int)-1:=by omega
       rw[bsK_nil]at HQ HN
       clear hRow8 hfin HFIN HE HR8 HRow7 HACC HACC2 HPL hbad
       generalize hpn:ps.length=pn at *
       clear hlen hpn
       go_wp2_with fail
       refine(HN.out).mono ?_;rintro e w9⟨rfl,rfl⟩
       go_wp2
       go_ret
       exact HQ.out
    ·have hRow7:=HRow.out.behind hk7 hr7
     have hq7:=wt_isW_lt ho7
     have HD:=hide (HV.out ts1.tail w7 (by have:=HPL.out.2;simp at this;omega) hr7)
     have HRow7:=hide hRow7
     clear hRow7 HRow
     go_wp2_with fail
     refine(HD.out).mono ?_;rintro e w8⟨hk8,⟨ho8,rfl⟩|⟨t8,r8,b8,ho8,rfl,hm8,hr8⟩⟩
     ·have HQ:=hide (AnsN.no (c:=0) (o:=(choice lf).matches_ ts) (HRow7.out.kq.to hk8) (by rw[HE.out,(choice lf).rest_eq,ho7,cond_true,ho8]<;>rfl))
      unfold gaveUp noForm
      go_wp2
      exact⟨rfl,HQ.out⟩
     ·have hq8:wt r8<=wt ts1.tail:=(choice lf).row_w ho8
      have hRow8:=HRow7.out.behind hk8 hr8
      have hm8':=HRow7.out.apart hm8
      have hps8:ps.length<=100000000:=by omega
      have hbs8:w.heap.size<=w8.heap.size:=hRow8.kq.size
      have hE8:(choice lf).matches_ ts=((choice lf).rest r8).bind fun l=>if ((acc++[t8])++l.1).length<1\/12<((acc++[t8])++l.1).length then none else some (.mk K.match_ [] (x::((acc++[t8])++l.1)),l.2):=by
       rw[HE.out,(choice lf).rest_eq,ho7,cond_true,ho8,Option.bind_some,Option.bind_assoc]
       congr 1
       funext z
       simp
      have hcs:(0::List.replicate k 6)++[6]=0::List.replicate (k+1) 6:=by rw[cons_append,List.replicate_succ']
      have HE8:=hide hE8
      have HM8:=hide hm8'
      have HR8:=hide hRow8
      have hown8:=hRow8.own
      clear hRow8 hm8 hm8' hE8 HRow7 HE hr7 hr8 ho7 ho8 hk7 hk8
      unfold ptrV at *
      go_wp2_with (at_builtin;refine append_ptr rfl _ _ rfl b8 hown8 hps8 hbs8 rfl rfl ?_)
      intro v9 w9 hown9 hgr9 HLt9
      have hown10:w9.ownsRow w.heap.size tyTreeP 1 v9 (ps++[b8]).length ((ps++[b8]).map ptrV):=by
       rw[length_append,map_append];exact hown9
      have hRow9:=HR8.out.put HM8.out hown10 hgr9 HLt9.out
      rw[hcs]at hRow9
      have hAt:MatchAt rb w ts (wt r8) v9 w9:=⟨k+1,x,acc++[t8],_,r8,hRow9,by simp[HACC.out],rfl,by simp;omega,HE8.out⟩
      have HAt:=hide hAt
      clear hown8 hown9 hown10 hgr9 HLt9 hRow9 HR8 HM8 HE8 hAt hcs
      go_wp2_with fail
      go_roundg (wt r8)
      case rel=>exact HAt
      case measure=>omega
end Go.Proofs.YtcbppnefeonmgaaGreatDoor
