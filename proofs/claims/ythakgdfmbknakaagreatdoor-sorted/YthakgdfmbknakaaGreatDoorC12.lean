import Derived.Test.YthakgdfmbknakaaGreatDoorC11
import Derived.Deep.AppendSrc
import Derived.Orders
set_option linter.all false
set_option maxHeartbeats 40000000
set_option maxRecDepth 100000
open Go.Proofs.Tryz
open Or (inl inr)
open Option (map_eq_some_iff)
open Nat (le_refl le_trans zero_le lt_succ_self)
open List (append_nil length_append length_cons mem_cons_self mem_cons_of_mem mem_append mem_singleton cons_append length_nil map_append nil_append)
namespace Go.Proofs.YthakgdfmbknakaaGreatDoor
open World (cell? ownsRow_nil)
open Lib (extract_to_end hasPrefix indexByte)
open List (getElem?_map length_drop push_toArray range size_toArray)
open _root_.Array (getD replicate replicate_succ replicate_zero)
section
open Go.RowKit
section
variable {ar:Nm->Nat}{ad:List Nat}{rk:Nat->Nat}{p:PS}{tb pb:Nat}{dv bv:Value}{w w':World}{nb:Nat}{txt:Nm}
def uL{A:Env}{nd:Nd}{U:TS}{t:Nat}{s:TS}(h:mB A nd U=some (t,s)):s.given=[]:=by
 obtain⟨k,txt,ps⟩:=nd;unfold mB at h;dsimp only at h;split at h
 ·split at h
  ·split at h
   ·cases h;rfl
   ·cases h
  ·cases h
 ·cases h
def uT.look(h:uT ar ad rk p tb pb dv bv w){A:Env}(hk:Kn (·=tb) w w')(ht:Tab ad tb A w'):uT ar ad rk ⟨A,p.sto,p.binds⟩ tb pb dv bv w':=by
 have hs:aO ar ad (fun _=>False) rk p.sto w':=h.sto.kept (fun k Jy=>by
  obtain⟨c,f,hc⟩:=h.sto.isT Jy
  exact hk.block k (aB hc) (h.AF hc)) (fun k c f _ hc=>hk.block k (aB hc) (h.AF hc))
 have:=h.turn (l:=[]) (hk.wide fun k _ hd=>inr hd) (by rw[append_nil];exact hs) h.giv (by rw[append_nil];exact ht);rw[append_nil]at this;exact this
def WB{k:Nat}{ps:List Nd}(h:uT ar ad rk p tb pb dv bv w)(hm:AB w (.mk k txt ps) nb)(hx:cL (0,txt))(Ox:p.binds.length<=1000000)(_hk:k<100)
  (hL:Calls prog 41 #[.map (some tb),aA nb] w fun e u=>e=.returned (.int .i64 (jF (uE p.env (.mk k txt ps) ⟨false,false⟩)))/\Tab ad tb p.env u/\Kn (·=tb) w u)
  (hT:jF (uE p.env (.mk k txt ps) ⟨false,false⟩)=0->k≠18->∀u,Kn (·=tb) w u->aO ar ad (fun _=>False) rk p.sto u->Tab ad tb p.env u->Calls prog 43 #[.map (some tb),aA nb] u (Dw ar ad (fun _=>False) p.env tb (mB p.env (.mk k txt ps) p.sto) u))
  (hD:jF (uE p.env (.mk k txt ps) ⟨false,false⟩)=0->k=18->∀u,Kn (·=tb) w u->Tab ad tb p.env u->Calls prog 42 #[.map (some tb),aA nb] u fun e u2=>e=.returned (.tuple #[])/\Tab ad tb (cA p.env txt ps) u2/\Kn (·=tb) u u2)
  {Q:Ending->World->Prop} (hQ:∀e w',Hy ar ad tb pb dv bv (cI p (.mk k txt ps)) w e w'->Q e w') :
  Calls prog 41 #[.map (some tb),aA nb] w fun e u1=>∃er:Nat,e=.returned (.int .i64 er)/\(er≠0->Q (.returned (.int .i64 er)) u1)/\(er=0->(u1.cell? ⟨pb,2,none⟩=some (.map (some tb))/\u1.cell? ⟨nb,0,none⟩=some (.int .i64 k)) /\
   (k=18->Calls prog 42 #[.map (some tb),aA nb] u1 fun e u2=>e=.returned (.tuple #[])/\Q (.returned (.int .i64 0)) u2) /\
   (k≠18->Calls prog 43 #[.map (some tb),aA nb] u1 fun e u2=>∃pp ok,e=.returned (.tuple #[.pointer pp,.bool ok])/\u2.cell? ⟨nb,0,none⟩=some (.int .i64 k)/\(ok=false->Q (.returned (.int .i64 6)) u2)/\(ok=true->(k=17->Q (.returned (.int .i64 0)) u2)/\(k≠17->∃bt bn,pp=some ⟨bt,0,none⟩ /\
    ∀u,Kn (fun _=>False) u2 u->(u.cell? ⟨pb,2,none⟩=some (.map (some tb))/\u.cell? ⟨nb,1,none⟩=some (.string (bs txt)))/\∃u3,(Instr.mapUpdate dA (.map (some tb)) (.agg #[.int .i64 0,.string (bs txt)]) (.agg #[aA bt,.string ⟨#[]⟩,.slice none 0 0,.slice none 0 0,.int .i64 0,.int .i64 0])).run prog u=.ok () u3/\(u3.cell? ⟨pb,2,none⟩=some (.map (some tb))/\u3.cell? ⟨nb,1,none⟩=some (.string (bs txt)))/\u3.cell? ⟨pb,1,none⟩=some bv /\
     ∃xs:List Value,u3.drew.ownsRow 0 cF 2 bv bn xs/\bn<=100000000/\∀v' w2,w2.ownsRow 0 cF 2 v' (bn+1) (xs++[.string (bs txt),aA bt])->(u3.drew.alloc (.cells #[.string (bs txt),aA bt] cF)).grownBy w2 bv.ownBlock->(∀g,v'.ownBlock=some g->bv.ownBlock=some g\/u3.heap.size<g) ->
      w2.frozen? ⟨pb,1,none⟩=false/\w2.cell? ⟨pb,1,none⟩=some bv/\Q (.returned (.int .i64 0)) (w2.setCell ⟨pb,1,none⟩ v'))))):=by
 obtain⟨pv,bl,n1,_,_⟩:=hm.inv
 have Ul:∀{u:World},Kn (fun k=>k∈ad\/k=tb) w u->u.heap[nb]?=some (.cells #[.int .i64 k,.string (bs txt),pv] cS (0,0)):=fun hu=>(hu.block nb (aB n1) fun hd=>by
  rcases hd with hd|hd
  ·exact h.BZ n1 (by decide) hd
  ·exact h.AF n1 hd).trans n1
 refine hL.mono ?_;rintro e u1⟨rfl,Yt,Kj⟩;have Tg:Kn (fun k=>k∈ad\/k=tb) w u1:=Kj.wide fun k _ hd=>inr hd;have Rs:=h.look Kj Yt;have Rs:uT ar ad rk p tb pb dv bv u1:=Rs;generalize Z8:jF (uE p.env (.mk k txt ps) ⟨false,false⟩)=er at *
 have T3:cI p (.mk k txt ps)=if er≠0 then(er,p)else if k=18 then(0,{ p with env:=cA p.env txt ps })else match mB p.env (.mk k txt ps) p.sto with
   |none=>(6,p)
   |some (t,s)=>if k=17 then(0,{ p with sto:=s })else(0,⟨((0,txt),Mg.var t)::p.env,s,p.binds++[(txt,t)]⟩):=by
  rw[<- Z8];rfl
 refine⟨er,rfl,fun Ju=>hQ _ _ ?_,fun h0=>⟨⟨by simp[cell?,Rs.prog],by simp[cell?,Ul Tg]⟩,fun Ri=>?_,fun Ri=>?_⟩⟩
 ·rw[T3,if_pos Ju];exact⟨Kn.dmp Tg,rfl,fun e=>absurd e Ju⟩
 ·refine(hD h0 Ri u1 Kj Yt).mono ?_;rintro e u2⟨rfl,r1,r2⟩;refine⟨rfl,hQ _ _ ?_⟩;rw[T3,if_neg (by simpa using h0),if_pos Ri];refine⟨Kn.dmp ((Kj.trans r2).wide fun k _ hd=>inr hd),rfl,fun _=>⟨[],rk,bv,?_,by simp,fun b hb=>inl hb⟩⟩;rw[append_nil];exact Rs.look r2 r1
 ·refine(hT h0 Ri u1 Kj Rs.sto Yt).mono ?_;rintro e u2⟨Jy,ha⟩;have Pd:Kn (fun k=>k∈ad\/k=tb) w u2:=Tg.trans Jy;rcases ha with⟨a1,pp,rfl⟩|⟨t,s,l,rk',a1,rfl,a3,a4,a5,a6⟩
  ·refine⟨pp,false,rfl,by simp[cell?,Ul Pd],fun _=>hQ _ _ ?_,fun e=>by cases e⟩;rw[T3,if_neg (by simpa using h0),if_neg Ri,a1];exact⟨Kn.dmp Pd,rfl,fun e=>by cases e⟩
  ·have Qu:=Rs.turn Jy a4 (uL a1) a5;have Mw:∀b∈l,w.heap.size<=b:=fun b hb=>le_trans Kj.size (a6 b hb);refine⟨_,true,rfl,by simp[cell?,Ul Pd],(fun e=>by cases e),fun _=>⟨fun C7=>hQ _ _ ?_,fun C7=>?_⟩⟩
   ·rw[T3,if_neg (by simpa using h0),if_neg Ri,a1];simp only[if_pos C7];exact⟨Kn.dmp Pd,rfl,fun _=>⟨l,rk',bv,Qu,Mw,fun b hb=>inl hb⟩⟩
   ·refine⟨bH (ad++l) t,p.binds.length,rfl,fun u hu=>?_⟩;have hb:=JP (txt:=txt) (nb:=nb) Qu a3 hx Ox ⟨_,_,_,Ul Pd,rfl,by decide,by decide⟩ u hu;obtain⟨q1,u3,q2,q3,q4,xs,q5,q6,q7⟩:=hb;refine⟨q1,u3,q2,q3,q4,xs,q5,q6,fun v' w2 z1 z2 z3=>?_⟩;obtain⟨y1,y2,y3,y4,y5⟩:=q7 v' w2 z1 z2 z3;refine⟨y1,y2,hQ _ _ ?_⟩;rw[T3,if_neg (by simpa using h0),if_neg Ri,a1];simp only[if_neg C7];refine⟨(Kn.dmp Pd).trans' y4 fun k hk hd=>?_,rfl,fun _=>⟨l,rk',v',y3,Mw,fun b hb=>?_⟩⟩
    ·rcases hd with hd|hd|hd|hd
     ·rcases mem_append.1 hd with hd|hd
      ·exact inl hd
      ·have:=Mw k hd;omega
     ·exact inr (inl hd)
     ·exact inr (inr (inl hd))
     ·exact inr (inr (inr hd))
    ·exact(y5 b hb).imp id (le_trans Pd.size)
def JC{k:Nat}{ps:List Nd}(h:uT ar ad rk p tb pb dv bv w)(hm:AB w (.mk k txt ps) nb)(hx:cL (0,txt))(Ox:p.binds.length<=1000000)(hk:k<100)
  (hL:Calls prog 41 #[.map (some tb),aA nb] w fun e u=>e=.returned (.int .i64 (jF (uE p.env (.mk k txt ps) ⟨false,false⟩)))/\Tab ad tb p.env u/\Kn (·=tb) w u)
  (hT:jF (uE p.env (.mk k txt ps) ⟨false,false⟩)=0->k≠18->∀u,Kn (·=tb) w u->aO ar ad (fun _=>False) rk p.sto u->Tab ad tb p.env u->Calls prog 43 #[.map (some tb),aA nb] u (Dw ar ad (fun _=>False) p.env tb (mB p.env (.mk k txt ps) p.sto) u))
  (hD:jF (uE p.env (.mk k txt ps) ⟨false,false⟩)=0->k=18->∀u,Kn (·=tb) w u->Tab ad tb p.env u->Calls prog 42 #[.map (some tb),aA nb] u fun e u2=>e=.returned (.tuple #[])/\Tab ad tb (cA p.env txt ps) u2/\Kn (·=tb) u u2) :
  Calls prog 16 #[aA pb,aA nb] w (Hy ar ad tb pb dv bv (cI p (.mk k txt ps)) w):=by
 have hf:=WB h hm hx Ox hk hL hT hD (Q:=Hy ar ad tb pb dv bv (cI p (.mk k txt ps)) w) (fun _ _ ha=>ha);have c2:w.cell? ⟨pb,2,none⟩=some (.map (some tb)):=by simp[cell?,h.prog]
 obtain⟨av,kv,cv,Zm⟩:∃a k c,bv=.slice a k c:=by
  rcases aD h.row with⟨h,_⟩|⟨g,cap,h⟩
  ·exact⟨_,_,_,h⟩
  ·exact⟨_,_,_,h⟩
 have HF:=aC hf;have hK:=fun(s:ByteArray) (u:World)=>gL s u;have HK:=aC hK;clear hf h hm hx Ox hL hT hD hK;generalize Hy ar ad tb pb dv bv (cI p (.mk k txt ps)) w=Q at *;subst Zm;unfold aA at *;generalize bs txt=tx at *;go_enter func16,ntmps16;go_wp2_with fail;refine(HF.out).mono ?_;rintro e u1⟨er,rfl,Ju,h0⟩;have Yb:=aC Ju;have H0:=aC h0;clear Ju h0 HF c2
 by_cases he:er=0
 ·subst he;have hz:=H0.out rfl;clear H0 Yb;obtain⟨⟨c2,ck⟩,hd,ht⟩:=hz;have HD:=aC hd;have HT:=aC ht;clear hd ht
  by_cases Ri:k=18
  ·subst Ri;have L9:=aC (HD.out rfl);clear HD HT;go_wp2_with fail;refine(L9.out).mono ?_;rintro e u2⟨rfl,hq⟩;have HG:=aC hq;clear hq L9;go_wp2;exact HG.out
  ·have HT1:=aC (HT.out Ri);have hk18:¬(k:Int)=18:=by omega
   clear HD HT;go_wp2_with fail;refine(HT1.out).mono ?_;rintro e u2⟨pp,ok,rfl,ck2,Lg,Lp⟩;have Me:=aC Lg;have Lq:=aC Lp;clear Lg Lp HT1
   cases ok with
   |false=>
    have HG:=aC (Me.out rfl);clear Me Lq;go_wp2;exact HG.out
   |true=>
    have hz:=Lq.out rfl;clear Me Lq;obtain⟨hd,hb⟩:=hz
    by_cases C7:k=17
    ·have HG:=aC (hd C7);have hk17:(k:Int)=17:=by omega
     clear hd hb;go_wp2;exact HG.out
    ·have hz:=hb C7;have hk17:¬(k:Int)=17:=by omega
     clear hd hb;obtain⟨bt,bn,rfl,hu⟩:=hz;have HX:=aC hu
     have Kv:∀u o u',Kn (fun _=>False) u2 u->u'=World.alloc u o->Kn (fun _=>False) u2 u':=fun u o u' hu e=>by
      subst e;exact hu.alloc o
     have HV:=aC (Kn.AH u2);have Ni:=aC Kv;clear hu Kv;generalize Kn (fun _=>False) u2=V at *;have hz:=HX.out _ HV.out;obtain⟨⟨c1a,c2a⟩,_⟩:=hz;go_wp2_with fail
     go_region_held3 (fun w'=>w'.cell? ⟨pb,2,none⟩=some (.map (some tb))/\w'.cell? ⟨nb,1,none⟩=some (.string tx)) (first|with_reducible exact⟨c1a,c2a⟩|with_reducible exact⟨m1a,m2a⟩)
      (first|(go_at_call 36;refine(HK.out _ _).mono ?_;rintro e u⟨rfl,hu⟩;have HV:=aC (Ni.out _ _ _ HV.out hu);have hz:=HX.out _ HV.out;obtain⟨⟨c1a,c2a⟩,u9,Qd,⟨m1a,m2a⟩,c4,xs,Jr,Wn,Jp⟩:=hz;have Kk:=aC Jp;clear hu Jp))
     all_goals
      clear HX HV Ni;have c1b:(u9.alloc (.cells #[.string tx,.pointer (some ⟨bt,0,none⟩)] 49)).cell? ⟨pb,1,none⟩=some (.slice av kv cv):=aL c4;have ctb:(u9.alloc (.cells #[.string tx,.pointer (some ⟨bt,0,none⟩)] 49)).cell? ⟨nb,1,none⟩=some (.string tx):=aL m2a;go_wp2_with fail
      go_region_law (refine lQ rfl _ _ rfl tx bt Jr Wn (zero_le _) (by simp[Act.eval,Act.put]) (by simp[Act.eval,Act.put]) ?_;intro v' w2 ho hg HL;obtain⟨hfr,Ny,hq⟩:=Kk.out v' w2 ho hg HL.out;have HG:=aC hq;obtain⟨g',cap',rfl⟩:∃g' cap',v'=.slice (some ⟨g',0,none⟩) (bn+1) cap':=(by rcases aD ho with⟨_,Ou⟩|h;(focus (simp at Ou));exact h);clear hq ho hg HL)
      all_goals
       go_wp2;exact HG.out
 ·have HG:=aC (Yb.out he);have Vc:¬(er:Int)=0:=by omega
  clear H0 Yb;go_wp2;exact HG.out
end
end
section
open Go.RowKit
section
variable {ad:List Nat}{rk:Nat->Nat}{p:PS}{tb pb:Nat}{dv bv:Value}{w w':World}{nb:Nat}
def EE{a b:List Nd}{nd:Nd}(hf:∀d∈a++nd::b,jM d)(hE:KO (nS (a++nd::b)) p.env a)(h:uT (nS (a++nd::b)) ad rk p tb pb dv bv w)(hm:AB w nd nb)(Ox:p.binds.length<=1000000) :
  Calls prog 16 #[aA pb,aA nb] w (Hy (nS (a++nd::b)) ad tb pb dv bv (cI p nd) w):=by
 have hd:=hf nd (mem_append.2 (inr mem_cons_self));have ha:=xG hf;generalize nS (a++nd::b)=ar at *;obtain⟨k,txt,ps⟩:=nd;have Lb:xY k txt ps:=hd.ok;have Mr:=Lb.kind;refine JC h hm ⟨show 0<3 by decide,Lb.text⟩ Ox (by omega) (uD Lb h.tab hm) (fun he hk u hu hs ht=>?_) (fun he hk u hu ht=>?_)
 ·obtain⟨c,r,Lu,hx,hht,Ke⟩:=hd.val hk;have Lu:ps=c::r:=Lu;subst Lu;have Vy:=sF he;have O6:AB u (.mk k txt (c::r)) nb:=AB.kept (fun q cc f hc=>hu.block q (aB hc) (h.AF hc)) (fun q cc f hc=>hu.block q (aB hc) (h.AF hc)) _ nb hm;refine wD ha (m:=c.ht+1) (m2:=c.ht+1) (by omega) ?_ (lt_succ_self _) (lt_succ_self _) (hx _) hE.b hht Ke ⟨show 0<3 by decide,Lb.text⟩ O6 hs ht (fun _ hf=>hf.elim) h.giv
  by_cases h7:k=7
  ·subst h7;rw[LR]at Vy;rw[if_pos rfl];exact(zJ _ _ _ _ Vy).2
  ·rw[LQ hk h7]at Vy;rw[if_neg h7];exact(zJ _ _ _ _ Vy).2
 ·subst hk;obtain⟨t1,t2,t3⟩:=Lb.typ rfl;have O6:AB u (.mk 18 txt ps) nb:=AB.kept (fun q cc f hc=>hu.block q (aB hc) (h.AF hc)) (fun q cc f hc=>hu.block q (aB hc) (h.AF hc)) _ nb hm;have Oi:∀x:Nd,x∈x.all:=fun x=>by cases x;rw[Nd.all_eq];exact mem_cons_self
  exact qT ht O6 t2 t3 Lb.text fun q hq=>t1 q (by rw[Nd.all_eq];exact mem_cons_of_mem _ (kM hq q (Oi q)))
end
end
section
open Go.RowKit
def nW(s:ByteArray):(s.extract 1 s.size).data.toList=s.data.toList.tail:=by
 rw[extract_to_end];simp
def pL(s:ByteArray)(w:World)(hs:s.size<=maxLen)(hp:0<s.size) :
  Calls prog 102 #[.string s] w fun e w'=>e=.returned (.int .i64 (dW s.data.toList))/\w'=w:=by
 have N3:s.size<=9223372036854775807:=hs;have hz:(s.extract 1 s.size).size<=maxLen:=by simp;omega
 have hle:=jC s.data.toList.tail
 have hc:∀wx,Calls prog 96 #[.string (s.extract 1 s.size)] wx fun e w'=>e=.returned (.int .i64 (aX s.data.toList.tail))/\w'=wx:=fun wx=>by
  have:=eV _ wx hz;rw[nW]at this;exact this
 have hx:((s.extract 1 s.size).extract 0 (aX s.data.toList.tail)).data.toList=s.data.toList.tail.take (aX s.data.toList.tail):=by
  rw[Lib.extract_data,nW];simp
 have hd:∀wx,Calls prog 141 #[.string ((s.extract 1 s.size).extract 0 (aX s.data.toList.tail))] wx fun e w'=>e=.returned (.bool (iB (s.data.toList.tail.take (aX s.data.toList.tail))))/\w'=wx:=fun wx=>by
  have:=kR ((s.extract 1 s.size).extract 0 (aX s.data.toList.tail)) wx;rw[hx]at this;exact this
 have Ke:aX s.data.toList.tail<=s.size-1:=by simpa using hle
 clear hx hle;have Jp:dW s.data.toList=bif aX s.data.toList.tail==0 || iB (s.data.toList.tail.take (aX s.data.toList.tail))then 0 else 1+aX s.data.toList.tail:=rfl
 generalize iB (s.data.toList.tail.take (aX s.data.toList.tail))=b at *;generalize aX s.data.toList.tail=n at *;generalize dW s.data.toList=R at *;have HC:Hid (∀wx,Calls prog 96 #[.string (s.extract 1 s.size)] wx fun e w'=>e=.returned (.int .i64 n)/\w'=wx):=hc;have HD:Hid (∀wx,Calls prog 141 #[.string ((s.extract 1 s.size).extract 0 n)] wx fun e w'=>e=.returned (.bool b)/\w'=wx):=hd;have HF:Hid (R=bif n==0 || b then 0 else 1+n):=Jp;clear hc hd Jp
 by_cases hn:n=0
 ·subst hn;go_enter func102,ntmps102
  go_wp2_with (go_at_call 96;refine(HC.out _).mono ?_;rintro e w'⟨rfl,rfl⟩)
  go_ret;exact⟨cD (by rw[HF.out];simp),rfl⟩
 ·have hb:((n:Int)==0)=false:=by simp[hn]
  have hsl:=fun wx=>run_slice_of_slice (P:=prog) 9 underlying9 s 1 s.size 0 n (by omega) (by omega) wx;cases b
  ·go_enter func102,ntmps102
   go_wp2_with (first|(go_at_call 96;refine(HC.out _).mono ?_;rintro e w'⟨rfl,rfl⟩)|(go_at_call 141;refine(HD.out _).mono ?_;rintro e w'⟨rfl,rfl⟩))
   go_ret
   exact⟨cD (by
             have h3:(n==0)=false:=by simpa using hn
             rw[HF.out];simp[h3]),rfl⟩
  ·go_enter func102,ntmps102
   go_wp2_with (first|(go_at_call 96;refine(HC.out _).mono ?_;rintro e w'⟨rfl,rfl⟩)|(go_at_call 141;refine(HD.out _).mono ?_;rintro e w'⟨rfl,rfl⟩))
   go_ret;exact⟨cD (by rw[HF.out];simp),rfl⟩
def pH(s:ByteArray)(w:World) :
  Calls prog 94 #[.string s] w fun e w'=>e=.returned (.int .i64 (cnt fJ s.data.toList))/\w'=w:=by
 have hc:∀wx,Calls prog 139 #[.string s,.int .u8 10] wx fun e w'=>e=.returned (.int .i64 (indexByte s.data.toList 10))/\w'=wx:=fun wx=>Tryz.strings_IndexByte s 10 wx;have hr:=GP s.data.toList;have Jm:s.data.toList.length=s.size:=rfl;rw[Jm]at hr;clear Jm;generalize indexByte s.data.toList 10=i at *;generalize cnt fJ s.data.toList=n at *;have HC:Hid (∀wx,Calls prog 139 #[.string s,.int .u8 10] wx fun e w'=>e=.returned (.int .i64 i)/\w'=wx):=hc;have HR:Hid ((n:Int)=if 0<=i then i else s.size):=hr;clear hc hr
 by_cases h:0<=i
 ·go_enter func94,ntmps94
  go_wp2_with (go_at_call 139;refine(HC.out _).mono ?_;rintro e w'⟨rfl,rfl⟩)
  go_ret;exact⟨cD (by rw[HR.out,if_pos h]),rfl⟩
 ·go_enter func94,ntmps94
  go_wp2_with (go_at_call 139;refine(HC.out _).mono ?_;rintro e w'⟨rfl,rfl⟩)
  go_ret;exact⟨cD (by rw[HR.out,if_neg (by omega)]),rfl⟩
def YO(s:ByteArray)(hp:0<s.size) :
  (cG s.data.toList:Int)=if hasPrefix s.data.toList [58,61]=true\/hasPrefix s.data.toList [45,62]=true then 2 else if 0<=indexByte signs s[0]then 1 else 0:=by
 have h0:(0<=indexByte signs s[0])=(s[0]∈signs):=propext (uG _ _);simp only[h0];have e:=fA s hp;simp only[cG]
 split
 ·rfl
 ·rw[e];dsimp only;split<;>rfl
def rL(s:ByteArray)(w:World)(hp:0<s.size) :
  Calls prog 103 #[.string s] w fun e w'=>e=.returned (.int .i64 (cG s.data.toList))/\w'=w:=by
 have Ny:∀wx,Calls prog 142 #[.string s,.string ⟨#[58,61]⟩] wx fun e w'=>e=.returned (.bool (hasPrefix s.data.toList [58,61]))/\w'=wx:=fun wx=>Tryz.strings_HasPrefix s ⟨#[58,61]⟩ wx;have Mv:∀wx,Calls prog 142 #[.string s,.string ⟨#[45,62]⟩] wx fun e w'=>e=.returned (.bool (hasPrefix s.data.toList [45,62]))/\w'=wx:=fun wx=>Tryz.strings_HasPrefix s ⟨#[45,62]⟩ wx
 have Xr:∀wx,Calls prog 139 #[.string ⟨#[40,41,61,60,43,45,42,47,59,124,33,46,95]⟩,.int .u8 s[0].toNat] wx fun e w'=>e=.returned (.int .i64 (indexByte signs s[0]))/\w'=wx:=fun wx=>by
  have:=Tryz.strings_IndexByte ⟨#[40,41,61,60,43,45,42,47,59,124,33,46,95]⟩ s[0].toNat wx;simp only[Int.toNat_natCast,UInt8.ofNat_toNat,Nat.toUInt8_eq]at this;exact this
 have hr:=YO s hp;generalize hasPrefix s.data.toList [58,61]=b1 at *;generalize hasPrefix s.data.toList [45,62]=b2 at *;generalize indexByte signs s[0]=i at *;generalize cG s.data.toList=n at *;have Ue:Hid (∀wx,Calls prog 142 #[.string s,.string ⟨#[58,61]⟩] wx fun e w'=>e=.returned (.bool b1)/\w'=wx):=Ny;have Oe:Hid (∀wx,Calls prog 142 #[.string s,.string ⟨#[45,62]⟩] wx fun e w'=>e=.returned (.bool b2)/\w'=wx):=Mv;have Wr:Hid (∀wx,Calls prog 139 #[.string ⟨#[40,41,61,60,43,45,42,47,59,124,33,46,95]⟩,.int .u8 s[0].toNat] wx fun e w'=>e=.returned (.int .i64 i)/\w'=wx):=Xr;have HR:Hid ((n:Int)=if b1=true\/b2=true then 2 else if 0<=i then 1 else 0):=hr;clear Ny Mv Xr hr;cases b1
 ·cases b2
  ·by_cases h:0<=i
   all_goals
    go_enter func103,ntmps103;go_wp2_with fail;refine(Ue.out _).mono ?_;rintro e w'⟨rfl,rfl⟩;go_wp2_with fail;refine(Oe.out _).mono ?_;rintro e w'⟨rfl,rfl⟩;go_wp2_with fail;refine(Wr.out _).mono ?_;rintro e w'⟨rfl,rfl⟩;go_wp2_with fail;go_ret;exact⟨cD (by rw[HR.out];simp[h]),rfl⟩
  ·go_enter func103,ntmps103;go_wp2_with fail;refine(Ue.out _).mono ?_;rintro e w'⟨rfl,rfl⟩;go_wp2_with fail;refine(Oe.out _).mono ?_;rintro e w'⟨rfl,rfl⟩;go_wp2_with fail;go_ret;exact⟨cD (by rw[HR.out];simp),rfl⟩
 ·go_enter func103,ntmps103;go_wp2_with fail;refine(Ue.out _).mono ?_;rintro e w'⟨rfl,rfl⟩;go_wp2_with fail;go_ret;exact⟨cD (by rw[HR.out];simp),rfl⟩
end
section
open Go.RowKit
def Dj{c:UInt8}{n:Nat}(hn:n<256)(h:((c.toNat:Int)==(n:Int))=false):c≠UInt8.ofNat n:=by
 intro e;subst e;simp at h;omega
def nH(s:ByteArray)(w:World)(hs:s.size<=maxLen) :
  Calls prog 64 #[.string s] w fun e w'=>e=.returned (.int .i64 (gap false s.data.toList))/\w'=w:=by
 unfold maxLen at hs;go_enter func64,ntmps64;go_wp2
 go_loop [3] (fun i=>∃k:Nat,k<=s.size/\i=.int .i64 k/\Hid (gap false s.data.toList=k+gap false (s.data.toList.drop k))) (fun i=>s.size-(intOf i).toNat)
 case atStart=>exact⟨0,zero_le _,rfl,show gap _ _=_ by simp⟩
 case round=>
  obtain⟨k,hk,rfl,H⟩:=hrel
  by_cases Js:k<s.size
  ·have hl:s.data.toList.length=s.size:=rfl;have hg:s.data.toList[k]=s[k]:=rfl;cases hb:gO s[k].toNat
   ·have Vi:((s[k].toNat:Int)==32)=false/\((s[k].toNat:Int)==9)=false/\((s[k].toNat:Int)==10)=false:=by
     simp only[gO,Bool.or_eq_false_iff]at hb;exact⟨hb.1.1,hb.1.2,hb.2⟩
    obtain⟨V7,h9,I6⟩:=Vi;cases g9:((s[k].toNat:Int)==35)
    ·have HO:Hid (gap false (s.data.toList.drop k)=0):=PE s.data.toList k Js hb (Dj (n:=35) (by omega) g9);clear hl hg hb;go_wp2;go_ret;exact⟨cD (by rw[H.out,HO.out];simp),rfl⟩
    ·have T7:s[k]=35:=by
      rw[beq_iff_eq]at g9;exact UInt8.toNat_inj.1 (by rw[show (35:UInt8).toNat=35 from rfl];omega)
     have hr:=IV s.data.toList k Js T7;have hle:=wX fJ (s.data.toList.drop k);rw[length_drop,hl]at hle
     have hc:∀wx,Calls prog 94 #[.string (s.extract k s.size)] wx fun e w'=>e=.returned (.int .i64 (cnt fJ (s.data.toList.drop k)))/\w'=wx:=fun wx=>by
      have:=pH (s.extract k s.size) wx;rw[extract_to_end]at this;exact this
     clear T7 hg hl hb;generalize cnt fJ (s.data.toList.drop k)=n at *;have HR:Hid (gap false (s.data.toList.drop k)=n+gap false (s.data.toList.drop (k+n))):=hr.1;have Ld:=hr.2;have HC:Hid (∀wx,Calls prog 94 #[.string (s.extract k s.size)] wx fun e w'=>e=.returned (.int .i64 n)/\w'=wx):=hc;clear hc hr
     go_wp2_with (go_at_call 94;refine(HC.out _).mono ?_;rintro e w'⟨rfl,rfl⟩)
     go_round
     case rel=>exact⟨k+n,by omega,by go_num,show gap _ _=_ by rw[H.out,HR.out];omega⟩
     case measure=>simp[intOf];omega
   ·have HB:Hid (gap false (s.data.toList.drop k)=1+gap false (s.data.toList.drop (k+1))):=PF s.data.toList k Js hb
    have Vi:((s[k].toNat:Int)==32)=true\/(((s[k].toNat:Int)==32)=false/\((s[k].toNat:Int)==9)=true)\/(((s[k].toNat:Int)==32)=false/\((s[k].toNat:Int)==9)=false/\((s[k].toNat:Int)==10)=true):=by
     simp only[gO]at hb;revert hb;cases ((s[k].toNat:Int)==32)<;>cases ((s[k].toNat:Int)==9)<;>cases ((s[k].toNat:Int)==10)<;>simp
    clear hl hg hb;rcases Vi with V7|⟨V7,h9⟩|⟨V7,h9,I6⟩
    all_goals
     go_wp2
     go_round
     case rel=>exact⟨k+1,by omega,by go_num,show gap _ _=_ by rw[H.out,HB.out];omega⟩
     case measure=>simp[intOf];omega
  ·go_wp2;go_ret;exact⟨cD (by rw[H.out,Bh _ _ (show s.size<=k by omega)];simp),rfl⟩
def qP(s:ByteArray)(w:World)(hs:s.size<=maxLen)(hp:0<s.size) :
  Calls prog 65 #[.string s] w fun e w'=>e=.returned (.int .i64 (aY s.data.toList))/\w'=w:=by
 have ht:aY s.data.toList=bif cT s[0].toNat then aX s.data.toList else bif dQ s[0].toNat then cnt kC s.data.toList else bif bS s[0].toNat then gK s.data.toList else if s[0]=39 then dW s.data.toList else cG s.data.toList:=by
  obtain⟨r,e⟩:∃r,s.data.toList=s[0]::r:=⟨_,fA s hp⟩;rw[e];rfl
 generalize aY s.data.toList=R at *;have HT:Hid (R=bif cT s[0].toNat then aX s.data.toList else bif dQ s[0].toNat then cnt kC s.data.toList else bif bS s[0].toNat then gK s.data.toList else if s[0]=39 then dW s.data.toList else cG s.data.toList):=ht;clear ht;cases h1:cT s[0].toNat
 ·cases h2:dQ s[0].toNat
  ·cases h3:bS s[0].toNat
   ·cases h4:((s[0].toNat:Int)==39)
    ·go_enter func65,ntmps65
     go_wp2_with (first|(go_at_call 95;refine(dM _ _).mono ?_;rintro e w'⟨rfl,rfl⟩)|(go_at_call 97;refine(eW _ _).mono ?_;rintro e w'⟨rfl,rfl⟩)|(go_at_call 100;refine(dY _ _).mono ?_;rintro e w'⟨rfl,rfl⟩)|(go_at_call 103;refine(rL _ _ hp).mono ?_;rintro e w'⟨rfl,rfl⟩))
     go_ret;exact⟨cD (by rw[HT.out,h1,h2,h3];simp[if_neg (show ¬s[0]=39 from Dj (n:=39) (by omega) h4)]),rfl⟩
    ·have h5:s[0]=39:=by
      rw[beq_iff_eq]at h4;exact UInt8.toNat_inj.1 (by rw[show (39:UInt8).toNat=39 from rfl];omega)
     have H5:Hid (s[0]=39):=h5;clear h5;go_enter func65,ntmps65
     go_wp2_with (first|(go_at_call 95;refine(dM _ _).mono ?_;rintro e w'⟨rfl,rfl⟩)|(go_at_call 97;refine(eW _ _).mono ?_;rintro e w'⟨rfl,rfl⟩)|(go_at_call 100;refine(dY _ _).mono ?_;rintro e w'⟨rfl,rfl⟩)|(go_at_call 102;refine(pL _ _ hs hp).mono ?_;rintro e w'⟨rfl,rfl⟩))
     go_ret;exact⟨cD (by rw[HT.out,h1,h2,h3];simp[H5.out]),rfl⟩
   ·go_enter func65,ntmps65
    go_wp2_with (first|(go_at_call 95;refine(dM _ _).mono ?_;rintro e w'⟨rfl,rfl⟩)|(go_at_call 97;refine(eW _ _).mono ?_;rintro e w'⟨rfl,rfl⟩)|(go_at_call 100;refine(dY _ _).mono ?_;rintro e w'⟨rfl,rfl⟩)|(go_at_call 101;refine(pJ _ _ hs).mono ?_;rintro e w'⟨rfl,rfl⟩))
    go_ret;exact⟨cD (by rw[HT.out,h1,h2,h3];simp),rfl⟩
  ·go_enter func65,ntmps65
   go_wp2_with (first|(go_at_call 95;refine(dM _ _).mono ?_;rintro e w'⟨rfl,rfl⟩)|(go_at_call 97;refine(eW _ _).mono ?_;rintro e w'⟨rfl,rfl⟩)|(go_at_call 98;refine(iM _ _ hs).mono ?_;rintro e w'⟨rfl,rfl⟩))
   go_ret;exact⟨cD (by rw[HT.out,h1,h2];simp),rfl⟩
 ·go_enter func65,ntmps65
  go_wp2_with (first|(go_at_call 95;refine(dM _ _).mono ?_;rintro e w'⟨rfl,rfl⟩)|(go_at_call 96;refine(eV _ _ hs).mono ?_;rintro e w'⟨rfl,rfl⟩))
  go_ret;exact⟨cD (by rw[HT.out,h1];simp),rfl⟩
end
section
open Go.RowKit
def Tryz.CT:(prog.info? 9).map (fun i=>(i.zero,i.size,i.bytes))=some (some (.string ByteArray.empty),1,16):=by kernel_rfl
def QZ(s:ByteArray)(w:World)(hs:s.size<=281474976710656) :
  Calls prog 66 #[.string s] w fun e w'=>e=.returned (.string s)/\Below w.heap.size w w':=by
 go_enter func66,ntmps66
 go_wp2_with (go_at_call 104;refine(Tryz.stringslite_Clone _ _ hs).mono ?_;rintro e w'⟨rfl,hb⟩)
 go_ret;exact⟨rfl,hb⟩
def Di(s:ByteArray)(w:World)(hs:s.size<=maxLen) :
  Calls prog 31 #[.string s] w fun e w'=>∃v,e=.returned (.tuple #[v,.int .i64 (nO s.data.toList).2.1,.int .i64 (nO s.data.toList).2.2]) /\
   w'.ownsRow w.heap.size 9 1 v (nO s.data.toList).1.length ((nO s.data.toList).1.map bM)/\Below w.heap.size w w':=by
 have N3:s.size<=9223372036854775807:=hs
 by_cases Mo:4000<s.size
 ·have hR:nO s.data.toList=([],0,1):=by
   unfold nO;rw[if_pos (show 4000<s.data.toList.length from Mo)]
  rw[hR];go_enter func31,ntmps31;go_wp2
  go_ret3
  exact⟨_,rfl,ownsRow_nil _ _ _ _,Below.refl _ _⟩
 ·have hR:nO s.data.toList=kB (s.data.toList.length+1) s.data.toList 0 []:=by
   unfold nO;rw[if_neg (show ¬4000<s.data.toList.length from Mo)]
  have Jz:=xF s.data.toList;rw[<- hR]at Jz;have Qo:=VJ false s.data.toList;have Nh:∀wx,Calls prog 64 #[.string s] wx fun e w'=>e=.returned (.int .i64 (gap false s.data.toList))/\w'=wx:=fun wx=>nH s wx hs;have hgl':gap false s.data.toList<=s.size:=Qo;clear Qo hR;generalize nO s.data.toList=R at *;generalize gap false s.data.toList=G0 at *;have Uf:Hid (∀wx,Calls prog 64 #[.string s] wx fun e w'=>e=.returned (.int .i64 G0)/\w'=wx):=Nh;have Km:Hid (mG s.data.toList R G0 []):=Jz;clear Nh Jz;obtain⟨i0,hi,Og,Lz,Nj⟩:=info_parts Tryz.CT;have U3:decide ((4000:Int)<s.size)=false:=by simp;omega
  go_enter func31,ntmps31
  go_wp2_with (go_at_call 64;refine(Uf.out _).mono ?_;rintro e w'⟨rfl,D8⟩;subst w')
  go_loopw [5,6] (fun v i wr=>∃(k:Nat) (toks:List (List UInt8)),k<=s.size/\i=.int .i64 k/\toks.length<=k/\wr.ownsRow w.heap.size 9 1 v toks.length (toks.map bM)/\Below w.heap.size w wr/\Hid (mG s.data.toList R k toks))
   (fun _ i _=>s.size-(intOf i).toNat)
  case atStart=>exact⟨G0,[],hgl',rfl,zero_le _,ownsRow_nil _ _ _ _,Below.refl _ _,Km⟩
  case round=>
   obtain⟨k,toks,hk,rfl,Oh,Jr,Xu,H⟩:=hrel
   by_cases Js:k<s.size
   ·have Yz:k<s.data.toList.length:=Js
    have Ny:∀wx,Calls prog 65 #[.string (s.extract k s.size)] wx fun e w'=>e=.returned (.int .i64 (aY (s.data.toList.drop k)))/\w'=wx:=fun wx=>by
     have:=qP (s.extract k s.size) wx (by simp;omega) (by simp;omega);rw[extract_to_end]at this;exact this
    have hT:=pE (s.data.toList.drop k);have hTs:aY (s.data.toList.drop k)<=s.size-k:=by simpa using hT
    clear hT
    by_cases ht:aY (s.data.toList.drop k)=0
    ·have hR:=JV H.out Yz ht;rw[ht]at Ny;have Ue:Hid (∀wx,Calls prog 65 #[.string (s.extract k s.size)] wx fun e w'=>e=.returned (.int .i64 0)/\w'=wx):=Ny;have HR:Hid (R=([],k,2)):=hR;clear Ny hR Yz ht hTs
     go_wp2_with (go_at_call 65;refine(Ue.out _).mono ?_;rintro e w'⟨rfl,D8⟩;subst w')
     go_ret3
     rw[HR.out];exact⟨_,rfl,ownsRow_nil _ _ _ _,Xu⟩
    ·have hA:=JT H.out Yz ht
     have Xr:∀wx,Calls prog 64 #[.string (s.extract (k+aY (s.data.toList.drop k)) s.size)] wx fun e w'=>e=.returned (.int .i64 (gap false (s.data.toList.drop (k+aY (s.data.toList.drop k)))))/\w'=wx:=fun wx=>by
      have:=nH (s.extract (k+aY (s.data.toList.drop k)) s.size) wx (by simp;omega);rw[extract_to_end]at this;exact this
     have hG:=VJ false (s.data.toList.drop (k+aY (s.data.toList.drop k)));rw[length_drop,show s.data.toList.length=s.size from rfl]at hG;have Jz:=JL s k (k+aY (s.data.toList.drop k));rw[Nat.add_sub_cancel_left]at Jz;generalize gap false (s.data.toList.drop (k+aY (s.data.toList.drop k)))=G at *;generalize (s.data.toList.drop k).take (aY (s.data.toList.drop k))=tk at *;generalize aY (s.data.toList.drop k)=T at *;have Ue:Hid (∀wx,Calls prog 65 #[.string (s.extract k s.size)] wx fun e w'=>e=.returned (.int .i64 T)/\w'=wx):=Ny;have Wr:Hid (∀wx,Calls prog 64 #[.string (s.extract (k+T) s.size)] wx fun e w'=>e=.returned (.int .i64 G)/\w'=wx):=Xr;have HA:Hid (mG s.data.toList R (k+T+G) (toks++[tk])):=hA;have HS:Hid (s.extract k (k+T)=bs tk):=Jz;have Jw:(s.extract k (k+T)).size<=281474976710656:=by simp;omega
     have Ps:((T:Int)==0)=false:=by simp[ht]
     clear Ny Xr hA Jz Yz;go_wp2_with fail;refine(Ue.out _).mono ?_;rintro e w'⟨rfl,D8⟩;subst w';go_wp2_with fail;refine(QZ _ _ Jw).mono ?_;rintro e w1⟨rfl,Kz⟩;have Ll:=uC Jr Kz;have Tn:Below w.heap.size w w1:=Xu.trans (Kz.mono Xu.size);clear Jr Xu Kz
     go_wp2_with (at_builtin;refine wpList_append_own _ rfl _ _ 22 rfl w.heap.size 9 i0 (.string ByteArray.empty) 1 16 underlying22 hi Og Lz Nj rfl (by decide) _ _ _ rfl (Ll.alloc _) ⟨w1.heap.size,0,none⟩ 1 1 [.string (s.extract k (k+T))] rfl rfl ?c1 ?c2 ?c3 ?c4 ?c5 ?_)
     case c1=>exact cell_one_new _ _ _
     case c2=>intro u hu;simp at hu;subst hu;rfl
     case c3=>unfold maxLen;omega
     case c4=>omega
     case c5=>have:=Tn.size;simp;omega
     ·intro v' w2 La Lf _;have Vg:Below w.heap.size w w2:=(Tn.alloc Tn.size _).grown Lf (by have:=Tn.size;simp;omega) (fun g hg=>(Ll.lt g hg).1)
      have Qv:w2.ownsRow w.heap.size 9 1 v' (toks++[tk]).length ((toks++[tk]).map bM):=by
       rw[length_append,map_append];rw[HS.out]at La;exact La
      clear La Lf Ll Tn
      go_wp2_with (go_at_call 64;refine(Wr.out _).mono ?_;rintro e w'⟨rfl,D8⟩;subst w')
      go_roundw
      case rel=>exact⟨k+T+G,toks++[tk],by omega,by go_num,by simp;omega,Qv,Vg,HA⟩
      case measure=>simp[intOf];omega
   ·have hR:=JU H.out (show s.size<=k by omega);have HR:Hid (R=(toks,0,0)):=hR;clear hR;go_wp2
    go_ret3
    rw[HR.out];exact⟨_,rfl,Jr,Xu⟩
end
section
open Go.RowKit
def WD(n:Nat):∀(l:List UInt8) (k:Nat) (acc:List (List UInt8)),(kB n l k acc).1.length<=acc.length+l.length:=by
 induction n with
 |zero=>intro l k acc;simp[kB]
 |succ n ih=>
  intro l k acc;simp only[kB]
  split
  ·simp
  ·split
   ·simp
   ·rename_i h1 h2;have:=ih ((l.drop (gap false l)).drop (aY (l.drop (gap false l)))) (k+gap false l+aY (l.drop (gap false l))) (acc++[(l.drop (gap false l)).take (aY (l.drop (gap false l)))]);have h3:=pE (l.drop (gap false l));simp only[length_append,length_drop,length_cons,length_nil]at this h3;omega
def WC(l:List UInt8):(nO l).1.length<=4000:=by
 unfold nO
 split
 ·simp
 ·have:=WD (l.length+1) l 0 [];simp at this;omega
end
section
open Go.RowKit
def xX(t:List UInt8):Prop:=t≠[]/\∀r,Stops r->aY (t++r)=t.length/\gap false (t++r)=0
def VK(c:UInt8)(t x:List UInt8)(h:gap false (c::t)=0):gap false (c::x)=0:=by
 cases hb:gO c.toNat
 ·by_cases hc:c=35
  ·subst hc;simp only[gap,hb,cond_false,if_true]at h;omega
  ·simp[gap,hb,hc]
 ·simp only[gap,hb,cond_true]at h;omega
def Bf(l:List UInt8)(ht:aY l≠0)(hg:gap false l=0):xX (l.take (aY l)):=by
 have hle:=pE l;have Jm:(l.take (aY l)).length=aY l:=by simp;omega
 refine⟨fun e=>?_,fun r hr=>⟨?_,?_⟩⟩
 ·rw[e]at Jm;simp at Jm;omega
 ·rw[Jm];exact(SI hr l ht).1
 ·cases l with
  |nil=>simp[aY]at ht
  |cons c t=>
   obtain⟨m,hm⟩:∃m,aY (c::t)=m+1:=⟨aY (c::t)-1,by omega⟩;rw[hm,List.take_succ_cons,cons_append];exact VK c t _ hg
def PZ(n:Nat):∀(l:List UInt8) (k:Nat) (acc toks:List (List UInt8)),kB n l k acc=(toks,0,0)->∀t∈toks,t∈acc\/(xX t/\t.length<=l.length):=by
 induction n with
 |zero=>
  intro l k acc toks h t ht;simp only[kB,Prod.mk.injEq,and_true]at h;subst h;exact inl ht
 |succ n ih=>
  intro l k acc toks h t ht;simp only[kB]at h;split at h
  ·simp only[Prod.mk.injEq,and_true]at h;subst h;exact inl ht
  ·split at h
   ·simp at h
   ·rename_i h1 h2;rcases ih _ _ _ _ h t ht with h3|h3
    ·rcases mem_append.1 h3 with h4|h4
     ·exact inl h4
     ·rw[mem_singleton]at h4;subst h4;refine inr ⟨Bf _ h2 (qZ l false),?_⟩;simp;omega
    ·refine inr ⟨h3.1,le_trans h3.2 ?_⟩;simp
def PY(l:List UInt8)(toks:List (List UInt8))(h:nO l=(toks,0,0)):∀t∈toks,xX t/\t.length<=4000:=by
 unfold nO at h;split at h
 ·simp at h
 ·intro t ht;rcases PZ _ _ _ _ _ h t ht with h1|h1
  ·cases h1
  ·exact⟨h1.1,by omega⟩
end
section
open Go.RowKit Go.Shelf
attribute [local go_sem] Oper.semAt_some
def pU(l:dL)(j:Nat):Int×List UInt8:=((l.length:Int)-1-j,l[l.length-1-j]?.getD [])
def eY(l:dL)(k:Nat):List (Int×List UInt8):=(range k).map (pU l)
def ET(l:dL)(k:Nat):eY l (k+1)=eY l k++[pU l k]:=by simp[eY,List.range_succ]
def uQ(l:dL)(k:Nat):(eY l k).length=k:=by simp[eY]
def Bu(x:Int×List UInt8):Array Value:=#[.int .i64 x.1,.string (bs x.2)]
def lG(B N:Nat)(W W':World):Prop:=W.heap.size<=W'.heap.size/\∀k,k<N->k≠B->W'.heap[k]?=W.heap[k]?
def lG.trans{B N:Nat}{a b c:World}(h:lG B N a b)(k:lG B N b c):lG B N a c:=⟨le_trans h.1 k.1,fun i hi hB=>(k.2 i hi hB).trans (h.2 i hi hB)⟩
def WV(F:Fence)(n:Nat)(hf:F.fn 254)(Oj:F.round=none)(hn:1<=n)(lr Bs B N g cap:Nat)(l:dL)(hl:l.length<=4001)(hg:g<N)(G8:g≠B)(Su:Bs<N)(Ur:Bs≠B)(J Jx:List (Int×List UInt8)->World->Prop)
  (hY:∀pre x W,J pre W->pre.length<l.length->YieldAt F (n-1) prog lr (Bu x) W fun e W'=>
   (e=.returned (.bool true)/\J (pre++[x]) W'/\lG B N W W')\/(e=.returned (.bool false)/\Jx (pre++[x]) W'))
  (W:World) (cur:Array Value) (Xy:W.heap[Bs]?=some (.cells #[.slice (some ⟨g,0,none⟩) l.length cap] 22 (0,0))) (C0:W.heap[g]?=some (.cells cur aI (0,0))) (hc:∀(j:Nat)(t:List UInt8),l[j]?=some t->cur[j]?=some (bM t)) (h0:J [] W) :
  CallsIn F n prog 254 #[.func (.yield lr) #[] #[],.pointer (some ⟨Bs,0,none⟩)] W fun e W'=>(∃v,e=.returned v) /\
   ((∃ys,ys=eY l l.length/\J ys W')\/(∃pre,(∃k,k<=l.length/\pre=eY l k)/\Jx pre W')):=by
 refine callsIn_of_wp func254 rfl hf ?_ Oj;simp only[ntmps254,size_toArray,length_cons,length_nil,Nat.reduceAdd,Nat.reduceSub,replicate_succ,replicate_zero,push_toArray,List.append_toArray,nil_append,cons_append];have cB:W.cell? ⟨Bs,0,none⟩=some (.slice (some ⟨g,0,none⟩) l.length cap):=by simp[cell?,Xy]
 gi_wp2
 gi_loopw [3] (fun i wr=>∃k:Nat,k<=l.length/\i=.int .i64 ((l.length:Int)-1-k)/\J (eY l k) wr/\lG B N W wr)
  (fun i _=>(intOf i+1).toNat)
 case atStart=>exact⟨0,zero_le _,by simp,h0,⟨le_refl _,fun _ _ _=>rfl⟩⟩
 case round=>
  obtain⟨k,hk,rfl,Wf,Ml⟩:=hrel;have eB:wr.cell? ⟨Bs,0,none⟩=some (.slice (some ⟨g,0,none⟩) l.length cap):=by simp[cell?,Ml.2 Bs Su Ur,Xy]
  by_cases Js:k<l.length
  ·have hx:=hY _ (pU l k) wr Wf (by rw[uQ];exact Js);have hj:l.length-1-k<l.length:=by omega
   obtain⟨tk,Lo⟩:∃tk,l[l.length-1-k]?=some tk:=⟨_,List.getElem?_eq_getElem hj⟩;have Od:pU l k=((l.length:Int)-1-k,tk):=by unfold pU;rw[Lo];rfl
   have Kh:wr.cell? ⟨g,l.length-1-k,none⟩=some (.string (bs tk)):=by
    have:=hc (l.length-1-k) tk Lo;simp[cell?,Ml.2 g hg G8,C0]
    simpa [bM]using this
   rw[Od]at hx;have C4:eY l (k+1)=eY l k++[((l.length:Int)-1-k,tk)]:=by rw[ET,Od]
   clear Lo Od;obtain⟨fn,tmps,assign,body,hy,hR⟩:=hx;unfold Bu at hy;have S4:(0:Int)<=(l.length:Int)-1-k:=by omega
   have Yk:((l.length:Int)-1-k).toNat=l.length-1-k:=by omega
   have S2:(l.length:Int)-1-k<(l.length:Int):=by omega
   gi_wp2
   refine hR.mono ?_;rintro e W3 (⟨rfl,V3,Le⟩|⟨rfl,Xx⟩)
   ·gi_wp2
    go_roundw
    case rel=>exact⟨k+1,by omega,by simp;omega,by rw[C4];exact V3,Ml.trans Le⟩
    case measure=>simp[intOf];omega
   ·gi_wp2
    refine bodyPost_ret (results_none rfl _ _ _) rfl ?_;exact⟨⟨_,rfl⟩,.inr ⟨_,⟨k+1,by omega,C4.symm⟩,Xx⟩⟩
  ·obtain rfl:k=l.length:=by omega
   have S4:¬(0:Int)<=(l.length:Int)-1-l.length:=by omega
   gi_wp2
   go_end0;exact⟨⟨_,rfl⟩,.inl Wf⟩
def QK(F:Fence)(n:Nat)(hf:F.fn 254)(Oj:F.round=none)(lr Bs:Nat)(J:List (Int×List UInt8)->World->Prop)(W:World)(Su:W.cell? ⟨Bs,0,none⟩=some (.slice none 0 0))(h0:J [] W) :
  CallsIn F n prog 254 #[.func (.yield lr) #[] #[],.pointer (some ⟨Bs,0,none⟩)] W fun e W'=>(∃v,e=.returned v)/\J [] W':=by
 refine callsIn_of_wp func254 rfl hf ?_ Oj;simp only[ntmps254,size_toArray,length_cons,length_nil,Nat.reduceAdd,Nat.reduceSub,replicate_succ,replicate_zero,push_toArray,List.append_toArray,nil_append,cons_append]
 gi_wp2
 gi_loopw [3] (fun i wr=>i=.int .i64 (-1)/\J [] wr) (fun _ _=>0)
 case atStart=>exact⟨rfl,h0⟩
 case round=>
  obtain⟨rfl,Wf⟩:=hrel
  gi_wp2
  go_end0;exact⟨⟨_,rfl⟩,Wf⟩
def Cs(F:Fence)(n:Nat)(hf:F.fn 198)(Oj:F.round=none)(a:Option Addr)(len cap:Nat)(w:World) :
  CallsIn F n prog 198 #[.slice a len cap] w fun e w'=>e=.returned (.func (.func 254) #[] #[.pointer (some ⟨w.heap.size,0,none⟩)])/\w'=w.alloc (.cells #[.slice a len cap] 22):=by
 refine callsIn_of_wp func198 rfl hf ?_ Oj;simp only[ntmps198,size_toArray,length_cons,length_nil,Nat.reduceAdd,Nat.reduceSub,replicate_succ,replicate_zero,push_toArray,List.append_toArray,nil_append,cons_append]
 gi_wp2
 go_ret;exact⟨rfl,rfl⟩
def MJ(B N:Nat)(W:World)(sv:Value)(l:dL):Prop:=
 (sv=.slice none 0 0/\l=[])\/∃g cap cur,sv=.slice (some ⟨g,0,none⟩) l.length cap/\g<N/\g≠B/\W.heap[g]?=some (.cells cur aI (0,0))/\∀(j:Nat)(t:List UInt8),l[j]?=some t->cur[j]?=some (bM t)
def JQ(F:Fence)(n:Nat)(hf:F.fn 254)(Oj:F.round=none)(hn:1<=n)(Bs B:Nat)(sv:Value)(l:dL)(hl:l.length<=4001)(w:World)(Su:Bs<w.heap.size)(Ur:Bs≠B)
  (hc:w.heap[Bs]?=some (.cells #[sv] 22 (0,0))) (hT:MJ B w.heap.size w sv l) :
  SeqStopsK F n prog 254 #[.pointer (some ⟨Bs,0,none⟩)] Bu (lG B w.heap.size) (fun ys=>ys=eY l l.length) (fun pre=>∃k,pre=eY l k) l.length w:=fun lr J Jx W hW _ _ hY h0=>by
 have T8:=(hW.block Bs Su).trans hc;rcases hT with⟨rfl,rfl⟩|⟨g,cap,cur,rfl,hg,G8,Ng,Rh⟩
 ·exact(QK F n hf Oj lr Bs J W (by simp[cell?,T8]) h0).mono fun e W' ⟨he,hj⟩=>⟨he,.inl ⟨_,rfl,hj⟩⟩
 ·refine(WV F n hf Oj hn lr Bs B w.heap.size g cap l hl hg G8 Su Ur J Jx hY W cur T8 ((hW.block g hg).trans Ng) Rh h0).mono ?_;rintro e W'⟨he,⟨ys,rfl,hj⟩|⟨pre,⟨k,hk,rfl⟩,hj⟩⟩
  ·exact⟨he,.inl ⟨_,rfl,hj⟩⟩
  ·exact⟨he,.inr ⟨_,⟨k,rfl⟩,hj⟩⟩
def JR(l:dL):(eY l l.length).map (·.2)=l.reverse:=by
 apply List.ext_getElem
 ·simp[eY]
 ·intro i h1 h2;have hi:i<l.length:=by simpa [eY]using h1
  simp[eY,pU,List.getElem_reverse];rw[List.getElem?_eq_getElem (by omega)];rfl
end
section
open Go.RowKit Go.Shelf
abbrev LC:TypeId:=69
abbrev fU:TypeId:=5
def Tryz.BQ:(prog.info? LC).map (·.size)=some 2:=by kernel_rfl
def Tryz.BP:(prog.info? fU).map (fun i=>(i.zero,i.size,i.bytes))=some (some (.int .u8 0),1,1):=by kernel_rfl
def JI(b:Nat)(w:World)(h0:w.cell? ⟨b,0,none⟩=some (.pointer (some ⟨b,0,none⟩))) :
  Calls prog 78 #[.pointer (some ⟨b,0,none⟩)] w fun e w'=>e=.returned (.tuple #[])/\w'=w:=by
 obtain⟨j,hj,_⟩:=map_eq_some_iff.1 Tryz.BQ;go_enter func78,ntmps78;go_wp2;rw[Lib.run_neq_ptr_same w _ underlying66 hj];go_wp2;go_end0;exact⟨rfl,rfl⟩
end
section
open Go.RowKit
def uP(a b:List UInt8):Lib.byteCells a++Lib.byteCells b=Lib.byteCells (a++b):=by simp[Lib.byteCells]
def yM(x:List UInt8):Lib.strCells (bs x)=Lib.byteCells x:=by rw[Lib.strCells_eq,dD]
end
section
open Go.RowKit
section
variable {w w':World}
def rB(w:World)(e:Ending)(w':World):Prop:=
 Kn (fun _=>False) w w'/\∃tb ad rk,e=.returned (.map (some tb))/\w.heap.size<=tb/\(∀b∈ad,w.heap.size<=b)/\Tab ad tb ahead.env w'/\∀ar,mU ar->aO ar ad (fun _=>False) rk ahead.sto w'
def fX(i:Nat)(p:PS)(nd:Nd)(r:List Nd):dB i p (nd::r)=if (cI p nd).1≠0 then((i,(cI p nd).1),(cI p nd).2)else dB (i+1) (cI p nd).2 r:=by rw[dB]
def rT:∀(a:List Nd)(i:Nat)(p:PS)(nd:Nd),(dB i p a).1=(0,0)->dB i p (a++[nd])=if (cI (dB i p a).2 nd).1≠0 then((i+a.length,(cI (dB i p a).2 nd).1),(cI (dB i p a).2 nd).2)else((0,0),(cI (dB i p a).2 nd).2):=by
 intro a
 induction a with
 |nil=>
  intro i p nd _;rw[nil_append,fX,show dB i p []=((0,0),p)from rfl,length_nil,Nat.add_zero];rfl
 |cons x r ih=>
  intro i p nd h;rw[fX]at h;rw[cons_append,fX];split at h
  ·rename_i hx;exact absurd (Prod.mk.inj h).2 hx
  ·rename_i hx;rw[if_neg hx];rw[show dB i p (x::r)=dB (i+1) (cI p x).2 r by rw[fX,if_neg hx]];rw[ih _ _ _ h,show i+1+r.length=i+(r.length+1) by omega,length_cons]
def GR:∀(a b:List Nd)(i:Nat)(p:PS),(dB i p a).1.2≠0->dB i p (a++b)=dB i p a:=by
 intro a
 induction a with
 |nil=>intro b i p h;exact absurd rfl h
 |cons x r ih=>
  intro b i p h;rw[fX]at h;rw[cons_append,fX,fX];split at h
  ·rename_i hx;rw[if_pos hx,if_pos hx]
  ·rename_i hx;rw[if_neg hx,if_neg hx];exact ih b _ _ h
structure Db(ds:List Nd)(w:World)(pb tb:Nat)(dv:Value)(g:Value)(bl:List Nat)(i:Nat)(wr:World):Prop where
 ok:(dB 0 ahead (ds.take i)).1=(0,0)
 es:KO (nS ds) (dB 0 ahead (ds.take i)).2.env (ds.take i)
 nb:(dB 0 ahead (ds.take i)).2.binds.length<=i
 ps:∃ad rk bv,uT (nS ds) ad rk (dB 0 ahead (ds.take i)).2 tb pb dv bv wr/\(∀b∈ad,w.heap.size<=b)/\∀b,bv.ownBlock=some b->w.heap.size<=b
 bw:Below w.heap.size w wr
 tr:AB.AD wr ds bl
 rw:wr.ownsRow w.heap.size aH 1 g bl.length (bl.map aA)
def uK{p p':PS}{nd:Nd}{e:Nat}(h:cI p nd=(e,p')):p'.binds.length<=p.binds.length+1:=by
 unfold cI at h;simp only at h;split at h
 ·cases h;omega
 ·split at h
  ·cases h;dsimp only;omega
  ·split at h
   ·cases h;omega
   ·split at h
    ·cases h;dsimp only;omega
    ·cases h;dsimp only;rw[length_append];simp
def Db.start{ds:List Nd}{u u2 w:World}{g:Value}{bl:List Nat}{tb:Nat}{dv:Value}{ad:List Nat}{rk:Nat->Nat}(hf:∀nd∈ds,jM nd)(hr:u.ownsRow w.heap.size aH 1 g bl.length (bl.map aA))(hm:AB.AD u ds bl)(hb:Below w.heap.size w u)
  (hk:Kn (fun _=>False) u u2) (ht:Tab ad tb ahead.env u2) (hs:∀ar,mU ar->aO ar ad (fun _=>False) rk ahead.sto u2) (Um:∀b∈ad,u.heap.size<=b) (Z9:dv=g) :
  Db ds w u2.heap.size tb dv g bl 0 (u2.alloc (.cells #[dv,.slice none 0 0,.map (some tb)] jW)):=by
 have Le:Kn (fun _=>False) u2 (u2.alloc (.cells #[dv,.slice none 0 0,.map (some tb)] jW)):=(Kn.refl _ u2).alloc _;have Mr:=hk.trans Le;have Ke:=hb.size;refine⟨rfl,XD _,le_refl _,⟨ad,rk,.slice none 0 0,⟨(hs _ (xG hf)).stays Le,rfl,ht.stays Le,(MapKept.heap_alloc u2 _).1,ownsRow_nil _ _ _ _,by simp[List.take_zero,dB,ahead]⟩,fun b Mf=>?_,fun b Mf=>by simp[Value.ownBlock]at Mf⟩,?_,?_,?_⟩
 ·have:=Um b Mf;omega
 ·refine⟨Mr.os.trans hb.os,Mr.tape.trans hb.tape,Mr.output.trans hb.output,le_trans hb.size Mr.size,fun k R0=>?_⟩;rw[Mr.block k (by omega) id];exact hb.block k R0
 ·exact hm.kept (fun q c f hc=>Mr.block q (aB hc) id) (fun q c f hc=>Mr.block q (aB hc) id)
 ·exact aE hr fun q c f _ hc=>Mr.block q (aB hc) id
def Db.step{ds:List Nd}{w:World}{pb tb:Nat}{dv:Value}{a:Option Addr}{n c:Nat}{bl:List Nat}{i:Nat}{wr:World}(hf:∀nd∈ds,jM nd)(hds:ds.length<=100000)(Pv:w.heap.size<=tb)(hpb:w.heap.size<=pb)(h:Db ds w pb tb dv (.slice a n c) bl i wr)(hi:i<n) :
  ∃g b,a=some ⟨g,0,none⟩/\wr.cell? ⟨g,i,none⟩=some (aA b)/\g<wr.heap.size /\
   Calls prog 16 #[aA pb,aA b] wr fun e u=>∃er:Nat,e=.returned (.int .i64 er)/\er<=1000/\Below w.heap.size w u /\
    (er≠0->dB 0 ahead ds=((i,er),(cI (dB 0 ahead (ds.take i)).2 (ds[i]?.getD ⟨0,[],[]⟩)).2))/\(er=0->Hid (Db ds w pb tb dv (.slice a n c) bl (i+1) u)):=by
 have Jm:=h.tr.len
 obtain⟨Uc,Qk⟩:n=bl.length/\(0<bl.length->∃g',a=some ⟨g',0,none⟩):=by
  rcases aD h.rw with⟨h,h0⟩|⟨g,cap,h⟩
  ·cases h;exact⟨h0.symm,fun h=>by omega⟩
  ·cases h;exact⟨rfl,fun _=>⟨g,rfl⟩⟩
 have hv:ds[i]?=some ds[i]:=List.getElem?_eq_getElem (by omega);have Lo:ds.take (i+1)=ds.take i++[ds[i]]:=by rw[List.take_add_one,hv];rfl
 have Ot:ds=ds.take i++ds[i]::ds.drop (i+1):=by
  rw[List.getElem_cons_drop];exact(List.take_append_drop i ds).symm
 generalize ds[i]=nd at hv Lo Ot;obtain⟨b,hb,Mp⟩:=h.tr.at hv;obtain⟨g,rfl⟩:=Qk (by omega);have Jn:=h.rw;rw[Uc]at Jn;refine⟨g,b,rfl,?_,(Jn.lt g rfl).2,?_⟩
 ·rw[Jn.cellAt i (by omega),getElem?_map,hb];rfl
 ·obtain⟨ad,rk,bv,Lu,Um,I2⟩:=h.ps;have K6:=h.es;rw[Ot]at hf;have hd:=EE (a:=ds.take i) (nd:=nd) (b:=ds.drop (i+1)) hf (by rw[<- Ot];exact K6) (by rw[<- Ot];exact Lu) Mp (by have:=h.nb;omega);rw[<- Ot]at hd hf;refine hd.mono ?_;rintro e u⟨hk,rfl,Lb⟩
  have Qj:Below w.heap.size w u:=by
   refine⟨hk.os.trans h.bw.os,hk.tape.trans h.bw.tape,hk.output.trans h.bw.output,le_trans h.bw.size hk.size,fun q hq=>?_⟩;rw[hk.block q (by have:=h.bw.size;omega) fun hd=>?_]
   ·exact h.bw.block q hq
   ·rcases hd with hd|hd|hd|hd
    ·have:=Um q hd;omega
    ·omega
    ·omega
    ·have:=I2 q hd;omega
  have Z8:(cI (dB 0 ahead (ds.take i)).2 nd).1<=1000:=by
   unfold cI;simp only
   split
   ·dsimp only;unfold jF
    split
    ·omega
    ·split<;>omega
   ·split
    ·exact zero_le _
    ·split
     ·dsimp only;omega
     ·split<;>exact zero_le _
  refine⟨_,rfl,Z8,Qj,fun Ju=>?_,fun h0=>?_⟩
  ·have Ub:=rT (ds.take i) 0 ahead nd h.ok;rw[if_pos Ju,Nat.zero_add,List.length_take,show min i ds.length=i by omega]at Ub;have Jz:=GR (ds.take (i+1)) (ds.drop (i+1)) 0 ahead (by rw[Lo,Ub];exact Ju);rw[List.take_append_drop,Lo,Ub]at Jz;rw[hv];exact Jz
  ·obtain⟨l,rk',bv',u0,B7,Vi⟩:=Lb h0;have Ub:=rT (ds.take i) 0 ahead nd h.ok;rw[if_neg (by simpa using h0)]at Ub;have T2:cI (dB 0 ahead (ds.take i)).2 nd=(0,(cI (dB 0 ahead (ds.take i)).2 nd).2):=Prod.ext h0 rfl;have hse:=KO.step (b:=ds.drop (i+1)) (hf nd (List.mem_of_getElem? hv)) (by rw[<- Ot];exact K6) T2;rw[<- Ot]at hse;have Wn:=uK T2
   have Zd:∀(q:Nat)(c:Array Value)(f:Nat×Nat)(t:TypeId),t=cS\/t=aH->wr.heap[q]?=some (.cells c t f)->u.heap[q]?=wr.heap[q]?:=fun q c f t ht hc=>hk.block q (aB hc) fun hd=>by
    rcases hd with hd|hd|hd|hd
    ·exact Lu.BZ hc (by rcases ht with rfl|rfl<;>decide) hd
    ·exact Lu.AF hc hd
    ·rw[hd,Lu.prog]at hc;rcases ht with rfl|rfl<;>exact absurd (aN hc) (by decide)
    ·rcases Lu.row.2 with⟨h1,_⟩|⟨g',cap',cur',h1,_,Sj,_⟩
     ·rw[h1]at hd;simp[Value.ownBlock]at hd
     ·rw[h1]at hd;obtain rfl:g'=q:=by simpa [Value.ownBlock]using hd
      rw[hc]at Sj;rcases ht with rfl|rfl<;>exact absurd (aN Sj) (by decide)
   refine aC ⟨by rw[Lo,Ub],by rw[Lo,Ub];exact hse,by rw[Lo,Ub];have:=h.nb;dsimp only;omega,⟨ad++l,rk',bv',by rw[Lo,Ub];exact u0,fun q hq=>?_,fun q hq=>?_⟩,Qj,h.tr.kept (fun q c f hc=>Zd q c f _ (inl rfl) hc) (fun q c f hc=>Zd q c f _ (inr rfl) hc),aE h.rw fun q c f _ hc=>Zd q c f _ (inr rfl) hc⟩
   ·rcases mem_append.1 hq with hq|hq
    ·exact Um q hq
    ·have:=B7 q hq;have:=h.bw.size;omega
   ·rcases Vi q hq with hq|hq
    ·exact I2 q hq
    ·have:=h.bw.size;omega
end
end
section
open Go
section
variable {P:Program}{md:Region.Mode}{ops:Array Oper}{Q:Exit->Act->World->Prop}
def unl(l:Array Bool):Nat:=l.count false
def LA{l:Array Bool}{i:Nat}(h:l.getD i true=false):unl (l.setIfInBounds i true)+1=unl l:=by
 have hi:i<l.size:=by
  rcases Nat.lt_or_ge i l.size with h'|h'
  ·exact h'
  ·simp[getD,Nat.not_lt.2 h']at h
 have hx:l[i]=false:=by simpa [getD,hi]using h
 have hs:l.setIfInBounds i true=l.set i true hi:=by simp[Array.setIfInBounds,hi]
 unfold unl;rw[hs,Array.count_set,hx];have:0<l.count false:=Array.count_pos_iff.2 (by rw[<- hx];exact Array.getElem_mem hi);simp;omega
def uZ{l:Array Bool}{i:Nat}(h:i∈Region.ready md ops l):l.getD i true=false:=(mem_ready.1 h).1
def MQ{I:Array Bool->Act->World->Prop}(Kp:∀l a w,I l a w->∀i∈Region.ready md ops l,wpOp P ops Q i (fun a' w'=>I (l.setIfInBounds i true) a' w') a w)
  (Mu:∀l a w,I l a w->Region.ready md ops l=[]->Q .normal a w):∀(fuel:Nat)(l:Array Bool)(a:Act)(w:World),unl l<=fuel->I l a w->wpAny P md ops Q fuel l a w:=by
 intro fuel
 induction fuel with
 |zero=>
  intro l a w hu h
  have h0:Region.ready md ops l=[]:=by
   cases hr:Region.ready md ops l with
   |nil=>rfl
   |cons x xs=>
    have:=LA (uZ (by rw[hr];exact mem_cons_self ..));omega
  exact⟨h0,Mu l a w h h0⟩
 |succ n ih=>
  intro l a w hu h;refine⟨Mu l a w h,fun i hi=>?_⟩;have h1:=LA (uZ hi);exact wpOp_mono (fun a' w' h'=>ih _ _ _ (by omega) h') (Kp l a w h i hi)
def NS{l:Array Bool}(ho:∀(i:Nat)(o:Oper),ops[i]?=some o->∀e∈o.after,e.on<i)(hr:Region.ready md ops l=[])(hs:l.size=ops.size):∀i,i<ops.size->l.getD i false=true:=by
 intro i
 induction i using Nat.strongRecOn with
 |ind i ih=>
  intro hi;have Lc:i<l.size:=by omega
  cases hl:l[i]with
  |true=>simp[getD,Lc,hl]
  |false=>
   exfalso
   have:i∈Region.ready md ops l:=mem_ready.2 ⟨by simp[getD,Lc,hl],ops[i],by simp[hi],fun e he _=>by
    have h1:=ho i ops[i] (by simp[hi]) e he
    exact ih e.on h1 (by omega)⟩
   rw[hr]at this;cases this
def Cl(md:Region.Mode)(ops:Array Oper)(l:Array Bool):Prop:=∀(j:Nat)(o:Oper),ops[j]?=some o->l.getD j false=true->∀e∈o.after,Region.binds md e=true->l.getD e.on false=true
def zS{l:Array Bool}{i j:Nat}(h:(l.setIfInBounds i true).getD j false=true):l.getD j false=true\/j=i:=by
 by_cases Qy:i=j
 ·exact inr Qy.symm
 ·rw[getD_set_ne false Qy]at h;exact inl h
def IU{l:Array Bool}{i:Nat}(h:l.getD i true=false):l.getD i false=false/\i<l.size:=by
 rcases Nat.lt_or_ge i l.size with h'|h'
 ·refine⟨?_,h'⟩;simp[getD,h']at h ⊢;exact h
 ·simp[getD,Nat.not_lt.2 h']at h
def Cl.set{l:Array Bool}{i:Nat}(h:Cl md ops l)(hi:i∈Region.ready md ops l):Cl md ops (l.setIfInBounds i true):=by
 obtain⟨_,o,ho,Mh⟩:=mem_ready.1 hi;intro j oj hj hl e he hb;rcases zS hl with h1|rfl
 ·exact getD_set_true (h j oj hj h1 e he hb)
 ·rw[ho]at hj;cases hj;exact getD_set_true (Mh e he hb)
def tU{I:Array Bool->Act->World->Prop}{id:Nat}{a:Act}{w:World}(hm:P.follows .mixedOrders=true)
  (Kp:∀l a w,I l a w->Cl .any ops l->l.size=ops.size->∀i∈Region.ready .any ops l,wpOp P ops Q i (fun a' w'=>I (l.setIfInBounds i true) a' w') a w)
  (Mu:∀l a w,I l a w->(∀i,i<ops.size->l.getD i false=true)->Q .normal a w) (ho:∀(i:Nat)(o:Oper),ops[i]?=some o->∀e∈o.after,e.on<i)
  (h0:I (replicate ops.size false) a { w with drawn:=w.drawn+1 }):(Code.region id ops true).wp P Q a w:=by
 refine wp_region_any hm (MQ (I:=fun l a w=>I l a w/\Cl .any ops l/\l.size=ops.size) ?_ ?_ _ _ _ _ ?_ ⟨h0,?_,by simp⟩)
 ·rintro l a w⟨h1,h2,h3⟩ i hi;exact wpOp_mono (fun a' w' h'=>⟨h',h2.set hi,by simpa using h3⟩) (Kp l a w h1 h2 h3 i hi)
 ·rintro l a w⟨h1,h2,h3⟩ hr;exact Mu l a w h1 (NS ho hr h3)
 ·unfold unl;simp
 ·intro j o _ hl;simp[getD]at hl
def rY{i:Nat}{o:Oper}{v:Value}{a:Act}{w w':World}{K:Act->World->Prop}(hi:ops[i]?=some o)(hg:o.guard=none)(hr:(execOp a.eval o).run P w=.ok (.value v) w')(hK:K (a.put o.dst v) w'):wpOp P ops Q i K a w:=by
 unfold wpOp;simp only[hi];rw[if_pos (by simp[Region.wanted,hg])]
 left
 unfold Oper.wp;rw[hr];exact hK
def Af{i:Nat}{o:Oper}{a:Act}{w w':World}{K:Act->World->Prop}(hi:ops[i]?=some o)(hg:o.guard=none)(hr:(execOp a.eval o).run P w=.ok .skip w')(hK:K (a.put o.dst undef) w'):wpOp P ops Q i K a w:=by
 unfold wpOp;simp only[hi];rw[if_pos (by simp[Region.wanted,hg])]
 left
 unfold Oper.wp;rw[hr];exact hK
def zB{i:Nat}{o:Oper}{f:Nat}{args:Array Value}{a:Act}{w:World}{K:Act->World->Prop}(hi:ops[i]?=some o)(hg:o.guard=none)(hr:(execOp a.eval o).run P w=.ok (.enter f args) w)(hK:Calls P f args w fun e w'=>∃v,e=.returned v/\K (a.put o.dst v) w'):wpOp P ops Q i K a w:=by
 unfold wpOp;simp only[hi];rw[if_pos (by simp[Region.wanted,hg])]
 left
 unfold Oper.wp;rw[hr,Oper.upon_enter];refine hK.mono ?_;rintro e w'⟨v,rfl,h⟩;exact h
end
end
section
open Go.RowKit
def IF(p:Option Addr)(k:Int):Value:=.agg #[.pointer p,.string ⟨#[]⟩,.slice none 0 0,.slice none 0 0,.int .i64 0,.int .i64 k]
def XQ(b:Nat):Value:=IF (some ⟨b,0,none⟩) 0
def IM(s:Nat)(nm:Array UInt8):Value:=.agg #[.int .i64 s,.string ⟨nm⟩]
def fM(f:Nat)(args:Array Operand)(ts:Array TypeId):Op:=.call { callee:=.value (.func f),args:=args,argTypes:=ts }
def tX(nm:Array UInt8):Operand:=.const (.string ⟨nm⟩)
def TV:Nat->Op
 |0=>.makeMap dA none
 |1=>fM 35 #[tX #[105,110,116]] #[aI]
 |2=>.build iK #[]
 |3=>.insert dA (.tmp 3) (.tmp 4) (.tmp 5)
 |4=>fM 35 #[tX #[98,111,111,108]] #[aI]
 |5=>.build iK #[]
 |6=>.insert dA (.tmp 3) (.tmp 6) (.tmp 7)
 |7=>fM 35 #[tX #[117,110,105,116]] #[aI]
 |8=>.build iK #[]
 |9=>.insert dA (.tmp 3) (.tmp 8) (.tmp 9)
 |10=>fM 35 #[tX #[114,101,102]] #[aI]
 |11=>.build iK #[(2,.const (.int .i64 1))]
 |12=>.insert dA (.tmp 3) (.tmp 10) (.tmp 11)
 |13=>fM 36 #[tX #[112,117,116]] #[aI]
 |14=>fM 38 #[] #[]
 |15=>fM 39 #[] #[]
 |16=>.buildSlice 111 2 #[(0,.tmp 13),(1,.tmp 14)]
 |17=>fM 37 #[.tmp 15] #[111]
 |18=>.build iK #[(0,.tmp 16)]
 |19=>.insert dA (.tmp 3) (.tmp 12) (.tmp 17)
 |20=>fM 36 #[tX #[103,101,116]] #[aI]
 |21=>fM 39 #[] #[]
 |22=>fM 38 #[] #[]
 |23=>.buildSlice 111 2 #[(0,.tmp 19),(1,.tmp 20)]
 |24=>fM 37 #[.tmp 21] #[111]
 |25=>.build iK #[(0,.tmp 22)]
 |26=>.insert dA (.tmp 3) (.tmp 18) (.tmp 23)
 |27=>fM 36 #[tX #[114,101,102]] #[aI]
 |28=>.move (.tmp 1)
 |29=>.move (.tmp 1)
 |30=>fM 40 #[.tmp 26] #[aG]
 |31=>.buildSlice 111 2 #[(0,.tmp 25),(1,.tmp 27)]
 |32=>fM 37 #[.tmp 28] #[111]
 |33=>.build iK #[(0,.tmp 29)]
 |34=>.insert dA (.tmp 3) (.tmp 24) (.tmp 30)
 |35=>.move (.tmp 3)
 |_=>.assign (.tmp 31)
def kU:Nat->Option Nat
 |0=>some 3|1=>some 4|2=>some 5|3=>none|4=>some 6|5=>some 7|6=>none|7=>some 8|8=>some 9|9=>none
 |10=>some 10|11=>some 11|12=>none|13=>some 12|14=>some 13|15=>some 14|16=>some 15|17=>some 16|18=>some 17|19=>none
 |20=>some 18|21=>some 19|22=>some 20|23=>some 21|24=>some 22|25=>some 23|26=>none|27=>some 24|28=>some 25|29=>some 26
 |30=>some 27|31=>some 28|32=>some 29|33=>some 30|34=>none|35=>some 31|_=>some 0
def pW:Nat->List Nat
 |3=>[0,1,2]|4=>[1]|6=>[0,4,5]|7=>[4]|9=>[0,7,8]|10=>[7]|12=>[0,10,11]|13=>[10]|14=>[13]|15=>[14]
 |16=>[14,15]|17=>[16,15]|18=>[17]|19=>[0,13,18]|20=>[17]|21=>[20]|22=>[21]|23=>[21,22]|24=>[23,22]|25=>[24]
 |26=>[0,20,25]|27=>[24]|30=>[29,27]|31=>[28,30]|32=>[31,30]|33=>[32]|34=>[0,27,33]|35=>range 35|36=>[35,32]++range 36
 |_=>[]
def iO(ops:Array Oper):Prop:=
 ops.toList.map (fun o=>(o.dst,o.op,o.guard,(o.after.toList.filter (Region.binds .any)).map (·.on)))=(range 37).map fun i=>(kU i,TV i,none,pW i)
def gA:Nat->Nat
 |1=>14|2=>15|3=>17|4=>21|5=>22|6=>24|7=>30|8=>32|9=>0|10=>16|11=>23|12=>31|_=>99
def wI(b:Nat):Value:=.slice (some ⟨b,0,none⟩) 2 2
def vS(g:Nat->Nat):Nat->Value
 |0=>.map (some (g 9))|1=>IM 2 #[105,110,116]|2=>IF none 0|4=>IM 2 #[98,111,111,108]|5=>IF none 0|7=>IM 2 #[117,110,105,116]|8=>IF none 0
 |10=>IM 2 #[114,101,102]|11=>IF none 1|13=>IM 0 #[112,117,116]|14=>aA (g 1)|15=>aA (g 2)|16=>wI (g 10)|17=>aA (g 3)|18=>XQ (g 3)
 |20=>IM 0 #[103,101,116]|21=>aA (g 4)|22=>aA (g 5)|23=>wI (g 11)|24=>aA (g 6)|25=>XQ (g 6)|27=>IM 0 #[114,101,102]|28=>aA (g 0)|29=>aA (g 0)
 |30=>aA (g 7)|31=>wI (g 12)|32=>aA (g 8)|33=>XQ (g 8)|35=>.map (some (g 9))|36=>.map (some (g 9))|_=>undef
def kA(g:Nat->Nat):Nat->Option (Ky×Value)
 |3=>some ((2,[105,110,116]),IF none 0)|6=>some ((2,[98,111,111,108]),IF none 0)|9=>some ((2,[117,110,105,116]),IF none 0)|12=>some ((2,[114,101,102]),IF none 1)
 |19=>some ((0,[112,117,116]),XQ (g 3))|26=>some ((0,[103,101,116]),XQ (g 6))|34=>some ((0,[114,101,102]),XQ (g 8))|_=>none
def KY:Nat->List Nat
 |0=>[9]|14=>[1]|15=>[2]|16=>[10]|17=>[3]|18=>[3]|19=>[3]|21=>[4]|22=>[5]|23=>[11]|24=>[6]|25=>[6]|26=>[6]|28=>[0]|29=>[0]
 |30=>[7]|31=>[12]|32=>[8]|33=>[8]|34=>[8]|35=>[9]|36=>[9]|_=>[]
def Hj{p:Nat->Prop}(h0:p 0)(h1:p 1)(h2:p 2)(h3:p 3)(h4:p 4)(h5:p 5)(h6:p 6)(h7:p 7)(h8:p 8)(h9:p 9)(I6:p 10)(L4:p 11)(h12:p 12)(h13:p 13)(Zq:p 14)(h15:p 15)(L0:p 16)(C7:p 17)(Ri:p 18)(h19:p 19)(h20:p 20)(i3:p 21)(C6:p 22)(h23:p 23)(h24:p 24)(h25:p 25)(h26:p 26)(h27:p 27)(h28:p 28)(h29:p 29)(h30:p 30)(h31:p 31)(V7:p 32)(h33:p 33)(h34:p 34)(g9:p 35)(h36:p 36):∀j,j<37->p j:=by
 intro j hj
 match j,hj with
 |0,_=>exact h0
 |1,_=>exact h1
 |2,_=>exact h2
 |3,_=>exact h3
 |4,_=>exact h4
 |5,_=>exact h5
 |6,_=>exact h6
 |7,_=>exact h7
 |8,_=>exact h8
 |9,_=>exact h9
 |10,_=>exact I6
 |11,_=>exact L4
 |12,_=>exact h12
 |13,_=>exact h13
 |14,_=>exact Zq
 |15,_=>exact h15
 |16,_=>exact L0
 |17,_=>exact C7
 |18,_=>exact Ri
 |19,_=>exact h19
 |20,_=>exact h20
 |21,_=>exact i3
 |22,_=>exact C6
 |23,_=>exact h23
 |24,_=>exact h24
 |25,_=>exact h25
 |26,_=>exact h26
 |27,_=>exact h27
 |28,_=>exact h28
 |29,_=>exact h29
 |30,_=>exact h30
 |31,_=>exact h31
 |32,_=>exact V7
 |33,_=>exact h33
 |34,_=>exact h34
 |35,_=>exact g9
 |36,_=>exact h36
 |k+37,hj=>exact absurd hj (by omega)
def KX{g g':Nat->Nat}:∀j,j<37->(∀q∈KY j,g' q=g q)->vS g' j=vS g j/\kA g' j=kA g j:=by
 apply Hj<;>intro h<;>simp[KY]at h<;>simp[vS,kA,h]
end
section
open Go.RowKit
def Ls(l:Array Bool)(i:Nat):Prop:=l.getD i false=true
def Ls.set{l:Array Bool}{i j:Nat}(h:Ls l j):Ls (l.setIfInBounds i true) j:=getD_set_true h
def Ls.here{l:Array Bool}{i:Nat}(h:i<l.size):Ls (l.setIfInBounds i true) i:=by
 unfold Ls;simp[getD,h]
def Ls.BO{l:Array Bool}{i j:Nat}(h:Ls (l.setIfInBounds i true) j):Ls l j\/j=i:=zS h
def Ls.CA{l:Array Bool}{i j:Nat}(Ju:j≠i):Ls (l.setIfInBounds i true) j↔Ls l j:=⟨fun h=>(h.BO).resolve_right Ju,Ls.set⟩
def Kc(l:Array Bool):Prop:=∀j,j<37->Ls l j->∀k∈pW j,Ls l k
section
variable {ops:Array Oper}{l:Array Bool}{i:Nat}
def iO.at(h:iO ops){o:Oper}(ho:ops[i]?=some o):i<37/\o.dst=kU i/\o.op=TV i/\o.guard=none/\(o.after.toList.filter (Region.binds .any)).map (·.on)=pW i:=by
 have h1:(ops.toList.map (fun o=>(o.dst,o.op,o.guard,(o.after.toList.filter (Region.binds .any)).map (·.on))))[i]?=((range 37).map fun i=>(kU i,TV i,none,pW i))[i]?:=by rw[h]
 rw[getElem?_map,getElem?_map,show ops.toList[i]?=some o by simpa using ho]at h1;rcases Nat.lt_or_ge i 37 with h2|h2
 ·rw[List.getElem?_range h2]at h1;simp only[Option.map_some,Option.some.injEq,Prod.mk.injEq]at h1;exact⟨h2,h1⟩
 ·rw[List.getElem?_eq_none (by simpa using h2)]at h1;cases h1
def iO.size(h:iO ops):ops.size=37:=by
 have:=congrArg List.length h
 simpa using this
def iO.kc(h:iO ops)(hc:Cl .any ops l):Kc l:=by
 intro j hj hl k hk;have hs:=h.size;have hjo:ops[j]?=some ops[j]:=by simp
 obtain⟨_,_,_,_,ha⟩:=h.at hjo;rw[<- ha]at hk;obtain⟨e,he,rfl⟩:=List.mem_map.1 hk;obtain⟨Np,Pf⟩:=List.mem_filter.1 he;exact hc j _ hjo hl e (by simpa using Np) Pf
def iO.ready(h:iO ops)(hi:i∈Region.ready .any ops l):i<37/\¬Ls l i/\(∀k∈pW i,Ls l k)/\∃o,ops[i]?=some o/\o.dst=kU i/\o.op=TV i/\o.guard=none:=by
 obtain⟨h0,o,ho,Mh⟩:=mem_ready.1 hi;obtain⟨h1,h2,h3,h4,h5⟩:=h.at ho;refine⟨h1,fun hl=>?_,fun k hk=>?_,o,ho,h2,h3,h4⟩
 ·have:=(IU h0).1;unfold Ls at hl;rw[this]at hl;cases hl
 ·rw[<- h5]at hk;obtain⟨e,he,rfl⟩:=List.mem_map.1 hk;obtain⟨Np,Pf⟩:=List.mem_filter.1 he;exact Mh e (by simpa using Np) Pf
def FY:∀j,j<37->∀q∈KY j,q=0\/gA q=j\/gA q∈pW j\/∃k∈pW j,k<37/\gA q∈pW k:=by decide
def Kc.uses(h:Kc l){j:Nat}(hj:j<37)(hl:Ls l j){q:Nat}(hq:q∈KY j):q=0\/Ls l (gA q):=by
 rcases FY j hj q hq with h1|h1|h1|⟨k,hk,Jy,h1⟩
 ·exact inl h1
 ·rw[h1];exact inr hl
 ·exact inr (h j hj hl _ h1)
 ·exact inr (h k Jy (h j hj hl k hk) _ h1)
def Bv:∀i,i<37->∀j,j<37->kU i=kU j->kU i≠none->i=j:=by decide
def VY:∀i,i<37->kU i≠some 1/\(kU i).getD 0<32:=by decide
structure KS(a0:Act)(g:Nat->Nat)(l:Array Bool)(a:Act):Prop where
 ts:a.tmps.size=32
 df:a.defers=a0.defers
 t1:a.tmps[1]?=some (aA (g 0))
 sl:∀j s,j<37->Ls l j->kU j=some s->a.tmps[s]?=some (vS g j)
def KS.step{a0 a:Act}{g g':Nat->Nat}{v:Value}(h:KS a0 g l a)(hk:Kc l)(hi:i<37)(Wx:¬Ls l i)(hg:∀q,gA q≠i->g' q=g q)(hv:∀s,kU i=some s->v=vS g' i):KS a0 g' (l.setIfInBounds i true) (a.put (kU i) v):=by
 have Ov:g' 0=g 0:=hg 0 (show 99≠i by omega);obtain⟨d1,d2⟩:=VY i hi;refine⟨?_,?_,?_,fun j s hj hl hs=>?_⟩
 ·cases hd:kU i<;>simp[Act.put,h.ts]
 ·cases hd:kU i<;>simp[Act.put,h.df]
 ·rw[Ov]
  cases hd:kU i with
  |none=>exact h.t1
  |some s=>
   have Ju:s≠1:=fun e=>d1 (by rw[hd,e])
   show (a.tmps.setIfInBounds s v)[1]?=_;rw[Array.getElem?_setIfInBounds_ne Ju];exact h.t1
 ·by_cases hji:j=i
  ·subst hji;rw[hs];have t5:s<a.tmps.size:=by rw[h.ts];rw[hs]at d2;exact d2
   show (a.tmps.setIfInBounds s v)[s]?=_;rw[Array.getElem?_setIfInBounds_self_of_lt t5,hv s hs]
  ·have hl:=hl.BO.resolve_right hji
   have Ys:vS g' j=vS g j:=(KX j hj (fun q hq=>by
    rcases hk.uses hj hl hq with rfl|h1
    ·exact Ov
    ·exact hg q (fun e=>Wx (e ▸ h1)))).1
   rw[Ys]
   cases hd:kU i with
   |none=>exact h.sl j s hj hl hs
   |some s'=>
    have Ju:s'≠s:=fun e=>hji (Bv j hj i hi (by rw[hs,hd,e]) (by rw[hs];simp))
    show (a.tmps.setIfInBounds s' v)[s]?=_;rw[Array.getElem?_setIfInBounds_ne Ju];exact h.sl j s hj hl hs
def Ck(w w':World):Prop:=∀(k:Nat)(c:Array Value)(t:TypeId)(f:Nat×Nat),w.heap[k]?=some (.cells c t f)->w'.heap[k]?=some (.cells c t f)
def Ck.alloc(w:World)(o:Obj):Ck w (w.alloc o):=fun k c t f h=>by rw[Below.heap_alloc _ _ _ (aB h)];exact h
def Ck.trans{a b c:World}(h:Ck a b)(k:Ck b c):Ck a c:=fun i d t f hi=>k i d t f (h i d t f hi)
def Ck.AM{w w':World}{b:Nat}(h:w.mapTurned w' b):Ck w w':=fun k c t f hk=>by rw[bJ h hk];exact hk
def aO.ck{ar:Nm->Nat}{ad:List Nat}{X:Nat->Prop}{rk:Nat->Nat}{U:TS}{w w':World}(h:aO ar ad X rk U w)(hc:Ck w w'):aO ar ad X rk U w':=
 h.kept (fun k hk=>by
  obtain⟨c,f,hb⟩:=h.isT hk
  rw[hb,hc _ _ _ _ hb]) (fun k c f _ hb=>by rw[hb,hc _ _ _ _ hb])
def rS(g:Nat->Nat):Nat->Array Value
 |10=>#[aA (g 1),aA (g 2)]|11=>#[aA (g 4),aA (g 5)]|_=>#[aA (g 0),aA (g 7)]
def upd(g:Nat->Nat)(q b:Nat):Nat->Nat:=fun x=>if x=q then b else g x
def nX(m:Nat):TS:=⟨ahead.sto.nodes.take m,[],[]⟩
def tR(g:Nat->Nat)(m:Nat):List Nat:=(range m).map g
structure KW(w0:World)(g:Nat->Nat)(l:Array Bool)(w:World):Prop where
 kn:Kn (fun _=>False) w0 w
 g0:w0.heap.size<=g 0
 lo:∀q,1<=q->q<=12->Ls l (gA q)->w0.heap.size<=g q
 nd:∃m,1<=m/\m<=9/\(∀k,1<=k->k<9->(Ls l (gA k)↔k<m))/\∀ar,mU ar->aO ar (tR g m) (fun _=>False) (fun _=>0) (nX m) w
 rw:∀q,q=10\/q=11\/q=12->Ls l (gA q)->w.heap[g q]?=some (.cells (rS g q) aG (0,0))
 mp:Ls l 0->∃n f,aQ cL eL w (g 9) n f/\∀x v,f x=some v↔∃j,j<37/\Ls l j/\kA g j=some (x,v)
def Ft:∀q,q<=12->∀r,r<=12->1<=q->gA q=gA r->q=r:=by decide
def Dt:∀q,q<=12->1<=q->gA q<37:=by decide
def MI{g:Nat->Nat}{m q b:Nat}(h:m<=q):tR (upd g q b) m=tR g m:=by
 unfold tR;refine List.map_congr_left fun x hx=>?_;have:=List.mem_range.1 hx;unfold upd;rw[if_neg (by omega)]
def XE{g:Nat->Nat}{m b:Nat}:tR (upd g m b) (m+1)=tR g m++[b]:=by
 have h:=MI (g:=g) (m:=m) (q:=m) (b:=b) (le_refl _);unfold tR at h ⊢;rw[List.range_succ,map_append,h];simp[upd]
def NM:∀q,q=10\/q=11\/q=12->∀k,k=1\/k=2\/k=4\/k=5\/k=7->(∀g b,rS (upd g k b) q=rS g q)\/gA k∈pW (gA q):=by
 rintro q (rfl|rfl|rfl) k (rfl|rfl|rfl|rfl|rfl)
 all_goals first
  |(right;decide)
  |(left;intro g b;simp[rS,upd])
def YT{g:Nat->Nat}{q k b:Nat}(hk:Kc l)(hq:q=10\/q=11\/q=12)(hl:Ls l (gA q))(Ti:1<=k)(Wx:¬Ls l (gA k)):rS (upd g k b) q=rS g q:=by
 by_cases Vb:k=1\/k=2\/k=4\/k=5\/k=7
 ·rcases NM q hq k Vb with h|h
  ·exact h g b
  ·exact absurd (hk _ (by rcases hq with rfl|rfl|rfl<;>decide) hl _ h) Wx
 ·have h1:∀x,x=0\/x=1\/x=2\/x=4\/x=5\/x=7->upd g k b x=g x:=fun x hx=>by
   unfold upd;rw[if_neg (by omega)]
  rcases hq with rfl|rfl|rfl<;>simp[rS,h1]
def LY{g:Nat->Nat}{q b j:Nat}(hk:Kc l)(hj:j<37)(hl:Ls l j)(hq0:1<=q)(Wx:¬Ls l (gA q)):kA (upd g q b) j=kA g j:=
 (KX j hj (fun x hx=>by
  unfold upd
  split
  ·rename_i e;subst e;rcases hk.uses hj hl hx with h0|h0
   ·omega
   ·exact absurd h0 Wx
  ·rfl)).2
def Fk(g:Nat->Nat):∀q,q<=12->1<=q->kA g (gA q)=none:=by
 intro q hq h1;have:q=1\/q=2\/q=3\/q=4\/q=5\/q=6\/q=7\/q=8\/q=9\/q=10\/q=11\/q=12:=by omega
 rcases this with rfl|rfl|rfl|rfl|rfl|rfl|rfl|rfl|rfl|rfl|rfl|rfl<;>rfl
def Az(g:Nat->Nat)(j:Nat)(y:Ky×Value)(h:kA g j=some y):0∈pW j:=by
 unfold kA at h;split at h<;>first|(cases h;done)|decide
variable {w0 w w':World}{g:Nat->Nat}
def KW.keep(h:KW w0 g l w)(Lg:∀q,1<=q->q<=12->gA q≠i)(Kg:∀g,kA g i=none)(Mj:Kn (fun _=>False) w0 w')(Tl:Ck w w')(Rt:Ls l 0->w'.heap[g 9]?=w.heap[g 9]?):KW w0 g (l.setIfInBounds i true) w':=by
 have Nl:∀q,1<=q->q<=12->(Ls (l.setIfInBounds i true) (gA q)↔Ls l (gA q)):=fun q h1 h2=>Ls.CA (Lg q h1 h2);refine⟨Mj,h.g0,fun q h1 h2 hl=>h.lo q h1 h2 ((Nl q h1 h2).1 hl),?_,fun q hq hl=>?_,fun hl=>?_⟩
 ·obtain⟨m,m1,m2,m3,m4⟩:=h.nd;exact⟨m,m1,m2,fun k k1 k2=>by rw[Nl k k1 (by omega)];exact m3 k k1 k2,fun ar Ln=>(m4 ar Ln).ck Tl⟩
 ·exact Tl _ _ _ _ (h.rw q hq ((Nl q (by omega) (by omega)).1 hl))
 ·have hl:=(Nl 9 (by decide) (by decide)).1 hl;obtain⟨n,f,h1,h2⟩:=h.mp hl;refine⟨n,f,h1.kept (Rt hl),fun x v=>?_⟩;rw[h2];constructor
  ·rintro⟨j,hj,Mc,e⟩;exact⟨j,hj,Mc.set,e⟩
  ·rintro⟨j,hj,Mc,e⟩;refine⟨j,hj,Mc.BO.resolve_right (fun e2=>?_),e⟩;subst e2;rw[Kg]at e;cases e
def KW.makes(h:KW w0 g l w)(hk:Kc l){q b:Nat}(Ke:l.size=37)(q1:1<=q)(q2:q<=12)(Wx:¬Ls l (gA q))(Mj:Kn (fun _=>False) w0 w')(Tl:Ck w w')(Rt:Ls l 0->w'.heap[g 9]?=w.heap[g 9]?)(hb:w0.heap.size<=b)
  (O3:q<9->(1<q->Ls l (gA (q-1)))/\∀ar,mU ar->aO ar (tR g q) (fun _=>False) (fun _=>0) (nX q) w->aO ar (tR g q++[b]) (fun _=>False) (fun _=>0) (nX (q+1)) w')
  (Jn:q=10\/q=11\/q=12->w'.heap[b]?=some (.cells (rS g q) aG (0,0)))
  (Pb:q=9->aQ cL eL w' b 0 (fun _=>none)):KW w0 (upd g q b) (l.setIfInBounds (gA q) true) w':=by
 have Js:=Dt q q2 q1;have Nl:∀r,1<=r->r<=12->r≠q->(Ls (l.setIfInBounds (gA q) true) (gA r)↔Ls l (gA r)):=fun r h1 h2 Ju=>Ls.CA (fun e=>Ju (Ft r h2 q q2 h1 e));have hu:∀r,r≠q->upd g q b r=g r:=fun r hr=>by unfold upd;rw[if_neg hr]
 have o9:upd g q b q=b:=by unfold upd;rw[if_pos rfl]
 have S0:∀j,j<37->(Ls (l.setIfInBounds (gA q) true) j/\∃y,kA (upd g q b) j=some y)->Ls l j:=fun j hj hh=>by
  rcases hh.1.BO with h1|rfl
  ·exact h1
  ·obtain⟨y,hy⟩:=hh.2;rw[Fk _ q q2 q1]at hy;cases hy
 refine⟨Mj,by rw[hu 0 (by omega)];exact h.g0,fun r h1 h2 hl=>?_,?_,fun r hr hl=>?_,fun hl=>?_⟩
 ·by_cases D9:r=q
  ·subst D9;rw[o9];exact hb
  ·rw[hu r D9];exact h.lo r h1 h2 ((Nl r h1 h2 D9).1 hl)
 ·obtain⟨m,m1,m2,m3,m4⟩:=h.nd
  by_cases J6:q<9
  ·obtain⟨n1,n2⟩:=O3 J6
   have hmq:m=q:=by
    have ha:¬q<m:=fun e=>Wx ((m3 q q1 J6).2 e)
    by_cases h1:q=1
    ·omega
    ·have:=(m3 (q-1) (by omega) (by omega)).1 (n1 (by omega));omega
   subst hmq;refine⟨m+1,by omega,by omega,fun k k1 k2=>?_,fun ar Ln=>by rw[XE];exact n2 ar Ln (m4 ar Ln)⟩
   by_cases Zb:k=m
   ·subst Zb;exact⟨fun _=>by omega,fun _=>Ls.here (by omega)⟩
   ·rw[Nl k k1 (by omega) Zb,m3 k k1 k2];omega
  ·refine⟨m,m1,m2,fun k k1 k2=>by rw[Nl k k1 (by omega) (by omega)];exact m3 k k1 k2,fun ar Ln=>by rw[MI (by omega)];exact(m4 ar Ln).ck Tl⟩
 ·by_cases D9:r=q
  ·subst D9;rw[o9,Jn hr];congr 2;rcases hr with rfl|rfl|rfl<;>simp[rS,upd]
  ·have hl:=(Nl r (by omega) (by omega) D9).1 hl;rw[hu r D9,YT hk hr hl q1 Wx];exact Tl _ _ _ _ (h.rw r hr hl)
 ·by_cases J6:q=9
  ·subst J6;rw[o9];refine⟨0,_,Pb rfl,fun x v=>⟨fun e=>(by cases e),?_⟩⟩;rintro⟨j,hj,Mc,e⟩;have Mc:=S0 j hj ⟨Mc,_,e⟩;exact absurd (hk j hj Mc 0 (Az _ j _ e)) Wx
  ·have hl:=(Nl 9 (by omega) (by omega) (fun e=>J6 e.symm)).1 hl;obtain⟨n,f,h1,h2⟩:=h.mp hl;rw[hu 9 (fun e=>J6 e.symm)];refine⟨n,f,h1.kept (Rt hl),fun x v=>?_⟩;rw[h2];constructor
   ·rintro⟨j,hj,Mc,e⟩;exact⟨j,hj,Mc.set,by rw[LY hk hj Mc q1 Wx];exact e⟩
   ·rintro⟨j,hj,Mc,e⟩;have Mc:=S0 j hj ⟨Mc,_,e⟩;exact⟨j,hj,Mc,by rw[LY hk hj Mc q1 Wx]at e;exact e⟩
def Ay(g:Nat->Nat){x:Ky}{v v':Value}:∀i,i<37->∀j,j<37->kA g i=some (x,v)->kA g j=some (x,v')->i=j:=by
 have Zc:∀(i:Nat)(x:Ky)(v:Value),kA g i=some (x,v)->(i,x)∈([(3,2,[105,110,116]),(6,2,[98,111,111,108]),(9,2,[117,110,105,116]),(12,2,[114,101,102]),(19,0,[112,117,116]),(26,0,[103,101,116]),(34,0,[114,101,102])]:List (Nat×Ky)):=by
  intro i x v h;unfold kA at h;split at h<;>cases h<;>simp
 have Qh:∀a∈([(3,2,[105,110,116]),(6,2,[98,111,111,108]),(9,2,[117,110,105,116]),(12,2,[114,101,102]),(19,0,[112,117,116]),(26,0,[103,101,116]),(34,0,[114,101,102])]:List (Nat×Ky)),∀b∈([(3,2,[105,110,116]),(6,2,[98,111,111,108]),(9,2,[117,110,105,116]),(12,2,[114,101,102]),(19,0,[112,117,116]),(26,0,[103,101,116]),(34,0,[114,101,102])]:List (Nat×Ky)),a.2=b.2->a.1=b.1:=by decide
 intro i _ j _ h1 h2;exact Qh _ (Zc i x v h1) _ (Zc j x v' h2) rfl
def KW.lays(h:KW w0 g l w)(hi:i<37)(Pk:Ls l 0)(Ke:l.size=37){x:Ky}{v:Value}(Kg:kA g i=some (x,v))(Lg:∀q,1<=q->q<=12->gA q≠i)(hx:cL x) :
  ∃w',(Instr.mapUpdate dA (.map (some (g 9))) (eL x) v).run prog w=.ok () w'/\KW w0 g (l.setIfInBounds i true) w':=by
 have Nl:∀q,1<=q->q<=12->(Ls (l.setIfInBounds i true) (gA q)↔Ls l (gA q)):=fun q h1 h2=>Ls.CA (Lg q h1 h2);obtain⟨n,f,h1,h2⟩:=h.mp Pk;obtain⟨w',e1,e2,e3⟩:=h1.store jZ iR (v:=v) hx trivial (fun _ _=>trivial);have Tl:Ck w w':=Ck.AM e3;refine⟨w',e1,h.kn.AM e3 (inr (h.lo 9 (by decide) (by decide) Pk)),h.g0,fun q q1 q2 hl=>h.lo q q1 q2 ((Nl q q1 q2).1 hl),?_,fun q hq hl=>?_,fun _=>⟨_,_,e2,fun y u=>?_⟩⟩
 ·obtain⟨m,m1,m2,m3,m4⟩:=h.nd;exact⟨m,m1,m2,fun k k1 k2=>by rw[Nl k k1 (by omega)];exact m3 k k1 k2,fun ar Ln=>(m4 ar Ln).ck Tl⟩
 ·exact Tl _ _ _ _ (h.rw q hq ((Nl q (by omega) (by omega)).1 hl))
 ·by_cases hy:y=x
  ·subst hy;simp only[if_true,Option.some.injEq];constructor
   ·rintro rfl;exact⟨i,hi,Ls.here (by omega),Kg⟩
   ·rintro⟨j,hj,Mc,e⟩;have:=Ay g i hi j hj Kg e;subst this;rw[Kg]at e;cases e;rfl
  ·simp only[if_neg hy];rw[h2];constructor
   ·rintro⟨j,hj,Mc,e⟩;exact⟨j,hj,Mc.set,e⟩
   ·rintro⟨j,hj,Mc,e⟩;refine⟨j,hj,Mc.BO.resolve_right (fun e2=>?_),e⟩;subst e2;rw[Kg]at e;cases e;exact hy rfl
end
end
section
open Go.RowKit
def KI(a0:Act)(w0:World)(l:Array Bool)(a:Act)(w:World):Prop:=∃g,KS a0 g l a/\KW w0 g l w
section
variable {ops:Array Oper}{l:Array Bool}{i:Nat}{o:Oper}{a0 a:Act}{w0 w w':World}{g:Nat->Nat}{Q:Exit->Act->World->Prop}
def KS.eval(h:KS a0 g l a){j s:Nat}(hj:j<37)(hl:Ls l j)(hd:kU j=some s):a.eval (.tmp s)=vS g j:=by
 have:=h.sl j s hj hl hd;simp[Act.eval,this]
def uX{f:Nat}{args:Array Operand}{ts:Array TypeId}(hop:o.op=fM f args ts)(he:aF f):(execOp a.eval o).run prog w=.ok (.enter f (args.map a.eval)) w:=by
 have h1:a.eval (.func f)=.func (.func f) #[] #[]:=rfl;simp[execOp,hop,fM,resolve,Deferred.ofValue,h1,invoke,he (args.map a.eval) w,Result.andThen]
structure yB(ops:Array Oper)(a0:Act)(w0:World)(g:Nat->Nat)(l:Array Bool)(a:Act)(w:World)(i:Nat)(o:Oper):Prop where
 ks:KS a0 g l a
 kw:KW w0 g l w
 kc:Kc l
 sz:l.size=37
 lt:i<37
 un:¬Ls l i
 af:∀k∈pW i,Ls l k
 ho:ops[i]?=some o
 hd:o.dst=kU i
 hop:o.op=TV i
 hg:o.guard=none
def KW.BU(h:KW w0 g l w)(o:Obj)(hl:Ls l 0):(w.alloc o).heap[g 9]?=w.heap[g 9]?:=by
 obtain⟨n,f,h1,_⟩:=h.mp hl;exact Below.heap_alloc _ _ _ h1.lt
def yB.pure(h:yB ops a0 w0 g l a w i o)(Lg:∀q,1<=q->q<=12->gA q≠i)(Kg:∀g,kA g i=none)(Jo:(execOp a.eval o).run prog w=.ok (.value (vS g i)) w):wpOp prog ops Q i (fun a' w'=>KI a0 w0 (l.setIfInBounds i true) a' w') a w:=by
 refine rY h.ho h.hg Jo ⟨g,?_,h.kw.keep Lg Kg h.kw.kn (fun _ _ _ _ e=>e) (fun _=>rfl)⟩;rw[h.hd];exact h.ks.step h.kc h.lt h.un (fun _ _=>rfl) (fun _ _=>rfl)
def yB.key(h:yB ops a0 w0 g l a w i o)(Lg:∀q,1<=q->q<=12->gA q≠i)(Kg:∀g,kA g i=none){f:Nat}{nm:Array UInt8}{ts:Array TypeId}(hop:TV i=fM f #[tX nm] ts)(he:aF f){ob:Obj}
  (hc:Calls prog f #[.string ⟨nm⟩] w fun e w'=>e=.returned (vS g i)/\w'=w.alloc ob):wpOp prog ops Q i (fun a' w'=>KI a0 w0 (l.setIfInBounds i true) a' w') a w:=by
 have hz:(#[tX nm]:Array Operand).map a.eval=#[.string ⟨nm⟩]:=by simp[tX,Act.eval]
 refine zB h.ho h.hg (uX (h.hop.trans hop) he) ?_;rw[hz];refine hc.mono ?_;rintro e w1⟨rfl,rfl⟩;refine⟨_,rfl,g,?_,h.kw.keep Lg Kg (h.kw.kn.alloc _) (Ck.alloc _ _) (h.kw.BU _)⟩;rw[h.hd];exact h.ks.step h.kc h.lt h.un (fun _ _=>rfl) (fun _ _=>rfl)
def wA{q:Nat}(b:Nat)(q1:1<=q)(q2:q<=12):∀x,gA x≠gA q->upd g q b x=g x:=fun x hx=>by
 unfold upd;rw[if_neg];rintro rfl;exact hx rfl
def yB.node{q:Nat}(h:yB ops a0 w0 g l a w (gA q) o)(q1:1<=q)(q2:q<9)(Qf:1<q->Ls l (gA (q-1))){f:Nat}{args:Array Operand}{ts:Array TypeId}(hop:TV (gA q)=fM f args ts)(he:aF f)(hv:∀b,vS (upd g q b) (gA q)=aA b)
  (hc:Calls prog f (args.map a.eval) w fun e w'=>∃b,e=.returned (aA b)/\w0.heap.size<=b/\Kn (fun _=>False) w0 w'/\Ck w w'/\(Ls l 0->w'.heap[g 9]?=w.heap[g 9]?)/\∀ar,mU ar->aO ar (tR g q) (fun _=>False) (fun _=>0) (nX q) w->aO ar (tR g q++[b]) (fun _=>False) (fun _=>0) (nX (q+1)) w') :
  wpOp prog ops Q (gA q) (fun a' w'=>KI a0 w0 (l.setIfInBounds (gA q) true) a' w') a w:=by
 refine zB h.ho h.hg (uX (h.hop.trans hop) he) (hc.mono ?_);rintro e w1⟨b,rfl,h1,h2,h3,h4,h5⟩;refine⟨_,rfl,upd g q b,?_,h.kw.makes h.kc h.sz q1 (by omega) h.un h2 h3 h4 h1 (fun _=>⟨Qf,h5⟩) (fun e=>by omega) (fun e=>by omega)⟩;rw[h.hd];exact h.ks.step h.kc h.lt h.un (wA b q1 (by omega)) (fun _ _=>(hv b).symm)
def xJ{m k:Nat}(h:k<m):aM (tR g m) k=aA (g k):=by
 unfold aM bH tR;simp[h]
def YK{q:Nat}{nm:Nm}{ar:Nm->Nat}(hq:nX (q+1)=((nX q).new ⟨nm,[],0⟩).2)(hn:nm≠[])(ha:ar nm=0)(h:aO ar (tR g q) (fun _=>False) (fun _=>0) (nX q) w) :
  aO ar (tR g q++[w.heap.size]) (fun _=>False) (fun _=>0) (nX (q+1)) (w.alloc (.cells #[.string (bs nm),.slice none 0 0,.pointer none,.int .i64 0] aT)):=by
 rw[hq];exact h.new (t:=⟨nm,[],0⟩) (pv:=.slice none 0 0) (fun p hp=>(by cases hp)) (fun _=>rfl) (fun _=>ha.symm) (ownsRow_nil _ _ _ _) (fun g _ e=>e)
def yB.leaf{q:Nat}{nm:Nm}(h:yB ops a0 w0 g l a w (gA q) o)(q1:1<=q)(q2:q<9)(Qf:1<q->Ls l (gA (q-1))){f:Nat}(hop:TV (gA q)=fM f #[] #[])(he:aF f)(hv:∀b,vS (upd g q b) (gA q)=aA b)
  (hq:nX (q+1)=((nX q).new ⟨nm,[],0⟩).2) (hn:nm≠[]) (ha:∀ar,mU ar->ar nm=0)
  (hc:Calls prog f #[] w fun e w'=>e=.returned (aA w.heap.size)/\w'=w.alloc (.cells #[.string (bs nm),.slice none 0 0,.pointer none,.int .i64 0] aT)) :
  wpOp prog ops Q (gA q) (fun a' w'=>KI a0 w0 (l.setIfInBounds (gA q) true) a' w') a w:=by
 refine h.node q1 q2 Qf hop he hv ?_;have hz:(#[]:Array Operand).map a.eval=#[]:=by simp
 rw[hz];refine hc.mono ?_;rintro e w1⟨rfl,rfl⟩;exact⟨_,rfl,h.kw.kn.size,h.kw.kn.alloc _,Ck.alloc _ _,h.kw.BU _,fun ar Ln hs=>YK hq hn (ha ar Ln) hs⟩
def yB.arrow{q x y r s:Nat}(h:yB ops a0 w0 g l a w (gA q) o)(q1:1<=q)(q2:q<9)(Qf:1<q->Ls l (gA (q-1)))(hop:TV (gA q)=fM 37 #[.tmp s] #[111])(hv:∀b,vS (upd g q b) (gA q)=aA b)
  (hq:nX (q+1)=((nX q).named bA [x,y]).2) (hx:x<q) (hy:y<q) (Jm:(nX q).nodes.length=q) (hr:r=10\/r=11\/r=12) (E0:Ls l (gA r)) (hev:a.eval (.tmp s)=wI (g r)) (N8:rS g r=#[aA (g x),aA (g y)]) :
  wpOp prog ops Q (gA q) (fun a' w'=>KI a0 w0 (l.setIfInBounds (gA q) true) a' w') a w:=by
 have Jn:=h.kw.rw r hr E0;rw[N8]at Jn;refine h.node q1 q2 Qf hop (enters func37 (by kernel_rfl) rfl) hv ?_;have he:(#[Operand.tmp s].map a.eval)=#[wI (g r)]:=by simp[hev]
 rw[he];refine(kZ Jn rfl rfl).mono ?_;rintro e w1⟨rfl,rfl⟩;refine⟨_,rfl,by have:=h.kw.kn.size;omega,(h.kw.kn.alloc _).alloc _,(Ck.alloc _ _).trans (Ck.alloc _ _),fun hl=>?_,fun ar Ln hs=>?_⟩
 ·obtain⟨n,f,h1,_⟩:=h.kw.mp hl;rw[Below.heap_alloc _ _ _ (by have:=h1.lt;simp;omega),Below.heap_alloc _ _ _ h1.lt]
 ·have:=hs.arrow (x:=x) (y:=y) (by rw[Jm];exact hx) (by rw[Jm];exact hy) Ln.arrow (fun _ e=>e.elim);rw[xJ hx,xJ hy,<- hq]at this;exact this
def yB.cell(h:yB ops a0 w0 g l a w (gA 7) o)(Qf:Ls l (gA 6))(hev:a.eval (.tmp 26)=aA (g 0)) :
  wpOp prog ops Q (gA 7) (fun a' w'=>KI a0 w0 (l.setIfInBounds (gA 7) true) a' w') a w:=by
 refine h.node (by decide) (by decide) (fun _=>Qf) (f:=40) (args:=#[.tmp 26]) (ts:=#[aG]) rfl (enters func40 (by kernel_rfl) rfl) (fun b=>rfl) ?_;have he:(#[Operand.tmp 26].map a.eval)=#[aA (g 0)]:=by simp[hev]
 rw[he];refine(wZ (g 0) w).mono ?_;rintro e w1⟨rfl,rfl⟩;refine⟨_,rfl,by have:=h.kw.kn.size;omega,(h.kw.kn.alloc _).alloc _,(Ck.alloc _ _).trans (Ck.alloc _ _),fun hl=>?_,fun ar Ln hs=>?_⟩
 ·obtain⟨n,f,h1,_⟩:=h.kw.mp hl;rw[Below.heap_alloc _ _ _ (by have:=h1.lt;simp;omega),Below.heap_alloc _ _ _ h1.lt]
 ·have h1:=hs.alloc (.cells #[aA (g 0)] aG)
  have Jn:(w.alloc (.cells #[aA (g 0)] aG)).ownsRow 0 aG 1 (.slice (some ⟨w.heap.size,0,none⟩) 1 1) 1 ([0].map (aM (tR g 7))):=
   ⟨rfl,inr ⟨w.heap.size,1,#[aA (g 0)],rfl,zero_le _,(MapKept.heap_alloc w _).1,le_refl _,by decide,rfl,rfl⟩⟩
  have:=h1.new (t:=⟨gP,[0],0⟩) (pv:=.slice (some ⟨w.heap.size,0,none⟩) 1 1) (fun p hp=>by
   rw[mem_singleton.1 hp];show 0<7;decide) (fun e=>absurd e (show gP≠[] by decide)) (fun _=>Ln.ref.symm) Jn (fun g _ e=>e)
  have Ke:(w.alloc (.cells #[aA (g 0)] aG)).heap.size=w.heap.size+1:=by simp
  rw[Ke]at this;exact this
def YR{A:Operand->Value}{s1 s2 x y:Nat}(hop:o.op=.buildSlice 111 2 #[(0,.tmp s1),(1,.tmp s2)])(h1:A (.tmp s1)=aA x)(h2:A (.tmp s2)=aA y):(execOp A o).run prog w=.ok (.value (wI w.heap.size)) (w.alloc (.cells #[aA x,aA y] aG)):=by
 simp[execOp,hop,h1,h2,aA,wI,go_sem]
def GJ{A:Operand->Value}{s x:Nat}(hop:o.op=.build iK #[(0,.tmp s)])(h1:A (.tmp s)=aA x):(execOp A o).run prog w=.ok (.value (XQ x)) w:=by
 simp[execOp,hop,h1,aA,XQ,IF,go_sem]
def wH{A:Operand->Value}(hop:o.op=.build iK #[]):(execOp A o).run prog w=.ok (.value (IF none 0)) w:=by
 simp[execOp,hop,IF,go_sem]
def YS{A:Operand->Value}(hop:o.op=.build iK #[(2,.const (.int .i64 1))])(hk:A (.const (.int .i64 1))=.int .i64 1):(execOp A o).run prog w=.ok (.value (IF none 1)) w:=by
 simp[execOp,hop,hk,IF,go_sem]
def yB.row{q x y s1 s2:Nat}(h:yB ops a0 w0 g l a w (gA q) o)(hq:q=10\/q=11\/q=12)(hop:TV (gA q)=.buildSlice 111 2 #[(0,.tmp s1),(1,.tmp s2)])(hv:∀b,vS (upd g q b) (gA q)=wI b)(h1:a.eval (.tmp s1)=aA (g x))(h2:a.eval (.tmp s2)=aA (g y))(N8:rS g q=#[aA (g x),aA (g y)]) :
  wpOp prog ops Q (gA q) (fun a' w'=>KI a0 w0 (l.setIfInBounds (gA q) true) a' w') a w:=by
 have Jo:(execOp a.eval o).run prog w=.ok (.value (wI w.heap.size)) (w.alloc (.cells #[aA (g x),aA (g y)] aG)):=by
  exact YR (h.hop.trans hop) h1 h2
 refine rY h.ho h.hg Jo ⟨upd g q w.heap.size,?_,h.kw.makes h.kc h.sz (by omega) (by omega) h.un (h.kw.kn.alloc _) (Ck.alloc _ _) (h.kw.BU _) h.kw.kn.size (fun e=>by omega) (fun _=>by rw[N8];exact(MapKept.heap_alloc _ _).1) (fun e=>by omega)⟩;rw[h.hd];exact h.ks.step h.kc h.lt h.un (wA _ (by omega) (by omega)) (fun _ _=>(hv _).symm)
def yB.table(h:yB ops a0 w0 g l a w 0 o):wpOp prog ops Q 0 (fun a' w'=>KI a0 w0 (l.setIfInBounds 0 true) a' w') a w:=by
 have Jo:(execOp a.eval o).run prog w=.ok (.value (.map (some w.heap.size))) (w.alloc (.map #[] 0)):=by
  have:o.op=.makeMap dA none:=h.hop;have O8:(Instr.makeMap dA none).run prog w=.ok (.map (some w.heap.size)) (w.alloc (.map #[] 0)):=rfl;simp[execOp,this,O8,Result.andThen]
 refine rY h.ho h.hg Jo ⟨upd g 9 w.heap.size,?_,h.kw.makes (q:=9) h.kc h.sz (by decide) (by decide) h.un (h.kw.kn.alloc _) (Ck.alloc _ _) (h.kw.BU _) h.kw.kn.size (fun e=>by omega) (fun e=>by omega) (fun _=>aQ.made _ _ w)⟩;rw[h.hd];exact h.ks.step h.kc h.lt h.un (wA (q:=9) _ (by decide) (by decide)) (fun _ _=>rfl)
def yB.ins{sk sv:Nat}{x:Ky}{v:Value}(h:yB ops a0 w0 g l a w i o)(Lg:∀q,1<=q->q<=12->gA q≠i)(G9:kU i=none)(hop:TV i=.insert dA (.tmp 3) (.tmp sk) (.tmp sv))(Pk:Ls l 0)(Kg:kA g i=some (x,v))(hx:cL x)(h1:a.eval (.tmp sk)=eL x)(h2:a.eval (.tmp sv)=v) :
  wpOp prog ops Q i (fun a' w'=>KI a0 w0 (l.setIfInBounds i true) a' w') a w:=by
 obtain⟨w1,e1,e2⟩:=h.kw.lays h.lt Pk h.sz Kg Lg hx;have h3:a.eval (.tmp 3)=.map (some (g 9)):=h.ks.eval (j:=0) (by decide) Pk rfl
 have Jo:(execOp a.eval o).run prog w=.ok .skip w1:=by
  have:=h.hop.trans hop;simp[execOp,this,h1,h2,h3,e1,Result.andThen]
 refine Af h.ho h.hg Jo ⟨g,?_,e2⟩;rw[h.hd];have:=h.ks.step (v:=undef) h.kc h.lt h.un (g':=g) (fun _ _=>rfl) (fun s hs=>by rw[G9]at hs;cases hs);exact this
end
end
section
open Go.RowKit
section
variable {ops:Array Oper}{l:Array Bool}{i:Nat}{o:Oper}{a0 a:Act}{w0 w w':World}{g:Nat->Nat}{Q:Exit->Act->World->Prop}
def wG{A:Operand->Value}{x:Operand}{v:Value}(hop:o.op=.move x\/o.op=.assign x)(h:A x=v):(execOp A o).run prog w=.ok (.value v) w:=by
 subst h;rcases hop with hop|hop<;>simp[execOp,hop]
def UU:∀i,i<37->yB ops a0 w0 g l a w i o->wpOp prog ops Q i (fun a' w'=>KI a0 w0 (l.setIfInBounds i true) a' w') a w:=by
 apply Hj
 ·intro h;exact h.table
 ·intro h;exact h.key (by intro q h1 h2;revert h1;revert h2;revert q;decide) (fun _=>rfl) (f:=35) (nm:=#[105,110,116]) (ts:=#[aI]) rfl (enters func35 (by kernel_rfl) rfl) (jG ⟨#[105,110,116]⟩ w)
 ·intro h;exact h.pure (by intro q h1 h2;revert h1;revert h2;revert q;decide) (fun _=>rfl) (wH h.hop)
 ·intro h;exact h.ins (sk:=4) (sv:=5) (x:=(2,[105,110,116])) (by intro q h1 h2;revert h1;revert h2;revert q;decide) rfl rfl (h.af 0 (by decide)) rfl ⟨by decide,by decide⟩ (h.ks.eval (j:=1) (by decide) (h.af 1 (by decide)) rfl) (h.ks.eval (j:=2) (by decide) (h.af 2 (by decide)) rfl)
 ·intro h;exact h.key (by intro q h1 h2;revert h1;revert h2;revert q;decide) (fun _=>rfl) (f:=35) (nm:=#[98,111,111,108]) (ts:=#[aI]) rfl (enters func35 (by kernel_rfl) rfl) (jG ⟨#[98,111,111,108]⟩ w)
 ·intro h;exact h.pure (by intro q h1 h2;revert h1;revert h2;revert q;decide) (fun _=>rfl) (wH h.hop)
 ·intro h;exact h.ins (sk:=6) (sv:=7) (x:=(2,[98,111,111,108])) (by intro q h1 h2;revert h1;revert h2;revert q;decide) rfl rfl (h.af 0 (by decide)) rfl ⟨by decide,by decide⟩ (h.ks.eval (j:=4) (by decide) (h.af 4 (by decide)) rfl) (h.ks.eval (j:=5) (by decide) (h.af 5 (by decide)) rfl)
 ·intro h;exact h.key (by intro q h1 h2;revert h1;revert h2;revert q;decide) (fun _=>rfl) (f:=35) (nm:=#[117,110,105,116]) (ts:=#[aI]) rfl (enters func35 (by kernel_rfl) rfl) (jG ⟨#[117,110,105,116]⟩ w)
 ·intro h;exact h.pure (by intro q h1 h2;revert h1;revert h2;revert q;decide) (fun _=>rfl) (wH h.hop)
 ·intro h;exact h.ins (sk:=8) (sv:=9) (x:=(2,[117,110,105,116])) (by intro q h1 h2;revert h1;revert h2;revert q;decide) rfl rfl (h.af 0 (by decide)) rfl ⟨by decide,by decide⟩ (h.ks.eval (j:=7) (by decide) (h.af 7 (by decide)) rfl) (h.ks.eval (j:=8) (by decide) (h.af 8 (by decide)) rfl)
 ·intro h;exact h.key (by intro q h1 h2;revert h1;revert h2;revert q;decide) (fun _=>rfl) (f:=35) (nm:=#[114,101,102]) (ts:=#[aI]) rfl (enters func35 (by kernel_rfl) rfl) (jG ⟨#[114,101,102]⟩ w)
 ·intro h;exact h.pure (by intro q h1 h2;revert h1;revert h2;revert q;decide) (fun _=>rfl) (YS h.hop rfl)
 ·intro h;exact h.ins (sk:=10) (sv:=11) (x:=(2,[114,101,102])) (by intro q h1 h2;revert h1;revert h2;revert q;decide) rfl rfl (h.af 0 (by decide)) rfl ⟨by decide,by decide⟩ (h.ks.eval (j:=10) (by decide) (h.af 10 (by decide)) rfl) (h.ks.eval (j:=11) (by decide) (h.af 11 (by decide)) rfl)
 ·intro h;exact h.key (by intro q h1 h2;revert h1;revert h2;revert q;decide) (fun _=>rfl) (f:=36) (nm:=#[112,117,116]) (ts:=#[aI]) rfl (enters func36 (by kernel_rfl) rfl) (gL ⟨#[112,117,116]⟩ w)
 ·intro h;exact h.leaf (q:=1) (nm:=eI) (by decide) (by decide) (fun e=>absurd e (by decide)) (f:=38) rfl (enters func38 (by kernel_rfl) rfl) (fun b=>rfl) rfl (by decide) (fun ar h=>h.int) (kJ w)
 ·intro h;exact h.leaf (q:=2) (nm:=bY) (by decide) (by decide) (fun _=>h.af 14 (by decide)) (f:=39) rfl (enters func39 (by kernel_rfl) rfl) (fun b=>rfl) rfl (by decide) (fun ar h=>h.unit) (iQ w)
 ·intro h;exact h.row (q:=10) (x:=1) (y:=2) (s1:=13) (s2:=14) (by decide) rfl (fun b=>rfl) (h.ks.eval (j:=14) (by decide) (h.af 14 (by decide)) rfl) (h.ks.eval (j:=15) (by decide) (h.af 15 (by decide)) rfl) rfl
 ·intro h;exact h.arrow (q:=3) (x:=1) (y:=2) (r:=10) (s:=15) (by decide) (by decide) (fun _=>h.af 15 (by decide)) rfl (fun b=>rfl) rfl (by decide) (by decide) rfl (by decide) (h.af 16 (by decide)) (h.ks.eval (j:=16) (by decide) (h.af 16 (by decide)) rfl) rfl
 ·intro h;exact h.pure (by intro q h1 h2;revert h1;revert h2;revert q;decide) (fun _=>rfl) (GJ (x:=g 3) h.hop (h.ks.eval (j:=17) (by decide) (h.af 17 (by decide)) rfl))
 ·intro h;exact h.ins (sk:=12) (sv:=17) (x:=(0,[112,117,116])) (by intro q h1 h2;revert h1;revert h2;revert q;decide) rfl rfl (h.af 0 (by decide)) rfl ⟨by decide,by decide⟩ (h.ks.eval (j:=13) (by decide) (h.af 13 (by decide)) rfl) (h.ks.eval (j:=18) (by decide) (h.af 18 (by decide)) rfl)
 ·intro h;exact h.key (by intro q h1 h2;revert h1;revert h2;revert q;decide) (fun _=>rfl) (f:=36) (nm:=#[103,101,116]) (ts:=#[aI]) rfl (enters func36 (by kernel_rfl) rfl) (gL ⟨#[103,101,116]⟩ w)
 ·intro h;exact h.leaf (q:=4) (nm:=bY) (by decide) (by decide) (fun _=>h.kc 20 (by decide) (h.af 20 (by decide)) 17 (by decide)) (f:=39) rfl (enters func39 (by kernel_rfl) rfl) (fun b=>rfl) rfl (by decide) (fun ar h=>h.unit) (iQ w)
 ·intro h;exact h.leaf (q:=5) (nm:=eI) (by decide) (by decide) (fun _=>h.af 21 (by decide)) (f:=38) rfl (enters func38 (by kernel_rfl) rfl) (fun b=>rfl) rfl (by decide) (fun ar h=>h.int) (kJ w)
 ·intro h;exact h.row (q:=11) (x:=4) (y:=5) (s1:=19) (s2:=20) (by decide) rfl (fun b=>rfl) (h.ks.eval (j:=21) (by decide) (h.af 21 (by decide)) rfl) (h.ks.eval (j:=22) (by decide) (h.af 22 (by decide)) rfl) rfl
 ·intro h;exact h.arrow (q:=6) (x:=4) (y:=5) (r:=11) (s:=21) (by decide) (by decide) (fun _=>h.af 22 (by decide)) rfl (fun b=>rfl) rfl (by decide) (by decide) rfl (by decide) (h.af 23 (by decide)) (h.ks.eval (j:=23) (by decide) (h.af 23 (by decide)) rfl) rfl
 ·intro h;exact h.pure (by intro q h1 h2;revert h1;revert h2;revert q;decide) (fun _=>rfl) (GJ (x:=g 6) h.hop (h.ks.eval (j:=24) (by decide) (h.af 24 (by decide)) rfl))
 ·intro h;exact h.ins (sk:=18) (sv:=23) (x:=(0,[103,101,116])) (by intro q h1 h2;revert h1;revert h2;revert q;decide) rfl rfl (h.af 0 (by decide)) rfl ⟨by decide,by decide⟩ (h.ks.eval (j:=20) (by decide) (h.af 20 (by decide)) rfl) (h.ks.eval (j:=25) (by decide) (h.af 25 (by decide)) rfl)
 ·intro h;exact h.key (by intro q h1 h2;revert h1;revert h2;revert q;decide) (fun _=>rfl) (f:=36) (nm:=#[114,101,102]) (ts:=#[aI]) rfl (enters func36 (by kernel_rfl) rfl) (gL ⟨#[114,101,102]⟩ w)
 ·intro h;exact h.pure (by intro q h1 h2;revert h1;revert h2;revert q;decide) (fun _=>rfl) (wG (inl h.hop) (by simp[Act.eval,h.ks.t1];rfl))
 ·intro h;exact h.pure (by intro q h1 h2;revert h1;revert h2;revert q;decide) (fun _=>rfl) (wG (inl h.hop) (by simp[Act.eval,h.ks.t1];rfl))
 ·intro h;exact h.cell (h.kc 27 (by decide) (h.af 27 (by decide)) 24 (by decide)) (h.ks.eval (j:=29) (by decide) (h.af 29 (by decide)) rfl)
 ·intro h;exact h.row (q:=12) (x:=0) (y:=7) (s1:=25) (s2:=27) (by decide) rfl (fun b=>rfl) (h.ks.eval (j:=28) (by decide) (h.af 28 (by decide)) rfl) (h.ks.eval (j:=30) (by decide) (h.af 30 (by decide)) rfl) rfl
 ·intro h;exact h.arrow (q:=8) (x:=0) (y:=7) (r:=12) (s:=28) (by decide) (by decide) (fun _=>h.af 30 (by decide)) rfl (fun b=>rfl) rfl (by decide) (by decide) rfl (by decide) (h.af 31 (by decide)) (h.ks.eval (j:=31) (by decide) (h.af 31 (by decide)) rfl) rfl
 ·intro h;exact h.pure (by intro q h1 h2;revert h1;revert h2;revert q;decide) (fun _=>rfl) (GJ (x:=g 8) h.hop (h.ks.eval (j:=32) (by decide) (h.af 32 (by decide)) rfl))
 ·intro h;exact h.ins (sk:=24) (sv:=30) (x:=(0,[114,101,102])) (by intro q h1 h2;revert h1;revert h2;revert q;decide) rfl rfl (h.af 0 (by decide)) rfl ⟨by decide,by decide⟩ (h.ks.eval (j:=27) (by decide) (h.af 27 (by decide)) rfl) (h.ks.eval (j:=33) (by decide) (h.af 33 (by decide)) rfl)
 ·intro h;exact h.pure (by intro q h1 h2;revert h1;revert h2;revert q;decide) (fun _=>rfl) (wG (inl h.hop) (h.ks.eval (j:=0) (by decide) (h.af 0 (by decide)) rfl))
 ·intro h;exact h.pure (by intro q h1 h2;revert h1;revert h2;revert q;decide) (fun _=>rfl) (wG (inr h.hop) (h.ks.eval (j:=35) (by decide) (h.af 35 (by decide)) rfl))
def Aw(hF:iO ops)(hI:KI a0 w0 l a w)(hc:Cl .any ops l)(hs:l.size=ops.size)(hi:i∈Region.ready .any ops l):wpOp prog ops Q i (fun a' w'=>KI a0 w0 (l.setIfInBounds i true) a' w') a w:=by
 obtain⟨g,h1,h2⟩:=hI;obtain⟨r1,r2,r3,o,r4,r5,r6,r7⟩:=hF.ready hi;exact UU i r1 ⟨h1,h2,hF.kc hc,by rw[hs];exact hF.size,r1,r2,r3,r4,r5,r6,r7⟩
def iO.order(h:iO ops)(hb:(ops.toList.all fun o=>o.after.toList.all fun e=>Region.binds .any e)=true):∀(i:Nat)(o:Oper),ops[i]?=some o->∀e∈o.after,e.on<i:=by
 intro i o ho e he;obtain⟨h1,_,_,_,h5⟩:=h.at ho
 have hm:e.on∈pW i:=by
  rw[<- h5];exact List.mem_map.2 ⟨e,List.mem_filter.2 ⟨by simpa using he,List.all_eq_true.1 (List.all_eq_true.1 hb o (by simpa using Array.mem_of_getElem? ho)) e (by simpa using he)⟩,rfl⟩
 have:∀i,i<37->∀k∈pW i,k<i:=by decide
 exact this i h1 _ hm
def KI.start(w0:World)(a:Act)(hs:a.tmps.size=32)(h1:a.tmps[1]?=some (aA w0.heap.size))(n:Nat) :
  KI a w0 (replicate n false) a (w0.alloc (.cells #[.string (bs []),.slice none 0 0,.pointer none,.int .i64 (gJ:Nat)] aT)).drew:=by
 have Lg:∀j,¬Ls (replicate n false) j:=fun j h=>by
  unfold Ls at h;simp[getD]at h
 refine⟨fun _=>w0.heap.size,⟨hs,rfl,h1,fun j s _ hl=>absurd hl (Lg j)⟩,⟨((Kn.refl _ w0).alloc _).drew,le_refl _,fun q _ _ hl=>absurd hl (Lg _),⟨1,le_refl _,by decide,fun k k1 k2=>⟨fun hl=>absurd hl (Lg _),fun hl=>by omega⟩,fun ar Ln=>?_⟩,fun q _ hl=>absurd hl (Lg _),fun hl=>absurd hl (Lg _)⟩⟩;have h0:aO ar [] (fun _=>False) (fun _=>0) (⟨[],[],[]⟩:TS) w0:=⟨⟨trivial,fun i tn h=>by simp at h,fun g hg=>by cases hg⟩,rfl,List.Pairwise.nil,fun i hi=>by simp at hi⟩;have:=h0.new (t:=⟨[],[],gJ⟩) (pv:=.slice none 0 0) (fun p hp=>by cases hp) (fun _=>rfl) (fun e=>absurd rfl e) (ownsRow_nil _ _ _ _) (fun g _ e=>e);exact this.kept (fun _ _=>rfl) (fun _ _ _ _ _=>rfl)
def KI.done(h:KI a0 w0 l a w)(hl:∀i,i<37->Ls l i):a.defers=a0.defers/\a.tmps.size=32/\∃tb,a.tmps[0]?=some (.map (some tb))/\rB w0 (.returned (.map (some tb))) w:=by
 obtain⟨g,hS,hW⟩:=h;refine⟨hS.df,hS.ts,g 9,hS.sl 36 0 (by decide) (hl 36 (by decide)) rfl,hW.kn,g 9,tR g 9,fun _=>0,rfl,hW.lo 9 (by decide) (by decide) (hl _ (by decide)),fun b hb=>?_,?_,fun ar Ln=>?_⟩
 ·obtain⟨k,hk,rfl⟩:=List.mem_map.1 hb;have hk:=List.mem_range.1 hk
  by_cases h0:k=0
  ·subst h0;exact hW.g0
  ·exact hW.lo k (by omega) (by omega) (hl _ (Dt k (by omega) (by omega)))
 ·obtain⟨n,f,h1,h2⟩:=hW.mp (hl 0 (by decide));refine⟨n,f,h1,fun x hx=>?_⟩;have Oa:∀j v,j<37->kA g j=some (x,v)->f x=some v:=fun j v hj e=>(h2 x v).2 ⟨j,hj,hl j hj,e⟩
  have P0:∀t,t<9->fE (tR g 9) w (Mg.var t) (XQ (g t)):=fun t ht=>⟨.slice none 0 0,.slice none 0 0,[],by
   show XQ (g t)=.agg #[aM (tR g 9) t,_,_,_,_,_]
   rw[xJ ht];rfl,fun t' e=>(by cases e;show t<(tR g 9).length;simp[tR,ht]),ownsRow_nil _ _ _ _,ownsRow_nil _ _ _ _,by show AB.AD w [] [];rw[AB.AD];trivial⟩
  have Pi:∀k:Nat,fE (tR g 9) w (Mg.type k) (IF none k):=fun k=>⟨.slice none 0 0,.slice none 0 0,[],rfl,fun t' e=>(by cases e),ownsRow_nil _ _ _ _,ownsRow_nil _ _ _ _,by show AB.AD w [] [];rw[AB.AD];trivial⟩
  by_cases e1:x=(0,[112,117,116])
  ·subst e1;exact inr ⟨_,_,rfl,Oa 19 _ (by decide) rfl,P0 3 (by decide)⟩
  by_cases e2:x=(0,[103,101,116])
  ·subst e2;exact inr ⟨_,_,rfl,Oa 26 _ (by decide) rfl,P0 6 (by decide)⟩
  by_cases e3:x=(0,gP)
  ·subst e3;exact inr ⟨_,_,rfl,Oa 34 _ (by decide) rfl,P0 8 (by decide)⟩
  by_cases e4:x=(2,eI)
  ·subst e4;exact inr ⟨_,_,rfl,Oa 3 _ (by decide) rfl,Pi 0⟩
  by_cases e5:x=(2,dZ)
  ·subst e5;exact inr ⟨_,_,rfl,Oa 6 _ (by decide) rfl,Pi 0⟩
  by_cases e6:x=(2,bY)
  ·subst e6;exact inr ⟨_,_,rfl,Oa 9 _ (by decide) rfl,Pi 0⟩
  by_cases e7:x=(2,gP)
  ·subst e7;exact inr ⟨_,_,rfl,Oa 12 _ (by decide) rfl,Pi 1⟩
  refine inl ⟨?_,?_⟩
  ·simp only[ahead,Env.get];rw[if_neg e1,if_neg e2,if_neg e3,if_neg e4,if_neg e5,if_neg e6,if_neg e7]
  ·cases hf:f x with
   |none=>rfl
   |some v=>
    obtain⟨j,_,_,e⟩:=(h2 x v).1 hf;exfalso;unfold kA at e;split at e
    ·cases e;exact e4 rfl
    ·cases e;exact e5 rfl
    ·cases e;exact e6 rfl
    ·cases e;exact e7 rfl
    ·cases e;exact e1 rfl
    ·cases e;exact e2 rfl
    ·cases e;exact e3 rfl
    ·cases e
 ·obtain⟨m,m1,m2,m3,m4⟩:=hW.nd
  have:m=9:=by
   have:=(m3 8 (by decide) (by decide)).1 (hl _ (by decide));omega
  subst this;exact m4 ar Ln
end
def sJ(w:World):Calls prog 15 #[] w (rB w):=by
 have hc:=oX w;have Jz:=KI.start w;have G9:∀(a0:Act)(l:Array Bool)(a:Act)(u:World),KI a0 w l a u->(∀i,i<37->l.getD i false=true)->a.defers=a0.defers/\a.tmps.size=32/\∃tb,a.tmps[0]?=some (.map (some tb))/\rB w (.returned (.map (some tb))) u:=fun a0 l a u h hl=>h.done hl;have HC:=aC hc;have Km:=aC Jz;have L8:=aC G9;clear hc Jz G9;generalize rB w=Q at *;go_enter func15,ntmps15;go_wp2_with fail;refine(HC.out).mono ?_;rintro e w1⟨rfl,rfl⟩;go_wp2_with fail;rename_i K hK;refine tU (I:=KI _ w) (by kernel_rfl) (fun l a u h hc hs i hi=>Aw (show iO _ from by unfold iO;kernel_rfl) h hc hs hi) (fun l a u h hl=>?_) (iO.order (show iO _ from by unfold iO;kernel_rfl) (by kernel_rfl)) (Km.out _ (by rfl) (by rfl) _);obtain⟨hd,_,tb,h0,hq⟩:=L8.out _ l a u h hl;have HQ:=aC hq;clear hq h hl L8 Km HC;refine hK _ _ ?_;go_wp2;exact⟨hd,.map (some tb),(by simp[results,results15,go_sem,h0]),HQ.out⟩
end
end Go.Proofs.YthakgdfmbknakaaGreatDoor
