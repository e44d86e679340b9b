import Derived.Test.YtcbppnefeonmgaaGreatDoorC29
import Derived.Test.YtcbppnefeonmgaaGreatDoorC28
set_option linter.all false
set_option maxHeartbeats 40000000
set_option maxRecDepth 100000
open Go.Proofs.Tryz
open Or (inl inr)
open Option (bind_eq_some_iff)
open Nat (zero_le lt_succ_self)
open List (length_append length_cons mem_cons_self mem_cons_of_mem mem_cons)
namespace Go.Proofs.YtcbppnefeonmgaaGreatDoor
open Go.RowKit
section
variable {ar:Nm->Nat}{ad:List Nat}{Y:Nat->Prop}{rk:Nat->Nat}{σ:TS}{ρ:Env}{tb yb d:Nat}{gv:Value}{w w':World}{nb:Nat}{txt:Nm}
theorem form_if{g cap ba bb bc:Nat}{oa:Option TS}{ob:TS->Option (Nat×TS)}{oc:Nat->TS->Option TS}(h0:ar boolN=0)(h:YM ar ad Y rk σ ρ tb yb d gv w)(hp:PtAt nb 8 txt g cap [ba,bb,bc] w)
  (hA:∀u,Kn (Dm ad tb yb gv) w u->YM ar (ad++[w.heap.size]) Y rk (σ.named boolN []).2 ρ tb yb d gv u->Calls prog 116 #[ptrV yb,ptrV ba,adV (ad++[w.heap.size]) σ.nodes.length] u (AnEx ar (ad++[w.heap.size]) Y ρ tb yb d gv oa u))
  (hB:∀u σ' l rk' gv',Kn (Dm ad tb yb gv) w u->oa=some σ'->YM ar (ad++l) Y rk' σ' ρ tb yb d gv' u->Calls prog 141 #[ptrV yb,ptrV bb] u (AnTy ar (ad++l) Y ρ tb yb d gv' (ob σ') u))
  (hC:∀u t σ0 σ' l rk' gv',Kn (Dm ad tb yb gv) w u->oa=some σ0->ob σ0=some (t,σ')->t<σ'.nodes.length->YM ar (ad++l) Y rk' σ' ρ tb yb d gv' u->Calls prog 116 #[ptrV yb,ptrV bc,adV (ad++l) t] u (AnEx ar (ad++l) Y ρ tb yb d gv' (oc t σ') u)) :
  Calls prog 163 #[ptrV yb,ptrV nb] w (AnTy ar ad Y ρ tb yb d gv (ifO oa ob oc) w):=by
 have hc0:=if_chain h0 h hp hA hB hC w.drew (Kn.drewF w) rfl
 obtain⟨ck,_,_,_⟩:=hp.cells
 have HCH:=hide hc0
 clear hc0 h0 h hp hA hB hC
 generalize AnTy ar ad Y ρ tb yb d gv (ifO oa ob oc) w=Q at *
 unfold noTy noTypeV Three ptrV at *
 go_enter func163,ntmps163
 go_wp2_with fail
 obtain⟨⟨c1a,c2a,c3a,c4a⟩,hu⟩:=HCH.out
 have HU:=hide hu
 clear hu HCH
 go_region_held2 (fun w'=>w'.cell? ⟨nb,2,none⟩=some (.slice (some ⟨g,0,none⟩) 3 cap)/\w'.cell? ⟨g,0,none⟩=some (.pointer (some ⟨ba,0,none⟩))/\w'.cell? ⟨g,1,none⟩=some (.pointer (some ⟨bb,0,none⟩))/\w'.cell? ⟨g,2,none⟩=some (.pointer (some ⟨bc,0,none⟩))) (exact⟨c1a,c2a,c3a,c4a⟩) (first|(go_at_call 185;refine(HU.out).mono ?_;rintro e u1⟨rfl,⟨c1a,c2a,c3a,c4a⟩,hc⟩;have HC:=hide hc;clear hc)|(go_at_call 116;refine(HC.out).mono ?_;rintro e u2 (⟨rfl,hp⟩|⟨rfl,⟨c1a,c2a,c3a,c4a⟩,hc⟩);(focus (exact⟨rfl,hp⟩));have HE:=hide hc;clear hc))
 all_goals
  go_wp2_with fail
  refine(HE.out).mono ?_;rintro e u3 (⟨rfl,hp⟩|⟨b,rfl,⟨c1a,c2a,c3a,c4a⟩,hq⟩)
  ·exact⟨rfl,hp⟩
  ·have HX:=hide hq
   clear hq HE
   go_wp2_with fail
   refine(HX.out).mono ?_;rintro e u4 (⟨rfl,hp⟩|⟨rfl,hq⟩)
   ·exact⟨rfl,hp⟩
   ·have HG:=hide hq
    clear hq HX
    go_wp2
    exact HG.out
end
section
variable {ar:Nm->Nat}{ad:List Nat}{Y:Nat->Prop}{rk:Nat->Nat}{σ:TS}{ρ:Env}{tb yb d:Nat}{gv:Value}{w w':World}{nb:Nat}{txt:Nm}
theorem form_set(har:∀nm,ar nm<=1000000){g cap ba bb:Nat}{oa:Option (Nat×TS)}{ob:TS->Option (Nat×TS)}(h0:ar unitN=0)(hr:ar refN=1)(h:YM ar ad Y rk σ ρ tb yb d gv w)(hp:PtAt nb 10 txt g cap [ba,bb] w)
  (hA:∀u,Kn (Dm ad tb yb gv) w u->YM ar ad Y rk σ ρ tb yb d gv u->Calls prog 141 #[ptrV yb,ptrV ba] u (AnTy ar ad Y ρ tb yb d gv oa u))
  (hB:∀u t σ' l rk' gv',Kn (Dm ad tb yb gv) w u->oa=some (t,σ')->YM ar (ad++l) Y rk' σ' ρ tb yb d gv' u->Calls prog 141 #[ptrV yb,ptrV bb] u (AnTy ar (ad++l) Y ρ tb yb d gv' (ob σ') u)) :
  Calls prog 163 #[ptrV yb,ptrV nb] w (AnTy ar ad Y ρ tb yb d gv (setO oa ob) w):=by
 obtain⟨⟨c1,c2,c3⟩,hc0⟩:=set_chain har h0 hr h hp hA hB
 obtain⟨ck,_,_,_⟩:=hp.cells
 have HCH:=hide hc0
 have HN:=hide need_any
 have HDR:=hide (fun u:World=>Kn.refl (fun _=>False) u)
 clear hc0 h0 hr har h hp hA hB
 generalize AnTy ar ad Y ρ tb yb d gv (setO oa ob) w=Q at *
 unfold noTy noTypeV Two ptrV at *
 go_enter func163,ntmps163
 go_wp2_with fail
 refine(HCH.out).mono ?_;rintro e u2 (⟨rfl,hp⟩|⟨bf,rfl,hu⟩)
 ·exact⟨rfl,hp⟩
 obtain⟨⟨c1a,c2a,c3a⟩,hu⟩:=hu u2 (HDR.out u2)
 have HU:=hide hu
 clear hu HCH
 go_wp2_with fail
 refine(HU.out).mono ?_;rintro e u3 (⟨rfl,hp⟩|⟨bx,rfl,⟨c1b,c2b,c3b⟩,hc⟩)
 ·exact⟨rfl,hp⟩
 have HC:=hide hc
 clear hc HU
 go_wp2_with fail
 refine(HC.out).mono ?_;rintro e u4⟨bc,rfl,_,hc⟩
 have HX:=hide hc
 clear hc HC
 go_wp2_with fail
 refine(HX.out).mono ?_;rintro e u5⟨v,rfl,_,hno,hyes⟩
 have HNO:=hide hno
 have HYES:=hide hyes
 clear hno hyes HX
 go_wp2_with fail
 refine(HN.out _ _).mono ?_;rintro e u6⟨rfl,⟨hv,rfl⟩|⟨hv,rfl⟩⟩
 ·exact⟨rfl,HNO.out hv⟩
 have HE:=hide (HYES.out hv)
 clear HNO HYES
 go_wp2_with fail
 refine(HE.out).mono ?_;rintro e u7⟨b,rfl,hq⟩
 have HG:=hide hq
 clear hq HE
 go_wp2
 exact HG.out
end
section
variable {ar:Nm->Nat}{ad:List Nat}{Y:Nat->Prop}{rk:Nat->Nat}{σ:TS}{ρ:Env}{tb yb d:Nat}{gv:Value}{w w':World}{nb:Nat}{txt:Nm}
theorem form_fetch{g cap ba:Nat}{oa:Option TS}(hr:ar refN=1)(h:YM ar ad Y rk σ ρ tb yb d gv w)(hp:PtAt nb 12 txt g cap [ba] w)
  (hA:∀u l,Kn (Dm ad tb yb gv) w u->YM ar (ad++l) Y rk ((σ.letter d).2.named refN [σ.nodes.length]).2 ρ tb yb d gv u->Calls prog 116 #[ptrV yb,ptrV ba,adV (ad++l) (σ.nodes.length+1)] u (AnEx ar (ad++l) Y ρ tb yb d gv oa u)) :
  Calls prog 163 #[ptrV yb,ptrV nb] w (AnTy ar ad Y ρ tb yb d gv (fetchO σ.nodes.length oa) w):=by
 have hc0:=fetch_chain hr h hp hA
 obtain⟨ck,_,_,_⟩:=hp.cells
 have HCH:=hide hc0
 have HDR:=hide Kn.drewF
 clear hc0 hr h hp hA
 generalize AnTy ar ad Y ρ tb yb d gv (fetchO σ.nodes.length oa) w=Q at *
 unfold noTy noTypeV One ptrV at *
 go_enter func163,ntmps163
 go_wp2_with fail
 refine(HCH.out).mono ?_;rintro e u1⟨rfl,hu⟩
 obtain⟨⟨c1a,c2a⟩,hu⟩:=hu _ (HDR.out u1)
 have HU:=hide hu
 clear hu HCH
 go_wp2_with fail
 go_region_held2 (fun w'=>w'.cell? ⟨nb,2,none⟩=some (.slice (some ⟨g,0,none⟩) 1 cap)/\w'.cell? ⟨g,0,none⟩=some (.pointer (some ⟨ba,0,none⟩))) (exact⟨c1a,c2a⟩) (first|(go_at_call 42;refine(HU.out).mono ?_;rintro e u4⟨bc,rfl,⟨c1a,c2a⟩,hc⟩;have HC:=hide hc;clear hc)|(go_at_call 116;refine(HC.out).mono ?_;rintro e u2 (⟨rfl,hp⟩|⟨rfl,⟨c1a,c2a⟩,hc⟩);(focus (exact⟨rfl,hp⟩));have HG:=hide hc;clear hc))
 all_goals
  go_wp2
  exact HG.out
end
section
variable {g:Env->Nat->Nd->TS->Option (Nat×TS)}{ρ:Env}{d:Nat}{txt:Nm}{σ:TS}
theorem exX_uni{p:Nd}{want:Nat}:exX g ρ d p want σ=uniO (g ρ d p σ) want:=by
 unfold exX uniO
 cases g ρ d p σ with
 |none=>rfl
 |some r=>rfl
theorem formT_fun{a:Nd}:formT g ρ d (.mk 5 txt [a]) σ=funO σ.nodes.length (g (((0,txt),Mg.var σ.nodes.length)::ρ) d a (σ.letter d).2):=by
 rw[show formT g ρ d (.mk 5 txt [a]) σ=(match g (((0,txt),Mg.var σ.nodes.length)::ρ) d a (σ.letter d).2 with|some (t,σ')=>some (σ'.named arrowN [σ.nodes.length,t])|none=>none)from rfl]
 unfold funO
 cases g (((0,txt),Mg.var σ.nodes.length)::ρ) d a (σ.letter d).2 with
 |none=>rfl
 |some r=>rfl
theorem formT_app{a b:Nd}:formT g ρ d (.mk 13 txt [a,b]) σ=appAll d (g ρ d a σ) (fun s=>g ρ d b s):=by
 rw[show formT g ρ d (.mk 13 txt [a,b]) σ=(match g ρ d a σ with|some (f,σ1)=>(match g ρ d b σ1 with|some (x,σ2)=>appO d f x σ2|none=>none)|none=>none)from rfl]
 unfold appAll
 cases g ρ d a σ with
 |none=>rfl
 |some r=>
  rw[Option.bind_some]
  dsimp only
  cases g ρ d b r.2 with
  |none=>rfl
  |some q=>rfl
theorem boundT_let{a:Nd}:boundT g ρ d false txt a σ=boundO d (g ρ (if isValue (a.ht+1) a then d+1 else d) a σ):=by
 rw[show boundT g ρ d false txt a σ=(match g ρ (if isValue (a.ht+1) a then d+1 else d) a σ with|some (t,σ')=>if σ'.fits t then some (t,σ'.openAll d t)else none|none=>none)from rfl]
 unfold boundO
 cases g ρ (if isValue (a.ht+1) a then d+1 else d) a σ with
 |none=>rfl
 |some r=>rfl
theorem boundT_rec{a:Nd}:boundT g ρ d true txt a σ=boundO d (recO σ.nodes.length (g (((0,txt),Mg.var σ.nodes.length)::ρ) (if isValue (a.ht+1) a then d+1 else d) a (σ.letter (if isValue (a.ht+1) a then d+1 else d)).2)):=by
 rw[show boundT g ρ d true txt a σ=(match (match g (((0,txt),Mg.var σ.nodes.length)::ρ) (if isValue (a.ht+1) a then d+1 else d) a (σ.letter (if isValue (a.ht+1) a then d+1 else d)).2 with|some (t,σ')=>(σ'.unify σ.nodes.length t).map fun s=>(σ.nodes.length,s)|none=>none)with|some (t,σ')=>if σ'.fits t then some (t,σ'.openAll d t)else none|none=>none)from rfl]
 unfold boundO recO
 cases g (((0,txt),Mg.var σ.nodes.length)::ρ) (if isValue (a.ht+1) a then d+1 else d) a (σ.letter (if isValue (a.ht+1) a then d+1 else d)).2 with
 |none=>rfl
 |some r=>
  rw[Option.bind_some]
  dsimp only
  cases r.2.unify σ.nodes.length r.1 with
  |none=>rfl
  |some s=>rfl
theorem formT_let{a b:Nd}:formT g ρ d (.mk 6 txt [a,b]) σ=letO (boundO d (g ρ (if isValue (a.ht+1) a then d+1 else d) a σ)) (fun t s=>g (((0,txt),Mg.var t)::ρ) d b s):=by
 rw[show formT g ρ d (.mk 6 txt [a,b]) σ=(match boundT g ρ d false txt a σ with|some (t,σ')=>g (((0,txt),Mg.var t)::ρ) d b σ'|none=>none)from rfl,<- boundT_let (txt:=txt)]
 unfold letO
 cases boundT g ρ d false txt a σ with
 |none=>rfl
 |some r=>rfl
theorem formT_rec{a b:Nd}:formT g ρ d (.mk 7 txt [a,b]) σ=letO (boundO d (recO σ.nodes.length (g (((0,txt),Mg.var σ.nodes.length)::ρ) (if isValue (a.ht+1) a then d+1 else d) a (σ.letter (if isValue (a.ht+1) a then d+1 else d)).2))) (fun t s=>g (((0,txt),Mg.var t)::ρ) d b s):=by
 rw[show formT g ρ d (.mk 7 txt [a,b]) σ=(match boundT g ρ d true txt a σ with|some (t,σ')=>g (((0,txt),Mg.var t)::ρ) d b σ'|none=>none)from rfl,<- boundT_rec]
 unfold letO
 cases boundT g ρ d true txt a σ with
 |none=>rfl
 |some r=>rfl
theorem formT_if{c a b:Nd}:formT g ρ d (.mk 8 txt [c,a,b]) σ=ifO (exX g ρ d c σ.nodes.length (σ.named boolN []).2) (fun s=>g ρ d a s) (fun t s=>exX g ρ d b t s):=by
 rw[show formT g ρ d (.mk 8 txt [c,a,b]) σ=(match exX g ρ d c σ.nodes.length (σ.named boolN []).2 with|some σ1=>(match g ρ d a σ1 with|some (t,σ2)=>(exX g ρ d b t σ2).map fun s=>(t,s)|none=>none)|none=>none)from rfl]
 unfold ifO
 cases exX g ρ d c σ.nodes.length (σ.named boolN []).2 with
 |none=>rfl
 |some s=>
  rw[Option.bind_some]
  dsimp only
  cases g ρ d a s with
  |none=>rfl
  |some r=>rfl
theorem formT_seq{a b:Nd}:formT g ρ d (.mk 9 txt [a,b]) σ=(exX g ρ d a σ.nodes.length (σ.named unitN []).2).bind (fun s=>g ρ d b s):=by
 rw[show formT g ρ d (.mk 9 txt [a,b]) σ=(match exX g ρ d a σ.nodes.length (σ.named unitN []).2 with|some σ1=>g ρ d b σ1|none=>none)from rfl]
 cases exX g ρ d a σ.nodes.length (σ.named unitN []).2 with
 |none=>rfl
 |some s=>rfl
theorem formT_set{a b:Nd}:formT g ρ d (.mk 10 txt [a,b]) σ=setO (g ρ d a σ) (fun s=>g ρ d b s):=by
 rw[show formT g ρ d (.mk 10 txt [a,b]) σ=(match g ρ d a σ with|some (c,σ1)=>(match g ρ d b σ1 with|some (v,σ2)=>(match (σ2.named refN [v]).2.unify c σ2.nodes.length with|some σ3=>some (σ3.named unitN [])|none=>none)|none=>none)|none=>none)from rfl]
 unfold setO
 cases g ρ d a σ with
 |none=>rfl
 |some r=>
  rw[Option.bind_some]
  dsimp only
  cases g ρ d b r.2 with
  |none=>rfl
  |some q=>
   rw[Option.bind_some]
   dsimp only
   cases (q.2.named refN [q.1]).2.unify r.1 q.2.nodes.length with
   |none=>rfl
   |some s=>rfl
theorem formT_fetch{a:Nd}:formT g ρ d (.mk 12 txt [a]) σ=fetchO σ.nodes.length (exX g ρ d a (σ.nodes.length+1) ((σ.letter d).2.named refN [σ.nodes.length]).2):=rfl
theorem formT_calc{a b:Nd}:formT g ρ d (.mk 11 txt [a,b]) σ=calcO (decide (txt=[61]\/txt=[60])) (exX g ρ d a σ.nodes.length (σ.named intN []).2) (fun s=>exX g ρ d b s.nodes.length (s.named intN []).2):=by
 rw[show formT g ρ d (.mk 11 txt [a,b]) σ=(match exX g ρ d a σ.nodes.length (σ.named intN []).2 with|some σ1=>(match exX g ρ d b σ1.nodes.length (σ1.named intN []).2 with|some σ2=>some (σ2.named (if txt=[61]\/txt=[60]then boolN else intN) [])|none=>none)|none=>none)from rfl]
 unfold calcO
 cases exX g ρ d a σ.nodes.length (σ.named intN []).2 with
 |none=>rfl
 |some s=>
  rw[Option.bind_some]
  dsimp only
  cases exX g ρ d b s.nodes.length (s.named intN []).2 with
  |none=>rfl
  |some q=>
   by_cases h:txt=[61]\/txt=[60]
   ·simp[h]
   ·simp[h]
def rowR(g:Env->Nat->Nd->TS->Option (Nat×TS))(ρ:Env)(d t ans:Nat):Nd->TS->Option TS
 |.mk _ _ [p,e],s=>rowO (patE ρ d p t (s,[])) (fun vs s'=>exX g (bindTs ρ vs) d e ans s')
 |_,_=>none
theorem rowsT_rows{t ans:Nat}:∀(rows:List Nd)(s:TS),rowsT g ρ d t ans rows s=rowsO (rowR g ρ d t ans) rows s:=by
 intro rows
 induction rows with
 |nil=>intro s;rfl
 |cons r rest ih=>
  intro s
  obtain⟨k,tx,ps⟩:=r
  match ps with
  |[p,e]=>
   rw[rowsT,rowsO,rowR]
   unfold rowO
   cases patE ρ d p t (s,[])with
   |none=>rfl
   |some q=>
    obtain⟨s1,vs⟩:=q
    dsimp only
    rw[Option.bind_some]
    dsimp only
    cases exX g (bindTs ρ vs) d e ans s1 with
    |none=>rfl
    |some s2=>exact ih s2
  |[]=>rfl
  |[_]=>rfl
  |_::_::_::_=>rfl
theorem formT_match{a:Nd}{rows:List Nd}(hr:∀x∈rows,x.k=16):formT g ρ d (.mk 15 txt (a::rows)) σ=matchO d (g ρ d a σ) (fun t ans row s=>rowR g ρ d t ans row s) rows:=by
 have ho:only 16 rows=rows:=List.filter_eq_self.2 fun x hx=>by simpa using hr x hx
 rw[show formT g ρ d (.mk 15 txt (a::rows)) σ=(match g ρ d a σ with|some (t,σ1)=>(rowsT g ρ d t σ1.nodes.length (only 16 rows) (σ1.letter d).2).map fun s=>(σ1.nodes.length,s)|none=>none)from rfl]
 unfold matchO
 cases g ρ d a σ with
 |none=>rfl
 |some r=>
  rw[Option.bind_some]
  dsimp only
  rw[ho,rowsT_rows]
end
section
variable {ar:Nm->Nat}{tb yb:Nat}
def ExIH(ar:Nm->Nat)(tb yb n:Nat)(p:Nd):Prop:=
 ∀(m m2:Nat),p.ht<m->p.ht<m2->∀(ρ:Env)(d b:Nat)(Y:Nat->Prop)(ad:List Nat)(rk:Nat->Nat)(σ:TS)(gv:Value)(u:World),NmOk m ρ p->XSh m2 p->EnvB ar ρ->d+n<=1000000->NMem u p b->YM ar ad Y rk σ ρ tb yb d gv u->σ.given.length+p.sz<=100000000 ->
  Calls prog 141 #[ptrV yb,ptrV b] u (AnTy ar ad Y ρ tb yb d gv (exT n ρ d p σ) u)
variable {n m m2:Nat}{p:Nd}{ρ:Env}{d b:Nat}{Y:Nat->Prop}{ad:List Nat}{rk:Nat->Nat}{σ:TS}{gv:Value}{u w:World}{txt:Nm}{nb:Nat}
theorem ExIH.want(hI:ExIH ar tb yb n p)(ha:ArOk ar)(q1:p.ht<m)(q2:p.ht<m2){want:Nat}(h1:NmOk m ρ p)(h2:XSh m2 p)(h3:EnvB ar ρ)(h4:d+n<=1000000)(h5:NMem u p b)(h:YM ar ad Y rk σ ρ tb yb d gv u)(h7:σ.given.length+p.sz<=100000000)(hw:want<σ.nodes.length) :
  Calls prog 116 #[ptrV yb,ptrV b,adV ad want] u (AnEx ar ad Y ρ tb yb d gv (exX (exT n) ρ d p want σ) u):=by
 rw[exX_uni]
 exact expect_of ha.le h hw (hI m m2 q1 q2 ρ d b Y ad rk σ gv u h1 h2 h3 h4 h5 h h7)
theorem ExIH.inside(hI:ExIH ar tb yb n p)(q1:p.ht<m)(q2:p.ht<m2){x:Nm}{t:Nat}(h1:NmOk m (((0,x),Mg.zero)::ρ) p)(h2:XSh m2 p)(h3:EnvB ar ρ)(h4:d+n<=1000000)(h5:NMem u p b)(h:YM ar ad Y rk σ ρ tb yb d gv u)(h7:σ.given.length+p.sz<=100000000)(ht:t<σ.nodes.length)(hx:okK (0,x)) :
  Calls prog 165 #[ptrV yb,.string (bs x),adV ad t,ptrV b] u (AnTy ar ad Y ρ tb yb d gv (exT n (((0,x),Mg.var t)::ρ) d p σ) u):=
 within_any h ht hx fun u' hk hy=>hI m m2 q1 q2 _ d b Y ad rk σ gv u' (NmOk.knows _ _ _ _ ((Knows.refl ρ).bind x _ _) h1) h2 (h3.bind x t) h4 (h.tree hk h5) hy h7
theorem NMems.cons_inv{w:World}{p:Nd}{ps:List Nd}{bl:List Nat}(h:NMem.NMems w (p::ps) bl):∃b bl',bl=b::bl'/\NMem w p b/\NMem.NMems w ps bl':=by
 cases bl with
 |nil=>simp[NMem.NMems]at h
 |cons b bl'=>rw[NMem.NMems]at h;exact⟨b,bl',rfl,h.1,h.2⟩
theorem NMems.nil_inv{w:World}{bl:List Nat}(h:NMem.NMems w [] bl):bl=[]:=by
 cases bl with
 |nil=>rfl
 |cons b bl'=>simp[NMem.NMems]at h
theorem pt1{k:Nat}{a:Nd}(h:NMem w (.mk k txt [a]) nb):∃g cap ba,PtAt nb k txt g cap [ba] w/\NMem w a ba:=by
 obtain⟨g,cap,bl,h1,h2,_⟩:=h.pt (by simp)
 obtain⟨ba,l1,rfl,m1,h3⟩:=NMems.cons_inv h2
 obtain rfl:=NMems.nil_inv h3
 exact⟨g,cap,ba,h1,m1⟩
theorem pt2{k:Nat}{a b:Nd}(h:NMem w (.mk k txt [a,b]) nb):∃g cap ba bb,PtAt nb k txt g cap [ba,bb] w/\NMem w a ba/\NMem w b bb:=by
 obtain⟨g,cap,bl,h1,h2,_⟩:=h.pt (by simp)
 obtain⟨ba,l1,rfl,m1,h3⟩:=NMems.cons_inv h2
 obtain⟨bb,l2,rfl,m2,h4⟩:=NMems.cons_inv h3
 obtain rfl:=NMems.nil_inv h4
 exact⟨g,cap,ba,bb,h1,m1,m2⟩
theorem pt3{k:Nat}{a b c:Nd}(h:NMem w (.mk k txt [a,b,c]) nb):∃g cap ba bb bc,PtAt nb k txt g cap [ba,bb,bc] w/\NMem w a ba/\NMem w b bb/\NMem w c bc:=by
 obtain⟨g,cap,bl,h1,h2,_⟩:=h.pt (by simp)
 obtain⟨ba,l1,rfl,m1,h3⟩:=NMems.cons_inv h2
 obtain⟨bb,l2,rfl,m2,h4⟩:=NMems.cons_inv h3
 obtain⟨bc,l3,rfl,m3,h5⟩:=NMems.cons_inv h4
 obtain rfl:=NMems.nil_inv h5
 exact⟨g,cap,ba,bb,bc,h1,m1,m2,m3⟩
theorem new_lt(σ:TS)(t:TN):σ.nodes.length<(σ.new t).2.nodes.length:=by rw[TS.new_len];omega
theorem bound_let{g cap ba:Nat}{bl:List Nat}{a:Nd}(hI:ExIH ar tb yb n a)(q1:a.ht<m)(q2:a.ht<m2)(h1:NmOk m ρ a)(h2:XSh m2 a)(h3:EnvB ar ρ)(h4:d+(n+1)<=1000000)(hp:PtAt nb 6 txt g cap (ba::bl) w)(h5:NMem w a ba)(h:YM ar ad Y rk σ ρ tb yb d gv w)(h7:σ.given.length+a.sz<=100000000) :
  Calls prog 117 #[ptrV yb,ptrV nb] w (AnTy ar ad Y ρ tb yb d gv (boundO d (exT n ρ (if isValue (a.ht+1) a then d+1 else d) a σ)) w):=by
 refine bound_of h hp (by omega) (lt_succ_self a.ht) h5 fun u hk hy=>?_
 refine value_let hy (h.pt hk hp) fun u' hk' hy'=>?_
 exact hI m m2 q1 q2 ρ _ ba Y ad rk σ gv u' h1 h2 h3 (by split<;>omega) (hy.tree hk' (h.tree hk h5)) hy' h7
theorem bound_rec{g cap ba:Nat}{bl:List Nat}{a:Nd}(ha:ArOk ar)(hI:ExIH ar tb yb n a)(q1:a.ht<m)(q2:a.ht<m2)(h1:NmOk m (((0,txt),Mg.zero)::ρ) a)(h2:XSh m2 a)(h3:EnvB ar ρ)(h4:d+(n+1)<=1000000)(hx:okK (0,txt))(hp:PtAt nb 7 txt g cap (ba::bl) w)(h5:NMem w a ba)(h:YM ar ad Y rk σ ρ tb yb d gv w)(h7:σ.given.length+a.sz<=100000000) :
  Calls prog 117 #[ptrV yb,ptrV nb] w (AnTy ar ad Y ρ tb yb d gv (boundO d (recO σ.nodes.length (exT n (((0,txt),Mg.var σ.nodes.length)::ρ) (if isValue (a.ht+1) a then d+1 else d) a (σ.letter (if isValue (a.ht+1) a then d+1 else d)).2))) w):=by
 refine bound_of h hp (by omega) (lt_succ_self a.ht) h5 fun u hk hy=>?_
 refine value_rec ha.le hy (h.pt hk hp) fun u' hk' hy'=>?_
 exact hI.inside q1 q2 h1 h2 h3 (by split<;>omega) (hy.tree hk' (h.tree hk h5)) hy' h7 (new_lt _ _) hx
theorem row_any(ha:ArOk ar){t:Nm}{p e:Nd}{rb subj ans:Nat}(hI:ExIH ar tb yb n e)(q1:e.ht<m)(q2:e.ht<m2)(hn:∀x∈p.all,x.k=14->ConOk ρ x)(h1:NmOk m (bindAll ρ (varsOf p) Mg.zero) e)(hps:PtSh p)(h2:XSh m2 e)(h3:EnvB ar ρ)(h4:d+n<=1000000)(h5:NMem u (.mk 16 t [p,e]) rb)(h:YM ar ad Y rk σ ρ tb yb d gv u)(h7:σ.given.length+(Nd.mk 16 t [p,e]).sz<=100000000)(hs:subj<σ.nodes.length)(hans:ans<σ.nodes.length) :
  Calls prog 204 #[ptrV yb,ptrV rb,adV ad subj,adV ad ans] u (AnEx ar ad Y ρ tb yb d gv (rowR (exT n) ρ d subj ans (.mk 16 t [p,e]) σ) u):=by
 obtain⟨g,cap,bp,be,hp,mp,me⟩:=pt2 h5
 have hsz:(Nd.mk 16 t [p,e]).sz=p.sz+(e.sz+0)+1:=rfl
 have hok:=hps.ptOk h3 hn
 have hvars:∀σ' vs,patE ρ d p subj (σ,[])=some (σ',vs)->vs.map Prod.fst=varsOf p:=fun σ' vs hq=>by
  have:=patX_vars (fun s t s'=>patT_vars (ar:=ar) _ p hps hok s t s') hq
  simpa using this
 have hgiv:∀σ' vs,patE ρ d p subj (σ,[])=some (σ',vs)->σ'.given.length<=σ.given.length+p.sz:=fun σ' vs hq=>patX_given (fun s t s'=>patT_given _ p s t s') hq
 have hal:=h.alloc (.cells #[ptrV yb,.slice none 0 0] tyRT)
 have hk0:Kn (Dm ad tb yb gv) u (u.alloc (.cells #[ptrV yb,.slice none 0 0] tyRT)):=(Kn.refl _ u).alloc _
 rw[show rowR (exT n) ρ d subj ans (.mk 16 t [p,e]) σ=rowO (patE ρ d p subj (σ,[])) (fun vs s'=>exX (exT n) (bindTs ρ vs) d e ans s')from rfl]
 refine row_of h hp hs hans (fun σ' vs hq x hx=>?_) ?_ fun u' l σ' vs rk' gv' hk hq hy=>?_
 ·have hm:x.1∈varsOf p:=by rw[<- hvars _ _ hq];exact List.mem_map_of_mem hx
  obtain⟨y,hy,e1⟩:=varsOf_mem hm
  exact⟨show 0<3 by decide,by rw[<- e1];exact(hps y hy).1⟩
 ·exact rexpect_any ha (lt_succ_self p.ht) hok (h.tree hk0 mp) hal ⟨(MapKept.heap_alloc u _).1,⟨rfl,inl ⟨rfl,rfl⟩⟩,by simp,zero_le _⟩ (by show σ.given.length+p.sz<=_;omega) hs
 ·have hg:=hgiv _ _ hq
  have hl:ans<σ'.nodes.length:=by
   have h1:=hy.len
   have h2:=h.len
   rw[length_append]at h1
   omega
  exact hI.want ha q1 q2 (NmOk.knows _ _ _ _ (by rw[<- hvars _ _ hq];exact(Knows.refl ρ).bindsT _ vs) h1) h2 (EnvB.binds vs h3) h4 (h.tree hk me) hy (by omega) hl
theorem NmOk.sub{k:Nat}{ps:List Nd}(h:NmOk (m+1) ρ (.mk k txt ps))(hk:k=8\/k=9\/k=10\/k=11\/k=12\/k=13\/k=15):∀p∈ps,NmOk m ρ p:=by
 rcases hk with rfl|rfl|rfl|rfl|rfl|rfl|rfl<;>exact h
theorem form_any(ha:ArOk ar){nd:Nd}(hI:∀p∈nd.ps,ExIH ar tb yb n p)(hR:∀r∈nd.ps,∀p∈r.ps,ExIH ar tb yb n p)(hm:nd.ht<m+1)(hm2:nd.ht<m2+1)(h1:NmOk (m+1) ρ nd)(h2:XSh (m2+1) nd)(h3:EnvB ar ρ)(h4:d+(n+1)<=1000000)(h5:NMem w nd nb)(h:YM ar ad Y rk σ ρ tb yb d gv w)(h7:σ.given.length+nd.sz<=100000000) :
  Calls prog 163 #[ptrV yb,ptrV nb] w (AnTy ar ad Y ρ tb yb d gv (formT (exT n) ρ d nd σ) w):=by
 obtain⟨k,txt,ps⟩:=nd
 obtain⟨pv,bl,n1,n2,n3⟩:=h5.inv
 have c0:w.cell? ⟨nb,0,none⟩=some (.int .i64 k):=by simp[World.cell?,n1]
 have c1:w.cell? ⟨nb,1,none⟩=some (.string (bs txt)):=by simp[World.cell?,n1]
 obtain⟨hx1,hx2,hx3⟩:=h2
 replace hI:∀p∈ps,ExIH ar tb yb n p:=hI
 replace hR:∀r∈ps,∀p∈r.ps,ExIH ar tb yb n p:=hR
 have hl:∀p∈ps,p.ht<m:=fun p hp=>Nd.ht_lt hp hm
 have hl2:∀p∈ps,p.ht<m2:=fun p hp=>Nd.ht_lt hp hm2
 replace h7:σ.given.length+(Nd.sz.szs ps+1)<=100000000:=h7
 have hok0:okK (0,txt):=⟨show 0<3 by decide,hx1⟩
 have hd:d+n<=1000000:=by omega
 have hgv:=exT_given n
 split at hx3
 ·exact form_plain0 ha.int h c0
 ·exact form_plain1 ha.bool h c0
 ·exact form_plain2 ha.unit h c0
 ·
  have h1:(ρ.get (0,txt)).isSome=true:=h1
  obtain⟨m',hg⟩:=Option.isSome_iff_exists.1 h1
  obtain⟨t,ht⟩:=h3.var _ _ hg
  have hf:formT (exT n) ρ d (.mk 3 txt ps) σ=(if σ.fits t then σ.inst d t else none):=by
   rw[show formT (exT n) ρ d (.mk 3 txt ps) σ=(match ((ρ.get (0,txt)).getD Mg.zero).scheme with|some t=>if σ.fits t then σ.inst d t else none|none=>none)from rfl,hg]
   show (match m'.scheme with|some t=>if σ.fits t then σ.inst d t else none|none=>none)=_
   rw[ht]
  rw[hf]
  exact form_variable c0 (variable_any ha.le h c1 hok0 hg ht)
 ·
  obtain⟨⟨mm,hg,hlp⟩,h1⟩:=(show ConOk ρ (.mk 14 txt ps)/\∀p∈ps,NmOk m ρ p from h1)
  have hg:ρ.get (1,txt)=some mm:=hg
  have hlp:ps.length=mm.vr.parts.length:=hlp
  refine form_con c0 ?_
  refine(con_of (EX.bes yb) ha.le ha.arrow (M:=100000000) Enters.expect (s0:=σ) h ⟨rfl,_,h.typ⟩ h5 ⟨show 1<3 by decide,hx1⟩ hg (by rw[hlp];exact h3.con _ _ hg) hx2 (ex:=exX (exT n) ρ d) ?_ ?_ ?_).mono fun e u ha=>ha.toTy
  ·intro p hp bp Y' ad' rk' s gv' vv' u want hmp hy he hb hw
   obtain⟨rfl,_⟩:=he
   exact((hI p hp).want ha (hl p hp) (hl2 p hp) (h1 p hp) (hx3 p hp) h3 hd hmp hy hb hw).mono fun e u2 hq=>hq.toC
  ·intro p hp want s s' hs
   exact exX_given hgv hs
  ·show σ.given.length+_<=_
   omega
 ·
  rename_i a
  obtain⟨g,cap,ba,hp,ma⟩:=pt1 h5
  rw[formT_fun]
  refine form_function c0 (function_of ha.arrow h hp fun u hk hy=>?_)
  exact(hI a (by simp)).inside (hl a (by simp)) (hl2 a (by simp)) h1 hx3 h3 hd (h.tree hk ma) hy (by show σ.given.length+_<=_;simp only[Nd.sz.szs]at h7;omega) (new_lt _ _) hok0
 ·
  rename_i a
  obtain⟨g,cap,ba,hp,ma⟩:=pt1 h5
  rw[formT_fetch]
  refine form_fetch ha.ref h hp fun u l hk hy=>?_
  exact(hI a (by simp)).want ha (hl a (by simp)) (hl2 a (by simp)) (NmOk.sub h1 (by simp) a (by simp)) hx3 h3 hd (h.tree hk ma) hy (by show σ.given.length+_<=_;simp only[Nd.sz.szs]at h7;omega) (by simp[TS.letter,TS.named,TS.new])
 ·
  rename_i a b
  obtain⟨g,cap,ba,bb,hp,ma,mb⟩:=pt2 h5
  obtain⟨h1a,h1b⟩:=(show NmOk m ρ a/\NmOk m (((0,txt),Mg.zero)::ρ) b from h1)
  simp only[Nd.sz.szs]at h7
  rw[formT_let]
  refine form_let h hp (bound_let (hI a (by simp)) (hl a (by simp)) (hl2 a (by simp)) h1a hx3.1 h3 h4 hp ma h (by omega)) fun u t σ' l rk' gv' hk ho ht hy=>?_
  have hq:σ'.given.length<=σ.given.length+a.sz:=by rw[<- boundT_let (txt:=txt)]at ho;exact boundT_given hgv ho
  exact(hI b (by simp)).inside (hl b (by simp)) (hl2 b (by simp)) h1b hx3.2 h3 hd (h.tree hk mb) hy (by omega) ht hok0
 ·
  rename_i a b
  obtain⟨g,cap,ba,bb,hp,ma,mb⟩:=pt2 h5
  obtain⟨h1a,h1b⟩:=(show NmOk m (((0,txt),Mg.zero)::ρ) a/\NmOk m (((0,txt),Mg.zero)::ρ) b from h1)
  simp only[Nd.sz.szs]at h7
  rw[formT_rec]
  refine form_rec h hp (bound_rec ha (hI a (by simp)) (hl a (by simp)) (hl2 a (by simp)) h1a hx3.1 h3 h4 hok0 hp ma h (by omega)) fun u t σ' l rk' gv' hk ho ht hy=>?_
  have hq:σ'.given.length<=σ.given.length+a.sz:=by rw[<- boundT_rec]at ho;exact boundT_given hgv ho
  exact(hI b (by simp)).inside (hl b (by simp)) (hl2 b (by simp)) h1b hx3.2 h3 hd (h.tree hk mb) hy (by omega) ht hok0
 ·
  rename_i a b
  obtain⟨g,cap,ba,bb,hp,ma,mb⟩:=pt2 h5
  have h1:=NmOk.sub h1 (by simp)
  simp only[Nd.sz.szs]at h7
  rw[formT_seq]
  refine form_seq ha.unit h hp (fun u hk hy=>?_) fun u σ' l rk' gv' hk ho hy=>?_
  ·exact(hI a (by simp)).want ha (hl a (by simp)) (hl2 a (by simp)) (h1 a (by simp)) hx3.1 h3 hd (h.tree hk ma) hy (by show σ.given.length+_<=_;omega) (new_lt _ _)
  ·have hq:=exX_given hgv ho
   have hq:σ'.given.length<=σ.given.length+a.sz:=hq
   exact hI b (by simp) m m2 (hl b (by simp)) (hl2 b (by simp)) ρ d bb Y (ad++l) rk' σ' gv' u (h1 b (by simp)) hx3.2 h3 hd (h.tree hk mb) hy (by omega)
 ·
  rename_i a b
  obtain⟨g,cap,ba,bb,hp,ma,mb⟩:=pt2 h5
  have h1:=NmOk.sub h1 (by simp)
  simp only[Nd.sz.szs]at h7
  rw[formT_set]
  refine form_set ha.le ha.unit ha.ref h hp (fun u hk hy=>?_) fun u t σ' l rk' gv' hk ho hy=>?_
  ·exact hI a (by simp) m m2 (hl a (by simp)) (hl2 a (by simp)) ρ d ba Y ad rk σ gv u (h1 a (by simp)) hx3.1 h3 hd (h.tree hk ma) hy (by omega)
  ·have hq:=hgv _ _ _ _ _ _ ho
   exact hI b (by simp) m m2 (hl b (by simp)) (hl2 b (by simp)) ρ d bb Y (ad++l) rk' σ' gv' u (h1 b (by simp)) hx3.2 h3 hd (h.tree hk mb) hy (by omega)
 ·
  rename_i a b
  obtain⟨g,cap,ba,bb,hp,ma,mb⟩:=pt2 h5
  have h1:=NmOk.sub h1 (by simp)
  simp only[Nd.sz.szs]at h7
  rw[formT_calc]
  refine form_calc (inr (inl rfl)) c0 (calculation_of ha.int ha.bool h hp (fun u hk hy=>?_) fun u σ' l rk' gv' hk ho hy=>?_)
  ·exact(hI a (by simp)).want ha (hl a (by simp)) (hl2 a (by simp)) (h1 a (by simp)) hx3.1 h3 hd (h.tree hk ma) hy (by show σ.given.length+_<=_;omega) (new_lt _ _)
  ·have hq:=exX_given hgv ho
   have hq:σ'.given.length<=σ.given.length+a.sz:=hq
   exact(hI b (by simp)).want ha (hl b (by simp)) (hl2 b (by simp)) (h1 b (by simp)) hx3.2 h3 hd (h.tree hk mb) hy (by show σ'.given.length+_<=_;omega) (new_lt _ _)
 ·
  rename_i a b
  obtain⟨g,cap,ba,bb,hp,ma,mb⟩:=pt2 h5
  have h1:=NmOk.sub h1 (by simp)
  simp only[Nd.sz.szs]at h7
  rw[formT_app]
  refine form_application c0 (application_of ha.le ha.arrow h hp (fun u hk hy=>?_) fun u t σ' l rk' gv' hk ho hy=>?_)
  ·exact hI a (by simp) m m2 (hl a (by simp)) (hl2 a (by simp)) ρ d ba Y ad rk σ gv u (h1 a (by simp)) hx3.1 h3 hd (h.tree hk ma) hy (by omega)
  ·have hq:=hgv _ _ _ _ _ _ ho
   exact hI b (by simp) m m2 (hl b (by simp)) (hl2 b (by simp)) ρ d bb Y (ad++l) rk' σ' gv' u (h1 b (by simp)) hx3.2 h3 hd (h.tree hk mb) hy (by omega)
 ·
  rename_i c a b
  obtain⟨g,cap,bc,ba,bb,hp,mc,ma,mb⟩:=pt3 h5
  have h1:=NmOk.sub h1 (by simp)
  simp only[Nd.sz.szs]at h7
  rw[formT_if]
  refine form_if ha.bool h hp (fun u hk hy=>?_) (fun u σ' l rk' gv' hk ho hy=>?_) fun u t σ0 σ' l rk' gv' hk ho ho2 ht hy=>?_
  ·exact(hI c (by simp)).want ha (hl c (by simp)) (hl2 c (by simp)) (h1 c (by simp)) hx3.1 h3 hd (h.tree hk mc) hy (by show σ.given.length+_<=_;omega) (new_lt _ _)
  ·have hq:=exX_given hgv ho
   have hq:σ'.given.length<=σ.given.length+c.sz:=hq
   exact hI a (by simp) m m2 (hl a (by simp)) (hl2 a (by simp)) ρ d ba Y (ad++l) rk' σ' gv' u (h1 a (by simp)) hx3.2.1 h3 hd (h.tree hk ma) hy (by omega)
  ·have hq:=exX_given hgv ho
   have hq:σ0.given.length<=σ.given.length+c.sz:=hq
   have hq2:=hgv _ _ _ _ _ _ ho2
   exact(hI b (by simp)).want ha (hl b (by simp)) (hl2 b (by simp)) (h1 b (by simp)) hx3.2.2 h3 hd (h.tree hk mb) hy (by omega) ht
 ·
  rename_i a rows
  obtain⟨g,cap,bl',hp,hm',_⟩:=h5.pt (by simp)
  obtain⟨ba,bl2,rfl,ma,hm2⟩:=NMems.cons_inv hm'
  have h1:=NmOk.sub h1 (by simp)
  obtain⟨hxa,hxk,hxr⟩:=hx3
  have hrk:∀x∈rows,x.k=16:=fun x hx=>by
   obtain⟨t,p,e,rfl,_⟩:=hxr x hx
   rfl
  simp only[Nd.sz.szs]at h7
  rw[formT_match hrk]
  refine form_match c0 (match_of h h5 hp hx2 (fun p hp=>?_) (by omega) hrk (fun u hk hy=>?_) (B:=fun i s=>s.given.length+Nd.sz.szs (rows.drop i)<=100000000) (fun t σ1 ho=>?_) (fun i row t ans s s' hr hb ho=>?_) fun i row rb u l t ans σ' rk' gv' hr hmr hy hb ht hans=>?_)
  ·rcases mem_cons.1 hp with rfl|hp
   ·omega
   ·have:=hrk p hp;omega
  ·exact hI a (by simp) m m2 (hl a (by simp)) (hl2 a (by simp)) ρ d ba Y ad rk σ gv u (h1 a (by simp)) hxa h3 hd (h.tree hk ma) hy (by omega)
  ·have hq:=hgv _ _ _ _ _ _ ho
   show σ1.given.length+Nd.sz.szs (rows.drop 0)<=_
   rw[List.drop_zero]
   omega
  ·obtain⟨tt,p,e,rfl,_⟩:=hxr row (List.mem_of_getElem? hr)
   have hil:=(List.getElem?_eq_some_iff.1 hr).1
   have hdr:rows.drop i=.mk 16 tt [p,e]::rows.drop (i+1):=by
    rw[List.drop_eq_getElem_cons hil]
    rw[List.getElem?_eq_getElem hil]at hr
    rw[Option.some.inj hr]
   rw[hdr]at hb
   have hb:s.given.length+((p.sz+(e.sz+0)+1)+Nd.sz.szs (rows.drop (i+1)))<=100000000:=hb
   have hq:s'.given.length<=s.given.length+(p.sz+e.sz):=by
    have ho:rowO (patE ρ d p t (s,[])) (fun vs s'=>exX (exT n) (bindTs ρ vs) d e ans s')=some s':=ho
    unfold rowO at ho
    obtain⟨⟨s1,vs⟩,q1,q2⟩:=bind_eq_some_iff.1 ho
    have w1:s1.given.length<=s.given.length+p.sz:=patX_given (fun s t s'=>patT_given _ p s t s') q1
    have w2:=exX_given hgv q2
    have w2:s'.given.length<=s1.given.length+e.sz:=w2
    omega
   show s'.given.length+Nd.sz.szs (rows.drop (i+1))<=_
   omega
  ·have hrm:=List.mem_of_getElem? hr
   obtain⟨tt,p,e,rfl,hps,hxe⟩:=hxr row hrm
   have hil:=(List.getElem?_eq_some_iff.1 hr).1
   have hdr:rows.drop i=.mk 16 tt [p,e]::rows.drop (i+1):=by
    rw[List.drop_eq_getElem_cons hil]
    rw[List.getElem?_eq_getElem hil]at hr
    rw[Option.some.inj hr]
   rw[hdr]at hb
   have hb:σ'.given.length+((Nd.mk 16 tt [p,e]).sz+Nd.sz.szs (rows.drop (i+1)))<=100000000:=hb
   have hnr:=h1 _ (mem_cons_of_mem _ hrm)
   have hht:(Nd.mk 16 tt [p,e]).ht<m:=hl _ (mem_cons_of_mem _ hrm)
   have hht2:(Nd.mk 16 tt [p,e]).ht<m2:=hl2 _ (mem_cons_of_mem _ hrm)
   obtain⟨m3,rfl⟩:∃m3,m=m3+1:=⟨m-1,by omega⟩
   obtain⟨m4,rfl⟩:∃m4,m2=m4+1:=⟨m2-1,by omega⟩
   obtain⟨hn1,hn2⟩:=(show (∀x∈p.all,x.k=14->ConOk ρ x)/\NmOk m3 (bindAll ρ (varsOf p) Mg.zero) e from hnr)
   have hle:e.ht<m4:=Nd.ht_lt (ps:=[p,e]) (by simp) hht2
   exact row_any ha (hR _ (mem_cons_of_mem _ hrm) e (by simp[Nd.ps])) (Nd.ht_lt (ps:=[p,e]) (by simp) hht) (Nat.lt_succ_of_lt hle) hn1 hn2 hps hxe h3 hd hmr hy (by omega) ht hans
 ·exact hx3.elim
theorem expression_any(ha:ArOk ar):∀(n:Nat)(nd:Nd),nd.ht<n->ExIH ar tb yb n nd:=by
 intro n
 induction n with
 |zero=>intro nd h;omega
 |succ n ih=>
  intro nd hn m m2 q1 q2 ρ d b Y ad rk σ gv u h1 h2 h3 h4 h5 h h7
  obtain⟨m',rfl⟩:∃m',m=m'+1:=⟨m-1,by omega⟩
  obtain⟨m2',rfl⟩:∃m2',m2=m2'+1:=⟨m2-1,by omega⟩
  have hlt:∀p∈nd.ps,p.ht<n:=fun p hp=>by
   obtain⟨k,txt,ps⟩:=nd
   exact Nd.ht_lt hp hn
  have hF:=form_any (n:=n) ha (fun p hp=>ih p (hlt p hp)) (fun r hr p hp=>ih p (by
   have h1:=hlt r hr
   obtain⟨k,txt,ps⟩:=r
   have h2:p.ht<(Nd.mk k txt ps).ht:=by
    have:=Nd.ht_lt (k:=k) (txt:=txt) hp (lt_succ_self (Nd.mk k txt ps).ht)
    exact this
   omega)) q1 q2 h1 h2 h3 h4 h5 h h7
  have hx:=expression_of hF (fun t σ' e=>by have:=formT_given (exT_given n) e;omega)
  have hgo:giveO (formT (exT n) ρ d nd σ)=exT (n+1) ρ d nd σ:=by
   rw[exT]
   cases formT (exT n) ρ d nd σ with
   |none=>rfl
   |some r=>rfl
  rw[<- hgo]
  exact hx
end
section
variable {ad:List Nat}{tb lb:Nat}
theorem WfN.own{k:Nat}{txt:Nm}{ps:List Nd}(h:WfN (.mk k txt ps)):shapeOk k ps/\txt.length<=100000000/\ps.length<=1000000:=h (.mk k txt ps) (by rw[Nd.all_eq];exact mem_cons_self)
theorem WfN.sub{k:Nat}{txt:Nm}{ps:List Nd}{p:Nd}(h:WfN (.mk k txt ps))(hp:p∈ps):WfN p:=fun x hx=>h x (by rw[Nd.all_eq];exact mem_cons_of_mem _ (alls_mem hp x hx))
theorem alls_len{p:Nd}:∀{ps:List Nd},p∈ps->p.all.length<=(Nd.all.alls ps).length:=by
 intro ps
 induction ps with
 |nil=>intro h;cases h
 |cons q r ih=>
  intro h
  rw[Nd.all.alls,length_append]
  rcases mem_cons.1 h with rfl|h
  ·omega
  ·have:=ih h;omega
theorem all_len{k:Nat}{txt:Nm}{ps:List Nd}{p:Nd}(hp:p∈ps){N:Nat}(h:(Nd.mk k txt ps).all.length<=N):p.all.length<=N:=by
 rw[Nd.all_eq,length_cons]at h
 have:=alls_len hp
 omega
theorem lkE_var(n:Nat)(ρ:Env)(txt:Nm)(ps:List Nd)(s:Lk):lkE (n+1) ρ (.mk 3 txt ps) s=s.name (ρ.get (0,txt)).isNone:=by rw[lkE]
theorem lkE_fun(n:Nat)(ρ:Env)(txt:Nm)(a:Nd)(s:Lk):lkE (n+1) ρ (.mk 5 txt [a]) s=lkE n (((0,txt),Mg.zero)::ρ) a s:=by rw[lkE]
theorem lkE_let(n:Nat)(ρ:Env)(txt:Nm)(a b:Nd)(s:Lk):lkE (n+1) ρ (.mk 6 txt [a,b]) s=lkE n (((0,txt),Mg.zero)::ρ) b (lkE n ρ a s):=by rw[lkE]
theorem lkE_rec(n:Nat)(ρ:Env)(txt:Nm)(a b:Nd)(s:Lk):lkE (n+1) ρ (.mk 7 txt [a,b]) s=lkE n (((0,txt),Mg.zero)::ρ) b (lkE n (((0,txt),Mg.zero)::ρ) a s):=by rw[lkE]
theorem lkE_row(n:Nat)(ρ:Env)(txt:Nm)(p e:Nd)(s:Lk):lkE (n+1) ρ (.mk 16 txt [p,e]) s=lkE n (bindAll ρ (varsOf p) Mg.zero) e ((consS ρ p.all s).name (hasTwice (varsOf p))):=by rw[lkE];rfl
theorem lkE_con(n:Nat)(ρ:Env)(txt:Nm)(ps:List Nd)(s:Lk):lkE (n+1) ρ (.mk 14 txt ps) s=ps.foldl (fun s p=>lkE n ρ p s) (lkCon ρ (.mk 14 txt ps) s):=by rw[lkE]
theorem lkE_parts(n:Nat)(ρ:Env)(k:Nat)(txt:Nm)(ps:List Nd)(s:Lk)(h3:k≠3)(h5:k≠5)(h6:k≠6)(h7:k≠7)(h14:k≠14)(h16:k≠16):lkE (n+1) ρ (.mk k txt ps) s=ps.foldl (fun s p=>lkE n ρ p s) s:=by
 rw[lkE]
 all_goals (intros;simp_all)
theorem list_one{ps:List Nd}(h:ps.length=1):∃a,ps=[a]:=List.length_eq_one_iff.1 h
theorem list_two{ps:List Nd}(h:ps.length=2):∃a b,ps=[a,b]:=by
 match ps,h with
 |[a,b],_=>exact⟨a,b,rfl⟩
theorem lookE_any:∀(n:Nat)(nd:Nd)(ρ:Env)(s:Lk)(w:World)(nb:Nat),nd.ht<n->WfN nd->nd.all.length<=100000000->NMem w nd nb->LkAt ad ρ tb lb s w ->
  Calls prog 115 #[ptrV lb,ptrV nb] w (LkA ad ρ tb lb (lkE n ρ nd s) w):=by
 intro n
 induction n with
 |zero=>intro nd ρ s w nb h;omega
 |succ n ih=>
  intro nd ρ s w nb hh hw hl hm h
  obtain⟨k,txt,ps⟩:=nd
  obtain⟨hsh,htx,hpl⟩:=hw.own
  have hE:∀p∈ps,∀(b:Nat)(s:Lk)(u:World),NMem u p b->LkAt ad ρ tb lb s u->Calls prog 115 #[ptrV lb,ptrV b] u (LkA ad ρ tb lb (lkE n ρ p s) u):=fun p hp b s u hmp hlp=>ih p ρ s u b (Nd.ht_lt hp hh) (hw.sub hp) (all_len hp hl) hmp hlp
  have hG:∀p∈ps,∀(b:Nat),NMem w p b->∀(ρ2:Env)(s2:Lk)(u:World),Kn (fun k=>k=tb\/k=lb) w u->LkAt ad ρ2 tb lb s2 u->Calls prog 115 #[ptrV lb,ptrV b] u (LkA ad ρ2 tb lb (lkE n ρ2 p s2) u):=fun p hp b hmp ρ2 s2 u hk hlp=>ih p ρ2 s2 u b (Nd.ht_lt hp hh) (hw.sub hp) (all_len hp hl) (h.tree hk hmp) hlp
  by_cases h3:k=3
  ·subst h3;rw[lkE_var];exact lookE_var htx h hm
  by_cases h5:k=5
  ·subst h5
   obtain⟨a,rfl⟩:=list_one hsh
   obtain⟨g,cap,bl,hp,hms,_⟩:=hm.pt (by simp)
   obtain⟨ba,bl',rfl,ma,h0⟩:=NMems.cons_inv hms
   obtain rfl:bl'=[]:=List.length_eq_zero_iff.1 h0.len
   rw[lkE_fun]
   exact lookE_fun htx h hp fun u hk hl=>hG a (by simp) ba ma _ _ u hk hl
  by_cases h6:k=6
  ·subst h6
   obtain⟨a,b,rfl⟩:=list_two hsh
   obtain⟨g,cap,bl,hp,hms,_⟩:=hm.pt (by simp)
   obtain⟨ba,bl',rfl,ma,hms⟩:=NMems.cons_inv hms
   obtain⟨bb,bl',rfl,mb,h0⟩:=NMems.cons_inv hms
   obtain rfl:bl'=[]:=List.length_eq_zero_iff.1 h0.len
   rw[lkE_let]
   exact lookE_let htx h hp (fun u hk hl=>hG a (by simp) ba ma _ _ u hk hl) fun u hk hl=>hG b (by simp) bb mb _ _ u hk hl
  by_cases h7:k=7
  ·subst h7
   obtain⟨a,b,rfl⟩:=list_two hsh
   obtain⟨g,cap,bl,hp,hms,_⟩:=hm.pt (by simp)
   obtain⟨ba,bl',rfl,ma,hms⟩:=NMems.cons_inv hms
   obtain⟨bb,bl',rfl,mb,h0⟩:=NMems.cons_inv hms
   obtain rfl:bl'=[]:=List.length_eq_zero_iff.1 h0.len
   rw[lkE_rec]
   exact lookE_rec htx h hp (fun u hk hl=>hG a (by simp) ba ma _ _ u hk hl) fun u hk hl=>hG b (by simp) bb mb _ _ u hk hl
  by_cases h16:k=16
  ·subst h16
   obtain⟨a,b,rfl⟩:=list_two hsh
   obtain⟨g,cap,bl,hp,hms,_⟩:=hm.pt (by simp)
   obtain⟨ba,bl',rfl,ma,hms⟩:=NMems.cons_inv hms
   obtain⟨bb,bl',rfl,mb,h0⟩:=NMems.cons_inv hms
   obtain rfl:bl'=[]:=List.length_eq_zero_iff.1 h0.len
   rw[lkE_row]
   exact lookE_row hm (rowLook_of h hp ma (fun x hx=>(hw.sub (p:=a) (by simp) x hx).2.1) (all_len (p:=a) (by simp) hl) fun u hk hl=>hG b (by simp) bb mb _ _ u hk hl)
  by_cases h14:k=14
  ·subst h14;rw[lkE_con];exact lookE_con (f:=fun p s=>lkE n ρ p s) htx h hm hE
  rw[lkE_parts _ _ _ _ _ _ h3 h5 h6 h7 h14 h16]
  exact lookE_parts (f:=fun p s=>lkE n ρ p s) h3 h5 h6 h7 h14 h16 h hm hE
end
end Go.Proofs.YtcbppnefeonmgaaGreatDoor
