import Derived.Test.YtbkiipiocpnnnaaGreatDoorC17
import Derived.Test.YtbkiipiocpnnnaaGreatDoorC5
set_option linter.all false
set_option maxHeartbeats 40000000
set_option maxRecDepth 100000
open Go.Proofs.Tryz
open Or (inl inr)
open Nat (le_refl le_trans lt_of_lt_of_le)
open List (length_append length_cons mem_cons_self mem_cons_of_mem mem_cons length_nil map_append map_cons)
namespace Go.Proofs.YtbkiipiocpnnnaaGreatDoor
section
def Lk.fine(s:Lk):Prop:=s.wn=false/\s.wc=false
theorem Lk.name_fine{s:Lk}{b:Bool}(h:(s.name b).fine):s.fine/\b=false:=by
 obtain⟨h1,h2⟩:=h
 unfold Lk.name at h1 h2
 simp only[Bool.or_eq_false_iff]at h1
 exact⟨⟨h1.1,h2⟩,h1.2⟩
def ConOk(ρ:Env)(x:Nd):Prop:=∃m,ρ.get (1,x.txt)=some m/\x.ps.length=m.vr.parts.length
theorem lkParts_fine{ρ:Env}{key:Ky}{cnt:Mg->Nat}{np:Nat}{s:Lk}(h:(lkParts ρ key cnt np s).fine):s.fine/\∃m,ρ.get key=some m/\np=cnt m:=by
 obtain⟨h1,h2⟩:=h
 unfold lkParts at h1 h2
 simp only[Bool.or_eq_false_iff]at h1 h2
 cases hm:ρ.get key with
 |none=>rw[hm]at h1;simp at h1
 |some m=>
  rw[hm]at h2
  refine⟨⟨h1.1,h2.1⟩,m,rfl,?_⟩
  have:=h2.2
  simpa using this
theorem lkCon_fine{ρ:Env}{x:Nd}{s:Lk}(h:(lkCon ρ x s).fine):s.fine/\ConOk ρ x:=lkParts_fine h
theorem foldl_fine{α:Type}{f:Lk->α->Lk}{P:α->Prop}:∀(l:List α)(s:Lk),(∀a∈l,∀s,(f s a).fine->s.fine/\P a)->(l.foldl f s).fine->s.fine/\∀a∈l,P a:=by
 intro l
 induction l with
 |nil=>intro s _ h;exact⟨h,by simp⟩
 |cons a r ih=>
  intro s hf h
  rw[List.foldl_cons]at h
  obtain⟨h1,h2⟩:=ih (f s a) (fun b hb=>hf b (mem_cons_of_mem _ hb)) h
  obtain⟨h3,h4⟩:=hf a (mem_cons_self ..) s h1
  refine⟨h3,fun b hb=>?_⟩
  rcases mem_cons.1 hb with rfl|hb
  ·exact h4
  ·exact h2 b hb
def NmOk:Nat->Env->Nd->Prop
 |0,_,_=>True
 |n+1,ρ,.mk k txt ps=>
  match k,ps with
  |3,_=>(ρ.get (0,txt)).isSome=true
  |5,[a]=>NmOk n (((0,txt),Mg.zero)::ρ) a
  |6,[a,b]=>NmOk n ρ a/\NmOk n (((0,txt),Mg.zero)::ρ) b
  |7,[a,b]=>NmOk n (((0,txt),Mg.zero)::ρ) a/\NmOk n (((0,txt),Mg.zero)::ρ) b
  |16,[p,e]=>(∀x∈p.all,x.k=14->ConOk ρ x)/\NmOk n (bindAll ρ (varsOf p) Mg.zero) e
  |14,ps=>ConOk ρ (.mk 14 txt ps)/\∀p∈ps,NmOk n ρ p
  |_,ps=>∀p∈ps,NmOk n ρ p
theorem lkE_fine:∀(n:Nat)(ρ:Env)(nd:Nd)(s:Lk),(lkE n ρ nd s).fine->s.fine/\NmOk n ρ nd:=by
 intro n
 induction n with
 |zero=>intro ρ nd s h;exact⟨h,trivial⟩
 |succ n ih=>
  intro ρ nd s h
  obtain⟨k,txt,ps⟩:=nd
  unfold lkE at h
  unfold NmOk
  split at h
  ·obtain⟨h1,h2⟩:=Lk.name_fine h
   refine⟨h1,?_⟩
   cases hx:ρ.get (0,txt)with
   |none=>rw[hx]at h2;cases h2
   |some m=>rfl
  ·exact ih _ _ _ h
  ·obtain⟨h1,h2⟩:=ih _ _ _ h
   obtain⟨h3,h4⟩:=ih _ _ _ h1
   exact⟨h3,h4,h2⟩
  ·obtain⟨h1,h2⟩:=ih _ _ _ h
   obtain⟨h3,h4⟩:=ih _ _ _ h1
   exact⟨h3,h4,h2⟩
  ·rename_i p e
   obtain⟨h1,h2⟩:=ih _ _ _ h
   obtain⟨h3,_⟩:=Lk.name_fine h1
   obtain⟨h4,h5⟩:=foldl_fine (P:=fun x=>ConOk ρ x) _ _ (fun a _ s hs=>lkCon_fine hs) h3
   exact⟨h4,fun x hx hk=>h5 x (List.mem_filter.2 ⟨hx,by simpa using hk⟩),h2⟩
  ·obtain⟨h1,h2⟩:=foldl_fine (P:=fun p=>NmOk n ρ p) _ _ (fun a _ s hs=>ih _ _ _ hs) h
   obtain⟨h3,h4⟩:=lkCon_fine h1
   exact⟨h3,h4,h2⟩
  ·obtain⟨h1,h2⟩:=foldl_fine (P:=fun p=>NmOk n ρ p) _ _ (fun a _ s hs=>ih _ _ _ hs) h
   refine⟨h1,?_⟩
   split
   all_goals first|exact h2|(exfalso;simp_all;done)
structure Knows(ρ ρ':Env):Prop where
 var:∀x,(ρ.get (0,x)).isSome=true->(ρ'.get (0,x)).isSome=true
 con:∀x,ρ'.get (1,x)=ρ.get (1,x)
theorem Knows.refl(ρ:Env):Knows ρ ρ:=⟨fun _ h=>h,fun _=>rfl⟩
theorem Knows.bind{ρ ρ':Env}(h:Knows ρ ρ')(x:Nm)(m m':Mg):Knows (((0,x),m)::ρ) (((0,x),m')::ρ'):=by
 refine⟨fun y hy=>?_,fun y=>?_⟩
 ·rw[Env.get]at hy ⊢
  split
  ·rfl
  ·rename_i hne
   rw[if_neg hne]at hy
   exact h.var y hy
 ·rw[get_cons_ne (by simp),get_cons_ne (by simp)];exact h.con y
theorem ConOk.knows{ρ ρ':Env}(h:Knows ρ ρ'){x:Nd}(hc:ConOk ρ x):ConOk ρ' x:=by
 obtain⟨m,h1,h2⟩:=hc
 exact⟨m,by rw[h.con];exact h1,h2⟩
theorem Knows.binds{ρ ρ':Env}(h:Knows ρ ρ')(m:Mg):∀vs:List Nm,Knows (bindAll ρ vs m) (bindAll ρ' vs m):=by
 intro vs
 induction vs generalizing ρ ρ' with
 |nil=>exact h
 |cons v r ih=>exact ih (h.bind v m m)
theorem NmOk.knows:∀(n:Nat)(ρ ρ':Env)(nd:Nd),Knows ρ ρ'->NmOk n ρ nd->NmOk n ρ' nd:=by
 intro n
 induction n with
 |zero=>intro _ _ _ _ _;trivial
 |succ n ih=>
  intro ρ ρ' nd hk h
  obtain⟨k,txt,ps⟩:=nd
  unfold NmOk at h ⊢
  split
  ·exact hk.var _ h
  ·exact ih _ _ _ (hk.bind _ _ _) h
  ·exact⟨ih _ _ _ hk h.1,ih _ _ _ (hk.bind _ _ _) h.2⟩
  ·exact⟨ih _ _ _ (hk.bind _ _ _) h.1,ih _ _ _ (hk.bind _ _ _) h.2⟩
  ·exact⟨fun x hx hx2=>(h.1 x hx hx2).knows hk,ih _ _ _ (hk.binds _ _) h.2⟩
  ·exact⟨h.1.knows hk,fun p hp=>ih _ _ _ hk (h.2 p hp)⟩
  ·have h2:∀p∈ps,NmOk n ρ p:=by
    split at h
    all_goals first|exact h|(exfalso;simp_all;done)
   exact fun p hp=>ih _ _ _ hk (h2 p hp)
end
section
def WrOk(ar:Nm->Nat)(ls:List Nm)(q:Nd):Prop:=∀x∈q.all,(x.k=21->x.txt∈ls)/\(x.k=22->x.ps.length=ar x.txt)
structure VrA(ar:Nm->Nat)(v:Vr):Prop where
 len:v.letters.length=ar v.data
 nodup:v.letters.Nodup
 parts:∀q∈v.parts,WrOk ar v.letters q
structure EnvA(ar:Nm->Nat)(ρ:Env):Prop where
 type:∀nm m,ρ.get (2,nm)=some m->m.letters=ar nm
 con:∀c m,ρ.get (1,c)=some m->VrA ar m.vr
theorem lkW_fine{ρ:Env}{ls:List Nm}{l:List Nd}{s:Lk}(h:(lkW ρ ls l s).fine):s.fine/\∀x∈l,(x.k=21->x.txt∈ls)/\(x.k=22->∃m,ρ.get (2,x.txt)=some m/\x.ps.length=m.letters):=by
 refine foldl_fine (P:=fun x=>(x.k=21->x.txt∈ls)/\(x.k=22->∃m,ρ.get (2,x.txt)=some m/\x.ps.length=m.letters)) l s (fun a _ s hs=>?_) h
 split at hs
 ·rename_i hk
  obtain⟨h1,h2⟩:=Lk.name_fine hs
  refine⟨h1,fun _=>by simpa using h2,fun e=>by omega⟩
 ·rename_i hk
  split at hs
  ·obtain⟨h1,h2⟩:=lkParts_fine hs
   exact⟨h1,fun e=>absurd e hk,fun _=>h2⟩
  ·rename_i hk2
   exact⟨hs,fun e=>absurd e hk,fun e=>absurd e hk2⟩
theorem hasTwice_false{l:List Nm}(h:hasTwice l=false):l.Nodup:=by
 unfold hasTwice at h
 simpa using h
theorem lkType_fine{ρ:Env}{txt:Nm}{ps:List Nd}{s:Lk}(h:(lkType ρ txt ps s).fine) :
  s.fine/\ρ.get (2,txt)=none/\((only 19 ps).map Nd.txt).Nodup/\(∀v∈only 20 ps,ρ.get (1,v.txt)=none) /\
   ∀v∈only 20 ps,∀q∈v.ps,∀x∈q.all,(x.k=21->x.txt∈(only 19 ps).map Nd.txt)/\(x.k=22->∃m,Env.get (((2,txt),Mg.type ((only 19 ps).map Nd.txt).length)::ρ) (2,x.txt)=some m/\x.ps.length=m.letters):=by
 unfold lkType at h
 simp only at h
 obtain⟨h1,h2⟩:=foldl_fine (P:=fun v:Nd=>∀q∈v.ps,∀x∈q.all,(x.k=21->x.txt∈(only 19 ps).map Nd.txt)/\(x.k=22->∃m,Env.get (((2,txt),Mg.type ((only 19 ps).map Nd.txt).length)::ρ) (2,x.txt)=some m/\x.ps.length=m.letters)) _ _ (fun v _ s hs=>by
  exact foldl_fine (P:=fun q:Nd=>∀x∈q.all,(x.k=21->x.txt∈(only 19 ps).map Nd.txt)/\(x.k=22->∃m,Env.get (((2,txt),Mg.type ((only 19 ps).map Nd.txt).length)::ρ) (2,x.txt)=some m/\x.ps.length=m.letters)) _ _ (fun q _ s hs=>lkW_fine hs) hs) h
 obtain⟨h3,h4⟩:=foldl_fine (P:=fun c:Nm=>ρ.get (1,c)=none) _ _ (fun c _ s hs=>by
  obtain⟨a,b⟩:=Lk.name_fine hs
  refine⟨a,?_⟩
  cases hx:ρ.get (1,c)with
  |none=>rfl
  |some m=>rw[hx]at b;cases b) h1
 obtain⟨h5,h6⟩:=Lk.name_fine h3
 simp only[Bool.or_eq_false_iff]at h6
 refine⟨h5,?_,hasTwice_false h6.1.2,fun v hv=>h4 _ (List.mem_map.2 ⟨v,hv,rfl⟩),h2⟩
 cases hx:ρ.get (2,txt)with
 |none=>rfl
 |some m=>rw[hx]at h6;simp at h6
theorem declareType_get{txt:Nm}{ls:List Nm}{k:Nat}{x:Nm}:∀(vs:List Nd)(ρ:Env)(m:Mg),Env.get (vs.foldl (fun ρ v=>(((1,v.txt),Mg.con ⟨txt,ls,v.ps,k⟩)::ρ:Env)) ρ) (1,x)=some m->(∃v∈vs,m=Mg.con ⟨txt,ls,v.ps,k⟩)\/ρ.get (1,x)=some m:=by
 intro vs
 induction vs with
 |nil=>intro ρ m h;exact inr h
 |cons v r ih=>
  intro ρ m h
  rw[List.foldl_cons]at h
  rcases ih _ m h with⟨u,hu,h1⟩|h1
  ·exact inl ⟨u,mem_cons_of_mem _ hu,h1⟩
  ·rw[Env.get]at h1
   split at h1
   ·exact inl ⟨v,mem_cons_self ..,(Option.some.inj h1).symm⟩
   ·exact inr h1
theorem declareType_type{txt:Nm}{ls:List Nm}{k:Nat}{x:Nm}:∀(vs:List Nd)(ρ:Env),Env.get (vs.foldl (fun ρ v=>(((1,v.txt),Mg.con ⟨txt,ls,v.ps,k⟩)::ρ:Env)) ρ) (2,x)=ρ.get (2,x):=by
 intro vs
 induction vs with
 |nil=>intro ρ;rfl
 |cons v r ih=>intro ρ;rw[List.foldl_cons,ih,get_cons_ne (by simp)]
theorem declareType_envA{ar:Nm->Nat}{ρ:Env}{txt:Nm}{ps:List Nd}{s:Lk}(h:EnvA ar ρ)(hf:(lkType ρ txt ps s).fine)(ha:ar txt=(only 19 ps).length):EnvA ar (declareType ρ txt ps):=by
 obtain⟨_,h1,h2,_,h4⟩:=lkType_fine hf
 have hty:∀nm m,Env.get (((2,txt),Mg.type ((only 19 ps).map Nd.txt).length)::ρ) (2,nm)=some m->m.letters=ar nm:=by
  intro nm m hm
  rw[Env.get]at hm
  split at hm
  ·rename_i e
   cases hm
   have e:nm=txt:=(Prod.mk.inj e).2
   rw[e,ha]
   simp[Mg.type]
  ·exact h.type nm m hm
 refine⟨fun nm m hm=>?_,fun c m hm=>?_⟩
 ·unfold declareType at hm
  rw[declareType_type]at hm
  exact hty nm m hm
 ·unfold declareType at hm
  rcases declareType_get _ _ m hm with⟨v,hv,rfl⟩|hm
  ·refine⟨by rw[show (Mg.con _).vr.data=txt from rfl,ha];simp[Mg.con],h2,fun q hq x hx=>?_⟩
   obtain⟨h5,h6⟩:=h4 v hv q hq x hx
   refine⟨h5,fun hk=>?_⟩
   obtain⟨m',hm',hl⟩:=h6 hk
   rw[hl];exact hty _ _ hm'
  ·rw[get_cons_ne (by simp)]at hm
   exact h.con c m hm
def arOf(l:List Nd)(nm:Nm):Nat:=
 if nm=arrowN then 2 else if nm=refN then 1 else if nm=intN\/nm=boolN\/nm=unitN then 0
 else match l.find? (fun d=>d.k==18 && d.txt==nm)with
  |some d=>(only 19 d.ps).length
  |none=>1000000
def TypesKnown(ρ:Env)(l:List Nd):Prop:=(∀nm,nm=refN\/nm=intN\/nm=boolN\/nm=unitN->(ρ.get (2,nm)).isSome=true)/\∀d∈l,d.k=18->(ρ.get (2,d.txt)).isSome=true
theorem arOf_here{a b:List Nd}{d:Nd}{ρ:Env}(hk:d.k=18)(hn:ρ.get (2,d.txt)=none)(ht:TypesKnown ρ a)(hne:d.txt≠arrowN):arOf (a++d::b) d.txt=(only 19 d.ps).length:=by
 have hpre:¬(d.txt=refN\/d.txt=intN\/d.txt=boolN\/d.txt=unitN):=fun e=>by
  have:=ht.1 _ e
  rw[hn]at this;cases this
 unfold arOf
 rw[if_neg hne,if_neg (fun e=>hpre (inl e)),if_neg (fun e=>hpre (inr e)),List.find?_append]
 have hnone:a.find? (fun x=>x.k==18 && x.txt==d.txt)=none:=by
  rw[List.find?_eq_none]
  intro x hx hc
  simp only[Bool.and_eq_true,beq_iff_eq]at hc
  have:=ht.2 x hx hc.1
  rw[hc.2,hn]at this;cases this
 rw[hnone]
 simp[hk]
end
section
structure TExt(σ τ:TS):Prop where
 fnd:τ.fnd=σ.fnd
 given:τ.given=σ.given
 len:σ.nodes.length<=τ.nodes.length
 node:∀i,i<σ.nodes.length->τ.node i=σ.node i
theorem TExt.refl(σ:TS):TExt σ σ:=⟨rfl,rfl,le_refl _,fun _ _=>rfl⟩
theorem TExt.trans{a b c:TS}(h:TExt a b)(k:TExt b c):TExt a c:=⟨k.fnd.trans h.fnd,k.given.trans h.given,le_trans h.len k.len,fun i hi=>(k.node i (lt_of_lt_of_le hi h.len)).trans (h.node i hi)⟩
theorem TExt.new(σ:TS)(t:TN):TExt σ (σ.new t).2:=⟨rfl,rfl,by rw[TS.new_len];omega,fun i hi=>by rw[TS.new_node,if_neg (by omega)]⟩
theorem TExt.root{σ τ:TS}(h:TExt σ τ)(i:Nat):τ.root i=σ.root i:=by unfold TS.root;rw[h.fnd]
theorem instL_some{σ:TS}{T:List Nat->Nat->Bool}{d n:Nat}(ih:∀{acc acc':List Nat}{i:Nat}{τ:TS}{m:List (Nat×Nat)},TExt σ τ->i<σ.nodes.length->wk σ T n acc i=some (acc',true)->∃j τ' m',inst d n τ m i=some (j,τ',m')/\TExt τ τ') :
  ∀(ps:List Nat) {acc acc':List Nat}{τ:TS}{m:List (Nat×Nat)},TExt σ τ->(∀p∈ps,p<σ.nodes.length)->wk.wkL (wk σ T n) acc ps=some (acc',true)->∃js τ' m',inst.instL (inst d n) τ m ps=some (js,τ',m')/\TExt τ τ'/\js.length=ps.length:=by
 intro ps
 induction ps with
 |nil=>intro acc acc' τ m h _ _;exact⟨[],τ,m,rfl,TExt.refl _,rfl⟩
 |cons p r ihr=>
  intro acc acc' τ m h hp hw
  rw[wk.wkL]at hw
  cases hg:wk σ T n acc p with
  |none=>rw[hg]at hw;cases hw
  |some y=>
   obtain⟨a1,b1⟩:=y
   rw[hg]at hw
   cases b1 with
   |false=>cases hw
   |true=>
    obtain⟨j,τ1,m1,h1,h2⟩:=ih (τ:=τ) (m:=m) h (hp p (mem_cons_self ..)) hg
    obtain⟨js,τ2,m2,h3,h4,h5⟩:=ihr (τ:=τ1) (m:=m1) (h.trans h2) (fun q hq=>hp q (mem_cons_of_mem _ hq)) hw
    refine⟨j::js,τ2,m2,?_,h2.trans h4,by simp[h5]⟩
    rw[inst.instL,h1]
    simp only
    rw[h3]
theorem inst_some{σ:TS}(hok:σ.Rg){T:List Nat->Nat->Bool}{d:Nat}:∀{n:Nat}{acc acc':List Nat}{i:Nat}{τ:TS}{m:List (Nat×Nat)},TExt σ τ->i<σ.nodes.length->wk σ T n acc i=some (acc',true)->∃j τ' m',inst d n τ m i=some (j,τ',m')/\TExt τ τ':=by
 intro n
 induction n with
 |zero=>intro acc acc' i τ m _ _ h;cases h
 |succ n ih=>
  intro acc acc' i τ m h hi hw
  have hr:=hok.root_lt hi
  rw[wk]at hw
  split at hw
  ·rw[inst,h.root]
   have hl:τ.isLetter (σ.root i)=σ.isLetter (σ.root i):=by unfold TS.isLetter;rw[h.node _ hr]
   by_cases h1:τ.isLetter (σ.root i)=true
   ·rw[if_pos h1]
    split
    ·exact⟨_,_,_,rfl,TExt.refl _⟩
    ·split
     ·exact⟨_,_,_,rfl,TExt.refl _⟩
     ·exact⟨_,_,_,rfl,TExt.new _ _⟩
   ·rw[if_neg h1,h.node _ hr]
    obtain⟨js,τ',m',h2,h3,_⟩:=instL_some (fun {acc acc' i τ m} a b c=>ih a b c) (τ:=τ) (m:=m) _ h (fun p hp=>hok.part_lt hr hp) hw
    rw[h2]
    exact⟨_,_,_,rfl,h3.trans (TExt.new _ _)⟩
  ·cases hw
theorem TS.inst_fits{σ:TS}(hok:σ.Rg){i:Nat}(hi:i<σ.nodes.length)(hf:σ.fits i=true)(d:Nat):∃j τ m,Go.Proofs.YtbkiipiocpnnnaaGreatDoor.inst d wkFuel σ [] i=some (j,τ,m)/\TExt σ τ:=by
 obtain⟨a,ha⟩:=σ.fits_wk i
 rw[hf]at ha
 exact inst_some hok (TExt.refl σ) hi ha
def Arrows(σ:TS):Prop:=∀i,i<σ.nodes.length->(σ.node i).name=arrowN->(σ.node i).parts.length=2
theorem wrL_some{σ:TS}{T:List Nat->Nat->Bool}{n:Nat}(ih:∀{acc acc':List Nat}{i:Nat}{ls:List Nat},i<σ.nodes.length->wk σ T n acc i=some (acc',true)->∃s ls',wr σ n ls i=some (s,ls')) :
  ∀(ps:List Nat) {acc acc':List Nat}{ls:List Nat},(∀p∈ps,p<σ.nodes.length)->wk.wkL (wk σ T n) acc ps=some (acc',true)->(∃s ls',wr.wrL σ (wr σ n) ls ps=some (s,ls'))/\∀p∈ps,∀ls,∃s ls',wr σ n ls p=some (s,ls'):=by
 intro ps
 induction ps with
 |nil=>intro acc acc' ls _ _;exact⟨⟨[],ls,rfl⟩,by simp⟩
 |cons p r ihr=>
  intro acc acc' ls hp hw
  rw[wk.wkL]at hw
  cases hg:wk σ T n acc p with
  |none=>rw[hg]at hw;cases hw
  |some y=>
   obtain⟨a1,b1⟩:=y
   rw[hg]at hw
   cases b1 with
   |false=>cases hw
   |true=>
    obtain⟨s1,ls1,h1⟩:=ih (ls:=ls) (hp p (mem_cons_self ..)) hg
    obtain⟨⟨s2,ls2,h2⟩,h3⟩:=ihr (ls:=ls1) (fun q hq=>hp q (mem_cons_of_mem _ hq)) hw
    refine⟨⟨_,ls2,by rw[wr.wrL,h1];simp only;rw[h2]⟩,fun q hq ls=>?_⟩
    rcases mem_cons.1 hq with rfl|hq
    ·exact ih (hp q (mem_cons_self ..)) hg
    ·exact h3 q hq ls
theorem wr_some{σ:TS}(hok:σ.Rg)(har:Arrows σ){T:List Nat->Nat->Bool}:∀{n:Nat}{acc acc':List Nat}{i:Nat}{ls:List Nat},i<σ.nodes.length->wk σ T n acc i=some (acc',true)->∃s ls',wr σ n ls i=some (s,ls'):=by
 intro n
 induction n with
 |zero=>intro acc acc' i ls _ h;cases h
 |succ n ih=>
  intro acc acc' i ls hi hw
  have hr:=hok.root_lt hi
  rw[wk]at hw
  split at hw
  ·obtain⟨h1,h2⟩:=wrL_some (fun {acc acc' i ls} a b=>ih a b) (ls:=ls) _ (fun p hp=>hok.part_lt hr hp) hw
   rw[wr]
   by_cases hl:σ.isLetter (σ.root i)=true
   ·rw[if_pos hl]
    split<;>exact⟨_,_,rfl⟩
   ·rw[if_neg hl]
    by_cases ha:(σ.node (σ.root i)).name=arrowN
    ·rw[if_pos ha]
     have hlen:=har _ hr ha
     match hps:(σ.node (σ.root i)).parts,hlen with
     |[a,b],_=>
      rw[hps]at h2
      obtain⟨s1,ls1,h3⟩:=h2 a (mem_cons_self ..) ls
      obtain⟨s2,ls2,h4⟩:=h2 b (mem_cons_of_mem _ (mem_cons_self ..)) ls1
      simp only
      rw[h3]
      simp only
      rw[h4]
      exact⟨_,_,rfl⟩
    ·rw[if_neg ha]
     obtain⟨s,ls',h3⟩:=h1
     rw[h3]
     exact⟨_,_,rfl⟩
  ·cases hw
theorem TS.text_fits{σ:TS}(hok:σ.Rg)(har:Arrows σ){i:Nat}(hi:i<σ.nodes.length)(hf:σ.fits i=true):∃ls,wr σ wkFuel [] i=some (σ.text i,ls):=by
 obtain⟨a,ha⟩:=σ.fits_wk i
 rw[hf]at ha
 obtain⟨s,ls,h⟩:=wr_some hok har (ls:=[]) hi ha
 refine⟨ls,?_⟩
 unfold TS.text
 rw[h];rfl
end
section
open Go.RowKit
theorem under_tps:prog.underlying 92=some (.slice tyTypeP):=by kernel_rfl
theorem info_tp:(prog.info? tyTypeP).map (fun i=>(i.zero,i.size,i.bytes))=some (some (.pointer none),1,8):=by kernel_rfl
theorem run_append_tp{w:World}{base:Nat}{v:Value}{ns:List Nat}{ty:TypeId}(k:Nat)(hown:w.ownsRow base tyTypeP 1 v ns.length (ns.map ptrV))(hn:ns.length<=100000000)(hb:base<=w.heap.size) :
  ∃v' w',(Builtin.append_ #[92,92] ty #[v,.slice (some ⟨w.heap.size,0,none⟩) 1 1]).run prog (w.alloc (.cells #[.pointer (some ⟨k,0,none⟩)] tyTypeP))=.ok v' w' /\
   w'.ownsRow base tyTypeP 1 v' (ns++[k]).length ((ns++[k]).map ptrV)/\(w.alloc (.cells #[.pointer (some ⟨k,0,none⟩)] tyTypeP)).grownBy w' v.ownBlock/\(∀g,v'.ownBlock=some g->v.ownBlock=some g\/w.heap.size<g)/\∃g cap,v'=.slice (some ⟨g,0,none⟩) (ns++[k]).length cap:=by
 obtain⟨i0,hi,hz0,hz1,hz2⟩:=info_parts info_tp
 have hown1:=hown.alloc (.cells #[.pointer (some ⟨k,0,none⟩)] tyTypeP)
 have hnews:∀j u,[Value.pointer (some ⟨k,0,none⟩)][j]?=some u->(w.alloc (.cells #[.pointer (some ⟨k,0,none⟩)] tyTypeP)).cell? ((⟨w.heap.size,0,none⟩:Addr).add j)=some u:=fun j u hj=>cell_new rfl (by simpa using hj)
 have h1:∀u∈[Value.pointer (some ⟨k,0,none⟩)],u.oneCell'=true:=by intro u hu;simp at hu;subst hu;rfl
 obtain⟨v',w',hr,ho',hg',_⟩:=run_append_own (P:=prog) (w.alloc (.cells #[.pointer (some ⟨k,0,none⟩)] tyTypeP)) base 92 ty tyTypeP i0 (.pointer none) 1 8 under_tps hi hz0 hz1 hz2 rfl (by decide) v ns.length (ns.map ptrV) hown1 ⟨w.heap.size,0,none⟩ 1 1 [.pointer (some ⟨k,0,none⟩)] rfl hnews h1 (by unfold maxLen;omega) (by omega) (by simp;omega)
 have ho2:w'.ownsRow base tyTypeP 1 v' (ns++[k]).length ((ns++[k]).map ptrV):=by
  rw[length_append,map_append];exact ho'
 refine⟨v',w',hr,ho2,hg',?_,?_⟩
 ·intro g hgv
  rcases hown1.2 with⟨rfl,hn0⟩|⟨g0,cap,cur,rfl,hbg,hg,hnc,hcm,hcs,htake⟩
  ·have h:=run_append_nil (P:=prog) (w.alloc (.cells #[.pointer (some ⟨k,0,none⟩)] tyTypeP)) 92 ty tyTypeP i0 (.pointer none) under_tps hi hz0 ⟨w.heap.size,0,none⟩ 1 1 [.pointer (some ⟨k,0,none⟩)] (by rw[hz1];rfl) hnews (by omega) (by omega) (by rw[hz2];omega)
   rw[hr]at h
   simp only[Result.ok.injEq]at h
   rw[h.1]at hgv
   simp[Value.ownBlock]at hgv
   omega
  ·by_cases hroom:ns.length+1<=cap
   ·have h:=run_append_room (P:=prog) (w.alloc (.cells #[.pointer (some ⟨k,0,none⟩)] tyTypeP)) 92 ty tyTypeP i0 under_tps hi g0 ns.length cap cur hg ⟨w.heap.size,0,none⟩ 1 1 [.pointer (some ⟨k,0,none⟩)] (by rw[hz1];rfl) hnews h1 hroom (by rw[hcs,hz1];simp only[length_cons,length_nil];omega)
    rw[hr]at h
    simp only[Result.ok.injEq]at h
    rw[h.1]at hgv
    exact inl hgv
   ·have h:=run_append_grow (P:=prog) (w.alloc (.cells #[.pointer (some ⟨k,0,none⟩)] tyTypeP)) 92 ty tyTypeP i0 (.pointer none) under_tps hi hz0 ⟨g0,0,none⟩ ns.length cap (ns.map ptrV) (by rw[hz1];exact hown.1) (hown1.cells (g:=g0) rfl) ⟨w.heap.size,0,none⟩ 1 1 [.pointer (some ⟨k,0,none⟩)] (by rw[hz1];rfl) hnews (by omega) (by omega) (growslice_fits (by omega) (by rw[hz2];omega))
    rw[hr]at h
    simp only[Result.ok.injEq]at h
    rw[h.1]at hgv
    simp[Value.ownBlock]at hgv
    omega
 ·rcases ownsRow_forms ho2 with⟨_,hn0⟩|h
  ·simp at hn0
  ·exact h
theorem append_tp{ops:Array Oper}{rest:List Oper}{o:Oper}{a:Act}{Q:Exit->Act->World->Prop}{w:World}(hgd:o.guard=none)(s x:Operand)
  (ho:o.op=.call { callee:=.builtin .append,args:=#[s,x],argTypes:=#[92,92] }) {base:Nat}{v:Value}{ns:List Nat} (k:Nat)
  (hown:w.ownsRow base tyTypeP 1 v ns.length (ns.map ptrV)) (hn:ns.length<=100000000) (hb:base<=w.heap.size) (hs:a.eval s=v) (hx:a.eval x=.slice (some ⟨w.heap.size,0,none⟩) 1 1)
  (h:∀v' w',w'.ownsRow base tyTypeP 1 v' (ns++[k]).length ((ns++[k]).map ptrV)->(w.alloc (.cells #[.pointer (some ⟨k,0,none⟩)] tyTypeP)).grownBy w' v.ownBlock->Hid (∀g,v'.ownBlock=some g->v.ownBlock=some g\/w.heap.size<g)->wpList prog ops Q rest (a.put o.dst v') w') :
  wpList prog ops Q (o::rest) a (w.alloc (.cells #[.pointer (some ⟨k,0,none⟩)] tyTypeP)):=by
 obtain⟨v',w',hr,h2,h3,h4,_⟩:=run_append_tp (ty:=o.type) k hown hn hb
 refine wpList_plain hgd fun K hK=>?_
 unfold Oper.wp execOp
 simp only[ho,resolve,invoke,builtin,Sem.run_bind,Sem.run_pure,Result.andThen_ok,List.map_toArray,map_cons,List.map_nil,hs,hx,hr]
 exact hK _ _ (h v' w' h2 h3 h4)
end
end Go.Proofs.YtbkiipiocpnnnaaGreatDoor
