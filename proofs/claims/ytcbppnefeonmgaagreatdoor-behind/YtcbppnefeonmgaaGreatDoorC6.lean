import Derived.Test.YtcbppnefeonmgaaGreatDoorC5
set_option linter.all false
set_option maxHeartbeats 40000000
set_option maxRecDepth 100000
open Or (inl inr)
open Option (bind_eq_some_iff)
open Nat (le_refl)
open List (length_cons cons_append length_nil nil_append)
namespace Go.Proofs.YtcbppnefeonmgaaGreatDoor
open Go.RowKit
def wt:Toks->Nat
 |[]=>0
 |t::r=>t.length+20+wt r
def mu(t:Tr):Nat:=t.text.length+1
def mus(l:List Tr):Nat:=(Tr.text.texts l).length
theorem mus_nil:mus []=0:=rfl
theorem mus_cons(t:Tr)(l:List Tr):mus (t::l)=mu t+mus l:=by
 unfold mus mu
 rw[Tr.text.texts]
 simp;omega
theorem mus_append(a b:List Tr):mus (a++b)=mus a+mus b:=by
 induction a with
 |nil=>rw[nil_append,mus_nil,Nat.zero_add]
 |cons t r ih=>rw[cons_append,mus_cons,mus_cons,ih,Nat.add_assoc]
theorem mu_mk{is:List UInt8}(h:is.length<=5)(name:List UInt8)(parts:List Tr):mu (.mk is name parts)<=9+name.length+mus parts:=by
 unfold mu mus
 rw[Tr.text]
 cases leafT is
 ·rw[cond_false]
  unfold headT
  cases (is==K.named_)
  ·rw[cond_false]
   cases (name==[])
   ·simp;omega
   ·simp;omega
  ·simp;omega
 ·simp;omega
theorem wt_kind{k:Int}{ts:Toks}(h0:k≠0)(h:(G.kindOf ts==k)=true):wt ts=(ts.headD []).length+20+wt ts.tail:=by
 cases ts with
 |nil=>
  have:G.kindOf []=k:=by simpa using h
  exact absurd this.symm h0
 |cons t r=>rfl
theorem wt_isW{x:List UInt8}{ts:Toks}(h:G.isW x ts=true):wt ts=x.length+20+wt ts.tail:=by
 unfold G.isW at h
 simp only[Bool.and_eq_true]at h
 have:=wt_kind (k:=119) (by decide) h.1
 have h2:ts.headD []=x:=by simpa using h.2
 rw[this,h2]
theorem wt_want{x:List UInt8}{ts r:Toks}(h:G.want x ts=some r):wt r+20<=wt ts:=by
 unfold G.want at h
 cases k:G.isW x ts
 ·rw[k]at h;cases h
 ·rw[k,cond_true]at h
  rw[wt_isW k,<- Option.some.inj h];omega
theorem wt_kindO{k:Int}{ts:Toks}{q:List UInt8×Toks}(h0:k≠0)(h:G.kind k ts=some q):wt ts=q.1.length+20+wt q.2:=by
 unfold G.kind at h
 cases c:(G.kindOf ts==k)
 ·rw[c]at h;cases h
 ·rw[c,cond_true]at h
  rw[wt_kind h0 c,<- Option.some.inj h]
theorem wt_every(k:Int):∀ts,wt ts=wt (G.every k ts).1+wt (G.every k ts).2:=by
 intro ts
 induction ts with
 |nil=>rfl
 |cons t r ih=>
  rw[G.every]
  cases (tokKind t==k)
  ·simp[wt]
  ·rw[cond_true]
   simp only[wt]
   rw[ih];omega
theorem mu_curried(x:Tr):∀l,mu (G.curried l x)<=mu x+wt l:=by
 intro l
 induction l with
 |nil=>exact le_refl _
 |cons a r ih=>
  rw[G.curried,wt]
  have:=mu_mk (is:=K.fun_) (by decide) a [G.curried r x]
  rw[mus_cons,mus_nil]at this
  omega
theorem mu_apps:∀(l:List Tr)(f:Tr),mu (G.apps l f)<=mu f+mus l+9*l.length:=by
 intro l
 induction l with
 |nil=>intro f;rw[G.apps];omega
 |cons a r ih=>
  intro f
  rw[G.apps,mus_cons,length_cons]
  have h1:=ih (.mk K.app_ [] [f,a])
  have h2:=mu_mk (is:=K.app_) (by decide) [] [f,a]
  rw[mus_cons,mus_cons,mus_nil,length_nil]at h2
  omega
theorem number_len:∀l:List UInt8,(numberP l).length<=l.length:=by
 intro l
 induction l with
 |nil=>exact le_refl _
 |cons a r ih=>
  cases r with
  |nil=>exact le_refl _
  |cons b r=>
   rw[numberP]
   split
   ·have:=ih;rw[length_cons];omega
   ·exact le_refl _
theorem plain_w{ts:Toks}{q:Tr×Toks}(h:G.plain ts=some q):mu q.1+9+wt q.2<=wt ts:=by
 unfold G.plain at h
 cases k1:(G.kindOf ts==100)
 ·rw[k1,cond_false]at h
  cases k2:(G.kindOf ts==110)
  ·rw[k2,cond_false]at h
   cases k3:(G.kindOf ts==99)
   ·rw[k3,cond_false]at h
    cases k4:(G.isW K.true_ ts || G.isW K.false_ ts)
    ·rw[k4]at h;cases h
    ·rw[k4,cond_true]at h
     have hq:=Option.some.inj h
     subst hq
     have hm:=mu_mk (is:=K.const_) (by decide) (ts.headD []) []
     have hw:wt ts=(ts.headD []).length+20+wt ts.tail:=by
      rcases Bool.or_eq_true_iff.1 k4 with k|k
      ·unfold G.isW at k;simp only[Bool.and_eq_true]at k;exact wt_kind (by decide) k.1
      ·unfold G.isW at k;simp only[Bool.and_eq_true]at k;exact wt_kind (by decide) k.1
     rw[mus_nil]at hm
     show mu (.mk K.const_ (ts.headD []) [])+9+wt ts.tail<=_
     omega
   ·rw[k3,cond_true]at h
    have hq:=Option.some.inj h
    subst hq
    have hm:=mu_mk (is:=K.con_) (by decide) (ts.headD []) []
    have hw:=wt_kind (by decide) k3
    rw[mus_nil]at hm
    show mu (.mk K.con_ (ts.headD []) [])+9+wt ts.tail<=_
    omega
  ·rw[k2,cond_true]at h
   have hq:=Option.some.inj h
   subst hq
   have hm:=mu_mk (is:=K.var_) (by decide) (ts.headD []) []
   have hw:=wt_kind (by decide) k2
   rw[mus_nil]at hm
   show mu (.mk K.var_ (ts.headD []) [])+9+wt ts.tail<=_
   omega
 ·rw[k1,cond_true]at h
  have hq:=Option.some.inj h
  subst hq
  have hm:=mu_mk (is:=K.num_) (by decide) (numberP (ts.headD [])) []
  have hn:=number_len (ts.headD [])
  have hw:=wt_kind (by decide) k1
  rw[mus_nil]at hm
  show mu (.mk K.num_ (numberP (ts.headD [])) [])+9+wt ts.tail<=_
  omega
theorem types_w:∀n,(∀ts q,G.atypes n ts=some q->mus q.1+wt q.2<=wt ts)/\(∀ts q,G.atypes.typ1 n ts=some q->mu q.1+wt q.2<=wt ts)/\(∀ts q,G.atypes.typ n ts=some q->mu q.1+wt q.2<=wt ts):=by
 intro n
 induction n with
 |zero=>exact⟨fun _ _ h=>by simp[G.atypes]at h,fun _ _ h=>by simp[G.atypes.typ1]at h,fun _ _ h=>by simp[G.atypes.typ]at h⟩
 |succ n ih=>
  obtain⟨ihA,ih1,ihT⟩:=ih
  refine⟨fun ts q h=>?_,fun ts q h=>?_,fun ts q h=>?_⟩
  ·rw[G.atypes]at h
   cases k1:(G.kindOf ts==108)
   ·rw[k1,cond_false]at h
    cases k2:(G.kindOf ts==110)
    ·rw[k2,cond_false]at h
     cases k3:G.isW K.open_ ts
     ·rw[k3,cond_false]at h
      rw[<- Option.some.inj h]
      show mus []+wt ts<=_
      rw[mus_nil];omega
     ·rw[k3,cond_true]at h
      simp only[bind_eq_some_iff]at h
      obtain⟨a,ha,r,hr,l,hl,h⟩:=h
      rw[<- Option.some.inj h]
      show mus (a.1::l.1)+wt l.2<=_
      rw[mus_cons]
      have h1:=ihT _ _ ha
      have h2:=wt_want hr
      have h3:=ihA _ _ hl
      have h4:=wt_isW k3
      omega
    ·rw[k2,cond_true]at h
     simp only[bind_eq_some_iff]at h
     obtain⟨l,hl,h⟩:=h
     rw[<- Option.some.inj h]
     show mus (.mk K.named_ (ts.headD []) []::l.1)+wt l.2<=_
     rw[mus_cons]
     have h1:=mu_mk (is:=K.named_) (by decide) (ts.headD []) []
     rw[mus_nil]at h1
     have h3:=ihA _ _ hl
     have h4:=wt_kind (by decide) k2
     omega
   ·rw[k1,cond_true]at h
    simp only[bind_eq_some_iff]at h
    obtain⟨l,hl,h⟩:=h
    rw[<- Option.some.inj h]
    show mus (.mk K.var_ (ts.headD []) []::l.1)+wt l.2<=_
    rw[mus_cons]
    have h1:=mu_mk (is:=K.var_) (by decide) (ts.headD []) []
    rw[mus_nil]at h1
    have h3:=ihA _ _ hl
    have h4:=wt_kind (by decide) k1
    omega
  ·rw[G.atypes.typ1]at h
   cases k1:(G.kindOf ts==110)
   ·rw[k1,cond_false]at h
    cases k2:(G.kindOf ts==108)
    ·rw[k2,cond_false]at h
     simp only[bind_eq_some_iff]at h
     obtain⟨r0,hr0,a,ha,r,hr,h⟩:=h
     rw[<- Option.some.inj h]
     have h1:=ihT _ _ ha
     have h2:=wt_want hr
     have h4:=wt_want hr0
     show mu a.1+wt r<=_
     omega
    ·rw[k2,cond_true]at h
     rw[<- Option.some.inj h]
     have h1:=mu_mk (is:=K.var_) (by decide) (ts.headD []) []
     rw[mus_nil]at h1
     have h4:=wt_kind (by decide) k2
     show mu (.mk K.var_ (ts.headD []) [])+wt ts.tail<=_
     omega
   ·rw[k1,cond_true]at h
    simp only[bind_eq_some_iff]at h
    obtain⟨l,hl,h⟩:=h
    rw[<- Option.some.inj h]
    have h1:=mu_mk (is:=K.named_) (by decide) (ts.headD []) l.1
    have h3:=ihA _ _ hl
    have h4:=wt_kind (by decide) k1
    show mu (.mk K.named_ (ts.headD []) l.1)+wt l.2<=_
    omega
  ·rw[G.atypes.typ]at h
   simp only[bind_eq_some_iff]at h
   obtain⟨a,ha,h⟩:=h
   have h1:=ih1 _ _ ha
   cases k1:G.isW K.arrow_ a.2
   ·rw[k1,cond_false]at h
    rw[<- Option.some.inj h];exact h1
   ·rw[k1,cond_true]at h
    simp only[bind_eq_some_iff]at h
    obtain⟨b,hb,h⟩:=h
    rw[<- Option.some.inj h]
    have h2:=ihT _ _ hb
    have h3:=wt_isW k1
    have h4:=mu_mk (is:=K.arrow_) (by decide) [] [a.1,b.1]
    rw[mus_cons,mus_cons,mus_nil,length_nil]at h4
    show mu (.mk K.arrow_ [] [a.1,b.1])+wt b.2<=_
    omega
def OptW(ts:Toks)(q:Option Tr×Toks):Prop:=match q.1 with
 |none=>wt q.2<=wt ts
 |some t=>mu t+9+wt q.2<=wt ts
theorem patterns_w:∀n,(∀ts q,G.pattern n ts=some q->mu q.1+wt q.2<=wt ts)/\(∀ts q,G.pattern.apatterns n ts=some q->mus q.1+wt q.2<=wt ts)/\(∀ts q,G.pattern.apattern n ts=some q->OptW ts q):=by
 intro n
 induction n with
 |zero=>exact⟨fun _ _ h=>by simp[G.pattern]at h,fun _ _ h=>by simp[G.pattern.apatterns]at h,fun _ _ h=>by simp[G.pattern.apattern]at h⟩
 |succ n ih=>
  obtain⟨ihP,ihS,ihA⟩:=ih
  refine⟨fun ts q h=>?_,fun ts q h=>?_,fun ts q h=>?_⟩
  ·rw[G.pattern]at h
   cases k1:(G.kindOf ts==99)
   ·rw[k1,cond_false]at h
    simp only[bind_eq_some_iff]at h
    obtain⟨a,ha,t,ht,h⟩:=h
    have h1:=ihA _ _ ha
    unfold OptW at h1
    rw[ht]at h1
    rw[<- Option.some.inj h]
    have h1:mu t+9+wt a.2<=wt ts:=h1
    show mu t+wt a.2<=_
    omega
   ·rw[k1,cond_true]at h
    simp only[bind_eq_some_iff]at h
    obtain⟨l,hl,h⟩:=h
    rw[<- Option.some.inj h]
    have h1:=mu_mk (is:=K.con_) (by decide) (ts.headD []) l.1
    have h3:=ihS _ _ hl
    have h4:=wt_kind (by decide) k1
    show mu (.mk K.con_ (ts.headD []) l.1)+wt l.2<=_
    omega
  ·rw[G.pattern.apatterns]at h
   simp only[bind_eq_some_iff]at h
   obtain⟨a,ha,h⟩:=h
   have h1:=ihA _ _ ha
   unfold OptW at h1
   obtain⟨o,r⟩:=a
   cases o with
   |none=>
    rw[<- Option.some.inj h,mus_nil]
    have h1:wt r<=wt ts:=h1
    show 0+wt r<=_
    omega
   |some t=>
    simp only[bind_eq_some_iff]at h
    obtain⟨l,hl,h⟩:=h
    rw[<- Option.some.inj h,mus_cons]
    have h2:=ihS _ _ hl
    have h1:mu t+9+wt r<=wt ts:=h1
    show mu t+mus l.1+wt l.2<=_
    omega
  ·rw[G.pattern.apattern]at h
   cases hp:G.plain ts with
   |some z=>
    rw[hp]at h
    rw[<- Option.some.inj h]
    exact plain_w hp
   |none=>
    rw[hp]at h
    simp only at h
    cases k1:G.isW K.under_ ts
    ·rw[k1,cond_false]at h
     cases k2:G.isW K.open_ ts
     ·rw[k2,cond_false]at h
      rw[<- Option.some.inj h]
      exact le_refl (wt ts)
     ·rw[k2,cond_true]at h
      have h4:=wt_isW k2
      cases k3:G.isW K.shut_ ts.tail
      ·rw[k3,cond_false]at h
       simp only[bind_eq_some_iff]at h
       obtain⟨a,ha,r,hr,h⟩:=h
       rw[<- Option.some.inj h]
       have h1:=ihP _ _ ha
       have h2:=wt_want hr
       show mu a.1+9+wt r<=_
       omega
      ·rw[k3,cond_true]at h
       rw[<- Option.some.inj h]
       have h5:=wt_isW k3
       have h1:mu (.mk K.const_ K.unit_ [])=3:=rfl
       show mu (.mk K.const_ K.unit_ [])+9+wt ts.tail.tail<=_
       omega
    ·rw[k1,cond_true]at h
     rw[<- Option.some.inj h]
     have h4:=wt_isW k1
     have h1:mu (.mk K.const_ K.under_ [])=2:=rfl
     show mu (.mk K.const_ K.under_ [])+9+wt ts.tail<=_
     omega
structure ExprsW(n:Nat):Prop where
 binding:∀ts q,G.binding n ts=some q->q.1.length<=5/\mu q.2.2.1+(9+q.2.1.length)+wt q.2.2.2<=wt ts
 expr:∀ts q,G.binding.expr n ts=some q->mu q.1+wt q.2<=wt ts
 set:∀a ts q,G.binding.set n a ts=some q->mu q.1+wt q.2<=mu a+wt ts
 level:∀k ts q,G.binding.level n k ts=some q->mu q.1+wt q.2<=wt ts
 levels:∀k a ts q,G.binding.levels n k a ts=some q->mu q.1+wt q.2<=mu a+wt ts
 app:∀ts q,G.binding.app n ts=some q->mu q.1+wt q.2<=wt ts
 atoms:∀ts q,G.binding.atoms n ts=some q->mus q.1+9*q.1.length+wt q.2<=wt ts
 atom:∀ts q,G.binding.atom n ts=some q->OptW ts q
 matches_:∀ts q,G.binding.matches_ n ts=some q->mu q.1+wt q.2<=wt ts
 rows:∀ts q,G.binding.rows n ts=some q->mus q.1+wt q.2<=wt ts
theorem exprs_w:∀n,ExprsW n:=by
 intro n
 induction n with
 |zero=>
  exact⟨fun _ _ h=>by simp[G.binding]at h,fun _ _ h=>by simp[G.binding.expr]at h,fun _ _ _ h=>by simp[G.binding.set]at h,fun _ _ _ h=>by simp[G.binding.level]at h,fun _ _ _ _ h=>by simp[G.binding.levels]at h,fun _ _ h=>by simp[G.binding.app]at h,fun _ _ h=>by simp[G.binding.atoms]at h,fun _ _ h=>by simp[G.binding.atom]at h,fun _ _ h=>by simp[G.binding.matches_]at h,fun _ _ h=>by simp[G.binding.rows]at h⟩
 |succ n ih=>
  refine⟨fun ts q h=>?_,fun ts q h=>?_,fun a ts q h=>?_,fun k ts q h=>?_,fun k a ts q h=>?_,fun ts q h=>?_,fun ts q h=>?_,fun ts q h=>?_,fun ts q h=>?_,fun ts q h=>?_⟩
  ·rw[G.binding]at h
   simp only[bind_eq_some_iff]at h
   obtain⟨nm,hnm,h⟩:=h
   have h0:=wt_kindO (by decide) hnm
   have h00:wt (bif G.isW K.rec_ ts then ts.tail else ts)<=wt ts:=by
    cases k:G.isW K.rec_ ts
    ·exact le_refl _
    ·rw[cond_true,wt_isW k];omega
   cases k1:(G.isW K.rec_ ts && (G.every 110 nm.2).1.isEmpty)
   ·rw[k1,cond_false]at h
    simp only[bind_eq_some_iff]at h
    obtain⟨r,hr,x,hx,h⟩:=h
    rw[<- Option.some.inj h]
    have h1:=wt_every 110 nm.2
    have h2:=wt_want hr
    have h3:=ih.expr _ _ hx
    have h4:=mu_curried x.1 (G.every 110 nm.2).1
    refine⟨?_,?_⟩
    ·show (bif G.isW K.rec_ ts then K.rec_ else K.let_).length<=5
     cases G.isW K.rec_ ts<;>decide
    ·show mu (G.curried (G.every 110 nm.2).1 x.1)+(9+nm.1.length)+wt x.2<=_
     omega
   ·rw[k1,cond_true]at h;cases h
  ·rw[G.binding.expr]at h
   cases k1:G.isW K.let_ ts
   ·rw[k1,cond_false]at h
    cases k2:G.isW K.fun_ ts
    ·rw[k2,cond_false]at h
     cases k3:G.isW K.if_ ts
     ·rw[k3,cond_false]at h
      simp only[bind_eq_some_iff]at h
      obtain⟨a,ha,b,hb,h⟩:=h
      have h1:=ih.level _ _ _ ha
      have h2:=ih.set _ _ _ hb
      cases k4:G.isW K.semi_ b.2
      ·rw[k4,cond_false]at h
       rw[<- Option.some.inj h];omega
      ·rw[k4,cond_true]at h
       simp only[bind_eq_some_iff]at h
       obtain⟨c,hc,h⟩:=h
       rw[<- Option.some.inj h]
       have h3:=ih.expr _ _ hc
       have h4:=wt_isW k4
       have h5:=mu_mk (is:=K.seq_) (by decide) [] [b.1,c.1]
       rw[mus_cons,mus_cons,mus_nil,length_nil]at h5
       show mu (.mk K.seq_ [] [b.1,c.1])+wt c.2<=_
       omega
     ·rw[k3,cond_true]at h
      simp only[bind_eq_some_iff]at h
      obtain⟨a,ha,r1,hr1,b,hb,r2,hr2,c,hc,h⟩:=h
      rw[<- Option.some.inj h]
      have h1:=ih.expr _ _ ha
      have h2:=ih.expr _ _ hb
      have h3:=ih.expr _ _ hc
      have h4:=wt_isW k3
      have h6:=wt_want hr1
      have h7:=wt_want hr2
      have h5:=mu_mk (is:=K.if_) (by decide) [] [a.1,b.1,c.1]
      rw[mus_cons,mus_cons,mus_cons,mus_nil,length_nil]at h5
      show mu (.mk K.if_ [] [a.1,b.1,c.1])+wt c.2<=_
      omega
    ·rw[k2,cond_true]at h
     simp only[bind_eq_some_iff]at h
     obtain⟨one,ho,r,hr,x,hx,h⟩:=h
     rw[<- Option.some.inj h]
     have h0:=wt_kindO (by decide) ho
     have h1:=wt_every 110 one.2
     have h2:=wt_want hr
     have h3:=ih.expr _ _ hx
     have h4:=mu_curried x.1 (one.1::(G.every 110 one.2).1)
     have h5:=wt_isW k2
     rw[wt]at h4
     show mu (G.curried (one.1::(G.every 110 one.2).1) x.1)+wt x.2<=_
     omega
   ·rw[k1,cond_true]at h
    simp only[bind_eq_some_iff]at h
    obtain⟨b,hb,r,hr,x,hx,h⟩:=h
    rw[<- Option.some.inj h]
    have h1:=ih.binding _ _ hb
    have h2:=wt_want hr
    have h3:=ih.expr _ _ hx
    have h4:=wt_isW k1
    have h5:=mu_mk h1.1 b.2.1 [b.2.2.1,x.1]
    rw[mus_cons,mus_cons,mus_nil]at h5
    show mu (.mk b.1 b.2.1 [b.2.2.1,x.1])+wt x.2<=_
    omega
  ·rw[G.binding.set]at h
   cases k1:G.isW K.set_ ts
   ·rw[k1,cond_false]at h
    rw[<- Option.some.inj h];exact le_refl _
   ·rw[k1,cond_true]at h
    simp only[bind_eq_some_iff]at h
    obtain⟨b,hb,h⟩:=h
    rw[<- Option.some.inj h]
    have h1:=ih.level _ _ _ hb
    have h4:=wt_isW k1
    have h5:=mu_mk (is:=K.setN_) (by decide) [] [a,b.1]
    rw[mus_cons,mus_cons,mus_nil,length_nil]at h5
    show mu (.mk K.setN_ [] [a,b.1])+wt b.2<=_
    omega
  ·rw[G.binding.level]at h
   by_cases hk:k=3
   ·rw[if_pos hk]at h;exact ih.app _ _ h
   ·rw[if_neg hk]at h
    simp only[bind_eq_some_iff]at h
    obtain⟨a,ha,h⟩:=h
    have h1:=ih.level _ _ _ ha
    have h2:=ih.levels _ _ _ _ h
    omega
  ·rw[G.binding.levels]at h
   cases k1:(G.kindOf ts==119 && (ts.headD []).length==1 && (signsAt k).contains ((ts.headD []).getD 0 0))
   ·rw[k1,cond_false]at h
    rw[<- Option.some.inj h];exact le_refl _
   ·rw[k1,cond_true]at h
    simp only[bind_eq_some_iff]at h
    obtain⟨b,hb,h⟩:=h
    simp only[Bool.and_eq_true]at k1
    have h4:=wt_kind (by decide) k1.1.1
    have h6:(ts.headD []).length=1:=by simpa using k1.1.2
    have h1:=ih.level _ _ _ hb
    have h5:=mu_mk (is:=ts.headD []) (by omega) [] [a,b.1]
    rw[mus_cons,mus_cons,mus_nil,length_nil]at h5
    by_cases hk:k=0
    ·rw[if_pos hk]at h
     rw[<- Option.some.inj h]
     show mu (.mk (ts.headD []) [] [a,b.1])+wt b.2<=_
     omega
    ·rw[if_neg hk]at h
     have h2:=ih.levels _ _ _ _ h
     omega
  ·rw[G.binding.app]at h
   cases k1:(G.kindOf ts==99)
   ·rw[k1,cond_false]at h
    simp only[bind_eq_some_iff]at h
    obtain⟨l,hl,h⟩:=h
    have h1:=ih.atoms _ _ hl
    obtain⟨ll,r⟩:=l
    cases ll with
    |nil=>cases h
    |cons f fs=>
     rw[<- Option.some.inj h]
     have h2:=mu_apps fs f
     simp only[mus_cons,length_cons]at h1
     show mu (G.apps fs f)+wt r<=_
     omega
   ·rw[k1,cond_true]at h
    simp only[bind_eq_some_iff]at h
    obtain⟨l,hl,h⟩:=h
    rw[<- Option.some.inj h]
    have h1:=ih.atoms _ _ hl
    have h4:=wt_kind (by decide) k1
    have h5:=mu_mk (is:=K.con_) (by decide) (ts.headD []) l.1
    show mu (.mk K.con_ (ts.headD []) l.1)+wt l.2<=_
    omega
  ·rw[G.binding.atoms]at h
   simp only[bind_eq_some_iff]at h
   obtain⟨a,ha,h⟩:=h
   have h1:=ih.atom _ _ ha
   unfold OptW at h1
   obtain⟨o,r⟩:=a
   cases o with
   |none=>
    rw[<- Option.some.inj h]
    have h1:wt r<=wt ts:=h1
    show 0+9*0+wt r<=_
    omega
   |some t=>
    simp only[bind_eq_some_iff]at h
    obtain⟨l,hl,h⟩:=h
    rw[<- Option.some.inj h]
    have h2:=ih.atoms _ _ hl
    have h1:mu t+9+wt r<=wt ts:=h1
    show mus (t::l.1)+9*(t::l.1).length+wt l.2<=_
    rw[mus_cons,length_cons]
    have h2:mus l.1+9*l.1.length+wt l.2<=wt r:=h2
    omega
  ·rw[G.binding.atom]at h
   cases hp:G.plain ts with
   |some z=>
    rw[hp]at h
    rw[<- Option.some.inj h]
    exact plain_w hp
   |none=>
    rw[hp]at h
    simp only at h
    cases k2:G.isW K.open_ ts
    ·rw[k2,cond_false]at h
     cases k3:G.isW K.bang_ ts
     ·rw[k3,cond_false]at h
      cases k4:G.isW K.match_ ts
      ·rw[k4,cond_false]at h
       rw[<- Option.some.inj h]
       exact le_refl (wt ts)
      ·rw[k4,cond_true]at h
       simp only[bind_eq_some_iff]at h
       obtain⟨a,ha,h⟩:=h
       rw[<- Option.some.inj h]
       have h1:=ih.matches_ _ _ ha
       have h4:=wt_isW k4
       show mu a.1+9+wt a.2<=_
       omega
     ·rw[k3,cond_true]at h
      simp only[bind_eq_some_iff]at h
      obtain⟨a,ha,t,ht,h⟩:=h
      rw[<- Option.some.inj h]
      have h1:=ih.atom _ _ ha
      unfold OptW at h1
      rw[ht]at h1
      have h1:mu t+9+wt a.2<=wt ts.tail:=h1
      have h4:=wt_isW k3
      have h5:=mu_mk (is:=K.bang_) (by decide) [] [t]
      rw[mus_cons,mus_nil,length_nil]at h5
      show mu (.mk K.bang_ [] [t])+9+wt a.2<=_
      omega
    ·rw[k2,cond_true]at h
     have h4:=wt_isW k2
     cases k3:G.isW K.shut_ ts.tail
     ·rw[k3,cond_false]at h
      simp only[bind_eq_some_iff]at h
      obtain⟨a,ha,r,hr,h⟩:=h
      rw[<- Option.some.inj h]
      have h1:=ih.expr _ _ ha
      have h2:=wt_want hr
      show mu a.1+9+wt r<=_
      omega
     ·rw[k3,cond_true]at h
      rw[<- Option.some.inj h]
      have h5:=wt_isW k3
      have h1:mu (.mk K.const_ K.unit_ [])=3:=rfl
      show mu (.mk K.const_ K.unit_ [])+9+wt ts.tail.tail<=_
      omega
  ·rw[G.binding.matches_]at h
   simp only[bind_eq_some_iff]at h
   obtain⟨x,hx,r,hr,l,hl,h⟩:=h
   have h1:=ih.expr _ _ hx
   have h2:=wt_want hr
   have h3:=ih.rows _ _ hl
   by_cases h12:12<l.1.length
   ·rw[if_pos h12]at h;cases h
   ·rw[if_neg h12]at h
    rw[<- Option.some.inj h]
    have h5:=mu_mk (is:=K.match_) (by decide) [] (x.1::l.1)
    rw[mus_cons,length_nil]at h5
    show mu (.mk K.match_ [] (x.1::l.1))+wt l.2<=_
    omega
  ·rw[G.binding.rows]at h
   simp only[bind_eq_some_iff]at h
   obtain⟨r,hr,p,hp,r2,hr2,a,ha,h⟩:=h
   have h1:=wt_want hr
   have h2:=(patterns_w n).1 _ _ hp
   have h3:=wt_want hr2
   have h4:=ih.expr _ _ ha
   have h5:=mu_mk (is:=K.row_) (by decide) [] [p.1,a.1]
   rw[mus_cons,mus_cons,mus_nil,length_nil]at h5
   cases k1:G.isW K.end_ a.2
   ·rw[k1,cond_false]at h
    simp only[bind_eq_some_iff]at h
    obtain⟨l,hl,h⟩:=h
    rw[<- Option.some.inj h]
    have h6:=ih.rows _ _ hl
    show mus (.mk K.row_ [] [p.1,a.1]::l.1)+wt l.2<=_
    rw[mus_cons]
    omega
   ·rw[k1,cond_true]at h
    rw[<- Option.some.inj h]
    have h6:=wt_isW k1
    show mus [.mk K.row_ [] [p.1,a.1]]+wt a.2.tail<=_
    rw[mus_cons,mus_nil]
    omega
theorem variants_w:∀n ts q,G.variants n ts=some q->mus q.1+wt q.2<=wt ts:=by
 intro n
 induction n with
 |zero=>intro ts q h;simp[G.variants]at h
 |succ n ih=>
  intro ts q h
  rw[G.variants]at h
  simp only[bind_eq_some_iff]at h
  obtain⟨c,hc,l,hl,h⟩:=h
  have h1:=wt_kindO (by decide) hc
  have h2:=(types_w n).1 _ _ hl
  have h5:=mu_mk (is:=K.named_) (by decide) c.1 l.1
  cases k1:G.isW K.bar_ l.2
  ·rw[k1,cond_false]at h
   rw[<- Option.some.inj h]
   show mus [.mk K.named_ c.1 l.1]+wt l.2<=_
   rw[mus_cons,mus_nil]
   omega
  ·rw[k1,cond_true]at h
   simp only[bind_eq_some_iff]at h
   obtain⟨v,hv,h⟩:=h
   rw[<- Option.some.inj h]
   have h6:=wt_isW k1
   have h7:=ih _ _ hv
   show mus (.mk K.named_ c.1 l.1::v.1)+wt v.2<=_
   rw[mus_cons]
   omega
theorem letters_w:∀l:Toks,mus (G.letters l)<=wt l:=by
 intro l
 induction l with
 |nil=>exact le_refl _
 |cons a r ih=>
  show mus (.mk K.var_ (a.drop 1) []::G.letters r)<=_
  rw[mus_cons,wt]
  have h:=mu_mk (is:=K.var_) (by decide) (a.drop 1) []
  rw[mus_nil,List.length_drop]at h
  omega
theorem decl_w{n:Nat}{ts:Toks}{t:Tr}(h:G.decl n ts=some t):mu t<=wt ts:=by
 unfold G.decl at h
 simp only[bind_eq_some_iff]at h
 obtain⟨q,hq,h⟩:=h
 have ht:q.1=t:=by
  cases k:q.2.isEmpty
  ·rw[k]at h;cases h
  ·rw[k]at h;exact Option.some.inj h
 rw[<- ht]
 cases k1:G.isW K.type_ ts
 ·rw[k1,cond_false]at hq
  cases k2:G.isW K.do_ ts
  ·rw[k2,cond_false]at hq
   simp only[bind_eq_some_iff]at hq
   obtain⟨r,hr,b,hb,hq⟩:=hq
   rw[<- Option.some.inj hq]
   have h1:=(exprs_w n).binding _ _ hb
   have h2:=wt_want hr
   have h5:=mu_mk h1.1 b.2.1 [b.2.2.1]
   rw[mus_cons,mus_nil]at h5
   show mu (.mk b.1 b.2.1 [b.2.2.1])<=_
   omega
  ·rw[k2,cond_true]at hq
   simp only[bind_eq_some_iff]at hq
   obtain⟨x,hx,hq⟩:=hq
   rw[<- Option.some.inj hq]
   have h1:=(exprs_w n).expr _ _ hx
   have h2:=wt_isW k2
   have h5:=mu_mk (is:=K.do_) (by decide) [] [x.1]
   rw[mus_cons,mus_nil,length_nil]at h5
   show mu (.mk K.do_ [] [x.1])<=_
   omega
 ·rw[k1,cond_true]at hq
  simp only[bind_eq_some_iff]at hq
  obtain⟨nm,hnm,r,hr,v,hv,hq⟩:=hq
  rw[<- Option.some.inj hq]
  have h0:=wt_kindO (by decide) hnm
  have h1:=variants_w _ _ _ hv
  have h2:=wt_want hr
  have h3:=wt_isW k1
  have h4:=wt_every 108 nm.2
  have h6:=letters_w (G.every 108 nm.2).1
  have h5:=mu_mk (is:=K.type_) (by decide) nm.1 (G.letters (G.every 108 nm.2).1++v.1)
  rw[mus_append]at h5
  show mu (.mk K.type_ nm.1 (G.letters (G.every 108 nm.2).1++v.1))<=_
  omega
def Tr.full:Tr->Prop
 |.mk is name ts=>(is=K.named_->name≠[])/\fulls ts
 where
 fulls:List Tr->Prop
  |[]=>True
  |t::r=>t.full/\fulls r
theorem Tr.full_mk{is name:List UInt8}{ts:List Tr}(h:is=K.named_->name≠[])(hs:Tr.full.fulls ts):(Tr.mk is name ts).full:=by rw[Tr.full];exact⟨h,hs⟩
theorem Tr.fulls_nil:Tr.full.fulls []:=by rw[Tr.full.fulls];trivial
theorem Tr.fulls_cons{t:Tr}{l:List Tr}(h:t.full)(hl:Tr.full.fulls l):Tr.full.fulls (t::l):=by rw[Tr.full.fulls];exact⟨h,hl⟩
theorem Tr.fulls_append:∀{a b:List Tr},Tr.full.fulls a->Tr.full.fulls b->Tr.full.fulls (a++b):=by
 intro a
 induction a with
 |nil=>intro b _ h;exact h
 |cons t r ih=>intro b h hb;rw[Tr.full.fulls]at h;exact Tr.fulls_cons h.1 (ih h.2 hb)
theorem head_ne{k:Int}{ts:Toks}(h0:k≠0)(h:(G.kindOf ts==k)=true):ts.headD []≠[]:=by
 intro e
 unfold G.kindOf at h
 rw[e]at h
 have:tokKind []=k:=by simpa using h
 exact h0 (this.symm.trans (by decide))
theorem kindO_ne{k:Int}{ts:Toks}{q:List UInt8×Toks}(h0:k≠0)(h:G.kind k ts=some q):q.1≠[]:=by
 unfold G.kind at h
 cases k1:(G.kindOf ts==k)
 ·rw[k1]at h;cases h
 ·rw[k1]at h;rw[<- Option.some.inj h];exact head_ne h0 k1
theorem kindO_not{k:Int}{ts:Toks}{q:List UInt8×Toks}{x:List UInt8}(h0:tokKind x≠k)(h:G.kind k ts=some q):q.1≠x:=by
 unfold G.kind at h
 cases k1:(G.kindOf ts==k)
 ·rw[k1]at h;cases h
 ·rw[k1]at h
  rw[<- Option.some.inj h]
  intro e
  unfold G.kindOf at k1
  have e:ts.headD []=x:=e
  rw[e]at k1
  exact h0 (by simpa using k1)
theorem types_full:∀n,(∀ts q,G.atypes n ts=some q->Tr.full.fulls q.1)/\(∀ts q,G.atypes.typ1 n ts=some q->q.1.full)/\(∀ts q,G.atypes.typ n ts=some q->q.1.full):=by
 intro n
 induction n with
 |zero=>exact⟨fun _ _ h=>by simp[G.atypes]at h,fun _ _ h=>by simp[G.atypes.typ1]at h,fun _ _ h=>by simp[G.atypes.typ]at h⟩
 |succ n ih=>
  obtain⟨ihA,ih1,ihT⟩:=ih
  refine⟨fun ts q h=>?_,fun ts q h=>?_,fun ts q h=>?_⟩
  ·rw[G.atypes]at h
   cases k1:(G.kindOf ts==108)
   ·rw[k1,cond_false]at h
    cases k2:(G.kindOf ts==110)
    ·rw[k2,cond_false]at h
     cases k3:G.isW K.open_ ts
     ·rw[k3,cond_false]at h
      rw[<- Option.some.inj h]
      exact Tr.fulls_nil
     ·rw[k3,cond_true]at h
      simp only[bind_eq_some_iff]at h
      obtain⟨a,ha,r,hr,l,hl,h⟩:=h
      rw[<- Option.some.inj h]
      exact Tr.fulls_cons (ihT _ _ ha) (ihA _ _ hl)
    ·rw[k2,cond_true]at h
     simp only[bind_eq_some_iff]at h
     obtain⟨l,hl,h⟩:=h
     rw[<- Option.some.inj h]
     exact Tr.fulls_cons (Tr.full_mk (fun _=>head_ne (by decide) k2) Tr.fulls_nil) (ihA _ _ hl)
   ·rw[k1,cond_true]at h
    simp only[bind_eq_some_iff]at h
    obtain⟨l,hl,h⟩:=h
    rw[<- Option.some.inj h]
    exact Tr.fulls_cons (Tr.full_mk (fun e=>absurd e (by decide)) Tr.fulls_nil) (ihA _ _ hl)
  ·rw[G.atypes.typ1]at h
   cases k1:(G.kindOf ts==110)
   ·rw[k1,cond_false]at h
    cases k2:(G.kindOf ts==108)
    ·rw[k2,cond_false]at h
     simp only[bind_eq_some_iff]at h
     obtain⟨r0,hr0,a,ha,r,hr,h⟩:=h
     rw[<- Option.some.inj h]
     have h1:=ihT _ _ ha
     exact h1
    ·rw[k2,cond_true]at h
     rw[<- Option.some.inj h]
     exact Tr.full_mk (fun e=>absurd e (by decide)) Tr.fulls_nil
   ·rw[k1,cond_true]at h
    simp only[bind_eq_some_iff]at h
    obtain⟨l,hl,h⟩:=h
    rw[<- Option.some.inj h]
    exact Tr.full_mk (fun _=>head_ne (by decide) k1) (ihA _ _ hl)
  ·rw[G.atypes.typ]at h
   simp only[bind_eq_some_iff]at h
   obtain⟨a,ha,h⟩:=h
   have h1:=ih1 _ _ ha
   cases k1:G.isW K.arrow_ a.2
   ·rw[k1,cond_false]at h
    rw[<- Option.some.inj h];exact h1
   ·rw[k1,cond_true]at h
    simp only[bind_eq_some_iff]at h
    obtain⟨b,hb,h⟩:=h
    rw[<- Option.some.inj h]
    exact Tr.full_mk (fun e=>absurd e (by decide)) (Tr.fulls_cons h1 (Tr.fulls_cons (ihT _ _ hb) Tr.fulls_nil))
theorem variants_full:∀n ts q,G.variants n ts=some q->Tr.full.fulls q.1:=by
 intro n
 induction n with
 |zero=>intro ts q h;simp[G.variants]at h
 |succ n ih=>
  intro ts q h
  rw[G.variants]at h
  simp only[bind_eq_some_iff]at h
  obtain⟨c,hc,l,hl,h⟩:=h
  have h1:=kindO_ne (by decide) hc
  have h2:=(types_full n).1 _ _ hl
  cases k1:G.isW K.bar_ l.2
  ·rw[k1,cond_false]at h
   rw[<- Option.some.inj h]
   exact Tr.fulls_cons (Tr.full_mk (fun _=>h1) h2) Tr.fulls_nil
  ·rw[k1,cond_true]at h
   simp only[bind_eq_some_iff]at h
   obtain⟨v,hv,h⟩:=h
   rw[<- Option.some.inj h]
   exact Tr.fulls_cons (Tr.full_mk (fun _=>h1) h2) (ih _ _ hv)
theorem letters_full:∀l:Toks,Tr.full.fulls (G.letters l):=by
 intro l
 induction l with
 |nil=>exact Tr.fulls_nil
 |cons a r ih=>exact Tr.fulls_cons (Tr.full_mk (fun e=>absurd e (by decide)) Tr.fulls_nil) ih
theorem binding_is{n:Nat}{ts:Toks}{b:List UInt8×List UInt8×Tr×Toks}(h:G.binding n ts=some b):b.1=K.rec_\/b.1=K.let_:=by
 cases n with
 |zero=>simp[G.binding]at h
 |succ n=>
  rw[G.binding]at h
  simp only[bind_eq_some_iff]at h
  obtain⟨nm,_,h⟩:=h
  cases hc:(G.isW K.rec_ ts && (G.every 110 nm.2).1.isEmpty)
  ·rw[hc,cond_false]at h
   simp only[bind_eq_some_iff]at h
   obtain⟨_,_,x,_,h⟩:=h
   rw[<- Option.some.inj h]
   cases G.isW K.rec_ ts
   ·exact inr rfl
   ·exact inl rfl
  ·rw[hc]at h;cases h
def Tr.dfull(t:Tr):Prop:=t.is=K.type_->t.name≠[]/\t.name≠[45,62]/\Tr.full.fulls t.parts
theorem decl_full{n:Nat}{ts:Toks}{t:Tr}(h:G.decl n ts=some t):t.dfull:=by
 unfold G.decl at h
 simp only[bind_eq_some_iff]at h
 obtain⟨q,hq,h⟩:=h
 have ht:q.1=t:=by
  cases k:q.2.isEmpty
  ·rw[k]at h;cases h
  ·rw[k]at h;exact Option.some.inj h
 rw[<- ht]
 intro he
 cases k1:G.isW K.type_ ts
 ·exfalso
  rw[k1,cond_false]at hq
  cases k2:G.isW K.do_ ts
  ·rw[k2,cond_false]at hq
   simp only[bind_eq_some_iff]at hq
   obtain⟨r,hr,b,hb,hq⟩:=hq
   rw[<- Option.some.inj hq]at he
   rcases binding_is hb with h1|h1
   ·exact absurd (h1.symm.trans he) (by decide)
   ·exact absurd (h1.symm.trans he) (by decide)
  ·rw[k2,cond_true]at hq
   simp only[bind_eq_some_iff]at hq
   obtain⟨x,hx,hq⟩:=hq
   rw[<- Option.some.inj hq]at he
   have he:K.do_=K.type_:=he
   exact absurd he (by decide)
 ·rw[k1,cond_true]at hq
  simp only[bind_eq_some_iff]at hq
  obtain⟨nm,hnm,r,hr,v,hv,hq⟩:=hq
  rw[<- Option.some.inj hq]
  exact⟨kindO_ne (by decide) hnm,kindO_not (by decide) hnm,Tr.fulls_append (letters_full _) (variants_full _ _ _ hv)⟩
end Go.Proofs.YtcbppnefeonmgaaGreatDoor
