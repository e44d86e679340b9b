import Derived.Test.YtbkiipiocpnnnaaGreatDoorC16
set_option linter.all false
set_option maxHeartbeats 40000000
set_option maxRecDepth 100000
open Or (inl inr)
open Nat (le_refl le_trans zero_le lt_of_lt_of_le)
open List (mem_cons_self mem_cons_of_mem mem_append mem_singleton append_assoc mem_cons)
namespace Go.Proofs.YtbkiipiocpnnnaaGreatDoor
section
section
variable {dm:Nat}{σ0 σ:TS}
def VarsN(σ0:TS)(s:TS×List (Nm×Nat)):Prop:=∀x∈s.2,NewT σ0 s.1 x.2
theorem patX_grow(hok:σ0.Rg){g:Nd->TS×List (Nm×Nat)->Option (Nat×(TS×List (Nm×Nat)))}{p:Nd}
  (hg:∀s t s',VarsN σ0 s->Grow dm σ0 s.1->g p s=some (t,s')->Step dm σ0 s.1 s'.1/\NewT σ0 s'.1 t/\VarsN σ0 s') {want:Nat}{s s':TS×List (Nm×Nat)} (hi:VarsN σ0 s) (h:Grow dm σ0 s.1) (hw:NewT σ0 s.1 want) (hs:patT.patX g p want s=some s'):Step dm σ0 s.1 s'.1/\VarsN σ0 s':=by
 unfold patT.patX at hs
 cases hx:g p s with
 |none=>rw[hx]at hs;cases hs
 |some y=>
  obtain⟨t,s1⟩:=y
  rw[hx]at hs
  obtain⟨st1,n1,i1⟩:=hg s t s1 hi h hx
  simp only at hs
  cases hy:(s1.1.give t).unify t want with
  |none=>rw[hy]at hs;cases hs
  |some σ2=>
   rw[hy]at hs
   cases hs
   have st2:=give_step st1.grow t
   have st3:=unify_grow hok st2.grow (σ:=s1.1.give t) n1 (hw.mono st1.le) hy
   exact⟨(st1.trans st2).trans st3,fun x hx=>(i1 x hx).mono (st2.trans st3).le⟩
theorem patT_grow(hok:σ0.Rg){ρ:Env}(hρ:EnvC ρ){d:Nat}(hd:dm<=d):∀(n:Nat) (p:Nd) (s:TS×List (Nm×Nat)) (t:Nat) (s':TS×List (Nm×Nat)),VarsN σ0 s->Grow dm σ0 s.1->patT ρ d n p s=some (t,s')->Step dm σ0 s.1 s'.1/\NewT σ0 s'.1 t/\VarsN σ0 s':=by
 intro n
 induction n with
 |zero=>intro p s t s' _ _ hs;cases hs
 |succ n ih=>
  intro p s t s' hi h hs
  obtain⟨k,txt,ps⟩:=p
  rw[patT]at hs
  split at hs
  ·cases hs
   obtain⟨s1,n1⟩:=letter_step h hd
   exact⟨s1,n1,fun x hx=>(hi x hx).mono s1.le⟩
  ·split at hs
   ·cases hs
    obtain⟨s1,n1⟩:=letter_step h hd
    refine⟨s1,n1,fun x hx=>?_⟩
    rcases mem_append.1 hx with hx|hx
    ·exact(hi x hx).mono s1.le
    ·rw[mem_singleton.1 hx];exact n1
   ·split at hs
    ·exact conT_grow (get:=Prod.fst) (put:=fun s σ=>(σ,s.2)) (I:=VarsN σ0) (fun _ _=>rfl) (fun s τ hs hl x hx=>(hs x hx).mono hl) hρ hd (fun p _ want s s' hi h hw hx=>patX_grow hok (fun s t s' h1 h2 h3=>ih p s t s' h1 h2 h3) hi h hw hx) hi h hs
    ·cases hs
     obtain⟨s1,n1⟩:=named_step h (plainN_ne k) (ps:=[]) (by simp)
     exact⟨s1,n1,fun x hx=>(hi x hx).mono s1.le⟩
theorem EnvC.vars{ρ:Env}:∀{vs:List (Nm×Nat)},EnvC ρ->EnvC (bindTs ρ vs):=by
 intro vs
 induction vs generalizing ρ with
 |nil=>intro h;exact h
 |cons v r ih=>intro h;exact ih (h.var v.1 _)
theorem EnvV.vars{ρ:Env}:∀{vs:List (Nm×Nat)},EnvV σ0 σ ρ->(∀x∈vs,NewT σ0 σ x.2)->EnvV σ0 σ (bindTs ρ vs):=by
 intro vs
 induction vs generalizing ρ with
 |nil=>intro h _;exact h
 |cons v r ih=>intro h hv;exact ih (h.var v.1 (hv v (mem_cons_self ..))) fun x hx=>hv x (mem_cons_of_mem _ hx)
def ExG(dm:Nat)(σ0:TS)(g:Env->Nat->Nd->TS->Option (Nat×TS)):Prop:=
 ∀ρ d nd σ t σ',EnvC ρ->EnvV σ0 σ ρ->dm<=d->Grow dm σ0 σ->g ρ d nd σ=some (t,σ')->Step dm σ0 σ σ'/\NewT σ0 σ' t
variable {g:Env->Nat->Nd->TS->Option (Nat×TS)}
theorem exX_grow(hok:σ0.Rg)(hg:ExG dm σ0 g){ρ:Env}{d:Nat}{nd:Nd}{want:Nat}{σ':TS}(hc:EnvC ρ)(hv:EnvV σ0 σ ρ)(hd:dm<=d)(h:Grow dm σ0 σ)(hw:NewT σ0 σ want)(hs:exX g ρ d nd want σ=some σ'):Step dm σ0 σ σ':=by
 unfold exX at hs
 cases hx:g ρ d nd σ with
 |none=>rw[hx]at hs;cases hs
 |some y=>
  obtain⟨t,σ1⟩:=y
  rw[hx]at hs
  obtain⟨s1,n1⟩:=hg ρ d nd σ t σ1 hc hv hd h hx
  exact s1.trans (unify_grow hok s1.grow n1 (hw.mono s1.le) hs)
theorem openAll_step(hok:σ0.Rg)(hdm:dm<=openD)(h:Grow dm σ0 σ){t:Nat}(ht:NewT σ0 σ t)(hf:σ.fits t=true)(d:Nat):Step dm σ0 σ (σ.openAll d t):=by
 rw[TS.openAll_eq]
 exact⟨h.openAll hdm d _ (h.pre_new hok ht.1 hf),by rw[(opened_alike _ _ _).len];exact le_refl _⟩
theorem boundT_grow(hok:σ0.Rg)(hdm:dm<=openD)(hg:ExG dm σ0 g){ρ:Env}{d:Nat}{isRec:Bool}{txt:Nm}{a:Nd}{t:Nat}{σ':TS}(hc:EnvC ρ)(hv:EnvV σ0 σ ρ)(hd:dm<=(if isValue (a.ht+1) a then d+1 else d))(h:Grow dm σ0 σ)(hs:boundT g ρ d isRec txt a σ=some (t,σ')):Step dm σ0 σ σ'/\NewT σ0 σ' t:=by
 unfold boundT at hs
 generalize (if isValue (a.ht+1) a then d+1 else d)=d' at hs hd
 simp only at hs
 have key:∀t1 σ1,(if isRec then
   match g (((0,txt),Mg.var σ.nodes.length)::ρ) d' a (σ.letter d').2 with
   |some (t,σ')=>(σ'.unify σ.nodes.length t).map fun s=>(σ.nodes.length,s)
   |none=>none
  else g ρ d' a σ)=some (t1,σ1)->Step dm σ0 σ σ1/\NewT σ0 σ1 t1:=by
  intro t1 σ1 hs
  cases isRec with
  |false=>exact hg ρ d' a σ t1 σ1 hc hv hd h hs
  |true=>
   simp only[if_true]at hs
   obtain⟨s1,n1⟩:=letter_step h hd
   cases hx:g (((0,txt),Mg.var σ.nodes.length)::ρ) d' a (σ.letter d').2 with
   |none=>rw[hx]at hs;cases hs
   |some y=>
    obtain⟨t2,σ2⟩:=y
    rw[hx]at hs
    obtain⟨s2,n2⟩:=hg _ _ _ _ _ _ (hc.var _ _) ((hv.mono s1.le).var _ n1) hd s1.grow hx
    simp only at hs
    cases hy:σ2.unify σ.nodes.length t2 with
    |none=>rw[hy]at hs;cases hs
    |some σ3=>
     rw[hy]at hs
     cases hs
     have s3:=unify_grow hok s2.grow (n1.mono s2.le) n2 hy
     exact⟨(s1.trans s2).trans s3,n1.mono (s2.trans s3).le⟩
 generalize (if isRec then
   match g (((0,txt),Mg.var σ.nodes.length)::ρ) d' a (σ.letter d').2 with
   |some (t,σ')=>(σ'.unify σ.nodes.length t).map fun s=>(σ.nodes.length,s)
   |none=>none
  else g ρ d' a σ)=r at hs key
 cases r with
 |none=>cases hs
 |some y=>
  obtain⟨t1,σ1⟩:=y
  obtain⟨s1,n1⟩:=key t1 σ1 rfl
  simp only at hs
  split at hs
  ·rename_i hf
   cases hs
   have s2:=openAll_step hok hdm s1.grow n1 hf d
   exact⟨s1.trans s2,n1.mono s2.le⟩
  ·cases hs
theorem rowsT_grow(hok:σ0.Rg)(hg:ExG dm σ0 g){ρ:Env}{d subj ans:Nat}(hc:EnvC ρ)(hd:dm<=d):∀(rows:List Nd)(σ σ':TS),EnvV σ0 σ ρ->Grow dm σ0 σ->NewT σ0 σ subj->NewT σ0 σ ans->rowsT g ρ d subj ans rows σ=some σ'->Step dm σ0 σ σ':=by
 intro rows
 induction rows with
 |nil=>intro σ σ' _ h _ _ hs;rw[rowsT]at hs;cases hs;exact⟨h,le_refl _⟩
 |cons r rs ih=>
  intro σ σ' hv h h1 h2 hs
  obtain⟨k,txt,ps⟩:=r
  match ps,hs with
  |[p,e],hs=>
   rw[rowsT]at hs
   cases hx:patE ρ d p subj (σ,[])with
   |none=>rw[hx]at hs;cases hs
   |some y=>
    obtain⟨σ1,vs⟩:=y
    rw[hx]at hs
    obtain⟨s1,i1⟩:=patX_grow (σ0:=σ0) (dm:=dm) hok (fun s t s' a b c=>patT_grow hok hc hd _ p s t s' a b c) (s:=(σ,[])) (by simp[VarsN]) h h1 hx
    simp only at hs
    cases hy:exX g (bindTs ρ vs) d e ans σ1 with
    |none=>rw[hy]at hs;cases hs
    |some σ2=>
     rw[hy]at hs
     have s2:=exX_grow hok hg hc.vars ((hv.mono s1.le).vars i1) hd s1.grow (h2.mono s1.le) hy
     exact(s1.trans s2).trans (ih σ2 σ' (hv.mono (s1.trans s2).le) s2.grow (h1.mono (s1.trans s2).le) (h2.mono (s1.trans s2).le) hs)
  |[],hs=>simp[rowsT]at hs
  |[_],hs=>simp[rowsT]at hs
  |_::_::_::_,hs=>simp[rowsT]at hs
theorem formT_grow(hok:σ0.Rg)(hdm:dm<=openD)(hg:ExG dm σ0 g):ExG dm σ0 (formT g):=by
 intro ρ d nd σ t σ' hc hv hd h hs
 obtain⟨k,txt,ps⟩:=nd
 have hint:∀(nm:Nm),nm≠[]->some (σ.named nm [])=some (t,σ')->Step dm σ0 σ σ'/\NewT σ0 σ' t:=fun nm hn hs=>by
  cases hs;exact named_step h hn (by simp)
 unfold formT at hs
 dsimp only at hs
 split at hs
 ·exact hint intN (by decide) hs
 ·exact hint boolN (by decide) hs
 ·exact hint unitN (by decide) hs
 ·cases hm:ρ.get (0,txt)with
  |none=>rw[hm]at hs;cases hs
  |some m=>
   rw[hm]at hs
   simp only[Option.getD_some]at hs
   split at hs
   ·rename_i t0 ht0
    split at hs
    ·unfold TS.inst at hs
     cases hx:inst d wkFuel σ [] t0 with
     |none=>rw[hx]at hs;cases hs
     |some y=>
      obtain⟨j,σ1,m1⟩:=y
      rw[hx]at hs
      cases hs
      obtain⟨s1,n1,_⟩:=inst_grow hok hd wkFuel σ [] t0 _ _ m1 h (by simp) (hv txt m t0 hm ht0) hx
      exact⟨s1,n1⟩
    ·cases hs
   ·cases hs
 ·obtain⟨s1,n1,_⟩:=conT_grow (get:=id) (put:=fun _ σ=>σ) (I:=fun τ=>EnvV σ0 τ ρ) (fun _ _=>rfl) (fun s τ hs hl=>hs.mono hl) hc hd (fun p _ want s s' hi h hw hx=>by
   have st:=exX_grow hok hg hc hi hd h hw hx
   exact⟨st,hi.mono st.le⟩) hv h hs
  exact⟨s1,n1⟩
 ·rename_i a
  obtain⟨s1,n1⟩:=letter_step h hd
  cases hx:g (((0,txt),Mg.var σ.nodes.length)::ρ) d a (σ.letter d).2 with
  |none=>rw[hx]at hs;cases hs
  |some y=>
   obtain⟨t2,σ2⟩:=y
   rw[hx]at hs
   cases hs
   obtain⟨s2,n2⟩:=hg _ _ _ _ _ _ (hc.var _ _) ((hv.mono s1.le).var _ n1) hd s1.grow hx
   obtain⟨s3,n3⟩:=named_step s2.grow arrow_ne (ps:=[σ.nodes.length,t2]) (fun p hp=>by
    rcases mem_cons.1 hp with rfl|hp
    ·exact n1.mono s2.le
    ·rw[mem_singleton.1 hp];exact n2)
   exact⟨(s1.trans s2).trans s3,n3⟩
 ·rename_i a b
  cases hx:g ρ d a σ with
  |none=>rw[hx]at hs;cases hs
  |some y=>
   obtain⟨f,σ1⟩:=y
   rw[hx]at hs
   obtain⟨s1,n1⟩:=hg _ _ _ _ _ _ hc hv hd h hx
   simp only at hs
   cases hy:g ρ d b σ1 with
   |none=>rw[hy]at hs;cases hs
   |some z=>
    obtain⟨x,σ2⟩:=z
    rw[hy]at hs
    obtain⟨s2,n2⟩:=hg _ _ _ _ _ _ hc (hv.mono s1.le) hd s1.grow hy
    obtain⟨s3,n3⟩:=letter_step s2.grow hd
    obtain⟨s4,n4⟩:=named_step s3.grow arrow_ne (ps:=[x,σ2.nodes.length]) (fun p hp=>by
     rcases mem_cons.1 hp with rfl|hp
     ·exact n2.mono s3.le
     ·rw[mem_singleton.1 hp];exact n3)
    simp only at hs
    cases hz:((σ2.letter d).2.named arrowN [x,σ2.nodes.length]).2.unify f ((σ2.letter d).2.named arrowN [x,σ2.nodes.length]).1 with
    |none=>rw[hz]at hs;cases hs
    |some σ5=>
     rw[hz]at hs
     cases hs
     have s5:=unify_grow hok s4.grow (n1.mono (s2.trans (s3.trans s4)).le) n4 hz
     exact⟨s1.trans (s2.trans (s3.trans (s4.trans s5))),n3.mono (s4.trans s5).le⟩
 ·rename_i a b
  cases hx:boundT g ρ d false txt a σ with
  |none=>rw[hx]at hs;cases hs
  |some y=>
   obtain⟨t1,σ1⟩:=y
   rw[hx]at hs
   obtain⟨s1,n1⟩:=boundT_grow hok hdm hg hc hv (by split<;>omega) h hx
   obtain⟨s2,n2⟩:=hg _ _ _ _ _ _ (hc.var _ _) ((hv.mono s1.le).var _ n1) hd s1.grow hs
   exact⟨s1.trans s2,n2⟩
 ·rename_i a b
  cases hx:boundT g ρ d true txt a σ with
  |none=>rw[hx]at hs;cases hs
  |some y=>
   obtain⟨t1,σ1⟩:=y
   rw[hx]at hs
   obtain⟨s1,n1⟩:=boundT_grow hok hdm hg hc hv (by split<;>omega) h hx
   obtain⟨s2,n2⟩:=hg _ _ _ _ _ _ (hc.var _ _) ((hv.mono s1.le).var _ n1) hd s1.grow hs
   exact⟨s1.trans s2,n2⟩
 ·rename_i c a b
  obtain⟨s0,n0⟩:=named_step h boolN_ne (ps:=[]) (by simp)
  cases hx:exX g ρ d c σ.nodes.length (σ.named boolN []).2 with
  |none=>rw[hx]at hs;cases hs
  |some σ1=>
   rw[hx]at hs
   have s1:=exX_grow hok hg hc (hv.mono s0.le) hd s0.grow n0 hx
   simp only at hs
   cases hy:g ρ d a σ1 with
   |none=>rw[hy]at hs;cases hs
   |some z=>
    obtain⟨x,σ2⟩:=z
    rw[hy]at hs
    obtain⟨s2,n2⟩:=hg _ _ _ _ _ _ hc (hv.mono (s0.trans s1).le) hd s1.grow hy
    simp only at hs
    cases hz:exX g ρ d b x σ2 with
    |none=>rw[hz]at hs;cases hs
    |some σ3=>
     rw[hz]at hs
     cases hs
     have s3:=exX_grow hok hg hc (hv.mono (s0.trans (s1.trans s2)).le) hd s2.grow n2 hz
     exact⟨s0.trans (s1.trans (s2.trans s3)),n2.mono s3.le⟩
 ·rename_i a b
  obtain⟨s0,n0⟩:=named_step h (nm:=unitN) (by decide) (ps:=[]) (by simp)
  cases hx:exX g ρ d a σ.nodes.length (σ.named unitN []).2 with
  |none=>rw[hx]at hs;cases hs
  |some σ1=>
   rw[hx]at hs
   have s1:=exX_grow hok hg hc (hv.mono s0.le) hd s0.grow n0 hx
   obtain⟨s2,n2⟩:=hg _ _ _ _ _ _ hc (hv.mono (s0.trans s1).le) hd s1.grow hs
   exact⟨s0.trans (s1.trans s2),n2⟩
 ·rename_i a b
  cases hx:g ρ d a σ with
  |none=>rw[hx]at hs;cases hs
  |some y=>
   obtain⟨c,σ1⟩:=y
   rw[hx]at hs
   obtain⟨s1,n1⟩:=hg _ _ _ _ _ _ hc hv hd h hx
   simp only at hs
   cases hy:g ρ d b σ1 with
   |none=>rw[hy]at hs;cases hs
   |some z=>
    obtain⟨x,σ2⟩:=z
    rw[hy]at hs
    obtain⟨s2,n2⟩:=hg _ _ _ _ _ _ hc (hv.mono s1.le) hd s1.grow hy
    obtain⟨s3,n3⟩:=named_step s2.grow refN_ne (ps:=[x]) (fun p hp=>by rw[mem_singleton.1 hp];exact n2)
    simp only at hs
    cases hz:(σ2.named refN [x]).2.unify c σ2.nodes.length with
    |none=>rw[hz]at hs;cases hs
    |some σ4=>
     rw[hz]at hs
     cases hs
     have s4:=unify_grow hok s3.grow (n1.mono (s2.trans s3).le) n3 hz
     obtain⟨s5,n5⟩:=named_step s4.grow (nm:=unitN) (by decide) (ps:=[]) (by simp)
     exact⟨s1.trans (s2.trans (s3.trans (s4.trans s5))),n5⟩
 ·rename_i a
  obtain⟨s1,n1⟩:=letter_step h hd
  obtain⟨s2,n2⟩:=named_step s1.grow refN_ne (ps:=[σ.nodes.length]) (fun p hp=>by rw[mem_singleton.1 hp];exact n1)
  have e2:(σ.letter d).2.nodes.length=σ.nodes.length+1:=by unfold TS.letter;rw[TS.new_len]
  rw[e2]at n2
  cases hx:exX g ρ d a (σ.nodes.length+1) ((σ.letter d).2.named refN [σ.nodes.length]).2 with
  |none=>rw[hx]at hs;cases hs
  |some σ3=>
   rw[hx]at hs
   cases hs
   have s3:=exX_grow hok hg hc (hv.mono (s1.trans s2).le) hd s2.grow n2 hx
   exact⟨s1.trans (s2.trans s3),n1.mono (s2.trans s3).le⟩
 ·rename_i a rows
  cases hx:g ρ d a σ with
  |none=>rw[hx]at hs;cases hs
  |some y=>
   obtain⟨t1,σ1⟩:=y
   rw[hx]at hs
   obtain⟨s1,n1⟩:=hg _ _ _ _ _ _ hc hv hd h hx
   obtain⟨s2,n2⟩:=letter_step s1.grow hd
   simp only at hs
   cases hy:rowsT g ρ d t1 σ1.nodes.length (only 16 rows) (σ1.letter d).2 with
   |none=>rw[hy]at hs;cases hs
   |some σ3=>
    rw[hy]at hs
    cases hs
    have s3:=rowsT_grow hok hg hc hd _ _ _ (hv.mono (s1.trans s2).le) s2.grow (n1.mono s2.le) n2 hy
    exact⟨s1.trans (s2.trans s3),n2.mono s3.le⟩
 ·rename_i a b _ _ _ _ _ _ _ _ _ _ _
  obtain⟨s0,n0⟩:=named_step h (nm:=intN) (by decide) (ps:=[]) (by simp)
  cases hx:exX g ρ d a σ.nodes.length (σ.named intN []).2 with
  |none=>rw[hx]at hs;cases hs
  |some σ1=>
   rw[hx]at hs
   have s1:=exX_grow hok hg hc (hv.mono s0.le) hd s0.grow n0 hx
   obtain⟨s2,n2⟩:=named_step s1.grow (nm:=intN) (by decide) (ps:=[]) (by simp)
   simp only at hs
   cases hy:exX g ρ d b σ1.nodes.length (σ1.named intN []).2 with
   |none=>rw[hy]at hs;cases hs
   |some σ3=>
    rw[hy]at hs
    cases hs
    have s3:=exX_grow hok hg hc (hv.mono (s0.trans (s1.trans s2)).le) hd s2.grow n2 hy
    obtain⟨s4,n4⟩:=named_step s3.grow (nm:=if txt=[61]\/txt=[60]then boolN else intN) (by split<;>decide) (ps:=[]) (by simp)
    exact⟨s0.trans (s1.trans (s2.trans (s3.trans s4))),n4⟩
 ·cases hs
theorem exT_grow(hok:σ0.Rg)(hdm:dm<=openD):∀n,ExG dm σ0 (exT n):=by
 intro n
 induction n with
 |zero=>intro ρ d nd σ t σ' _ _ _ _ hs;cases hs
 |succ n ih=>
  intro ρ d nd σ t σ' hc hv hd h hs
  rw[exT]at hs
  cases hx:formT (exT n) ρ d nd σ with
  |none=>rw[hx]at hs;cases hs
  |some y=>
   obtain⟨t1,σ1⟩:=y
   rw[hx]at hs
   cases hs
   obtain⟨s1,n1⟩:=formT_grow hok hdm ih ρ d nd σ t σ1 hc hv hd h hx
   exact⟨s1.trans (give_step s1.grow _),n1⟩
end
end
section
theorem wkL_sub{g:List Nat->Nat->Option (List Nat×Bool)}:∀{ps:List Nat}{acc acc':List Nat}{b:Bool},wk.wkL g acc ps=some (acc',b)->(∀p∈ps,∀a a' b,g a p=some (a',b)->∀x∈a,x∈a')->∀x∈acc,x∈acc':=by
 intro ps
 induction ps with
 |nil=>intro acc acc' b h _ x hx;rw[wk.wkL]at h;cases h;exact hx
 |cons p r ih=>
  intro acc acc' b h hp x hx
  rw[wk.wkL]at h
  cases hg:g acc p with
  |none=>rw[hg]at h;cases h
  |some y=>
   obtain⟨a1,b1⟩:=y
   rw[hg]at h
   have h1:=hp p (mem_cons_self ..) _ _ _ hg x hx
   cases b1 with
   |false=>cases h;exact h1
   |true=>exact ih h (fun q hq=>hp q (mem_cons_of_mem _ hq)) x h1
theorem wk_sub{σ:TS}{T:List Nat->Nat->Bool}:∀{n:Nat}{acc acc':List Nat}{i:Nat}{b:Bool},wk σ T n acc i=some (acc',b)->(∀x∈acc,x∈acc')/\σ.root i∈acc':=by
 intro n
 induction n with
 |zero=>intro acc acc' i b h;cases h
 |succ n ih=>
  intro acc acc' i b h
  rw[wk]at h
  split at h
  ·have:=wkL_sub h fun p _ a a' b hg=>(ih hg).1
   exact⟨fun x hx=>this x (mem_append.2 (inl hx)),this _ (mem_append.2 (inr (mem_singleton.2 rfl)))⟩
  ·cases h
   exact⟨fun x hx=>mem_append.2 (inl hx),mem_append.2 (inr (mem_singleton.2 rfl))⟩
theorem wkL_whole{σ:TS}{T:List Nat->Nat->Bool}{n:Nat}(ih:∀{acc acc':List Nat}{i:Nat},wk σ T n acc i=some (acc',true)->∀x∈acc',x∈acc\/∀p∈(σ.node x).parts,σ.root p∈acc') :
  ∀{ps:List Nat}{acc acc':List Nat},wk.wkL (wk σ T n) acc ps=some (acc',true)->(∀p∈ps,σ.root p∈acc')/\∀x∈acc',x∈acc\/∀p∈(σ.node x).parts,σ.root p∈acc':=by
 intro ps
 induction ps with
 |nil=>intro acc acc' h;rw[wk.wkL]at h;cases h;exact⟨by simp,fun x hx=>inl hx⟩
 |cons p r ihr=>
  intro acc acc' h
  rw[wk.wkL]at h
  cases hg:wk σ T n acc p with
  |none=>rw[hg]at h;cases h
  |some y=>
   obtain⟨a1,b1⟩:=y
   rw[hg]at h
   cases b1 with
   |false=>cases h
   |true=>
    obtain⟨h1,h2⟩:=ihr h
    have hsub:=wkL_sub h fun p _ a a' b hg=>(wk_sub hg).1
    refine⟨fun q hq=>?_,fun x hx=>?_⟩
    ·rcases mem_cons.1 hq with rfl|hq
     ·exact hsub _ (wk_sub hg).2
     ·exact h1 q hq
    ·rcases h2 x hx with h3|h3
     ·rcases ih hg x h3 with h4|h4
      ·exact inl h4
      ·exact inr fun p hp=>hsub _ (h4 p hp)
     ·exact inr h3
theorem wk_whole{σ:TS}{T:List Nat->Nat->Bool}:∀{n:Nat}{acc acc':List Nat}{i:Nat},wk σ T n acc i=some (acc',true)->∀x∈acc',x∈acc\/∀p∈(σ.node x).parts,σ.root p∈acc':=by
 intro n
 induction n with
 |zero=>intro acc acc' i h;cases h
 |succ n ih=>
  intro acc acc' i h x hx
  rw[wk]at h
  split at h
  ·obtain⟨h1,h2⟩:=wkL_whole (fun {acc acc' i} h=>ih h) h
   rcases h2 x hx with h3|h3
   ·rcases mem_append.1 h3 with h4|h4
    ·exact inl h4
    ·rw[mem_singleton.1 h4];exact inr h1
   ·exact inr h3
  ·cases h
theorem wkL_all{g:List Nat->Nat->Option (List Nat×Bool)}{f:Nat->Bool}:∀{ps:List Nat}{acc acc':List Nat},wk.wkL g acc ps=some (acc',true)->(∀p∈ps,∀a a',g a p=some (a',true)->∀x∈a',x∈a\/f x=true)->∀x∈acc',x∈acc\/f x=true:=by
 intro ps
 induction ps with
 |nil=>intro acc acc' h _ x hx;rw[wk.wkL]at h;cases h;exact inl hx
 |cons p r ih=>
  intro acc acc' h hp x hx
  rw[wk.wkL]at h
  cases hg:g acc p with
  |none=>rw[hg]at h;cases h
  |some y=>
   obtain⟨a1,b1⟩:=y
   rw[hg]at h
   cases b1 with
   |false=>cases h
   |true=>
    rcases ih h (fun q hq=>hp q (mem_cons_of_mem _ hq)) x hx with h2|h2
    ·exact hp p (mem_cons_self ..) _ _ hg x h2
    ·exact inr h2
theorem wk_all{σ:TS}{f:Nat->Bool}:∀{n:Nat}{acc acc':List Nat}{i:Nat},wk σ (fun _ j=>f j) n acc i=some (acc',true)->∀x∈acc',x∈acc\/f x=true:=by
 intro n
 induction n with
 |zero=>intro acc acc' i h;cases h
 |succ n ih=>
  intro acc acc' i h x hx
  rw[wk]at h
  split at h
  ·rename_i hT
   rcases wkL_all h (fun p _ a a' hg=>ih hg) x hx with h2|h2
   ·rcases mem_append.1 h2 with h3|h3
    ·exact inl h3
    ·rw[mem_singleton.1 h3];exact inr hT
   ·exact inr h2
  ·cases h
def Closed(σ:TS)(t:Nat):Prop:=∃S,OpenSet σ S/\S t
def Reach(σ:TS)(t x:Nat):Prop:=x<σ.nodes.length/\σ.root x∈σ.pre t
theorem closed_of_pre{σ:TS}(hok:σ.Rg){t:Nat}(ht:t<σ.nodes.length)(hf:σ.fits t=true)(hl:∀x∈σ.pre t,σ.isLetter x=true->σ.depth x=openD):Closed σ t:=by
 have hw:=TS.fits_pre hf
 refine⟨Reach σ t,⟨fun i h=>h.1,fun i h=>⟨hok.root_lt h.1,by rw[hok.root_root];exact h.2⟩,fun i h hlet=>hl _ h.2 hlet,fun i h p hp=>⟨hok.part_lt (hok.root_lt h.1) hp,?_⟩⟩,ht,(wk_sub hw).2⟩
 rcases wk_whole hw _ h.2 with h1|h1
 ·cases h1
 ·exact h1 p hp
theorem OpenSet.grow{dm:Nat}{σ0 σ:TS}{S:Nat->Prop}(h:OpenSet σ0 S)(hok:σ0.Rg)(hg:Grow dm σ0 σ):OpenSet σ S where
 lt i hi:=lt_of_lt_of_le (h.lt i hi) hg.len
 root i hi:=by rw[hg.root_old hok (h.lt i hi)];exact h.root i hi
 letter i hi hl:=by
  have hr:=hok.root_lt (h.lt i hi)
  rw[hg.root_old hok (h.lt i hi)]at hl ⊢
  unfold TS.isLetter at hl
  unfold TS.depth
  rw[hg.old _ hr]at hl ⊢
  exact h.letter i hi hl
 parts i hi p hp:=by
  have hr:=hok.root_lt (h.lt i hi)
  rw[hg.root_old hok (h.lt i hi),hg.old _ hr]at hp
  exact h.parts i hi p hp
theorem Closed.grow{dm:Nat}{σ0 σ:TS}{t:Nat}(h:Closed σ0 t)(hok:σ0.Rg)(hg:Grow dm σ0 σ):Closed σ t:=by
 obtain⟨S,hS,hSt⟩:=h
 exact⟨S,hS.grow hok hg,hSt⟩
theorem wkL_same{σ τ:TS}{S:Nat->Prop}{T:List Nat->Nat->Bool}{n:Nat}(ih:∀acc i,S i->wk τ T n acc i=wk σ T n acc i):∀(ps:List Nat)(acc:List Nat),(∀p∈ps,S p)->wk.wkL (wk τ T n) acc ps=wk.wkL (wk σ T n) acc ps:=by
 intro ps
 induction ps with
 |nil=>intro acc _;rfl
 |cons p r ihr=>
  intro acc hp
  rw[wk.wkL,wk.wkL,ih acc p (hp p (mem_cons_self ..))]
  split
  ·exact ihr _ fun q hq=>hp q (mem_cons_of_mem _ hq)
  ·rfl
theorem wk_same{dm:Nat}{σ0 σ:TS}{S:Nat->Prop}(hS:OpenSet σ0 S)(hok:σ0.Rg)(hg:Grow dm σ0 σ)(T:List Nat->Nat->Bool):∀(n:Nat)(acc:List Nat)(i:Nat),S i->wk σ T n acc i=wk σ0 T n acc i:=by
 intro n
 induction n with
 |zero=>intro acc i _;rfl
 |succ n ih=>
  intro acc i hi
  rw[wk,wk,hg.root_old hok (hS.lt i hi),hg.old _ (hok.root_lt (hS.lt i hi)),wkL_same ih _ _ (hS.parts i hi)]
theorem Closed.fits{dm:Nat}{σ0 σ:TS}{t:Nat}(h:Closed σ0 t)(hok:σ0.Rg)(hg:Grow dm σ0 σ):σ.fits t=σ0.fits t:=by
 obtain⟨S,hS,ht⟩:=h
 unfold TS.fits
 rw[wk_same hS hok hg _ _ _ _ ht]
theorem wk_noGiven(σ:TS)(T:List Nat->Nat->Bool):∀(n:Nat)(acc:List Nat)(i:Nat),wk { σ with given:=[] } T n acc i=wk σ T n acc i:=by
 intro n
 induction n with
 |zero=>intro acc i;rfl
 |succ n ih=>
  intro acc i
  have:wk { σ with given:=[] } T n=wk σ T n:=funext fun a=>funext fun j=>ih a j
  rw[wk,wk,this]
  rfl
theorem fits_noGiven(σ:TS)(t:Nat):TS.fits { σ with given:=[] } t=σ.fits t:=by
 unfold TS.fits;rw[wk_noGiven]
theorem opened_open(d:Nat)(hd:d<openD):∀(l:List Nat)(σ:TS)(x:Nat),x<σ.nodes.length->σ.isLetter x=true->d<σ.depth x->(x∈l\/σ.depth x=openD)->(opened σ d l).depth x=openD:=by
 intro l
 induction l with
 |nil=>
  intro σ x _ _ _ h
  rcases h with h|h
  ·cases h
  ·exact h
 |cons j r ih=>
  intro σ x hx hl hdx h
  unfold opened
  rw[List.foldl_cons]
  by_cases hc:(σ.isLetter j && decide (d<σ.depth j))=true
  ·rw[if_pos hc]
   have hal:=Alike.setDepth σ j openD
   refine ih (σ.setDepth j openD) x (by rw[hal.len];exact hx) (by rw[hal.isLetter];exact hl) ?_ ?_
   ·rw[TS.setDepth_depth];split
    ·exact hd
    ·exact hdx
   ·rw[TS.setDepth_depth]
    by_cases hxj:x=j
    ·subst hxj;rw[if_pos ⟨rfl,hx⟩];exact inr rfl
    ·rw[if_neg (fun e=>hxj e.1)]
     rcases h with h|h
     ·rcases mem_cons.1 h with h|h
      ·exact absurd h hxj
      ·exact inl h
     ·exact inr h
  ·rw[if_neg hc]
   refine ih σ x hx hl hdx ?_
   rcases h with h|h
   ·rcases mem_cons.1 h with rfl|h
    ·exfalso;apply hc;rw[hl];simpa using hdx
    ·exact inl h
   ·exact inr h
structure PSOk(p:PS):Prop where
 rg:p.sto.Rg
 con:EnvC p.env
 var:∀x m t,p.env.get (0,x)=some m->m.scheme=some t->Closed p.sto t
 binds:∀b∈p.binds,Closed p.sto b.2/\p.sto.fits b.2=true
theorem Grow.trans{a b c:TS}(h:Grow 0 a b)(k:Grow 0 b c):Grow 0 a c where
 len:=le_trans h.len k.len
 old i hi:=(k.old i (lt_of_lt_of_le hi h.len)).trans (h.old i hi)
 fnd:=by
  obtain⟨e1,h1,h2⟩:=h.fnd
  obtain⟨e2,h3,h4⟩:=k.fnd
  refine⟨e2++e1,by rw[h3,h1,append_assoc],fun x hx=>?_⟩
  rcases mem_append.1 hx with hx|hx
  ·have:=h4 x hx
   have:=h.len
   omega
  ·exact h2 x hx
 parts i hi p hp:=by
  by_cases hb:i<b.nodes.length
  ·rw[k.old i hb]at hp;exact h.parts i hi p hp
  ·exact le_trans h.len (k.parts i (by omega) p hp)
 deep _ _ _ _:=zero_le _
 rg:=k.rg
theorem Grow.noGiven{dm:Nat}{σ0 σ:TS}(h:Grow dm σ0 σ):Grow dm σ0 { σ with given:=[] }:=
 ⟨h.len,h.old,h.fnd,h.parts,h.deep,⟨FndOk.grow (σ:=σ) (τ:={ σ with given:=[] }) (le_refl _) (fun _ _=>rfl) h.rg.fnd,h.rg.parts⟩⟩
theorem Closed.noGiven{σ:TS}{t:Nat}(h:Closed σ t):Closed { σ with given:=[] } t:=by
 obtain⟨S,hS,ht⟩:=h
 exact⟨S,⟨hS.lt,hS.root,hS.letter,hS.parts⟩,ht⟩
theorem bound_closed{σ0:TS}(hok:σ0.Rg){ρ:Env}(hc:EnvC ρ)(hv:EnvV σ0 σ0 ρ){n:Nat}{isRec:Bool}{txt:Nm}{a:Nd}{t:Nat}{σ:TS}(hs:boundT (exT n) ρ 0 isRec txt a σ0=some (t,σ))(hl:isValue (a.ht+1) a=true\/σ.hasLetters t=false) :
  Grow 0 σ0 σ/\NewT σ0 σ t/\Closed σ t/\σ.fits t=true:=by
 have hfits:∃τ,τ.fits t=true/\σ=τ.openAll 0 t/\(∀dm,dm<=openD->dm<=(if isValue (a.ht+1) a then 0+1 else 0)->Grow dm σ0 τ/\NewT σ0 τ t):=by
  have hs':=hs
  unfold boundT at hs
  simp only at hs
  split at hs
  ·rename_i t1 τ hr
   split at hs
   ·rename_i hf
    cases hs
    refine⟨τ,hf,rfl,fun dm hdm hd=>?_⟩
    have hg:=exT_grow (dm:=dm) hok hdm n
    cases isRec with
    |false=>
     obtain⟨s1,n1⟩:=hg _ _ _ _ _ _ hc hv hd (Grow.refl dm hok) hr
     exact⟨s1.grow,n1⟩
    |true=>
     simp only[if_true]at hr
     obtain⟨s1,n1⟩:=letter_step (Grow.refl dm hok) hd
     cases hx:exT n (((0,txt),Mg.var σ0.nodes.length)::ρ) (if isValue (a.ht+1) a then 0+1 else 0) a (σ0.letter (if isValue (a.ht+1) a then 0+1 else 0)).2 with
     |none=>rw[hx]at hr;cases hr
     |some y=>
      obtain⟨t2,σ2⟩:=y
      rw[hx]at hr
      obtain⟨s2,n2⟩:=hg _ _ _ _ _ _ (hc.var _ _) ((hv.mono s1.le).var _ n1) hd s1.grow hx
      simp only at hr
      cases hy:σ2.unify σ0.nodes.length t2 with
      |none=>rw[hy]at hr;cases hr
      |some σ3=>
       rw[hy]at hr
       cases hr
       have s3:=unify_grow hok s2.grow (n1.mono s2.le) n2 hy
       exact⟨s3.grow,n1.mono (s2.trans s3).le⟩
   ·cases hs
  ·cases hs
 obtain⟨τ,hf,rfl,hG⟩:=hfits
 obtain⟨g0,n0⟩:=hG 0 (zero_le _) (zero_le _)
 have hal:=opened_alike (τ.pre t) τ 0
 have e1:τ.openAll 0 t=opened τ 0 (τ.pre t):=rfl
 have st:=openAll_step hok (zero_le _) g0 n0 hf 0
 have hpre:(τ.openAll 0 t).pre t=τ.pre t:=by rw[e1];exact hal.pre t
 have hfo:(τ.openAll 0 t).fits t=true:=by rw[e1,hal.fits];exact hf
 refine⟨st.grow,n0.mono st.le,closed_of_pre st.grow.rg (n0.mono st.le).2 hfo ?_,hfo⟩
 rw[hpre]
 intro x hx hlet
 rw[e1,hal.isLetter]at hlet
 have hxm:=g0.rg.pre_mem n0.2 hf x hx
 have hxn:=g0.pre_new hok n0.1 hf x hx
 rcases hl with hl|hl
 ·rw[hl]at hG
  obtain⟨g1,_⟩:=hG 1 (by decide) (by simp)
  have:=g1.deep x hxn hxm.1 hlet
  rw[e1]
  exact opened_open 0 (by decide) _ _ x hxm.1 hlet (by omega) (inl hx)
 ·exfalso
  unfold TS.hasLetters at hl
  obtain⟨acc,b,hw⟩:=TS.fits_end hfo (fun _ j=>!(τ.openAll 0 t).isLetter j)
  rw[hw]at hl
  simp at hl
  subst hl
  have h1:=wk_true hw
  rw[TS.fits_pre hfo]at h1
  cases h1
  rw[hpre]at hw
  rcases wk_all (f:=fun j=>!(τ.openAll 0 t).isLetter j) hw x hx with h2|h2
  ·cases h2
  ·simp only[e1,hal.isLetter,hlet]at h2;cases h2
end
section
def DeclFull(nd:Nd):Prop:=nd.k=18->nd.txt≠[]/\∀v∈nd.ps,∀q∈v.ps,TyFull q
theorem get_cons_ne{ρ:Env}{x y:Ky}{m:Mg}(h:x≠y):Env.get ((y,m)::ρ) x=ρ.get x:=by rw[Env.get,if_neg h]
theorem declareType_con{txt:Nm}(hn:txt≠[]){ls:List Nm}{k:Nat}:∀(vs:List Nd)(ρ:Env),EnvC ρ->(∀v∈vs,∀q∈v.ps,TyFull q)->EnvC (vs.foldl (fun ρ v=>(((1,v.txt),Mg.con ⟨txt,ls,v.ps,k⟩)::ρ:Env)) ρ):=by
 intro vs
 induction vs with
 |nil=>intro ρ h _;exact h
 |cons v r ih=>
  intro ρ h hf
  rw[List.foldl_cons]
  refine ih _ (fun x m hx=>?_) fun u hu=>hf u (mem_cons_of_mem _ hu)
  rw[Env.get]at hx
  split at hx
  ·cases hx;exact⟨hn,hf v (mem_cons_self ..)⟩
  ·exact h x m hx
theorem declareType_var{txt:Nm}{ls:List Nm}{k:Nat}{x:Nm}:∀(vs:List Nd)(ρ:Env),Env.get (vs.foldl (fun ρ v=>(((1,v.txt),Mg.con ⟨txt,ls,v.ps,k⟩)::ρ:Env)) ρ) (0,x)=ρ.get (0,x):=by
 intro vs
 induction vs with
 |nil=>intro ρ;rfl
 |cons v r ih=>intro ρ;rw[List.foldl_cons,ih,get_cons_ne (by simp)]
theorem declare_ok{p:PS}{nd:Nd}(h:PSOk p)(hf:DeclFull nd)(h0:(declare p nd).1=0):PSOk (declare p nd).2/\Grow 0 p.sto (declare p nd).2.sto/\∃more,(declare p nd).2.binds=p.binds++more:=by
 unfold declare at h0 ⊢
 simp only at h0 ⊢
 split at h0
 ·rename_i he
  exact absurd h0 he
 ·rename_i he
  rw[if_neg he]
  split
  ·rename_i hk
   refine⟨⟨h.rg,?_,?_,h.binds⟩,Grow.refl 0 h.rg,[],by simp⟩
   ·have:=hf hk
    refine declareType_con this.1 _ _ (fun x m hx=>?_) (fun v hv=>this.2 v (List.mem_filter.1 hv).1)
    rw[get_cons_ne (by simp)]at hx
    exact h.con x m hx
   ·intro x m t hx
    unfold declareType at hx
    rw[declareType_var,get_cons_ne (by simp)]at hx
    exact h.var x m t hx
  ·rename_i hk
   rw[if_neg hk]at h0
   split
   ·rename_i hd
    rw[hd]at h0;cases h0
   ·rename_i t s hd
    obtain⟨k,txt,ps⟩:=nd
    have hv:EnvV p.sto p.sto p.env:=fun x m t h1 h2=>inr (h.var x m t h1 h2)
    unfold declT at hd
    cases ps with
    |nil=>cases hd
    |cons a r=>
     simp only at hd
     by_cases hk17:k=17
     ·rw[if_pos hk17]at hd
      rw[if_pos hk17]
      obtain⟨s0,n0⟩:=named_step (Grow.refl 0 h.rg) (nm:=unitN) (by decide) (ps:=[]) (by simp)
      cases hx:exX (exT (a.ht+1)) p.env 0 a p.sto.nodes.length (p.sto.named unitN []).2 with
      |none=>rw[hx]at hd;cases hd
      |some s1=>
       rw[hx]at hd
       simp only[Option.map_some]at hd
       split at hd
       ·cases hd
        have st1:=exX_grow h.rg (exT_grow h.rg (zero_le _) _) h.con (hv.mono s0.le) (zero_le _) s0.grow n0 hx
        have st2:=(named_step st1.grow (nm:=unitN) (by decide) (ps:=[]) (by simp)).1
        have hg:=st2.grow.noGiven
        exact⟨⟨hg.rg,h.con,fun x m t h1 h2=>(h.var x m t h1 h2).grow h.rg hg,fun b hb=>⟨(h.binds b hb).1.grow h.rg hg,by rw[(h.binds b hb).1.fits h.rg hg];exact(h.binds b hb).2⟩⟩,hg,[],by simp⟩
       ·cases hd
     ·rw[if_neg hk17]at hd
      rw[if_neg hk17]
      cases hx:boundT (exT (a.ht+1)) p.env 0 (k==7) txt a p.sto with
      |none=>rw[hx]at hd;cases hd
      |some y=>
       obtain⟨t1,s1⟩:=y
       rw[hx]at hd
       simp only at hd
       by_cases hc:(isValue (a.ht+1) a || !s1.hasLetters t1)=true
       ·rw[if_pos hc]at hd
        simp only at hd
        split at hd
        ·cases hd
         obtain⟨hg,hn,hcl,hfit⟩:=bound_closed h.rg h.con hv hx (by simpa using hc)
         have hg2:=hg.noGiven
         refine⟨⟨hg2.rg,h.con.var _ _,fun x m t h1 h2=>?_,fun b hb=>?_⟩,hg2,[(txt,t)],rfl⟩
         ·rw[Env.get]at h1
          split at h1
          ·cases h1;cases h2;exact hcl.noGiven
          ·exact(h.var x m t h1 h2).grow h.rg hg2
         ·rcases mem_append.1 hb with hb|hb
          ·exact⟨(h.binds b hb).1.grow h.rg hg2,by rw[(h.binds b hb).1.fits h.rg hg2];exact(h.binds b hb).2⟩
          ·rw[mem_singleton.1 hb];exact⟨hcl.noGiven,by rw[fits_noGiven];exact hfit⟩
        ·cases hd
       ·rw[if_neg hc]at hd;cases hd
theorem readD_ok:∀(l:List Nd)(i:Nat)(p:PS),PSOk p->(∀nd∈l,DeclFull nd)->(readD i p l).1=(0,0)->PSOk (readD i p l).2/\Grow 0 p.sto (readD i p l).2.sto/\∃more,(readD i p l).2.binds=p.binds++more:=by
 intro l
 induction l with
 |nil=>intro i p h _ _;exact⟨h,Grow.refl 0 h.rg,[],by simp[readD]⟩
 |cons nd r ih=>
  intro i p h hf h0
  rw[readD]at h0 ⊢
  by_cases hx:(declare p nd).1≠0
  ·rw[if_pos hx]at h0
   exact absurd (congrArg Prod.snd h0) hx
  ·rw[if_neg hx]at h0
   rw[if_neg hx]
   obtain⟨h1,h2,m1,h3⟩:=declare_ok h (hf nd (mem_cons_self ..)) (by simpa using hx)
   obtain⟨h4,h5,m2,h6⟩:=ih (i+1) _ h1 (fun x hx=>hf x (mem_cons_of_mem _ hx)) h0
   exact⟨h4,h2.trans h5,m1++m2,by rw[h6,h3,append_assoc]⟩
def digitsOf:Nat->Nat->Nm
 |0,_=>[]
 |f+1,n=>if n<10 then[UInt8.ofNat (48+n)]else digitsOf f (n / 10)++[UInt8.ofNat (48+n % 10)]
def letterText(n:Nat):Nm:=39::UInt8.ofNat (97+n % 26)::(if n / 26=0 then[]else digitsOf 20 (n / 26))
def brackets(b:Bool)(s:Nm):Nm:=if b then 40::s++[41]else s
def wr(σ:TS):Nat->List Nat->Nat->Option (Nm×List Nat)
 |0,_,_=>none
 |n+1,ls,i=>
  if σ.isLetter (σ.root i)then
   match ls.idxOf? (σ.root i)with
   |some k=>some (letterText k,ls)
   |none=>some (letterText ls.length,ls++[σ.root i])
  else if (σ.node (σ.root i)).name=arrowN then
   match (σ.node (σ.root i)).parts with
   |a::b::_=>
    match wr σ n ls a with
    |none=>none
    |some (s1,ls1)=>
     match wr σ n ls1 b with
     |none=>none
     |some (s2,ls2)=>some (brackets ((σ.node (σ.root a)).name==arrowN) s1++[32,45,62,32]++s2,ls2)
   |_=>none
  else
   match wrL (wr σ n) ls (σ.node (σ.root i)).parts with
   |none=>none
   |some (s,ls')=>some ((σ.node (σ.root i)).name++s,ls')
 where
 wrL (g:List Nat->Nat->Option (Nm×List Nat)) (ls:List Nat):List Nat->Option (Nm×List Nat)
  |[]=>some ([],ls)
  |p::r=>
   match g ls p with
   |none=>none
   |some (s1,ls1)=>
    match wrL g ls1 r with
    |none=>none
    |some (s2,ls2)=>some (32::brackets (decide (0<(σ.node (σ.root p)).parts.length)) s1++s2,ls2)
def TS.text(σ:TS)(i:Nat):Nm:=((wr σ wkFuel [] i).getD ([],[])).1
def typeLines(p:PS):List Nm:=p.binds.map fun b=>b.1++[32,58,32]++p.sto.text b.2
theorem ahead_ok:PSOk ahead where
 rg:=⟨trivial,by decide⟩
 con x m hx:=by simp[ahead,Env.get]at hx
 var x m t hx hm:=by
  have hrg:ahead.sto.Rg:=⟨trivial,by decide⟩
  have hall:∀t,t=3\/t=6\/t=8->Closed ahead.sto t:=by
   rintro t (rfl|rfl|rfl)<;>exact closed_of_pre hrg (by decide) (by decide) (by decide)
  apply hall
  simp only[ahead,Env.get]at hx
  split at hx
  ·cases hx;cases hm;exact inl rfl
  ·split at hx
   ·cases hx;cases hm;exact inr (inl rfl)
   ·split at hx
    ·cases hx;cases hm;exact inr (inr rfl)
    ·simp at hx
 binds b hb:=by cases hb
end
end Go.Proofs.YtbkiipiocpnnnaaGreatDoor
