import Derived.Test.YtcbppnefeonmgaaGreatDoorC12
set_option linter.all false
set_option maxHeartbeats 40000000
set_option maxRecDepth 100000
open Or (inl inr)
open Nat (le_refl le_trans)
open List (mem_cons_self mem_cons_of_mem mem_append mem_singleton mem_cons)
namespace Go.Proofs.YtcbppnefeonmgaaGreatDoor
section
section
variable {dm:Nat}{σ0 σ:TS}
def MayT(σ0 σ:TS)(i:Nat):Prop:=NewT σ0 σ i\/∃S,OpenSet σ0 S/\S i
theorem MayT.mono{σ':TS}{t:Nat}(h:MayT σ0 σ t)(hl:σ.nodes.length<=σ'.nodes.length):MayT σ0 σ' t:=by
 rcases h with h|h
 ·exact inl (h.mono hl)
 ·exact inr h
theorem instL_grow{g:TS->List (Nat×Nat)->Nat->Option (Nat×TS×List (Nat×Nat))}
  (hg:∀σ m i j σ' m',Grow dm σ0 σ->(∀x∈m,NewT σ0 σ x.2)->MayT σ0 σ i->g σ m i=some (j,σ',m')->Step dm σ0 σ σ'/\NewT σ0 σ' j/\∀x∈m',NewT σ0 σ' x.2) :
  ∀(ps:List Nat) (σ:TS) (m:List (Nat×Nat)) (js:List Nat) (σ':TS) (m':List (Nat×Nat)),Grow dm σ0 σ->(∀x∈m,NewT σ0 σ x.2)->(∀p∈ps,MayT σ0 σ p)->inst.instL g σ m ps=some (js,σ',m') ->
   Step dm σ0 σ σ'/\(∀j∈js,NewT σ0 σ' j)/\∀x∈m',NewT σ0 σ' x.2:=by
 intro ps
 induction ps with
 |nil=>intro σ m js σ' m' h hm _ hs;rw[inst.instL]at hs;cases hs;exact⟨⟨h,le_refl _⟩,by simp,hm⟩
 |cons p r ih=>
  intro σ m js σ' m' h hm hp hs
  rw[inst.instL]at hs
  cases hx:g σ m p with
  |none=>rw[hx]at hs;cases hs
  |some y=>
   obtain⟨j,σ1,m1⟩:=y
   rw[hx]at hs
   obtain⟨s1,n1,k1⟩:=hg σ m p j σ1 m1 h hm (hp p (mem_cons_self ..)) hx
   simp only at hs
   cases hy:inst.instL g σ1 m1 r with
   |none=>rw[hy]at hs;cases hs
   |some z=>
    obtain⟨js2,σ2,m2⟩:=z
    rw[hy]at hs
    cases hs
    obtain⟨s2,n2,k2⟩:=ih σ1 m1 js2 σ' m' s1.grow k1 (fun q hq=>(hp q (mem_cons_of_mem _ hq)).mono s1.le) hy
    refine⟨s1.trans s2,fun x hx'=>?_,k2⟩
    rcases mem_cons.1 hx' with rfl|hx'
    ·exact n1.mono s2.le
    ·exact n2 x hx'
theorem lookup_mem{m:List (Nat×Nat)}{k j:Nat}(h:m.lookup k=some j):(k,j)∈m:=by
 induction m with
 |nil=>cases h
 |cons x r ih=>
  obtain⟨a,b⟩:=x
  rw[List.lookup_cons]at h
  split at h
  ·rename_i hk
   have:k=a:=by simpa using hk
   cases h;subst this;exact mem_cons_self ..
  ·exact mem_cons_of_mem _ (ih h)
theorem inst_grow(hok:σ0.Rg){d:Nat}(hd:dm<=d):∀(n:Nat) (σ:TS) (m:List (Nat×Nat)) (i j:Nat) (σ':TS) (m':List (Nat×Nat)),Grow dm σ0 σ->(∀x∈m,NewT σ0 σ x.2)->MayT σ0 σ i->inst d n σ m i=some (j,σ',m') ->
  Step dm σ0 σ σ'/\NewT σ0 σ' j/\∀x∈m',NewT σ0 σ' x.2:=by
 intro n
 induction n with
 |zero=>intro σ m i j σ' m' _ _ _ hs;cases hs
 |succ n ih=>
  intro σ m i j σ' m' h hm hi hs
  rw[inst]at hs
  split at hs
  ·rename_i hl
   split at hs
   ·rename_i hd2
    cases hs
    refine⟨⟨h,le_refl _⟩,?_,hm⟩
    rcases hi with hi|⟨S,hS,hSi⟩
    ·exact h.root_newT hok hi
    ·have hlt:=hS.lt i hSi
     have hr:=h.root_old hok hlt
     have hrl:=hok.root_lt hlt
     rw[hr]at hd2 hl
     exfalso
     apply hd2
     have:σ.depth (σ0.root i)=σ0.depth (σ0.root i):=by unfold TS.depth;rw[h.old _ hrl]
     rw[this]
     refine hS.letter i hSi ?_
     unfold TS.isLetter at hl ⊢
     rw[h.old _ hrl]at hl
     exact hl
   ·split at hs
    ·rename_i j2 hj2
     cases hs
     exact⟨⟨h,le_refl _⟩,hm _ (lookup_mem hj2),hm⟩
    ·cases hs
     have hle:σ.nodes.length<=(σ.letter d).2.nodes.length:=by unfold TS.letter;rw[TS.new_len];omega
     refine⟨⟨h.letter hd,hle⟩,h.newT _,fun x hx=>?_⟩
     rcases mem_append.1 hx with hx|hx
     ·exact(hm x hx).mono hle
     ·rw[mem_singleton.1 hx];exact h.newT _
  ·rename_i hl
   have hl:σ.isLetter (σ.root i)=false:=by simpa using hl
   cases hx:inst.instL (inst d n) σ m (σ.node (σ.root i)).parts with
   |none=>rw[hx]at hs;cases hs
   |some y=>
    obtain⟨js,σ1,m1⟩:=y
    rw[hx]at hs
    cases hs
    have hp:∀p∈(σ.node (σ.root i)).parts,MayT σ0 σ p:=by
     intro p hp
     rcases hi with hi|⟨S,hS,hSi⟩
     ·exact inl (h.part_newT (h.root_newT hok hi) hp)
     ·have hlt:=hS.lt i hSi
      have hr:=h.root_old hok hlt
      rw[hr,h.old _ (hok.root_lt hlt)]at hp
      exact inr ⟨S,hS,hS.parts i hSi p hp⟩
    obtain⟨s1,n1,k1⟩:=instL_grow (fun σ m i j σ' m' h1 h2 h3 h4=>ih σ m i j σ' m' h1 h2 h3 h4) _ _ _ _ _ _ h hm hp hx
    have hname:(σ.node (σ.root i)).name≠[]:=by
     intro e
     unfold TS.isLetter at hl
     rw[e]at hl
     simp at hl
    have hle:σ1.nodes.length<=(σ1.named (σ.node (σ.root i)).name js).2.nodes.length:=by unfold TS.named;rw[TS.new_len];omega
    exact⟨⟨s1.grow.named hname n1,le_trans s1.le hle⟩,s1.grow.newT _,fun x hx=>(k1 x hx).mono hle⟩
theorem named_step(h:Grow dm σ0 σ){nm:Nm}(hn:nm≠[]){ps:List Nat}(hp:∀p∈ps,NewT σ0 σ p):Step dm σ0 σ (σ.named nm ps).2/\NewT σ0 (σ.named nm ps).2 σ.nodes.length:=
 ⟨⟨h.named hn hp,by unfold TS.named;rw[TS.new_len];omega⟩,h.newT _⟩
theorem letter_step(h:Grow dm σ0 σ){d:Nat}(hd:dm<=d):Step dm σ0 σ (σ.letter d).2/\NewT σ0 (σ.letter d).2 σ.nodes.length:=
 ⟨⟨h.letter hd,by unfold TS.letter;rw[TS.new_len];omega⟩,h.newT _⟩
theorem give_step(h:Grow dm σ0 σ)(i:Nat):Step dm σ0 σ (σ.give i):=⟨h.give i,le_refl _⟩
def TyFull(q:Nd):Prop:=∀x∈q.all,x.k≠21->x.k≠23->x.txt≠[]
theorem alls_mem{p:Nd}:∀{ps:List Nd},p∈ps->∀x∈p.all,x∈Nd.all.alls ps:=by
 intro ps
 induction ps with
 |nil=>intro h;cases h
 |cons q r ih=>
  intro h x hx
  rw[Nd.all.alls]
  rcases mem_cons.1 h with rfl|h
  ·exact mem_append.2 (inl hx)
  ·exact mem_append.2 (inr (ih h x hx))
theorem Nd.all_eq(k:Nat)(txt:Nm)(ps:List Nd):(Nd.mk k txt ps).all=.mk k txt ps::Nd.all.alls ps:=by rw[Nd.all]
theorem TyFull.part{k:Nat}{txt:Nm}{ps:List Nd}{p:Nd}(h:TyFull (.mk k txt ps))(hp:p∈ps):TyFull p:=fun x hx=>h x (by rw[Nd.all_eq];exact mem_cons_of_mem _ (alls_mem hp x hx))
theorem arrow_ne:arrowN≠[]:=by decide
theorem refN_ne:refN≠[]:=by decide
theorem plainN_ne(k:Nat):plainN k≠[]:=by unfold plainN;split;decide;split<;>decide
theorem writtenL_grow{g:Nd->TS->Nat×TS}{L:Nat}:∀(ps:List Nd)(σ:TS),(∀p∈ps,∀σ,Grow dm σ0 σ->L<=σ.nodes.length->Step dm σ0 σ (g p σ).2/\(NewT σ0 (g p σ).2 (g p σ).1))->Grow dm σ0 σ->L<=σ.nodes.length ->
  Step dm σ0 σ (written.writtenL g ps σ).2/\∀j∈(written.writtenL g ps σ).1,NewT σ0 (written.writtenL g ps σ).2 j:=by
 intro ps
 induction ps with
 |nil=>intro σ _ h _;rw[written.writtenL];exact⟨⟨h,le_refl _⟩,by simp⟩
 |cons p r ih=>
  intro σ hp h hL
  rw[written.writtenL]
  obtain⟨s1,n1⟩:=hp p (mem_cons_self ..) σ h hL
  obtain⟨s2,n2⟩:=ih (g p σ).2 (fun q hq=>hp q (mem_cons_of_mem _ hq)) s1.grow (le_trans hL s1.le)
  refine⟨s1.trans s2,fun j hj=>?_⟩
  rcases mem_cons.1 hj with rfl|hj
  ·exact n1.mono s2.le
  ·exact n2 j hj
theorem lookup_memN{m:List (Nm×Nat)}{k:Nm}{j:Nat}(h:m.lookup k=some j):(k,j)∈m:=by
 induction m with
 |nil=>cases h
 |cons x r ih=>
  obtain⟨a,b⟩:=x
  rw[List.lookup_cons]at h
  split at h
  ·rename_i hk
   have:k=a:=by simpa using hk
   cases h;subst this;exact mem_cons_self ..
  ·exact mem_cons_of_mem _ (ih h)
theorem boolN_ne:boolN≠[]:=by decide
theorem written_grow{ch:List (Nm×Nat)}:∀(n:Nat)(q:Nd)(σ:TS),TyFull q->Grow dm σ0 σ->(∀x∈ch,NewT σ0 σ x.2)->Step dm σ0 σ (written n ch q σ).2/\NewT σ0 (written n ch q σ).2 (written n ch q σ).1:=by
 intro n
 induction n with
 |zero=>intro q σ _ h _;rw[written];exact named_step h boolN_ne (by simp)
 |succ n ih=>
  intro q σ hf h hc
  obtain⟨k,txt,ps⟩:=q
  rw[written]
  split
  ·split
   ·rename_i j hj
    exact⟨⟨h,le_refl _⟩,hc _ (lookup_memN hj)⟩
   ·exact named_step h boolN_ne (by simp)
  ·rename_i hk
   obtain⟨s1,n1⟩:=writtenL_grow (g:=written n ch) (L:=σ.nodes.length) ps σ (fun p hp τ hτ hL=>ih p τ (hf.part hp) hτ fun x hx=>(hc x hx).mono hL) h (le_refl _)
   simp only
   split
   ·split
    ·rename_i a b hab
     rw[hab]at n1
     obtain⟨s2,n2⟩:=named_step s1.grow arrow_ne (ps:=[a,b]) n1
     exact⟨s1.trans s2,n2⟩
    ·obtain⟨s2,n2⟩:=named_step s1.grow boolN_ne (ps:=[]) (by simp)
     exact⟨s1.trans s2,n2⟩
   ·rename_i hk3
    obtain⟨s2,n2⟩:=named_step s1.grow (hf _ (by rw[Nd.all_eq];exact mem_cons_self ..) hk hk3) n1
    exact⟨s1.trans s2,n2⟩
theorem lettersFor_grow{d:Nat}(hd:dm<=d):∀(ls:List Nm)(σ:TS),Grow dm σ0 σ->Step dm σ0 σ (lettersFor d ls σ).2/\∀x∈(lettersFor d ls σ).1,NewT σ0 (lettersFor d ls σ).2 x.2:=by
 intro ls
 induction ls with
 |nil=>intro σ h;rw[lettersFor];exact⟨⟨h,le_refl _⟩,by simp⟩
 |cons l r ih=>
  intro σ h
  rw[lettersFor]
  obtain⟨s1,n1⟩:=letter_step h hd
  obtain⟨s2,n2⟩:=ih (σ.letter d).2 s1.grow
  refine⟨s1.trans s2,fun x hx=>?_⟩
  rcases mem_cons.1 hx with rfl|hx
  ·exact n1.mono s2.le
  ·exact n2 x hx
def VrOk(v:Vr):Prop:=v.data≠[]/\∀q∈v.parts,TyFull q
def EnvC(ρ:Env):Prop:=∀x m,ρ.get (1,x)=some m->VrOk m.vr
theorem EnvC.var{ρ:Env}(h:EnvC ρ)(x:Nm)(m:Mg):EnvC (((0,x),m)::ρ):=fun y m' hy=>by
 rw[Env.get,if_neg (by simp)]at hy
 exact h y m' hy
def EnvV(σ0 σ:TS)(ρ:Env):Prop:=∀x m t,ρ.get (0,x)=some m->m.scheme=some t->MayT σ0 σ t
theorem EnvV.mono{ρ:Env}{σ':TS}(h:EnvV σ0 σ ρ)(hl:σ.nodes.length<=σ'.nodes.length):EnvV σ0 σ' ρ:=fun x m t h1 h2=>(h x m t h1 h2).mono hl
theorem EnvV.var{ρ:Env}(h:EnvV σ0 σ ρ)(x:Nm){t:Nat}(ht:NewT σ0 σ t):EnvV σ0 σ (((0,x),Mg.var t)::ρ):=fun y m t' hy hm=>by
 rw[Env.get]at hy
 split at hy
 ·cases hy;cases hm;exact inl ht
 ·exact h y m t' hy hm
theorem conGo_grow{S:Type}{get:S->TS}{put:S->TS->S}(hgp:∀s τ,get (put s τ)=τ){I:S->Prop}(hI:∀s τ,I s->(get s).nodes.length<=τ.nodes.length->I (put s τ)){ex:Nd->Nat->S->Option S}{ch:List (Nm×Nat)}:∀(l:List (Nd×Nd)) (s s':S),
  (∀x∈l,∀want s s',I s->Grow dm σ0 (get s)->NewT σ0 (get s) want->ex x.1 want s=some s'->Step dm σ0 (get s) (get s')/\I s')->(∀x∈l,TyFull x.2)->I s->Grow dm σ0 (get s)->(∀x∈ch,NewT σ0 (get s) x.2)->conT.go get put ex ch l s=some s'->Step dm σ0 (get s) (get s')/\I s':=by
 intro l
 induction l with
 |nil=>intro s s' _ _ hi h _ hs;rw[conT.go]at hs;cases hs;exact⟨⟨h,le_refl _⟩,hi⟩
 |cons x r ih=>
  obtain⟨p,q⟩:=x
  intro s s' he hf hi h hc hs
  rw[conT.go]at hs
  obtain⟨s1,n1⟩:=written_grow (ch:=ch) (q.ht+1) q (get s) (hf _ (mem_cons_self ..)) h hc
  cases hx:ex p (written (q.ht+1) ch q (get s)).1 (put s (written (q.ht+1) ch q (get s)).2)with
  |none=>rw[hx]at hs;cases hs
  |some s2=>
   rw[hx]at hs
   obtain⟨st2,i2⟩:=he _ (mem_cons_self ..) _ _ _ (hI s _ hi s1.le) (by rw[hgp];exact s1.grow) (by rw[hgp];exact n1) hx
   rw[hgp]at st2
   obtain⟨st3,i3⟩:=ih s2 s' (fun y hy=>he y (mem_cons_of_mem _ hy)) (fun y hy=>hf y (mem_cons_of_mem _ hy)) i2 st2.grow (fun y hy=>(hc y hy).mono (le_trans s1.le st2.le)) hs
   exact⟨(s1.trans st2).trans st3,i3⟩
theorem conT_grow{S:Type}{get:S->TS}{put:S->TS->S}(hgp:∀s τ,get (put s τ)=τ){I:S->Prop}(hI:∀s τ,I s->(get s).nodes.length<=τ.nodes.length->I (put s τ)){ex:Nd->Nat->S->Option S}{ρ:Env}(hρ:EnvC ρ){d:Nat}(hd:dm<=d){txt:Nm}{ps:List Nd}{s s':S}{t:Nat}
  (he:∀p∈ps,∀want s s',I s->Grow dm σ0 (get s)->NewT σ0 (get s) want->ex p want s=some s'->Step dm σ0 (get s) (get s')/\I s') (hi:I s) (h:Grow dm σ0 (get s)) (hs:conT get put ρ d txt ps ex s=some (t,s')) :
  Step dm σ0 (get s) (get s')/\NewT σ0 (get s') t/\I s':=by
 unfold conT at hs
 cases hm:ρ.get (1,txt)with
 |none=>rw[hm]at hs;cases hs
 |some m=>
  rw[hm]at hs
  have hv:=hρ txt m hm
  obtain⟨s1,n1⟩:=lettersFor_grow hd m.vr.letters (get s) h
  simp only at hs
  cases hx:conT.go get put ex (lettersFor d m.vr.letters (get s)).1 (ps.zip m.vr.parts) (put s (lettersFor d m.vr.letters (get s)).2)with
  |none=>rw[hx]at hs;cases hs
  |some s2=>
   rw[hx]at hs
   obtain⟨st2,i2⟩:=conGo_grow hgp hI _ _ _ (fun x hx=>he x.1 (List.of_mem_zip hx).1) (fun x hx=>hv.2 _ (List.of_mem_zip hx).2) (hI s _ hi s1.le) (by rw[hgp];exact s1.grow) (by rw[hgp];exact n1) hx
   rw[hgp]at st2
   cases hs
   obtain⟨s3,n3⟩:=named_step st2.grow hv.1 (ps:=(lettersFor d m.vr.letters (get s)).1.map Prod.snd) (fun p hp=>by
    obtain⟨x,hx,rfl⟩:=List.mem_map.1 hp
    exact(n1 x hx).mono st2.le)
   refine⟨?_,?_,hI _ _ i2 s3.le⟩
   ·rw[hgp];exact(s1.trans st2).trans s3
   ·rw[hgp];exact n3
end
end
section
section
variable {dm:Nat}{σ0 σ:TS}
def VarsN(σ0:TS)(s:TS×List (Nm×Nat)):Prop:=∀x∈s.2,NewT σ0 s.1 x.2
theorem patX_grow(hok:σ0.Rg){g:Nd->TS×List (Nm×Nat)->Option (Nat×(TS×List (Nm×Nat)))}{p:Nd}
  (hg:∀s t s',VarsN σ0 s->Grow dm σ0 s.1->g p s=some (t,s')->Step dm σ0 s.1 s'.1/\NewT σ0 s'.1 t/\VarsN σ0 s') {want:Nat}{s s':TS×List (Nm×Nat)} (hi:VarsN σ0 s) (h:Grow dm σ0 s.1) (hw:NewT σ0 s.1 want) (hs:patT.patX g p want s=some s'):Step dm σ0 s.1 s'.1/\VarsN σ0 s':=by
 unfold patT.patX at hs
 cases hx:g p s with
 |none=>rw[hx]at hs;cases hs
 |some y=>
  obtain⟨t,s1⟩:=y
  rw[hx]at hs
  obtain⟨st1,n1,i1⟩:=hg s t s1 hi h hx
  simp only at hs
  cases hy:(s1.1.give t).unify t want with
  |none=>rw[hy]at hs;cases hs
  |some σ2=>
   rw[hy]at hs
   cases hs
   have st2:=give_step st1.grow t
   have st3:=unify_grow hok st2.grow (σ:=s1.1.give t) n1 (hw.mono st1.le) hy
   exact⟨(st1.trans st2).trans st3,fun x hx=>(i1 x hx).mono (st2.trans st3).le⟩
theorem patT_grow(hok:σ0.Rg){ρ:Env}(hρ:EnvC ρ){d:Nat}(hd:dm<=d):∀(n:Nat) (p:Nd) (s:TS×List (Nm×Nat)) (t:Nat) (s':TS×List (Nm×Nat)),VarsN σ0 s->Grow dm σ0 s.1->patT ρ d n p s=some (t,s')->Step dm σ0 s.1 s'.1/\NewT σ0 s'.1 t/\VarsN σ0 s':=by
 intro n
 induction n with
 |zero=>intro p s t s' _ _ hs;cases hs
 |succ n ih=>
  intro p s t s' hi h hs
  obtain⟨k,txt,ps⟩:=p
  rw[patT]at hs
  split at hs
  ·cases hs
   obtain⟨s1,n1⟩:=letter_step h hd
   exact⟨s1,n1,fun x hx=>(hi x hx).mono s1.le⟩
  ·split at hs
   ·cases hs
    obtain⟨s1,n1⟩:=letter_step h hd
    refine⟨s1,n1,fun x hx=>?_⟩
    rcases mem_append.1 hx with hx|hx
    ·exact(hi x hx).mono s1.le
    ·rw[mem_singleton.1 hx];exact n1
   ·split at hs
    ·exact conT_grow (get:=Prod.fst) (put:=fun s σ=>(σ,s.2)) (I:=VarsN σ0) (fun _ _=>rfl) (fun s τ hs hl x hx=>(hs x hx).mono hl) hρ hd (fun p _ want s s' hi h hw hx=>patX_grow hok (fun s t s' h1 h2 h3=>ih p s t s' h1 h2 h3) hi h hw hx) hi h hs
    ·cases hs
     obtain⟨s1,n1⟩:=named_step h (plainN_ne k) (ps:=[]) (by simp)
     exact⟨s1,n1,fun x hx=>(hi x hx).mono s1.le⟩
theorem EnvC.vars{ρ:Env}:∀{vs:List (Nm×Nat)},EnvC ρ->EnvC (bindTs ρ vs):=by
 intro vs
 induction vs generalizing ρ with
 |nil=>intro h;exact h
 |cons v r ih=>intro h;exact ih (h.var v.1 _)
theorem EnvV.vars{ρ:Env}:∀{vs:List (Nm×Nat)},EnvV σ0 σ ρ->(∀x∈vs,NewT σ0 σ x.2)->EnvV σ0 σ (bindTs ρ vs):=by
 intro vs
 induction vs generalizing ρ with
 |nil=>intro h _;exact h
 |cons v r ih=>intro h hv;exact ih (h.var v.1 (hv v (mem_cons_self ..))) fun x hx=>hv x (mem_cons_of_mem _ hx)
def ExG(dm:Nat)(σ0:TS)(g:Env->Nat->Nd->TS->Option (Nat×TS)):Prop:=
 ∀ρ d nd σ t σ',EnvC ρ->EnvV σ0 σ ρ->dm<=d->Grow dm σ0 σ->g ρ d nd σ=some (t,σ')->Step dm σ0 σ σ'/\NewT σ0 σ' t
variable {g:Env->Nat->Nd->TS->Option (Nat×TS)}
theorem exX_grow(hok:σ0.Rg)(hg:ExG dm σ0 g){ρ:Env}{d:Nat}{nd:Nd}{want:Nat}{σ':TS}(hc:EnvC ρ)(hv:EnvV σ0 σ ρ)(hd:dm<=d)(h:Grow dm σ0 σ)(hw:NewT σ0 σ want)(hs:exX g ρ d nd want σ=some σ'):Step dm σ0 σ σ':=by
 unfold exX at hs
 cases hx:g ρ d nd σ with
 |none=>rw[hx]at hs;cases hs
 |some y=>
  obtain⟨t,σ1⟩:=y
  rw[hx]at hs
  obtain⟨s1,n1⟩:=hg ρ d nd σ t σ1 hc hv hd h hx
  exact s1.trans (unify_grow hok s1.grow n1 (hw.mono s1.le) hs)
theorem openAll_step(hok:σ0.Rg)(hdm:dm<=openD)(h:Grow dm σ0 σ){t:Nat}(ht:NewT σ0 σ t)(hf:σ.fits t=true)(d:Nat):Step dm σ0 σ (σ.openAll d t):=by
 rw[TS.openAll_eq]
 exact⟨h.openAll hdm d _ (h.pre_new hok ht.1 hf),by rw[(opened_alike _ _ _).len];exact le_refl _⟩
theorem boundT_grow(hok:σ0.Rg)(hdm:dm<=openD)(hg:ExG dm σ0 g){ρ:Env}{d:Nat}{isRec:Bool}{txt:Nm}{a:Nd}{t:Nat}{σ':TS}(hc:EnvC ρ)(hv:EnvV σ0 σ ρ)(hd:dm<=(if isValue (a.ht+1) a then d+1 else d))(h:Grow dm σ0 σ)(hs:boundT g ρ d isRec txt a σ=some (t,σ')):Step dm σ0 σ σ'/\NewT σ0 σ' t:=by
 unfold boundT at hs
 generalize (if isValue (a.ht+1) a then d+1 else d)=d' at hs hd
 simp only at hs
 have key:∀t1 σ1,(if isRec then
   match g (((0,txt),Mg.var σ.nodes.length)::ρ) d' a (σ.letter d').2 with
   |some (t,σ')=>(σ'.unify σ.nodes.length t).map fun s=>(σ.nodes.length,s)
   |none=>none
  else g ρ d' a σ)=some (t1,σ1)->Step dm σ0 σ σ1/\NewT σ0 σ1 t1:=by
  intro t1 σ1 hs
  cases isRec with
  |false=>exact hg ρ d' a σ t1 σ1 hc hv hd h hs
  |true=>
   simp only[if_true]at hs
   obtain⟨s1,n1⟩:=letter_step h hd
   cases hx:g (((0,txt),Mg.var σ.nodes.length)::ρ) d' a (σ.letter d').2 with
   |none=>rw[hx]at hs;cases hs
   |some y=>
    obtain⟨t2,σ2⟩:=y
    rw[hx]at hs
    obtain⟨s2,n2⟩:=hg _ _ _ _ _ _ (hc.var _ _) ((hv.mono s1.le).var _ n1) hd s1.grow hx
    simp only at hs
    cases hy:σ2.unify σ.nodes.length t2 with
    |none=>rw[hy]at hs;cases hs
    |some σ3=>
     rw[hy]at hs
     cases hs
     have s3:=unify_grow hok s2.grow (n1.mono s2.le) n2 hy
     exact⟨(s1.trans s2).trans s3,n1.mono (s2.trans s3).le⟩
 generalize (if isRec then
   match g (((0,txt),Mg.var σ.nodes.length)::ρ) d' a (σ.letter d').2 with
   |some (t,σ')=>(σ'.unify σ.nodes.length t).map fun s=>(σ.nodes.length,s)
   |none=>none
  else g ρ d' a σ)=r at hs key
 cases r with
 |none=>cases hs
 |some y=>
  obtain⟨t1,σ1⟩:=y
  obtain⟨s1,n1⟩:=key t1 σ1 rfl
  simp only at hs
  split at hs
  ·rename_i hf
   cases hs
   have s2:=openAll_step hok hdm s1.grow n1 hf d
   exact⟨s1.trans s2,n1.mono s2.le⟩
  ·cases hs
theorem rowsT_grow(hok:σ0.Rg)(hg:ExG dm σ0 g){ρ:Env}{d subj ans:Nat}(hc:EnvC ρ)(hd:dm<=d):∀(rows:List Nd)(σ σ':TS),EnvV σ0 σ ρ->Grow dm σ0 σ->NewT σ0 σ subj->NewT σ0 σ ans->rowsT g ρ d subj ans rows σ=some σ'->Step dm σ0 σ σ':=by
 intro rows
 induction rows with
 |nil=>intro σ σ' _ h _ _ hs;rw[rowsT]at hs;cases hs;exact⟨h,le_refl _⟩
 |cons r rs ih=>
  intro σ σ' hv h h1 h2 hs
  obtain⟨k,txt,ps⟩:=r
  match ps,hs with
  |[p,e],hs=>
   rw[rowsT]at hs
   cases hx:patE ρ d p subj (σ,[])with
   |none=>rw[hx]at hs;cases hs
   |some y=>
    obtain⟨σ1,vs⟩:=y
    rw[hx]at hs
    obtain⟨s1,i1⟩:=patX_grow (σ0:=σ0) (dm:=dm) hok (fun s t s' a b c=>patT_grow hok hc hd _ p s t s' a b c) (s:=(σ,[])) (by simp[VarsN]) h h1 hx
    simp only at hs
    cases hy:exX g (bindTs ρ vs) d e ans σ1 with
    |none=>rw[hy]at hs;cases hs
    |some σ2=>
     rw[hy]at hs
     have s2:=exX_grow hok hg hc.vars ((hv.mono s1.le).vars i1) hd s1.grow (h2.mono s1.le) hy
     exact(s1.trans s2).trans (ih σ2 σ' (hv.mono (s1.trans s2).le) s2.grow (h1.mono (s1.trans s2).le) (h2.mono (s1.trans s2).le) hs)
  |[],hs=>simp[rowsT]at hs
  |[_],hs=>simp[rowsT]at hs
  |_::_::_::_,hs=>simp[rowsT]at hs
theorem formT_grow(hok:σ0.Rg)(hdm:dm<=openD)(hg:ExG dm σ0 g):ExG dm σ0 (formT g):=by
 intro ρ d nd σ t σ' hc hv hd h hs
 obtain⟨k,txt,ps⟩:=nd
 have hint:∀(nm:Nm),nm≠[]->some (σ.named nm [])=some (t,σ')->Step dm σ0 σ σ'/\NewT σ0 σ' t:=fun nm hn hs=>by
  cases hs;exact named_step h hn (by simp)
 unfold formT at hs
 dsimp only at hs
 split at hs
 ·exact hint intN (by decide) hs
 ·exact hint boolN (by decide) hs
 ·exact hint unitN (by decide) hs
 ·cases hm:ρ.get (0,txt)with
  |none=>rw[hm]at hs;cases hs
  |some m=>
   rw[hm]at hs
   simp only[Option.getD_some]at hs
   split at hs
   ·rename_i t0 ht0
    split at hs
    ·unfold TS.inst at hs
     cases hx:inst d wkFuel σ [] t0 with
     |none=>rw[hx]at hs;cases hs
     |some y=>
      obtain⟨j,σ1,m1⟩:=y
      rw[hx]at hs
      cases hs
      obtain⟨s1,n1,_⟩:=inst_grow hok hd wkFuel σ [] t0 _ _ m1 h (by simp) (hv txt m t0 hm ht0) hx
      exact⟨s1,n1⟩
    ·cases hs
   ·cases hs
 ·obtain⟨s1,n1,_⟩:=conT_grow (get:=id) (put:=fun _ σ=>σ) (I:=fun τ=>EnvV σ0 τ ρ) (fun _ _=>rfl) (fun s τ hs hl=>hs.mono hl) hc hd (fun p _ want s s' hi h hw hx=>by
   have st:=exX_grow hok hg hc hi hd h hw hx
   exact⟨st,hi.mono st.le⟩) hv h hs
  exact⟨s1,n1⟩
 ·rename_i a
  obtain⟨s1,n1⟩:=letter_step h hd
  cases hx:g (((0,txt),Mg.var σ.nodes.length)::ρ) d a (σ.letter d).2 with
  |none=>rw[hx]at hs;cases hs
  |some y=>
   obtain⟨t2,σ2⟩:=y
   rw[hx]at hs
   cases hs
   obtain⟨s2,n2⟩:=hg _ _ _ _ _ _ (hc.var _ _) ((hv.mono s1.le).var _ n1) hd s1.grow hx
   obtain⟨s3,n3⟩:=named_step s2.grow arrow_ne (ps:=[σ.nodes.length,t2]) (fun p hp=>by
    rcases mem_cons.1 hp with rfl|hp
    ·exact n1.mono s2.le
    ·rw[mem_singleton.1 hp];exact n2)
   exact⟨(s1.trans s2).trans s3,n3⟩
 ·rename_i a b
  cases hx:g ρ d a σ with
  |none=>rw[hx]at hs;cases hs
  |some y=>
   obtain⟨f,σ1⟩:=y
   rw[hx]at hs
   obtain⟨s1,n1⟩:=hg _ _ _ _ _ _ hc hv hd h hx
   simp only at hs
   cases hy:g ρ d b σ1 with
   |none=>rw[hy]at hs;cases hs
   |some z=>
    obtain⟨x,σ2⟩:=z
    rw[hy]at hs
    obtain⟨s2,n2⟩:=hg _ _ _ _ _ _ hc (hv.mono s1.le) hd s1.grow hy
    obtain⟨s3,n3⟩:=letter_step s2.grow hd
    obtain⟨s4,n4⟩:=named_step s3.grow arrow_ne (ps:=[x,σ2.nodes.length]) (fun p hp=>by
     rcases mem_cons.1 hp with rfl|hp
     ·exact n2.mono s3.le
     ·rw[mem_singleton.1 hp];exact n3)
    simp only at hs
    cases hz:((σ2.letter d).2.named arrowN [x,σ2.nodes.length]).2.unify f ((σ2.letter d).2.named arrowN [x,σ2.nodes.length]).1 with
    |none=>rw[hz]at hs;cases hs
    |some σ5=>
     rw[hz]at hs
     cases hs
     have s5:=unify_grow hok s4.grow (n1.mono (s2.trans (s3.trans s4)).le) n4 hz
     exact⟨s1.trans (s2.trans (s3.trans (s4.trans s5))),n3.mono (s4.trans s5).le⟩
 ·rename_i a b
  cases hx:boundT g ρ d false txt a σ with
  |none=>rw[hx]at hs;cases hs
  |some y=>
   obtain⟨t1,σ1⟩:=y
   rw[hx]at hs
   obtain⟨s1,n1⟩:=boundT_grow hok hdm hg hc hv (by split<;>omega) h hx
   obtain⟨s2,n2⟩:=hg _ _ _ _ _ _ (hc.var _ _) ((hv.mono s1.le).var _ n1) hd s1.grow hs
   exact⟨s1.trans s2,n2⟩
 ·rename_i a b
  cases hx:boundT g ρ d true txt a σ with
  |none=>rw[hx]at hs;cases hs
  |some y=>
   obtain⟨t1,σ1⟩:=y
   rw[hx]at hs
   obtain⟨s1,n1⟩:=boundT_grow hok hdm hg hc hv (by split<;>omega) h hx
   obtain⟨s2,n2⟩:=hg _ _ _ _ _ _ (hc.var _ _) ((hv.mono s1.le).var _ n1) hd s1.grow hs
   exact⟨s1.trans s2,n2⟩
 ·rename_i c a b
  obtain⟨s0,n0⟩:=named_step h boolN_ne (ps:=[]) (by simp)
  cases hx:exX g ρ d c σ.nodes.length (σ.named boolN []).2 with
  |none=>rw[hx]at hs;cases hs
  |some σ1=>
   rw[hx]at hs
   have s1:=exX_grow hok hg hc (hv.mono s0.le) hd s0.grow n0 hx
   simp only at hs
   cases hy:g ρ d a σ1 with
   |none=>rw[hy]at hs;cases hs
   |some z=>
    obtain⟨x,σ2⟩:=z
    rw[hy]at hs
    obtain⟨s2,n2⟩:=hg _ _ _ _ _ _ hc (hv.mono (s0.trans s1).le) hd s1.grow hy
    simp only at hs
    cases hz:exX g ρ d b x σ2 with
    |none=>rw[hz]at hs;cases hs
    |some σ3=>
     rw[hz]at hs
     cases hs
     have s3:=exX_grow hok hg hc (hv.mono (s0.trans (s1.trans s2)).le) hd s2.grow n2 hz
     exact⟨s0.trans (s1.trans (s2.trans s3)),n2.mono s3.le⟩
 ·rename_i a b
  obtain⟨s0,n0⟩:=named_step h (nm:=unitN) (by decide) (ps:=[]) (by simp)
  cases hx:exX g ρ d a σ.nodes.length (σ.named unitN []).2 with
  |none=>rw[hx]at hs;cases hs
  |some σ1=>
   rw[hx]at hs
   have s1:=exX_grow hok hg hc (hv.mono s0.le) hd s0.grow n0 hx
   obtain⟨s2,n2⟩:=hg _ _ _ _ _ _ hc (hv.mono (s0.trans s1).le) hd s1.grow hs
   exact⟨s0.trans (s1.trans s2),n2⟩
 ·rename_i a b
  cases hx:g ρ d a σ with
  |none=>rw[hx]at hs;cases hs
  |some y=>
   obtain⟨c,σ1⟩:=y
   rw[hx]at hs
   obtain⟨s1,n1⟩:=hg _ _ _ _ _ _ hc hv hd h hx
   simp only at hs
   cases hy:g ρ d b σ1 with
   |none=>rw[hy]at hs;cases hs
   |some z=>
    obtain⟨x,σ2⟩:=z
    rw[hy]at hs
    obtain⟨s2,n2⟩:=hg _ _ _ _ _ _ hc (hv.mono s1.le) hd s1.grow hy
    obtain⟨s3,n3⟩:=named_step s2.grow refN_ne (ps:=[x]) (fun p hp=>by rw[mem_singleton.1 hp];exact n2)
    simp only at hs
    cases hz:(σ2.named refN [x]).2.unify c σ2.nodes.length with
    |none=>rw[hz]at hs;cases hs
    |some σ4=>
     rw[hz]at hs
     cases hs
     have s4:=unify_grow hok s3.grow (n1.mono (s2.trans s3).le) n3 hz
     obtain⟨s5,n5⟩:=named_step s4.grow (nm:=unitN) (by decide) (ps:=[]) (by simp)
     exact⟨s1.trans (s2.trans (s3.trans (s4.trans s5))),n5⟩
 ·rename_i a
  obtain⟨s1,n1⟩:=letter_step h hd
  obtain⟨s2,n2⟩:=named_step s1.grow refN_ne (ps:=[σ.nodes.length]) (fun p hp=>by rw[mem_singleton.1 hp];exact n1)
  have e2:(σ.letter d).2.nodes.length=σ.nodes.length+1:=by unfold TS.letter;rw[TS.new_len]
  rw[e2]at n2
  cases hx:exX g ρ d a (σ.nodes.length+1) ((σ.letter d).2.named refN [σ.nodes.length]).2 with
  |none=>rw[hx]at hs;cases hs
  |some σ3=>
   rw[hx]at hs
   cases hs
   have s3:=exX_grow hok hg hc (hv.mono (s1.trans s2).le) hd s2.grow n2 hx
   exact⟨s1.trans (s2.trans s3),n1.mono (s2.trans s3).le⟩
 ·rename_i a rows
  cases hx:g ρ d a σ with
  |none=>rw[hx]at hs;cases hs
  |some y=>
   obtain⟨t1,σ1⟩:=y
   rw[hx]at hs
   obtain⟨s1,n1⟩:=hg _ _ _ _ _ _ hc hv hd h hx
   obtain⟨s2,n2⟩:=letter_step s1.grow hd
   simp only at hs
   cases hy:rowsT g ρ d t1 σ1.nodes.length (only 16 rows) (σ1.letter d).2 with
   |none=>rw[hy]at hs;cases hs
   |some σ3=>
    rw[hy]at hs
    cases hs
    have s3:=rowsT_grow hok hg hc hd _ _ _ (hv.mono (s1.trans s2).le) s2.grow (n1.mono s2.le) n2 hy
    exact⟨s1.trans (s2.trans s3),n2.mono s3.le⟩
 ·rename_i a b _ _ _ _ _ _ _ _ _ _ _
  obtain⟨s0,n0⟩:=named_step h (nm:=intN) (by decide) (ps:=[]) (by simp)
  cases hx:exX g ρ d a σ.nodes.length (σ.named intN []).2 with
  |none=>rw[hx]at hs;cases hs
  |some σ1=>
   rw[hx]at hs
   have s1:=exX_grow hok hg hc (hv.mono s0.le) hd s0.grow n0 hx
   obtain⟨s2,n2⟩:=named_step s1.grow (nm:=intN) (by decide) (ps:=[]) (by simp)
   simp only at hs
   cases hy:exX g ρ d b σ1.nodes.length (σ1.named intN []).2 with
   |none=>rw[hy]at hs;cases hs
   |some σ3=>
    rw[hy]at hs
    cases hs
    have s3:=exX_grow hok hg hc (hv.mono (s0.trans (s1.trans s2)).le) hd s2.grow n2 hy
    obtain⟨s4,n4⟩:=named_step s3.grow (nm:=if txt=[61]\/txt=[60]then boolN else intN) (by split<;>decide) (ps:=[]) (by simp)
    exact⟨s0.trans (s1.trans (s2.trans (s3.trans s4))),n4⟩
 ·cases hs
theorem exT_grow(hok:σ0.Rg)(hdm:dm<=openD):∀n,ExG dm σ0 (exT n):=by
 intro n
 induction n with
 |zero=>intro ρ d nd σ t σ' _ _ _ _ hs;cases hs
 |succ n ih=>
  intro ρ d nd σ t σ' hc hv hd h hs
  rw[exT]at hs
  cases hx:formT (exT n) ρ d nd σ with
  |none=>rw[hx]at hs;cases hs
  |some y=>
   obtain⟨t1,σ1⟩:=y
   rw[hx]at hs
   cases hs
   obtain⟨s1,n1⟩:=formT_grow hok hdm ih ρ d nd σ t σ1 hc hv hd h hx
   exact⟨s1.trans (give_step s1.grow _),n1⟩
end
end
end Go.Proofs.YtcbppnefeonmgaaGreatDoor
