import Derived.Test.YtcbppnefeonmgaaGreatDoorC13
set_option linter.all false
set_option maxHeartbeats 40000000
set_option maxRecDepth 100000
open Or (inl inr)
open Nat (le_refl le_trans zero_le lt_of_lt_of_le)
open List (length_cons mem_cons_self mem_cons_of_mem mem_append mem_singleton append_assoc cons_append mem_cons map_append)
namespace Go.Proofs.YtcbppnefeonmgaaGreatDoor
section
theorem wkL_sub{g:List Nat->Nat->Option (List Nat×Bool)}:∀{ps:List Nat}{acc acc':List Nat}{b:Bool},wk.wkL g acc ps=some (acc',b)->(∀p∈ps,∀a a' b,g a p=some (a',b)->∀x∈a,x∈a')->∀x∈acc,x∈acc':=by
 intro ps
 induction ps with
 |nil=>intro acc acc' b h _ x hx;rw[wk.wkL]at h;cases h;exact hx
 |cons p r ih=>
  intro acc acc' b h hp x hx
  rw[wk.wkL]at h
  cases hg:g acc p with
  |none=>rw[hg]at h;cases h
  |some y=>
   obtain⟨a1,b1⟩:=y
   rw[hg]at h
   have h1:=hp p (mem_cons_self ..) _ _ _ hg x hx
   cases b1 with
   |false=>cases h;exact h1
   |true=>exact ih h (fun q hq=>hp q (mem_cons_of_mem _ hq)) x h1
theorem wk_sub{σ:TS}{T:List Nat->Nat->Bool}:∀{n:Nat}{acc acc':List Nat}{i:Nat}{b:Bool},wk σ T n acc i=some (acc',b)->(∀x∈acc,x∈acc')/\σ.root i∈acc':=by
 intro n
 induction n with
 |zero=>intro acc acc' i b h;cases h
 |succ n ih=>
  intro acc acc' i b h
  rw[wk]at h
  split at h
  ·have:=wkL_sub h fun p _ a a' b hg=>(ih hg).1
   exact⟨fun x hx=>this x (mem_append.2 (inl hx)),this _ (mem_append.2 (inr (mem_singleton.2 rfl)))⟩
  ·cases h
   exact⟨fun x hx=>mem_append.2 (inl hx),mem_append.2 (inr (mem_singleton.2 rfl))⟩
theorem wkL_whole{σ:TS}{T:List Nat->Nat->Bool}{n:Nat}(ih:∀{acc acc':List Nat}{i:Nat},wk σ T n acc i=some (acc',true)->∀x∈acc',x∈acc\/∀p∈(σ.node x).parts,σ.root p∈acc') :
  ∀{ps:List Nat}{acc acc':List Nat},wk.wkL (wk σ T n) acc ps=some (acc',true)->(∀p∈ps,σ.root p∈acc')/\∀x∈acc',x∈acc\/∀p∈(σ.node x).parts,σ.root p∈acc':=by
 intro ps
 induction ps with
 |nil=>intro acc acc' h;rw[wk.wkL]at h;cases h;exact⟨by simp,fun x hx=>inl hx⟩
 |cons p r ihr=>
  intro acc acc' h
  rw[wk.wkL]at h
  cases hg:wk σ T n acc p with
  |none=>rw[hg]at h;cases h
  |some y=>
   obtain⟨a1,b1⟩:=y
   rw[hg]at h
   cases b1 with
   |false=>cases h
   |true=>
    obtain⟨h1,h2⟩:=ihr h
    have hsub:=wkL_sub h fun p _ a a' b hg=>(wk_sub hg).1
    refine⟨fun q hq=>?_,fun x hx=>?_⟩
    ·rcases mem_cons.1 hq with rfl|hq
     ·exact hsub _ (wk_sub hg).2
     ·exact h1 q hq
    ·rcases h2 x hx with h3|h3
     ·rcases ih hg x h3 with h4|h4
      ·exact inl h4
      ·exact inr fun p hp=>hsub _ (h4 p hp)
     ·exact inr h3
theorem wk_whole{σ:TS}{T:List Nat->Nat->Bool}:∀{n:Nat}{acc acc':List Nat}{i:Nat},wk σ T n acc i=some (acc',true)->∀x∈acc',x∈acc\/∀p∈(σ.node x).parts,σ.root p∈acc':=by
 intro n
 induction n with
 |zero=>intro acc acc' i h;cases h
 |succ n ih=>
  intro acc acc' i h x hx
  rw[wk]at h
  split at h
  ·obtain⟨h1,h2⟩:=wkL_whole (fun {acc acc' i} h=>ih h) h
   rcases h2 x hx with h3|h3
   ·rcases mem_append.1 h3 with h4|h4
    ·exact inl h4
    ·rw[mem_singleton.1 h4];exact inr h1
   ·exact inr h3
  ·cases h
theorem wkL_all{g:List Nat->Nat->Option (List Nat×Bool)}{f:Nat->Bool}:∀{ps:List Nat}{acc acc':List Nat},wk.wkL g acc ps=some (acc',true)->(∀p∈ps,∀a a',g a p=some (a',true)->∀x∈a',x∈a\/f x=true)->∀x∈acc',x∈acc\/f x=true:=by
 intro ps
 induction ps with
 |nil=>intro acc acc' h _ x hx;rw[wk.wkL]at h;cases h;exact inl hx
 |cons p r ih=>
  intro acc acc' h hp x hx
  rw[wk.wkL]at h
  cases hg:g acc p with
  |none=>rw[hg]at h;cases h
  |some y=>
   obtain⟨a1,b1⟩:=y
   rw[hg]at h
   cases b1 with
   |false=>cases h
   |true=>
    rcases ih h (fun q hq=>hp q (mem_cons_of_mem _ hq)) x hx with h2|h2
    ·exact hp p (mem_cons_self ..) _ _ hg x h2
    ·exact inr h2
theorem wk_all{σ:TS}{f:Nat->Bool}:∀{n:Nat}{acc acc':List Nat}{i:Nat},wk σ (fun _ j=>f j) n acc i=some (acc',true)->∀x∈acc',x∈acc\/f x=true:=by
 intro n
 induction n with
 |zero=>intro acc acc' i h;cases h
 |succ n ih=>
  intro acc acc' i h x hx
  rw[wk]at h
  split at h
  ·rename_i hT
   rcases wkL_all h (fun p _ a a' hg=>ih hg) x hx with h2|h2
   ·rcases mem_append.1 h2 with h3|h3
    ·exact inl h3
    ·rw[mem_singleton.1 h3];exact inr hT
   ·exact inr h2
  ·cases h
def Closed(σ:TS)(t:Nat):Prop:=∃S,OpenSet σ S/\S t
def Reach(σ:TS)(t x:Nat):Prop:=x<σ.nodes.length/\σ.root x∈σ.pre t
theorem closed_of_pre{σ:TS}(hok:σ.Rg){t:Nat}(ht:t<σ.nodes.length)(hf:σ.fits t=true)(hl:∀x∈σ.pre t,σ.isLetter x=true->σ.depth x=openD):Closed σ t:=by
 have hw:=TS.fits_pre hf
 refine⟨Reach σ t,⟨fun i h=>h.1,fun i h=>⟨hok.root_lt h.1,by rw[hok.root_root];exact h.2⟩,fun i h hlet=>hl _ h.2 hlet,fun i h p hp=>⟨hok.part_lt (hok.root_lt h.1) hp,?_⟩⟩,ht,(wk_sub hw).2⟩
 rcases wk_whole hw _ h.2 with h1|h1
 ·cases h1
 ·exact h1 p hp
theorem OpenSet.grow{dm:Nat}{σ0 σ:TS}{S:Nat->Prop}(h:OpenSet σ0 S)(hok:σ0.Rg)(hg:Grow dm σ0 σ):OpenSet σ S where
 lt i hi:=lt_of_lt_of_le (h.lt i hi) hg.len
 root i hi:=by rw[hg.root_old hok (h.lt i hi)];exact h.root i hi
 letter i hi hl:=by
  have hr:=hok.root_lt (h.lt i hi)
  rw[hg.root_old hok (h.lt i hi)]at hl ⊢
  unfold TS.isLetter at hl
  unfold TS.depth
  rw[hg.old _ hr]at hl ⊢
  exact h.letter i hi hl
 parts i hi p hp:=by
  have hr:=hok.root_lt (h.lt i hi)
  rw[hg.root_old hok (h.lt i hi),hg.old _ hr]at hp
  exact h.parts i hi p hp
theorem Closed.grow{dm:Nat}{σ0 σ:TS}{t:Nat}(h:Closed σ0 t)(hok:σ0.Rg)(hg:Grow dm σ0 σ):Closed σ t:=by
 obtain⟨S,hS,hSt⟩:=h
 exact⟨S,hS.grow hok hg,hSt⟩
theorem wkL_same{σ τ:TS}{S:Nat->Prop}{T:List Nat->Nat->Bool}{n:Nat}(ih:∀acc i,S i->wk τ T n acc i=wk σ T n acc i):∀(ps:List Nat)(acc:List Nat),(∀p∈ps,S p)->wk.wkL (wk τ T n) acc ps=wk.wkL (wk σ T n) acc ps:=by
 intro ps
 induction ps with
 |nil=>intro acc _;rfl
 |cons p r ihr=>
  intro acc hp
  rw[wk.wkL,wk.wkL,ih acc p (hp p (mem_cons_self ..))]
  split
  ·exact ihr _ fun q hq=>hp q (mem_cons_of_mem _ hq)
  ·rfl
theorem wk_same{dm:Nat}{σ0 σ:TS}{S:Nat->Prop}(hS:OpenSet σ0 S)(hok:σ0.Rg)(hg:Grow dm σ0 σ)(T:List Nat->Nat->Bool):∀(n:Nat)(acc:List Nat)(i:Nat),S i->wk σ T n acc i=wk σ0 T n acc i:=by
 intro n
 induction n with
 |zero=>intro acc i _;rfl
 |succ n ih=>
  intro acc i hi
  rw[wk,wk,hg.root_old hok (hS.lt i hi),hg.old _ (hok.root_lt (hS.lt i hi)),wkL_same ih _ _ (hS.parts i hi)]
theorem Closed.fits{dm:Nat}{σ0 σ:TS}{t:Nat}(h:Closed σ0 t)(hok:σ0.Rg)(hg:Grow dm σ0 σ):σ.fits t=σ0.fits t:=by
 obtain⟨S,hS,ht⟩:=h
 unfold TS.fits
 rw[wk_same hS hok hg _ _ _ _ ht]
theorem wk_noGiven(σ:TS)(T:List Nat->Nat->Bool):∀(n:Nat)(acc:List Nat)(i:Nat),wk { σ with given:=[] } T n acc i=wk σ T n acc i:=by
 intro n
 induction n with
 |zero=>intro acc i;rfl
 |succ n ih=>
  intro acc i
  have:wk { σ with given:=[] } T n=wk σ T n:=funext fun a=>funext fun j=>ih a j
  rw[wk,wk,this]
  rfl
theorem fits_noGiven(σ:TS)(t:Nat):TS.fits { σ with given:=[] } t=σ.fits t:=by
 unfold TS.fits;rw[wk_noGiven]
theorem opened_open(d:Nat)(hd:d<openD):∀(l:List Nat)(σ:TS)(x:Nat),x<σ.nodes.length->σ.isLetter x=true->d<σ.depth x->(x∈l\/σ.depth x=openD)->(opened σ d l).depth x=openD:=by
 intro l
 induction l with
 |nil=>
  intro σ x _ _ _ h
  rcases h with h|h
  ·cases h
  ·exact h
 |cons j r ih=>
  intro σ x hx hl hdx h
  unfold opened
  rw[List.foldl_cons]
  by_cases hc:(σ.isLetter j && decide (d<σ.depth j))=true
  ·rw[if_pos hc]
   have hal:=Alike.setDepth σ j openD
   refine ih (σ.setDepth j openD) x (by rw[hal.len];exact hx) (by rw[hal.isLetter];exact hl) ?_ ?_
   ·rw[TS.setDepth_depth];split
    ·exact hd
    ·exact hdx
   ·rw[TS.setDepth_depth]
    by_cases hxj:x=j
    ·subst hxj;rw[if_pos ⟨rfl,hx⟩];exact inr rfl
    ·rw[if_neg (fun e=>hxj e.1)]
     rcases h with h|h
     ·rcases mem_cons.1 h with h|h
      ·exact absurd h hxj
      ·exact inl h
     ·exact inr h
  ·rw[if_neg hc]
   refine ih σ x hx hl hdx ?_
   rcases h with h|h
   ·rcases mem_cons.1 h with rfl|h
    ·exfalso;apply hc;rw[hl];simpa using hdx
    ·exact inl h
   ·exact inr h
structure PSOk(p:PS):Prop where
 rg:p.sto.Rg
 con:EnvC p.env
 var:∀x m t,p.env.get (0,x)=some m->m.scheme=some t->Closed p.sto t
 binds:∀b∈p.binds,Closed p.sto b.2/\p.sto.fits b.2=true
theorem Grow.trans{a b c:TS}(h:Grow 0 a b)(k:Grow 0 b c):Grow 0 a c where
 len:=le_trans h.len k.len
 old i hi:=(k.old i (lt_of_lt_of_le hi h.len)).trans (h.old i hi)
 fnd:=by
  obtain⟨e1,h1,h2⟩:=h.fnd
  obtain⟨e2,h3,h4⟩:=k.fnd
  refine⟨e2++e1,by rw[h3,h1,append_assoc],fun x hx=>?_⟩
  rcases mem_append.1 hx with hx|hx
  ·have:=h4 x hx
   have:=h.len
   omega
  ·exact h2 x hx
 parts i hi p hp:=by
  by_cases hb:i<b.nodes.length
  ·rw[k.old i hb]at hp;exact h.parts i hi p hp
  ·exact le_trans h.len (k.parts i (by omega) p hp)
 deep _ _ _ _:=zero_le _
 rg:=k.rg
theorem Grow.noGiven{dm:Nat}{σ0 σ:TS}(h:Grow dm σ0 σ):Grow dm σ0 { σ with given:=[] }:=
 ⟨h.len,h.old,h.fnd,h.parts,h.deep,⟨FndOk.grow (σ:=σ) (τ:={ σ with given:=[] }) (le_refl _) (fun _ _=>rfl) h.rg.fnd,h.rg.parts⟩⟩
theorem Closed.noGiven{σ:TS}{t:Nat}(h:Closed σ t):Closed { σ with given:=[] } t:=by
 obtain⟨S,hS,ht⟩:=h
 exact⟨S,⟨hS.lt,hS.root,hS.letter,hS.parts⟩,ht⟩
theorem bound_closed{σ0:TS}(hok:σ0.Rg){ρ:Env}(hc:EnvC ρ)(hv:EnvV σ0 σ0 ρ){n:Nat}{isRec:Bool}{txt:Nm}{a:Nd}{t:Nat}{σ:TS}(hs:boundT (exT n) ρ 0 isRec txt a σ0=some (t,σ))(hl:isValue (a.ht+1) a=true\/σ.hasLetters t=false) :
  Grow 0 σ0 σ/\NewT σ0 σ t/\Closed σ t/\σ.fits t=true:=by
 have hfits:∃τ,τ.fits t=true/\σ=τ.openAll 0 t/\(∀dm,dm<=openD->dm<=(if isValue (a.ht+1) a then 0+1 else 0)->Grow dm σ0 τ/\NewT σ0 τ t):=by
  have hs':=hs
  unfold boundT at hs
  simp only at hs
  split at hs
  ·rename_i t1 τ hr
   split at hs
   ·rename_i hf
    cases hs
    refine⟨τ,hf,rfl,fun dm hdm hd=>?_⟩
    have hg:=exT_grow (dm:=dm) hok hdm n
    cases isRec with
    |false=>
     obtain⟨s1,n1⟩:=hg _ _ _ _ _ _ hc hv hd (Grow.refl dm hok) hr
     exact⟨s1.grow,n1⟩
    |true=>
     simp only[if_true]at hr
     obtain⟨s1,n1⟩:=letter_step (Grow.refl dm hok) hd
     cases hx:exT n (((0,txt),Mg.var σ0.nodes.length)::ρ) (if isValue (a.ht+1) a then 0+1 else 0) a (σ0.letter (if isValue (a.ht+1) a then 0+1 else 0)).2 with
     |none=>rw[hx]at hr;cases hr
     |some y=>
      obtain⟨t2,σ2⟩:=y
      rw[hx]at hr
      obtain⟨s2,n2⟩:=hg _ _ _ _ _ _ (hc.var _ _) ((hv.mono s1.le).var _ n1) hd s1.grow hx
      simp only at hr
      cases hy:σ2.unify σ0.nodes.length t2 with
      |none=>rw[hy]at hr;cases hr
      |some σ3=>
       rw[hy]at hr
       cases hr
       have s3:=unify_grow hok s2.grow (n1.mono s2.le) n2 hy
       exact⟨s3.grow,n1.mono (s2.trans s3).le⟩
   ·cases hs
  ·cases hs
 obtain⟨τ,hf,rfl,hG⟩:=hfits
 obtain⟨g0,n0⟩:=hG 0 (zero_le _) (zero_le _)
 have hal:=opened_alike (τ.pre t) τ 0
 have e1:τ.openAll 0 t=opened τ 0 (τ.pre t):=rfl
 have st:=openAll_step hok (zero_le _) g0 n0 hf 0
 have hpre:(τ.openAll 0 t).pre t=τ.pre t:=by rw[e1];exact hal.pre t
 have hfo:(τ.openAll 0 t).fits t=true:=by rw[e1,hal.fits];exact hf
 refine⟨st.grow,n0.mono st.le,closed_of_pre st.grow.rg (n0.mono st.le).2 hfo ?_,hfo⟩
 rw[hpre]
 intro x hx hlet
 rw[e1,hal.isLetter]at hlet
 have hxm:=g0.rg.pre_mem n0.2 hf x hx
 have hxn:=g0.pre_new hok n0.1 hf x hx
 rcases hl with hl|hl
 ·rw[hl]at hG
  obtain⟨g1,_⟩:=hG 1 (by decide) (by simp)
  have:=g1.deep x hxn hxm.1 hlet
  rw[e1]
  exact opened_open 0 (by decide) _ _ x hxm.1 hlet (by omega) (inl hx)
 ·exfalso
  unfold TS.hasLetters at hl
  obtain⟨acc,b,hw⟩:=TS.fits_end hfo (fun _ j=>!(τ.openAll 0 t).isLetter j)
  rw[hw]at hl
  simp at hl
  subst hl
  have h1:=wk_true hw
  rw[TS.fits_pre hfo]at h1
  cases h1
  rw[hpre]at hw
  rcases wk_all (f:=fun j=>!(τ.openAll 0 t).isLetter j) hw x hx with h2|h2
  ·cases h2
  ·simp only[e1,hal.isLetter,hlet]at h2;cases h2
end
section
def DeclFull(nd:Nd):Prop:=nd.k=18->nd.txt≠[]/\∀v∈nd.ps,∀q∈v.ps,TyFull q
theorem get_cons_ne{ρ:Env}{x y:Ky}{m:Mg}(h:x≠y):Env.get ((y,m)::ρ) x=ρ.get x:=by rw[Env.get,if_neg h]
theorem declareType_con{txt:Nm}(hn:txt≠[]){ls:List Nm}{k:Nat}:∀(vs:List Nd)(ρ:Env),EnvC ρ->(∀v∈vs,∀q∈v.ps,TyFull q)->EnvC (vs.foldl (fun ρ v=>(((1,v.txt),Mg.con ⟨txt,ls,v.ps,k⟩)::ρ:Env)) ρ):=by
 intro vs
 induction vs with
 |nil=>intro ρ h _;exact h
 |cons v r ih=>
  intro ρ h hf
  rw[List.foldl_cons]
  refine ih _ (fun x m hx=>?_) fun u hu=>hf u (mem_cons_of_mem _ hu)
  rw[Env.get]at hx
  split at hx
  ·cases hx;exact⟨hn,hf v (mem_cons_self ..)⟩
  ·exact h x m hx
theorem declareType_var{txt:Nm}{ls:List Nm}{k:Nat}{x:Nm}:∀(vs:List Nd)(ρ:Env),Env.get (vs.foldl (fun ρ v=>(((1,v.txt),Mg.con ⟨txt,ls,v.ps,k⟩)::ρ:Env)) ρ) (0,x)=ρ.get (0,x):=by
 intro vs
 induction vs with
 |nil=>intro ρ;rfl
 |cons v r ih=>intro ρ;rw[List.foldl_cons,ih,get_cons_ne (by simp)]
theorem declare_ok{p:PS}{nd:Nd}(h:PSOk p)(hf:DeclFull nd)(h0:(declare p nd).1=0):PSOk (declare p nd).2/\Grow 0 p.sto (declare p nd).2.sto/\∃more,(declare p nd).2.binds=p.binds++more:=by
 unfold declare at h0 ⊢
 simp only at h0 ⊢
 split at h0
 ·rename_i he
  exact absurd h0 he
 ·rename_i he
  rw[if_neg he]
  split
  ·rename_i hk
   refine⟨⟨h.rg,?_,?_,h.binds⟩,Grow.refl 0 h.rg,[],by simp⟩
   ·have:=hf hk
    refine declareType_con this.1 _ _ (fun x m hx=>?_) (fun v hv=>this.2 v (List.mem_filter.1 hv).1)
    rw[get_cons_ne (by simp)]at hx
    exact h.con x m hx
   ·intro x m t hx
    unfold declareType at hx
    rw[declareType_var,get_cons_ne (by simp)]at hx
    exact h.var x m t hx
  ·rename_i hk
   rw[if_neg hk]at h0
   split
   ·rename_i hd
    rw[hd]at h0;cases h0
   ·rename_i t s hd
    obtain⟨k,txt,ps⟩:=nd
    have hv:EnvV p.sto p.sto p.env:=fun x m t h1 h2=>inr (h.var x m t h1 h2)
    unfold declT at hd
    cases ps with
    |nil=>cases hd
    |cons a r=>
     simp only at hd
     by_cases hk17:k=17
     ·rw[if_pos hk17]at hd
      rw[if_pos hk17]
      obtain⟨s0,n0⟩:=named_step (Grow.refl 0 h.rg) (nm:=unitN) (by decide) (ps:=[]) (by simp)
      cases hx:exX (exT (a.ht+1)) p.env 0 a p.sto.nodes.length (p.sto.named unitN []).2 with
      |none=>rw[hx]at hd;cases hd
      |some s1=>
       rw[hx]at hd
       simp only[Option.map_some]at hd
       split at hd
       ·cases hd
        have st1:=exX_grow h.rg (exT_grow h.rg (zero_le _) _) h.con (hv.mono s0.le) (zero_le _) s0.grow n0 hx
        have st2:=(named_step st1.grow (nm:=unitN) (by decide) (ps:=[]) (by simp)).1
        have hg:=st2.grow.noGiven
        exact⟨⟨hg.rg,h.con,fun x m t h1 h2=>(h.var x m t h1 h2).grow h.rg hg,fun b hb=>⟨(h.binds b hb).1.grow h.rg hg,by rw[(h.binds b hb).1.fits h.rg hg];exact(h.binds b hb).2⟩⟩,hg,[],by simp⟩
       ·cases hd
     ·rw[if_neg hk17]at hd
      rw[if_neg hk17]
      cases hx:boundT (exT (a.ht+1)) p.env 0 (k==7) txt a p.sto with
      |none=>rw[hx]at hd;cases hd
      |some y=>
       obtain⟨t1,s1⟩:=y
       rw[hx]at hd
       simp only at hd
       by_cases hc:(isValue (a.ht+1) a || !s1.hasLetters t1)=true
       ·rw[if_pos hc]at hd
        simp only at hd
        split at hd
        ·cases hd
         obtain⟨hg,hn,hcl,hfit⟩:=bound_closed h.rg h.con hv hx (by simpa using hc)
         have hg2:=hg.noGiven
         refine⟨⟨hg2.rg,h.con.var _ _,fun x m t h1 h2=>?_,fun b hb=>?_⟩,hg2,[(txt,t)],rfl⟩
         ·rw[Env.get]at h1
          split at h1
          ·cases h1;cases h2;exact hcl.noGiven
          ·exact(h.var x m t h1 h2).grow h.rg hg2
         ·rcases mem_append.1 hb with hb|hb
          ·exact⟨(h.binds b hb).1.grow h.rg hg2,by rw[(h.binds b hb).1.fits h.rg hg2];exact(h.binds b hb).2⟩
          ·rw[mem_singleton.1 hb];exact⟨hcl.noGiven,by rw[fits_noGiven];exact hfit⟩
        ·cases hd
       ·rw[if_neg hc]at hd;cases hd
theorem readD_ok:∀(l:List Nd)(i:Nat)(p:PS),PSOk p->(∀nd∈l,DeclFull nd)->(readD i p l).1=(0,0)->PSOk (readD i p l).2/\Grow 0 p.sto (readD i p l).2.sto/\∃more,(readD i p l).2.binds=p.binds++more:=by
 intro l
 induction l with
 |nil=>intro i p h _ _;exact⟨h,Grow.refl 0 h.rg,[],by simp[readD]⟩
 |cons nd r ih=>
  intro i p h hf h0
  rw[readD]at h0 ⊢
  by_cases hx:(declare p nd).1≠0
  ·rw[if_pos hx]at h0
   exact absurd (congrArg Prod.snd h0) hx
  ·rw[if_neg hx]at h0
   rw[if_neg hx]
   obtain⟨h1,h2,m1,h3⟩:=declare_ok h (hf nd (mem_cons_self ..)) (by simpa using hx)
   obtain⟨h4,h5,m2,h6⟩:=ih (i+1) _ h1 (fun x hx=>hf x (mem_cons_of_mem _ hx)) h0
   exact⟨h4,h2.trans h5,m1++m2,by rw[h6,h3,append_assoc]⟩
theorem readD_append:∀(a b:List Nd)(i:Nat)(p:PS),(readD i p a).1=(0,0)->readD i p (a++b)=readD (i+a.length) (readD i p a).2 b:=by
 intro a
 induction a with
 |nil=>intro b i p _;rfl
 |cons nd r ih=>
  intro b i p h0
  rw[readD]at h0
  rw[cons_append,readD,readD]
  by_cases hx:(declare p nd).1≠0
  ·rw[if_pos hx]at h0
   exact absurd (congrArg Prod.snd h0) hx
  ·rw[if_neg hx]at h0
   rw[if_neg hx,if_neg hx,ih b (i+1) _ h0,length_cons]
   congr 1
   omega
def digitsOf:Nat->Nat->Nm
 |0,_=>[]
 |f+1,n=>if n<10 then[UInt8.ofNat (48+n)]else digitsOf f (n / 10)++[UInt8.ofNat (48+n % 10)]
def letterText(n:Nat):Nm:=39::UInt8.ofNat (97+n % 26)::(if n / 26=0 then[]else digitsOf 20 (n / 26))
def brackets(b:Bool)(s:Nm):Nm:=if b then 40::s++[41]else s
def wr(σ:TS):Nat->List Nat->Nat->Option (Nm×List Nat)
 |0,_,_=>none
 |n+1,ls,i=>
  if σ.isLetter (σ.root i)then
   match ls.idxOf? (σ.root i)with
   |some k=>some (letterText k,ls)
   |none=>some (letterText ls.length,ls++[σ.root i])
  else if (σ.node (σ.root i)).name=arrowN then
   match (σ.node (σ.root i)).parts with
   |a::b::_=>
    match wr σ n ls a with
    |none=>none
    |some (s1,ls1)=>
     match wr σ n ls1 b with
     |none=>none
     |some (s2,ls2)=>some (brackets ((σ.node (σ.root a)).name==arrowN) s1++[32,45,62,32]++s2,ls2)
   |_=>none
  else
   match wrL (wr σ n) ls (σ.node (σ.root i)).parts with
   |none=>none
   |some (s,ls')=>some ((σ.node (σ.root i)).name++s,ls')
 where
 wrL (g:List Nat->Nat->Option (Nm×List Nat)) (ls:List Nat):List Nat->Option (Nm×List Nat)
  |[]=>some ([],ls)
  |p::r=>
   match g ls p with
   |none=>none
   |some (s1,ls1)=>
    match wrL g ls1 r with
    |none=>none
    |some (s2,ls2)=>some (32::brackets (decide (0<(σ.node (σ.root p)).parts.length)) s1++s2,ls2)
def TS.text(σ:TS)(i:Nat):Nm:=((wr σ wkFuel [] i).getD ([],[])).1
def typeLines(p:PS):List Nm:=p.binds.map fun b=>b.1++[32,58,32]++p.sto.text b.2
section
variable {σ τ:TS}{S:Nat->Prop}
theorem wrL_same{n:Nat}(hr:∀i,S i->τ.root i=σ.root i)(hn:∀i,S i->τ.node (σ.root i)=σ.node (σ.root i))(ih:∀ls i,S i->wr τ n ls i=wr σ n ls i):∀(ps:List Nat)(ls:List Nat),(∀p∈ps,S p)->wr.wrL τ (wr τ n) ls ps=wr.wrL σ (wr σ n) ls ps:=by
 intro ps
 induction ps with
 |nil=>intro ls _;rfl
 |cons p r ihr=>
  intro ls hp
  rw[wr.wrL,wr.wrL,ih ls p (hp p (mem_cons_self ..)),hr p (hp p (mem_cons_self ..)),hn p (hp p (mem_cons_self ..))]
  cases hx:wr σ n ls p with
  |none=>rfl
  |some y=>
   obtain⟨s1,ls1⟩:=y
   simp only
   rw[ihr ls1 fun q hq=>hp q (mem_cons_of_mem _ hq)]
theorem wr_same(hS:OpenSet σ S)(hr:∀i,S i->τ.root i=σ.root i)(hn:∀i,S i->τ.node (σ.root i)=σ.node (σ.root i)):∀(n:Nat)(ls:List Nat)(i:Nat),S i->wr τ n ls i=wr σ n ls i:=by
 intro n
 induction n with
 |zero=>intro ls i _;rfl
 |succ n ih=>
  intro ls i hi
  have hl:τ.isLetter (σ.root i)=σ.isLetter (σ.root i):=by unfold TS.isLetter;rw[hn i hi]
  have hp:=hS.parts i hi
  rw[wr,wr,hr i hi,hl,hn i hi]
  by_cases h1:σ.isLetter (σ.root i)=true
  ·rw[if_pos h1,if_pos h1]
  ·rw[if_neg h1,if_neg h1]
   by_cases h2:(σ.node (σ.root i)).name=arrowN
   ·rw[if_pos h2,if_pos h2]
    match hps:(σ.node (σ.root i)).parts,hp with
    |[],_=>rfl
    |[_],_=>rfl
    |a::b::_,hp=>
     have ha:=hp a (mem_cons_self ..)
     have hb:=hp b (mem_cons_of_mem _ (mem_cons_self ..))
     simp only
     rw[ih ls a ha,hr a ha,hn a ha]
     cases hx:wr σ n ls a with
     |none=>rfl
     |some y=>
      obtain⟨s1,ls1⟩:=y
      simp only
      rw[ih ls1 b hb]
   ·rw[if_neg h2,if_neg h2,wrL_same hr hn ih _ ls hp]
theorem text_same{t:Nat}(hok:σ.Rg)(hc:Closed σ t)(hg:Grow 0 σ τ):τ.text t=σ.text t:=by
 obtain⟨S,hS,ht⟩:=hc
 unfold TS.text
 rw[wr_same hS (fun i hi=>hg.root_old hok (hS.lt i hi)) (fun i hi=>hg.old _ (hok.root_lt (hS.lt i hi))) wkFuel [] t ht]
end
theorem ahead_ok:PSOk ahead where
 rg:=⟨trivial,by decide⟩
 con x m hx:=by simp[ahead,Env.get]at hx
 var x m t hx hm:=by
  have hrg:ahead.sto.Rg:=⟨trivial,by decide⟩
  have hall:∀t,t=3\/t=6\/t=8->Closed ahead.sto t:=by
   rintro t (rfl|rfl|rfl)<;>exact closed_of_pre hrg (by decide) (by decide) (by decide)
  apply hall
  simp only[ahead,Env.get]at hx
  split at hx
  ·cases hx;cases hm;exact inl rfl
  ·split at hx
   ·cases hx;cases hm;exact inr (inl rfl)
   ·split at hx
    ·cases hx;cases hm;exact inr (inr rfl)
    ·simp at hx
 binds b hb:=by cases hb
theorem behind_lines{a b:List Nd}(hf:∀nd∈a++b,DeclFull nd)(ha:(readD 0 ahead a).1=(0,0))(hb:(readD 0 ahead (a++b)).1=(0,0)):∃more,typeLines (readD 0 ahead (a++b)).2=typeLines (readD 0 ahead a).2++more:=by
 rw[readD_append a b 0 ahead ha]at hb ⊢
 obtain⟨h1,_,_⟩:=readD_ok a 0 ahead ahead_ok (fun x hx=>hf x (mem_append.2 (inl hx))) ha
 generalize (readD 0 ahead a).2=p1 at *
 obtain⟨h2,h3,m,h4⟩:=readD_ok b (0+a.length) p1 h1 (fun x hx=>hf x (mem_append.2 (inr hx))) hb
 generalize (readD (0+a.length) p1 b).2=p2 at *
 refine⟨m.map fun b=>b.1++[32,58,32]++p2.sto.text b.2,?_⟩
 unfold typeLines
 rw[h4,map_append]
 congr 1
 refine List.map_congr_left fun x hx=>?_
 rw[text_same h1.rg (h1.binds x hx).1 h3]
end
section
def Lk.fine(s:Lk):Prop:=s.wn=false/\s.wc=false
theorem Lk.name_fine{s:Lk}{b:Bool}(h:(s.name b).fine):s.fine/\b=false:=by
 obtain⟨h1,h2⟩:=h
 unfold Lk.name at h1 h2
 simp only[Bool.or_eq_false_iff]at h1
 exact⟨⟨h1.1,h2⟩,h1.2⟩
def ConOk(ρ:Env)(x:Nd):Prop:=∃m,ρ.get (1,x.txt)=some m/\x.ps.length=m.vr.parts.length
theorem lkParts_fine{ρ:Env}{key:Ky}{cnt:Mg->Nat}{np:Nat}{s:Lk}(h:(lkParts ρ key cnt np s).fine):s.fine/\∃m,ρ.get key=some m/\np=cnt m:=by
 obtain⟨h1,h2⟩:=h
 unfold lkParts at h1 h2
 simp only[Bool.or_eq_false_iff]at h1 h2
 cases hm:ρ.get key with
 |none=>rw[hm]at h1;simp at h1
 |some m=>
  rw[hm]at h2
  refine⟨⟨h1.1,h2.1⟩,m,rfl,?_⟩
  have:=h2.2
  simpa using this
theorem lkCon_fine{ρ:Env}{x:Nd}{s:Lk}(h:(lkCon ρ x s).fine):s.fine/\ConOk ρ x:=lkParts_fine h
theorem foldl_fine{α:Type}{f:Lk->α->Lk}{P:α->Prop}:∀(l:List α)(s:Lk),(∀a∈l,∀s,(f s a).fine->s.fine/\P a)->(l.foldl f s).fine->s.fine/\∀a∈l,P a:=by
 intro l
 induction l with
 |nil=>intro s _ h;exact⟨h,by simp⟩
 |cons a r ih=>
  intro s hf h
  rw[List.foldl_cons]at h
  obtain⟨h1,h2⟩:=ih (f s a) (fun b hb=>hf b (mem_cons_of_mem _ hb)) h
  obtain⟨h3,h4⟩:=hf a (mem_cons_self ..) s h1
  refine⟨h3,fun b hb=>?_⟩
  rcases mem_cons.1 hb with rfl|hb
  ·exact h4
  ·exact h2 b hb
def NmOk:Nat->Env->Nd->Prop
 |0,_,_=>True
 |n+1,ρ,.mk k txt ps=>
  match k,ps with
  |3,_=>(ρ.get (0,txt)).isSome=true
  |5,[a]=>NmOk n (((0,txt),Mg.zero)::ρ) a
  |6,[a,b]=>NmOk n ρ a/\NmOk n (((0,txt),Mg.zero)::ρ) b
  |7,[a,b]=>NmOk n (((0,txt),Mg.zero)::ρ) a/\NmOk n (((0,txt),Mg.zero)::ρ) b
  |16,[p,e]=>(∀x∈p.all,x.k=14->ConOk ρ x)/\NmOk n (bindAll ρ (varsOf p) Mg.zero) e
  |14,ps=>ConOk ρ (.mk 14 txt ps)/\∀p∈ps,NmOk n ρ p
  |_,ps=>∀p∈ps,NmOk n ρ p
theorem lkE_fine:∀(n:Nat)(ρ:Env)(nd:Nd)(s:Lk),(lkE n ρ nd s).fine->s.fine/\NmOk n ρ nd:=by
 intro n
 induction n with
 |zero=>intro ρ nd s h;exact⟨h,trivial⟩
 |succ n ih=>
  intro ρ nd s h
  obtain⟨k,txt,ps⟩:=nd
  unfold lkE at h
  unfold NmOk
  split at h
  ·obtain⟨h1,h2⟩:=Lk.name_fine h
   refine⟨h1,?_⟩
   cases hx:ρ.get (0,txt)with
   |none=>rw[hx]at h2;cases h2
   |some m=>rfl
  ·exact ih _ _ _ h
  ·obtain⟨h1,h2⟩:=ih _ _ _ h
   obtain⟨h3,h4⟩:=ih _ _ _ h1
   exact⟨h3,h4,h2⟩
  ·obtain⟨h1,h2⟩:=ih _ _ _ h
   obtain⟨h3,h4⟩:=ih _ _ _ h1
   exact⟨h3,h4,h2⟩
  ·rename_i p e
   obtain⟨h1,h2⟩:=ih _ _ _ h
   obtain⟨h3,_⟩:=Lk.name_fine h1
   obtain⟨h4,h5⟩:=foldl_fine (P:=fun x=>ConOk ρ x) _ _ (fun a _ s hs=>lkCon_fine hs) h3
   exact⟨h4,fun x hx hk=>h5 x (List.mem_filter.2 ⟨hx,by simpa using hk⟩),h2⟩
  ·obtain⟨h1,h2⟩:=foldl_fine (P:=fun p=>NmOk n ρ p) _ _ (fun a _ s hs=>ih _ _ _ hs) h
   obtain⟨h3,h4⟩:=lkCon_fine h1
   exact⟨h3,h4,h2⟩
  ·obtain⟨h1,h2⟩:=foldl_fine (P:=fun p=>NmOk n ρ p) _ _ (fun a _ s hs=>ih _ _ _ hs) h
   refine⟨h1,?_⟩
   split
   all_goals first|exact h2|(exfalso;simp_all;done)
structure Knows(ρ ρ':Env):Prop where
 var:∀x,(ρ.get (0,x)).isSome=true->(ρ'.get (0,x)).isSome=true
 con:∀x,ρ'.get (1,x)=ρ.get (1,x)
theorem Knows.refl(ρ:Env):Knows ρ ρ:=⟨fun _ h=>h,fun _=>rfl⟩
theorem Knows.bind{ρ ρ':Env}(h:Knows ρ ρ')(x:Nm)(m m':Mg):Knows (((0,x),m)::ρ) (((0,x),m')::ρ'):=by
 refine⟨fun y hy=>?_,fun y=>?_⟩
 ·rw[Env.get]at hy ⊢
  split
  ·rfl
  ·rename_i hne
   rw[if_neg hne]at hy
   exact h.var y hy
 ·rw[get_cons_ne (by simp),get_cons_ne (by simp)];exact h.con y
theorem ConOk.knows{ρ ρ':Env}(h:Knows ρ ρ'){x:Nd}(hc:ConOk ρ x):ConOk ρ' x:=by
 obtain⟨m,h1,h2⟩:=hc
 exact⟨m,by rw[h.con];exact h1,h2⟩
theorem Knows.binds{ρ ρ':Env}(h:Knows ρ ρ')(m:Mg):∀vs:List Nm,Knows (bindAll ρ vs m) (bindAll ρ' vs m):=by
 intro vs
 induction vs generalizing ρ ρ' with
 |nil=>exact h
 |cons v r ih=>exact ih (h.bind v m m)
theorem Knows.bindsT{ρ ρ':Env}(h:Knows ρ ρ')(m:Mg):∀vs:List (Nm×Nat),Knows (bindAll ρ (vs.map Prod.fst) m) (bindTs ρ' vs):=by
 intro vs
 induction vs generalizing ρ ρ' with
 |nil=>exact h
 |cons v r ih=>exact ih (h.bind v.1 m _)
theorem NmOk.knows:∀(n:Nat)(ρ ρ':Env)(nd:Nd),Knows ρ ρ'->NmOk n ρ nd->NmOk n ρ' nd:=by
 intro n
 induction n with
 |zero=>intro _ _ _ _ _;trivial
 |succ n ih=>
  intro ρ ρ' nd hk h
  obtain⟨k,txt,ps⟩:=nd
  unfold NmOk at h ⊢
  split
  ·exact hk.var _ h
  ·exact ih _ _ _ (hk.bind _ _ _) h
  ·exact⟨ih _ _ _ hk h.1,ih _ _ _ (hk.bind _ _ _) h.2⟩
  ·exact⟨ih _ _ _ (hk.bind _ _ _) h.1,ih _ _ _ (hk.bind _ _ _) h.2⟩
  ·exact⟨fun x hx hx2=>(h.1 x hx hx2).knows hk,ih _ _ _ (hk.binds _ _) h.2⟩
  ·exact⟨h.1.knows hk,fun p hp=>ih _ _ _ hk (h.2 p hp)⟩
  ·have h2:∀p∈ps,NmOk n ρ p:=by
    split at h
    all_goals first|exact h|(exfalso;simp_all;done)
   exact fun p hp=>ih _ _ _ hk (h2 p hp)
end
section
def WrOk(ar:Nm->Nat)(ls:List Nm)(q:Nd):Prop:=∀x∈q.all,(x.k=21->x.txt∈ls)/\(x.k=22->x.ps.length=ar x.txt)
structure VrA(ar:Nm->Nat)(v:Vr):Prop where
 len:v.letters.length=ar v.data
 nodup:v.letters.Nodup
 parts:∀q∈v.parts,WrOk ar v.letters q
structure EnvA(ar:Nm->Nat)(ρ:Env):Prop where
 type:∀nm m,ρ.get (2,nm)=some m->m.letters=ar nm
 con:∀c m,ρ.get (1,c)=some m->VrA ar m.vr
theorem lkW_fine{ρ:Env}{ls:List Nm}{l:List Nd}{s:Lk}(h:(lkW ρ ls l s).fine):s.fine/\∀x∈l,(x.k=21->x.txt∈ls)/\(x.k=22->∃m,ρ.get (2,x.txt)=some m/\x.ps.length=m.letters):=by
 refine foldl_fine (P:=fun x=>(x.k=21->x.txt∈ls)/\(x.k=22->∃m,ρ.get (2,x.txt)=some m/\x.ps.length=m.letters)) l s (fun a _ s hs=>?_) h
 split at hs
 ·rename_i hk
  obtain⟨h1,h2⟩:=Lk.name_fine hs
  refine⟨h1,fun _=>by simpa using h2,fun e=>by omega⟩
 ·rename_i hk
  split at hs
  ·obtain⟨h1,h2⟩:=lkParts_fine hs
   exact⟨h1,fun e=>absurd e hk,fun _=>h2⟩
  ·rename_i hk2
   exact⟨hs,fun e=>absurd e hk,fun e=>absurd e hk2⟩
theorem hasTwice_false{l:List Nm}(h:hasTwice l=false):l.Nodup:=by
 unfold hasTwice at h
 simpa using h
theorem lkType_fine{ρ:Env}{txt:Nm}{ps:List Nd}{s:Lk}(h:(lkType ρ txt ps s).fine) :
  s.fine/\ρ.get (2,txt)=none/\((only 19 ps).map Nd.txt).Nodup/\(∀v∈only 20 ps,ρ.get (1,v.txt)=none) /\
   ∀v∈only 20 ps,∀q∈v.ps,∀x∈q.all,(x.k=21->x.txt∈(only 19 ps).map Nd.txt)/\(x.k=22->∃m,Env.get (((2,txt),Mg.type ((only 19 ps).map Nd.txt).length)::ρ) (2,x.txt)=some m/\x.ps.length=m.letters):=by
 unfold lkType at h
 simp only at h
 obtain⟨h1,h2⟩:=foldl_fine (P:=fun v:Nd=>∀q∈v.ps,∀x∈q.all,(x.k=21->x.txt∈(only 19 ps).map Nd.txt)/\(x.k=22->∃m,Env.get (((2,txt),Mg.type ((only 19 ps).map Nd.txt).length)::ρ) (2,x.txt)=some m/\x.ps.length=m.letters)) _ _ (fun v _ s hs=>by
  exact foldl_fine (P:=fun q:Nd=>∀x∈q.all,(x.k=21->x.txt∈(only 19 ps).map Nd.txt)/\(x.k=22->∃m,Env.get (((2,txt),Mg.type ((only 19 ps).map Nd.txt).length)::ρ) (2,x.txt)=some m/\x.ps.length=m.letters)) _ _ (fun q _ s hs=>lkW_fine hs) hs) h
 obtain⟨h3,h4⟩:=foldl_fine (P:=fun c:Nm=>ρ.get (1,c)=none) _ _ (fun c _ s hs=>by
  obtain⟨a,b⟩:=Lk.name_fine hs
  refine⟨a,?_⟩
  cases hx:ρ.get (1,c)with
  |none=>rfl
  |some m=>rw[hx]at b;cases b) h1
 obtain⟨h5,h6⟩:=Lk.name_fine h3
 simp only[Bool.or_eq_false_iff]at h6
 refine⟨h5,?_,hasTwice_false h6.1.2,fun v hv=>h4 _ (List.mem_map.2 ⟨v,hv,rfl⟩),h2⟩
 cases hx:ρ.get (2,txt)with
 |none=>rfl
 |some m=>rw[hx]at h6;simp at h6
theorem declareType_get{txt:Nm}{ls:List Nm}{k:Nat}{x:Nm}:∀(vs:List Nd)(ρ:Env)(m:Mg),Env.get (vs.foldl (fun ρ v=>(((1,v.txt),Mg.con ⟨txt,ls,v.ps,k⟩)::ρ:Env)) ρ) (1,x)=some m->(∃v∈vs,m=Mg.con ⟨txt,ls,v.ps,k⟩)\/ρ.get (1,x)=some m:=by
 intro vs
 induction vs with
 |nil=>intro ρ m h;exact inr h
 |cons v r ih=>
  intro ρ m h
  rw[List.foldl_cons]at h
  rcases ih _ m h with⟨u,hu,h1⟩|h1
  ·exact inl ⟨u,mem_cons_of_mem _ hu,h1⟩
  ·rw[Env.get]at h1
   split at h1
   ·exact inl ⟨v,mem_cons_self ..,(Option.some.inj h1).symm⟩
   ·exact inr h1
theorem declareType_type{txt:Nm}{ls:List Nm}{k:Nat}{x:Nm}:∀(vs:List Nd)(ρ:Env),Env.get (vs.foldl (fun ρ v=>(((1,v.txt),Mg.con ⟨txt,ls,v.ps,k⟩)::ρ:Env)) ρ) (2,x)=ρ.get (2,x):=by
 intro vs
 induction vs with
 |nil=>intro ρ;rfl
 |cons v r ih=>intro ρ;rw[List.foldl_cons,ih,get_cons_ne (by simp)]
theorem declareType_envA{ar:Nm->Nat}{ρ:Env}{txt:Nm}{ps:List Nd}{s:Lk}(h:EnvA ar ρ)(hf:(lkType ρ txt ps s).fine)(ha:ar txt=(only 19 ps).length):EnvA ar (declareType ρ txt ps):=by
 obtain⟨_,h1,h2,_,h4⟩:=lkType_fine hf
 have hty:∀nm m,Env.get (((2,txt),Mg.type ((only 19 ps).map Nd.txt).length)::ρ) (2,nm)=some m->m.letters=ar nm:=by
  intro nm m hm
  rw[Env.get]at hm
  split at hm
  ·rename_i e
   cases hm
   have e:nm=txt:=(Prod.mk.inj e).2
   rw[e,ha]
   simp[Mg.type]
  ·exact h.type nm m hm
 refine⟨fun nm m hm=>?_,fun c m hm=>?_⟩
 ·unfold declareType at hm
  rw[declareType_type]at hm
  exact hty nm m hm
 ·unfold declareType at hm
  rcases declareType_get _ _ m hm with⟨v,hv,rfl⟩|hm
  ·refine⟨by rw[show (Mg.con _).vr.data=txt from rfl,ha];simp[Mg.con],h2,fun q hq x hx=>?_⟩
   obtain⟨h5,h6⟩:=h4 v hv q hq x hx
   refine⟨h5,fun hk=>?_⟩
   obtain⟨m',hm',hl⟩:=h6 hk
   rw[hl];exact hty _ _ hm'
  ·rw[get_cons_ne (by simp)]at hm
   exact h.con c m hm
def arOf(l:List Nd)(nm:Nm):Nat:=
 if nm=arrowN then 2 else if nm=refN then 1 else if nm=intN\/nm=boolN\/nm=unitN then 0
 else match l.find? (fun d=>d.k==18 && d.txt==nm)with
  |some d=>(only 19 d.ps).length
  |none=>1000000
def TypesKnown(ρ:Env)(l:List Nd):Prop:=(∀nm,nm=refN\/nm=intN\/nm=boolN\/nm=unitN->(ρ.get (2,nm)).isSome=true)/\∀d∈l,d.k=18->(ρ.get (2,d.txt)).isSome=true
theorem arOf_here{a b:List Nd}{d:Nd}{ρ:Env}(hk:d.k=18)(hn:ρ.get (2,d.txt)=none)(ht:TypesKnown ρ a)(hne:d.txt≠arrowN):arOf (a++d::b) d.txt=(only 19 d.ps).length:=by
 have hpre:¬(d.txt=refN\/d.txt=intN\/d.txt=boolN\/d.txt=unitN):=fun e=>by
  have:=ht.1 _ e
  rw[hn]at this;cases this
 unfold arOf
 rw[if_neg hne,if_neg (fun e=>hpre (inl e)),if_neg (fun e=>hpre (inr e)),List.find?_append]
 have hnone:a.find? (fun x=>x.k==18 && x.txt==d.txt)=none:=by
  rw[List.find?_eq_none]
  intro x hx hc
  simp only[Bool.and_eq_true,beq_iff_eq]at hc
  have:=ht.2 x hx hc.1
  rw[hc.2,hn]at this;cases this
 rw[hnone]
 simp[hk]
end
end Go.Proofs.YtcbppnefeonmgaaGreatDoor
