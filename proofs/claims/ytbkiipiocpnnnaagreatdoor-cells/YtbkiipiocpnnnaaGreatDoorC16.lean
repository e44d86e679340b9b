import Derived.Test.YtbkiipiocpnnnaaGreatDoorC4
set_option linter.all false
set_option maxHeartbeats 40000000
set_option maxRecDepth 100000
open Or (inl inr)
open Nat (le_refl le_trans lt_of_lt_of_le)
open List (mem_cons_self mem_cons_of_mem mem_append mem_singleton cons_append mem_cons)
namespace Go.Proofs.YtbkiipiocpnnnaaGreatDoor
section
structure OpenSet(σ:TS)(S:Nat->Prop):Prop where
 lt:∀i,S i->i<σ.nodes.length
 root:∀i,S i->S (σ.root i)
 letter:∀i,S i->σ.isLetter (σ.root i)=true->σ.depth (σ.root i)=openD
 parts:∀i,S i->∀p∈(σ.node (σ.root i)).parts,S p
structure Grow(dm:Nat)(σ0 σ:TS):Prop where
 len:σ0.nodes.length<=σ.nodes.length
 old:∀i,i<σ0.nodes.length->σ.node i=σ0.node i
 fnd:∃ext,σ.fnd=ext++σ0.fnd/\∀x∈ext,σ0.nodes.length<=x.1/\σ0.nodes.length<=x.2
 parts:∀i,σ0.nodes.length<=i->∀p∈(σ.node i).parts,σ0.nodes.length<=p
 deep:∀i,σ0.nodes.length<=i->i<σ.nodes.length->σ.isLetter i=true->dm<=σ.depth i
 rg:σ.Rg
theorem TS.node_out{σ:TS}{i:Nat}(h:σ.nodes.length<=i):σ.node i=⟨[],[],0⟩:=by
 unfold TS.node;rw[List.getElem?_eq_none h];rfl
theorem Grow.refl(dm:Nat){σ:TS}(h:σ.Rg):Grow dm σ σ:=
 ⟨le_refl _,fun _ _=>rfl,⟨[],rfl,by simp⟩,fun i hi p hp=>(by rw[TS.node_out hi]at hp;cases hp),fun i h1 h2=>(by omega),h⟩
section
variable {dm:Nat}{σ0 σ:TS}
theorem rootL_ext_old{n0:Nat}{b:List (Nat×Nat)}{i:Nat}(hi:rootL b i<n0):∀ext:List (Nat×Nat),(∀x∈ext,n0<=x.1/\n0<=x.2)->rootL (ext++b) i=rootL b i:=by
 intro ext
 induction ext with
 |nil=>intro _;rfl
 |cons x r ih=>
  obtain⟨t,o⟩:=x
  intro h
  rw[cons_append,rootL,ih fun y hy=>h y (mem_cons_of_mem _ hy)]
  rw[if_neg]
  have:=(h (t,o) (mem_cons_self ..)).1
  simp only at this
  omega
theorem rootL_ext_new{n0:Nat}{b:List (Nat×Nat)}{i:Nat}(hi:n0<=rootL b i):∀ext:List (Nat×Nat),(∀x∈ext,n0<=x.1/\n0<=x.2)->n0<=rootL (ext++b) i:=by
 intro ext
 induction ext with
 |nil=>intro _;exact hi
 |cons x r ih=>
  obtain⟨t,o⟩:=x
  intro h
  have h1:=ih fun y hy=>h y (mem_cons_of_mem _ hy)
  rw[cons_append,rootL]
  split
  ·exact(h (t,o) (mem_cons_self ..)).2
  ·exact h1
theorem Grow.root_old(h:Grow dm σ0 σ)(hok:σ0.Rg){i:Nat}(hi:i<σ0.nodes.length):σ.root i=σ0.root i:=by
 obtain⟨ext,he,hx⟩:=h.fnd
 unfold TS.root
 rw[he]
 exact rootL_ext_old (rootL_lt hok.fnd hi) ext hx
theorem Grow.root_new(h:Grow dm σ0 σ)(hok:σ0.Rg){i:Nat}(hi:σ0.nodes.length<=i):σ0.nodes.length<=σ.root i:=by
 obtain⟨ext,he,hx⟩:=h.fnd
 unfold TS.root
 rw[he]
 exact rootL_ext_new (by rw[rootL_out hok.fnd hi];exact hi) ext hx
theorem Grow.new(h:Grow dm σ0 σ){t:TN}(hp:∀p∈t.parts,σ0.nodes.length<=p/\p<σ.nodes.length)(hd:t.name=[]->dm<=t.depth):Grow dm σ0 (σ.new t).2 where
 len:=by rw[TS.new_len];have:=h.len;omega
 old i hi:=by rw[TS.new_node,if_neg (by have:=h.len;omega)];exact h.old i hi
 fnd:=h.fnd
 parts i hi p hp':=by
  rw[TS.new_node]at hp'
  split at hp'
  ·exact(hp p hp').1
  ·exact h.parts i hi p hp'
 deep i h1 h2 h3:=by
  rw[TS.new_len]at h2
  unfold TS.depth TS.isLetter at *
  rw[TS.new_node]at h3 ⊢
  split
  ·rename_i e
   rw[if_pos e]at h3
   exact hd (by simpa using h3)
  ·rename_i e
   rw[if_neg e]at h3
   exact h.deep i h1 (by omega) h3
 rg:=h.rg.new fun p hp'=>(hp p hp').2
theorem Grow.letter(h:Grow dm σ0 σ){d:Nat}(hd:dm<=d):Grow dm σ0 (σ.letter d).2:=h.new (by simp) (fun _=>hd)
theorem Grow.named(h:Grow dm σ0 σ){nm:Nm}{ps:List Nat}(hn:nm≠[])(hp:∀p∈ps,σ0.nodes.length<=p/\p<σ.nodes.length):Grow dm σ0 (σ.named nm ps).2:=h.new hp (fun e=>absurd e hn)
theorem Grow.give(h:Grow dm σ0 σ)(i:Nat):Grow dm σ0 (σ.give i):=⟨h.len,h.old,h.fnd,h.parts,h.deep,h.rg.give i⟩
theorem Grow.setDepth(h:Grow dm σ0 σ){j d:Nat}(hj:σ0.nodes.length<=j)(hd:dm<=d):Grow dm σ0 (σ.setDepth j d) where
 len:=by rw[(Alike.setDepth σ j d).len];exact h.len
 old i hi:=by rw[TS.setDepth_node,if_neg (by omega)];exact h.old i hi
 fnd:=h.fnd
 parts i hi p hp:=by rw[(Alike.setDepth σ j d).parts]at hp;exact h.parts i hi p hp
 deep i h1 h2 h3:=by
  rw[(Alike.setDepth σ j d).isLetter]at h3
  rw[(Alike.setDepth σ j d).len]at h2
  rw[TS.setDepth_depth]
  split
  ·exact hd
  ·exact h.deep i h1 h2 h3
 rg:=h.rg.alike (Alike.setDepth _ _ _)
theorem Grow.found(h:Grow dm σ0 σ){t o:Nat}(ht:σ0.nodes.length<=t)(ho:σ0.nodes.length<=o)(hr:(σ.found t o).Rg):Grow dm σ0 (σ.found t o) where
 len:=h.len
 old:=h.old
 fnd:=by
  obtain⟨ext,he,hx⟩:=h.fnd
  refine⟨(t,o)::ext,by show (t,o)::σ.fnd=_;rw[he];rfl,fun x hx'=>?_⟩
  rcases mem_cons.1 hx' with rfl|h'
  ·exact⟨ht,ho⟩
  ·exact hx x h'
 parts:=h.parts
 deep:=h.deep
 rg:=hr
theorem wkL_new{n0:Nat}{g:List Nat->Nat->Option (List Nat×Bool)}:∀{ps:List Nat}{acc acc':List Nat}{b:Bool},wk.wkL g acc ps=some (acc',b)->(∀p∈ps,∀a a' b,g a p=some (a',b)->∀x∈a',x∈a\/n0<=x)->∀x∈acc',x∈acc\/n0<=x:=by
 intro ps
 induction ps with
 |nil=>intro acc acc' b h _ x hx;rw[wk.wkL]at h;cases h;exact inl hx
 |cons p r ih=>
  intro acc acc' b h hp x hx
  rw[wk.wkL]at h
  cases hg:g acc p with
  |none=>rw[hg]at h;cases h
  |some y=>
   obtain⟨a1,b1⟩:=y
   rw[hg]at h
   have h1:=hp p (mem_cons_self ..) _ _ _ hg
   cases b1 with
   |false=>cases h;exact h1 x hx
   |true=>
    rcases ih h (fun q hq=>hp q (mem_cons_of_mem _ hq)) x hx with h2|h2
    ·exact h1 x h2
    ·exact inr h2
theorem wk_new{T:List Nat->Nat->Bool}(h:Grow dm σ0 σ)(hok:σ0.Rg):∀{n:Nat}{acc acc':List Nat}{i:Nat}{b:Bool},σ0.nodes.length<=i->wk σ T n acc i=some (acc',b)->∀x∈acc',x∈acc\/σ0.nodes.length<=x:=by
 intro n
 induction n with
 |zero=>intro acc acc' i b _ h;cases h
 |succ n ih=>
  intro acc acc' i b hi hw x hx
  have hr:=h.root_new hok hi
  rw[wk]at hw
  split at hw
  ·rcases wkL_new hw (fun p hp a a' b hg=>ih (h.parts _ hr p hp) hg) x hx with h2|h2
   ·rcases mem_append.1 h2 with h3|h3
    ·exact inl h3
    ·rw[mem_singleton.1 h3];exact inr hr
   ·exact inr h2
  ·cases hw
   rcases mem_append.1 hx with h3|h3
   ·exact inl h3
   ·rw[mem_singleton.1 h3];exact inr hr
theorem Grow.pre_new(h:Grow dm σ0 σ)(hok:σ0.Rg){i:Nat}(hi:σ0.nodes.length<=i)(hf:σ.fits i=true):∀x∈σ.pre i,σ0.nodes.length<=x:=fun x hx=>by
 rcases wk_new h hok hi (TS.fits_pre hf) x hx with h|h
 ·cases h
 ·exact h
theorem Grow.lower(h:Grow dm σ0 σ){t:Nat}(ht:σ0.nodes.length<=t)(htl:t<σ.nodes.length)(hlet:σ.isLetter t=true):∀(l:List Nat),(∀x∈l,σ0.nodes.length<=x/\x<σ.nodes.length)->Grow dm σ0 (lower σ t l):=by
 intro l
 induction l generalizing σ with
 |nil=>intro _;exact h
 |cons j r ih=>
  intro hl
  unfold Go.Proofs.YtbkiipiocpnnnaaGreatDoor.lower
  rw[List.foldl_cons]
  split
  ·rename_i hj
   have hj1:=hl j (mem_cons_self ..)
   have h1:=h.deep j hj1.1 hj1.2 hj
   have h2:=h.deep t ht htl hlet
   refine ih (σ:=σ.setDepth j (min (σ.depth j) (σ.depth t))) (h.setDepth hj1.1 (by omega)) ?_ ?_ ?_
   ·rw[(Alike.setDepth _ _ _).len];exact htl
   ·rw[(Alike.setDepth _ _ _).isLetter];exact hlet
   ·intro x hx;rw[(Alike.setDepth _ _ _).len];exact hl x (mem_cons_of_mem _ hx)
  ·exact ih h htl hlet fun x hx=>hl x (mem_cons_of_mem _ hx)
theorem Grow.openAll(h:Grow dm σ0 σ)(hdm:dm<=openD)(d:Nat):∀(l:List Nat),(∀x∈l,σ0.nodes.length<=x)->Grow dm σ0 (opened σ d l):=by
 intro l
 induction l generalizing σ with
 |nil=>intro _;exact h
 |cons j r ih=>
  intro hl
  unfold opened
  rw[List.foldl_cons]
  split
  ·exact ih (h.setDepth (hl j (mem_cons_self ..)) hdm) fun x hx=>hl x (mem_cons_of_mem _ hx)
  ·exact ih h fun x hx=>hl x (mem_cons_of_mem _ hx)
structure Step(dm:Nat)(σ0 σ σ':TS):Prop where
 grow:Grow dm σ0 σ'
 le:σ.nodes.length<=σ'.nodes.length
theorem Step.trans{a b c:TS}(h:Step dm σ0 a b)(k:Step dm σ0 b c):Step dm σ0 a c:=⟨k.grow,le_trans h.le k.le⟩
def NewT(σ0 σ:TS)(t:Nat):Prop:=σ0.nodes.length<=t/\t<σ.nodes.length
theorem NewT.mono{σ':TS}{t:Nat}(h:NewT σ0 σ t)(hl:σ.nodes.length<=σ'.nodes.length):NewT σ0 σ' t:=⟨h.1,lt_of_lt_of_le h.2 hl⟩
theorem Grow.newT(h:Grow dm σ0 σ)(t:TN):NewT σ0 (σ.new t).2 σ.nodes.length:=⟨h.len,by rw[TS.new_len];omega⟩
theorem Grow.root_newT(h:Grow dm σ0 σ)(hok:σ0.Rg){i:Nat}(hi:NewT σ0 σ i):NewT σ0 σ (σ.root i):=⟨h.root_new hok hi.1,h.rg.root_lt hi.2⟩
theorem Grow.part_newT(h:Grow dm σ0 σ){i p:Nat}(hi:NewT σ0 σ i)(hp:p∈(σ.node i).parts):NewT σ0 σ p:=⟨h.parts i hi.1 p hp,h.rg.part_lt hi.2 hp⟩
theorem standFor_grow(h:Grow dm σ0 σ)(hok:σ0.Rg){t o:Nat}{σ':TS}(ht:NewT σ0 σ t)(ho:NewT σ0 σ o)(hl:σ.isLetter t=true)(h1:σ.root t=t)(h2:σ.root o=o)(hne:t≠o)(hs:σ.standFor t o=some σ'):Step dm σ0 σ σ':=by
 rw[TS.standFor_eq]at hs
 split at hs
 ·rename_i hc
  rw[Bool.and_eq_true]at hc
  cases hs
  have hal:=lower_alike (σ.pre o) σ t
  have hpm:=h.rg.pre_mem ho.2 hc.1
  have hpn:=h.pre_new hok ho.1 hc.1
  have hg:=h.lower ht.1 ht.2 hl (σ.pre o) (fun x hx=>⟨hpn x hx,(hpm x hx).1⟩)
  refine⟨hg.found ht.1 ho.1 (hg.rg.found (by rw[hal.len];exact ht.2) (by rw[hal.len];exact ho.2) (by rw[hal.isLetter];exact hl) (by rw[hal.root];exact h1) (by rw[hal.root];exact h2) hne),?_⟩
  show σ.nodes.length<=(Go.Proofs.YtbkiipiocpnnnaaGreatDoor.lower σ t (σ.pre o)).nodes.length
  rw[hal.len];exact le_refl _
 ·cases hs
theorem unL_grow{g:TS->Nat->Nat->Nat->Option (TS×Nat)}(hg:∀σ pl a b σ' pl',Grow dm σ0 σ->NewT σ0 σ a->NewT σ0 σ b->g σ pl a b=some (σ',pl')->Step dm σ0 σ σ') :
  ∀(az bs:List Nat)(σ:TS)(pl:Nat)(σ':TS)(pl':Nat),Grow dm σ0 σ->(∀a∈az,NewT σ0 σ a)->(∀b∈bs,NewT σ0 σ b)->un.unL g σ pl az bs=some (σ',pl')->Step dm σ0 σ σ':=by
 intro az
 induction az with
 |nil=>intro bs σ pl σ' pl' h _ _ hs;rw[un.unL]at hs;cases hs;exact⟨h,le_refl _⟩;intro _ _ _ _ h;cases h
 |cons a az ih=>
  intro bs σ pl σ' pl' h ha hb hs
  cases bs with
  |nil=>rw[un.unL]at hs;cases hs;exact⟨h,le_refl _⟩;intro _ _ _ _ _ h;cases h
  |cons b bs=>
   rw[un.unL]at hs
   cases hgx:g σ pl a b with
   |none=>rw[hgx]at hs;cases hs
   |some x=>
    obtain⟨σ1,pl1⟩:=x
    rw[hgx]at hs
    have s1:=hg σ pl a b σ1 pl1 h (ha a (mem_cons_self ..)) (hb b (mem_cons_self ..)) hgx
    exact s1.trans (ih bs σ1 pl1 σ' pl' s1.grow (fun x hx=>(ha x (mem_cons_of_mem _ hx)).mono s1.le) (fun x hx=>(hb x (mem_cons_of_mem _ hx)).mono s1.le) hs)
theorem un_grow(hok:σ0.Rg):∀(n:Nat)(σ:TS)(pl a b:Nat)(σ':TS)(pl':Nat),Grow dm σ0 σ->NewT σ0 σ a->NewT σ0 σ b->un n σ pl a b=some (σ',pl')->Step dm σ0 σ σ':=by
 intro n
 induction n with
 |zero=>intro σ pl a b σ' pl' _ _ _ hs;cases hs
 |succ n ih=>
  intro σ pl a b σ' pl' h ha hb hs
  have ra:=h.root_newT hok ha
  have rb:=h.root_newT hok hb
  have rra:=h.rg.root_root a
  have rrb:=h.rg.root_root b
  rw[un]at hs
  split at hs
  ·cases hs;exact⟨h,le_refl _⟩
  ·rename_i hne
   split at hs
   ·cases hs
   ·split at hs
    ·rename_i hl
     cases hx:σ.standFor (σ.root a) (σ.root b)with
     |none=>rw[hx]at hs;cases hs
     |some y=>rw[hx]at hs;cases hs;exact standFor_grow h hok ra rb hl rra rrb hne hx
    ·split at hs
     ·rename_i hl
      cases hx:σ.standFor (σ.root b) (σ.root a)with
      |none=>rw[hx]at hs;cases hs
      |some y=>rw[hx]at hs;cases hs;exact standFor_grow h hok rb ra hl rrb rra (Ne.symm hne) hx
     ·split at hs
      ·exact unL_grow (fun σ pl a b σ' pl' h1 h2 h3 h4=>ih σ pl a b σ' pl' h1 h2 h3 h4) _ _ _ _ _ _ h (fun p hp=>h.part_newT ra hp) (fun p hp=>h.part_newT rb hp) hs
      ·cases hs
theorem unify_grow(hok:σ0.Rg){a b:Nat}{σ':TS}(h:Grow dm σ0 σ)(ha:NewT σ0 σ a)(hb:NewT σ0 σ b)(hs:σ.unify a b=some σ'):Step dm σ0 σ σ':=by
 unfold TS.unify at hs
 cases hx:un wkFuel σ 0 a b with
 |none=>rw[hx]at hs;cases hs
 |some y=>
  obtain⟨y1,y2⟩:=y
  rw[hx]at hs
  cases hs
  exact un_grow hok _ _ _ _ _ _ _ h ha hb hx
end
end
section
section
variable {dm:Nat}{σ0 σ:TS}
def MayT(σ0 σ:TS)(i:Nat):Prop:=NewT σ0 σ i\/∃S,OpenSet σ0 S/\S i
theorem MayT.mono{σ':TS}{t:Nat}(h:MayT σ0 σ t)(hl:σ.nodes.length<=σ'.nodes.length):MayT σ0 σ' t:=by
 rcases h with h|h
 ·exact inl (h.mono hl)
 ·exact inr h
theorem instL_grow{g:TS->List (Nat×Nat)->Nat->Option (Nat×TS×List (Nat×Nat))}
  (hg:∀σ m i j σ' m',Grow dm σ0 σ->(∀x∈m,NewT σ0 σ x.2)->MayT σ0 σ i->g σ m i=some (j,σ',m')->Step dm σ0 σ σ'/\NewT σ0 σ' j/\∀x∈m',NewT σ0 σ' x.2) :
  ∀(ps:List Nat) (σ:TS) (m:List (Nat×Nat)) (js:List Nat) (σ':TS) (m':List (Nat×Nat)),Grow dm σ0 σ->(∀x∈m,NewT σ0 σ x.2)->(∀p∈ps,MayT σ0 σ p)->inst.instL g σ m ps=some (js,σ',m') ->
   Step dm σ0 σ σ'/\(∀j∈js,NewT σ0 σ' j)/\∀x∈m',NewT σ0 σ' x.2:=by
 intro ps
 induction ps with
 |nil=>intro σ m js σ' m' h hm _ hs;rw[inst.instL]at hs;cases hs;exact⟨⟨h,le_refl _⟩,by simp,hm⟩
 |cons p r ih=>
  intro σ m js σ' m' h hm hp hs
  rw[inst.instL]at hs
  cases hx:g σ m p with
  |none=>rw[hx]at hs;cases hs
  |some y=>
   obtain⟨j,σ1,m1⟩:=y
   rw[hx]at hs
   obtain⟨s1,n1,k1⟩:=hg σ m p j σ1 m1 h hm (hp p (mem_cons_self ..)) hx
   simp only at hs
   cases hy:inst.instL g σ1 m1 r with
   |none=>rw[hy]at hs;cases hs
   |some z=>
    obtain⟨js2,σ2,m2⟩:=z
    rw[hy]at hs
    cases hs
    obtain⟨s2,n2,k2⟩:=ih σ1 m1 js2 σ' m' s1.grow k1 (fun q hq=>(hp q (mem_cons_of_mem _ hq)).mono s1.le) hy
    refine⟨s1.trans s2,fun x hx'=>?_,k2⟩
    rcases mem_cons.1 hx' with rfl|hx'
    ·exact n1.mono s2.le
    ·exact n2 x hx'
theorem lookup_mem{m:List (Nat×Nat)}{k j:Nat}(h:m.lookup k=some j):(k,j)∈m:=by
 induction m with
 |nil=>cases h
 |cons x r ih=>
  obtain⟨a,b⟩:=x
  rw[List.lookup_cons]at h
  split at h
  ·rename_i hk
   have:k=a:=by simpa using hk
   cases h;subst this;exact mem_cons_self ..
  ·exact mem_cons_of_mem _ (ih h)
theorem inst_grow(hok:σ0.Rg){d:Nat}(hd:dm<=d):∀(n:Nat) (σ:TS) (m:List (Nat×Nat)) (i j:Nat) (σ':TS) (m':List (Nat×Nat)),Grow dm σ0 σ->(∀x∈m,NewT σ0 σ x.2)->MayT σ0 σ i->inst d n σ m i=some (j,σ',m') ->
  Step dm σ0 σ σ'/\NewT σ0 σ' j/\∀x∈m',NewT σ0 σ' x.2:=by
 intro n
 induction n with
 |zero=>intro σ m i j σ' m' _ _ _ hs;cases hs
 |succ n ih=>
  intro σ m i j σ' m' h hm hi hs
  rw[inst]at hs
  split at hs
  ·rename_i hl
   split at hs
   ·rename_i hd2
    cases hs
    refine⟨⟨h,le_refl _⟩,?_,hm⟩
    rcases hi with hi|⟨S,hS,hSi⟩
    ·exact h.root_newT hok hi
    ·have hlt:=hS.lt i hSi
     have hr:=h.root_old hok hlt
     have hrl:=hok.root_lt hlt
     rw[hr]at hd2 hl
     exfalso
     apply hd2
     have:σ.depth (σ0.root i)=σ0.depth (σ0.root i):=by unfold TS.depth;rw[h.old _ hrl]
     rw[this]
     refine hS.letter i hSi ?_
     unfold TS.isLetter at hl ⊢
     rw[h.old _ hrl]at hl
     exact hl
   ·split at hs
    ·rename_i j2 hj2
     cases hs
     exact⟨⟨h,le_refl _⟩,hm _ (lookup_mem hj2),hm⟩
    ·cases hs
     have hle:σ.nodes.length<=(σ.letter d).2.nodes.length:=by unfold TS.letter;rw[TS.new_len];omega
     refine⟨⟨h.letter hd,hle⟩,h.newT _,fun x hx=>?_⟩
     rcases mem_append.1 hx with hx|hx
     ·exact(hm x hx).mono hle
     ·rw[mem_singleton.1 hx];exact h.newT _
  ·rename_i hl
   have hl:σ.isLetter (σ.root i)=false:=by simpa using hl
   cases hx:inst.instL (inst d n) σ m (σ.node (σ.root i)).parts with
   |none=>rw[hx]at hs;cases hs
   |some y=>
    obtain⟨js,σ1,m1⟩:=y
    rw[hx]at hs
    cases hs
    have hp:∀p∈(σ.node (σ.root i)).parts,MayT σ0 σ p:=by
     intro p hp
     rcases hi with hi|⟨S,hS,hSi⟩
     ·exact inl (h.part_newT (h.root_newT hok hi) hp)
     ·have hlt:=hS.lt i hSi
      have hr:=h.root_old hok hlt
      rw[hr,h.old _ (hok.root_lt hlt)]at hp
      exact inr ⟨S,hS,hS.parts i hSi p hp⟩
    obtain⟨s1,n1,k1⟩:=instL_grow (fun σ m i j σ' m' h1 h2 h3 h4=>ih σ m i j σ' m' h1 h2 h3 h4) _ _ _ _ _ _ h hm hp hx
    have hname:(σ.node (σ.root i)).name≠[]:=by
     intro e
     unfold TS.isLetter at hl
     rw[e]at hl
     simp at hl
    have hle:σ1.nodes.length<=(σ1.named (σ.node (σ.root i)).name js).2.nodes.length:=by unfold TS.named;rw[TS.new_len];omega
    exact⟨⟨s1.grow.named hname n1,le_trans s1.le hle⟩,s1.grow.newT _,fun x hx=>(k1 x hx).mono hle⟩
theorem named_step(h:Grow dm σ0 σ){nm:Nm}(hn:nm≠[]){ps:List Nat}(hp:∀p∈ps,NewT σ0 σ p):Step dm σ0 σ (σ.named nm ps).2/\NewT σ0 (σ.named nm ps).2 σ.nodes.length:=
 ⟨⟨h.named hn hp,by unfold TS.named;rw[TS.new_len];omega⟩,h.newT _⟩
theorem letter_step(h:Grow dm σ0 σ){d:Nat}(hd:dm<=d):Step dm σ0 σ (σ.letter d).2/\NewT σ0 (σ.letter d).2 σ.nodes.length:=
 ⟨⟨h.letter hd,by unfold TS.letter;rw[TS.new_len];omega⟩,h.newT _⟩
theorem give_step(h:Grow dm σ0 σ)(i:Nat):Step dm σ0 σ (σ.give i):=⟨h.give i,le_refl _⟩
def TyFull(q:Nd):Prop:=∀x∈q.all,x.k≠21->x.k≠23->x.txt≠[]
theorem alls_mem{p:Nd}:∀{ps:List Nd},p∈ps->∀x∈p.all,x∈Nd.all.alls ps:=by
 intro ps
 induction ps with
 |nil=>intro h;cases h
 |cons q r ih=>
  intro h x hx
  rw[Nd.all.alls]
  rcases mem_cons.1 h with rfl|h
  ·exact mem_append.2 (inl hx)
  ·exact mem_append.2 (inr (ih h x hx))
theorem Nd.all_eq(k:Nat)(txt:Nm)(ps:List Nd):(Nd.mk k txt ps).all=.mk k txt ps::Nd.all.alls ps:=by rw[Nd.all]
theorem TyFull.part{k:Nat}{txt:Nm}{ps:List Nd}{p:Nd}(h:TyFull (.mk k txt ps))(hp:p∈ps):TyFull p:=fun x hx=>h x (by rw[Nd.all_eq];exact mem_cons_of_mem _ (alls_mem hp x hx))
theorem arrow_ne:arrowN≠[]:=by decide
theorem refN_ne:refN≠[]:=by decide
theorem plainN_ne(k:Nat):plainN k≠[]:=by unfold plainN;split;decide;split<;>decide
theorem writtenL_grow{g:Nd->TS->Nat×TS}{L:Nat}:∀(ps:List Nd)(σ:TS),(∀p∈ps,∀σ,Grow dm σ0 σ->L<=σ.nodes.length->Step dm σ0 σ (g p σ).2/\(NewT σ0 (g p σ).2 (g p σ).1))->Grow dm σ0 σ->L<=σ.nodes.length ->
  Step dm σ0 σ (written.writtenL g ps σ).2/\∀j∈(written.writtenL g ps σ).1,NewT σ0 (written.writtenL g ps σ).2 j:=by
 intro ps
 induction ps with
 |nil=>intro σ _ h _;rw[written.writtenL];exact⟨⟨h,le_refl _⟩,by simp⟩
 |cons p r ih=>
  intro σ hp h hL
  rw[written.writtenL]
  obtain⟨s1,n1⟩:=hp p (mem_cons_self ..) σ h hL
  obtain⟨s2,n2⟩:=ih (g p σ).2 (fun q hq=>hp q (mem_cons_of_mem _ hq)) s1.grow (le_trans hL s1.le)
  refine⟨s1.trans s2,fun j hj=>?_⟩
  rcases mem_cons.1 hj with rfl|hj
  ·exact n1.mono s2.le
  ·exact n2 j hj
theorem lookup_memN{m:List (Nm×Nat)}{k:Nm}{j:Nat}(h:m.lookup k=some j):(k,j)∈m:=by
 induction m with
 |nil=>cases h
 |cons x r ih=>
  obtain⟨a,b⟩:=x
  rw[List.lookup_cons]at h
  split at h
  ·rename_i hk
   have:k=a:=by simpa using hk
   cases h;subst this;exact mem_cons_self ..
  ·exact mem_cons_of_mem _ (ih h)
theorem boolN_ne:boolN≠[]:=by decide
theorem written_grow{ch:List (Nm×Nat)}:∀(n:Nat)(q:Nd)(σ:TS),TyFull q->Grow dm σ0 σ->(∀x∈ch,NewT σ0 σ x.2)->Step dm σ0 σ (written n ch q σ).2/\NewT σ0 (written n ch q σ).2 (written n ch q σ).1:=by
 intro n
 induction n with
 |zero=>intro q σ _ h _;rw[written];exact named_step h boolN_ne (by simp)
 |succ n ih=>
  intro q σ hf h hc
  obtain⟨k,txt,ps⟩:=q
  rw[written]
  split
  ·split
   ·rename_i j hj
    exact⟨⟨h,le_refl _⟩,hc _ (lookup_memN hj)⟩
   ·exact named_step h boolN_ne (by simp)
  ·rename_i hk
   obtain⟨s1,n1⟩:=writtenL_grow (g:=written n ch) (L:=σ.nodes.length) ps σ (fun p hp τ hτ hL=>ih p τ (hf.part hp) hτ fun x hx=>(hc x hx).mono hL) h (le_refl _)
   simp only
   split
   ·split
    ·rename_i a b hab
     rw[hab]at n1
     obtain⟨s2,n2⟩:=named_step s1.grow arrow_ne (ps:=[a,b]) n1
     exact⟨s1.trans s2,n2⟩
    ·obtain⟨s2,n2⟩:=named_step s1.grow boolN_ne (ps:=[]) (by simp)
     exact⟨s1.trans s2,n2⟩
   ·rename_i hk3
    obtain⟨s2,n2⟩:=named_step s1.grow (hf _ (by rw[Nd.all_eq];exact mem_cons_self ..) hk hk3) n1
    exact⟨s1.trans s2,n2⟩
theorem lettersFor_grow{d:Nat}(hd:dm<=d):∀(ls:List Nm)(σ:TS),Grow dm σ0 σ->Step dm σ0 σ (lettersFor d ls σ).2/\∀x∈(lettersFor d ls σ).1,NewT σ0 (lettersFor d ls σ).2 x.2:=by
 intro ls
 induction ls with
 |nil=>intro σ h;rw[lettersFor];exact⟨⟨h,le_refl _⟩,by simp⟩
 |cons l r ih=>
  intro σ h
  rw[lettersFor]
  obtain⟨s1,n1⟩:=letter_step h hd
  obtain⟨s2,n2⟩:=ih (σ.letter d).2 s1.grow
  refine⟨s1.trans s2,fun x hx=>?_⟩
  rcases mem_cons.1 hx with rfl|hx
  ·exact n1.mono s2.le
  ·exact n2 x hx
def VrOk(v:Vr):Prop:=v.data≠[]/\∀q∈v.parts,TyFull q
def EnvC(ρ:Env):Prop:=∀x m,ρ.get (1,x)=some m->VrOk m.vr
theorem EnvC.var{ρ:Env}(h:EnvC ρ)(x:Nm)(m:Mg):EnvC (((0,x),m)::ρ):=fun y m' hy=>by
 rw[Env.get,if_neg (by simp)]at hy
 exact h y m' hy
def EnvV(σ0 σ:TS)(ρ:Env):Prop:=∀x m t,ρ.get (0,x)=some m->m.scheme=some t->MayT σ0 σ t
theorem EnvV.mono{ρ:Env}{σ':TS}(h:EnvV σ0 σ ρ)(hl:σ.nodes.length<=σ'.nodes.length):EnvV σ0 σ' ρ:=fun x m t h1 h2=>(h x m t h1 h2).mono hl
theorem EnvV.var{ρ:Env}(h:EnvV σ0 σ ρ)(x:Nm){t:Nat}(ht:NewT σ0 σ t):EnvV σ0 σ (((0,x),Mg.var t)::ρ):=fun y m t' hy hm=>by
 rw[Env.get]at hy
 split at hy
 ·cases hy;cases hm;exact inl ht
 ·exact h y m t' hy hm
theorem conGo_grow{S:Type}{get:S->TS}{put:S->TS->S}(hgp:∀s τ,get (put s τ)=τ){I:S->Prop}(hI:∀s τ,I s->(get s).nodes.length<=τ.nodes.length->I (put s τ)){ex:Nd->Nat->S->Option S}{ch:List (Nm×Nat)}:∀(l:List (Nd×Nd)) (s s':S),
  (∀x∈l,∀want s s',I s->Grow dm σ0 (get s)->NewT σ0 (get s) want->ex x.1 want s=some s'->Step dm σ0 (get s) (get s')/\I s')->(∀x∈l,TyFull x.2)->I s->Grow dm σ0 (get s)->(∀x∈ch,NewT σ0 (get s) x.2)->conT.go get put ex ch l s=some s'->Step dm σ0 (get s) (get s')/\I s':=by
 intro l
 induction l with
 |nil=>intro s s' _ _ hi h _ hs;rw[conT.go]at hs;cases hs;exact⟨⟨h,le_refl _⟩,hi⟩
 |cons x r ih=>
  obtain⟨p,q⟩:=x
  intro s s' he hf hi h hc hs
  rw[conT.go]at hs
  obtain⟨s1,n1⟩:=written_grow (ch:=ch) (q.ht+1) q (get s) (hf _ (mem_cons_self ..)) h hc
  cases hx:ex p (written (q.ht+1) ch q (get s)).1 (put s (written (q.ht+1) ch q (get s)).2)with
  |none=>rw[hx]at hs;cases hs
  |some s2=>
   rw[hx]at hs
   obtain⟨st2,i2⟩:=he _ (mem_cons_self ..) _ _ _ (hI s _ hi s1.le) (by rw[hgp];exact s1.grow) (by rw[hgp];exact n1) hx
   rw[hgp]at st2
   obtain⟨st3,i3⟩:=ih s2 s' (fun y hy=>he y (mem_cons_of_mem _ hy)) (fun y hy=>hf y (mem_cons_of_mem _ hy)) i2 st2.grow (fun y hy=>(hc y hy).mono (le_trans s1.le st2.le)) hs
   exact⟨(s1.trans st2).trans st3,i3⟩
theorem conT_grow{S:Type}{get:S->TS}{put:S->TS->S}(hgp:∀s τ,get (put s τ)=τ){I:S->Prop}(hI:∀s τ,I s->(get s).nodes.length<=τ.nodes.length->I (put s τ)){ex:Nd->Nat->S->Option S}{ρ:Env}(hρ:EnvC ρ){d:Nat}(hd:dm<=d){txt:Nm}{ps:List Nd}{s s':S}{t:Nat}
  (he:∀p∈ps,∀want s s',I s->Grow dm σ0 (get s)->NewT σ0 (get s) want->ex p want s=some s'->Step dm σ0 (get s) (get s')/\I s') (hi:I s) (h:Grow dm σ0 (get s)) (hs:conT get put ρ d txt ps ex s=some (t,s')) :
  Step dm σ0 (get s) (get s')/\NewT σ0 (get s') t/\I s':=by
 unfold conT at hs
 cases hm:ρ.get (1,txt)with
 |none=>rw[hm]at hs;cases hs
 |some m=>
  rw[hm]at hs
  have hv:=hρ txt m hm
  obtain⟨s1,n1⟩:=lettersFor_grow hd m.vr.letters (get s) h
  simp only at hs
  cases hx:conT.go get put ex (lettersFor d m.vr.letters (get s)).1 (ps.zip m.vr.parts) (put s (lettersFor d m.vr.letters (get s)).2)with
  |none=>rw[hx]at hs;cases hs
  |some s2=>
   rw[hx]at hs
   obtain⟨st2,i2⟩:=conGo_grow hgp hI _ _ _ (fun x hx=>he x.1 (List.of_mem_zip hx).1) (fun x hx=>hv.2 _ (List.of_mem_zip hx).2) (hI s _ hi s1.le) (by rw[hgp];exact s1.grow) (by rw[hgp];exact n1) hx
   rw[hgp]at st2
   cases hs
   obtain⟨s3,n3⟩:=named_step st2.grow hv.1 (ps:=(lettersFor d m.vr.letters (get s)).1.map Prod.snd) (fun p hp=>by
    obtain⟨x,hx,rfl⟩:=List.mem_map.1 hp
    exact(n1 x hx).mono st2.le)
   refine⟨?_,?_,hI _ _ i2 s3.le⟩
   ·rw[hgp];exact(s1.trans st2).trans s3
   ·rw[hgp];exact n3
end
end
end Go.Proofs.YtbkiipiocpnnnaaGreatDoor
