import Derived.Test.YtbkiipiocpnnnaaGreatDoorC6
set_option linter.all false
set_option maxHeartbeats 40000000
set_option maxRecDepth 100000
open Classical (choice)
open Or (inr)
open Option (bind_eq_some_iff)
open List (length_cons)
namespace Go.Proofs.YtbkiipiocpnnnaaGreatDoor
open Go.RowKit
def Mono{α:Type}(f:Nat->Option α):Prop:=∀n,Le (f n) (f (n+1))
theorem Mono.up{α:Type}{f:Nat->Option α}(h:Mono f){n m:Nat}(hnm:n<=m){v:α}(hv:f n=some v):f m=some v:=by
 induction m with
 |zero=>
      obtain rfl:n=0:=by omega
      exact hv
 |succ m ih=>
  by_cases e:n=m+1
  ·rw[<- e];exact hv
  ·exact h m v (ih (by omega))
structure Lim{α:Type}(f:Nat->Option α)(o:Option α):Prop where
 mono:Mono f
 iff:∀v,o=some v↔∃n,f n=some v
theorem Lim.unique{α:Type}{f:Nat->Option α}{a b:Option α}(h:Lim f a)(k:Lim f b):a=b:=by
 cases ha:a with
 |none=>
  cases hb:b with
  |none=>rfl
  |some v=>
   obtain⟨n,hn⟩:=(k.iff v).1 hb
   rw[(h.iff v).2 ⟨n,hn⟩]at ha;cases ha
 |some v=>
  obtain⟨n,hn⟩:=(h.iff v).1 ha
  rw[(k.iff v).2 ⟨n,hn⟩]
theorem lim_ex{α:Type}{f:Nat->Option α}(h:Mono f):∃o,Lim f o:=by
 by_cases hx:∃v n,f n=some v
 ·obtain⟨v,n,hn⟩:=hx
  refine⟨some v,h,fun u=>⟨fun e=>⟨n,by rw[hn,Option.some.inj e]⟩,fun⟨m,hm⟩=>?_⟩⟩
  have h1:=h.up (show n<=n+m by omega) hn
  have h2:=h.up (show m<=n+m by omega) hm
  rw[h1]at h2
  rw[Option.some.inj h2]
 ·exact⟨none,h,fun v=>⟨fun e=>(by cases e),fun⟨n,hn⟩=>absurd ⟨v,n,hn⟩ hx⟩⟩
theorem Lim.const{α:Type}(o:Option α):Lim (fun _=>o) o:=⟨fun _=>Le.refl _,fun _=>⟨fun h=>⟨0,h⟩,fun⟨_,h⟩=>h⟩⟩
theorem Lim.bind{α β:Type}{f:Nat->Option α}{g:α->Nat->Option β}{o:Option α}{p:α->Option β}(h:Lim f o)(k:∀x,Lim (g x) (p x)):Lim (fun n=>(f n).bind fun x=>g x n) (o.bind p):=by
 refine⟨fun n=>Le.bind (h.mono n) (fun x=>(k x).mono n),fun v=>?_⟩
 rw[bind_eq_some_iff]
 constructor
 ·rintro⟨x,hx,hv⟩
  obtain⟨n,hn⟩:=(h.iff x).1 hx
  obtain⟨m,hm⟩:=((k x).iff v).1 hv
  refine⟨n+m,?_⟩
  show (f (n+m)).bind (fun x=>g x (n+m))=some v
  rw[h.mono.up (by omega) hn,Option.bind_some]
  exact(k x).mono.up (by omega) hm
 ·rintro⟨n,hn⟩
  rw[bind_eq_some_iff]at hn
  obtain⟨x,hx,hv⟩:=hn
  exact⟨x,(h.iff x).2 ⟨n,hx⟩,((k x).iff v).2 ⟨n,hv⟩⟩
theorem Lim.cond{α:Type}{f g:Nat->Option α}{a b:Option α}(t:Bool)(h:Lim f a)(k:Lim g b):Lim (fun n=>bif t then f n else g n) (bif t then a else b):=by cases t<;>assumption
theorem Lim.ite{α:Type}{f g:Nat->Option α}{a b:Option α}(p:Prop)[Decidable p](h:Lim f a)(k:Lim g b):Lim (fun n=>if p then f n else g n) (if p then a else b):=by
 by_cases hp:p
 ·simp only[if_pos hp];exact h
 ·simp only[if_neg hp];exact k
theorem Lim.succ{α:Type}{f g:Nat->Option α}{a b:Option α}(h:Lim f a)(h0:f 0=none)(hs:∀n,f (n+1)=g n)(k:Lim g b):a=b:=by
 refine Lim.unique (f:=g) ⟨k.mono,fun v=>?_⟩ k
 rw[h.iff]
 constructor
 ·rintro⟨n,hn⟩
  cases n with
  |zero=>rw[h0]at hn;cases hn
  |succ n=>exact⟨n,by rw[<- hs];exact hn⟩
 ·rintro⟨n,hn⟩;exact⟨n+1,by rw[hs];exact hn⟩
structure LFam where
 atypes:Toks->Option (List Tr×Toks)
 typ1:Toks->Option (Tr×Toks)
 typ:Toks->Option (Tr×Toks)
 pattern:Toks->Option (Tr×Toks)
 apatterns:Toks->Option (List Tr×Toks)
 apattern:Toks->Option (Option Tr×Toks)
 binding:Toks->Option (List UInt8×List UInt8×Tr×Toks)
 expr:Toks->Option (Tr×Toks)
 set:Tr->Toks->Option (Tr×Toks)
 level:Nat->Toks->Option (Tr×Toks)
 levels:Nat->Tr->Toks->Option (Tr×Toks)
 app:Toks->Option (Tr×Toks)
 atoms:Toks->Option (List Tr×Toks)
 atom:Toks->Option (Option Tr×Toks)
 matches_:Toks->Option (Tr×Toks)
 rows:Toks->Option (List Tr×Toks)
 variants:Toks->Option (List Tr×Toks)
 decl:Toks->Option Tr
 atypes_Lim:∀ts,Lim (fun n=>G.atypes n ts) (atypes ts)
 typ1_Lim:∀ts,Lim (fun n=>G.atypes.typ1 n ts) (typ1 ts)
 typ_Lim:∀ts,Lim (fun n=>G.atypes.typ n ts) (typ ts)
 pattern_Lim:∀ts,Lim (fun n=>G.pattern n ts) (pattern ts)
 apatterns_Lim:∀ts,Lim (fun n=>G.pattern.apatterns n ts) (apatterns ts)
 apattern_Lim:∀ts,Lim (fun n=>G.pattern.apattern n ts) (apattern ts)
 binding_Lim:∀ts,Lim (fun n=>G.binding n ts) (binding ts)
 expr_Lim:∀ts,Lim (fun n=>G.binding.expr n ts) (expr ts)
 set_Lim:∀a ts,Lim (fun n=>G.binding.set n a ts) (set a ts)
 level_Lim:∀k ts,Lim (fun n=>G.binding.level n k ts) (level k ts)
 levels_Lim:∀k a ts,Lim (fun n=>G.binding.levels n k a ts) (levels k a ts)
 app_Lim:∀ts,Lim (fun n=>G.binding.app n ts) (app ts)
 atoms_Lim:∀ts,Lim (fun n=>G.binding.atoms n ts) (atoms ts)
 atom_Lim:∀ts,Lim (fun n=>G.binding.atom n ts) (atom ts)
 matches_Lim:∀ts,Lim (fun n=>G.binding.matches_ n ts) (matches_ ts)
 rows_Lim:∀ts,Lim (fun n=>G.binding.rows n ts) (rows ts)
 variants_Lim:∀ts,Lim (fun n=>G.variants n ts) (variants ts)
 decl_Lim:∀ts,Lim (fun n=>G.decl n ts) (decl ts)
theorem lf:Nonempty LFam:=⟨{
 atypes:=fun ts=>Classical.choose (lim_ex (f:=fun n=>G.atypes n ts) fun n=>(gtypes_mono n).1 ts)
 typ1:=fun ts=>Classical.choose (lim_ex (f:=fun n=>G.atypes.typ1 n ts) fun n=>(gtypes_mono n).2.1 ts)
 typ:=fun ts=>Classical.choose (lim_ex (f:=fun n=>G.atypes.typ n ts) fun n=>(gtypes_mono n).2.2 ts)
 pattern:=fun ts=>Classical.choose (lim_ex (f:=fun n=>G.pattern n ts) fun n=>(gpatterns_mono n).1 ts)
 apatterns:=fun ts=>Classical.choose (lim_ex (f:=fun n=>G.pattern.apatterns n ts) fun n=>(gpatterns_mono n).2.1 ts)
 apattern:=fun ts=>Classical.choose (lim_ex (f:=fun n=>G.pattern.apattern n ts) fun n=>(gpatterns_mono n).2.2 ts)
 binding:=fun ts=>Classical.choose (lim_ex (f:=fun n=>G.binding n ts) fun n=>(gexprs_mono n).1 ts)
 expr:=fun ts=>Classical.choose (lim_ex (f:=fun n=>G.binding.expr n ts) fun n=>(gexprs_mono n).2.1 ts)
 set:=fun a ts=>Classical.choose (lim_ex (f:=fun n=>G.binding.set n a ts) fun n=>(gexprs_mono n).2.2.1 a ts)
 level:=fun k ts=>Classical.choose (lim_ex (f:=fun n=>G.binding.level n k ts) fun n=>(gexprs_mono n).2.2.2.1 k ts)
 levels:=fun k a ts=>Classical.choose (lim_ex (f:=fun n=>G.binding.levels n k a ts) fun n=>(gexprs_mono n).2.2.2.2.1 k a ts)
 app:=fun ts=>Classical.choose (lim_ex (f:=fun n=>G.binding.app n ts) fun n=>(gexprs_mono n).2.2.2.2.2.1 ts)
 atoms:=fun ts=>Classical.choose (lim_ex (f:=fun n=>G.binding.atoms n ts) fun n=>(gexprs_mono n).2.2.2.2.2.2.1 ts)
 atom:=fun ts=>Classical.choose (lim_ex (f:=fun n=>G.binding.atom n ts) fun n=>(gexprs_mono n).2.2.2.2.2.2.2.1 ts)
 matches_:=fun ts=>Classical.choose (lim_ex (f:=fun n=>G.binding.matches_ n ts) fun n=>(gexprs_mono n).2.2.2.2.2.2.2.2.1 ts)
 rows:=fun ts=>Classical.choose (lim_ex (f:=fun n=>G.binding.rows n ts) fun n=>(gexprs_mono n).2.2.2.2.2.2.2.2.2 ts)
 variants:=fun ts=>Classical.choose (lim_ex (f:=fun n=>G.variants n ts) fun n=>gvariants_mono n ts)
 decl:=fun ts=>Classical.choose (lim_ex (f:=fun n=>G.decl n ts) fun n=>gdecl_mono ts n)
 atypes_Lim:=fun ts=>Classical.choose_spec (lim_ex (f:=fun n=>G.atypes n ts) fun n=>(gtypes_mono n).1 ts)
 typ1_Lim:=fun ts=>Classical.choose_spec (lim_ex (f:=fun n=>G.atypes.typ1 n ts) fun n=>(gtypes_mono n).2.1 ts)
 typ_Lim:=fun ts=>Classical.choose_spec (lim_ex (f:=fun n=>G.atypes.typ n ts) fun n=>(gtypes_mono n).2.2 ts)
 pattern_Lim:=fun ts=>Classical.choose_spec (lim_ex (f:=fun n=>G.pattern n ts) fun n=>(gpatterns_mono n).1 ts)
 apatterns_Lim:=fun ts=>Classical.choose_spec (lim_ex (f:=fun n=>G.pattern.apatterns n ts) fun n=>(gpatterns_mono n).2.1 ts)
 apattern_Lim:=fun ts=>Classical.choose_spec (lim_ex (f:=fun n=>G.pattern.apattern n ts) fun n=>(gpatterns_mono n).2.2 ts)
 binding_Lim:=fun ts=>Classical.choose_spec (lim_ex (f:=fun n=>G.binding n ts) fun n=>(gexprs_mono n).1 ts)
 expr_Lim:=fun ts=>Classical.choose_spec (lim_ex (f:=fun n=>G.binding.expr n ts) fun n=>(gexprs_mono n).2.1 ts)
 set_Lim:=fun a ts=>Classical.choose_spec (lim_ex (f:=fun n=>G.binding.set n a ts) fun n=>(gexprs_mono n).2.2.1 a ts)
 level_Lim:=fun k ts=>Classical.choose_spec (lim_ex (f:=fun n=>G.binding.level n k ts) fun n=>(gexprs_mono n).2.2.2.1 k ts)
 levels_Lim:=fun k a ts=>Classical.choose_spec (lim_ex (f:=fun n=>G.binding.levels n k a ts) fun n=>(gexprs_mono n).2.2.2.2.1 k a ts)
 app_Lim:=fun ts=>Classical.choose_spec (lim_ex (f:=fun n=>G.binding.app n ts) fun n=>(gexprs_mono n).2.2.2.2.2.1 ts)
 atoms_Lim:=fun ts=>Classical.choose_spec (lim_ex (f:=fun n=>G.binding.atoms n ts) fun n=>(gexprs_mono n).2.2.2.2.2.2.1 ts)
 atom_Lim:=fun ts=>Classical.choose_spec (lim_ex (f:=fun n=>G.binding.atom n ts) fun n=>(gexprs_mono n).2.2.2.2.2.2.2.1 ts)
 matches_Lim:=fun ts=>Classical.choose_spec (lim_ex (f:=fun n=>G.binding.matches_ n ts) fun n=>(gexprs_mono n).2.2.2.2.2.2.2.2.1 ts)
 rows_Lim:=fun ts=>Classical.choose_spec (lim_ex (f:=fun n=>G.binding.rows n ts) fun n=>(gexprs_mono n).2.2.2.2.2.2.2.2.2 ts)
 variants_Lim:=fun ts=>Classical.choose_spec (lim_ex (f:=fun n=>G.variants n ts) fun n=>gvariants_mono n ts)
 decl_Lim:=fun ts=>Classical.choose_spec (lim_ex (f:=fun n=>G.decl n ts) fun n=>gdecl_mono ts n)
 }⟩
theorem LFam.atypes_eq(L:LFam)(ts:Toks):L.atypes ts =
  bif G.kindOf ts==108 then(L.atypes ts.tail).bind fun l=>some (.mk K.var_ (ts.headD []) []::l.1,l.2)
  else bif G.kindOf ts==110 then(L.atypes ts.tail).bind fun l=>some (.mk K.named_ (ts.headD []) []::l.1,l.2)
  else bif G.isW K.open_ ts then(L.typ ts.tail).bind fun q=>(G.want K.shut_ q.2).bind fun r=>(L.atypes r).bind fun l=>some (q.1::l.1,l.2)
  else some ([],ts):=by
 refine Lim.succ (L.atypes_Lim ts) (G.atypes.eq_1 ts) (G.atypes.eq_2 ts) ?_
 repeat' first|exact L.atypes_Lim _|exact L.typ_Lim _|exact Lim.const _|apply Lim.cond|refine Lim.bind ?_ (fun _=>?_)
theorem LFam.typ1_eq(L:LFam)(ts:Toks):L.typ1 ts =
  bif G.kindOf ts==110 then(L.atypes ts.tail).bind fun l=>some (.mk K.named_ (ts.headD []) l.1,l.2)
  else bif G.kindOf ts==108 then some (.mk K.var_ (ts.headD []) [],ts.tail)
  else(G.want K.open_ ts).bind fun r=>(L.typ r).bind fun q=>(G.want K.shut_ q.2).bind fun r=>some (q.1,r):=by
 refine Lim.succ (L.typ1_Lim ts) (G.atypes.typ1.eq_1 ts) (G.atypes.typ1.eq_2 ts) ?_
 repeat' first|exact L.atypes_Lim _|exact L.typ_Lim _|exact Lim.const _|apply Lim.cond|refine Lim.bind ?_ (fun _=>?_)
theorem LFam.typ_eq(L:LFam)(ts:Toks):L.typ ts=(L.typ1 ts).bind fun a=>bif G.isW K.arrow_ a.2 then(L.typ a.2.tail).bind fun b=>some (.mk K.arrow_ [] [a.1,b.1],b.2)else some a:=by
 refine Lim.succ (L.typ_Lim ts) (G.atypes.typ.eq_1 ts) (G.atypes.typ.eq_2 ts) ?_
 repeat' first|exact L.typ1_Lim _|exact L.typ_Lim _|exact Lim.const _|apply Lim.cond|refine Lim.bind ?_ (fun _=>?_)
theorem LFam.pattern_eq(L:LFam)(ts:Toks):L.pattern ts =
  bif G.kindOf ts==99 then(L.apatterns ts.tail).bind fun l=>some (.mk K.con_ (ts.headD []) l.1,l.2)
  else(L.apattern ts).bind fun q=>q.1.bind fun t=>some (t,q.2):=by
 refine Lim.succ (L.pattern_Lim ts) (G.pattern.eq_1 ts) (G.pattern.eq_2 ts) ?_
 repeat' first|exact L.apatterns_Lim _|exact L.apattern_Lim _|exact Lim.const _|apply Lim.cond|refine Lim.bind ?_ (fun _=>?_)
theorem LFam.apatterns_eq(L:LFam)(ts:Toks):L.apatterns ts=(L.apattern ts).bind fun q=>match q.1 with
  |none=>some ([],q.2)
  |some t=>(L.apatterns q.2).bind fun l=>some (t::l.1,l.2):=by
 refine Lim.succ (L.apatterns_Lim ts) (G.pattern.apatterns.eq_1 ts) (G.pattern.apatterns.eq_2 ts) ?_
 refine Lim.bind (L.apattern_Lim ts) (fun q=>?_)
 obtain⟨o,r⟩:=q
 cases o
 ·exact Lim.const _
 ·exact Lim.bind (L.apatterns_Lim _) (fun _=>Lim.const _)
theorem LFam.apattern_eq(L:LFam)(ts:Toks):L.apattern ts=match G.plain ts with
  |some q=>some (some q.1,q.2)
  |none=>
   bif G.isW K.under_ ts then some (some (.mk K.const_ K.under_ []),ts.tail)
   else bif G.isW K.open_ ts then
    bif G.isW K.shut_ ts.tail then some (some (.mk K.const_ K.unit_ []),ts.tail.tail)
    else(L.pattern ts.tail).bind fun q=>(G.want K.shut_ q.2).bind fun r=>some (some q.1,r)
   else some (none,ts):=by
 refine Lim.succ (L.apattern_Lim ts) (G.pattern.apattern.eq_1 ts) (G.pattern.apattern.eq_2 ts) ?_
 cases G.plain ts
 ·simp only
  repeat' first|exact L.pattern_Lim _|exact Lim.const _|apply Lim.cond|refine Lim.bind ?_ (fun _=>?_)
 ·exact Lim.const _
theorem LFam.binding_eq(L:LFam)(ts:Toks):L.binding ts=(G.kind 110 (bif G.isW K.rec_ ts then ts.tail else ts)).bind fun nm=>
   bif G.isW K.rec_ ts && (G.every 110 nm.2).1.isEmpty then none
   else(G.want K.eq_ (G.every 110 nm.2).2).bind fun r=>(L.expr r).bind fun x=>some (bif G.isW K.rec_ ts then K.rec_ else K.let_,nm.1,G.curried (G.every 110 nm.2).1 x.1,x.2):=by
 refine Lim.succ (L.binding_Lim ts) (G.binding.eq_1 ts) (G.binding.eq_2 ts) ?_
 repeat' first|exact L.expr_Lim _|exact Lim.const _|apply Lim.cond|refine Lim.bind ?_ (fun _=>?_)
theorem LFam.expr_eq(L:LFam)(ts:Toks):L.expr ts =
  bif G.isW K.let_ ts then(L.binding ts.tail).bind fun b=>(G.want K.in_ b.2.2.2).bind fun r=>(L.expr r).bind fun x=>some (.mk b.1 b.2.1 [b.2.2.1,x.1],x.2)
  else bif G.isW K.fun_ ts then(G.kind 110 ts.tail).bind fun one=>(G.want K.arrow_ (G.every 110 one.2).2).bind fun r=>(L.expr r).bind fun x=>some (G.curried (one.1::(G.every 110 one.2).1) x.1,x.2)
  else bif G.isW K.if_ ts then(L.expr ts.tail).bind fun a=>(G.want K.then_ a.2).bind fun r=>(L.expr r).bind fun b=>(G.want K.else_ b.2).bind fun r=>(L.expr r).bind fun c=>some (.mk K.if_ [] [a.1,b.1,c.1],c.2)
  else(L.level 0 ts).bind fun a=>(L.set a.1 a.2).bind fun a=>bif G.isW K.semi_ a.2 then(L.expr a.2.tail).bind fun b=>some (.mk K.seq_ [] [a.1,b.1],b.2)else some a:=by
 refine Lim.succ (L.expr_Lim ts) (G.binding.expr.eq_1 ts) (G.binding.expr.eq_2 ts) ?_
 repeat' first|exact L.expr_Lim _|exact L.binding_Lim _|exact L.level_Lim _ _|exact L.set_Lim _ _|exact Lim.const _|apply Lim.cond|refine Lim.bind ?_ (fun _=>?_)
theorem LFam.set_eq(L:LFam)(a:Tr)(ts:Toks):L.set a ts=bif G.isW K.set_ ts then(L.level 0 ts.tail).bind fun b=>some (.mk K.setN_ [] [a,b.1],b.2)else some (a,ts):=by
 refine Lim.succ (L.set_Lim a ts) (G.binding.set.eq_1 a ts) (G.binding.set.eq_2 a ts) ?_
 repeat' first|exact L.level_Lim _ _|exact Lim.const _|apply Lim.cond|refine Lim.bind ?_ (fun _=>?_)
theorem LFam.level_eq(L:LFam)(k:Nat)(ts:Toks):L.level k ts=if k=3 then L.app ts else(L.level (k+1) ts).bind fun a=>L.levels k a.1 a.2:=by
 refine Lim.succ (L.level_Lim k ts) (G.binding.level.eq_1 k ts) (G.binding.level.eq_2 k ts) ?_
 repeat' first|exact L.level_Lim _ _|exact L.levels_Lim _ _ _|exact L.app_Lim _|exact Lim.const _|apply Lim.ite|refine Lim.bind ?_ (fun _=>?_)
theorem LFam.levels_eq(L:LFam)(k:Nat)(a:Tr)(ts:Toks):L.levels k a ts =
  bif G.kindOf ts==119 && (ts.headD []).length==1 && (signsAt k).contains ((ts.headD []).getD 0 0)then
   (L.level (k+1) ts.tail).bind fun b=>if k=0 then some (.mk (ts.headD []) [] [a,b.1],b.2)else L.levels k (.mk (ts.headD []) [] [a,b.1]) b.2
  else some (a,ts):=by
 refine Lim.succ (L.levels_Lim k a ts) (G.binding.levels.eq_1 k a ts) (G.binding.levels.eq_2 k a ts) ?_
 repeat' first|exact L.level_Lim _ _|exact L.levels_Lim _ _ _|exact Lim.const _|apply Lim.cond|apply Lim.ite|refine Lim.bind ?_ (fun _=>?_)
theorem LFam.atoms_eq(L:LFam)(ts:Toks):L.atoms ts=(L.atom ts).bind fun q=>match q.1 with
  |none=>some ([],q.2)
  |some t=>(L.atoms q.2).bind fun l=>some (t::l.1,l.2):=by
 refine Lim.succ (L.atoms_Lim ts) (G.binding.atoms.eq_1 ts) (G.binding.atoms.eq_2 ts) ?_
 refine Lim.bind (L.atom_Lim ts) (fun q=>?_)
 obtain⟨o,r⟩:=q
 cases o
 ·exact Lim.const _
 ·exact Lim.bind (L.atoms_Lim _) (fun _=>Lim.const _)
theorem LFam.app_eq0(L:LFam)(ts:Toks):L.app ts =
  bif G.kindOf ts==99 then(L.atoms ts.tail).bind fun l=>some (.mk K.con_ (ts.headD []) l.1,l.2)
  else(L.atoms ts).bind fun l=>match l.1 with
   |[]=>none
   |f::r=>some (G.apps r f,l.2):=by
 refine Lim.succ (L.app_Lim ts) (G.binding.app.eq_1 ts) (G.binding.app.eq_2 ts) ?_
 refine Lim.cond _ ?_ ?_
 ·exact Lim.bind (L.atoms_Lim _) (fun _=>Lim.const _)
 ·refine Lim.bind (L.atoms_Lim _) (fun q=>?_)
  exact Lim.const _
theorem LFam.app_eq(L:LFam)(ts:Toks):L.app ts =
  bif G.kindOf ts==99 then(L.atoms ts.tail).bind fun l=>some (.mk K.con_ (ts.headD []) l.1,l.2)
  else(L.atom ts).bind fun q=>q.1.bind fun t=>(L.atoms q.2).bind fun l=>some (G.apps l.1 t,l.2):=by
 rw[L.app_eq0,L.atoms_eq ts]
 cases G.kindOf ts==99
 ·simp only[cond_false]
  cases L.atom ts with
  |none=>rfl
  |some q=>
   obtain⟨o,r⟩:=q
   cases o with
   |none=>rfl
   |some t=>
    simp only[Option.bind_some]
    cases L.atoms r<;>rfl
 ·rfl
theorem LFam.atom_eq(L:LFam)(ts:Toks):L.atom ts=match G.plain ts with
  |some q=>some (some q.1,q.2)
  |none=>
   bif G.isW K.open_ ts then
    bif G.isW K.shut_ ts.tail then some (some (.mk K.const_ K.unit_ []),ts.tail.tail)
    else(L.expr ts.tail).bind fun q=>(G.want K.shut_ q.2).bind fun r=>some (some q.1,r)
   else bif G.isW K.bang_ ts then(L.atom ts.tail).bind fun a=>a.1.bind fun t=>some (some (.mk K.bang_ [] [t]),a.2)
   else bif G.isW K.match_ ts then(L.matches_ ts.tail).bind fun q=>some (some q.1,q.2)
   else some (none,ts):=by
 refine Lim.succ (L.atom_Lim ts) (G.binding.atom.eq_1 ts) (G.binding.atom.eq_2 ts) ?_
 cases G.plain ts
 ·simp only
  repeat' first|exact L.expr_Lim _|exact L.atom_Lim _|exact L.matches_Lim _|exact Lim.const _|apply Lim.cond|refine Lim.bind ?_ (fun _=>?_)
 ·exact Lim.const _
theorem LFam.matches_eq(L:LFam)(ts:Toks):L.matches_ ts=(L.expr ts).bind fun x=>(G.want K.with_ x.2).bind fun r=>(L.rows r).bind fun l=>if 12<l.1.length then none else some (.mk K.match_ [] (x.1::l.1),l.2):=by
 refine Lim.succ (L.matches_Lim ts) (G.binding.matches_.eq_1 ts) (G.binding.matches_.eq_2 ts) ?_
 repeat' first|exact L.expr_Lim _|exact L.rows_Lim _|exact Lim.const _|refine Lim.bind ?_ (fun _=>?_)
def LFam.row(L:LFam)(ts:Toks):Option (Tr×Toks):=(L.pattern ts).bind fun p=>(G.want K.arrow_ p.2).bind fun r=>(L.expr r).bind fun a=>some (.mk K.row_ [] [p.1,a.1],a.2)
theorem LFam.rows_eq(L:LFam)(ts:Toks):L.rows ts=(G.want K.bar_ ts).bind fun r=>(L.row r).bind fun q=>bif G.isW K.end_ q.2 then some ([q.1],q.2.tail)else(L.rows q.2).bind fun l=>some (q.1::l.1,l.2):=by
 have h:L.rows ts=(G.want K.bar_ ts).bind fun r=>(L.pattern r).bind fun p=>(G.want K.arrow_ p.2).bind fun r=>(L.expr r).bind fun a=>
   bif G.isW K.end_ a.2 then some ([.mk K.row_ [] [p.1,a.1]],a.2.tail)else(L.rows a.2).bind fun l=>some (.mk K.row_ [] [p.1,a.1]::l.1,l.2):=by
  refine Lim.succ (L.rows_Lim ts) (G.binding.rows.eq_1 ts) (G.binding.rows.eq_2 ts) ?_
  repeat' first|exact L.expr_Lim _|exact L.pattern_Lim _|exact L.rows_Lim _|exact Lim.const _|apply Lim.cond|refine Lim.bind ?_ (fun _=>?_)
 rw[h]
 unfold LFam.row
 simp only[Option.bind_assoc,Option.bind_some]
def LFam.rest(L:LFam)(ts:Toks):Option (List Tr×Toks):=bif G.isW K.bar_ ts then L.rows ts else(G.want K.end_ ts).bind fun r=>some ([],r)
theorem isW_two{x y:List UInt8}{ts:Toks}(h:x≠y)(hx:G.isW x ts=true):G.isW y ts=false:=by
 cases hy:G.isW y ts
 ·rfl
 ·exfalso
  unfold G.isW at hx hy
  simp only[Bool.and_eq_true,beq_iff_eq]at hx hy
  exact h (hx.2.symm.trans hy.2)
theorem LFam.rest_eq(L:LFam)(ts:Toks):L.rest ts=bif G.isW K.bar_ ts then(L.row ts.tail).bind fun q=>(L.rest q.2).bind fun l=>some (q.1::l.1,l.2)else(G.want K.end_ ts).bind fun r=>some ([],r):=by
 rw[LFam.rest]
 cases k:G.isW K.bar_ ts
 ·rfl
 ·rw[cond_true,cond_true,L.rows_eq,G.want,k,cond_true,Option.bind_some]
  cases L.row ts.tail with
  |none=>rfl
  |some q=>
   rw[Option.bind_some,Option.bind_some,LFam.rest]
   cases k2:G.isW K.end_ q.2
   ·rw[cond_false]
    cases k3:G.isW K.bar_ q.2
    ·rw[cond_false,G.want,k2,cond_false,L.rows_eq,G.want,k3];rfl
    ·rfl
   ·rw[cond_true,isW_two (y:=K.bar_) (by decide) k2,cond_false,G.want,k2];rfl
theorem LFam.rows_rest(L:LFam)(ts:Toks):L.rows ts=(L.rest ts).bind fun l=>bif l.1.isEmpty then none else some l:=by
 rw[LFam.rest]
 cases k:G.isW K.bar_ ts
 ·rw[cond_false,L.rows_eq,G.want,k]
  cases G.want K.end_ ts<;>rfl
 ·rw[cond_true]
  cases h:L.rows ts with
  |none=>rfl
  |some l=>
   rw[Option.bind_some]
   cases hl:l.1.isEmpty
   ·rfl
   ·exfalso
    rw[L.rows_eq]at h
    simp only[bind_eq_some_iff]at h
    obtain⟨r,_,q,_,h⟩:=h
    cases k2:G.isW K.end_ q.2
    ·rw[k2,cond_false,bind_eq_some_iff]at h
     obtain⟨l2,_,h⟩:=h
     rw[<- Option.some.inj h]at hl;cases hl
    ·rw[k2,cond_true]at h
     rw[<- Option.some.inj h]at hl;cases hl
theorem LFam.matches_eq2(L:LFam)(ts:Toks):L.matches_ ts=(L.expr ts).bind fun x=>(G.want K.with_ x.2).bind fun r=>(L.rest r).bind fun l=>if l.1.length<1\/12<l.1.length then none else some (.mk K.match_ [] (x.1::l.1),l.2):=by
 rw[L.matches_eq]
 congr 1
 funext x
 congr 1
 funext r
 rw[L.rows_rest,Option.bind_assoc]
 congr 1
 funext l
 obtain⟨l,r⟩:=l
 cases l with
 |nil=>rfl
 |cons a l=>
  simp only[List.isEmpty_cons,cond_false,Option.bind_some]
  by_cases h:12<(a::l).length
  ·rw[if_pos h,if_pos (inr h)]
  ·rw[if_neg h,if_neg (by simp only[length_cons]at *;omega)]
def LFam.variant(L:LFam)(ts:Toks):Option (Tr×Toks):=(G.kind 99 ts).bind fun c=>(L.atypes c.2).bind fun l=>some (.mk K.named_ c.1 l.1,l.2)
theorem LFam.variants_eq(L:LFam)(ts:Toks):L.variants ts=(L.variant ts).bind fun q=>bif G.isW K.bar_ q.2 then(L.variants q.2.tail).bind fun v=>some (q.1::v.1,v.2)else some ([q.1],q.2):=by
 have h:L.variants ts=(G.kind 99 ts).bind fun c=>(L.atypes c.2).bind fun l=>
   bif G.isW K.bar_ l.2 then(L.variants l.2.tail).bind fun v=>some (.mk K.named_ c.1 l.1::v.1,v.2)else some ([.mk K.named_ c.1 l.1],l.2):=by
  refine Lim.succ (L.variants_Lim ts) (by rfl) (fun n=>by rw[G.variants]) ?_
  repeat' first|exact L.atypes_Lim _|exact L.variants_Lim _|exact Lim.const _|apply Lim.cond|refine Lim.bind ?_ (fun _=>?_)
 rw[h]
 unfold LFam.variant
 simp only[Option.bind_assoc,Option.bind_some]
theorem LFam.decl_eq(L:LFam)(ts:Toks):L.decl ts =
  (bif G.isW K.type_ ts then(G.kind 110 ts.tail).bind fun nm=>(G.want K.eq_ (G.every 108 nm.2).2).bind fun r=>(L.variants r).bind fun v=>some (Tr.mk K.type_ nm.1 (G.letters (G.every 108 nm.2).1++v.1),v.2)
 else bif G.isW K.do_ ts then(L.expr ts.tail).bind fun x=>some (.mk K.do_ [] [x.1],x.2)
 else(G.want K.let_ ts).bind fun r=>(L.binding r).bind fun b=>some (.mk b.1 b.2.1 [b.2.2.1],b.2.2.2)).bind fun q=>bif q.2.isEmpty then some q.1 else none:=by
 refine Lim.unique (L.decl_Lim ts) ?_
 unfold G.decl
 repeat' first|exact L.variants_Lim _|exact L.expr_Lim _|exact L.binding_Lim _|exact Lim.const _|apply Lim.cond|refine Lim.bind ?_ (fun _=>?_)
theorem Lim.gets{α:Type}{f:Nat->Option α}{o:Option α}(h:Lim f o){v:α}(hv:o=some v):∃n,f n=some v:=(h.iff v).1 hv
theorem LFam.typ_w(L:LFam){ts:Toks}{q:Tr×Toks}(h:L.typ ts=some q):mu q.1+wt q.2<=wt ts:=by
 obtain⟨n,hn⟩:=(L.typ_Lim ts).gets h;exact(types_w n).2.2 _ _ hn
theorem LFam.typ1_w(L:LFam){ts:Toks}{q:Tr×Toks}(h:L.typ1 ts=some q):mu q.1+wt q.2<=wt ts:=by
 obtain⟨n,hn⟩:=(L.typ1_Lim ts).gets h;exact(types_w n).2.1 _ _ hn
theorem LFam.atypes_w(L:LFam){ts:Toks}{q:List Tr×Toks}(h:L.atypes ts=some q):mus q.1+wt q.2<=wt ts:=by
 obtain⟨n,hn⟩:=(L.atypes_Lim ts).gets h;exact(types_w n).1 _ _ hn
theorem LFam.pattern_w(L:LFam){ts:Toks}{q:Tr×Toks}(h:L.pattern ts=some q):mu q.1+wt q.2<=wt ts:=by
 obtain⟨n,hn⟩:=(L.pattern_Lim ts).gets h;exact(patterns_w n).1 _ _ hn
theorem LFam.apattern_w(L:LFam){ts:Toks}{q:Option Tr×Toks}(h:L.apattern ts=some q):OptW ts q:=by
 obtain⟨n,hn⟩:=(L.apattern_Lim ts).gets h;exact(patterns_w n).2.2 _ _ hn
theorem LFam.expr_w(L:LFam){ts:Toks}{q:Tr×Toks}(h:L.expr ts=some q):mu q.1+wt q.2<=wt ts:=by
 obtain⟨n,hn⟩:=(L.expr_Lim ts).gets h;exact(exprs_w n).expr _ _ hn
theorem LFam.level_w(L:LFam){k:Nat}{ts:Toks}{q:Tr×Toks}(h:L.level k ts=some q):mu q.1+wt q.2<=wt ts:=by
 obtain⟨n,hn⟩:=(L.level_Lim k ts).gets h;exact(exprs_w n).level _ _ _ hn
theorem LFam.set_w(L:LFam){a:Tr}{ts:Toks}{q:Tr×Toks}(h:L.set a ts=some q):mu q.1+wt q.2<=mu a+wt ts:=by
 obtain⟨n,hn⟩:=(L.set_Lim a ts).gets h;exact(exprs_w n).set _ _ _ hn
theorem LFam.atom_w(L:LFam){ts:Toks}{q:Option Tr×Toks}(h:L.atom ts=some q):OptW ts q:=by
 obtain⟨n,hn⟩:=(L.atom_Lim ts).gets h;exact(exprs_w n).atom _ _ hn
theorem LFam.atoms_w(L:LFam){ts:Toks}{q:List Tr×Toks}(h:L.atoms ts=some q):mus q.1+9*q.1.length+wt q.2<=wt ts:=by
 obtain⟨n,hn⟩:=(L.atoms_Lim ts).gets h;exact(exprs_w n).atoms _ _ hn
theorem LFam.binding_w(L:LFam){ts:Toks}{q:List UInt8×List UInt8×Tr×Toks}(h:L.binding ts=some q):q.1.length<=5/\mu q.2.2.1+(9+q.2.1.length)+wt q.2.2.2<=wt ts:=by
 obtain⟨n,hn⟩:=(L.binding_Lim ts).gets h;exact(exprs_w n).binding _ _ hn
theorem LFam.row_w(L:LFam){ts:Toks}{q:Tr×Toks}(h:L.row ts=some q):wt q.2<=wt ts:=by
 unfold LFam.row at h
 simp only[bind_eq_some_iff]at h
 obtain⟨p,hp,r,hr,a,ha,h⟩:=h
 rw[<- Option.some.inj h]
 have h1:=L.pattern_w hp
 have h2:=wt_want hr
 have h3:=L.expr_w ha
 show wt a.2<=_
 omega
theorem isW_kind{x:List UInt8}{ts:Toks}(h:G.isW x ts=true):G.kindOf ts=119/\ts.headD []=x:=by
 unfold G.isW at h
 simp only[Bool.and_eq_true,beq_iff_eq]at h
 exact h
theorem isW_eq{x:List UInt8}(hx:tokKind x=119)(ts:Toks):G.isW x ts=(ts.headD []==x):=by
 unfold G.isW
 cases h:(ts.headD []==x)
 ·rw[Bool.and_false]
 ·rw[Bool.and_true]
  have:ts.headD []=x:=by simpa using h
  rw[this,hx];rfl
theorem isW_not{x:List UInt8}{ts:Toks}(h:G.isW x ts=true){k:Int}(hk:k≠119):(G.kindOf ts==k)=false:=by
 have h1:=(isW_kind h).1
 rw[h1];simpa using fun e=>hk e.symm
theorem kind_not{k j:Int}{ts:Toks}(hk:k≠j)(h:(G.kindOf ts==k)=true):(G.kindOf ts==j)=false:=by
 have h2:G.kindOf ts=k:=by simpa using h
 rw[h2];simpa using hk
def LFam.letterO(_:LFam)(c:Nat)(ts:Toks):Option (Option Tr×Toks):=bif G.kindOf ts==108 then some (some (.mk K.var_ (if c=2 then ts.headD []else(ts.headD []).drop 1) []),ts.tail)else some (none,ts)
def LFam.closedO(L:LFam)(ts:Toks):Option (Option Tr×Toks):=bif G.isW K.open_ ts then(L.typ ts.tail).bind fun q=>(G.want K.shut_ q.2).bind fun r=>some (some q.1,r)else L.letterO 2 ts
def LFam.partO(L:LFam)(ts:Toks):Option (Option Tr×Toks):=bif G.kindOf ts==110 then some (some (.mk K.named_ (ts.headD []) []),ts.tail)else L.closedO ts
def LFam.inB(_:LFam)(f:Toks->Option (Tr×Toks))(ts:Toks):Option (Tr×Toks):=bif G.isW K.shut_ ts then some (.mk K.const_ K.unit_ [],ts.tail)else(f ts).bind fun q=>(G.want K.shut_ q.2).bind fun r=>some (q.1,r)
def LFam.plainO(_:LFam)(ts:Toks):Option (Option Tr×Toks):=match G.plain ts with
 |some q=>some (some q.1,q.2)
 |none=>some (none,ts)
def LFam.there(_:LFam)(o:Option (Tr×Toks)):Option (Option Tr×Toks):=o.bind fun q=>some (some q.1,q.2)
def LFam.need(_:LFam)(o:Option (Option Tr×Toks)):Option (Tr×Toks):=o.bind fun q=>q.1.bind fun t=>some (t,q.2)
def Sev(rd:Toks->Option (Option Tr×Toks))(sev:Toks->Option (List Tr×Toks)):Prop:=
 ∀ts,sev ts=(rd ts).bind fun q=>match q.1 with
  |none=>some ([],q.2)
  |some t=>(sev q.2).bind fun l=>some (t::l.1,l.2)
theorem atypes_sev:Sev (choice lf).partO (choice lf).atypes:=by
 intro ts
 rw[(choice lf).atypes_eq]
 unfold LFam.partO LFam.closedO LFam.letterO
 cases k1:(G.kindOf ts==110)
 ·rw[cond_false,cond_false]
  cases k2:G.isW K.open_ ts
  ·rw[cond_false,cond_false]
   cases k3:(G.kindOf ts==108)
   ·rfl
   ·simp
  ·rw[cond_true,cond_true,isW_not k2 (by decide),cond_false]
   simp only[Option.bind_assoc,Option.bind_some]
 ·rw[kind_not (by decide) k1,cond_false,cond_true,cond_true]
  simp
theorem typ1_need(ts:Toks):(choice lf).typ1 ts=bif G.kindOf ts==110 then((choice lf).atypes ts.tail).bind fun l=>some (.mk K.named_ (ts.headD []) l.1,l.2)else(choice lf).need ((choice lf).closedO ts):=by
 rw[(choice lf).typ1_eq]
 unfold LFam.need LFam.closedO LFam.letterO
 cases k1:(G.kindOf ts==110)
 ·rw[cond_false,cond_false]
  cases k2:G.isW K.open_ ts
  ·rw[cond_false]
   cases k3:(G.kindOf ts==108)
   ·rw[cond_false,cond_false,G.want,k2];rfl
   ·simp
  ·rw[isW_not k2 (by decide),cond_false,cond_true,G.want,k2,cond_true,Option.bind_some]
   simp only[Option.bind_assoc,Option.bind_some]
 ·rfl
theorem letters_sev:Sev ((choice lf).letterO 5) (fun ts=>some (G.letters (G.every 108 ts).1,(G.every 108 ts).2)):=by
 intro ts
 unfold LFam.letterO
 cases ts with
 |nil=>rfl
 |cons t r=>
  have he:G.every 108 (t::r)=bif tokKind t==108 then(t::(G.every 108 r).1,(G.every 108 r).2)else([],t::r):=rfl
  have hk:(G.kindOf (t::r)==108)=(tokKind t==108):=rfl
  show some (G.letters (G.every 108 (t::r)).1,(G.every 108 (t::r)).2)=_
  rw[he,hk]
  cases h:(tokKind t==108)
  ·rfl
  ·rfl
theorem plain_isW{x:List UInt8}{ts:Toks}(h:G.isW x ts=true)(h1:x≠K.true_)(h2:x≠K.false_):G.plain ts=none:=by
 unfold G.plain
 rw[isW_not h (by decide),isW_not h (by decide),isW_not h (by decide),isW_two h1 h,isW_two h2 h]
 rfl
theorem apattern_prog(ts:Toks):(choice lf).apattern ts=bif G.isW K.open_ ts then(choice lf).there ((choice lf).inB (choice lf).pattern ts.tail)else bif G.isW K.under_ ts then some (some (.mk K.const_ K.under_ []),ts.tail)else(choice lf).plainO ts:=by
 rw[(choice lf).apattern_eq]
 unfold LFam.there LFam.inB LFam.plainO
 cases k1:G.isW K.open_ ts
 ·rw[cond_false]
  cases k2:G.isW K.under_ ts
  ·rw[cond_false]
   cases G.plain ts<;>rfl
  ·rw[plain_isW k2 (by decide) (by decide)];rfl
 ·rw[plain_isW k1 (by decide) (by decide),isW_two (y:=K.under_) (by decide) k1]
  simp only[cond_true,cond_false]
  cases G.isW K.shut_ ts.tail
  ·simp only[cond_false,Option.bind_assoc,Option.bind_some]
  ·rfl
theorem pattern_prog(ts:Toks):(choice lf).pattern ts=bif G.kindOf ts==99 then((choice lf).apatterns ts.tail).bind fun l=>some (.mk K.con_ (ts.headD []) l.1,l.2)else(choice lf).need ((choice lf).apattern ts):=(choice lf).pattern_eq ts
theorem atom_prog(ts:Toks):(choice lf).atom ts=bif G.isW K.open_ ts then(choice lf).there ((choice lf).inB (choice lf).expr ts.tail)else bif G.isW K.bang_ ts then((choice lf).need ((choice lf).atom ts.tail)).bind fun a=>some (some (.mk K.bang_ [] [a.1]),a.2)else bif G.isW K.match_ ts then(choice lf).there ((choice lf).matches_ ts.tail)else(choice lf).plainO ts:=by
 rw[(choice lf).atom_eq]
 unfold LFam.there LFam.inB LFam.plainO LFam.need
 cases k1:G.isW K.open_ ts
 ·rw[cond_false]
  cases k2:G.isW K.bang_ ts
  ·rw[cond_false]
   cases k3:G.isW K.match_ ts
   ·rw[cond_false]
    cases G.plain ts<;>rfl
   ·rw[plain_isW k3 (by decide) (by decide)];rfl
  ·rw[plain_isW k2 (by decide) (by decide)]
   simp only[cond_true,cond_false,Option.bind_assoc,Option.bind_some]
 ·rw[plain_isW k1 (by decide) (by decide)]
  simp only[cond_true]
  cases G.isW K.shut_ ts.tail
  ·simp only[cond_false,Option.bind_assoc,Option.bind_some]
  ·rfl
theorem app_prog(ts:Toks):(choice lf).app ts=bif G.kindOf ts==99 then((choice lf).atoms ts.tail).bind fun l=>some (.mk K.con_ (ts.headD []) l.1,l.2)else((choice lf).need ((choice lf).atom ts)).bind fun a=>((choice lf).atoms a.2).bind fun l=>some (G.apps l.1 a.1,l.2):=by
 rw[(choice lf).app_eq]
 unfold LFam.need
 simp only[Option.bind_assoc,Option.bind_some]
theorem sign_level(k:Nat){ts:Toks}(a b:UInt8)(hab:signsAt k=[a,b])(ha:tokKind [a]=119)(hb:tokKind [b]=119) :
  (G.kindOf ts==119 && (ts.headD []).length==1 && (signsAt k).contains ((ts.headD []).getD 0 0))=(ts.headD []==[a] || ts.headD []==[b]):=by
 rw[hab]
 cases h:(ts.headD []==[a] || ts.headD []==[b])
 ·cases hl:((ts.headD []).length==1)
  ·simp
  ·have hl:(ts.headD []).length=1:=by simpa using hl
   obtain⟨c,hc⟩:=List.length_eq_one_iff.1 hl
   rw[hc]at h ⊢
   simp only[Bool.or_eq_false_iff,beq_eq_false_iff_ne,ne_eq,List.cons.injEq,and_true]at h
   simp[h.1,h.2]
 ·rcases Bool.or_eq_true_iff.1 h with h|h
  ·have h:ts.headD []=[a]:=by simpa using h
   unfold G.kindOf
   rw[h,ha];simp
  ·have h:ts.headD []=[b]:=by simpa using h
   unfold G.kindOf
   rw[h,hb];simp
end Go.Proofs.YtbkiipiocpnnnaaGreatDoor
