import Derived.Test.YtbkiipiocpnnnaaGreatDoorC31
set_option linter.all false
set_option maxHeartbeats 40000000
set_option maxRecDepth 100000
open Go.Proofs.Tryz
open Or (inl inr)
open Option (bind_eq_some_iff)
open Nat (le_refl zero_le lt_succ_self)
open List (length_cons mem_cons)
namespace Go.Proofs.YtbkiipiocpnnnaaGreatDoor
open Go.RowKit
section
variable {ad:List Nat}{tb lb:Nat}
theorem lookE_anyC:∀(n:Nat)(nd:Nd)(ρ:Env)(s:Lk)(w:World)(nb:Nat),NoCM nd->nd.ht<n->WfN nd->nd.all.length<=100000000->NMem w nd nb->LkAt ad ρ tb lb s w ->
  Calls prog 93 #[ptrV lb,ptrV nb] w (LkA ad ρ tb lb (lkE n ρ nd s) w):=by
 intro n
 induction n with
 |zero=>intro nd ρ s w nb _ h;omega
 |succ n ih=>
  intro nd ρ s w nb hc hh hw hl hm h
  obtain⟨k,txt,ps⟩:=nd
  obtain⟨hsh,htx,hpl⟩:=hw.own
  have hE:∀p∈ps,∀(b:Nat)(s:Lk)(u:World),NMem u p b->LkAt ad ρ tb lb s u->Calls prog 93 #[ptrV lb,ptrV b] u (LkA ad ρ tb lb (lkE n ρ p s) u):=fun p hp b s u hmp hlp=>ih p ρ s u b (hc.sub hp) (Nd.ht_lt hp hh) (hw.sub hp) (all_len hp hl) hmp hlp
  have hG:∀p∈ps,∀(b:Nat),NMem w p b->∀(ρ2:Env)(s2:Lk)(u:World),Kn (fun k=>k=tb\/k=lb) w u->LkAt ad ρ2 tb lb s2 u->Calls prog 93 #[ptrV lb,ptrV b] u (LkA ad ρ2 tb lb (lkE n ρ2 p s2) u):=fun p hp b hmp ρ2 s2 u hk hlp=>ih p ρ2 s2 u b (hc.sub hp) (Nd.ht_lt hp hh) (hw.sub hp) (all_len hp hl) (h.tree hk hmp) hlp
  by_cases h3:k=3
  ·subst h3;rw[lkE_var];exact lookE_var htx h hm
  by_cases h5:k=5
  ·subst h5
   obtain⟨a,rfl⟩:=list_one hsh
   obtain⟨g,cap,bl,hp,hms,_⟩:=hm.pt (by simp)
   obtain⟨ba,bl',rfl,ma,h0⟩:=NMems.cons_inv hms
   obtain rfl:bl'=[]:=List.length_eq_zero_iff.1 h0.len
   rw[lkE_fun]
   exact lookE_fun htx h hp fun u hk hl=>hG a (by simp) ba ma _ _ u hk hl
  by_cases h6:k=6
  ·subst h6
   obtain⟨a,b,rfl⟩:=list_two hsh
   obtain⟨g,cap,bl,hp,hms,_⟩:=hm.pt (by simp)
   obtain⟨ba,bl',rfl,ma,hms⟩:=NMems.cons_inv hms
   obtain⟨bb,bl',rfl,mb,h0⟩:=NMems.cons_inv hms
   obtain rfl:bl'=[]:=List.length_eq_zero_iff.1 h0.len
   rw[lkE_let]
   exact lookE_let htx h hp (fun u hk hl=>hG a (by simp) ba ma _ _ u hk hl) fun u hk hl=>hG b (by simp) bb mb _ _ u hk hl
  by_cases h7:k=7
  ·subst h7
   obtain⟨a,b,rfl⟩:=list_two hsh
   obtain⟨g,cap,bl,hp,hms,_⟩:=hm.pt (by simp)
   obtain⟨ba,bl',rfl,ma,hms⟩:=NMems.cons_inv hms
   obtain⟨bb,bl',rfl,mb,h0⟩:=NMems.cons_inv hms
   obtain rfl:bl'=[]:=List.length_eq_zero_iff.1 h0.len
   rw[lkE_rec]
   exact lookE_rec htx h hp (fun u hk hl=>hG a (by simp) ba ma _ _ u hk hl) fun u hk hl=>hG b (by simp) bb mb _ _ u hk hl
  have h14:k≠14:=hc.own.1
  have h16:k≠16:=hc.own.2.2
  rw[lkE_parts _ _ _ _ _ _ h3 h5 h6 h7 h14 h16]
  exact lookE_parts (f:=fun p s=>lkE n ρ p s) h3 h5 h6 h7 h14 h16 h hm hE
end
section
variable {ad:List Nat}{ρ:Env}{tb lb:Nat}{s s':Lk}{w w':World}{nb:Nat}{txt:Nm}
theorem lookD_anyC{k:Nat}{ps:List Nd}(h18:k≠18)(hc:NoCM (.mk k txt ps))(hd:DeclOk k txt ps)(h:LkAt ad ρ tb lb s w)(hn:NMem w (.mk k txt ps) nb) :
 Calls prog 57 #[ptrV lb,ptrV nb] w (LkA ad ρ tb lb (lkD ρ (.mk k txt ps) s) w):=by
 obtain⟨a,r,rfl,hw,hl⟩:=hd.val h18
 have hca:NoCM a:=hc.sub (by simp[Nd.ps])
 obtain⟨g,cap,bl,hp,hms,_⟩:=hn.pt (by simp)
 obtain⟨ba,bl',rfl,ma,_⟩:=NMems.cons_inv hms
 by_cases h7:k=7
 ·subst h7
  rw[lkD_rec]
  exact lookD_rec hd.text h hp fun u hk hlu=>lookE_anyC (a.ht+1) a _ _ u ba hca (lt_succ_self _) hw hl (h.tree hk ma) hlu
 ·rw[lkD_val h18 h7]
  exact lookD_val h18 h7 h hp (lookE_anyC (a.ht+1) a _ _ w ba hca (lt_succ_self _) hw hl ma h)
theorem lookNames_anyC{k:Nat}{ps:List Nd}(h18:k≠18)(hc:NoCM (.mk k txt ps))(hd:DeclOk k txt ps)(h:Tab ad tb ρ w)(hn:NMem w (.mk k txt ps) nb) :
  Calls prog 30 #[.map (some tb),ptrV nb] w fun e u=>e=.returned (.int .i64 (lkErr (lkD ρ (.mk k txt ps) ⟨false,false⟩)))/\Tab ad tb ρ u/\Kn (·=tb) w u:=by
 have hk1:Kn (fun _=>False) w (w.alloc (.cells #[.map (some tb),.bool false,.bool false] tyLook)):=(Kn.refl _ w).alloc _
 have hl:LkAt ad ρ tb w.heap.size ⟨false,false⟩ (w.alloc (.cells #[.map (some tb),.bool false,.bool false] tyLook)):=⟨h.stays hk1,(MapKept.heap_alloc w _).1⟩
 have hn1:NMem (w.alloc (.cells #[.map (some tb),.bool false,.bool false] tyLook)) (.mk k txt ps) nb:=NMem.kept (fun k c f hc=>hk1.block k (lt_of_heap hc) id) (fun k c f hc=>hk1.block k (lt_of_heap hc) id) _ nb hn
 have hD:=(lookD_anyC h18 hc hd hl hn1).mono (R':=fun e u=>e=.returned (.tuple #[])/\u.cell? ⟨w.heap.size,1,none⟩=some (.bool (lkD ρ (.mk k txt ps) ⟨false,false⟩).wn)/\u.cell? ⟨w.heap.size,2,none⟩=some (.bool (lkD ρ (.mk k txt ps) ⟨false,false⟩).wc)/\Tab ad tb ρ u/\Kn (·=tb) w u) fun e u ha=>by
  obtain⟨rfl,a2,a3⟩:=ha
  refine⟨rfl,by simp[World.cell?,a2.lk],by simp[World.cell?,a2.lk],a2.tab,(hk1.wide fun _ _ h=>h.elim).trans' a3 fun i hi hd=>?_⟩
  rcases hd with hd|hd
  ·exact hd
  ·omega
 have HD:=hide hD
 generalize hQ:(fun(e:Ending) (u:World)=>e=.returned (.int .i64 (lkErr (lkD ρ (.mk k txt ps) ⟨false,false⟩)))/\Tab ad tb ρ u/\Kn (·=tb) w u)=Q
 unfold lkErr at hQ
 generalize lkD ρ (.mk k txt ps) ⟨false,false⟩=L at *
 obtain⟨wn,wc⟩:=L
 have hq:∀u,Tab ad tb ρ u/\Kn (·=tb) w u->Q (.returned (.int .i64 ((if wn=true then 4 else if wc=true then 5 else 0:Nat):Int))) u:=fun u hu=>by rw[<- hQ];exact⟨rfl,hu⟩
 have HQ:=hide hq
 clear hq hQ hD hn1 hl hk1 hn h hd hc h18
 dsimp only at HD
 unfold ptrV at *
 cases wn with
 |true=>
  simp only[if_true]at HQ
  go_enter func30,ntmps30
  go_wp2_with fail
  refine(HD.out).mono ?_;rintro e u⟨rfl,c1,c2,hu⟩
  have HG:=hide (HQ.out u hu)
  clear hu HD HQ
  go_wp2
  exact HG.out
 |false=>
  cases wc with
  |true=>
   go_enter func30,ntmps30
   go_wp2_with fail
   refine(HD.out).mono ?_;rintro e u⟨rfl,c1,c2,hu⟩
   have HG:=hide (HQ.out u hu)
   clear hu HD HQ
   go_wp2
   exact HG.out
  |false=>
   go_enter func30,ntmps30
   go_wp2_with fail
   refine(HD.out).mono ?_;rintro e u⟨rfl,c1,c2,hu⟩
   have HG:=hide (HQ.out u hu)
   clear hu HD HQ
   go_wp2
   exact HG.out
end
def Tr.full:Tr->Prop
 |.mk is name ts=>(is=K.named_->name≠[])/\fulls ts
 where
 fulls:List Tr->Prop
  |[]=>True
  |t::r=>t.full/\fulls r
theorem Tr.full_mk{is name:List UInt8}{ts:List Tr}(h:is=K.named_->name≠[])(hs:Tr.full.fulls ts):(Tr.mk is name ts).full:=by rw[Tr.full];exact⟨h,hs⟩
theorem Tr.fulls_nil:Tr.full.fulls []:=by rw[Tr.full.fulls];trivial
theorem Tr.fulls_cons{t:Tr}{l:List Tr}(h:t.full)(hl:Tr.full.fulls l):Tr.full.fulls (t::l):=by rw[Tr.full.fulls];exact⟨h,hl⟩
theorem Tr.fulls_append:∀{a b:List Tr},Tr.full.fulls a->Tr.full.fulls b->Tr.full.fulls (a++b):=by
 intro a
 induction a with
 |nil=>intro b _ h;exact h
 |cons t r ih=>intro b h hb;rw[Tr.full.fulls]at h;exact Tr.fulls_cons h.1 (ih h.2 hb)
theorem head_ne{k:Int}{ts:Toks}(h0:k≠0)(h:(G.kindOf ts==k)=true):ts.headD []≠[]:=by
 intro e
 unfold G.kindOf at h
 rw[e]at h
 have:tokKind []=k:=by simpa using h
 exact h0 (this.symm.trans (by decide))
theorem kindO_ne{k:Int}{ts:Toks}{q:List UInt8×Toks}(h0:k≠0)(h:G.kind k ts=some q):q.1≠[]:=by
 unfold G.kind at h
 cases k1:(G.kindOf ts==k)
 ·rw[k1]at h;cases h
 ·rw[k1]at h;rw[<- Option.some.inj h];exact head_ne h0 k1
theorem kindO_not{k:Int}{ts:Toks}{q:List UInt8×Toks}{x:List UInt8}(h0:tokKind x≠k)(h:G.kind k ts=some q):q.1≠x:=by
 unfold G.kind at h
 cases k1:(G.kindOf ts==k)
 ·rw[k1]at h;cases h
 ·rw[k1]at h
  rw[<- Option.some.inj h]
  intro e
  unfold G.kindOf at k1
  have e:ts.headD []=x:=e
  rw[e]at k1
  exact h0 (by simpa using k1)
theorem types_full:∀n,(∀ts q,G.atypes n ts=some q->Tr.full.fulls q.1)/\(∀ts q,G.atypes.typ1 n ts=some q->q.1.full)/\(∀ts q,G.atypes.typ n ts=some q->q.1.full):=by
 intro n
 induction n with
 |zero=>exact⟨fun _ _ h=>by simp[G.atypes]at h,fun _ _ h=>by simp[G.atypes.typ1]at h,fun _ _ h=>by simp[G.atypes.typ]at h⟩
 |succ n ih=>
  obtain⟨ihA,ih1,ihT⟩:=ih
  refine⟨fun ts q h=>?_,fun ts q h=>?_,fun ts q h=>?_⟩
  ·rw[G.atypes]at h
   cases k1:(G.kindOf ts==108)
   ·rw[k1,cond_false]at h
    cases k2:(G.kindOf ts==110)
    ·rw[k2,cond_false]at h
     cases k3:G.isW K.open_ ts
     ·rw[k3,cond_false]at h
      rw[<- Option.some.inj h]
      exact Tr.fulls_nil
     ·rw[k3,cond_true]at h
      simp only[bind_eq_some_iff]at h
      obtain⟨a,ha,r,hr,l,hl,h⟩:=h
      rw[<- Option.some.inj h]
      exact Tr.fulls_cons (ihT _ _ ha) (ihA _ _ hl)
    ·rw[k2,cond_true]at h
     simp only[bind_eq_some_iff]at h
     obtain⟨l,hl,h⟩:=h
     rw[<- Option.some.inj h]
     exact Tr.fulls_cons (Tr.full_mk (fun _=>head_ne (by decide) k2) Tr.fulls_nil) (ihA _ _ hl)
   ·rw[k1,cond_true]at h
    simp only[bind_eq_some_iff]at h
    obtain⟨l,hl,h⟩:=h
    rw[<- Option.some.inj h]
    exact Tr.fulls_cons (Tr.full_mk (fun e=>absurd e (by decide)) Tr.fulls_nil) (ihA _ _ hl)
  ·rw[G.atypes.typ1]at h
   cases k1:(G.kindOf ts==110)
   ·rw[k1,cond_false]at h
    cases k2:(G.kindOf ts==108)
    ·rw[k2,cond_false]at h
     simp only[bind_eq_some_iff]at h
     obtain⟨r0,hr0,a,ha,r,hr,h⟩:=h
     rw[<- Option.some.inj h]
     have h1:=ihT _ _ ha
     exact h1
    ·rw[k2,cond_true]at h
     rw[<- Option.some.inj h]
     exact Tr.full_mk (fun e=>absurd e (by decide)) Tr.fulls_nil
   ·rw[k1,cond_true]at h
    simp only[bind_eq_some_iff]at h
    obtain⟨l,hl,h⟩:=h
    rw[<- Option.some.inj h]
    exact Tr.full_mk (fun _=>head_ne (by decide) k1) (ihA _ _ hl)
  ·rw[G.atypes.typ]at h
   simp only[bind_eq_some_iff]at h
   obtain⟨a,ha,h⟩:=h
   have h1:=ih1 _ _ ha
   cases k1:G.isW K.arrow_ a.2
   ·rw[k1,cond_false]at h
    rw[<- Option.some.inj h];exact h1
   ·rw[k1,cond_true]at h
    simp only[bind_eq_some_iff]at h
    obtain⟨b,hb,h⟩:=h
    rw[<- Option.some.inj h]
    exact Tr.full_mk (fun e=>absurd e (by decide)) (Tr.fulls_cons h1 (Tr.fulls_cons (ihT _ _ hb) Tr.fulls_nil))
theorem variants_full:∀n ts q,G.variants n ts=some q->Tr.full.fulls q.1:=by
 intro n
 induction n with
 |zero=>intro ts q h;simp[G.variants]at h
 |succ n ih=>
  intro ts q h
  rw[G.variants]at h
  simp only[bind_eq_some_iff]at h
  obtain⟨c,hc,l,hl,h⟩:=h
  have h1:=kindO_ne (by decide) hc
  have h2:=(types_full n).1 _ _ hl
  cases k1:G.isW K.bar_ l.2
  ·rw[k1,cond_false]at h
   rw[<- Option.some.inj h]
   exact Tr.fulls_cons (Tr.full_mk (fun _=>h1) h2) Tr.fulls_nil
  ·rw[k1,cond_true]at h
   simp only[bind_eq_some_iff]at h
   obtain⟨v,hv,h⟩:=h
   rw[<- Option.some.inj h]
   exact Tr.fulls_cons (Tr.full_mk (fun _=>h1) h2) (ih _ _ hv)
theorem letters_full:∀l:Toks,Tr.full.fulls (G.letters l):=by
 intro l
 induction l with
 |nil=>exact Tr.fulls_nil
 |cons a r ih=>exact Tr.fulls_cons (Tr.full_mk (fun e=>absurd e (by decide)) Tr.fulls_nil) ih
theorem binding_is{n:Nat}{ts:Toks}{b:List UInt8×List UInt8×Tr×Toks}(h:G.binding n ts=some b):b.1=K.rec_\/b.1=K.let_:=by
 cases n with
 |zero=>simp[G.binding]at h
 |succ n=>
  rw[G.binding]at h
  simp only[bind_eq_some_iff]at h
  obtain⟨nm,_,h⟩:=h
  cases hc:(G.isW K.rec_ ts && (G.every 110 nm.2).1.isEmpty)
  ·rw[hc,cond_false]at h
   simp only[bind_eq_some_iff]at h
   obtain⟨_,_,x,_,h⟩:=h
   rw[<- Option.some.inj h]
   cases G.isW K.rec_ ts
   ·exact inr rfl
   ·exact inl rfl
  ·rw[hc]at h;cases h
def Tr.dfull(t:Tr):Prop:=t.is=K.type_->t.name≠[]/\t.name≠[45,62]/\Tr.full.fulls t.parts
theorem decl_full{n:Nat}{ts:Toks}{t:Tr}(h:G.decl n ts=some t):t.dfull:=by
 unfold G.decl at h
 simp only[bind_eq_some_iff]at h
 obtain⟨q,hq,h⟩:=h
 have ht:q.1=t:=by
  cases k:q.2.isEmpty
  ·rw[k]at h;cases h
  ·rw[k]at h;exact Option.some.inj h
 rw[<- ht]
 intro he
 cases k1:G.isW K.type_ ts
 ·exfalso
  rw[k1,cond_false]at hq
  cases k2:G.isW K.do_ ts
  ·rw[k2,cond_false]at hq
   simp only[bind_eq_some_iff]at hq
   obtain⟨r,hr,b,hb,hq⟩:=hq
   rw[<- Option.some.inj hq]at he
   rcases binding_is hb with h1|h1
   ·exact absurd (h1.symm.trans he) (by decide)
   ·exact absurd (h1.symm.trans he) (by decide)
  ·rw[k2,cond_true]at hq
   simp only[bind_eq_some_iff]at hq
   obtain⟨x,hx,hq⟩:=hq
   rw[<- Option.some.inj hq]at he
   have he:K.do_=K.type_:=he
   exact absurd he (by decide)
 ·rw[k1,cond_true]at hq
  simp only[bind_eq_some_iff]at hq
  obtain⟨nm,hnm,r,hr,v,hv,hq⟩:=hq
  rw[<- Option.some.inj hq]
  exact⟨kindO_ne (by decide) hnm,kindO_not (by decide) hnm,Tr.fulls_append (letters_full _) (variants_full _ _ _ hv)⟩
def kdOf(c:Nat)(is name:Nm):Nat×Nm:=
 if c=6 then(16,[])
 else if c=5 then(19,name)
 else if c=3 then(20,name)
 else if c=2 then(if is=K.var_ then(21,name.drop 1)else if is=K.named_ then(22,name)else(23,[]))
 else if c=4 then(if is=K.do_ then(17,[])else if is=K.type_ then(18,name)else if is=K.let_ then(6,name)else(7,name))
 else if is=K.num_ then(0,name)
 else if is=K.const_ then(if name=K.under_ then(4,name)else if name=K.unit_ then(2,name)else(1,name))
 else if is=K.var_ then(3,name)
 else if is=K.fun_ then(5,name)
 else if is=K.let_ then(6,name)
 else if is=K.rec_ then(7,name)
 else if is=K.if_ then(8,[])
 else if is=K.seq_ then(9,[])
 else if is=K.setN_ then(10,[])
 else if is=K.bang_ then(12,[])
 else if is=K.app_ then(13,[])
 else if is=K.con_ then(14,name)
 else if is=K.match_ then(15,[])
 else(11,is)
def partC(c:Nat)(is:Nm)(i:Nat)(t:Tr):Nat:=
 if c=6 then(if i=0 then 1 else 0)
 else if c=3 then 2
 else if c=2 then 2
 else if c=4 then(if is=K.type_ then(if t.is=K.var_ then 5 else 3)else 0)
 else if c=0 then(if is=K.match_ then(if i=0 then 0 else 6)else 0)
 else c
def ndOf:Nat->Tr->Nd
 |c,.mk is name ts=>.mk (kdOf c is name).1 (kdOf c is name).2 (nds c is 0 ts)
 where
 nds (c:Nat) (is:Nm):Nat->List Tr->List Nd
  |_,[]=>[]
  |i,t::r=>ndOf (partC c is i t) t::nds c is (i+1) r
theorem ndOf_mk(c:Nat)(is name:Nm)(ts:List Tr):ndOf c (.mk is name ts)=.mk (kdOf c is name).1 (kdOf c is name).2 (ndOf.nds c is 0 ts):=by rw[ndOf]
theorem kd_low{c:Nat}(h:c<=1):c≠6/\c≠5/\c≠3/\c≠2/\c≠4:=by omega
theorem KindOf.kd{c:Nat}{is name:List UInt8}{k:Int}{txt:List UInt8}{cs:List Nat}(h:KindOf c is name k txt cs):(kdOf c is name).2=txt/\((kdOf c is name).1:Int)=k:=by
 refine h (fun c is name k txt _=>(kdOf c is name).2=txt/\((kdOf c is name).1:Int)=k) ?_ ?_ ?_ ?_ ?_ ?_ ?_ ?_ ?_ ?_ ?_ ?_ ?_ ?_ ?_ ?_ ?_ ?_ ?_ ?_ ?_ ?_ ?_ ?_ ?_ ?_
 ·intro c hc x;obtain⟨h1,h2,h3,h4,h5⟩:=kd_low hc;simp[kdOf,h1,h2,h3,h4,h5]
 ·intro c hc x hx;obtain⟨h1,h2,h3,h4,h5⟩:=kd_low hc
  rcases hx with rfl|rfl<;>simp[kdOf,h1,h2,h3,h4,h5,show ¬K.const_=K.num_ by decide,show ¬K.true_=K.under_ by decide,show ¬K.true_=K.unit_ by decide,show ¬K.false_=K.under_ by decide,show ¬K.false_=K.unit_ by decide]
 ·intro c hc;obtain⟨h1,h2,h3,h4,h5⟩:=kd_low hc;simp[kdOf,h1,h2,h3,h4,h5,show ¬K.const_=K.num_ by decide,show ¬K.unit_=K.under_ by decide]
 ·intro c hc x;obtain⟨h1,h2,h3,h4,h5⟩:=kd_low hc;simp[kdOf,h1,h2,h3,h4,h5,show ¬K.var_=K.num_ by decide,show ¬K.var_=K.const_ by decide]
 ·exact⟨rfl,rfl⟩
 ·intro x;exact⟨rfl,rfl⟩
 ·intro x;exact⟨rfl,rfl⟩
 ·intro x;exact⟨rfl,rfl⟩
 ·exact⟨rfl,rfl⟩
 ·exact⟨rfl,rfl⟩
 ·exact⟨rfl,rfl⟩
 ·intro x hx
  simp only[mem_cons,List.not_mem_nil,or_false]at hx
  rcases hx with rfl|rfl|rfl|rfl|rfl|rfl<;>exact⟨rfl,rfl⟩
 ·exact⟨rfl,rfl⟩
 ·exact⟨rfl,rfl⟩
 ·intro c hc x n;obtain⟨h1,h2,h3,h4,h5⟩:=kd_low hc
  have e:c=0\/c=1:=by omega
  rcases e with rfl|rfl<;>exact⟨rfl,rfl⟩
 ·intro n;exact⟨rfl,rfl⟩
 ·exact⟨rfl,rfl⟩
 ·exact⟨rfl,rfl⟩
 ·intro x n m;exact⟨rfl,rfl⟩
 ·intro x;exact⟨rfl,rfl⟩
 ·intro x n;exact⟨rfl,rfl⟩
 ·intro x;exact⟨rfl,rfl⟩
 ·intro x n;exact⟨rfl,rfl⟩
 ·exact⟨rfl,rfl⟩
 ·intro x;exact⟨rfl,rfl⟩
 ·intro x;exact⟨rfl,rfl⟩
theorem KindOf.own_is{is name:List UInt8}{k:Int}{txt:List UInt8}{cs:List Nat}(h:KindOf 5 is name k txt cs):is=K.var_:=
 h (fun c is _ _ _ _=>c=5->is=K.var_) (fun c hc _ e=>by omega) (fun c hc _ _ e=>by omega) (fun c hc e=>by omega) (fun c hc _ e=>by omega) (fun e=>by omega) (fun _ e=>by omega) (fun _ e=>by omega) (fun _ e=>by omega) (fun e=>by omega) (fun e=>by omega) (fun e=>by omega) (fun _ _ e=>by omega) (fun e=>by omega) (fun e=>by omega) (fun c hc _ _ e=>by omega) (fun _ e=>by omega) (fun e=>by omega) (fun e=>by omega) (fun _ _ _ e=>by omega) (fun _ _=>rfl) (fun _ _ e=>by omega) (fun _ e=>by omega) (fun _ _ e=>by omega) (fun e=>by omega) (fun _ e=>by omega) (fun _ e=>by omega) rfl
theorem KindOf.variant_is{is name:List UInt8}{k:Int}{txt:List UInt8}{cs:List Nat}(h:KindOf 3 is name k txt cs):is=K.named_:=
 h (fun c is _ _ _ _=>c=3->is=K.named_) (fun c hc _ e=>by omega) (fun c hc _ _ e=>by omega) (fun c hc e=>by omega) (fun c hc _ e=>by omega) (fun e=>by omega) (fun _ e=>by omega) (fun _ e=>by omega) (fun _ e=>by omega) (fun e=>by omega) (fun e=>by omega) (fun e=>by omega) (fun _ _ e=>by omega) (fun e=>by omega) (fun e=>by omega) (fun c hc _ _ e=>by omega) (fun _ e=>by omega) (fun e=>by omega) (fun e=>by omega) (fun _ _ _ e=>by omega) (fun _ e=>by omega) (fun _ _ _=>rfl) (fun _ e=>by omega) (fun _ _ e=>by omega) (fun e=>by omega) (fun _ e=>by omega) (fun _ e=>by omega) rfl
def PartsOk(c:Nat)(is:Nm)(cs:List Nat)(ts:List Tr):Prop:=∀(j:Nat)(t:Tr)(d:Nat),cs[j]?=some d->ts[j]?=some t->(d=5->t.is=K.var_)->(d=3->t.is=K.named_)->partC c is j t=d
theorem KindOf.parts{c:Nat}{is name:List UInt8}{k:Int}{txt:List UInt8}{cs:List Nat}(h:KindOf c is name k txt cs)(ts:List Tr):PartsOk c is cs ts:=by
 refine h (fun c is _ _ _ cs=>PartsOk c is cs ts) ?_ ?_ ?_ ?_ ?_ ?_ ?_ ?_ ?_ ?_ ?_ ?_ ?_ ?_ ?_ ?_ ?_ ?_ ?_ ?_ ?_ ?_ ?_ ?_ ?_ ?_
 ·intro c hc x j t d hd;simp at hd
 ·intro c hc x hx j t d hd;simp at hd
 ·intro c hc j t d hd;simp at hd
 ·intro c hc x j t d hd;simp at hd
 ·intro j t d hd;simp at hd
 ·intro x j t d hd _ _ _
  match j,hd with
  |0,hd=>cases hd;rfl
 ·intro x j t d hd _ _ _
  match j,hd with
  |0,hd=>cases hd;rfl
  |1,hd=>cases hd;rfl
 ·intro x j t d hd _ _ _
  match j,hd with
  |0,hd=>cases hd;rfl
  |1,hd=>cases hd;rfl
 ·intro j t d hd _ _ _
  match j,hd with
  |0,hd=>cases hd;rfl
  |1,hd=>cases hd;rfl
  |2,hd=>cases hd;rfl
 ·intro j t d hd _ _ _
  match j,hd with
  |0,hd=>cases hd;rfl
  |1,hd=>cases hd;rfl
 ·intro j t d hd _ _ _
  match j,hd with
  |0,hd=>cases hd;rfl
  |1,hd=>cases hd;rfl
 ·intro x hx j t d hd _ _ _
  have hp:partC 0 x j t=0:=by
   have hm:¬x=K.match_:=fun e=>by rw[e]at hx;exact absurd hx (by decide)
   simp[partC,hm]
  match j,hd with
  |0,hd=>cases hd;exact hp
  |1,hd=>cases hd;exact hp
 ·intro j t d hd _ _ _
  match j,hd with
  |0,hd=>cases hd;rfl
 ·intro j t d hd _ _ _
  match j,hd with
  |0,hd=>cases hd;rfl
  |1,hd=>cases hd;rfl
 ·intro c hc x n j t d hd _ _ _
  have hd:=(List.getElem?_replicate.symm.trans hd)
  split at hd
  ·cases hd
   have e:c=0\/c=1:=by omega
   rcases e with rfl|rfl<;>rfl
  ·cases hd
 ·intro n j t d hd _ _ _
  cases j with
  |zero=>cases hd;rfl
  |succ j=>
   rw[List.getElem?_cons_succ,List.getElem?_replicate]at hd
   split at hd
   ·cases hd;simp[partC]
   ·cases hd
 ·intro j t d hd _ _ _
  match j,hd with
  |0,hd=>cases hd;rfl
  |1,hd=>cases hd;rfl
 ·intro j t d hd _ _ _
  match j,hd with
  |0,hd=>cases hd;rfl
 ·intro x n m j t d hd _ h5 h3
  rw[List.getElem?_append]at hd
  split at hd
  ·rw[List.getElem?_replicate]at hd
   split at hd
   ·cases hd;simp[partC,h5 rfl]
   ·cases hd
  ·rw[List.getElem?_replicate]at hd
   split at hd
   ·cases hd
    simp[partC,h3 rfl,show ¬K.named_=K.var_ by decide]
   ·cases hd
 ·intro x j t d hd;simp at hd
 ·intro x n j t d hd _ _ _
  rw[List.getElem?_replicate]at hd
  split at hd
  ·cases hd;rfl
  ·cases hd
 ·intro x j t d hd;simp at hd
 ·intro x n j t d hd _ _ _
  rw[List.getElem?_replicate]at hd
  split at hd
  ·cases hd;rfl
  ·cases hd
 ·intro j t d hd _ _ _
  match j,hd with
  |0,hd=>cases hd;rfl
  |1,hd=>cases hd;rfl
 ·intro x j t d hd _ _ _
  match j,hd with
  |0,hd=>cases hd;rfl
 ·intro x j t d hd _ _ _
  match j,hd with
  |0,hd=>cases hd;rfl
def Sh:Nat->Nd->Prop
 |c,.mk k txt ps=>∃(is name:Nm) (cs:List Nat),KindOf c is name k txt cs/\Shs cs ps
 where
 Shs:List Nat->List Nd->Prop
  |[],[]=>True
  |c::cs,p::ps=>Sh c p/\Shs cs ps
  |_,_=>False
theorem Sh.mk{c k:Nat}{txt:Nm}{ps:List Nd}{is name:Nm}{cs:List Nat}(h:KindOf c is name k txt cs)(hs:Sh.Shs cs ps):Sh c (.mk k txt ps):=by rw[Sh];exact⟨is,name,cs,h,hs⟩
theorem Sh.inv{c k:Nat}{txt:Nm}{ps:List Nd}(h:Sh c (.mk k txt ps)):∃(is name:Nm) (cs:List Nat),KindOf c is name k txt cs/\Sh.Shs cs ps:=by rw[Sh]at h;exact h
theorem NMem.joined{w:World}{p:Nd}{ps:List Nd}{b:Nat}{l:List Nat}(h:NMem w p b)(hs:NMem.NMems w ps l):NMem.NMems w (p::ps) (b::l):=by rw[NMem.NMems];exact⟨h,hs⟩
def Nd.ms:Nd->Nat
 |.mk _ txt ps=>1+txt.length+mss ps
 where
 mss:List Nd->Nat
  |[]=>0
  |p::r=>p.ms+mss r
theorem KindOf.leaf{c:Nat}{is name:List UInt8}{k:Int}{txt:List UInt8}{cs:List Nat}(h:KindOf c is name k txt cs):leafT is=true->cs=[]:=by
 refine h (fun _ is _ _ _ cs=>leafT is=true->cs=[]) ?_ ?_ ?_ ?_ ?_ ?_ ?_ ?_ ?_ ?_ ?_ ?_ ?_ ?_ ?_ ?_ ?_ ?_ ?_ ?_ ?_ ?_ ?_ ?_ ?_ ?_
 case refine_12=>
  intro x hx hl
  simp only[mem_cons,List.not_mem_nil,or_false]at hx
  rcases hx with rfl|rfl|rfl|rfl|rfl|rfl<;>exact absurd hl (by decide)
 all_goals first|(intros;rfl)|(intro hl;exact absurd hl (by decide))|(intro _ hl;exact absurd hl (by decide))|(intro _ _ hl;exact absurd hl (by decide))|(intro _ _ _ hl;exact absurd hl (by decide))|(intro _ _ _ _ hl;exact absurd hl (by decide))
theorem KindOf.txtLen{c:Nat}{is name:List UInt8}{k:Int}{txt:List UInt8}{cs:List Nat}(h:KindOf c is name k txt cs):txt.length<=name.length\/(txt=is/\leafT is=false):=by
 refine h (fun _ is name _ txt _=>txt.length<=name.length\/(txt=is/\leafT is=false)) ?_ ?_ ?_ ?_ ?_ ?_ ?_ ?_ ?_ ?_ ?_ ?_ ?_ ?_ ?_ ?_ ?_ ?_ ?_ ?_ ?_ ?_ ?_ ?_ ?_ ?_
 case refine_12=>
  intro x hx
  refine inr ⟨rfl,?_⟩
  simp only[mem_cons,List.not_mem_nil,or_false]at hx
  rcases hx with rfl|rfl|rfl|rfl|rfl|rfl<;>decide
 case refine_22=>intro x;exact inl (by simp)
 all_goals (intros;exact inl (le_refl _))
theorem mu_ge{is name:List UInt8}{ts:List Tr}(h:leafT is=false):1+name.length+mus ts<=mu (.mk is name ts)/\(is≠K.named_->1+is.length+mus ts<=mu (.mk is name ts)):=by
 unfold mu mus
 rw[Tr.text,h,cond_false]
 unfold headT
 cases hn:(is==K.named_)with
 |true=>
  rw[cond_true]
  refine⟨by simp;omega,fun hne=>absurd (by simpa using hn) hne⟩
 |false=>
  rw[cond_false]
  cases he:(name==[])with
  |true=>
   rw[cond_true]
   have:name=[]:=by simpa using he
   subst this
   exact⟨by simp;omega,fun _=>by simp;omega⟩
  |false=>
   rw[cond_false]
   exact⟨by simp;omega,fun _=>by simp;omega⟩
theorem KindOf.not_named{c:Nat}{is name:List UInt8}{k:Int}{cs:List Nat}(h:KindOf c is name k is cs)(hn:is=K.named_):is.length<=name.length\/False:=by
 rcases h.txtLen with h1|⟨_,h2⟩
 ·exact inl h1
 ·subst hn
  have:=h (fun _ is name _ txt _=>is=K.named_->txt.length<=name.length) (by intros;exact le_refl _) (by intros;exact le_refl _) (by intros;exact le_refl _) (by intros;exact le_refl _) (by intros;exact le_refl _) (by intros;exact le_refl _) (by intros;exact le_refl _) (by intros;exact le_refl _) (by intros;exact le_refl _) (by intros;exact le_refl _) (by intros;exact le_refl _) (by
   intro x hx e
   simp only[mem_cons,List.not_mem_nil,or_false]at hx
   rcases hx with rfl|rfl|rfl|rfl|rfl|rfl<;>exact absurd e (by decide)) (by intros;exact le_refl _) (by intros;exact le_refl _) (by intros;exact le_refl _) (by intros;exact le_refl _) (by intros;exact le_refl _) (by intros;exact le_refl _) (by intros;exact le_refl _) (by intros;exact le_refl _) (by intros;exact le_refl _) (by intros;simp) (by intros;exact le_refl _) (by intros;exact le_refl _) (by intros;exact le_refl _) (by intros;exact le_refl _)
  exact inl (this rfl)
theorem Mem.nd{A:Nat->Prop}{w:World}{c:Nat}{t:Tr}{b:Nat}(h:Mem A w c t b):NMem w (ndOf c t) b/\Sh c (ndOf c t)/\(ndOf c t).ms<=mu t:=by
 refine(Mem.both (P:=fun c t b=>NMem w (ndOf c t) b/\Sh c (ndOf c t)/\(ndOf c t).ms<=mu t)
  (Q:=fun cs ts bs=>cs.length=ts.length/\∀(c:Nat)(is:Nm)(i:Nat),(∀(j:Nat)(t:Tr)(d:Nat),cs[j]?=some d->ts[j]?=some t->(d=5->t.is=K.var_)->(d=3->t.is=K.named_)->partC c is (i+j) t=d)->NMem.NMems w (ndOf.nds c is i ts) bs/\Sh.Shs cs (ndOf.nds c is i ts)/\Nd.ms.mss (ndOf.nds c is i ts)<=mus ts) ?_ ?_ ?_).1 t c b h
 ·intro c is name ts k txt cs b pv ps hk hb hr hA hm hQ
  obtain⟨hl,hQ⟩:=hQ
  obtain⟨h1,h2⟩:=hk.kd
  obtain⟨q1,q2,q3⟩:=hQ c is 0 (fun j t d hd ht h5 h3=>by rw[Nat.zero_add];exact hk.parts ts j t d hd ht h5 h3)
  rw[ndOf_mk]
  refine⟨?_,?_,?_⟩
  ·refine NMem.mk (pv:=pv) (bs':=ps) ?_ hr q1
   rw[h1,h2];exact hb
  ·refine Sh.mk (is:=is) (name:=name) (cs:=cs) ?_ q2
   rw[h1,h2];exact hk
  ·rw[Nd.ms,h1]
   cases hlf:leafT is with
   |true=>
    have hcs:=hk.leaf hlf
    subst hcs
    have hts:ts=[]:=List.length_eq_zero_iff.1 (by rw[<- hl];rfl)
    subst hts
    have:mu (.mk is name [])=name.length+1:=by unfold mu;rw[Tr.text,hlf,cond_true]
    rw[this]
    rcases hk.txtLen with h3|⟨_,h3⟩
    ·rw[ndOf.nds,Nd.ms.mss];omega
    ·rw[hlf]at h3;cases h3
   |false=>
    obtain⟨m1,m2⟩:=mu_ge (name:=name) (ts:=ts) hlf
    rcases hk.txtLen with h3|⟨h3,_⟩
    ·omega
    ·subst h3
     by_cases hnm:txt=K.named_
     ·rcases hk.not_named hnm with h4|h4
      ·omega
      ·exact h4.elim
     ·have:=m2 hnm
      omega
 ·refine⟨rfl,fun c is i _=>?_⟩
  rw[ndOf.nds]
  exact⟨by rw[NMem.NMems];trivial,by rw[Sh.Shs];trivial,by rw[Nd.ms.mss];exact zero_le _⟩
 ·intro c cs t ts b bs hm hms hP hQ
  refine⟨by rw[length_cons,length_cons,hQ.1],fun c0 is i hp=>?_⟩
  have hpc:partC c0 is i t=c:=by
   refine hp 0 t c rfl rfl (fun e=>?_) (fun e=>?_)
   ·subst e;obtain⟨is',name',ts'⟩:=t;obtain⟨k,txt,cs,pv,ps,hk,_⟩:=hm.inv;exact hk.own_is
   ·subst e;obtain⟨is',name',ts'⟩:=t;obtain⟨k,txt,cs,pv,ps,hk,_⟩:=hm.inv;exact hk.variant_is
  obtain⟨q1,q2,q3⟩:=hQ.2 c0 is (i+1) (fun j u d hd hu h5 h3=>by
   have:=hp (j+1) u d (by simpa using hd) (by simpa using hu) h5 h3
   rw[show i+1+j=i+(j+1) by omega];exact this)
  rw[ndOf.nds,hpc]
  refine⟨NMem.joined hP.1 q1,?_,?_⟩
  ·rw[Sh.Shs];exact⟨hP.2.1,q2⟩
  ·rw[Nd.ms.mss,mus_cons]
   have:=hP.2.2
   omega
end Go.Proofs.YtbkiipiocpnnnaaGreatDoor
