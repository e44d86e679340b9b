import Derived.Test.YtcbppnefeonmgaaGreatDoorC10
import Derived.Deep.RegionWith
set_option linter.all false
set_option maxHeartbeats 40000000
set_option maxRecDepth 100000
open Go.Proofs.Tryz
open Or (inl inr)
open Nat (le_refl le_trans lt_succ_self)
open List (length_cons)
namespace Go.Proofs.YtcbppnefeonmgaaGreatDoor
section
open Go.RowKit
section
variable {ar:Nm->Nat}{ad:List Nat}{X:Nat->Prop}{rk:Nat->Nat}{σ:TS}{w w':World}{i:Nat}
theorem stand_visits(tbx t:Nat)(ht:t<σ.nodes.length):Visits ar ad X rk σ 201 #[.pointer (some ⟨tbx,0,none⟩)] (fun _ j=>j != t) (·∈ad) (fun acc=>lower σ t acc) (fun _ w=>w.heap[tbx]?=some (.cells #[adV ad t] tyTypeP (0,0))) (fun _=>True) where
 enters:=Enters.stand1
 good _ _ _ _:=trivial
 alike acc:=lower_alike acc σ t
 ads k hk:=hk
 rows acc w k c f hs _ hd hc:=by
  obtain⟨c2,f2,h2⟩:=hs.isT hd
  rw[hc]at h2
  exact absurd (cells_ty h2) (by decide)
 stays acc w w' hz hs hk:=by rw[hk.block tbx (lt_of_heap hz) (box_ne (by decide) hz hs)];exact hz
 visit acc r w _ hs hz hr hrr:=by
  have hlen:=(lower_alike acc σ t).len
  refine(stand1_any hs (by rw[hlen];exact hr) (by rw[hlen];exact ht) hz).mono ?_
  rintro e w'⟨rfl,h2,h3⟩
  rw[lower_snoc]
  exact⟨rfl,h2,by rw[h3.block tbx (lt_of_heap hz) (box_ne (by decide) hz hs)];exact hz,h3⟩
def AnsU(ar:Nm->Nat)(ad:List Nat)(X:Nat->Prop)(o:Option TS)(w:World)(e:Ending)(w':World):Prop:=
 Kn (·∈ad) w w'/\((o=none/\e=.returned (.bool false))\/∃σ' rk',o=some σ'/\e=.returned (.bool true)/\StoM ar ad X rk' σ' w')
theorem standFor_any{t o:Nat}(h:StoM ar ad X rk σ w)(ht:t<σ.nodes.length)(ho:o<σ.nodes.length)(hl:σ.isLetter t=true)(h1:σ.root t=t)(h2:σ.root o=o)(hne:t≠o) :
  Calls prog 179 #[adV ad t,adV ad o] w (AnsU ar ad X (σ.standFor t o) w):=by
 rw[TS.standFor_eq]
 have hF:=Fits_any (h.alloc (.cells #[adV ad t] tyTypeP)) ho
 have hbox:(w.alloc (.cells #[adV ad t] tyTypeP)).heap[w.heap.size]?=some (.cells #[adV ad t] tyTypeP (0,0)):=(MapKept.heap_alloc w _).1
 have hK0:Kn (·∈ad) w (w.alloc (.cells #[adV ad t] tyTypeP)):=(Kn.refl _ w).alloc _
 cases hf:σ.fits o with
 |false=>
  rw[hf]at hF
  have hq:∀w1,AnsTB ar ad X rk σ (.bool false) (w.alloc (.cells #[adV ad t] tyTypeP)) (.returned (.bool false)) w1->AnsU ar ad X none w (.returned (.bool false)) w1:=fun w1 ha=>⟨hK0.trans ha.2.2,inl ⟨rfl,rfl⟩⟩
  simp only[Bool.false_and,Bool.false_eq_true,if_false]
  have HF:=hide hF
  have HQ:=hide hq
  clear hF hq h hbox hK0
  have hret:∀e w1,AnsTB ar ad X rk σ (.bool false) (w.alloc (.cells #[adV ad t] tyTypeP)) e w1->e=.returned (.bool false):=fun e w1 ha=>ha.1
  have HRET:=hide hret
  clear hret
  generalize AnsU ar ad X none w=Q at *
  generalize hQ1:AnsTB ar ad X rk σ (.bool false) (w.alloc (.cells #[adV ad t] tyTypeP))=Q1 at *
  clear hQ1
  unfold adV ptrV at *
  go_enter func179,ntmps179
  go_wp2_with fail
  refine(HF.out).mono ?_;intro e w1 ha
  obtain rfl:=HRET.out e w1 ha
  have HE:=hide (HQ.out w1 ha)
  clear ha HQ HF HRET
  go_wp2
  exact HE.out
 |true=>
  rw[hf]at hF
  obtain⟨acc',b,hwk⟩:=TS.fits_end hf (fun _ j=>j != t)
  have hw:∀w1,AnsTB ar ad X rk σ (.bool true) (w.alloc (.cells #[adV ad t] tyTypeP)) (.returned (.bool true)) w1->Kn (·∈ad) w w1/\w1.heap[w.heap.size]?=some (.cells #[adV ad t] tyTypeP (0,0))/\Calls prog 120 #[adV ad o,.func (.func 201) #[] #[.pointer (some ⟨w.heap.size,0,none⟩)]] w1 (AnsWk ar ad X rk (·∈ad) (fun acc=>lower σ t acc) (fun _ w1=>w1.heap[w.heap.size]?=some (.cells #[adV ad t] tyTypeP (0,0))) acc' b w1):=by
   intro w1 ha
   have hz:w1.heap[w.heap.size]?=some (.cells #[adV ad t] tyTypeP (0,0)):=by
    rw[ha.2.2.block _ (lt_of_heap hbox) (box_ne (by decide) hbox (h.alloc _))];exact hbox
   exact⟨hK0.trans ha.2.2,hz,walk_any (stand_visits w.heap.size t ht) wkFuel [] o w1 acc' b hwk ho trivial ha.2.1 hz⟩
  have hret:∀e w1,AnsTB ar ad X rk σ (.bool true) (w.alloc (.cells #[adV ad t] tyTypeP)) e w1->e=.returned (.bool true):=fun e w1 ha=>ha.1
  have hwpost:∀w1 e w2,AnsWk ar ad X rk (·∈ad) (fun acc=>lower σ t acc) (fun _ w1=>w1.heap[w.heap.size]?=some (.cells #[adV ad t] tyTypeP (0,0))) acc' b w1 e w2->e=.returned (.bool b)/\StoM ar ad X rk (lower σ t acc') w2/\w2.heap[w.heap.size]?=some (.cells #[adV ad t] tyTypeP (0,0))/\Kn (·∈ad) w1 w2:=fun w1 e w2 ha=>ha
  rw[hwk]
  cases b with
  |false=>
   have hq:∀w1 w2,Kn (·∈ad) w w1->Kn (·∈ad) w1 w2->AnsU ar ad X none w (.returned (.bool false)) w2:=fun w1 w2 a b=>⟨a.trans b,inl ⟨rfl,rfl⟩⟩
   simp only[Bool.true_and,Option.any_some,Bool.false_eq_true,if_false]
   have HF:=hide hF
   have HQ:=hide hq
   have HW:=hide hw
   have HRET:=hide hret
   have HWP:=hide hwpost
   clear hF hq h hbox hK0 hw hret hwpost hwk hf
   generalize AnsU ar ad X none w=Q at *
   generalize hQ1:AnsTB ar ad X rk σ (.bool true) (w.alloc (.cells #[adV ad t] tyTypeP))=Q1 at *
   generalize hQ2:AnsWk ar ad X rk (·∈ad) (fun acc=>lower σ t acc) (fun _ w1=>w1.heap[w.heap.size]?=some (.cells #[adV ad t] tyTypeP (0,0))) acc' false=Q2 at *
   clear hQ1 hQ2
   unfold adV ptrV at *
   go_enter func179,ntmps179
   go_wp2_with fail
   refine(HF.out).mono ?_;intro e w1 ha
   obtain rfl:=HRET.out e w1 ha
   obtain⟨k1,_,hc⟩:=HW.out w1 ha
   have HC:=hide hc
   have HK1:=hide k1
   clear ha HF HRET HW hc k1
   go_wp2_with fail
   refine(HC.out).mono ?_;intro e w2 ha
   obtain⟨rfl,_,_,k2⟩:=HWP.out w1 e w2 ha
   have HE:=hide (HQ.out w1 w2 HK1.out k2)
   clear ha HQ HC HK1 HWP k2
   go_wp2
   exact HE.out
  |true=>
   have hpre:acc'=σ.pre o:=by
    have h3:=wk_true hwk
    rw[TS.fits_pre hf]at h3
    simp at h3;exact h3.symm
   subst hpre
   have hal:=lower_alike (σ.pre o) σ t
   have hmem:adA ad t∈ad:=adA_mem (by rw[h.len];exact ht)
   have hq:∀w1 w2,Kn (·∈ad) w w1->Kn (·∈ad) w1 w2->StoM ar ad X rk (lower σ t (σ.pre o)) w2->w2.heap[w.heap.size]?=some (.cells #[adV ad t] tyTypeP (0,0))->w2.cell? ⟨w.heap.size,0,none⟩=some (adV ad t)/\(∃old,w2.cell? ⟨adA ad t,2,none⟩=some old)/\w2.frozen? ⟨adA ad t,2,none⟩=false/\AnsU ar ad X (some ((lower σ t (σ.pre o)).found t o)) w (.returned (.bool true)) (w2.setCell ⟨adA ad t,2,none⟩ (adV ad o)):=by
    intro w1 w2 k1 k2 hs hz
    obtain⟨pv,fv,_,_,c3,_,f3,_⟩:=hs.cell (i:=t) (by rw[hal.len];exact ht)
    refine⟨by simp[World.cell?,hz],⟨fv,c3⟩,f3,(k1.trans k2).set (inl hmem) _,inr ⟨_,_,rfl,rfl,hs.found (by rw[hal.len];exact ht) (by rw[hal.len];exact ho) (by rw[hal.isLetter];exact hl) (by rw[hal.root];exact h1) (by rw[hal.root];exact h2) hne⟩⟩
   simp only[Bool.true_and,Option.any_some,if_true]
   have HF:=hide hF
   have HQ:=hide hq
   have HW:=hide hw
   have HRET:=hide hret
   have HWP:=hide hwpost
   clear hF hq h hbox hK0 hw hret hwpost hwk hf hal hmem
   generalize AnsU ar ad X (some ((lower σ t (σ.pre o)).found t o)) w=Q at *
   generalize hQ1:AnsTB ar ad X rk σ (.bool true) (w.alloc (.cells #[adV ad t] tyTypeP))=Q1 at *
   generalize hQ2:AnsWk ar ad X rk (·∈ad) (fun acc=>lower σ t acc) (fun _ w1=>w1.heap[w.heap.size]?=some (.cells #[adV ad t] tyTypeP (0,0))) (σ.pre o) true=Q2 at *
   clear hQ1 hQ2
   unfold adV ptrV at *
   go_enter func179,ntmps179
   go_wp2_with fail
   refine(HF.out).mono ?_;intro e w1 ha
   obtain rfl:=HRET.out e w1 ha
   obtain⟨k1,_,hc⟩:=HW.out w1 ha
   have HC:=hide hc
   have HK1:=hide k1
   clear ha HF HRET HW hc k1
   go_wp2_with fail
   refine(HC.out).mono ?_;intro e w2 ha
   obtain⟨rfl,s2,z2,k2⟩:=HWP.out w1 e w2 ha
   obtain⟨q1,⟨old,q2⟩,q3,q4⟩:=HQ.out w1 w2 HK1.out k2 s2 z2
   have HE:=hide q4
   clear ha HQ HC HK1 HWP k2 s2 z2 q4
   go_wp2
   exact HE.out
end
end
section
structure SameN(σ τ:TS):Prop where
 len:τ.nodes.length=σ.nodes.length
 given:τ.given=σ.given
 name:∀i,(τ.node i).name=(σ.node i).name
 parts:∀i,(τ.node i).parts=(σ.node i).parts
theorem SameN.refl(σ:TS):SameN σ σ:=⟨rfl,rfl,fun _=>rfl,fun _=>rfl⟩
theorem SameN.trans{a b c:TS}(h:SameN a b)(k:SameN b c):SameN a c:=⟨k.len.trans h.len,k.given.trans h.given,fun i=>(k.name i).trans (h.name i),fun i=>(k.parts i).trans (h.parts i)⟩
theorem Alike.sameN{a b:TS}(h:Alike a b):SameN a b:=⟨h.len,h.given,h.name,h.parts⟩
theorem standFor_same{σ σ':TS}{t o:Nat}(h:σ.standFor t o=some σ'):SameN σ σ':=by
 rw[TS.standFor_eq]at h
 split at h
 ·cases h
  exact(lower_alike (σ.pre o) σ t).sameN.trans ⟨rfl,rfl,fun _=>rfl,fun _=>rfl⟩
 ·cases h
theorem unL_same{g:TS->Nat->Nat->Nat->Option (TS×Nat)}(hg:∀σ pl a b σ' pl',g σ pl a b=some (σ',pl')->SameN σ σ'/\pl<=pl') :
  ∀(az bs:List Nat)(σ:TS)(pl:Nat)(σ':TS)(pl':Nat),un.unL g σ pl az bs=some (σ',pl')->SameN σ σ'/\pl<=pl':=by
 intro az
 induction az with
 |nil=>intro bs σ pl σ' pl' hs;rw[un.unL]at hs;cases hs;exact⟨SameN.refl _,le_refl _⟩;intro _ _ _ _ h;cases h
 |cons a az ih=>
  intro bs σ pl σ' pl' hs
  cases bs with
  |nil=>rw[un.unL]at hs;cases hs;exact⟨SameN.refl _,le_refl _⟩;intro _ _ _ _ _ h;cases h
  |cons b bs=>
   rw[un.unL]at hs
   cases hgx:g σ pl a b with
   |none=>rw[hgx]at hs;cases hs
   |some x=>
    obtain⟨σ1,pl1⟩:=x
    rw[hgx]at hs
    obtain⟨s1,l1⟩:=hg σ pl a b σ1 pl1 hgx
    obtain⟨s2,l2⟩:=ih bs σ1 pl1 σ' pl' hs
    exact⟨s1.trans s2,le_trans l1 l2⟩
theorem un_same:∀(n:Nat)(σ:TS)(pl a b:Nat)(σ':TS)(pl':Nat),un n σ pl a b=some (σ',pl')->SameN σ σ'/\pl<=pl':=by
 intro n
 induction n with
 |zero=>intro σ pl a b σ' pl' hs;cases hs
 |succ n ih=>
  intro σ pl a b σ' pl' hs
  rw[un]at hs
  split at hs
  ·cases hs;exact⟨SameN.refl _,by omega⟩
  ·split at hs
   ·cases hs
   ·split at hs
    ·cases hx:σ.standFor (σ.root a) (σ.root b)with
     |none=>rw[hx]at hs;cases hs
     |some y=>rw[hx]at hs;cases hs;exact⟨standFor_same hx,by omega⟩
    ·split at hs
     ·cases hx:σ.standFor (σ.root b) (σ.root a)with
      |none=>rw[hx]at hs;cases hs
      |some y=>rw[hx]at hs;cases hs;exact⟨standFor_same hx,by omega⟩
     ·split at hs
      ·obtain⟨h1,h2⟩:=unL_same (fun σ pl a b σ' pl' h=>ih σ pl a b σ' pl' h) _ _ _ _ _ _ hs
       exact⟨h1,by omega⟩
      ·cases hs
theorem unL_bound{A B:Nat}{g:TS->Nat->Nat->Nat->Option (TS×Nat)}(hs:∀σ pl a b σ' pl',g σ pl a b=some (σ',pl')->SameN σ σ')(hg:∀σ pl a b σ' pl',(∀i,(σ.node i).parts.length<=A)->g σ pl a b=some (σ',pl')->pl'<=max (pl+1) B) :
  ∀(az bs:List Nat)(σ:TS)(pl:Nat)(σ':TS)(pl' k:Nat),(∀i,(σ.node i).parts.length<=A)->pl<=B+k->un.unL g σ pl az bs=some (σ',pl')->pl'<=B+k+az.length:=by
 intro az
 induction az with
 |nil=>intro bs σ pl σ' pl' k _ hk h;rw[un.unL]at h;cases h;simpa using hk;intro _ _ _ _ h;cases h
 |cons a az ih=>
  intro bs σ pl σ' pl' k hA hk h
  cases bs with
  |nil=>rw[un.unL]at h;cases h;simp;omega;intro _ _ _ _ _ h;cases h
  |cons b bs=>
   rw[un.unL]at h
   cases hgx:g σ pl a b with
   |none=>rw[hgx]at h;cases h
   |some x=>
    obtain⟨σ1,pl1⟩:=x
    rw[hgx]at h
    have s1:=hs σ pl a b σ1 pl1 hgx
    have l1:=hg σ pl a b σ1 pl1 hA hgx
    have:=ih bs σ1 pl1 σ' pl' (k+1) (fun i=>by rw[s1.parts];exact hA i) (by omega) h
    rw[length_cons];omega
theorem un_bound{A:Nat}:∀(n:Nat)(σ:TS)(pl a b:Nat)(σ':TS)(pl':Nat),(∀i,(σ.node i).parts.length<=A)->un n σ pl a b=some (σ',pl')->pl'<=max (pl+1) (201+n*A):=by
 intro n
 induction n with
 |zero=>intro σ pl a b σ' pl' _ hs;cases hs
 |succ n ih=>
  intro σ pl a b σ' pl' hA hs
  rw[un]at hs
  split at hs
  ·cases hs;omega
  ·split at hs
   ·cases hs
   ·rename_i hbig
    split at hs
    ·cases hx:σ.standFor (σ.root a) (σ.root b)with
     |none=>rw[hx]at hs;cases hs
     |some y=>rw[hx]at hs;cases hs;omega
    ·split at hs
     ·cases hx:σ.standFor (σ.root b) (σ.root a)with
      |none=>rw[hx]at hs;cases hs
      |some y=>rw[hx]at hs;cases hs;omega
     ·split at hs
      ·have h1:=unL_bound (A:=A) (B:=201+n*A) (fun σ pl a b σ' pl' h=>(un_same n σ pl a b σ' pl' h).1) (fun σ pl a b σ' pl' h1 h2=>ih σ pl a b σ' pl' h1 h2) _ _ _ _ _ _ 0 hA (by unfold maxSize at hbig;omega) hs
       have h2:=hA (σ.root a)
       rw[Nat.succ_mul]
       omega
      ·cases hs
end
section
open Go.RowKit
def AnsUn(ar:Nm->Nat)(ad:List Nat)(X:Nat->Prop)(pb:Nat)(o:Option (TS×Nat))(w:World)(e:Ending)(w':World):Prop:=
 Kn (fun k=>k∈ad\/k=pb) w w'/\((o=none/\e=.returned (.bool false))\/∃σ' pl' rk',o=some (σ',pl')/\e=.returned (.bool true)/\StoM ar ad X rk' σ' w'/\w'.heap[pb]?=some (.cells #[.int .i64 pl'] tyIntB (0,0)))
section
variable {ar:Nm->Nat}{ad:List Nat}{X:Nat->Prop}{rk:Nat->Nat}{σ:TS}{w w':World}{a b pb pl:Nat}
structure UnAt(ar:Nm->Nat)(ad:List Nat)(X:Nat->Prop)(rk:Nat->Nat)(σ:TS)(pb pl ra rb:Nat)(w w3:World):Prop where
 sto:StoM ar ad X rk σ w3
 box:w3.heap[pb]?=some (.cells #[.int .i64 (pl+1:Nat)] tyIntB (0,0))
 kn:Kn (fun k=>k∈ad\/k=pb) w w3
theorem unAt_step{ra rb:Nat}(hp:w.heap[pb]?=some (.cells #[.int .i64 pl] tyIntB (0,0)))(h:StoM ar ad X rk σ w){w1:World}(h1:StoM ar ad X rk σ w1)(k1:Kn (·∈ad) w w1) :
  w1.cell? ⟨pb,0,none⟩=some (.int .i64 pl)/\w1.frozen? ⟨pb,0,none⟩=false/\UnAt ar ad X rk σ pb pl ra rb w (w1.setCell ⟨pb,0,none⟩ (.int .i64 ((pl:Int)+1))):=by
 have hb:w1.heap[pb]?=some (.cells #[.int .i64 pl] tyIntB (0,0)):=by rw[k1.block pb (lt_of_heap hp) (box_ne (by decide) hp h)];exact hp
 refine⟨by simp[World.cell?,hb],frozen_of_row _ _ _ _ _ hb,h1.box (by decide) (by decide) hb 0 _,?_,Kn.set (D:=fun k=>k∈ad\/k=pb) (k1.wide fun k _ hk=>inl hk) (p:=⟨pb,0,none⟩) (inl (inr rfl)) _⟩
 rw[heap_setCell_same _ _ _ _ _ _ hb]
 rfl
theorem bs_injT{l m:Nm}(h:bs l=bs m):l=m:=by
 have:=congrArg (fun b=>b.data.toList) h
 simpa [bs]using this
theorem UnAt.eql{ra rb:Nat}{w3:World}(h:UnAt ar ad X rk σ pb pl ra rb w w3)(hra:ra<σ.nodes.length)(hrb:rb<σ.nodes.length):(binOp .eql tyTypeP (.pointer (some ⟨adA ad ra,0,none⟩)) (.pointer (some ⟨adA ad rb,0,none⟩))).run prog w3=.ok (.bool (decide (ra=rb))) w3:=by
 rw[ptr_eql (h.sto.isVar hra) (h.sto.isVar hrb)]
 congr 2
 by_cases he:ra=rb
 ·subst he;simp
 ·have:adA ad ra≠adA ad rb:=fun e=>he (adA_inj h.sto.lt (by rw[h.sto.len];exact hra) (by rw[h.sto.len];exact hrb) e)
  simp[he,this]
theorem un_one(h:StoM ar ad X rk σ w)(ha:a<σ.nodes.length)(hb:b<σ.nodes.length)(hp:w.heap[pb]?=some (.cells #[.int .i64 pl] tyIntB (0,0)))(hpl:pl<=1000000000)(he:σ.root a=σ.root b) :
  Calls prog 161 #[adV ad a,adV ad b,.pointer (some ⟨pb,0,none⟩)] w (AnsUn ar ad X pb (some (σ,pl+1)) w):=by
 have hra:=h.ok.root_lt ha
 have hrb:=h.ok.root_lt hb
 have hR1:=root_any (rk a+1) a w (lt_succ_self _) h ha
 have hR2:∀w1,StoM ar ad X rk σ w1->Calls prog 46 #[adV ad b] w1 (AnsRoot ar ad X rk σ b w1):=fun w1 h1=>root_any (rk b+1) b w1 (lt_succ_self _) h1 hb
 have hA1:∀e w1,AnsRoot ar ad X rk σ a w e w1->e=.returned (adV ad (σ.root a))/\StoM ar ad X rk σ w1/\Kn (·∈ad) w w1:=fun e w1 x=>⟨x.1,x.2.1,x.2.2.1⟩
 have hA2:∀w1,Kn (·∈ad) w w1->∀e w2,AnsRoot ar ad X rk σ b w1 e w2->e=.returned (adV ad (σ.root b))/\w2.cell? ⟨pb,0,none⟩=some (.int .i64 pl)/\w2.frozen? ⟨pb,0,none⟩=false/\UnAt ar ad X rk σ pb pl (σ.root a) (σ.root b) w (w2.setCell ⟨pb,0,none⟩ (.int .i64 ((pl:Int)+1))):=fun w1 k1 e w2 x=>⟨x.1,unAt_step hp h x.2.1 (k1.trans x.2.2.1)⟩
 have hEq:∀w3,UnAt ar ad X rk σ pb pl (σ.root a) (σ.root b) w w3->(binOp .eql tyTypeP (.pointer (some ⟨adA ad (σ.root a),0,none⟩)) (.pointer (some ⟨adA ad (σ.root b),0,none⟩))).run prog w3=.ok (.bool (decide (σ.root a=σ.root b))) w3:=fun w3 x=>x.eql hra hrb
 have hBx:∀w3,UnAt ar ad X rk σ pb pl (σ.root a) (σ.root b) w w3->w3.cell? ⟨pb,0,none⟩=some (.int .i64 ((pl:Int)+1)):=fun w3 x=>by simp[World.cell?,x.box]
 have hfin:∀w3,UnAt ar ad X rk σ pb pl (σ.root a) (σ.root b) w w3->AnsUn ar ad X pb (some (σ,pl+1)) w (.returned (.bool true)) w3:=fun w3 x=>⟨x.kn,inr ⟨_,_,_,rfl,rfl,x.sto,x.box⟩⟩
 have hd:decide (σ.root a=σ.root b)=true:=decide_eq_true he
 have HFIN:=hide hfin
 clear hfin
 have HR1:=hide hR1
 have HR2:=hide hR2
 have HA1:=hide hA1
 have HA2:=hide hA2
 have HEQ:=hide hEq
 have HBX:=hide hBx
 clear hR1 hR2 hA1 hA2 hEq hBx hp he
 generalize hu:UnAt ar ad X rk σ pb pl (σ.root a) (σ.root b) w=U at *
 generalize hq:AnsUn ar ad X pb (some (σ,pl+1)) w=Q at *
 generalize hr1:AnsRoot ar ad X rk σ a w=Q1 at *
 generalize hr2:AnsRoot ar ad X rk σ b=Q2 at *
 clear hq hr1 hr2
 unfold adV ptrV at *
 go_enter func161,ntmps161
 go_wp2_with fail
 refine(HR1.out).mono ?_;intro e w1 x
 obtain⟨rfl,s1,k1⟩:=HA1.out e w1 x
 have HC2:=hide (HR2.out w1 s1)
 have HN:=hide (HA2.out w1 k1)
 clear x s1 k1 HR1 HA1 HR2 HA2
 go_wp2_with fail
 refine(HC2.out).mono ?_;intro e w2 x
 obtain⟨rfl,c2,f2,u3⟩:=HN.out e w2 x
 have HU:=hide u3
 clear x u3 HC2 HN
 have hw2:pl<2000000000:=by omega
 have hrun:=HEQ.out _ HU.out
 have hcb:=HBX.out _ HU.out
 have HE:=hide (HFIN.out _ HU.out)
 clear HFIN HU HEQ HBX
 rw[hd]at hrun
 go_wp2
 exact HE.out
theorem un_big(h:StoM ar ad X rk σ w)(ha:a<σ.nodes.length)(hb:b<σ.nodes.length)(hp:w.heap[pb]?=some (.cells #[.int .i64 pl] tyIntB (0,0)))(hpl:pl<=1000000000)(he:σ.root a≠σ.root b)(hbig:200<pl+1) :
  Calls prog 161 #[adV ad a,adV ad b,.pointer (some ⟨pb,0,none⟩)] w (AnsUn ar ad X pb none w):=by
 have hra:=h.ok.root_lt ha
 have hrb:=h.ok.root_lt hb
 have hR1:=root_any (rk a+1) a w (lt_succ_self _) h ha
 have hR2:∀w1,StoM ar ad X rk σ w1->Calls prog 46 #[adV ad b] w1 (AnsRoot ar ad X rk σ b w1):=fun w1 h1=>root_any (rk b+1) b w1 (lt_succ_self _) h1 hb
 have hA1:∀e w1,AnsRoot ar ad X rk σ a w e w1->e=.returned (adV ad (σ.root a))/\StoM ar ad X rk σ w1/\Kn (·∈ad) w w1:=fun e w1 x=>⟨x.1,x.2.1,x.2.2.1⟩
 have hA2:∀w1,Kn (·∈ad) w w1->∀e w2,AnsRoot ar ad X rk σ b w1 e w2->e=.returned (adV ad (σ.root b))/\w2.cell? ⟨pb,0,none⟩=some (.int .i64 pl)/\w2.frozen? ⟨pb,0,none⟩=false/\UnAt ar ad X rk σ pb pl (σ.root a) (σ.root b) w (w2.setCell ⟨pb,0,none⟩ (.int .i64 ((pl:Int)+1))):=fun w1 k1 e w2 x=>⟨x.1,unAt_step hp h x.2.1 (k1.trans x.2.2.1)⟩
 have hEq:∀w3,UnAt ar ad X rk σ pb pl (σ.root a) (σ.root b) w w3->(binOp .eql tyTypeP (.pointer (some ⟨adA ad (σ.root a),0,none⟩)) (.pointer (some ⟨adA ad (σ.root b),0,none⟩))).run prog w3=.ok (.bool (decide (σ.root a=σ.root b))) w3:=fun w3 x=>x.eql hra hrb
 have hBx:∀w3,UnAt ar ad X rk σ pb pl (σ.root a) (σ.root b) w w3->w3.cell? ⟨pb,0,none⟩=some (.int .i64 ((pl:Int)+1)):=fun w3 x=>by simp[World.cell?,x.box]
 have hfin:∀w3,UnAt ar ad X rk σ pb pl (σ.root a) (σ.root b) w w3->AnsUn ar ad X pb none w (.returned (.bool false)) w3:=fun w3 x=>⟨x.kn,inl ⟨rfl,rfl⟩⟩
 have hd:decide (σ.root a=σ.root b)=false:=decide_eq_false he
 have hbig2:(200:Int)<(pl:Int)+1:=by omega
 have HFIN:=hide hfin
 clear hfin
 have HR1:=hide hR1
 have HR2:=hide hR2
 have HA1:=hide hA1
 have HA2:=hide hA2
 have HEQ:=hide hEq
 have HBX:=hide hBx
 clear hR1 hR2 hA1 hA2 hEq hBx hp he
 generalize hu:UnAt ar ad X rk σ pb pl (σ.root a) (σ.root b) w=U at *
 generalize hq:AnsUn ar ad X pb none w=Q at *
 generalize hr1:AnsRoot ar ad X rk σ a w=Q1 at *
 generalize hr2:AnsRoot ar ad X rk σ b=Q2 at *
 clear hq hr1 hr2
 unfold adV ptrV at *
 go_enter func161,ntmps161
 go_wp2_with fail
 refine(HR1.out).mono ?_;intro e w1 x
 obtain⟨rfl,s1,k1⟩:=HA1.out e w1 x
 have HC2:=hide (HR2.out w1 s1)
 have HN:=hide (HA2.out w1 k1)
 clear x s1 k1 HR1 HA1 HR2 HA2
 go_wp2_with fail
 refine(HC2.out).mono ?_;intro e w2 x
 obtain⟨rfl,c2,f2,u3⟩:=HN.out e w2 x
 have HU:=hide u3
 clear x u3 HC2 HN
 have hw2:pl<2000000000:=by omega
 have hrun:=HEQ.out _ HU.out
 have hcb:=HBX.out _ HU.out
 have HE:=hide (HFIN.out _ HU.out)
 clear HFIN HU HEQ HBX
 rw[hd]at hrun
 go_wp2
 exact HE.out
theorem un_letA(h:StoM ar ad X rk σ w)(ha:a<σ.nodes.length)(hb:b<σ.nodes.length)(hp:w.heap[pb]?=some (.cells #[.int .i64 pl] tyIntB (0,0)))(hpl:pl<=1000000000)(he:σ.root a≠σ.root b)(hbig:¬200<pl+1)(hl:σ.isLetter (σ.root a)=true) :
  Calls prog 161 #[adV ad a,adV ad b,.pointer (some ⟨pb,0,none⟩)] w (AnsUn ar ad X pb ((σ.standFor (σ.root a) (σ.root b)).map (·,pl+1)) w):=by
 have hra:=h.ok.root_lt ha
 have hrb:=h.ok.root_lt hb
 have hR1:=root_any (rk a+1) a w (lt_succ_self _) h ha
 have hR2:∀w1,StoM ar ad X rk σ w1->Calls prog 46 #[adV ad b] w1 (AnsRoot ar ad X rk σ b w1):=fun w1 h1=>root_any (rk b+1) b w1 (lt_succ_self _) h1 hb
 have hA1:∀e w1,AnsRoot ar ad X rk σ a w e w1->e=.returned (adV ad (σ.root a))/\StoM ar ad X rk σ w1/\Kn (·∈ad) w w1:=fun e w1 x=>⟨x.1,x.2.1,x.2.2.1⟩
 have hA2:∀w1,Kn (·∈ad) w w1->∀e w2,AnsRoot ar ad X rk σ b w1 e w2->e=.returned (adV ad (σ.root b))/\w2.cell? ⟨pb,0,none⟩=some (.int .i64 pl)/\w2.frozen? ⟨pb,0,none⟩=false/\UnAt ar ad X rk σ pb pl (σ.root a) (σ.root b) w (w2.setCell ⟨pb,0,none⟩ (.int .i64 ((pl:Int)+1))):=fun w1 k1 e w2 x=>⟨x.1,unAt_step hp h x.2.1 (k1.trans x.2.2.1)⟩
 have hEq:∀w3,UnAt ar ad X rk σ pb pl (σ.root a) (σ.root b) w w3->(binOp .eql tyTypeP (.pointer (some ⟨adA ad (σ.root a),0,none⟩)) (.pointer (some ⟨adA ad (σ.root b),0,none⟩))).run prog w3=.ok (.bool (decide (σ.root a=σ.root b))) w3:=fun w3 x=>x.eql hra hrb
 have hBx:∀w3,UnAt ar ad X rk σ pb pl (σ.root a) (σ.root b) w w3->w3.cell? ⟨pb,0,none⟩=some (.int .i64 ((pl:Int)+1)):=fun w3 x=>by simp[World.cell?,x.box]
 have hil:∀w3,UnAt ar ad X rk σ pb pl (σ.root a) (σ.root b) w w3->Calls prog 47 #[adV ad (σ.root a)] w3 fun e w'=>e=.returned (.bool true)/\w'=w3:=fun w3 x=>by rw[<- hl];exact isLetter_any x.sto (by assumption)
 have hst:∀w3,UnAt ar ad X rk σ pb pl (σ.root a) (σ.root b) w w3->Calls prog 179 #[adV ad (σ.root a),adV ad (σ.root b)] w3 (AnsU ar ad X (σ.standFor (σ.root a) (σ.root b)) w3):=fun w3 x=>standFor_any x.sto (by assumption) (by assumption) hl (h.ok.root_root _) (h.ok.root_root _) (by first|exact he|exact Ne.symm he)
 have hfin:∀w3 e w4,UnAt ar ad X rk σ pb pl (σ.root a) (σ.root b) w w3->AnsU ar ad X (σ.standFor (σ.root a) (σ.root b)) w3 e w4->∃v,e=.returned (.bool v)/\AnsUn ar ad X pb ((σ.standFor (σ.root a) (σ.root b)).map (·,pl+1)) w (.returned (.bool v)) w4:=by
  rintro w3 e w4 x⟨k4,⟨h1,h2⟩|⟨σ',rk',h1,h2,h3⟩⟩
  ·exact⟨false,h2,x.kn.trans (k4.wide fun k _ hk=>inl hk),inl ⟨by rw[h1];rfl,rfl⟩⟩
  ·refine⟨true,h2,x.kn.trans (k4.wide fun k _ hk=>inl hk),inr ⟨σ',pl+1,rk',by rw[h1];rfl,rfl,h3,?_⟩⟩
   rw[k4.block pb (lt_of_heap x.box) (box_ne (by decide) x.box x.sto)];exact x.box
 have hd:decide (σ.root a=σ.root b)=false:=decide_eq_false he
 have hbig2:¬(200:Int)<(pl:Int)+1:=by omega
 have HIL:=hide hil
 have HST:=hide hst
 have HFIN:=hide hfin
 clear hfin hil hst
 have HR1:=hide hR1
 have HR2:=hide hR2
 have HA1:=hide hA1
 have HA2:=hide hA2
 have HEQ:=hide hEq
 have HBX:=hide hBx
 clear hR1 hR2 hA1 hA2 hEq hBx hp he
 generalize hu:UnAt ar ad X rk σ pb pl (σ.root a) (σ.root b) w=U at *
 generalize hq:AnsUn ar ad X pb ((σ.standFor (σ.root a) (σ.root b)).map (·,pl+1)) w=Q at *
 generalize hr1:AnsRoot ar ad X rk σ a w=Q1 at *
 generalize hr2:AnsRoot ar ad X rk σ b=Q2 at *
 clear hq hr1 hr2
 unfold adV ptrV at *
 go_enter func161,ntmps161
 go_wp2_with fail
 refine(HR1.out).mono ?_;intro e w1 x
 obtain⟨rfl,s1,k1⟩:=HA1.out e w1 x
 have HC2:=hide (HR2.out w1 s1)
 have HN:=hide (HA2.out w1 k1)
 clear x s1 k1 HR1 HA1 HR2 HA2
 go_wp2_with fail
 refine(HC2.out).mono ?_;intro e w2 x
 obtain⟨rfl,c2,f2,u3⟩:=HN.out e w2 x
 have HU:=hide u3
 clear x u3 HC2 HN
 have hw2:pl<2000000000:=by omega
 have hrun:=HEQ.out _ HU.out
 have hcb:=HBX.out _ HU.out
 have HU2:=HU
 have HC3:=hide (HIL.out _ HU.out)
 have HC4:=hide (HST.out _ HU.out)
 have HE:=hide (fun e w4=>HFIN.out _ e w4 HU.out)
 clear HFIN HU HEQ HBX HIL HST HU2
 generalize hs:AnsU ar ad X (σ.standFor (σ.root a) (σ.root b))=Q5 at *
 clear hs
 rw[hd]at hrun
 go_wp2_with fail
 generalize w2.setCell ⟨pb,0,none⟩ (.int .i64 ((pl:Int)+1))=w3 at *
 refine(HC3.out).mono ?_;rintro e w4⟨rfl,hw4⟩;subst w4
 go_wp2_with fail
 refine(HC4.out).mono ?_;intro e w4 y
 obtain⟨v,rfl,hq⟩:=HE.out e w4 y
 have HF:=hide hq
 clear y hq HE HC4 HC3
 go_wp2
 exact HF.out
theorem un_letB(h:StoM ar ad X rk σ w)(ha:a<σ.nodes.length)(hb:b<σ.nodes.length)(hp:w.heap[pb]?=some (.cells #[.int .i64 pl] tyIntB (0,0)))(hpl:pl<=1000000000)(he:σ.root a≠σ.root b)(hbig:¬200<pl+1)(hl0:σ.isLetter (σ.root a)=false)(hl:σ.isLetter (σ.root b)=true) :
  Calls prog 161 #[adV ad a,adV ad b,.pointer (some ⟨pb,0,none⟩)] w (AnsUn ar ad X pb ((σ.standFor (σ.root b) (σ.root a)).map (·,pl+1)) w):=by
 have hra:=h.ok.root_lt ha
 have hrb:=h.ok.root_lt hb
 have hR1:=root_any (rk a+1) a w (lt_succ_self _) h ha
 have hR2:∀w1,StoM ar ad X rk σ w1->Calls prog 46 #[adV ad b] w1 (AnsRoot ar ad X rk σ b w1):=fun w1 h1=>root_any (rk b+1) b w1 (lt_succ_self _) h1 hb
 have hA1:∀e w1,AnsRoot ar ad X rk σ a w e w1->e=.returned (adV ad (σ.root a))/\StoM ar ad X rk σ w1/\Kn (·∈ad) w w1:=fun e w1 x=>⟨x.1,x.2.1,x.2.2.1⟩
 have hA2:∀w1,Kn (·∈ad) w w1->∀e w2,AnsRoot ar ad X rk σ b w1 e w2->e=.returned (adV ad (σ.root b))/\w2.cell? ⟨pb,0,none⟩=some (.int .i64 pl)/\w2.frozen? ⟨pb,0,none⟩=false/\UnAt ar ad X rk σ pb pl (σ.root a) (σ.root b) w (w2.setCell ⟨pb,0,none⟩ (.int .i64 ((pl:Int)+1))):=fun w1 k1 e w2 x=>⟨x.1,unAt_step hp h x.2.1 (k1.trans x.2.2.1)⟩
 have hEq:∀w3,UnAt ar ad X rk σ pb pl (σ.root a) (σ.root b) w w3->(binOp .eql tyTypeP (.pointer (some ⟨adA ad (σ.root a),0,none⟩)) (.pointer (some ⟨adA ad (σ.root b),0,none⟩))).run prog w3=.ok (.bool (decide (σ.root a=σ.root b))) w3:=fun w3 x=>x.eql hra hrb
 have hBx:∀w3,UnAt ar ad X rk σ pb pl (σ.root a) (σ.root b) w w3->w3.cell? ⟨pb,0,none⟩=some (.int .i64 ((pl:Int)+1)):=fun w3 x=>by simp[World.cell?,x.box]
 have hnl:∀w3,UnAt ar ad X rk σ pb pl (σ.root a) (σ.root b) w w3->Calls prog 47 #[adV ad (σ.root a)] w3 fun e w'=>e=.returned (.bool false)/\w'=w3:=fun w3 x=>by rw[<- hl0];exact isLetter_any x.sto hra
 have HNL:=hide hnl
 clear hnl
 have hil:∀w3,UnAt ar ad X rk σ pb pl (σ.root a) (σ.root b) w w3->Calls prog 47 #[adV ad (σ.root b)] w3 fun e w'=>e=.returned (.bool true)/\w'=w3:=fun w3 x=>by rw[<- hl];exact isLetter_any x.sto (by assumption)
 have hst:∀w3,UnAt ar ad X rk σ pb pl (σ.root a) (σ.root b) w w3->Calls prog 179 #[adV ad (σ.root b),adV ad (σ.root a)] w3 (AnsU ar ad X (σ.standFor (σ.root b) (σ.root a)) w3):=fun w3 x=>standFor_any x.sto (by assumption) (by assumption) hl (h.ok.root_root _) (h.ok.root_root _) (by first|exact he|exact Ne.symm he)
 have hfin:∀w3 e w4,UnAt ar ad X rk σ pb pl (σ.root a) (σ.root b) w w3->AnsU ar ad X (σ.standFor (σ.root b) (σ.root a)) w3 e w4->∃v,e=.returned (.bool v)/\AnsUn ar ad X pb ((σ.standFor (σ.root b) (σ.root a)).map (·,pl+1)) w (.returned (.bool v)) w4:=by
  rintro w3 e w4 x⟨k4,⟨h1,h2⟩|⟨σ',rk',h1,h2,h3⟩⟩
  ·exact⟨false,h2,x.kn.trans (k4.wide fun k _ hk=>inl hk),inl ⟨by rw[h1];rfl,rfl⟩⟩
  ·refine⟨true,h2,x.kn.trans (k4.wide fun k _ hk=>inl hk),inr ⟨σ',pl+1,rk',by rw[h1];rfl,rfl,h3,?_⟩⟩
   rw[k4.block pb (lt_of_heap x.box) (box_ne (by decide) x.box x.sto)];exact x.box
 have hd:decide (σ.root a=σ.root b)=false:=decide_eq_false he
 have hbig2:¬(200:Int)<(pl:Int)+1:=by omega
 have HIL:=hide hil
 have HST:=hide hst
 have HFIN:=hide hfin
 clear hfin hil hst
 have HR1:=hide hR1
 have HR2:=hide hR2
 have HA1:=hide hA1
 have HA2:=hide hA2
 have HEQ:=hide hEq
 have HBX:=hide hBx
 clear hR1 hR2 hA1 hA2 hEq hBx hp he
 generalize hu:UnAt ar ad X rk σ pb pl (σ.root a) (σ.root b) w=U at *
 generalize hq:AnsUn ar ad X pb ((σ.standFor (σ.root b) (σ.root a)).map (·,pl+1)) w=Q at *
 generalize hr1:AnsRoot ar ad X rk σ a w=Q1 at *
 generalize hr2:AnsRoot ar ad X rk σ b=Q2 at *
 clear hq hr1 hr2
 unfold adV ptrV at *
 go_enter func161,ntmps161
 go_wp2_with fail
 refine(HR1.out).mono ?_;intro e w1 x
 obtain⟨rfl,s1,k1⟩:=HA1.out e w1 x
 have HC2:=hide (HR2.out w1 s1)
 have HN:=hide (HA2.out w1 k1)
 clear x s1 k1 HR1 HA1 HR2 HA2
 go_wp2_with fail
 refine(HC2.out).mono ?_;intro e w2 x
 obtain⟨rfl,c2,f2,u3⟩:=HN.out e w2 x
 have HU:=hide u3
 clear x u3 HC2 HN
 have hw2:pl<2000000000:=by omega
 have hrun:=HEQ.out _ HU.out
 have hcb:=HBX.out _ HU.out
 have HU2:=HU
 have HC3:=hide (HIL.out _ HU.out)
 have HC4:=hide (HST.out _ HU.out)
 have HE:=hide (fun e w4=>HFIN.out _ e w4 HU.out)
 have HC0:=hide (HNL.out _ HU.out)
 clear HNL
 clear HFIN HU HEQ HBX HIL HST HU2
 generalize hs:AnsU ar ad X (σ.standFor (σ.root b) (σ.root a))=Q5 at *
 clear hs
 rw[hd]at hrun
 go_wp2_with fail
 generalize w2.setCell ⟨pb,0,none⟩ (.int .i64 ((pl:Int)+1))=w3 at *
 refine(HC0.out).mono ?_;rintro e w4⟨rfl,hw4⟩;subst w4
 go_wp2_with fail
 refine(HC3.out).mono ?_;rintro e w4⟨rfl,hw4⟩;subst w4
 go_wp2_with fail
 refine(HC4.out).mono ?_;intro e w4 y
 obtain⟨v,rfl,hq⟩:=HE.out e w4 y
 have HF:=hide hq
 clear y hq HE HC4 HC3
 go_wp2
 exact HF.out
theorem un_names(h:StoM ar ad X rk σ w)(ha:a<σ.nodes.length)(hb:b<σ.nodes.length)(hp:w.heap[pb]?=some (.cells #[.int .i64 pl] tyIntB (0,0)))(hpl:pl<=1000000000)(he:σ.root a≠σ.root b)(hbig:¬200<pl+1)(hl0:σ.isLetter (σ.root a)=false)(hl1:σ.isLetter (σ.root b)=false)(hnn:(σ.node (σ.root a)).name≠(σ.node (σ.root b)).name) :
  Calls prog 161 #[adV ad a,adV ad b,.pointer (some ⟨pb,0,none⟩)] w (AnsUn ar ad X pb none w):=by
 have hra:=h.ok.root_lt ha
 have hrb:=h.ok.root_lt hb
 have hR1:=root_any (rk a+1) a w (lt_succ_self _) h ha
 have hR2:∀w1,StoM ar ad X rk σ w1->Calls prog 46 #[adV ad b] w1 (AnsRoot ar ad X rk σ b w1):=fun w1 h1=>root_any (rk b+1) b w1 (lt_succ_self _) h1 hb
 have hA1:∀e w1,AnsRoot ar ad X rk σ a w e w1->e=.returned (adV ad (σ.root a))/\StoM ar ad X rk σ w1/\Kn (·∈ad) w w1:=fun e w1 x=>⟨x.1,x.2.1,x.2.2.1⟩
 have hA2:∀w1,Kn (·∈ad) w w1->∀e w2,AnsRoot ar ad X rk σ b w1 e w2->e=.returned (adV ad (σ.root b))/\w2.cell? ⟨pb,0,none⟩=some (.int .i64 pl)/\w2.frozen? ⟨pb,0,none⟩=false/\UnAt ar ad X rk σ pb pl (σ.root a) (σ.root b) w (w2.setCell ⟨pb,0,none⟩ (.int .i64 ((pl:Int)+1))):=fun w1 k1 e w2 x=>⟨x.1,unAt_step hp h x.2.1 (k1.trans x.2.2.1)⟩
 have hEq:∀w3,UnAt ar ad X rk σ pb pl (σ.root a) (σ.root b) w w3->(binOp .eql tyTypeP (.pointer (some ⟨adA ad (σ.root a),0,none⟩)) (.pointer (some ⟨adA ad (σ.root b),0,none⟩))).run prog w3=.ok (.bool (decide (σ.root a=σ.root b))) w3:=fun w3 x=>x.eql hra hrb
 have hBx:∀w3,UnAt ar ad X rk σ pb pl (σ.root a) (σ.root b) w w3->w3.cell? ⟨pb,0,none⟩=some (.int .i64 ((pl:Int)+1)):=fun w3 x=>by simp[World.cell?,x.box]
 have hnl1:∀w3,UnAt ar ad X rk σ pb pl (σ.root a) (σ.root b) w w3->Calls prog 47 #[adV ad (σ.root a)] w3 fun e w'=>e=.returned (.bool false)/\w'=w3:=fun w3 x=>by rw[<- hl0];exact isLetter_any x.sto hra
 have hnl2:∀w3,UnAt ar ad X rk σ pb pl (σ.root a) (σ.root b) w w3->Calls prog 47 #[adV ad (σ.root b)] w3 fun e w'=>e=.returned (.bool false)/\w'=w3:=fun w3 x=>by rw[<- hl1];exact isLetter_any x.sto hrb
 have hnm:∀w3,UnAt ar ad X rk σ pb pl (σ.root a) (σ.root b) w w3->w3.cell? ⟨adA ad (σ.root a),0,none⟩=some (.string (bs (σ.node (σ.root a)).name))/\w3.cell? ⟨adA ad (σ.root b),0,none⟩=some (.string (bs (σ.node (σ.root b)).name)):=fun w3 x=>by
  obtain⟨_,_,c1,_⟩:=x.sto.cell hra
  obtain⟨_,_,c2,_⟩:=x.sto.cell hrb
  exact⟨c1,c2⟩
 have hd:decide (σ.root a=σ.root b)=false:=decide_eq_false he
 have hbig2:¬(200:Int)<(pl:Int)+1:=by omega
 have HN1:=hide hnl1
 have HN2:=hide hnl2
 have HNM:=hide hnm
 clear hnl1 hnl2 hnm
 have hfin:∀w3,UnAt ar ad X rk σ pb pl (σ.root a) (σ.root b) w w3->∀n,AnsUn ar ad X pb none w (.returned (.bool false)) (w3.drewN n):=fun w3 x n=>⟨x.kn.drewN n,inl ⟨rfl,rfl⟩⟩
 have hbq:((bs (σ.node (σ.root a)).name).toList==(bs (σ.node (σ.root b)).name).toList)=false:=by
  rw[ByteArray.toList_eq,ByteArray.toList_eq,bs_data,bs_data]
  simpa using hnn
 have HFIN:=hide hfin
 clear hfin
 have HR1:=hide hR1
 have HR2:=hide hR2
 have HA1:=hide hA1
 have HA2:=hide hA2
 have HEQ:=hide hEq
 have HBX:=hide hBx
 clear hR1 hR2 hA1 hA2 hEq hBx hp he
 generalize hu:UnAt ar ad X rk σ pb pl (σ.root a) (σ.root b) w=U at *
 generalize hq:AnsUn ar ad X pb none w=Q at *
 generalize hr1:AnsRoot ar ad X rk σ a w=Q1 at *
 generalize hr2:AnsRoot ar ad X rk σ b=Q2 at *
 clear hq hr1 hr2
 unfold adV ptrV at *
 go_enter func161,ntmps161
 go_wp2_with fail
 refine(HR1.out).mono ?_;intro e w1 x
 obtain⟨rfl,s1,k1⟩:=HA1.out e w1 x
 have HC2:=hide (HR2.out w1 s1)
 have HN:=hide (HA2.out w1 k1)
 clear x s1 k1 HR1 HA1 HR2 HA2
 go_wp2_with fail
 refine(HC2.out).mono ?_;intro e w2 x
 obtain⟨rfl,c2,f2,u3⟩:=HN.out e w2 x
 have HU:=hide u3
 clear x u3 HC2 HN
 have hw2:pl<2000000000:=by omega
 have hrun:=HEQ.out _ HU.out
 have hcb:=HBX.out _ HU.out
 have HC1:=hide (HN1.out _ HU.out)
 have HC2:=hide (HN2.out _ HU.out)
 obtain⟨n1,n2⟩:=HNM.out _ HU.out
 have HE:=hide (HFIN.out _ HU.out)
 clear HFIN HU HEQ HBX HN1 HN2 HNM
 rw[hd]at hrun
 generalize bs (σ.node (σ.root a)).name=x1 at *
 generalize bs (σ.node (σ.root b)).name=x2 at *
 go_wp2_with fail
 generalize w2.setCell ⟨pb,0,none⟩ (.int .i64 ((pl:Int)+1))=w3 at *
 refine(HC1.out).mono ?_;rintro e w4⟨rfl,hw4⟩;subst w4
 go_wp2_with fail
 refine(HC2.out).mono ?_;rintro e w4⟨rfl,hw4⟩;subst w4
 go_wp2_with fail
 go_quiet (fail)
 go_wp2
 exact HE.out _
end
end
end Go.Proofs.YtcbppnefeonmgaaGreatDoor
