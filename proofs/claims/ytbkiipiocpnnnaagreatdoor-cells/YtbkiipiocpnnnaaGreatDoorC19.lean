import Derived.Test.YtbkiipiocpnnnaaGreatDoorC15
import Derived.Test.YtbkiipiocpnnnaaGreatDoorC18
import Derived.Deep.OwnRows
set_option linter.all false
set_option maxHeartbeats 40000000
set_option maxRecDepth 100000
open Go.Proofs.Tryz
open Or (inl inr)
open Option (map_eq_some_iff)
open Nat (le_refl le_trans zero_le lt_of_lt_of_le lt_succ_self)
open List (append_nil mem_append mem_singleton append_assoc mem_cons)
namespace Go.Proofs.YtbkiipiocpnnnaaGreatDoor
open Go.RowKit
theorem instL_ext{d n:Nat}(ih:∀{σ σ':TS}{m m':List (Nat×Nat)}{i j:Nat},inst d n σ m i=some (j,σ',m')->TExt σ σ'):∀(ps:List Nat) {σ σ':TS}{m m':List (Nat×Nat)}{js:List Nat},inst.instL (inst d n) σ m ps=some (js,σ',m')->TExt σ σ'/\js.length=ps.length:=by
 intro ps
 induction ps with
 |nil=>intro σ σ' m m' js h;rw[inst.instL]at h;cases h;exact⟨TExt.refl _,rfl⟩
 |cons p r ihr=>
  intro σ σ' m m' js h
  rw[inst.instL]at h
  cases hx:inst d n σ m p with
  |none=>rw[hx]at h;cases h
  |some y=>
   obtain⟨j,σ1,m1⟩:=y
   rw[hx]at h
   simp only at h
   cases hy:inst.instL (inst d n) σ1 m1 r with
   |none=>rw[hy]at h;cases h
   |some z=>
    obtain⟨js2,σ2,m2⟩:=z
    rw[hy]at h
    cases h
    obtain⟨a,b⟩:=ihr hy
    exact⟨(ih hx).trans a,by simp[b]⟩
theorem inst_ext{d:Nat}:∀{n:Nat}{σ σ':TS}{m m':List (Nat×Nat)}{i j:Nat},inst d n σ m i=some (j,σ',m')->TExt σ σ':=by
 intro n
 induction n with
 |zero=>intro σ σ' m m' i j h;cases h
 |succ n ih=>
  intro σ σ' m m' i j h
  rw[inst]at h
  split at h
  ·split at h
   ·cases h;exact TExt.refl _
   ·split at h
    ·cases h;exact TExt.refl _
    ·cases h;exact TExt.new _ _
  ·cases hx:inst.instL (inst d n) σ m (σ.node (σ.root i)).parts with
   |none=>rw[hx]at h;cases h
   |some z=>
    obtain⟨js2,σ2,m2⟩:=z
    rw[hx]at h
    cases h
    exact(instL_ext (fun {_ _ _ _ _ _} h=>ih h) _ hx).1.trans (TExt.new _ _)
theorem made_replicate(n:Nat):madeCells #[.pointer none] n=(List.replicate n (Value.pointer none)).toArray:=by
 apply Array.ext
 ·simp[madeCells]
 ·intro i h1 h2
  simp[madeCells,Nat.mod_one]
section
variable {ar:Nm->Nat}{lb d:Nat}
def InAt(ar:Nm->Nat)(ad:List Nat)(X:Nat->Prop)(lb d n:Nat)(σ:TS)(w:World)(g:Nat)(pv:Value)(ps js':List Nat)(σ':TS)(m':List (Nat×Nat))(k:Nat)(wr:World):Prop:=
 ∃l rk' jsk σk mk js2,inst.instL (inst d n) σk mk (ps.drop k)=some (js2,σ',m')/\jsk++js2=js'/\jsk.length=k/\(∀q∈jsk,q<σk.nodes.length)/\TExt σ σk/\StoM ar (ad++l) (fun b=>X b\/b=g) rk' σk wr/\LM (ad++l) mk lb wr /\
  Kn (fun k=>k∈ad\/k=lb) w wr/\wr.heap[g]?=some (.cells (jsk.map (adV (ad++l))++List.replicate (ps.length-k) (Value.pointer none)).toArray tyTypeP (0,0))/\wr.ownsRow 0 tyTypeP 1 pv ps.length (ps.map (adV ad))/\(∀b∈l,w.heap.size<=b)
theorem LM.not_map{ad:List Nat}{m:List (Nat×Nat)}{w:World}{k:Nat}{c:Array Value}{t:TypeId}{f:Nat×Nat}(h:LM ad m lb w)(hk:w.heap[k]?=some (.cells c t f)):k≠lb:=by
 rintro rfl
 obtain⟨n,f,⟨es,cl,h1,_⟩,_⟩:=h
 rw[hk]at h1;cases h1
theorem map_adV_app{ad:List Nat}(l js:List Nat)(h:∀q∈js,q<ad.length):js.map (adV (ad++l))=js.map (adV ad):=
 List.map_congr_left fun q hq=>adV_app l (h q hq)
theorem set_row{ad l js:List Nat}{k pl j:Nat}(hk:js.length=k)(hl:k<pl):((js.map (adV (ad++l))++List.replicate (pl-k) (Value.pointer none)).toArray).setIfInBounds k (adV (ad++l) j)=((js++[j]).map (adV (ad++l))++List.replicate (pl-(k+1)) (Value.pointer none)).toArray:=by
 subst hk
 obtain⟨q,hq⟩:∃q,pl-js.length=q+1:=⟨pl-js.length-1,by omega⟩
 have hq2:pl-(js.length+1)=q:=by omega
 rw[hq,hq2,List.replicate_succ]
 simp[List.setIfInBounds_toArray]
theorem InAt.step{n:Nat}{ad:List Nat}{X:Nat->Prop}{σ σ':TS}{w wr:World}{g k p:Nat}{pv:Value}{ps js':List Nat}{m':List (Nat×Nat)}(h:InAt ar ad X lb d n σ w g pv ps js' σ' m' k wr)(hg:w.heap.size<=g)(hp:ps[k]?=some p)(hpl:p<σ.nodes.length)(hX:∀b,X b->b<w.heap.size)(had:ad.length=σ.nodes.length)(hpg:pv.ownBlock≠some g) :
  ∃l rk' σk mk j1 σ1 m1,inst d n σk mk p=some (j1,σ1,m1)/\p<σk.nodes.length/\StoM ar (ad++l) (fun b=>X b\/b=g) rk' σk wr/\LM (ad++l) mk lb wr/\(∀b,(X b\/b=g)->b<wr.heap.size)/\adV ad p=adV (ad++l) p /\
   ∀e wr2,AnsI ar (ad++l) (fun b=>X b\/b=g) lb (j1,σ1,m1) wr e wr2->∃bj,e=.returned (ptrV bj)/\wr2.frozen? ⟨g,k,none⟩=false/\(wr2.cell? ⟨g,k,none⟩).isSome=true/\InAt ar ad X lb d n σ w g pv ps js' σ' m' (k+1) (wr2.setCell ⟨g,k,none⟩ (ptrV bj)):=by
 obtain⟨l,rk',jsk,σk,mk,js2,h1,h2,h3,h4,h5,h6,h7,h8,h9,h10,h11⟩:=h
 have hkl:=(List.getElem?_eq_some_iff.1 hp).1
 have hd:ps.drop k=p::ps.drop (k+1):=by
  rw[List.drop_eq_getElem_cons hkl]
  rw[List.getElem?_eq_getElem hkl]at hp
  rw[Option.some.inj hp]
 rw[hd,inst.instL]at h1
 cases hw:inst d n σk mk p with
 |none=>rw[hw]at h1;cases h1
 |some y=>
  obtain⟨j1,σ1,m1⟩:=y
  rw[hw]at h1
  simp only at h1
  cases hy:inst.instL (inst d n) σ1 m1 (ps.drop (k+1))with
  |none=>rw[hy]at h1;cases h1
  |some z=>
   obtain⟨js3,σ3,m3⟩:=z
   rw[hy]at h1
   cases h1
   have hgl:=lt_of_heap h9
   refine⟨l,rk',σk,mk,j1,σ1,m1,hw,lt_of_lt_of_le hpl h5.len,h6,h7,?_,?_,?_⟩
   ·rintro b (hb|rfl)
    ·exact lt_of_lt_of_le (hX b hb) h8.size
    ·exact hgl
   ·rw[adV_app l (by rw[had];exact hpl)]
   ·rintro e wr2⟨l2,rk2,e1,e2,e3,e4,e5,e6⟩
    have hgm:g∉ad++l:=h6.not_mem h9 (fun c f e=>absurd (cells_ty (congrArg some e)) (by decide))
    have hglb:g≠lb:=h7.not_map h9
    have hg2:wr2.heap[g]?=some (.cells (jsk.map (adV (ad++l))++List.replicate (ps.length-k) (Value.pointer none)).toArray tyTypeP (0,0)):=by
     rw[e5.block g hgl (fun hc=>hc.elim hgm hglb)];exact h9
    have hjl:∀q∈jsk,q<(ad++l).length:=fun q hq=>by rw[h6.len];exact h4 q hq
    rw[<- map_adV_app l2 jsk hjl,append_assoc]at hg2
    rw[append_assoc]at e1 e3 e4
    have hcell:∃old,wr2.cell? ⟨g,k,none⟩=some old:=by
     refine⟨.pointer none,?_⟩
     simp[World.cell?,hg2]
     rw[List.getElem?_append_right (by simp[h3])]
     simp[h3,List.getElem?_replicate]
     omega
    have hrow:(wr2.setCell ⟨g,k,none⟩ (adV (ad++(l++l2)) j1)).heap[g]?=some (.cells ((jsk++[j1]).map (adV (ad++(l++l2)))++List.replicate (ps.length-(k+1)) (Value.pointer none)).toArray tyTypeP (0,0)):=by
     rw[heap_setCell_same _ _ _ _ _ _ hg2]
     simp only[Option.some.injEq]
     rw[set_row h3 hkl]
    have hother:∀q,q≠g->(wr2.setCell ⟨g,k,none⟩ (adV (ad++(l++l2)) j1)).heap[q]?=wr2.heap[q]?:=fun q hq=>Below.heap_setCell _ _ _ _ hq
    have hst:StoM ar (ad++(l++l2)) (fun b=>X b\/b=g) rk2 σ1 (wr2.setCell ⟨g,k,none⟩ (adV (ad++(l++l2)) j1)):=by
     refine e3.kept (fun q hq=>hother q ?_) (fun q c f hq _=>hother q fun e=>hq (inr e))
     rintro rfl
     exact e3.not_mem hg2 (fun c f e=>absurd (cells_ty (congrArg some e)) (by decide)) hq
    refine⟨adA (ad++(l++l2)) j1,e1,frozen_of_row _ _ _ _ _ hg2,by obtain⟨o,ho⟩:=hcell;rw[ho];rfl,l++l2,rk2,jsk++[j1],σ1,m1,js3,hy,by simpa using h2,by simp[h3],?_,h5.trans (inst_ext hw),hst,e4.kept (hother lb (Ne.symm hglb)),?_,hrow,?_,?_⟩
    ·intro q hq
     rcases mem_append.1 hq with hq|hq
     ·exact lt_of_lt_of_le (h4 q hq) (inst_ext hw).len
     ·rw[mem_singleton.1 hq];exact e2
    ·refine(h8.trans' e5 fun q hq hc=>?_).set (inr hg) _
     rcases hc with hc|hc
     ·rcases mem_append.1 hc with hc|hc
      ·exact inl hc
      ·have:=h11 q hc;omega
     ·exact inr hc
    ·refine ownsRow_kept (ownsRow_kept h10 fun q c f _ hc=>e5.block q (lt_of_heap hc) fun hd=>?_) fun q c f ho hc=>hother q fun e=>?_
     ·rcases hd with hd|rfl
      ·exact h6.not_mem hc (fun c f e=>absurd (cells_ty (congrArg some e)) (by decide)) hd
      ·exact h7.not_map hc rfl
     ·subst e;exact hpg ho
    ·intro b hb
     rcases mem_append.1 hb with hb|hb
     ·exact h11 b hb
     ·exact le_trans h8.size (e6 b hb)
theorem StoM.narrow{ad:List Nat}{X Y:Nat->Prop}{rk:Nat->Nat}{σ:TS}{w:World}(h:StoM ar ad X rk σ w)(hY:∀b,Y b->X b):StoM ar ad Y rk σ w:=
 ⟨h.ok,h.len,h.lt,fun i hi=>by
  obtain⟨pv,fv,a1,a2,a3,a4⟩:=h.node i hi
  exact⟨pv,fv,a1,a2,fun g hg hy=>a3 g hg (hY g hy),a4⟩⟩
theorem InAt.start{n:Nat}{ad:List Nat}{X:Nat->Prop}{rk:Nat->Nat}{σ σ':TS}{w w1:World}{pv:Value}{ps js':List Nat}{m m':List (Nat×Nat)}(h:StoM ar ad X rk σ w1)(hm:LM ad m lb w1)(hk:Kn (·∈ad) w w1)(hw:inst.instL (inst d n) σ m ps=some (js',σ',m'))(hr:w1.ownsRow 0 tyTypeP 1 pv ps.length (ps.map (adV ad))) :
  InAt ar ad X lb d n σ w w1.heap.size pv ps js' σ' m' 0 (w1.alloc (.cells (madeCells #[.pointer none] ps.length) tyTypeP)):=by
 refine⟨[],rk,[],σ,m,js',by simpa using hw,rfl,rfl,by simp,TExt.refl _,?_,?_,?_,?_,hr.alloc _,by simp⟩
 ·rw[append_nil]
  have h1:=h.alloc (.cells (madeCells #[.pointer none] ps.length) tyTypeP)
  refine⟨h1.ok,h1.len,h1.lt,fun i hi=>?_⟩
  obtain⟨pv2,fv,a1,a2,a3,a4⟩:=h1.node i hi
  refine⟨pv2,fv,a1,a2,fun g hg hx=>?_,a4⟩
  rcases hx with hx|rfl
  ·exact a3 g hg hx
  ·obtain⟨pv3,fv3,b1,b2,_⟩:=h.node i hi
   rw[Below.heap_alloc _ _ _ (lt_of_heap b1),b1]at a1
   have e:pv3=pv2:=by
    have:=Option.some.inj a1
    simp at this
    exact this.1
   subst e
   have:=(b2.lt _ hg).2
   omega
 ·rw[append_nil];exact hm.kept (Below.heap_alloc _ _ _ hm.lt)
 ·exact(hk.wide fun q _ hq=>inl hq).alloc _
 ·rw[(MapKept.heap_alloc w1 _).1,made_replicate];rfl
theorem InAt.fin{n:Nat}{ad:List Nat}{X:Nat->Prop}{σ σ':TS}{w wr:World}{g r:Nat}{pv:Value}{ps js':List Nat}{m':List (Nat×Nat)}(h:InAt ar ad X lb d n σ w g pv ps js' σ' m' ps.length wr)(hr:r<σ.nodes.length)(hps:(σ.node r).parts=ps)(hl:σ.isLetter r=false)(had:ad.length=σ.nodes.length)(hX:∀b,X b->b<w.heap.size)(hg:w.heap.size<=g)(hok:σ.Ok ar) :
  wr.cell? ⟨adA ad r,0,none⟩=some (.string (bs (σ.node r).name))/\AnsI ar ad X lb (σ'.nodes.length,(σ'.named (σ.node r).name js').2,m') w (.returned (ptrV wr.heap.size)) (wr.alloc (.cells #[.string (bs (σ.node r).name),.slice (some ⟨g,0,none⟩) ps.length ps.length,.pointer none,.int .i64 0] tyType)):=by
 obtain⟨l,rk',jsk,σk,mk,js2,h1,h2,h3,h4,h5,h6,h7,h8,h9,h10,h11⟩:=h
 rw[List.drop_length,inst.instL]at h1
 cases h1
 rw[append_nil]at h2
 subst h2
 have hrk:r<σ'.nodes.length:=lt_of_lt_of_le hr h5.len
 obtain⟨_,_,c0,_⟩:=h6.cell hrk
 rw[h5.node r hr,adA_app l (by rw[had];exact hr)]at c0
 refine⟨c0,l++[wr.heap.size],rk',?_,?_,?_,?_,?_,?_⟩
 ·rw[<- append_assoc];unfold adV;rw[<- h6.len,adA_new]
 ·simp[TS.named,TS.new]
 ·rw[<- append_assoc]
  have hcap:ps.length<=maxLen:=by
   rcases h10.2 with⟨_,e⟩|⟨_,_,_,_,_,_,e1,e2,_⟩
   ·rw[e];exact zero_le _
   ·omega
  refine(h6.narrow fun b hb=>inl hb).new (t:=⟨(σ.node r).name,jsk,0⟩) (pv:=.slice (some ⟨g,0,none⟩) ps.length ps.length) h4 (fun e=>?_) (fun e=>?_) ?_ (fun g' hg' hx=>?_)
  ·unfold TS.isLetter at hl
   have e':(σ.node r).name=[]:=e
   rw[e']at hl;cases hl
  ·show jsk.length=ar (σ.node r).name
   rw[h3,<- hps];exact(hok.parts r _ (TS.node_some hr)).2.2 e
  ·show wr.ownsRow 0 tyTypeP 1 (.slice (some ⟨g,0,none⟩) ps.length ps.length) jsk.length (jsk.map (adV (ad++l)))
   rw[h3]
   refine⟨by simp[h3],inr ⟨g,ps.length,_,rfl,zero_le _,h9,le_refl _,hcap,?_,?_⟩⟩
   ·simp[h3]
   ·simp only[Nat.sub_self,List.replicate_zero,append_nil]
    simp
    rw[List.take_of_length_le (by simp[h3])]
  ·have:g=g':=by simpa [Value.ownBlock]using hg'
   subst this
   have:=hX g hx;omega
 ·rw[<- append_assoc]
  exact(h7.kept (Below.heap_alloc _ _ _ h7.lt)).more _ fun e=>Nat.lt_irrefl _ (h6.ad_lt e)
 ·exact h8.alloc _
 ·intro b hb
  rcases mem_append.1 hb with hb|hb
  ·exact h11 b hb
  ·rw[mem_singleton.1 hb];exact h8.size
theorem instance_any(har:∀nm,ar nm<=1000000):∀(n:Nat) (ad:List Nat) (X:Nat->Prop) (rk:Nat->Nat) (σ:TS) (m:List (Nat×Nat)) (i:Nat) (w:World) (o:Nat×TS×List (Nat×Nat)),inst d n σ m i=some o->i<σ.nodes.length->StoM ar ad X rk σ w->LM ad m lb w->(∀b,X b->b<w.heap.size) ->
  Calls prog 287 #[adV ad i,.int .i64 d,.map (some lb)] w (AnsI ar ad X lb o w):=by
 intro n
 induction n with
 |zero=>intro ad X rk σ m i w o h;cases h
 |succ n ih=>
  intro ad X rk σ m i w o hin hi hS hM hX
  have hr:=hS.ok.root_lt hi
  have hroot:=root_any (rk i+1) i w (lt_succ_self _) hS hi
  have h1:∀e w1,AnsRoot ar ad X rk σ i w e w1->e=.returned (adV ad (σ.root i))/\StoM ar ad X rk σ w1/\LM ad m lb w1/\Kn (·∈ad) w w1:=by
   rintro e w1⟨a1,a2,a3,_⟩
   exact⟨a1,a2,hM.kept (a3.block lb hM.lt fun hc=>by obtain⟨c,f,hc⟩:=hS.isT hc;exact hM.not_map hc rfl),a3⟩
  have h2:=fun w1 (h:StoM ar ad X rk σ w1)=>isLetter_any h hr
  rw[inst]at hin
  generalize hrt:σ.root i=r at *
  cases hl:σ.isLetter r with
  |true=>
   rw[hl,if_pos rfl]at hin
   have ho:o=liOf σ d m r:=by
    unfold liOf
    split at hin
    ·next hd=>rw[if_pos hd];exact(Option.some.inj hin).symm
    ·next hd=>
     rw[if_neg hd]
     cases hlk:m.lookup r with
     |some j=>rw[hlk]at hin;exact(Option.some.inj hin).symm
     |none=>rw[hlk]at hin;exact(Option.some.inj hin).symm
   subst ho
   have h3:=fun w1 (h:StoM ar ad X rk σ w1) (hm:LM ad m lb w1)=>letterInstance_any (d:=d) h hr hm
   have h4:∀w1 e w2,Kn (·∈ad) w w1->AnsI ar ad X lb (liOf σ d m r) w1 e w2->∃b,e=.returned (ptrV b)/\AnsI ar ad X lb (liOf σ d m r) w (.returned (ptrV b)) w2:=by
    rintro w1 e w2 hk⟨l,rk',e1,e2,e3,e4,e5,e6⟩
    refine⟨_,e1,l,rk',rfl,e2,e3,e4,hk.wide (fun q _ hq=>inl hq) |>.trans e5,fun b hb=>le_trans hk.size (e6 b hb)⟩
   have HR:=hide hroot
   have H1:=hide h1
   have H2:=hide h2
   have H3:=hide h3
   have H4:=hide h4
   rw[hl]at H2
   clear hroot h1 h2 h3 h4 ih hS hM hX hin hr hl
   generalize AnsRoot ar ad X rk σ i w=Q1 at *
   generalize AnsI ar ad X lb (liOf σ d m r)=Q2 at *
   unfold adV ptrV at *
   go_enter func287,ntmps287
   go_wp2_with fail
   refine(HR.out).mono ?_;intro e w1 ha
   obtain⟨rfl,hs1,hm1,hk1⟩:=H1.out e w1 ha
   have HL:=hide (H2.out w1 hs1)
   have HI:=hide (H3.out w1 hs1 hm1)
   have HF:=hide (fun e w2=>H4.out w1 e w2 hk1)
   clear ha hs1 hm1 hk1 H1 H2 H3 H4 HR
   go_wp2_with fail
   refine(HL.out).mono ?_;rintro e w2⟨rfl,rfl⟩
   clear HL
   go_wp2_with fail
   refine(HI.out).mono ?_;intro e w2 ha
   obtain⟨b,rfl,hf⟩:=HF.out e w2 ha
   have HG:=hide hf
   clear ha hf HF HI
   go_wp2
   exact HG.out
  |false=>
   rw[hl]at hin
   simp only[Bool.false_eq_true,if_false]at hin
   cases hx:inst.instL (inst d n) σ m (σ.node r).parts with
   |none=>rw[hx]at hin;cases hin
   |some z=>
    obtain⟨js',σ',m'⟩:=z
    rw[hx]at hin
    obtain rfl:=(Option.some.inj hin).symm
    have hpl:∀p∈(σ.node r).parts,p<σ.nodes.length:=fun p hp=>hS.ok.part_lt hr hp
    have hP:∀w2,StoM ar ad X rk σ w2->∃pv,w2.cell? ⟨adA ad r,1,none⟩=some pv/\w2.ownsRow 0 tyTypeP 1 pv (σ.node r).parts.length ((σ.node r).parts.map (adV ad)):=by
     intro w2 hs2
     obtain⟨pv,fv,_,c2,_,_,_,_,c7,_⟩:=hs2.cell (i:=r) hr
     exact⟨pv,c2,c7⟩
    have hnm:(σ.node r).name≠[]:=fun e=>by unfold TS.isLetter at hl;rw[e]at hl;cases hl
    have hpn:(σ.node r).parts.length<=1000000:=by rw[(hS.ok.parts r _ (TS.node_some hr)).2.2 hnm];exact har _
    have hmk:=fun(w1:World)=>run_make_row' (P:=prog) 92 tyTypeP (.pointer none) 8 under_tps info_tp rfl .i64 .i64 (σ.node r).parts.length (by omega) (by omega) w1
    have hst:=fun(pv:Value) (w1:World) (h:StoM ar ad X rk σ w1) (hm:LM ad m lb w1) (hk:Kn (·∈ad) w w1) (hrw:w1.ownsRow 0 tyTypeP 1 pv (σ.node r).parts.length ((σ.node r).parts.map (adV ad)))=>InAt.start h hm hk hx hrw
    have hstep:=fun(g k p:Nat) (pv:Value) (wr:World) (h:InAt ar ad X lb d n σ w g pv (σ.node r).parts js' σ' m' k wr) (hg:w.heap.size<=g) (hp:(σ.node r).parts[k]?=some p) (hpg:pv.ownBlock≠some g)=>h.step hg hp (hpl p (List.mem_of_getElem? hp)) hX hS.len hpg
    have hend:=fun(g:Nat) (pv:Value) (wr:World) (h:InAt ar ad X lb d n σ w g pv (σ.node r).parts js' σ' m' (σ.node r).parts.length wr) (hg:w.heap.size<=g)=>h.fin hr rfl hl hS.len hX hg hS.ok
    have hown:∀g pv k wr,InAt ar ad X lb d n σ w g pv (σ.node r).parts js' σ' m' k wr->wr.ownsRow 0 tyTypeP 1 pv (σ.node r).parts.length ((σ.node r).parts.map (adV ad)):=fun g pv k wr ⟨_,_,_,_,_,_,_,_,_,_,_,_,_,_,_,h,_⟩=>h
    have hgrow:∀g pv k wr,InAt ar ad X lb d n σ w g pv (σ.node r).parts js' σ' m' k wr->g<wr.heap.size:=fun g pv k wr ⟨_,_,_,_,_,_,_,_,_,_,_,_,_,_,h,_⟩=>lt_of_heap h
    have HIH:=hide ih
    have HR:=hide hroot
    have H1:=hide h1
    have H2:=hide h2
    have HP:=hide hP
    have HST:=hide hst
    have HSTEP:=hide hstep
    have HEND:=hide hend
    have HOWN:=hide hown
    have HGR:=hide hgrow
    have HMK:=hide hmk
    have HRL:=hide hr
    have hnamed:=fun(s:ByteArray) (g n c:Nat) (w:World)=>Named_any s (some ⟨g,0,none⟩) n c w
    have HN:=hide hnamed
    clear hnamed
    rw[hl]at H2
    clear hroot h1 h2 ih hS hM hX hin hr hl hP hst hstep hend hown hgrow hmk hx hpl hnm har
    generalize hps:(σ.node r).parts=ps at *
    generalize (σ.node r).name=nm at *
    generalize AnsRoot ar ad X rk σ i w=Q1 at *
    generalize AnsI ar ad X lb (σ'.nodes.length,(σ'.named nm js').2,m') w=Q2 at *
    clear hps
    unfold adV ptrV at *
    go_enter func287,ntmps287
    go_wp2_with fail
    refine(HR.out).mono ?_;intro e w1 ha
    obtain⟨rfl,hs1,hm1,hk1⟩:=H1.out e w1 ha
    have HL:=hide (H2.out w1 hs1)
    obtain⟨pv,hc,hrw⟩:=HP.out w1 hs1
    have HAT:=hide (HST.out pv w1 hs1 hm1 hk1 hrw)
    have hgw:w.heap.size<=w1.heap.size:=hk1.size
    have hmk1:=HMK.out w1
    have hbl:pv.ownBlock≠some w1.heap.size:=fun e=>Nat.lt_irrefl _ (hrw.lt _ e).2
    have hforms:=ownsRow_forms hrw
    have hrl:adA ad r<w1.heap.size:=hs1.ad_lt (adA_mem (by rw[hs1.len];exact HRL.out))
    clear ha hs1 hm1 hk1 H1 H2 HR HP HST HMK hrw
    go_wp2_with fail
    refine(HL.out).mono ?_;rintro e w2⟨rfl,rfl⟩
    clear HL
    generalize hpn2:ps.length=pn at *
    rcases hforms with⟨rfl,rfl⟩|⟨g,cap2,rfl⟩
    ·obtain⟨hc0,hf0⟩:=HEND.out _ _ _ HAT.out hgw
     rw[alloc_size]at hf0
     have HF:=hide hf0
     have HNN:=hide (HN.out (bs nm) w2.heap.size 0 0 (w2.alloc (.cells (madeCells #[.pointer none] 0) tyTypeP)))
     have hmk0:(Instr.makeSlice 92 (.int .i64 0) (.int .i64 0)).run prog w2=.ok (.slice (some ⟨w2.heap.size,0,none⟩) 0 0) (w2.alloc (.cells (madeCells #[.pointer none] 0) tyTypeP)):=hmk1
     clear hmk1 HAT HSTEP HEND HOWN HGR HIH HN hf0
     go_wp2_with fail
     refine wp_loop_rounds 1 ?_
     rw[rounds_succ]
     go_wp2_with fail
     refine(HNN.out).mono ?_;rintro e w3⟨rfl,rfl⟩
     clear HNN
     go_wp2
     exact HF.out
    ·have hgl:=HOWN.out _ _ _ _ HAT.out
     go_wp2_with fail
     go_loopg [29] pn (fun gk v29 wr=>∃k,v29=.int .i64 (k:Nat)/\k+gk=pn/\Hid (InAt ar ad X lb d n σ w w2.heap.size (.slice (some ⟨g,0,none⟩) pn cap2) ps js' σ' m' k wr))
     case atStart=>exact⟨0,rfl,by omega,HAT⟩
     case round=>
      clear HAT
      obtain⟨k,rfl,hk,HAT⟩:=hrel
      by_cases hlt:k<pn
      ·have hkl:k<ps.length:=by omega
       have hp:ps[k]?=some ps[k]:=List.getElem?_eq_getElem hkl
       generalize ps[k]=p at hp
       obtain⟨l,rk',σk,mk,j1,σ1,m1,hw1,hw2,hw3,hw4,hw5,hw6,hnx⟩:=HSTEP.out _ k p _ wr HAT.out hgw hp hbl
       have hcell:wr.cell? ⟨g,k,none⟩=some (.pointer (some ⟨adA ad p,0,none⟩)):=by
        have:=(HOWN.out _ _ k wr HAT.out).cellAt k (by omega)
        rw[this,List.getElem?_map,hp];rfl
       have hgl2:g<wr.heap.size:=((HOWN.out _ _ k wr HAT.out).lt g rfl).2
       have hgr:=HGR.out _ _ _ _ HAT.out
       have hc1:=HIH.out (ad++l) _ rk' σk mk p wr (j1,σ1,m1) hw1 hw2 hw3 hw4 hw5
       rw[<- hw6]at hc1
       have HC:=hide hc1
       have HNX:=hide hnx
       have hlt3:(k:Int)<(pn:Int):=by omega
       clear hw1 hw2 hw3 hw4 hw5 hw6 hnx hc1 HAT hp HSTEP HEND HOWN HIH HGR hgl
       go_wp2_with fail
       refine(HC.out).mono ?_;intro e wr2 ha
       obtain⟨bj,rfl,hn1,hn2,hn3⟩:=HNX.out e wr2 ha
       have HF:=hide hn3
       obtain⟨old,hold⟩:=Option.isSome_iff_exists.1 hn2
       clear ha hn2 hn3 HC HNX
       go_wp2_with fail
       go_roundg (pn-(k+1))
       case rel=>exact⟨k+1,by simp,by omega,HF⟩
       case measure=>omega
      ·have hkn:k=pn:=by omega
       subst hkn
       obtain⟨hc0,hf0⟩:=HEND.out _ _ _ HAT.out hgw
       have HF:=hide hf0
       have HNN:=hide (HN.out (bs nm) w2.heap.size k k wr)
       have hlt3:¬(k:Int)<(k:Int):=by omega
       clear HAT HSTEP HEND HOWN HIH HGR hgl HN hf0
       go_wp2_with fail
       refine(HNN.out).mono ?_;rintro e w3⟨rfl,rfl⟩
       clear HNN
       go_wp2
       exact HF.out
def AnsIn(ar:Nm->Nat)(ad:List Nat)(X:Nat->Prop)(o:Nat×TS)(w:World)(e:Ending)(w':World):Prop:=
 ∃l rk',e=.returned (adV (ad++l) o.1)/\o.1<o.2.nodes.length/\StoM ar (ad++l) X rk' o.2 w'/\Kn (·∈ad) w w'/\∀b∈l,w.heap.size<=b
theorem Instance_any(har:∀nm,ar nm<=1000000){ad:List Nat}{X:Nat->Prop}{rk:Nat->Nat}{σ:TS}{i:Nat}{w:World}{o:Nat×TS}(h:StoM ar ad X rk σ w)(hi:i<σ.nodes.length)(hX:∀b,X b->b<w.heap.size)(ho:σ.inst d i=some o) :
  Calls prog 266 #[adV ad i,.int .i64 d] w (AnsIn ar ad X o w):=by
 unfold TS.inst at ho
 obtain⟨⟨j,σ',m'⟩,h1,rfl⟩:=map_eq_some_iff.1 ho
 have hlm:LM ad [] w.heap.size (w.alloc (.map #[] 0)):=⟨0,_,MapHas.made _ _ w,⟨fun i _=>rfl,fun b hb=>(by cases hb),by simp⟩⟩
 have hc:=instance_any (lb:=w.heap.size) har wkFuel ad X rk σ [] i (w.alloc (.map #[] 0)) _ h1 hi (h.alloc _) hlm (fun b hb=>by have:=hX b hb;rw[alloc_size];omega)
 have hq:∀e w',AnsI ar ad X w.heap.size (j,σ',m') (w.alloc (.map #[] 0)) e w'->∃b,e=.returned (ptrV b)/\AnsIn ar ad X (j,σ') w (.returned (ptrV b)) w':=by
  rintro e w'⟨l,rk',e1,e2,e3,e4,e5,e6⟩
  refine⟨_,e1,l,rk',rfl,e2,e3,((Kn.refl _ w).alloc _).trans' e5 fun q hq hc=>?_,fun b hb=>?_⟩
  ·rcases hc with hc|rfl
   ·exact hc
   ·omega
  ·have:=e6 b hb;rw[alloc_size]at this;omega
 have HC:=hide hc
 have HQ:=hide hq
 clear hc hq h hlm ho h1
 generalize AnsI ar ad X w.heap.size (j,σ',m') (w.alloc (.map #[] 0))=Q1 at *
 generalize hQ2:AnsIn ar ad X (j,σ') w=Q2 at *
 unfold adV ptrV at *
 generalize adA ad i=b at *
 clear hQ2
 have hmm:(Instr.makeMap tyLM none).run prog w=.ok (.map (some w.heap.size)) (w.alloc (.map #[] 0)):=rfl
 show Calls prog 266 #[.pointer (some ⟨b,0,none⟩),.int .i64 d] w Q2
 go_enter func266,ntmps266
 go_wp2_with fail
 refine(HC.out).mono ?_;intro e w1 ha
 obtain⟨bj,rfl,hf⟩:=HQ.out e w1 ha
 have HF:=hide hf
 clear ha hf HQ HC
 go_wp2
 exact HF.out
end
section
variable {ar:Nm->Nat}{ad:List Nat}{X:Nat->Prop}{rk:Nat->Nat}{σ:TS}{w w':World}{i:Nat}
theorem NewOpenLetter_any(w:World) :
  Calls prog 23 #[] w fun e w'=>e=.returned (ptrV w.heap.size)/\w'=w.alloc (.cells #[.string (bs []),.slice none 0 0,.pointer none,.int .i64 (openD:Nat)] tyType):=by
 have hc:=NewLetter_any openD w
 have HC:=hide hc
 clear hc
 generalize hQ:(fun(e:Ending) (w':World)=>e=.returned (ptrV w.heap.size)/\w'=w.alloc (.cells #[.string (bs []),.slice none 0 0,.pointer none,.int .i64 (openD:Nat)] tyType))=Q at *
 go_enter func23,ntmps23
 go_wp2_with fail
 refine(HC.out).mono ?_;intro e w1 x
 rw[<- hQ]at x
 obtain⟨rfl,rfl⟩:=x
 go_wp2
 rw[<- hQ]
 exact⟨rfl,rfl⟩
theorem Function_two{b1 b2 cap g:Nat}{c:Array Value}(h:w.heap[g]?=some (.cells c tyTypeP (0,0)))(h0:c[0]?=some (ptrV b1))(h1:c[1]?=some (ptrV b2)) :
  Calls prog 26 #[.slice (some ⟨g,0,none⟩) 2 cap] w fun e w'=>e=.returned (ptrV (w.heap.size+1))/\w'=(w.alloc (.cells #[ptrV b1,ptrV b2] tyTypeP)).alloc (.cells #[.string (bs arrowN),.slice (some ⟨w.heap.size,0,none⟩) 2 2,.pointer none,.int .i64 0] tyType):=by
 have c0:w.cell? ⟨g,0,none⟩=some (ptrV b1):=by simp[World.cell?,h,h0]
 have c1:w.cell? ⟨g,1,none⟩=some (ptrV b2):=by simp[World.cell?,h,h1]
 have hgl:g<w.heap.size:=lt_of_heap h
 have hc:=Named_any (bs arrowN) (some ⟨w.heap.size,0,none⟩) 2 2 (w.alloc (.cells #[ptrV b1,ptrV b2] tyTypeP))
 generalize hQ:(fun(e:Ending) (w':World)=>e=.returned (ptrV (w.heap.size+1))/\w'=(w.alloc (.cells #[ptrV b1,ptrV b2] tyTypeP)).alloc (.cells #[.string (bs arrowN),.slice (some ⟨w.heap.size,0,none⟩) 2 2,.pointer none,.int .i64 0] tyType))=Q
 have hq:∀(e:Ending)(w1:World),(e=.returned (ptrV (w.alloc (.cells #[ptrV b1,ptrV b2] tyTypeP)).heap.size)/\w1=(w.alloc (.cells #[ptrV b1,ptrV b2] tyTypeP)).alloc (.cells #[.string (bs arrowN),.slice (some ⟨w.heap.size,0,none⟩) 2 2,.pointer none,.int .i64 0] tyType))->e=.returned (ptrV (w.heap.size+1))/\Q (.returned (ptrV (w.heap.size+1))) w1:=by
  rintro e w1⟨rfl,rfl⟩
  rw[<- hQ]
  exact⟨by simp,rfl,rfl⟩
 have HC:=hide hc
 have HQ:=hide hq
 clear hc hq h h0 h1 hQ
 unfold ptrV at *
 go_enter func26,ntmps26
 go_wp2_with fail
 refine wp_loop_rounds 2 ?_
 rw[rounds_succ]
 go_wp2_with fail
 refine(HC.out).mono ?_;intro e w1 x
 obtain⟨rfl,hq⟩:=HQ.out e w1 x
 have HF:=hide hq
 clear x hq HQ HC
 go_wp2_with fail
 rw[rounds_succ]
 go_wp2
 exact HF.out
theorem StoM.arrow(h:StoM ar ad X rk σ w){x y:Nat}(hx:x<σ.nodes.length)(hy:y<σ.nodes.length)(h2:ar arrowN=2)(hX:∀g,X g->g<w.heap.size) :
  StoM ar (ad++[w.heap.size+1]) X rk (σ.named arrowN [x,y]).2 ((w.alloc (.cells #[adV ad x,adV ad y] tyTypeP)).alloc (.cells #[.string (bs arrowN),.slice (some ⟨w.heap.size,0,none⟩) 2 2,.pointer none,.int .i64 0] tyType)):=by
 have h1:=h.alloc (.cells #[adV ad x,adV ad y] tyTypeP)
 have hrow:(w.alloc (.cells #[adV ad x,adV ad y] tyTypeP)).ownsRow 0 tyTypeP 1 (.slice (some ⟨w.heap.size,0,none⟩) 2 2) 2 ([x,y].map (adV ad)):=
  ⟨rfl,inr ⟨w.heap.size,2,#[adV ad x,adV ad y],rfl,zero_le _,(MapKept.heap_alloc w _).1,le_refl _,by decide,rfl,rfl⟩⟩
 have:=h1.new (t:=⟨arrowN,[x,y],0⟩) (pv:=.slice (some ⟨w.heap.size,0,none⟩) 2 2) (fun p hp=>by
  rcases mem_cons.1 hp with rfl|hp
  ·exact hx
  ·rw[mem_singleton.1 hp];exact hy) (fun e=>absurd e (show arrowN≠[] by decide)) (fun _=>h2.symm) hrow (fun g hg e=>by
   have hg:w.heap.size=g:=by simpa [Value.ownBlock]using hg
   have:=hX g e
   omega)
 have hs:(w.alloc (.cells #[adV ad x,adV ad y] tyTypeP)).heap.size=w.heap.size+1:=by simp
 rw[hs]at this
 exact this
end
abbrev tyTyping:TypeId:=132
def noTypeV:Value:=.iface 130 (.agg #[])
def noTy:Ending:=.panicked [{ v:=noTypeV,recovered:=false }]
def XG(Y:Nat->Prop)(gv:Value)(b:Nat):Prop:=Y b\/gv.ownBlock=some b
structure YM(ar:Nm->Nat)(ad:List Nat)(Y:Nat->Prop)(rk:Nat->Nat)(σ:TS)(ρ:Env)(tb yb d:Nat)(gv:Value)(w:World):Prop where
 sto:StoM ar ad (XG Y gv) rk σ w
 tab:Tab ad tb ρ w
 typ:w.heap[yb]?=some (.cells #[.map (some tb),.int .i64 d,gv] tyTyping (0,0))
 giv:w.ownsRow 0 tyTypeP 1 gv σ.given.length (σ.given.map (adV ad))
 yok:∀b,Y b->b<w.heap.size
def Dm(ad:List Nat)(tb yb:Nat)(gv:Value)(k:Nat):Prop:=k∈ad\/k=tb\/k=yb\/gv.ownBlock=some k
def AnTy(ar:Nm->Nat)(ad:List Nat)(Y:Nat->Prop)(ρ:Env)(tb yb d:Nat)(gv:Value)(o:Option (Nat×TS))(w:World)(e:Ending)(w':World):Prop:=
 Kn (Dm ad tb yb gv) w w'/\((o=none/\e=noTy/\∃n f,MapHas okK kyV w' tb n f) \/
  ∃t σ' l rk' gv',o=some (t,σ')/\e=.returned (adV (ad++l) t)/\t<σ'.nodes.length/\YM ar (ad++l) Y rk' σ' ρ tb yb d gv' w'/\(∀b∈l,w.heap.size<=b)/\∀b,gv'.ownBlock=some b->gv.ownBlock=some b\/w.heap.size<=b)
def AnEx(ar:Nm->Nat)(ad:List Nat)(Y:Nat->Prop)(ρ:Env)(tb yb d:Nat)(gv:Value)(o:Option TS)(w:World)(e:Ending)(w':World):Prop:=
 Kn (Dm ad tb yb gv) w w'/\((o=none/\e=noTy/\∃n f,MapHas okK kyV w' tb n f) \/
  ∃σ' l rk' gv',o=some σ'/\e=.returned (.tuple #[])/\YM ar (ad++l) Y rk' σ' ρ tb yb d gv' w'/\(∀b∈l,w.heap.size<=b)/\∀b,gv'.ownBlock=some b->gv.ownBlock=some b\/w.heap.size<=b)
section
variable {ar:Nm->Nat}{ad:List Nat}{Y:Nat->Prop}{rk:Nat->Nat}{σ:TS}{ρ:Env}{tb yb d:Nat}{gv:Value}{w w':World}
theorem Tab.kept(h:Tab ad tb ρ w){l:List Nat}(hm:w'.heap[tb]?=w.heap[tb]?)(h0:∀(k:Nat)(c:Array Value)(f:Nat×Nat),w.heap[k]?=some (.cells c tyStr f)->w'.heap[k]?=w.heap[k]?)
  (h1:∀(k:Nat)(c:Array Value)(f:Nat×Nat),w.heap[k]?=some (.cells c tyTree f)->w'.heap[k]?=w.heap[k]?) (h2:∀(k:Nat)(c:Array Value)(f:Nat×Nat),w.heap[k]?=some (.cells c tyTreeP f)->w'.heap[k]?=w.heap[k]?):Tab (ad++l) tb ρ w':=by
 obtain⟨n,f,a1,a2⟩:=h
 refine⟨n,f,a1.kept hm,fun x hx=>?_⟩
 rcases a2 x hx with b|⟨m,v,b1,b2,b3⟩
 ·exact inl b
 ·exact inr ⟨m,v,b1,b2,b3.kept (fun i hi=>adA_app l hi) (by simp) h0 h1 h2⟩
theorem YM.tb_not(h:YM ar ad Y rk σ ρ tb yb d gv w):tb∉ad:=fun e=>by
 obtain⟨n,f,⟨es,cl,hm,_⟩,_⟩:=h.tab
 obtain⟨c,f,hc⟩:=h.sto.isT e
 rw[hm]at hc;cases hc
theorem YM.tb_lt(h:YM ar ad Y rk σ ρ tb yb d gv w):tb<w.heap.size:=by
 obtain⟨n,f,hm,_⟩:=h.tab
 exact hm.lt
theorem StoM.ty_not{X:Nat->Prop}(h:StoM ar ad X rk σ w){k:Nat}{c:Array Value}{t:TypeId}{f:Nat×Nat}(hc:w.heap[k]?=some (.cells c t f))(ht:t≠tyType):k∉ad:=fun e=>by
 obtain⟨c2,f2,h2⟩:=h.isT e
 rw[hc]at h2
 exact ht (cells_ty h2)
theorem YM.step(h:YM ar ad Y rk σ ρ tb yb d gv w)(hk:Kn (·∈ad) w w'){l:List Nat}{rk':Nat->Nat}{σ':TS}(hs:StoM ar (ad++l) (XG Y gv) rk' σ' w')(hg:σ'.given=σ.given):YM ar (ad++l) Y rk' σ' ρ tb yb d gv w':=by
 have hb:∀(k:Nat)(c:Array Value)(t:TypeId)(f:Nat×Nat),t≠tyType->w.heap[k]?=some (.cells c t f)->w'.heap[k]?=w.heap[k]?:=fun k c t f ht hc=>hk.block k (lt_of_heap hc) (h.sto.ty_not hc ht)
 refine⟨hs,h.tab.kept (hk.block tb h.tb_lt h.tb_not) (fun k c f=>hb k c _ f (by decide)) (fun k c f=>hb k c _ f (by decide)) (fun k c f=>hb k c _ f (by decide)),?_,?_,fun b hb2=>lt_of_lt_of_le (h.yok b hb2) hk.size⟩
 ·rw[hb _ _ _ _ (by decide) h.typ];exact h.typ
 ·rw[hg,map_adV_app l _ (fun q hq=>by rw[h.sto.len];exact h.sto.ok.given q hq)]
  exact ownsRow_kept h.giv fun k c f _ hc=>hb k c _ f (by decide) hc
theorem YM.alloc(h:YM ar ad Y rk σ ρ tb yb d gv w)(o:Obj):YM ar ad Y rk σ ρ tb yb d gv (w.alloc o):=by
 have:=h.step (l:=[]) (w':=w.alloc o) ((Kn.refl _ w).alloc o) (by rw[append_nil];exact h.sto.alloc o) rfl
 rw[append_nil]at this;exact this
theorem need_yes(w:World):Calls prog 63 #[.bool true] w fun e w'=>e=.returned (.tuple #[])/\w'=w:=by
 go_enter func63,ntmps63
 go_wp2
 refine bodyPost_end (v:=.tuple #[]) (by simp[results,results63,go_sem]) rfl ⟨rfl,rfl⟩
theorem need_no(w:World):Calls prog 63 #[.bool false] w fun e w'=>e=noTy/\w'=w:=by
 unfold noTy noTypeV
 go_enter func63,ntmps63
 go_wp2
 exact⟨rfl,rfl,rfl⟩
theorem intN_any(w:World):Calls prog 27 #[] w fun e w'=>e=.returned (ptrV w.heap.size)/\w'=w.alloc (.cells #[.string (bs intN),.slice none 0 0,.pointer none,.int .i64 0] tyType):=by
 have hc:=Named_any (bs intN) none 0 0 w
 have HC:=hide hc
 clear hc
 unfold ptrV at *
 generalize hQ:(fun(e:Ending) (w':World)=>e=.returned (.pointer (some ⟨w.heap.size,0,none⟩))/\w'=w.alloc (.cells #[.string (bs intN),.slice none 0 0,.pointer none,.int .i64 0] tyType))=Q at *
 go_enter func27,ntmps27
 go_wp2_with fail
 refine(HC.out).mono ?_;intro e w1 x
 rw[<- hQ]at x
 obtain⟨rfl,rfl⟩:=x
 go_wp2
 rw[<- hQ]
 exact⟨rfl,rfl⟩
theorem boolN_any(w:World):Calls prog 244 #[] w fun e w'=>e=.returned (ptrV w.heap.size)/\w'=w.alloc (.cells #[.string (bs boolN),.slice none 0 0,.pointer none,.int .i64 0] tyType):=by
 have hc:=Named_any (bs boolN) none 0 0 w
 have HC:=hide hc
 clear hc
 unfold ptrV at *
 generalize hQ:(fun(e:Ending) (w':World)=>e=.returned (.pointer (some ⟨w.heap.size,0,none⟩))/\w'=w.alloc (.cells #[.string (bs boolN),.slice none 0 0,.pointer none,.int .i64 0] tyType))=Q at *
 go_enter func244,ntmps244
 go_wp2_with fail
 refine(HC.out).mono ?_;intro e w1 x
 rw[<- hQ]at x
 obtain⟨rfl,rfl⟩:=x
 go_wp2
 rw[<- hQ]
 exact⟨rfl,rfl⟩
theorem unitN_any(w:World):Calls prog 28 #[] w fun e w'=>e=.returned (ptrV w.heap.size)/\w'=w.alloc (.cells #[.string (bs unitN),.slice none 0 0,.pointer none,.int .i64 0] tyType):=by
 have hc:=Named_any (bs unitN) none 0 0 w
 have HC:=hide hc
 clear hc
 unfold ptrV at *
 generalize hQ:(fun(e:Ending) (w':World)=>e=.returned (.pointer (some ⟨w.heap.size,0,none⟩))/\w'=w.alloc (.cells #[.string (bs unitN),.slice none 0 0,.pointer none,.int .i64 0] tyType))=Q at *
 go_enter func28,ntmps28
 go_wp2_with fail
 refine(HC.out).mono ?_;intro e w1 x
 rw[<- hQ]at x
 obtain⟨rfl,rfl⟩:=x
 go_wp2
 rw[<- hQ]
 exact⟨rfl,rfl⟩
theorem cellType_any(b:Nat)(w:World):Calls prog 29 #[ptrV b] w fun e w'=>e=.returned (ptrV (w.heap.size+1))/\w'=(w.alloc (.cells #[ptrV b] tyTypeP)).alloc (.cells #[.string (bs refN),.slice (some ⟨w.heap.size,0,none⟩) 1 1,.pointer none,.int .i64 0] tyType):=by
 have hc:=Named_any (bs refN) (some ⟨w.heap.size,0,none⟩) 1 1 (w.alloc (.cells #[ptrV b] tyTypeP))
 rw[alloc_size]at hc
 have HC:=hide hc
 clear hc
 unfold ptrV at *
 generalize hQ:(fun(e:Ending) (w':World)=>e=.returned (.pointer (some ⟨w.heap.size+1,0,none⟩))/\w'=(w.alloc (.cells #[.pointer (some ⟨b,0,none⟩)] tyTypeP)).alloc (.cells #[.string (bs refN),.slice (some ⟨w.heap.size,0,none⟩) 1 1,.pointer none,.int .i64 0] tyType))=Q at *
 go_enter func29,ntmps29
 go_wp2_with fail
 refine(HC.out).mono ?_;intro e w1 x
 rw[<- hQ]at x
 obtain⟨rfl,rfl⟩:=x
 go_wp2
 rw[<- hQ]
 exact⟨rfl,rfl⟩
end
end Go.Proofs.YtbkiipiocpnnnaaGreatDoor
