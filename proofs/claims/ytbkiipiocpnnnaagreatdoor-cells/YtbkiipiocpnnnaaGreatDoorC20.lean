import Derived.Test.YtbkiipiocpnnnaaGreatDoorC19
import Derived.Deep.RegionHeld3
set_option linter.all false
set_option maxHeartbeats 40000000
set_option maxRecDepth 100000
open Go.Proofs.Tryz
open Or (inl inr)
open Option (map_eq_some_iff)
open Nat (le_refl le_trans zero_le lt_of_lt_of_le)
open List (append_nil length_append mem_append mem_singleton append_assoc map_append length_map map_cons)
namespace Go.Proofs.YtbkiipiocpnnnaaGreatDoor
open Go.RowKit
section
variable {ar:Nm->Nat}{ad:List Nat}{Y:Nat->Prop}{rk:Nat->Nat}{σ:TS}{ρ:Env}{tb yb d:Nat}{gv:Value}{w w':World}
theorem YM.letter(h:YM ar ad Y rk σ ρ tb yb d gv w)(dl:Nat):YM ar (ad++[w.heap.size]) Y rk (σ.letter dl).2 ρ tb yb d gv (w.alloc (.cells #[.string (bs []),.slice none 0 0,.pointer none,.int .i64 dl] tyType)):=
 h.step ((Kn.refl _ w).alloc _) (h.sto.new (t:=⟨[],[],dl⟩) (pv:=.slice none 0 0) (by simp) (fun _=>rfl) (fun e=>absurd rfl e) ⟨rfl,inl ⟨rfl,rfl⟩⟩ (fun g hg=>by simp[Value.ownBlock]at hg)) rfl
theorem YM.plain(h:YM ar ad Y rk σ ρ tb yb d gv w){nm:Nm}(ha:ar nm=0):YM ar (ad++[w.heap.size]) Y rk (σ.named nm []).2 ρ tb yb d gv (w.alloc (.cells #[.string (bs nm),.slice none 0 0,.pointer none,.int .i64 0] tyType)):=
 h.step ((Kn.refl _ w).alloc _) (h.sto.new (t:=⟨nm,[],0⟩) (pv:=.slice none 0 0) (by simp) (fun _=>rfl) (fun _=>ha.symm) ⟨rfl,inl ⟨rfl,rfl⟩⟩ (fun g hg=>by simp[Value.ownBlock]at hg)) rfl
theorem YM.len(h:YM ar ad Y rk σ ρ tb yb d gv w):ad.length=σ.nodes.length:=h.sto.len
theorem YM.gv_lt(h:YM ar ad Y rk σ ρ tb yb d gv w){b:Nat}(hb:gv.ownBlock=some b):b<w.heap.size:=(h.giv.lt b hb).2
theorem AnTy.newOne(h:YM ar ad Y rk σ ρ tb yb d gv w){o:Obj}{σ':TS}(h':YM ar (ad++[w.heap.size]) Y rk σ' ρ tb yb d gv (w.alloc o))(hn:σ'.nodes.length=σ.nodes.length+1):AnTy ar ad Y ρ tb yb d gv (some (σ.nodes.length,σ')) w (.returned (ptrV w.heap.size)) (w.alloc o):=
 ⟨(Kn.refl _ w).alloc _,inr ⟨_,_,[w.heap.size],rk,gv,rfl,by unfold adV;rw[<- h.len,adA_new],by omega,h',fun b hb=>by rw[mem_singleton.1 hb];exact le_refl _,fun b hb=>inl hb⟩⟩
theorem yletter_any(h:YM ar ad Y rk σ ρ tb yb d gv w):Calls prog 188 #[ptrV yb] w fun e w'=>e=.returned (ptrV w.heap.size)/\w'=w.alloc (.cells #[.string (bs []),.slice none 0 0,.pointer none,.int .i64 d] tyType):=by
 have c1:w.cell? ⟨yb,1,none⟩=some (.int .i64 d):=by simp[World.cell?,h.typ]
 have hc:=NewLetter_any d w
 have HC:=hide hc
 clear hc h
 unfold ptrV at *
 generalize hQ:(fun(e:Ending) (w':World)=>e=.returned (.pointer (some ⟨w.heap.size,0,none⟩))/\w'=w.alloc (.cells #[.string (bs []),.slice none 0 0,.pointer none,.int .i64 d] tyType))=Q at *
 go_enter func188,ntmps188
 go_wp2_with fail
 refine(HC.out).mono ?_;intro e w1 x
 rw[<- hQ]at x
 obtain⟨rfl,rfl⟩:=x
 go_wp2
 rw[<- hQ]
 exact⟨rfl,rfl⟩
theorem StoM.reX{X X':Nat->Prop}(h:StoM ar ad X rk σ w)(h1:∀k,k∈ad->w'.heap[k]?=w.heap[k]?)(h2:∀k c f,¬X k->w.heap[k]?=some (.cells c tyTypeP f)->w'.heap[k]?=w.heap[k]?)(h3:∀k,k<w.heap.size->X' k->X k):StoM ar ad X' rk σ w':=by
 have h':=h.kept h1 h2
 refine⟨h'.ok,h'.len,h'.lt,fun i hi=>?_⟩
 obtain⟨pv,fv,a1,a2,a3,a4⟩:=h.node i hi
 have hil:i<ad.length:=by rw[h.len];exact hi
 refine⟨pv,fv,(h1 _ (adA_mem hil)).trans a1,ownsRow_kept a2 fun k c f hk hc=>h2 k c f (a3 k hk) hc,fun g hg hx=>a3 g hg (h3 g ((a2.lt g hg).2) hx),a4⟩
theorem give_any{t:Nat}(h:YM ar ad Y rk σ ρ tb yb d gv w)(ht:t<σ.nodes.length)(hn:σ.given.length<=100000000):Calls prog 186 #[ptrV yb,adV ad t] w (AnTy ar ad Y ρ tb yb d gv (some (t,σ.give t)) w):=by
 have c2:w.cell? ⟨yb,2,none⟩=some gv:=by simp[World.cell?,h.typ]
 have hyl:yb<w.heap.size:=lt_of_heap h.typ
 have hf:w.frozen? ⟨yb,2,none⟩=false:=frozen_of_row _ _ _ _ _ h.typ
 have hgf:=ownsRow_forms h.giv
 have hown:w.ownsRow 0 tyTypeP 1 gv (σ.given.map (adA ad)).length ((σ.given.map (adA ad)).map ptrV):=by
  rw[length_map,List.map_map];exact h.giv
 have hfin:∀v' w2,w2.ownsRow 0 tyTypeP 1 v' (σ.given.map (adA ad)++[adA ad t]).length ((σ.given.map (adA ad)++[adA ad t]).map ptrV)->(w.alloc (.cells #[.pointer (some ⟨adA ad t,0,none⟩)] tyTypeP)).grownBy w2 gv.ownBlock->(∀g,v'.ownBlock=some g->gv.ownBlock=some g\/w.heap.size<g) ->
   w2.frozen? ⟨yb,2,none⟩=false/\w2.cell? ⟨yb,2,none⟩=some gv/\AnTy ar ad Y ρ tb yb d gv (some (t,σ.give t)) w (.returned (adV ad t)) (w2.setCell ⟨yb,2,none⟩ v'):=by
  intro v' w2 ho hg hl
  have hgt:∀b,gv.ownBlock=some b->∃c f,w.heap[b]?=some (.cells c tyTypeP f):=fun b hb=>by
   rcases h.giv.2 with⟨rfl,_⟩|⟨g,cap,cur,rfl,_,hgg,_⟩
   ·simp[Value.ownBlock]at hb
   ·have:g=b:=by simpa [Value.ownBlock]using hb
    subst this;exact⟨_,_,hgg⟩
  have hne:∀(k:Nat)(c:Array Value)(t:TypeId)(f:Nat×Nat),w.heap[k]?=some (.cells c t f)->t≠tyTypeP->w2.heap[k]?=w.heap[k]?:=fun k c t f hc ht=>by
   rw[hg.block k (by rw[alloc_size];have:=lt_of_heap hc;omega) (fun e=>by
    obtain⟨c2,f2,h2⟩:=hgt k e.symm
    rw[hc]at h2;exact ht (cells_ty h2)),Below.heap_alloc _ _ _ (lt_of_heap hc)]
  have hy2:w2.heap[yb]?=some (.cells #[.map (some tb),.int .i64 d,gv] tyTyping (0,0)):=by rw[hne _ _ _ _ h.typ (by decide)];exact h.typ
  have hset:∀k,k≠yb->(w2.setCell ⟨yb,2,none⟩ v').heap[k]?=w2.heap[k]?:=fun k hk=>Below.heap_setCell _ _ _ _ hk
  have hne3:∀(k:Nat)(c:Array Value)(t:TypeId)(f:Nat×Nat),w.heap[k]?=some (.cells c t f)->t≠tyTypeP->k≠yb->(w2.setCell ⟨yb,2,none⟩ v').heap[k]?=w.heap[k]?:=fun k c t f hc ht hk=>(hset k hk).trans (hne k c t f hc ht)
  have hyne:∀(k:Nat)(c:Array Value)(t:TypeId)(f:Nat×Nat),w.heap[k]?=some (.cells c t f)->t≠tyTyping->k≠yb:=fun k c t f hc ht e=>by
   subst e;rw[h.typ]at hc;exact ht (cells_ty hc).symm
  have hmap:(w2.setCell ⟨yb,2,none⟩ v').heap[tb]?=w.heap[tb]?:=by
   obtain⟨n,f,⟨es,cl,hm,_⟩,_⟩:=h.tab
   have htl:=h.tb_lt
   rw[hset tb (fun e=>by subst e;rw[h.typ]at hm;cases hm),hg.block tb (by rw[alloc_size];omega) (fun e=>by
    obtain⟨c2,f2,h2⟩:=hgt tb e.symm
    rw[hm]at h2;cases h2),Below.heap_alloc _ _ _ htl]
  refine⟨frozen_of_row _ _ _ _ _ hy2,by simp[World.cell?,hy2],?_,inr ⟨t,σ.give t,[],rk,v',rfl,by rw[append_nil],ht,?_,by simp,fun b hb=>?_⟩⟩
  ·exact(((Kn.refl (Dm ad tb yb gv) w).alloc _).grown hg (fun k hk=>inl (inr (inr (inr hk))))).set (p:=⟨yb,2,none⟩) (inl (inr (inr (inl rfl)))) _
  ·rw[append_nil]
   refine⟨?_,?_,?_,?_,fun b hb=>?_⟩
   ·have h1:StoM ar ad (XG Y v') rk σ (w2.setCell ⟨yb,2,none⟩ v'):=by
     refine h.sto.reX (fun k hk=>?_) (fun k c f hX hc=>?_) (fun k hk hX=>?_)
     ·obtain⟨c,f,hc⟩:=h.sto.isT hk
      exact hne3 k c _ f hc (by decide) (hyne k c _ f hc (by decide))
     ·rw[hset k (hyne k c _ f hc (by decide)),hg.block k (by rw[alloc_size];have:=lt_of_heap hc;omega) (fun e=>hX (inr e.symm)),Below.heap_alloc _ _ _ (lt_of_heap hc)]
     ·rcases hX with hX|hX
      ·exact inl hX
      ·rcases hl k hX with h2|h2
       ·exact inr h2
       ·omega
    exact⟨h1.ok.give ht,h1.len,h1.lt,h1.node⟩
   ·have:=h.tab.kept (l:=[]) hmap (fun k c f hc=>hne3 k c _ f hc (by decide) (hyne k c _ f hc (by decide))) (fun k c f hc=>hne3 k c _ f hc (by decide) (hyne k c _ f hc (by decide))) (fun k c f hc=>hne3 k c _ f hc (by decide) (hyne k c _ f hc (by decide)))
    rw[append_nil]at this;exact this
   ·rw[heap_setCell_same _ _ _ _ _ _ hy2];rfl
   ·have h1:w2.ownsRow 0 tyTypeP 1 v' (σ.give t).given.length ((σ.give t).given.map (adV ad)):=by
     have:(σ.give t).given=σ.given++[t]:=rfl
     rw[this]
     have h2:=ho
     rw[<- List.map_singleton (f:=adA ad),<- map_append,length_map,List.map_map]at h2
     exact h2
    refine ownsRow_kept h1 fun k c f _ hc=>hset k fun e=>?_
    subst e;rw[hy2]at hc;exact absurd (cells_ty hc) (by decide)
   ·have:=h.yok b hb
    have:=hg.size
    rw[alloc_size]at this
    have e:(w2.setCell ⟨yb,2,none⟩ v').heap.size=w2.heap.size:=by simp[World.setCell]
    rw[e];omega
  ·rcases hl b hb with h2|h2
   ·exact inl h2
   ·exact inr (by omega)
 have HF:=hide hfin
 clear hfin h hgf
 generalize AnTy ar ad Y ρ tb yb d gv (some (t,σ.give t)) w=Q at *
 have hnl:(σ.given.map (adA ad)).length<=100000000:=by rw[length_map];exact hn
 generalize σ.given.map (adA ad)=ns at *
 unfold adV ptrV at *
 generalize adA ad t=bt at *
 go_enter func186,ntmps186
 go_wp2_with (at_builtin;refine append_tp rfl _ _ rfl bt hown hnl (zero_le _) rfl rfl ?_)
 intro v' w2 ho hg hl
 have hform:=ownsRow_forms ho
 obtain⟨f1,f2,f3⟩:=HF.out v' w2 (by have h2:=ho;simp only[length_append,List.length_singleton,map_append,map_cons,List.map_nil];exact h2) hg hl.out
 have HG:=hide f3
 clear f3 HF ho hg hl
 rcases hform with⟨rfl,h0⟩|⟨g,cap,rfl⟩
 ·simp at h0
 ·go_wp2
  exact HG.out
end
theorem mg_field0(p:Option Addr)(s:ByteArray)(a1:Option Addr)(n1 c1:Nat)(a2:Option Addr)(n2 c2:Nat)(i j:Int)(u:World):(Instr.field tyMg (.agg #[.pointer p,.string s,.slice a1 n1 c1,.slice a2 n2 c2,.int .i64 i,.int .i64 j]) 0).run prog u=.ok (.pointer p) u:=by
 simp[Instr.field,run_underlying underlying74,go_sem,asAgg]
section
variable {ar:Nm->Nat}{ad:List Nat}{Y:Nat->Prop}{rk:Nat->Nat}{σ:TS}{ρ:Env}{tb yb d:Nat}{gv:Value}{w w':World}
theorem AnTy.panic{o:Option (Nat×TS)}(ho:o=none)(hk:Kn (Dm ad tb yb gv) w w')(hm:∃n f,MapHas okK kyV w' tb n f):AnTy ar ad Y ρ tb yb d gv o w noTy w':=⟨hk,inl ⟨ho,rfl,hm⟩⟩
theorem YM.raw(h:YM ar ad Y rk σ ρ tb yb d gv w):∃n f,MapHas okK kyV w tb n f:=h.tab.raw
theorem Kn.dm(h:Kn (·∈ad) w w'):Kn (Dm ad tb yb gv) w w':=h.wide fun _ _ hq=>inl hq
theorem YM.drew(h:YM ar ad Y rk σ ρ tb yb d gv w):YM ar ad Y rk σ ρ tb yb d gv w.drew:=by
 have:=h.step (l:=[]) (w':=w.drew) (Kn.refl _ w).drew (by rw[append_nil];exact h.sto.kept (fun _ _=>rfl) (fun _ _ _ _ _=>rfl)) rfl
 rw[append_nil]at this;exact this
structure VB(ar:Nm->Nat)(ad:List Nat)(Y:Nat->Prop)(rk:Nat->Nat)(σ:TS)(ρ:Env)(tb yb d:Nat)(gv:Value)(nb:Nat)(txt:Nm)(n:Nat)(f:Ky->Option Value)(w w':World):Prop where
 kn:Kn (·∈ad) w w'
 ym:YM ar ad Y rk σ ρ tb yb d gv w'
 nd:w'.cell? ⟨nb,1,none⟩=some (.string (bs txt))
 mp:MapHas okK kyV w' tb n f
theorem cell_alloc_old{w:World}{o:Obj}{b i:Nat}{v:Value}(h:w.cell? ⟨b,i,none⟩=some v):(w.alloc o).cell? ⟨b,i,none⟩=some v:=by
 have hb:b<w.heap.size:=by
  cases hh:w.heap[b]? with
  |none=>simp[World.cell?,hh]at h
  |some o=>exact lt_of_heap hh
 have:=Below.heap_alloc w o b hb
 unfold World.cell? at *
 rw[this];exact h
variable {nb n:Nat}{txt:Nm}{f:Ky->Option Value}
theorem VB.drew(h:VB ar ad Y rk σ ρ tb yb d gv nb txt n f w w'):VB ar ad Y rk σ ρ tb yb d gv nb txt n f w w'.drew:=⟨h.kn.drew,h.ym.drew,h.nd,h.mp⟩
theorem VB.alloc(h:VB ar ad Y rk σ ρ tb yb d gv nb txt n f w w')(o:Obj):VB ar ad Y rk σ ρ tb yb d gv nb txt n f w (w'.alloc o):=
 ⟨h.kn.alloc o,h.ym.alloc o,cell_alloc_old h.nd,h.mp.alloc o⟩
theorem VB.out(h:VB ar ad Y rk σ ρ tb yb d gv nb txt n f w w'){sp:Nat}(hx:okK (sp,txt)){v:Value}(hv:f (sp,txt)=some v):w'.cell? ⟨yb,0,none⟩=some (.map (some tb))/\w'.cell? ⟨nb,1,none⟩=some (.string (bs txt))/\(Instr.lookup tyTab (.map (some tb)) (.agg #[.int .i64 (sp:Nat),.string (bs txt)]) false).run prog w'=.ok v w':=by
 refine⟨by simp[World.cell?,h.ym.typ],h.nd,?_⟩
 have:=look_tab h.mp hx false
 rw[hv]at this
 simpa using this
theorem YM.vb(h:YM ar ad Y rk σ ρ tb yb d gv w){sp:Nat}{m:Mg}(hn:w.cell? ⟨nb,1,none⟩=some (.string (bs txt)))(hx:okK (sp,txt))(hg:ρ.get (sp,txt)=some m):∃n f v,VB ar ad Y rk σ ρ tb yb d gv nb txt n f w w/\f (sp,txt)=some v/\MgAt ad w m v:=by
 obtain⟨n,f,hm,hf⟩:=h.tab
 rcases hf (sp,txt) hx with⟨h1,_⟩|⟨m',v,h1,h2,h3⟩
 ·rw[hg]at h1;cases h1
 ·rw[hg]at h1;cases h1
  exact⟨n,f,v,⟨Kn.refl _ _,h,hn,hm⟩,h2,h3⟩
theorem variable_any(har:∀nm,ar nm<=1000000){t:Nat}{m:Mg}(h:YM ar ad Y rk σ ρ tb yb d gv w)(hn:w.cell? ⟨nb,1,none⟩=some (.string (bs txt)))(hx:okK (0,txt))(hg:ρ.get (0,txt)=some m)(hm:m.scheme=some t) :
  Calls prog 240 #[ptrV yb,ptrV nb] w (AnTy ar ad Y ρ tb yb d gv (if σ.fits t then σ.inst d t else none) w):=by
 obtain⟨n,f,v,hvb,hfv,lv,pv,bl,hv,ht,ho1,ho2,_⟩:=h.vb hn hx hg
 rw[hm]at hv
 have htl:t<σ.nodes.length:=by rw[<- h.len];exact ht t hm
 have hF:=fun(u:World) (hu:VB ar ad Y rk σ ρ tb yb d gv nb txt n f w u)=>Fits_any hu.ym.sto htl
 have hsix:∃a1 n1 c1 a2 n2 c2,lv=.slice a1 n1 c1/\pv=.slice a2 n2 c2:=by
  rcases ownsRow_forms ho1 with⟨rfl,_⟩|⟨g,cap,rfl⟩<;>rcases ownsRow_forms ho2 with⟨rfl,_⟩|⟨g',cap',rfl⟩<;>exact⟨_,_,_,_,_,_,rfl,rfl⟩
 obtain⟨a1,n1,k1,a2,n2,k2,rfl,rfl⟩:=hsix
 subst hv
 have hout:∀(u:World),VB ar ad Y rk σ ρ tb yb d gv nb txt n f w u->u.cell? ⟨yb,0,none⟩=some (.map (some tb))/\u.cell? ⟨nb,1,none⟩=some (.string (bs txt))/\(Instr.lookup tyTab (.map (some tb)) (.agg #[.int .i64 0,.string (bs txt)]) false).run prog u=.ok (.agg #[adV ad t,.string (bs m.vr.data),.slice a1 n1 k1,.slice a2 n2 k2,.int .i64 m.vr.sibs,.int .i64 m.letters]) u:=fun u hu=>hu.out hx hfv
 have hyes:∀u,VB ar ad Y rk σ ρ tb yb d gv nb txt n f w u->∀e w2,AnsTB ar ad (XG Y gv) rk σ (.bool (σ.fits t)) u e w2->e=.returned (.bool (σ.fits t))/\w2.cell? ⟨yb,1,none⟩=some (.int .i64 d) /\
   (σ.fits t=false->AnTy ar ad Y ρ tb yb d gv (if σ.fits t then σ.inst d t else none) w noTy w2)/\(σ.fits t=true->∃o,σ.inst d t=some o/\Calls prog 266 #[adV ad t,.int .i64 d] w2 (AnsIn ar ad (XG Y gv) o w2) /\
    ∀e w3,AnsIn ar ad (XG Y gv) o w2 e w3->∃b,e=.returned (ptrV b)/\AnTy ar ad Y ρ tb yb d gv (if σ.fits t then σ.inst d t else none) w (.returned (ptrV b)) w3):=by
  rintro u hu e w2⟨e1,e2,e3⟩
  have hk:Kn (·∈ad) w w2:=hu.kn.trans e3
  have h2:=h.step (l:=[]) hk (by rw[append_nil];exact e2) rfl
  rw[append_nil]at h2
  refine⟨e1,by simp[World.cell?,h2.typ],fun hf=>?_,fun hf=>?_⟩
  ·exact AnTy.panic (by rw[hf];rfl) hk.dm h2.raw
  ·obtain⟨j,τ,mm,hin,_⟩:=TS.inst_fits h.sto.ok.rg htl hf d
   have ho:σ.inst d t=some (j,τ):=by unfold TS.inst;rw[hin];rfl
   refine⟨(j,τ),ho,Instance_any har e2 htl (fun b hb=>?_) ho,?_⟩
   ·rcases hb with hb|hb
    ·exact h2.yok b hb
    ·exact h2.gv_lt hb
   ·rintro e w3⟨l,rk',f1,f2,f3,f4,f5⟩
    refine⟨_,f1,(hk.trans f4).dm,inr ⟨j,τ,l,rk',gv,by rw[hf,if_pos rfl,ho],rfl,f2,h2.step f4 f3 (inst_ext hin).given,fun b hb=>le_trans hk.size (f5 b hb),fun b hb=>inl hb⟩⟩
 have hK:=fun(u:World)=>key0_any (bs txt) u
 have hal:∀u o u',VB ar ad Y rk σ ρ tb yb d gv nb txt n f w u->u'=World.alloc u o->VB ar ad Y rk σ ρ tb yb d gv nb txt n f w u':=fun u o u' hu e=>by subst e;exact hu.alloc o
 have HBu:=hide hvb.drew
 have HK:=hide hK
 have HAL:=hide hal
 have HF:=hide hF
 have HY:=hide hyes
 have HO:=hide hout
 have HNY:=hide need_yes
 have HNN:=hide need_no
 clear hK hF hyes h ho1 ho2 har ht htl hg hm hx hvb hout hal hn hfv
 generalize AnTy ar ad Y ρ tb yb d gv (if σ.fits t then σ.inst d t else none) w=Q at *
 generalize VB ar ad Y rk σ ρ tb yb d gv nb txt n f w=V at *
 obtain⟨c0a,c1a,lka⟩:=HO.out _ HBu.out
 generalize bs txt=tx at *
 generalize bs m.vr.data=dt at *
 unfold adV ptrV at *
 generalize adA ad t=bt at *
 have hfld:=fun u=>mg_field0 (some ⟨bt,0,none⟩) dt a1 n1 k1 a2 n2 k2 m.vr.sibs m.letters u
 go_enter func240,ntmps240
 go_wp2_with fail
 go_region_held3 (fun w'=>w'.cell? ⟨yb,0,none⟩=some (.map (some tb))/\w'.cell? ⟨nb,1,none⟩=some (.string tx)/\(Instr.lookup tyTab (.map (some tb)) (.agg #[.int .i64 0,.string tx]) false).run prog w'=.ok (.agg #[.pointer (some ⟨bt,0,none⟩),.string dt,.slice a1 n1 k1,.slice a2 n2 k2,.int .i64 m.vr.sibs,.int .i64 m.letters]) w'/\Hid (V w')) (exact⟨c0a,c1a,lka,HBu⟩)
  (first|(go_at_call 25;refine(HK.out _).mono ?_;rintro e u⟨rfl,hu⟩;have HBu:=hide (HAL.out _ _ _ HBu.out hu);obtain⟨c0a,c1a,lka⟩:=HO.out _ HBu.out;clear hu))
 all_goals
  have HF1:=hide (HF.out _ HBu.out)
  have HY1:=hide (HY.out _ HBu.out)
  clear HF HY HO HAL HK c0a c1a lka HBu
  go_wp2_with fail
  refine(HF1.out).mono ?_;intro e w2 ha
  obtain⟨rfl,hc1,hno,hok⟩:=HY1.out e w2 ha
  have HNO:=hide hno
  have HOK:=hide hok
  clear ha hno hok HY1 HF1
  cases hft:σ.fits t with
  |false=>
   rw[hft]at HNO
   have HG:=hide (HNO.out rfl)
   clear HNO HOK
   go_wp2_with fail
   refine(HNN.out w2).mono ?_;rintro e w3⟨rfl,rfl⟩
   unfold noTy noTypeV at *
   go_wp2
   exact⟨rfl,HG.out⟩
  |true=>
   rw[hft]at HOK
   obtain⟨o,_,hc,hfin⟩:=HOK.out rfl
   have HC:=hide hc
   have HFIN:=hide hfin
   clear HNO HOK hc hfin
   go_wp2_with fail
   refine(HNY.out w2).mono ?_;rintro e w3⟨rfl,rfl⟩
   go_wp2_with fail
   refine(HC.out).mono ?_;intro e w4 ha
   obtain⟨b,rfl,hf⟩:=HFIN.out e w4 ha
   have HG:=hide hf
   clear ha hf HFIN HC
   go_wp2
   exact HG.out
end
section
variable {ar:Nm->Nat}{ad:List Nat}{Y:Nat->Prop}{rk:Nat->Nat}{σ:TS}{ρ:Env}{tb yb d:Nat}{gv:Value}{w w':World}{nb:Nat}{txt:Nm}
theorem Tab.six(h:Tab ad tb ρ w):∃n f,MapHas okK kyV w tb n f/\(∀x,okK x->(ρ.get x=none/\f x=none)\/∃m v,ρ.get x=some m/\f x=some v/\MgAt ad w m v)/\∀x,okK x->∀v,f x=some v->Six v:=by
 obtain⟨n,f,h1,h2⟩:=h
 refine⟨n,f,h1,h2,fun x hx v hv=>?_⟩
 rcases h2 x hx with⟨_,h3⟩|⟨m,v',_,h3,h4⟩
 ·rw[hv]at h3;cases h3
 ·rw[hv]at h3;cases h3;exact h4.six
theorem YM.bound(h:YM ar ad Y rk σ ρ tb yb d gv w){x:Ky}{m:Mg}{v:Value}{n n':Nat}{f:Ky->Option Value}(_hm:MapHas okK kyV w tb n f)(hf:∀x,okK x->(ρ.get x=none/\f x=none)\/∃m v,ρ.get x=some m/\f x=some v/\MgAt ad w m v)
  (hm':MapHas okK kyV w' tb n' (fun y=>if y=x then some v else f y)) (hk:Kn (·=tb) w w') (hv:MgAt ad w m v):YM ar ad Y rk σ ((x,m)::ρ) tb yb d gv w':=by
 have htb:∀(k:Nat)(c:Array Value)(t:TypeId)(f:Nat×Nat),w.heap[k]?=some (.cells c t f)->w'.heap[k]?=w.heap[k]?:=fun k c t f hc=>hk.block k (lt_of_heap hc) fun e=>by
  subst e
  obtain⟨es,cl,hb,_⟩:=_hm
  rw[hb]at hc;cases hc
 have hkeep:∀{m:Mg}{v:Value},MgAt ad w m v->MgAt ad w' m v:=fun hh=>hh.kept (fun _ _=>rfl) (le_refl _) (fun k c f=>htb k c _ f) (fun k c f=>htb k c _ f) (fun k c f=>htb k c _ f)
 refine⟨h.sto.kept (fun k hk2=>?_) (fun k c f _=>htb k c _ f),⟨n',_,hm',fun y hy=>?_⟩,?_,ownsRow_kept h.giv fun k c f _=>htb k c _ f,fun b hb=>lt_of_lt_of_le (h.yok b hb) hk.size⟩
 ·obtain⟨c,f,hc⟩:=h.sto.isT hk2
  exact htb k c _ f hc
 ·rw[Env.get]
  by_cases hyx:y=x
  ·rw[if_pos hyx]
   simp only[if_pos hyx]
   exact inr ⟨m,v,rfl,rfl,hkeep hv⟩
  ·rw[if_neg hyx]
   simp only[if_neg hyx]
   rcases hf y hy with h1|⟨m',v',h1,h2,h3⟩
   ·exact inl h1
   ·exact inr ⟨m',v',h1,h2,hkeep h3⟩
 ·rw[htb _ _ _ _ h.typ];exact h.typ
theorem YM.unbound{l:List Nat}{rk':Nat->Nat}{σ':TS}{gv':Value}{x:Ky}{m:Mg}{w8 w1:World}{n8:Nat}{f f7:Ky->Option Value}(h:YM ar (ad++l) Y rk' σ' ((x,m)::ρ) tb yb d gv' w')(hx:okK x)
  (hf7:∀y,okK y->(Env.get ((x,m)::ρ) y=none/\f7 y=none)\/∃m' v,Env.get ((x,m)::ρ) y=some m'/\f7 y=some v/\MgAt (ad++l) w' m' v)
  (hf:∀x,okK x->(ρ.get x=none/\f x=none)\/∃m v,ρ.get x=some m/\f x=some v/\MgAt ad w1 m v) (hk:∀(k:Nat)(c:Array Value)(t:TypeId)(f:Nat×Nat),t=tyStr\/t=tyTree\/t=tyTreeP->w1.heap[k]?=some (.cells c t f)->w'.heap[k]?=w1.heap[k]?)
  (hm8:MapHas okK kyV w8 tb n8 (fun y=>if y=x then f x else f7 y)) (ht:w'.mapTurned w8 tb):YM ar (ad++l) Y rk' σ' ρ tb yb d gv' w8:=by
 refine⟨h.sto.kept (fun k hk2=>?_) (fun k c f _ hc=>turned_other ht hc),⟨n8,_,hm8,fun y hy=>?_⟩,?_,ownsRow_kept h.giv fun k c f _ hc=>turned_other ht hc,fun b hb=>by rw[turned_size ht];exact h.yok b hb⟩
 ·obtain⟨c,f,hc⟩:=h.sto.isT hk2
  exact turned_other ht hc
 ·by_cases hyx:y=x
  ·subst hyx
   simp only[if_true]
   rcases hf y hy with h1|⟨m',v',h1,h2,h3⟩
   ·exact inl h1
   ·refine inr ⟨m',v',h1,h2,MgAt.turned (h3.kept (fun i hi=>adA_app l hi) (by simp) (fun k c f hc=>hk k c _ f (inl rfl) hc) (fun k c f hc=>hk k c _ f (inr (inl rfl)) hc) (fun k c f hc=>hk k c _ f (inr (inr rfl)) hc)) ht⟩
  ·simp only[if_neg hyx]
   rcases hf7 y hy with⟨h1,h2⟩|⟨m',v',h1,h2,h3⟩
   ·rw[Env.get,if_neg hyx]at h1;exact inl ⟨h1,h2⟩
   ·rw[Env.get,if_neg hyx]at h1;exact inr ⟨m',v',h1,h2,h3.turned ht⟩
 ·rw[turned_other ht h.typ];exact h.typ
theorem YM.dm_lt(h:YM ar ad Y rk σ ρ tb yb d gv w){k:Nat}(hk:Dm ad tb yb gv k):k<w.heap.size:=by
 rcases hk with hk|rfl|rfl|hk
 ·exact h.sto.ad_lt hk
 ·exact h.tb_lt
 ·exact lt_of_heap h.typ
 ·exact h.gv_lt hk
theorem YM.dm_not(h:YM ar ad Y rk σ ρ tb yb d gv w){k:Nat}{c:Array Value}{t:TypeId}{f:Nat×Nat}(hc:w.heap[k]?=some (.cells c t f))(h1:t≠tyType)(h2:t≠tyTyping)(h3:t≠tyTypeP):¬Dm ad tb yb gv k:=by
 rintro (hk|rfl|rfl|hk)
 ·exact h.sto.ty_not hc h1 hk
 ·obtain⟨n,f,⟨es,cl,hm,_⟩,_⟩:=h.tab
  rw[hm]at hc;cases hc
 ·rw[h.typ]at hc;exact h2 (cells_ty hc).symm
 ·rcases h.giv.2 with⟨rfl,_⟩|⟨g,cap,cur,rfl,_,hgg,_⟩
  ·simp[Value.ownBlock]at hk
  ·have:g=k:=by simpa [Value.ownBlock]using hk
   subst this
   rw[hgg]at hc;exact h3 (cells_ty hc).symm
structure F6(ar:Nm->Nat)(ad:List Nat)(Y:Nat->Prop)(rk:Nat->Nat)(σ:TS)(ρ:Env)(tb yb d:Nat)(gv:Value)(x:Ky)(m:Mg)(old:Option Value)(w:World)(W:Nat)(u:World):Prop where
 w0:w.heap.size<=W
 kn:Kn (Dm ad tb yb gv) w u
 ym:YM ar ad Y rk σ ((x,m)::ρ) tb yb d gv u
 unb:Unb tb x old W u
 sz:W+5<=u.heap.size
theorem F6.fin{x:Ky}{m:Mg}{W:Nat}{f:Ky->Option Value}{u:World}(h:YM ar ad Y rk σ ρ tb yb d gv w)(hx:okK x)(hf:∀x,okK x->(ρ.get x=none/\f x=none)\/∃m v,ρ.get x=some m/\f x=some v/\MgAt ad w m v)
  (h6:F6 ar ad Y rk σ ρ tb yb d gv x m (f x) w W u) {o:Option (Nat×TS)}{e:Ending}{w7:World} (ha:AnTy ar ad Y ((x,m)::ρ) tb yb d gv o u e w7) :
  ∃n7 f7,(e=noTy\/∃b,e=.returned (ptrV b))/\MapHas okK kyV w7 tb n7 f7/\Unb tb x (f x) W w7/\∀w8,(∃n',MapHas okK kyV w8 tb n' (fun y=>if y=x then f x else f7 y))->w7.mapTurned w8 tb->AnTy ar ad Y ρ tb yb d gv o w e w8:=by
 obtain⟨hk,ha⟩:=ha
 have hkw:Kn (Dm ad tb yb gv) w w7:=h6.kn.trans hk
 have hu7:Unb tb x (f x) W w7:=h6.unb.kept fun k hk1 hk2=>hk.block k (by have:=h6.sz;omega) fun hd=>by
  have:=h.dm_lt hd
  have:=h6.w0
  omega
 have hk8:∀w8,w7.mapTurned w8 tb->Kn (Dm ad tb yb gv) w w8:=fun w8 ht=>hkw.turned ht (inl (inr (inl rfl)))
 rcases ha with⟨h1,h2,n7,f7,h3⟩|⟨t,σ',l,rk',gv',h1,h2,h3,h4,h5,h7⟩
 ·refine⟨n7,f7,inl h2,h3,hu7,fun w8 hm8 ht=>⟨hk8 w8 ht,inl ⟨h1,h2,?_⟩⟩⟩
  obtain⟨n',hm'⟩:=hm8
  exact⟨n',_,hm'⟩
 ·obtain⟨n7,f7,hm7,hf7⟩:=h4.tab
  refine⟨n7,f7,inr ⟨_,h2⟩,hm7,hu7,fun w8 hm8 ht=>⟨hk8 w8 ht,inr ⟨t,σ',l,rk',gv',h1,h2,h3,?_,fun b hb=>le_trans h6.kn.size (h5 b hb),fun b hb=>?_⟩⟩⟩
  ·obtain⟨n',hm'⟩:=hm8
   refine h4.unbound hx hf7 hf (fun k c t f ht2 hc=>hkw.block k (lt_of_heap hc) (h.dm_not hc ?_ ?_ ?_)) hm' ht
   ·rcases ht2 with rfl|rfl|rfl<;>decide
   ·rcases ht2 with rfl|rfl|rfl<;>decide
   ·rcases ht2 with rfl|rfl|rfl<;>decide
  ·rcases h7 b hb with h8|h8
   ·exact inl h8
   ·exact inr (le_trans h6.kn.size h8)
theorem mgVar_at{t:Nat}(ht:t<ad.length)(w:World):MgAt ad w (Mg.var t) (.agg #[adV ad t,.string ⟨#[]⟩,.slice none 0 0,.slice none 0 0,.int .i64 0,.int .i64 0]):=
 ⟨.slice none 0 0,.slice none 0 0,[],rfl,fun t' e=>by cases e;exact ht,World.ownsRow_nil _ _ _ _,World.ownsRow_nil _ _ _ _,by simp[Mg.var,Vr.zero,NMem.NMems]⟩
theorem YM.stays(h:YM ar ad Y rk σ ρ tb yb d gv w)(hk:Kn (fun _=>False) w w'):YM ar ad Y rk σ ρ tb yb d gv w':=by
 have:=h.step (l:=[]) (hk.wide fun _ _ h=>h.elim) (by rw[append_nil];exact h.sto.kept (fun k hk2=>hk.block k (h.sto.ad_lt hk2) id) (fun k c f _ hc=>hk.block k (lt_of_heap hc) id)) rfl
 rw[append_nil]at this;exact this
end
section
variable {ar:Nm->Nat}{ad:List Nat}{Y:Nat->Prop}{rk:Nat->Nat}{σ:TS}{ρ:Env}{tb yb d:Nat}{gv:Value}{w w':World}{nb:Nat}{txt:Nm}
theorem within_any{t:Nat}{o:Option (Nat×TS)}(h:YM ar ad Y rk σ ρ tb yb d gv w)(ht:t<σ.nodes.length)(hx:okK (0,txt))
  (hE:∀u,Kn (Dm ad tb yb gv) w u->YM ar ad Y rk σ (((0,txt),Mg.var t)::ρ) tb yb d gv u->Calls prog 139 #[ptrV yb,ptrV nb] u (AnTy ar ad Y (((0,txt),Mg.var t)::ρ) tb yb d gv o u)) :
  Calls prog 189 #[ptrV yb,.string (bs txt),adV ad t,ptrV nb] w (AnTy ar ad Y ρ tb yb d gv o w):=by
 obtain⟨n,f,hm,hf,hsix⟩:=h.tab.six
 have htl:t<ad.length:=by rw[h.len];exact ht
 have hmk:∀u,Kn (fun _=>False) w u->MapHas okK kyV u tb n f:=fun u hu=>hm.kept (hu.block tb hm.lt id)
 have hBI:∀u,Kn (fun _=>False) w u->Calls prog 134 #[.map (some tb),.agg #[.int .i64 0,.string (bs txt)],.agg #[adV ad t,.string ⟨#[]⟩,.slice none 0 0,.slice none 0 0,.int .i64 0,.int .i64 0]] u fun e u'=>e=.returned (unbV u.heap.size)/\F6 ar ad Y rk σ ρ tb yb d gv (0,txt) (Mg.var t) (f (0,txt)) w u.heap.size u':=fun u hu=>by
  refine(Bind_any (hmk u hu) hx (fun v hv=>hsix _ hx v hv) (m:=.agg #[adV ad t,.string ⟨#[]⟩,.slice none 0 0,.slice none 0 0,.int .i64 0,.int .i64 0]) ⟨_,_,_,_,_,_,_,_,_,_,rfl⟩).mono ?_
  rintro e u'⟨e1,⟨n',e2⟩,e3,e4,e5⟩
  have hyu:=h.stays hu
  refine⟨e1,hu.size,(hu.wide fun _ _ hh=>hh.elim).trans (e5.wide fun k _ hk=>inr (inl hk)),hyu.bound (hmk u hu) (fun x hx2=>?_) e2 e5 (mgVar_at htl u),e3,by omega⟩
  rcases hf x hx2 with h1|⟨m',v',h1,h2,h3⟩
  ·exact inl h1
  ·exact inr ⟨m',v',h1,h2,h3.kept (fun _ _=>rfl) (le_refl _) (fun k c f hc=>hu.block k (lt_of_heap hc) id) (fun k c f hc=>hu.block k (lt_of_heap hc) id) (fun k c f hc=>hu.block k (lt_of_heap hc) id)⟩
 have hE6:=fun(W:Nat) (u:World) (h6:F6 ar ad Y rk σ ρ tb yb d gv (0,txt) (Mg.var t) (f (0,txt)) w W u)=>hE u h6.kn h6.ym
 have hfin:=fun(W:Nat) (u:World) (h6:F6 ar ad Y rk σ ρ tb yb d gv (0,txt) (Mg.var t) (f (0,txt)) w W u) (e:Ending) (w7:World)=>F6.fin (o:=o) (e:=e) (w7:=w7) h hx hf h6
 have hend:=fun(W:Nat) (w7:World) (n7:Nat) (f7:Ky->Option Value) (um:FrameMode) (hm7:MapHas okK kyV w7 tb n7 f7) (hu7:Unb tb (0,txt) (f (0,txt)) W w7)=>Bind1_end (u:=um) hm7 hx hu7
 have hc0:∀u,Kn (fun _=>False) w u->u.cell? ⟨yb,0,none⟩=some (.map (some tb)):=fun u hu=>by simp[World.cell?,(h.stays hu).typ]
 have hc6:∀W u,F6 ar ad Y rk σ ρ tb yb d gv (0,txt) (Mg.var t) (f (0,txt)) w W u->u.cell? ⟨yb,0,none⟩=some (.map (some tb)):=fun W u h6=>by simp[World.cell?,h6.ym.typ]
 have hal:∀u o u',Kn (fun _=>False) w u->u'=World.alloc u o->Kn (fun _=>False) w u':=fun u o u' hu e=>by subst e;exact hu.alloc o
 have hK:=fun(u:World)=>key0_any (bs txt) u
 have hE':=hide hE6
 have HBu:=hide (show Kn (fun _=>False) w w.drew from(Kn.refl _ w).drew)
 have HBI:=hide hBI
 have HE:=hide hE6
 have HFIN:=hide hfin
 have HEND:=hide hend
 have HC0:=hide hc0
 have HC6:=hide hc6
 have HAL:=hide hal
 have HK:=hide hK
 clear hE' hE6 hE hBI hfin hend hc0 hc6 hal hK h hm hf hsix hmk htl ht hx
 generalize AnTy ar ad Y ρ tb yb d gv o w=Q at *
 generalize hQ6:(fun u=>AnTy ar ad Y (((0,txt),Mg.var t)::ρ) tb yb d gv o u)=Q6 at *
 generalize F6 ar ad Y rk σ ρ tb yb d gv (0,txt) (Mg.var t) (f (0,txt)) w=F at *
 generalize Kn (fun _=>False) w=V at *
 have c0a:=HC0.out _ HBu.out
 generalize bs txt=tx at *
 unfold adV ptrV unbV at *
 generalize adA ad t=bt at *
 go_enter_defers func189,ntmps189
 go_wp2_with fail
 go_region_held3 (fun w'=>w'.cell? ⟨yb,0,none⟩=some (.map (some tb))) (exact c0a)
  (first|(go_at_call 25;refine(HK.out _).mono ?_;rintro e u⟨rfl,hu⟩;have HBu:=hide (HAL.out _ _ _ HBu.out hu);have c0a:=HC0.out _ HBu.out;clear hu)|(go_at_call 134;refine(HBI.out _ HBu.out).mono ?_;rintro e u6⟨rfl,hu6⟩;have H6:=hide hu6;have c0a:=HC6.out _ _ hu6;clear hu6))
 all_goals
  have HE1:=hide (HE.out _ _ H6.out)
  have HF1:=hide (HFIN.out _ _ H6.out)
  clear HE HFIN HBI HC0 HC6 HAL HK H6 c0a HBu
  go_wp2_with fail
  refine(HE1.out).mono ?_;intro e w7 ha
  obtain⟨n7,f7,he,hm7,hu7,hq⟩:=HF1.out e w7 ha
  have HD:=hide (fun um=>HEND.out _ _ _ _ um hm7 hu7)
  have HQ:=hide hq
  clear ha hm7 hu7 hq HE1 HF1 HEND
  rcases he with rfl|⟨b,rfl⟩
  ·unfold noTy noTypeV at *
   go_wp2
   refine leaves_cons (f:=179) (by simp) (by simp[go_sem];rfl) ?_
   refine(HD.out _).mono ?_
   rintro e u' w8⟨rfl,rfl,hm8,ht8⟩
   have HG:=hide (HQ.out w8 hm8 ht8)
   simp[Leaves,settle,results,results189,go_sem]
   exact HG.out
  ·go_wp2
   refine leaves_cons (f:=179) (by simp) (by simp[go_sem];rfl) ?_
   refine(HD.out _).mono ?_
   rintro e u' w8⟨rfl,rfl,hm8,ht8⟩
   have HG:=hide (HQ.out w8 hm8 ht8)
   simp[Leaves,settle,results,results189,go_sem]
   exact HG.out
end
section
variable {ar:Nm->Nat}{ad:List Nat}{Y:Nat->Prop}{rk:Nat->Nat}{σ:TS}{ρ:Env}{tb yb d:Nat}{gv:Value}{w w':World}{nb:Nat}{txt:Nm}
structure Bt(ad:List Nat)(tb yb:Nat)(gv:Value)(w:World)(l:List Nat)(gv':Value)(w':World):Prop where
 kn:Kn (Dm ad tb yb gv) w w'
 new:∀b∈l,w.heap.size<=b
 giv:∀b,gv'.ownBlock=some b->gv.ownBlock=some b\/w.heap.size<=b
theorem Bt.refl(ad:List Nat)(tb yb:Nat)(gv:Value)(w:World):Bt ad tb yb gv w [] gv w:=⟨Kn.refl _ _,by simp,fun _ h=>inl h⟩
theorem Bt.dm{l:List Nat}{gv':Value}(h:Bt ad tb yb gv w l gv' w'){k:Nat}(hk:k<w.heap.size)(hd:Dm (ad++l) tb yb gv' k):Dm ad tb yb gv k:=by
 rcases hd with hd|hd|hd|hd
 ·rcases mem_append.1 hd with hd|hd
  ·exact inl hd
  ·have:=h.new k hd;omega
 ·exact inr (inl hd)
 ·exact inr (inr (inl hd))
 ·rcases h.giv k hd with h1|h1
  ·exact inr (inr (inr h1))
  ·omega
theorem Bt.trans{l l2:List Nat}{gv' gv2:Value}{w2:World}(h:Bt ad tb yb gv w l gv' w')(k:Bt (ad++l) tb yb gv' w' l2 gv2 w2):Bt ad tb yb gv w (l++l2) gv2 w2:=by
 refine⟨h.kn.trans' k.kn fun i hi hd=>h.dm hi hd,fun b hb=>?_,fun b hb=>?_⟩
 ·rcases mem_append.1 hb with hb|hb
  ·exact h.new b hb
  ·exact le_trans h.kn.size (k.new b hb)
 ·rcases k.giv b hb with h1|h1
  ·exact h.giv b h1
  ·exact inr (le_trans h.kn.size h1)
theorem Bt.store{l l2:List Nat}{gv':Value}{w2:World}(h:Bt ad tb yb gv w l gv' w')(k:Kn (·∈ad++l) w' w2)(hl:∀b∈l2,w'.heap.size<=b):Bt ad tb yb gv w (l++l2) gv' w2:=
 h.trans ⟨k.dm,hl,fun _ hb=>inl hb⟩
theorem AnTy.behind{l:List Nat}{gv':Value}{o:Option (Nat×TS)}{e:Ending}{w2:World}(h:Bt ad tb yb gv w l gv' w')(ha:AnTy ar (ad++l) Y ρ tb yb d gv' o w' e w2):AnTy ar ad Y ρ tb yb d gv o w e w2:=by
 obtain⟨hk,ha⟩:=ha
 refine⟨h.kn.trans' hk fun i hi hd=>h.dm hi hd,?_⟩
 rcases ha with ha|⟨t,σ',l2,rk',gv2,h1,h2,h3,h4,h5,h6⟩
 ·exact inl ha
 ·have hb:=h.trans ⟨hk,h5,h6⟩
  rw[append_assoc]at h2 h4
  exact inr ⟨t,σ',l++l2,rk',gv2,h1,h2,h3,h4,hb.new,hb.giv⟩
theorem AnTy.cases{o:Option (Nat×TS)}{e:Ending}(ha:AnTy ar ad Y ρ tb yb d gv o w e w'):(o=none/\e=noTy/\Kn (Dm ad tb yb gv) w w'/\∃n f,MapHas okK kyV w' tb n f) \/
  ∃t σ' l rk' gv',o=some (t,σ')/\e=.returned (adV (ad++l) t)/\t<σ'.nodes.length/\YM ar (ad++l) Y rk' σ' ρ tb yb d gv' w'/\Bt ad tb yb gv w l gv' w':=by
 obtain⟨hk,⟨h1,h2,h3⟩|⟨t,σ',l,rk',gv',h1,h2,h3,h4,h5,h6⟩⟩:=ha
 ·exact inl ⟨h1,h2,hk,h3⟩
 ·exact inr ⟨t,σ',l,rk',gv',h1,h2,h3,h4,hk,h5,h6⟩
theorem AnEx.cases{o:Option TS}{e:Ending}(ha:AnEx ar ad Y ρ tb yb d gv o w e w'):(o=none/\e=noTy/\Kn (Dm ad tb yb gv) w w'/\∃n f,MapHas okK kyV w' tb n f) \/
  ∃σ' l rk' gv',o=some σ'/\e=.returned (.tuple #[])/\YM ar (ad++l) Y rk' σ' ρ tb yb d gv' w'/\Bt ad tb yb gv w l gv' w':=by
 obtain⟨hk,⟨h1,h2,h3⟩|⟨σ',l,rk',gv',h1,h2,h4,h5,h6⟩⟩:=ha
 ·exact inl ⟨h1,h2,hk,h3⟩
 ·exact inr ⟨σ',l,rk',gv',h1,h2,h4,hk,h5,h6⟩
theorem AnTy.ok{o:Option (Nat×TS)}{t:Nat}{σ':TS}{l:List Nat}{rk':Nat->Nat}{gv':Value}(ho:o=some (t,σ'))(ht:t<σ'.nodes.length)(h:YM ar (ad++l) Y rk' σ' ρ tb yb d gv' w')(hb:Bt ad tb yb gv w l gv' w'):AnTy ar ad Y ρ tb yb d gv o w (.returned (adV (ad++l) t)) w':=
 ⟨hb.kn,inr ⟨t,σ',l,rk',gv',ho,rfl,ht,h,hb.new,hb.giv⟩⟩
theorem AnEx.ok{o:Option TS}{σ':TS}{l:List Nat}{rk':Nat->Nat}{gv':Value}(ho:o=some σ')(h:YM ar (ad++l) Y rk' σ' ρ tb yb d gv' w')(hb:Bt ad tb yb gv w l gv' w'):AnEx ar ad Y ρ tb yb d gv o w (.returned (.tuple #[])) w':=
 ⟨hb.kn,inr ⟨σ',l,rk',gv',ho,rfl,h,hb.new,hb.giv⟩⟩
theorem AnEx.panic{o:Option TS}(ho:o=none)(hk:Kn (Dm ad tb yb gv) w w')(hm:∃n f,MapHas okK kyV w' tb n f):AnEx ar ad Y ρ tb yb d gv o w noTy w':=⟨hk,inl ⟨ho,rfl,hm⟩⟩
theorem YM.grown{l:List Nat}{rk':Nat->Nat}{σ':TS}{gv':Value}(h:YM ar ad Y rk σ ρ tb yb d gv w)(h':YM ar (ad++l) Y rk' σ' ρ tb yb d gv' w'):σ.nodes.length<=σ'.nodes.length:=by
 rw[<- h.len,<- h'.len,length_append];omega
def giveO(o:Option (Nat×TS)):Option (Nat×TS):=o.map fun r=>(r.1,r.2.give r.1)
def uniO(o:Option (Nat×TS))(want:Nat):Option TS:=o.bind fun r=>r.2.unify r.1 want
theorem expression_of{o:Option (Nat×TS)}(hF:Calls prog 187 #[ptrV yb,ptrV nb] w (AnTy ar ad Y ρ tb yb d gv o w))(hn:∀t σ',o=some (t,σ')->σ'.given.length<=100000000) :
  Calls prog 139 #[ptrV yb,ptrV nb] w (AnTy ar ad Y ρ tb yb d gv (giveO o) w):=by
 have hst:∀e w1,AnTy ar ad Y ρ tb yb d gv o w e w1->(e=noTy/\AnTy ar ad Y ρ tb yb d gv (giveO o) w noTy w1) \/
   ∃b Q1,e=.returned (ptrV b)/\Calls prog 186 #[ptrV yb,ptrV b] w1 Q1/\∀e w2,Q1 e w2->∃b,e=.returned (ptrV b)/\AnTy ar ad Y ρ tb yb d gv (giveO o) w (.returned (ptrV b)) w2:=by
  intro e w1 ha
  rcases ha.cases with⟨rfl,h2,h3,h4⟩|⟨t,σ',l,rk',gv',rfl,h2,h3,h4,h5⟩
  ·exact inl ⟨h2,AnTy.panic rfl h3 h4⟩
  ·refine inr ⟨_,_,h2,give_any h4 h3 (hn _ _ rfl),fun e w2 hq=>?_⟩
   have:=AnTy.behind h5 hq
   rcases hq.cases with⟨h6,_⟩|⟨t2,σ2,l2,rk2,gv2,h6,h7,_⟩
   ·cases h6
   ·exact⟨_,h7,by rw[h7]at this;exact this⟩
 have HF:=hide hF
 have HST:=hide hst
 clear hF hst hn
 generalize AnTy ar ad Y ρ tb yb d gv o w=Q0 at *
 generalize AnTy ar ad Y ρ tb yb d gv (giveO o) w=Q at *
 unfold ptrV at *
 go_enter func139,ntmps139
 go_wp2_with fail
 refine(HF.out).mono ?_;intro e w1 ha
 rcases HST.out e w1 ha with⟨rfl,hq⟩|⟨b,Q1,rfl,hc,hq⟩
 ·have HG:=hide hq
  clear ha hq HST HF
  unfold noTy noTypeV at *
  go_wp2
  exact⟨rfl,HG.out⟩
 ·have HC:=hide hc
  have HG:=hide hq
  clear ha hc hq HST HF
  go_wp2_with fail
  refine(HC.out).mono ?_;intro e w2 ha
  obtain⟨b2,rfl,hq⟩:=HG.out e w2 ha
  have HF:=hide hq
  clear ha hq HG HC
  go_wp2
  exact HF.out
theorem expect_of(har:∀nm,ar nm<=1000000){o:Option (Nat×TS)}{want:Nat}(h:YM ar ad Y rk σ ρ tb yb d gv w)(hw:want<σ.nodes.length)(hE:Calls prog 139 #[ptrV yb,ptrV nb] w (AnTy ar ad Y ρ tb yb d gv o w)) :
  Calls prog 94 #[ptrV yb,ptrV nb,adV ad want] w (AnEx ar ad Y ρ tb yb d gv (uniO o want) w):=by
 have hst:∀e w1,AnTy ar ad Y ρ tb yb d gv o w e w1->(e=noTy/\AnEx ar ad Y ρ tb yb d gv (uniO o want) w noTy w1) \/
   ∃b Q1,e=.returned (ptrV b)/\Calls prog 138 #[ptrV b,adV ad want] w1 Q1/\∀e w2,Q1 e w2->(e=.returned (.bool false)/\AnEx ar ad Y ρ tb yb d gv (uniO o want) w noTy w2)\/(e=.returned (.bool true)/\AnEx ar ad Y ρ tb yb d gv (uniO o want) w (.returned (.tuple #[])) w2):=by
  intro e w1 ha
  rcases ha.cases with⟨rfl,h2,h3,h4⟩|⟨t,σ',l,rk',gv',rfl,h2,h3,h4,h5⟩
  ·exact inl ⟨h2,AnEx.panic rfl h3 h4⟩
  ·have hw':want<σ'.nodes.length:=lt_of_lt_of_le hw (h.grown h4)
   have hU:=Unify_any har h4.sto h3 hw'
   rw[adV_app (i:=want) l (by rw[h.len];exact hw)]at hU
   refine inr ⟨_,_,h2,hU,fun e w2 hq=>?_⟩
   obtain⟨hk,⟨q1,q2⟩|⟨σ2,rk2,q1,q2,q3⟩⟩:=hq
   ·have hb:=h5.store hk (l2:=[]) (by simp)
    exact inl ⟨q2,AnEx.panic q1 hb.kn ⟨_,_,(h4.raw.choose_spec.choose_spec).kept (hk.block tb h4.tb_lt h4.tb_not)⟩⟩
   ·have hb:=h5.store hk (l2:=[]) (by simp)
    have hg:σ2.given=σ'.given:=by
     have q1:σ'.unify t want=some σ2:=q1
     unfold TS.unify at q1
     obtain⟨r,hr,rfl⟩:=map_eq_some_iff.1 q1
     exact(un_same _ _ _ _ _ _ _ hr).1.given
    have hy:=h4.step (l:=[]) hk (by rw[append_nil];exact q3) hg
    rw[append_assoc]at hy
    exact inr ⟨q2,AnEx.ok q1 hy hb⟩
 have HE:=hide hE
 have HST:=hide hst
 have HNY:=hide need_yes
 have HNN:=hide need_no
 clear hE hst h hw
 generalize AnTy ar ad Y ρ tb yb d gv o w=Q0 at *
 generalize AnEx ar ad Y ρ tb yb d gv (uniO o want) w=Q at *
 unfold adV ptrV at *
 generalize adA ad want=bw at *
 go_enter func94,ntmps94
 go_wp2_with fail
 refine(HE.out).mono ?_;intro e w1 ha
 rcases HST.out e w1 ha with⟨rfl,hq⟩|⟨b,Q1,rfl,hc,hq⟩
 ·have HG:=hide hq
  clear ha hq HST HE
  unfold noTy noTypeV at *
  go_wp2
  exact⟨rfl,HG.out⟩
 ·have HC:=hide hc
  have HG:=hide hq
  clear ha hc hq HST HE
  go_wp2_with fail
  refine(HC.out).mono ?_;intro e w2 ha
  rcases HG.out e w2 ha with⟨rfl,hq⟩|⟨rfl,hq⟩
  ·have HF:=hide hq
   clear ha hq HG HC
   go_wp2_with fail
   refine(HNN.out w2).mono ?_;rintro e w3⟨rfl,rfl⟩
   unfold noTy noTypeV at *
   go_wp2
   exact⟨rfl,HF.out⟩
  ·have HF:=hide hq
   clear ha hq HG HC
   go_wp2_with fail
   refine(HNY.out w2).mono ?_;rintro e w3⟨rfl,rfl⟩
   go_wp2
   refine bodyPost_end (v:=.tuple #[]) (by simp[results,results94,go_sem]) rfl HF.out
end
end Go.Proofs.YtbkiipiocpnnnaaGreatDoor
