import Derived.Test.YtcbppnefeonmgaaGreatDoorC21
set_option linter.all false
set_option maxHeartbeats 40000000
set_option maxRecDepth 100000
open Go.Proofs.Tryz
open Or (inl inr)
open Option (map_eq_some_iff)
open Nat (le_refl le_trans)
open List (append_nil length_append length_cons mem_cons_self mem_cons_of_mem mem_append length_nil map_append)
namespace Go.Proofs.YtcbppnefeonmgaaGreatDoor
open Go.RowKit
section
variable {S:Type}{get:S->TS}{put:S->TS->S}{E:S->Value->List Nat->World->Prop}{rb:Nat}
variable {ar:Nm->Nat}{ad:List Nat}{Y:Nat->Prop}{rk:Nat->Nat}{σ:TS}{ρ:Env}{tb yb d:Nat}{gv vv:Value}{w w':World}{nb:Nat}{txt:Nm}
theorem AnCT.base(B:Bes get put E rb){o:Option (Nat×S)}{w1:World}{e:Ending}(hk:Kn (fun _=>False) w w1)(ha:AnCT get E rb ar ad Y ρ tb yb d gv vv o w1 e w'):AnCT get E rb ar ad Y ρ tb yb d gv vv o w e w':=by
 obtain⟨h1,h2⟩:=ha
 refine⟨(hk.wide fun _ _ h=>h.elim).trans h1,?_⟩
 rcases h2 with h2|⟨t,s',l,rk',gv',vv',a1,a2,a3,a4,a5,a6,a7,a8⟩
 ·exact inl h2
 ·refine inr ⟨t,s',l,rk',gv',vv',a1,a2,a3,a4,a5,fun b hb=>le_trans hk.size (a6 b hb),fun b hb=>?_,fun b hb=>?_⟩
  ·rcases a7 b hb with h|h
   ·exact inl h
   ·exact inr (le_trans hk.size h)
  ·rcases a8 b hb with h|h
   ·exact inl h
   ·exact inr (le_trans hk.size h)
theorem AnCT.forms{o:Option (Nat×S)}{e:Ending}(ha:AnCT get E rb ar ad Y ρ tb yb d gv vv o w e w'):e=noTy\/∃b,e=.returned (ptrV b):=by
 rcases ha.2 with⟨_,h,_⟩|⟨_,_,_,_,_,_,_,h,_⟩
 ·exact inl h
 ·exact inr ⟨_,h⟩
theorem con_of(B:Bes get put E rb)(har:∀nm,ar nm<=1000000)(h2:ar arrowN=2){K M:Nat}{recv:Value}(HE:Enters K){ex:Nd->Nat->S->Option S}{s0:S}{ps:List Nd}{m:Mg}(h:YM ar ad Y rk (get s0) ρ tb yb d gv w)(hE:E s0 vv ad w)(hn:NMem w (.mk 14 txt ps) nb)
  (hx:okK (1,txt)) (hg:ρ.get (1,txt)=some m) (hm:ConIn ar m ps.length) (hps:ps.length<=1000000)
  (hX:∀p∈ps,∀bp (Y:Nat->Prop) ad rk s gv vv u want,NMem u p bp->YM ar ad Y rk (get s) ρ tb yb d gv u->E s vv ad u->(get s).given.length+p.sz<=M->want<(get s).nodes.length->Calls prog K #[recv,ptrV bp,adV ad want] u (AnC get E rb ar ad Y ρ tb yb d gv vv (ex p want s) u))
  (hgr:∀p∈ps,∀want s s',ex p want s=some s'->(get s').given.length<=(get s).given.length+p.sz) (hbud:(get s0).given.length+Nd.sz.szs ps<=M) :
  Calls prog 182 #[ptrV yb,ptrV nb,.func (.func K) #[recv] #[]] w (AnCT get E rb ar ad Y ρ tb yb d gv vv (conT get put ρ d txt ps ex s0) w):=by
 obtain⟨npv,nbl,n1,n2,n3⟩:=hn.inv
 have cn1:w.cell? ⟨nb,1,none⟩=some (.string (bs txt)):=by simp[World.cell?,n1]
 obtain⟨n,f,v0,hvb,hfv,lv,pv,pbl,hv,_,ho1,ho2,ho3⟩:=h.vb cn1 hx hg
 have hforms:∀{t:TypeId}{v:Value}{k:Nat}{xs:List Value},w.ownsRow 0 t 1 v k xs->∃a c,v=.slice a k c:=fun {t v k xs} ho=>by
  rcases ownsRow_forms ho with⟨h,h0⟩|⟨g,cap,h⟩
  ·exact⟨none,0,by rw[h,h0]⟩
  ·exact⟨_,cap,h⟩
 obtain⟨a1,k1,rfl⟩:=hforms ho1
 obtain⟨a2,k2,rfl⟩:=hforms ho2
 obtain⟨a3,k3,rfl⟩:=hforms n2
 have hmax1:=ownsRow_max ho1
 have hnl:=n3.len
 have hpbl:=ho3.len
 obtain⟨sp,hsp⟩:∃sp,schV ad m.scheme=.pointer sp:=by
  cases m.scheme with
  |none=>exact⟨none,rfl⟩
  |some t=>exact⟨some _,rfl⟩
 rw[hsp]at hv
 subst hv
 have hsib:∃sb:Int,sb=m.vr.sibs:=⟨_,rfl⟩
 obtain⟨sb,hsb⟩:=hsib
 have hlet:∃lt:Int,lt=m.letters:=⟨_,rfl⟩
 obtain⟨lt,hlt⟩:=hlet
 generalize hS:(fun(u:World)=>u.cell? ⟨yb,0,none⟩=some (.map (some tb))/\u.cell? ⟨nb,1,none⟩=some (.string (bs txt))/\(Instr.lookup tyTab (.map (some tb)) (.agg #[.int .i64 1,.string (bs txt)]) false).run prog u=.ok (.agg #[.pointer sp,.string (bs m.vr.data),.slice a1 m.vr.letters.length k1,.slice a2 pbl.length k2,.int .i64 sb,.int .i64 lt]) u/\Hid (Kn (fun _=>False) w u))=SS
 have hout:∀(u:World),Kn (fun _=>False) w u->SS u:=fun u hu=>by
  rw[<- hS]
  have hnbu:u.heap[nb]?=w.heap[nb]?:=hu.block nb (lt_of_heap n1) fun h=>h
  have hvbu:VB ar ad Y rk (get s0) ρ tb yb d gv nb txt n f w u:=⟨hu.wide fun _ _ h=>h.elim,h.stays hu,by simp[World.cell?,hnbu,n1],hvb.mp.kept (hu.block tb hvb.mp.lt fun h=>h)⟩
  obtain⟨q1,q2,q3⟩:=hvbu.out hx hfv
  rw[hsb,hlt]
  exact⟨q1,q2,q3,hide hu⟩
 have hal:∀u o u',Kn (fun _=>False) w u->u'=World.alloc u o->Kn (fun _=>False) w u':=fun u o u' hu e=>by
  subst e;exact hu.alloc o
 have hall:∀o2 u',u'=World.alloc (World.drew (World.alloc w (.cells #[.string ⟨#[]⟩,.slice none 0 0,.slice none 0 0,.int .i64 0] 100))) o2->Kn (fun _=>False) w u'/\u'.heap[w.heap.size]?=some (.cells #[.string ⟨#[]⟩,.slice none 0 0,.slice none 0 0,.int .i64 0] tyVr (0,0)):=fun o2 u' e=>by
  have h1:(World.drew (World.alloc w (.cells #[.string ⟨#[]⟩,.slice none 0 0,.slice none 0 0,.int .i64 0] 100))).heap[w.heap.size]?=some (.cells #[.string ⟨#[]⟩,.slice none 0 0,.slice none 0 0,.int .i64 0] tyVr (0,0)):=(MapKept.heap_alloc w _).1
  refine⟨by subst e;exact(((Kn.refl _ w).alloc _).drew).alloc o2,?_⟩
  subst e;rw[Below.heap_alloc _ _ _ (lt_of_heap h1)];exact h1
 have hrow:∀(u:World)(p:Nat),u.heap[p]?=some (.cells #[.string ⟨#[]⟩,.slice none 0 0,.slice none 0 0,.int .i64 0] tyVr (0,0))->p<u.heap.size/\u.frozen? ⟨p,0,none⟩=false/\u.frozen? ⟨p,1,none⟩=false/\u.frozen? ⟨p,2,none⟩=false/\u.frozen? ⟨p,3,none⟩=false /\
   u.cell? ⟨p,0,none⟩=some (.string ⟨#[]⟩)/\u.cell? ⟨p,1,none⟩=some (.slice none 0 0)/\u.cell? ⟨p,2,none⟩=some (.slice none 0 0)/\u.cell? ⟨p,3,none⟩=some (.int .i64 0):=fun u p h2=>by
  refine⟨lt_of_heap h2,frozen_of_row _ _ _ _ _ h2,frozen_of_row _ _ _ _ _ h2,frozen_of_row _ _ _ _ _ h2,frozen_of_row _ _ _ _ _ h2,?_,?_,?_,?_⟩<;>simp[World.cell?,h2]
 have hset:∀(u:World)(p:Nat)(v0 v1 v2 v3:Value),Kn (fun _=>False) w u->w.heap.size<=p->Kn (fun _=>False) w ((((u.setCell ⟨p,0,none⟩ v0).setCell ⟨p,1,none⟩ v1).setCell ⟨p,2,none⟩ v2).setCell ⟨p,3,none⟩ v3):=fun u p v0 v1 v2 v3 hu hp=>
  (((hu.set (p:=⟨p,0,none⟩) (inr hp) _).set (p:=⟨p,1,none⟩) (inr hp) _).set (p:=⟨p,2,none⟩) (inr hp) _).set (p:=⟨p,3,none⟩) (inr hp) _
 have hset2:∀(u:World)(p:Nat)(v0 v1 v2 v3:Value),u.heap[p]?=some (.cells #[.string ⟨#[]⟩,.slice none 0 0,.slice none 0 0,.int .i64 0] tyVr (0,0))->((((u.setCell ⟨p,0,none⟩ v0).setCell ⟨p,1,none⟩ v1).setCell ⟨p,2,none⟩ v2).setCell ⟨p,3,none⟩ v3).heap[p]?=some (.cells #[v0,v1,v2,v3] tyVr (0,0)):=fun u p v0 v1 v2 v3 hu=>by
  have e1:=heap_setCell_same _ p 0 _ _ v0 hu
  have e2:=heap_setCell_same _ p 1 _ _ v1 e1
  have e3:=heap_setCell_same _ p 2 _ _ v2 e2
  have e4:=heap_setCell_same _ p 3 _ _ v3 e3
  rw[e4];rfl
 have ha1:∀u o,Kn (fun _=>False) w u->Kn (fun _=>False) w (World.alloc u o):=fun u o hu=>hu.alloc o
 have ha2:∀o,Kn (fun _=>False) w (World.drew (World.alloc w o)):=fun o=>((Kn.refl _ w).alloc o).drew
 have hle2:∀u,Kn (fun _=>False) w u->w.heap.size<=u.heap.size:=fun u hu=>hu.size
 have hK:=fun(u:World)=>key1_any (bs txt) u
 have hfacts:=fun(w1:World) (mb:Nat) (hk:Kn (fun _=>False) w w1) (hmb:w1.heap[mb]?=some (.cells #[.string (bs m.vr.data),.slice a1 m.vr.letters.length k1,.slice a2 pbl.length k2,.int .i64 m.vr.sibs] tyVr (0,0)))=>
  con_facts (w:=w1) B har h2 (K:=K) (recv:=recv) (h.stays hk) (by have:=B.keep [] (get s0) hE hk rfl;rw[B.pg,append_nil]at this;exact this) ((hk.block nb (lt_of_heap n1) fun h=>h).trans n1) (ownsRow_kept n2 fun q c f _ hc=>hk.block q (lt_of_heap hc) fun h=>h) (n3.kept (fun k c f hc=>hk.block k (lt_of_heap hc) fun h=>h) (fun k c f hc=>hk.block k (lt_of_heap hc) fun h=>h))
   (ownsRow_kept ho1 fun q c f _ hc=>hk.block q (lt_of_heap hc) fun h=>h) (ownsRow_kept ho2 fun q c f _ hc=>hk.block q (lt_of_heap hc) fun h=>h) (ho3.kept (fun k c f hc=>hk.block k (lt_of_heap hc) fun h=>h) (fun k c f hc=>hk.block k (lt_of_heap hc) fun h=>h)) hmb hg hm hX hgr hbud (Q:=AnCT get E rb ar ad Y ρ tb yb d gv vv (conT get put ρ d txt ps ex s0) w) (fun e w' ha=>AnCT.base B hk ha)
 have hnamed:=fun(s:ByteArray) (a:Option Addr) (n c:Nat) (w:World)=>Named_any s a n c w
 have hmm:∀u:World,(Instr.makeMap tyCh none).run prog u=.ok (.map (some u.heap.size)) (u.alloc (.map #[] 0)):=fun _=>rfl
 have hEn:=fun(args:Array Value) (w:World)=>HE args w
 have hpp:pbl.length=ps.length:=by rw[hpbl,hm.np]
 have hV0:Kn (fun _=>False) w w.drew:=(Kn.refl _ _).drew
 rw[<- hsb,hnl,hpp]at hfacts
 rw[hpp]at hS
 have HBu:=hide hV0
 have HK:=hide hK
 have HAL:=hide hal
 have HALL:=hide hall
 have HROW:=hide hrow
 have HA1:=hide ha1
 have HA2:=hide ha2
 have HLE2:=hide hle2
 have HLE:=hide (le_refl w.heap.size)
 have HSET:=hide hset
 have HSET2:=hide hset2
 have HO:=hide hout
 have HFX:=hide hfacts
 have HNM:=hide hnamed
 clear hV0 hK hal hall ha1 ha2 hle2 hrow hset hset2 hout hfacts hnamed hvb hfv ho1 ho2 ho3 n1 n2 n3 hn hX hgr hbud HE hE h hm hx hg B har h2 hnl hpbl hpp hsb hlt hforms cn1
 generalize AnCT get E rb ar ad Y ρ tb yb d gv vv (conT get put ρ d txt ps ex s0) w=Q at *
 generalize Kn (fun _=>False) w=V at *
 generalize bs txt=tx at *
 generalize bs m.vr.data=dt at *
 generalize hln:m.vr.letters.length=ln at *
 generalize hpn:ps.length=pn at *
 unfold noTy noTypeV ptrV at *
 have hfld:=fun u=>mg_field1 sp dt a1 ln k1 a2 pn k2 sb lt u
 subst hS
 obtain⟨c0a,c1a,lka,_⟩:=HO.out _ HBu.out
 go_enter func182,ntmps182
 go_wp2_with fail
 go_region_held3 (fun w'=>w'.cell? ⟨yb,0,none⟩=some (.map (some tb))/\w'.cell? ⟨nb,1,none⟩=some (.string tx)/\(Instr.lookup tyTab (.map (some tb)) (.agg #[.int .i64 1,.string tx]) false).run prog w'=.ok (.agg #[.pointer sp,.string dt,.slice a1 ln k1,.slice a2 pn k2,.int .i64 sb,.int .i64 lt]) w'/\Hid (V w'))
  (first|with_reducible exact⟨c0a,c1a,lka,HBu⟩|with_reducible exact HO.out _ (HA1.out _ _ HBu.out)|with_reducible exact HO.out _ (HA2.out _)|with_reducible exact HO.out _ (HSET.out _ _ _ _ _ _ HBu.out HLE.out)|with_reducible exact HO.out _ (HSET.out _ _ _ _ _ _ (HA1.out _ _ HBu.out) (HLE2.out _ HBu.out)))
  (first|(go_at_call 85;refine(HK.out _).mono ?_;rintro e u⟨rfl,hu⟩;(first|have HBu:=hide (HAL.out _ _ _ HBu.out hu)|(obtain⟨hvu,hrw⟩:=HALL.out _ _ hu;have HBu:=hide hvu;have HRW:=hide hrw;obtain⟨hlu,f0u,f1u,f2u,f3u,m0u,m1u,m2u,m3u⟩:=HROW.out _ _ hrw;clear hvu hrw));obtain⟨c0a,c1a,lka,_⟩:=HO.out _ HBu.out;clear hu))
 all_goals
  first
  |(obtain⟨w1,hw1⟩:∃w1,w1=World.alloc u (.cells #[.string dt,.slice a1 ln k1,.slice a2 pn k2,.int .i64 sb] 100):=⟨_,rfl⟩
    rw[<- hw1]
    have hv1:V w1:=by rw[hw1];exact HA1.out _ _ HBu.out
    have hmb:w1.heap[u.heap.size]?=some (.cells #[.string dt,.slice a1 ln k1,.slice a2 pn k2,.int .i64 sb] tyVr (0,0)):=by rw[hw1];exact(MapKept.heap_alloc u _).1
    generalize u.heap.size=mb at *)
  |(obtain⟨w1,hw1⟩:∃w1,w1=((((u.setCell ⟨w.heap.size,0,none⟩ (.string dt)).setCell ⟨w.heap.size,1,none⟩ (.slice a1 ln k1)).setCell ⟨w.heap.size,2,none⟩ (.slice a2 pn k2)).setCell ⟨w.heap.size,3,none⟩ (.int .i64 sb)):=⟨_,rfl⟩
    rw[<- hw1]
    have hv1:V w1:=by rw[hw1];exact HSET.out _ _ _ _ _ _ HBu.out HLE.out
    have hmb:w1.heap[w.heap.size]?=some (.cells #[.string dt,.slice a1 ln k1,.slice a2 pn k2,.int .i64 sb] tyVr (0,0)):=by rw[hw1];exact HSET2.out _ _ _ _ _ _ HRW.out
    generalize w.heap.size=mb at *)
  obtain⟨LT,CO,h0,hlm,hls,hlc,hcm,hcs,hcf⟩:=HFX.out w1 mb hv1 hmb
  have HL0:=hide h0
  have HLM:=hide hlm
  have HLS:=hide hls
  have HLC:=hide hlc
  have HCM:=hide hcm
  have HCS:=hide hcs
  have HCF:=hide hcf
  have hmbl:mb<w1.heap.size:=lt_of_heap hmb
  clear h0 hlm hls hlc hcm hcs hcf hw1 HFX HO HSET HSET2 HLE2 HA1 HA2 HROW HALL HAL HK HBu c0a c1a lka HLE hv1 hmb
  obtain⟨_,d0,d1,d2,d3⟩:=HLM.out _ _ _ _ HL0.out
  go_wp2_with fail
  go_loopg [8,30] ln (fun gk v8 v30 wr=>∃i,v30=.int .i64 (i:Nat)/\i+gk=ln/\Hid (LT w1.heap.size i v8 wr))
  case atStart=>exact⟨0,rfl,by omega,HL0⟩
  case round=>
   clear HL0 d0 d1 d2 d3
   obtain⟨i,rfl,hi,HL0⟩:=hrel
   obtain⟨⟨av,kv,cv,rfl⟩,d0,d1,d2,d3⟩:=HLM.out _ _ _ _ HL0.out
   by_cases hlt:i<ln
   ·have hil:i<m.vr.letters.length:=by omega
    have hp:m.vr.letters[i]?=some m.vr.letters[i]:=List.getElem?_eq_getElem hil
    generalize m.vr.letters[i]=own at hp
    obtain⟨g,rfl,hcell,hgl,hc⟩:=HLS.out _ _ _ _ own HL0.out hp
    have HC:=hide hc
    have hlt3:(i:Int)<(ln:Int):=by omega
    clear hc hp HL0 HLM HLS HLC HCM HCS HCF HNM d0 d1 d2 d3
    generalize bs own=ow at *
    go_wp2_with fail
    refine(HC.out).mono ?_;rintro e wr2⟨rfl,js,hjl,hsz,hown,hput⟩
    have HPUT:=hide hput
    clear hput HC
    go_wp2_with (at_builtin;refine append_tp rfl _ _ rfl wr.heap.size hown hjl hsz rfl rfl ?_)
    intro v' u2 ho hgw HL
    have ho:u2.ownsRow w1.heap.size tyTypeP 1 v' (js++[wr.heap.size]).length ((js++[wr.heap.size]).map ptrV):=by rw[length_append,map_append];exact ho
    obtain⟨u3,hup,HF⟩:=HPUT.out v' u2 ho hgw HL.out
    clear hgw HL HPUT hown
    obtain⟨g',cap',rfl⟩:∃g' cap',v'=.slice (some ⟨g',0,none⟩) (js++[wr.heap.size]).length cap':=by
     rcases ownsRow_forms ho with⟨_,hn0⟩|h
     ·simp at hn0
     ·exact h
    clear ho
    generalize (js++[wr.heap.size]).length=jn at *
    go_wp2_with fail
    go_roundg (ln-(i+1))
    case rel=>exact⟨i+1,by simp,by omega,HF⟩
    case measure=>omega
   ·have hin:i=ln:=by omega
    subst hin
    have hlt3:¬(i:Int)<(i:Int):=by omega
    obtain⟨HC0,cnp⟩:=HLC.out _ _ _ HL0.out
    clear HL0 HLM HLS HLC
    go_wp2_with fail
    go_loopg [49] pn (fun gk v49 wr=>∃i,v49=.int .i64 (i:Nat)/\i+gk=pn/\Hid (CO (.slice av kv cv) w1.heap.size i wr))
    case atStart=>exact⟨0,rfl,by omega,HC0⟩
    case round=>
     clear HC0 d0 d1 d2 d3 cnp
     obtain⟨j,rfl,hj,HC0⟩:=hrel
     obtain⟨d0,d1,d2,d3⟩:=HCM.out _ _ _ _ HC0.out
     by_cases hlj:j<pn
     ·obtain⟨g3,g2,bp,bq,rfl,rfl,c3,c2,l3,l2,hc⟩:=HCS.out _ _ _ _ HC0.out hlj
      have HC:=hide hc
      have hlt3:(j:Int)<(pn:Int):=by omega
      clear hc HC0 HCM HCS HCF HNM
      go_wp2_with fail
      refine(HC.out).mono ?_;rintro e wr2⟨bt,rfl,hcc⟩
      have HCC:=hide hcc
      clear hcc HC
      go_wp2_with fail
      refine(HCC.out).mono ?_;rintro e wr3 (⟨rfl,hq⟩|⟨rfl,HC1⟩)
      ·exact⟨rfl,hq⟩
      ·clear HCC
       go_wp2_with fail
       go_roundg (pn-(j+1))
       case rel=>exact⟨j+1,by simp,by omega,HC1⟩
       case measure=>omega
     ·have hjn:j=pn:=by omega
      subst hjn
      have hlt4:¬(j:Int)<(j:Int):=by omega
      have HG:=hide (HCF.out _ _ _ HC0.out)
      have HNN:=hide (HNM.out dt av kv cv wr)
      clear HC0 HCM HCS HCF HNM
      go_wp2_with fail
      refine(HNN.out).mono ?_;rintro e w3⟨rfl,rfl⟩
      clear HNN
      go_wp2
      exact HG.out
end
abbrev tyRT:TypeId:=226
abbrev tyBg:TypeId:=49
theorem under_bgs:prog.underlying 42=some (.slice tyBg):=by kernel_rfl
theorem info_bg:(prog.info? tyBg).map (fun i=>(i.zero,i.size,i.bytes))=some (some (.agg #[.string ⟨#[]⟩,.pointer none]),2,24):=by kernel_rfl
theorem run_append_bg{w:World}{base:Nat}{v:Value}{n:Nat}{xs:List Value}{ty:TypeId}(s:ByteArray)(k:Nat)(hown:w.ownsRow base tyBg 2 v n xs)(hn:n<=100000000)(hb:base<=w.heap.size) :
  ∃v' w',(Builtin.append_ #[42,42] ty #[v,.slice (some ⟨w.heap.size,0,none⟩) 1 1]).run prog (w.alloc (.cells #[.string s,.pointer (some ⟨k,0,none⟩)] tyBg))=.ok v' w' /\
   w'.ownsRow base tyBg 2 v' (n+1) (xs++[.string s,ptrV k])/\(w.alloc (.cells #[.string s,.pointer (some ⟨k,0,none⟩)] tyBg)).grownBy w' v.ownBlock/\(∀g,v'.ownBlock=some g->v.ownBlock=some g\/w.heap.size<g)/\∃g cap,v'=.slice (some ⟨g,0,none⟩) (n+1) cap:=by
 obtain⟨i0,hi,hz0,hz1,hz2⟩:=info_parts info_bg
 have hown1:=hown.alloc (.cells #[.string s,.pointer (some ⟨k,0,none⟩)] tyBg)
 have hnews:∀j u,[Value.string s,Value.pointer (some ⟨k,0,none⟩)][j]?=some u->(w.alloc (.cells #[.string s,.pointer (some ⟨k,0,none⟩)] tyBg)).cell? ((⟨w.heap.size,0,none⟩:Addr).add j)=some u:=fun j u hj=>cell_new rfl (by simpa using hj)
 have h1:∀u∈[Value.string s,Value.pointer (some ⟨k,0,none⟩)],u.oneCell'=true:=by
  intro u hu;simp at hu;rcases hu with rfl|rfl<;>rfl
 obtain⟨v',w',hr,ho2,hg',_⟩:=run_append_own (P:=prog) (w.alloc (.cells #[.string s,.pointer (some ⟨k,0,none⟩)] tyBg)) base 42 ty tyBg i0 (.agg #[.string ⟨#[]⟩,.pointer none]) 2 24 under_bgs hi hz0 hz1 hz2 rfl (by decide) v n xs hown1 ⟨w.heap.size,0,none⟩ 1 1 [.string s,.pointer (some ⟨k,0,none⟩)] rfl hnews h1 (by unfold maxLen;omega) (by omega) (by simp;omega)
 refine⟨v',w',hr,ho2,hg',?_,?_⟩
 ·intro g hgv
  rcases hown1.2 with⟨rfl,hn0⟩|⟨g0,cap,cur,rfl,hbg,hg,hnc,hcm,hcs,htake⟩
  ·have h:=run_append_nil (P:=prog) (w.alloc (.cells #[.string s,.pointer (some ⟨k,0,none⟩)] tyBg)) 42 ty tyBg i0 (.agg #[.string ⟨#[]⟩,.pointer none]) under_bgs hi hz0 ⟨w.heap.size,0,none⟩ 1 1 [.string s,.pointer (some ⟨k,0,none⟩)] (by rw[hz1];rfl) hnews (by omega) (by omega) (by rw[hz2];omega)
   rw[hr]at h
   simp only[Result.ok.injEq]at h
   rw[h.1]at hgv
   simp[Value.ownBlock]at hgv
   omega
  ·by_cases hroom:n+1<=cap
   ·have h:=run_append_room (P:=prog) (w.alloc (.cells #[.string s,.pointer (some ⟨k,0,none⟩)] tyBg)) 42 ty tyBg i0 under_bgs hi g0 n cap cur hg ⟨w.heap.size,0,none⟩ 1 1 [.string s,.pointer (some ⟨k,0,none⟩)] (by rw[hz1];rfl) hnews h1 hroom (by rw[hcs,hz1];simp only[length_cons,length_nil];omega)
    rw[hr]at h
    simp only[Result.ok.injEq]at h
    rw[h.1]at hgv
    exact inl hgv
   ·have h:=run_append_grow (P:=prog) (w.alloc (.cells #[.string s,.pointer (some ⟨k,0,none⟩)] tyBg)) 42 ty tyBg i0 (.agg #[.string ⟨#[]⟩,.pointer none]) under_bgs hi hz0 ⟨g0,0,none⟩ n cap xs (by rw[hz1];exact hown.1) (hown1.cells (g:=g0) rfl) ⟨w.heap.size,0,none⟩ 1 1 [.string s,.pointer (some ⟨k,0,none⟩)] (by rw[hz1];rfl) hnews (by omega) (by omega) (growslice_fits (by omega) (by rw[hz2];omega))
    rw[hr]at h
    simp only[Result.ok.injEq]at h
    rw[h.1]at hgv
    simp[Value.ownBlock]at hgv
    omega
 ·rcases ownsRow_forms ho2 with⟨_,hn0⟩|h
  ·simp at hn0
  ·exact h
def bgCells(ad:List Nat):List (Nm×Nat)->List Value
 |[]=>[]
 |x::r=>.string (bs x.1)::adV ad x.2::bgCells ad r
theorem bgCells_snoc(ad:List Nat)(x:Nm×Nat):∀vs,bgCells ad (vs++[x])=bgCells ad vs++[.string (bs x.1),adV ad x.2]:=by
 intro vs
 induction vs with
 |nil=>rfl
 |cons y r ih=>simp[bgCells,ih]
theorem bgCells_app{ad:List Nat}(l:List Nat):∀{vs:List (Nm×Nat)},(∀x∈vs,x.2<ad.length)->bgCells (ad++l) vs=bgCells ad vs:=by
 intro vs
 induction vs with
 |nil=>intro _;rfl
 |cons y r ih=>
  intro h
  rw[bgCells,bgCells,ih fun x hx=>h x (mem_cons_of_mem _ hx),adV_app l (h y (mem_cons_self ..))]
theorem bgCells_at{ad:List Nat}:∀{vs:List (Nm×Nat)}{i:Nat}{x:Nm×Nat},vs[i]?=some x->(bgCells ad vs)[i*2]?=some (.string (bs x.1))/\(bgCells ad vs)[i*2+1]?=some (adV ad x.2):=by
 intro vs
 induction vs with
 |nil=>intro i x h;simp at h
 |cons y r ih=>
  intro i x h
  cases i with
  |zero=>simp at h;subst h;simp[bgCells]
  |succ i=>
   have:=ih (i:=i) (x:=x) (by simpa using h)
   rw[show (i+1)*2=i*2+1+1 by omega,bgCells]
   simpa using this
def EP(c rb yb:Nat)(s:TS×List (Nm×Nat))(v:Value)(ad:List Nat)(w:World):Prop:=
 w.heap[rb]?=some (.cells #[ptrV yb,v] tyRT (0,0))/\w.ownsRow 0 tyBg 2 v s.2.length (bgCells ad s.2)/\(∀x∈s.2,x.2<ad.length)/\s.2.length<=s.1.given.length+c
theorem EP.stays{c rb yb:Nat}{s:TS×List (Nm×Nat)}{v:Value}{ad:List Nat}{w w':World}{D:Nat->Prop}(h:EP c rb yb s v ad w)(l:List Nat){τ:TS}{c':Nat}(hk:Kn D w w')(hD:∀k,D k->k≠rb/\v.ownBlock≠some k)(hg:s.1.given.length+c<=τ.given.length+c'):EP c' rb yb (τ,s.2) v (ad++l) w':=by
 obtain⟨h1,h2,h3,h4⟩:=h
 refine⟨(hk.block rb (lt_of_heap h1) fun hd=>(hD rb hd).1 rfl).trans h1,?_,fun x hx=>by rw[length_append];have:=h3 x hx;omega,by show s.2.length<=τ.given.length+c';omega⟩
 rw[bgCells_app l h3]
 exact ownsRow_kept h2 fun q c f hq hc=>hk.block q (lt_of_heap hc) fun hd=>(hD q hd).2 hq
theorem EP.bes(c rb yb:Nat):Bes (S:=TS×List (Nm×Nat)) Prod.fst (fun s τ=>(τ,s.2)) (EP c rb yb) rb where
 gp _ _:=rfl
 pg _:=rfl
 keep l τ h hk hg:=h.stays l hk (fun _ hf=>hf.elim) (by rw[hg];exact le_refl _)
 cel h hc ht:=by
  obtain⟨h1,h2,_,_⟩:=h
  refine⟨fun e=>?_,fun e=>?_⟩
  ·subst e;rw[h1]at hc
   have:=cells_ty hc
   rcases ht with rfl|rfl|rfl|rfl|rfl<;>exact absurd this (by decide)
  ·obtain⟨c2,h3⟩:=own_cells h2 e
   rw[hc]at h3
   have:=cells_ty h3
   rcases ht with rfl|rfl|rfl|rfl|rfl<;>exact absurd this (by decide)
 mp h hc:=by
  obtain⟨h1,h2,_,_⟩:=h
  refine⟨fun e=>?_,fun e=>?_⟩
  ·subst e;rw[h1]at hc;cases hc
  ·obtain⟨c2,h3⟩:=own_cells h2 e
   rw[hc]at h3;cases h3
def EX(yb:Nat)(_:TS)(v:Value)(_:List Nat)(w:World):Prop:=v=.slice none 0 0/\∃c,w.heap[yb]?=some (.cells c tyTyping (0,0))
theorem EX.bes(yb:Nat):Bes (S:=TS) id (fun _ τ=>τ) (EX yb) yb where
 gp _ _:=rfl
 pg _:=rfl
 keep l τ h hk _:=by
  obtain⟨h1,c,h2⟩:=h
  exact⟨h1,c,(hk.block yb (lt_of_heap h2) fun hf=>hf).trans h2⟩
 cel h hc ht:=by
  obtain⟨rfl,c,h2⟩:=h
  refine⟨fun e=>?_,by simp[Value.ownBlock]⟩
  subst e;rw[h2]at hc
  have:=cells_ty hc
  rcases ht with rfl|rfl|rfl|rfl|rfl<;>exact absurd this (by decide)
 mp h hc:=by
  obtain⟨rfl,c,h2⟩:=h
  refine⟨fun e=>?_,by simp[Value.ownBlock]⟩
  subst e;rw[h2]at hc;cases hc
section
variable {ar:Nm->Nat}{ad:List Nat}{Y:Nat->Prop}{rk:Nat->Nat}{s:TS×List (Nm×Nat)}{ρ:Env}{tb yb d:Nat}{gv vv:Value}{w w':World}{nb:Nat}{txt:Nm}{rb c:Nat}
theorem EP.not_dm(he:EP c rb yb s vv ad w){σ:TS}(h:YM ar ad Y rk σ ρ tb yb d gv w){k:Nat}(hd:Dm ad tb yb gv k):k≠rb/\vv.ownBlock≠some k:=by
 obtain⟨h1,h2,_,_⟩:=he
 refine⟨fun e=>?_,fun e=>?_⟩
 ·subst e;exact h.dm_not h1 (by decide) (by decide) (by decide) hd
 ·obtain⟨c2,h3⟩:=own_cells h2 e
  exact h.dm_not h3 (by decide) (by decide) (by decide) hd
def patXo(o:Option (Nat×(TS×List (Nm×Nat))))(want:Nat):Option (TS×List (Nm×Nat)):=o.bind fun r=>((r.2.1.give r.1).unify r.1 want).map (·,r.2.2)
theorem EP.cell0(he:EP c rb yb s vv ad w):w.cell? ⟨rb,0,none⟩=some (ptrV yb):=by simp[World.cell?,he.1]
theorem EP.cell1(he:EP c rb yb s vv ad w):w.cell? ⟨rb,1,none⟩=some vv:=by simp[World.cell?,he.1]
theorem DmC.trans{l:List Nat}{gv' vv':Value}(hl:∀b∈l,w.heap.size<=b)(hg:∀b,gv'.ownBlock=some b->gv.ownBlock=some b\/w.heap.size<=b)(hv:∀b,vv'.ownBlock=some b->vv.ownBlock=some b\/w.heap.size<=b){k:Nat}(hk:k<w.heap.size)(hd:DmC (ad++l) tb yb gv' rb vv' k):DmC ad tb yb gv rb vv k:=by
 rcases hd with(hd|hd|hd|hd)|hd|hd
 ·rcases mem_append.1 hd with hd|hd
  ·exact inl (inl hd)
  ·have:=hl k hd;omega
 ·exact inl (inr (inl hd))
 ·exact inl (inr (inr (inl hd)))
 ·rcases hg k hd with h1|h1
  ·exact inl (inr (inr (inr h1)))
  ·omega
 ·exact inr (inl hd)
 ·rcases hv k hd with h1|h1
  ·exact inr (inr h1)
  ·omega
theorem rexpect_chain(har:∀nm,ar nm<=1000000){o:Option (Nat×(TS×List (Nm×Nat)))}{want:Nat}(hb:∀t s',o=some (t,s')->s'.1.given.length<=100000000)(h:YM ar ad Y rk s.1 ρ tb yb d gv w)(hw:want<s.1.nodes.length){u:World}(hu:Kn (fun _=>False) w u)
  (hP:Calls prog 232 #[ptrV rb,ptrV nb] u (AnCT Prod.fst (EP 1 rb yb) rb ar ad Y ρ tb yb d gv vv o u)) :
  Calls prog 232 #[ptrV rb,ptrV nb] u fun e u2=>(e=noTy/\AnC Prod.fst (EP 0 rb yb) rb ar ad Y ρ tb yb d gv vv (patXo o want) w noTy u2)\/∃b,e=.returned (ptrV b)/\u2.cell? ⟨rb,0,none⟩=some (ptrV yb)/\Calls prog 162 #[ptrV yb,ptrV b] u2 fun e u3=>
   e=.returned (ptrV b)/\u3.cell? ⟨rb,0,none⟩=some (ptrV yb)/\Calls prog 140 #[ptrV b,adV ad want] u3 fun e u4=>∃v,e=.returned (.bool v)/\u4.cell? ⟨rb,0,none⟩=some (ptrV yb) /\
    (v=false->AnC Prod.fst (EP 0 rb yb) rb ar ad Y ρ tb yb d gv vv (patXo o want) w noTy u4)/\(v=true->AnC Prod.fst (EP 0 rb yb) rb ar ad Y ρ tb yb d gv vv (patXo o want) w (.returned (.tuple #[])) u4):=by
 refine hP.mono fun e u2 ha=>?_
 obtain⟨hk2,ha⟩:=ha
 have hk2w:Kn (DmC ad tb yb gv rb vv) w u2:=(hu.wide fun _ _ h=>h.elim).trans hk2
 rcases ha with⟨a1,a2,a3⟩|⟨t,s',l,rk',gv',vv',a1,a2,a3,a4,a5,a6,a7,a8⟩
 ·exact inl ⟨a2,hk2w,inl ⟨by rw[a1];rfl,rfl,a3⟩⟩
 have hub:w.heap.size<=u.heap.size:=hu.size
 have b6:∀b∈l,w.heap.size<=b:=fun b hb=>le_trans hub (a6 b hb)
 have b7:∀b,gv'.ownBlock=some b->gv.ownBlock=some b\/w.heap.size<=b:=fun b hb=>(a7 b hb).imp id (le_trans hub)
 have b8:∀b,vv'.ownBlock=some b->vv.ownBlock=some b\/w.heap.size<=b:=fun b hb=>(a8 b hb).imp id (le_trans hub)
 have hdm:∀{k},k<w.heap.size->DmC (ad++l) tb yb gv' rb vv' k->DmC ad tb yb gv rb vv k:=fun hk hd=>DmC.trans b6 b7 b8 hk hd
 refine inr ⟨adA (ad++l) t,a2,a5.cell0,(give_any a4 a3 (hb t s' a1)).mono fun e u3 hg=>?_⟩
 rcases hg.cases with⟨q1,_⟩|⟨t3,σ3,l3,rk3,gv3,q1,q2,q3,q4,q5⟩
 ·cases q1
 obtain⟨rfl,rfl⟩:t=t3/\s'.1.give t=σ3:=by
  have:=Option.some.inj q1;exact⟨congrArg Prod.fst this,congrArg Prod.snd this⟩
 have hl3:l3=[]:=by
  have h1:=q4.len
  have h2:=a4.len
  have:(s'.1.give t).nodes.length=s'.1.nodes.length:=rfl
  rw[length_append]at h1
  exact List.length_eq_zero_iff.1 (by omega)
 subst hl3
 rw[append_nil]at q2 q4
 have hE3:EP 0 rb yb (s'.1.give t,s'.2) vv' (ad++l) u3:=by
  have:=a5.stays [] (τ:=s'.1.give t) (c':=0) q5.kn (fun k hd=>a5.not_dm a4 hd) (by simp[TS.give])
  rw[append_nil]at this;exact this
 have hk3:Kn (DmC ad tb yb gv rb vv) w u3:=hk2w.trans' (q5.kn.wide fun _ _ hd=>inl hd) fun k hk hd=>hdm hk hd
 have hwl:want<(s'.1.give t).nodes.length:=by
  have h1:=q4.len
  have h2:=h.len
  rw[length_append]at h1
  omega
 have hU:=Unify_ym har q4 (a:=t) (b:=want) q3 hwl
 rw[adV_app (i:=want) l (by rw[h.len];exact hw)]at hU
 refine⟨q2,hE3.cell0,hU.mono ?_⟩
 rintro e u4 (⟨rfl,r1,r2,r3⟩|⟨σ6,rk6,rfl,r1,r2,r3,r4⟩)
 ·have hk4:Kn (DmC ad tb yb gv rb vv) w u4:=hk3.trans' r2 fun k hk hd=>hdm hk (inl (inl hd))
  refine⟨false,rfl,?_,fun _=>⟨hk4,inl ⟨?_,rfl,r3⟩⟩,fun e=>by cases e⟩
  ·have:=hE3.stays [] (τ:=s'.1.give t) (c':=0) r2 (fun k hd=>hE3.not_dm q4 (inl hd)) (le_refl _)
   exact this.cell0
  ·unfold patXo;rw[a1,Option.bind_some];simp only[r1];rfl
 ·have hgv6:σ6.given=(s'.1.give t).given:=by
   have r1:=r1
   unfold TS.unify at r1
   obtain⟨r,hr,rfl⟩:=map_eq_some_iff.1 r1
   exact(un_same _ _ _ _ _ _ _ hr).1.given
  have hE4:=hE3.stays [] (τ:=σ6) (c':=0) r3 (fun k hd=>hE3.not_dm q4 (inl hd)) (by rw[hgv6];exact le_refl _)
  rw[append_nil]at hE4
  have hk4:Kn (DmC ad tb yb gv rb vv) w u4:=hk3.trans' r3 fun k hk hd=>hdm hk (inl (inl hd))
  refine⟨true,rfl,hE4.cell0,(fun e=>by cases e),fun _=>⟨hk4,inr ⟨(σ6,s'.2),l,rk6,gv3,vv',?_,rfl,r4,hE4,b6,fun b hb=>?_,b8⟩⟩⟩
  ·unfold patXo;rw[a1,Option.bind_some];simp only[r1];rfl
  ·rcases q5.giv b hb with h1|h1
   ·exact b7 b h1
   ·exact inr (le_trans hk2w.size h1)
theorem rexpect_of(har:∀nm,ar nm<=1000000){o:Option (Nat×(TS×List (Nm×Nat)))}{want:Nat}(hb:∀t s',o=some (t,s')->s'.1.given.length<=100000000)(h:YM ar ad Y rk s.1 ρ tb yb d gv w)(he:EP 0 rb yb s vv ad w)(hw:want<s.1.nodes.length)
  (hP:∀u,Kn (fun _=>False) w u->Calls prog 232 #[ptrV rb,ptrV nb] u (AnCT Prod.fst (EP 1 rb yb) rb ar ad Y ρ tb yb d gv vv o u)) :
  Calls prog 222 #[ptrV rb,ptrV nb,adV ad want] w (AnC Prod.fst (EP 0 rb yb) rb ar ad Y ρ tb yb d gv vv (patXo o want) w):=by
 have hc:=fun u hu=>rexpect_chain (want:=want) har hb h hw hu (hP u hu)
 have hc0:=hc _ (Kn.drewF w)
 have c0a:w.drew.cell? ⟨rb,0,none⟩=some (ptrV yb):=he.cell0
 have HCH:=hide hc0
 have HN:=hide need_any
 clear hc hc0 hP h he hb hw har
 generalize AnC Prod.fst (EP 0 rb yb) rb ar ad Y ρ tb yb d gv vv (patXo o want) w=Q at *
 unfold noTy noTypeV adV ptrV at *
 generalize adA ad want=bw at *
 go_enter func222,ntmps222
 go_wp2_with fail
 go_region_held2 (fun w'=>w'.cell? ⟨rb,0,none⟩=some (.pointer (some ⟨yb,0,none⟩))) (exact c0a) (first|(go_at_call 232;refine(HCH.out).mono ?_;rintro e u2 (⟨rfl,hp⟩|⟨b,rfl,c0a,hc⟩);(focus (exact⟨rfl,hp⟩));have HC:=hide hc;clear hc)|(go_at_call 162;refine(HC.out).mono ?_;rintro e u3⟨rfl,c0a,hc⟩;have HU:=hide hc;clear hc)|(go_at_call 140;refine(HU.out).mono ?_;rintro e u4⟨v,rfl,c0a,hno,hyes⟩;have HNO:=hide hno;have HYES:=hide hyes;clear hno hyes)|(go_at_call 88;refine(HN.out _ _).mono ?_;rintro e u5⟨rfl,⟨hv,rfl⟩|⟨hv,rfl⟩⟩;(focus (exact⟨rfl,HNO.out hv⟩));have HG:=hide (HYES.out hv);clear HNO HYES))
 all_goals
  go_wp2
  refine bodyPost_end (v:=.tuple #[]) (by simp[results,results222,go_sem]) rfl HG.out
end
end Go.Proofs.YtcbppnefeonmgaaGreatDoor
