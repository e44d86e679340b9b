import Derived.Test.YtcbppnefeonmgaaGreatDoorC19
set_option linter.all false
set_option maxHeartbeats 40000000
set_option maxRecDepth 100000
open Go.Proofs.Tryz
open Or (inl inr)
open Nat (le_trans zero_le lt_of_lt_of_le)
open List (append_nil length_append mem_cons_self mem_cons_of_mem mem_append mem_singleton append_assoc map_append length_map)
namespace Go.Proofs.YtcbppnefeonmgaaGreatDoor
open Go.RowKit
section
variable {ad:List Nat}{ρ:Env}{tb lb:Nat}{s:Lk}{w w':World}{nb:Nat}{txt:Nm}
theorem Tab.look2(h:Tab ad tb ρ w){x:Ky}(hx:okK x):∃(sp:Option Addr) (dt:ByteArray) (a1:Option Addr) (n1 k1:Nat) (a2:Option Addr) (n2 k2:Nat) (i j:Int),(Instr.lookup tyTab (.map (some tb)) (.agg #[.int .i64 x.1,.string (bs x.2)]) true).run prog w=.ok (.tuple #[.agg #[.pointer sp,.string dt,.slice a1 n1 k1,.slice a2 n2 k2,.int .i64 i,.int .i64 j],.bool (ρ.get x).isSome]) w/\n2=((ρ.get x).getD Mg.zero).vr.parts.length/\j=((ρ.get x).getD Mg.zero).letters/\n2<=9223372036854775807:=by
 obtain⟨n,f,hm,hf⟩:=h
 have hl:=look_tab hm hx true
 rcases hf x hx with⟨h1,h2⟩|⟨m,v,h1,h2,lv,pv,bl,hv,_,ho1,ho2,ho3⟩
 ·rw[h1]
  rw[h2]at hl
  exact⟨none,⟨#[]⟩,none,0,0,none,0,0,0,0,hl,rfl,rfl,by decide⟩
 ·rw[h1]
  rw[h2]at hl
  obtain⟨sp,hsp⟩:∃sp,schV ad m.scheme=.pointer sp:=by
   cases m.scheme with
   |none=>exact⟨none,rfl⟩
   |some t=>exact⟨some _,rfl⟩
  have hs1:∃a1 n1 c1,lv=.slice a1 n1 c1:=by
   rcases ownsRow_forms ho1 with⟨h,_⟩|⟨g,cap,h⟩
   ·exact⟨_,_,_,h⟩
   ·exact⟨_,_,_,h⟩
  have hs2:∃a2 c2,pv=.slice a2 bl.length c2:=by
   rcases ownsRow_forms ho2 with⟨h,h0⟩|⟨g,cap,h⟩
   ·exact⟨none,0,by rw[h,h0]⟩
   ·exact⟨_,cap,h⟩
  have hmx:=ownsRow_max ho2
  obtain⟨a1,n1,c1,rfl⟩:=hs1
  obtain⟨a2,c2,rfl⟩:=hs2
  rw[hsp]at hv
  subst hv
  exact⟨sp,bs m.vr.data,a1,n1,c1,a2,bl.length,c2,m.vr.sibs,m.letters,hl,ho3.len,rfl,hmx⟩
theorem Enters.con1:Enters 160:=enters func160 (by kernel_rfl) rfl
theorem Enters.wt1:Enters 159:=enters func159 (by kernel_rfl) rfl
theorem con1_any(sp:Option Addr)(dt:ByteArray)(a1:Option Addr)(n1 k1:Nat)(a2:Option Addr)(n2 k2:Nat)(i j:Int)(hn:n2<=9223372036854775807)(u:World) :
  Calls prog 160 #[.agg #[.pointer sp,.string dt,.slice a1 n1 k1,.slice a2 n2 k2,.int .i64 i,.int .i64 j]] u fun e u'=>e=.returned (.int .i64 n2)/\Kn (fun _=>False) u u':=by
 generalize hQ:(fun(e:Ending) (u':World)=>e=.returned (.int .i64 n2)/\Kn (fun _=>False) u u')=Q
 have hq:∀u',Kn (fun _=>False) u u'->Q (.returned (.int .i64 n2)) u':=fun u' h=>by rw[<- hQ];exact⟨rfl,h⟩
 have HQ:=hide hq
 have HA:=hide (fun o=>(Kn.refl (fun _=>False) u).alloc o)
 clear hq hQ
 go_enter func160,ntmps160
 go_wp2
 exact HQ.out _ (HA.out _)
theorem wt1_any(sp:Option Addr)(dt:ByteArray)(a1:Option Addr)(n1 k1:Nat)(a2:Option Addr)(n2 k2:Nat)(i j:Int)(u:World) :
  Calls prog 159 #[.agg #[.pointer sp,.string dt,.slice a1 n1 k1,.slice a2 n2 k2,.int .i64 i,.int .i64 j]] u fun e u'=>e=.returned (.int .i64 j)/\Kn (fun _=>False) u u':=by
 generalize hQ:(fun(e:Ending) (u':World)=>e=.returned (.int .i64 j)/\Kn (fun _=>False) u u')=Q
 have hq:∀u',Kn (fun _=>False) u u'->Q (.returned (.int .i64 j)) u':=fun u' h=>by rw[<- hQ];exact⟨rfl,h⟩
 have HQ:=hide hq
 have HA:=hide (fun o=>(Kn.refl (fun _=>False) u).alloc o)
 clear hq hQ
 go_enter func159,ntmps159
 go_wp2
 exact HQ.out _ (HA.out _)
def SixC(mb:Nat)(sp:Option Addr)(dt:ByteArray)(a1:Option Addr)(n1 k1:Nat)(a2:Option Addr)(n2 k2:Nat)(i j:Int)(u:World):Prop:=u.cell? ⟨mb,0,none⟩=some (.pointer sp)/\u.cell? ⟨mb,1,none⟩=some (.string dt)/\u.cell? ⟨mb,2,none⟩=some (.slice a1 n1 k1)/\u.cell? ⟨mb,3,none⟩=some (.slice a2 n2 k2)/\u.cell? ⟨mb,4,none⟩=some (.int .i64 i)/\u.cell? ⟨mb,5,none⟩=some (.int .i64 j)
theorem pt_facts{K:Nat}{cnt:Mg->Nat}(hK:∀(sp:Option Addr)(dt:ByteArray)(a1:Option Addr)(n1 k1:Nat)(a2:Option Addr)(n2 k2:Nat)(i j:Int)(m:Mg),n2=m.vr.parts.length->j=m.letters->n2<=9223372036854775807->∀u,Calls prog K #[.agg #[.pointer sp,.string dt,.slice a1 n1 k1,.slice a2 n2 k2,.int .i64 i,.int .i64 j]] u fun e u'=>e=.returned (.int .i64 (cnt m))/\Kn (fun _=>False) u u')
  {x:Ky}{k mb:Nat}{ps:List Nd}{a:Option Addr}{cap:Nat}{sp:Option Addr}{dt:ByteArray}{a1:Option Addr}{n1 k1:Nat}{a2:Option Addr}{n2 k2:Nat}{i j:Int} (hn2:n2=((ρ.get x).getD Mg.zero).vr.parts.length) (hj:j=((ρ.get x).getD Mg.zero).letters) (hmx:n2<=9223372036854775807)
  {u2:World} (h:LkAt ad ρ tb lb s u2) (hnb:u2.heap[nb]?=some (.cells #[.int .i64 k,.string (bs txt),.slice a ps.length cap] tyTree (0,0))) (hmb:u2.heap[mb]?=some (.cells #[.pointer sp,.string dt,.slice a1 n1 k1,.slice a2 n2 k2,.int .i64 i,.int .i64 j] tyMg (0,0))) (hkw:Kn (fun _=>False) w u2) :
  Calls prog 133 #[ptrV lb,.bool (!(ρ.get x).isSome)] u2 fun e u3=>e=.returned (.tuple #[])/\(u3.cell? ⟨lb,2,none⟩=some (.bool s.wc)/\u3.frozen? ⟨lb,2,none⟩=false/\u3.cell? ⟨nb,2,none⟩=some (.slice a ps.length cap)/\SixC mb sp dt a1 n1 k1 a2 n2 k2 i j u3) /\
   (s.wc=true->∀u,Kn (fun _=>False) u3 u->LkB ad ρ tb lb (lkParts ρ x cnt ps.length s) w (.returned (.tuple #[])) (u.setCell ⟨lb,2,none⟩ (.bool true)))/\(s.wc=false->∀u,Kn (fun _=>False) u3 u->(u.cell? ⟨lb,2,none⟩=some (.bool s.wc)/\u.frozen? ⟨lb,2,none⟩=false/\u.cell? ⟨nb,2,none⟩=some (.slice a ps.length cap)/\SixC mb sp dt a1 n1 k1 a2 n2 k2 i j u)/\Calls prog K #[.agg #[.pointer sp,.string dt,.slice a1 n1 k1,.slice a2 n2 k2,.int .i64 i,.int .i64 j]] u fun e u4=>∃c:Nat,e=.returned (.int .i64 c)/\(u4.cell? ⟨lb,2,none⟩=some (.bool s.wc)/\u4.frozen? ⟨lb,2,none⟩=false/\u4.cell? ⟨nb,2,none⟩=some (.slice a ps.length cap)/\SixC mb sp dt a1 n1 k1 a2 n2 k2 i j u4) /\
    (ps.length≠c->LkB ad ρ tb lb (lkParts ρ x cnt ps.length s) w (.returned (.tuple #[])) (u4.setCell ⟨lb,2,none⟩ (.bool true)))/\(ps.length=c->LkB ad ρ tb lb (lkParts ρ x cnt ps.length s) w (.returned (.tuple #[])) (u4.setCell ⟨lb,2,none⟩ (.bool false)))):=by
 have hcl:∀u3,Kn (fun k=>k=lb) u2 u3->∀s',LkAt ad ρ tb lb s' u3->s'.wc=s.wc->u3.cell? ⟨lb,2,none⟩=some (.bool s.wc)/\u3.frozen? ⟨lb,2,none⟩=false/\u3.cell? ⟨nb,2,none⟩=some (.slice a ps.length cap)/\SixC mb sp dt a1 n1 k1 a2 n2 k2 i j u3:=fun u3 hk s' hl hs=>by
  have e1:u3.heap[nb]?=u2.heap[nb]?:=hk.block nb (lt_of_heap hnb) (fun e=>h.not hnb (by decide) (inr e))
  have e2:u3.heap[mb]?=u2.heap[mb]?:=hk.block mb (lt_of_heap hmb) (fun e=>h.not hmb (by decide) (inr e))
  refine⟨by simp[World.cell?,hl.lk,hs],frozen_of_row _ _ _ _ _ hl.lk,by simp[World.cell?,e1,hnb],?_⟩
  refine⟨?_,?_,?_,?_,?_,?_⟩<;>simp[World.cell?,e2,hmb]
 refine(refuseName_lb _ h).mono ?_
 rintro e u3⟨rfl,h3,hk3⟩
 have hk3w:Kn (fun k=>k=lb) w u3:=(hkw.wide fun _ _ h=>h.elim).trans hk3
 have hnone:(!(ρ.get x).isSome)=(ρ.get x).isNone:=by cases ρ.get x<;>rfl
 refine⟨rfl,hcl u3 hk3 _ h3 rfl,fun hwc u hu=>?_,fun hwc u hu=>⟨hcl u (hk3.trans (hu.wide fun _ _ h=>h.elim)) _ (h3.stays hu) rfl,?_⟩⟩
 ·obtain⟨q1,q2⟩:=(h3.stays hu).flag (lkParts ρ x cnt ps.length s) (i:=2) (v:=.bool true) (by simp[lkParts,Lk.name,hwc,hnone])
  exact⟨rfl,q1,(hk3w.trans (hu.wide fun _ _ h=>h.elim)).trans q2⟩
 ·refine(hK sp dt a1 n1 k1 a2 n2 k2 i j _ hn2 hj hmx u).mono ?_
  rintro e u4⟨rfl,hk4⟩
  have h4:=(h3.stays hu).stays hk4
  have hk4w:Kn (fun k=>k=lb) w u4:=(hk3w.trans (hu.wide fun _ _ h=>h.elim)).trans (hk4.wide fun _ _ h=>h.elim)
  refine⟨_,rfl,hcl u4 ((hk3.trans (hu.wide fun _ _ h=>h.elim)).trans (hk4.wide fun _ _ h=>h.elim)) _ h4 rfl,fun hc=>?_,fun hc=>?_⟩
  ·obtain⟨q1,q2⟩:=h4.flag (lkParts ρ x cnt ps.length s) (i:=2) (v:=.bool true) (by simp[lkParts,Lk.name,hwc,hnone,hc])
   exact⟨rfl,q1,hk4w.trans q2⟩
  ·obtain⟨q1,q2⟩:=h4.flag (lkParts ρ x cnt ps.length s) (i:=2) (v:=.bool false) (by simp[lkParts,Lk.name,hwc,hnone,hc])
   exact⟨rfl,q1,hk4w.trans q2⟩
theorem parts_of{K:Nat}(HE:Enters K){cnt:Mg->Nat}(hK:∀(sp:Option Addr)(dt:ByteArray)(a1:Option Addr)(n1 k1:Nat)(a2:Option Addr)(n2 k2:Nat)(i j:Int)(m:Mg),n2=m.vr.parts.length->j=m.letters->n2<=9223372036854775807->∀u,Calls prog K #[.agg #[.pointer sp,.string dt,.slice a1 n1 k1,.slice a2 n2 k2,.int .i64 i,.int .i64 j]] u fun e u'=>e=.returned (.int .i64 (cnt m))/\Kn (fun _=>False) u u')
  {x:Ky} (hx:okK x) {k:Nat}{ps:List Nd} (h:LkAt ad ρ tb lb s w) (hn:NMem w (.mk k txt ps) nb) :
  Calls prog 158 #[ptrV lb,ptrV nb,.agg #[.int .i64 x.1,.string (bs x.2)],.func (.func K) #[] #[]] w (LkB ad ρ tb lb (lkParts ρ x cnt ps.length s) w):=by
 obtain⟨pv,bl,n1',n2',n3'⟩:=hn.inv
 have hlen:=n3'.len
 obtain⟨a,cap,rfl⟩:∃a c,pv=.slice a bl.length c:=by
  rcases ownsRow_forms n2' with⟨h,h0⟩|⟨g,cap,h⟩
  ·exact⟨none,0,by rw[h,h0]⟩
  ·exact⟨_,cap,h⟩
 have hmx:=ownsRow_max n2'
 rw[hlen]at n1' hmx
 have hk1:Kn (fun _=>False) w (w.alloc (.cells #[.int .i64 x.1,.string (bs x.2)] tyKey)):=(Kn.refl _ w).alloc _
 have hky:(w.alloc (.cells #[.int .i64 x.1,.string (bs x.2)] tyKey)).heap[w.heap.size]?=some (.cells #[.int .i64 x.1,.string (bs x.2)] tyKey (0,0)):=(MapKept.heap_alloc w _).1
 have h1:=h.stays hk1
 obtain⟨sp,dt,a1,n1,k1,a2,n2,k2,i,j,hlk,hn2,hj,hm2⟩:=h1.tab.look2 hx
 obtain⟨nm,fm,hmap,_⟩:=id h1.tab
 generalize hw1:w.alloc (.cells #[.int .i64 x.1,.string (bs x.2)] tyKey)=w1 at *
 have hlook:∀u,Kn (fun _=>False) w1 u->(Instr.lookup tyTab (.map (some tb)) (.agg #[.int .i64 x.1,.string (bs x.2)]) true).run prog u=.ok (.tuple #[.agg #[.pointer sp,.string dt,.slice a1 n1 k1,.slice a2 n2 k2,.int .i64 i,.int .i64 j],.bool (ρ.get x).isSome]) u:=fun u hu=>by
  have e1:=look_tab hmap hx true
  have e2:=look_tab (hmap.kept (hu.block tb hmap.lt id)) hx true
  unfold kyV at e1 e2
  have e3:=hlk.symm.trans e1
  injection e3 with e4 _
  rw[e2,<- e4]
 have hS:∀u,Kn (fun _=>False) w1 u->(u.cell? ⟨lb,0,none⟩=some (.map (some tb))/\u.cell? ⟨w.heap.size,0,none⟩=some (.int .i64 x.1)/\u.cell? ⟨w.heap.size,1,none⟩=some (.string (bs x.2))/\(Instr.lookup tyTab (.map (some tb)) (.agg #[.int .i64 x.1,.string (bs x.2)]) true).run prog u=.ok (.tuple #[.agg #[.pointer sp,.string dt,.slice a1 n1 k1,.slice a2 n2 k2,.int .i64 i,.int .i64 j],.bool (ρ.get x).isSome]) u/\Hid (Kn (fun _=>False) w1 u)):=fun u hu=>by
  have e1:u.heap[w.heap.size]?=w1.heap[w.heap.size]?:=hu.block _ (lt_of_heap hky) id
  exact⟨by simp[World.cell?,(h1.stays hu).lk],by simp[World.cell?,e1,hky],by simp[World.cell?,e1,hky],hlook u hu,hide hu⟩
 have hfacts:=fun(u2:World) (mb:Nat) (hu:Kn (fun _=>False) w1 u2) (hmb:u2.heap[mb]?=some (.cells #[.pointer sp,.string dt,.slice a1 n1 k1,.slice a2 n2 k2,.int .i64 i,.int .i64 j] tyMg (0,0)))=>pt_facts (txt:=txt) (nb:=nb) hK hn2 hj hm2 (h1.stays hu) ((hu.block nb (lt_of_lt_of_le (lt_of_heap n1') hk1.size) id).trans ((hk1.block nb (lt_of_heap n1') id).trans n1')) hmb (hk1.trans hu)
 have ha1:∀u o,Kn (fun _=>False) w1 u->Kn (fun _=>False) w1 (World.alloc u o):=fun u o hu=>hu.alloc o
 have ha2:∀o,Kn (fun _=>False) w1 (World.drew (World.alloc w1 o)):=fun o=>((Kn.refl _ w1).alloc o).drew
 have hEn:=fun(args:Array Value) (w:World)=>HE args w
 have HBu:=hide (Kn.drewF w1)
 have HS:=hide hS
 have HA1:=hide ha1
 have HA2:=hide ha2
 have HFX:=hide hfacts
 clear hfacts hS hlook hK h h1 hn n1' n2' n3' hlk hmap hky hk1 ha1 ha2 HE hn2 hj
 generalize hQ:LkB ad ρ tb lb (lkParts ρ x cnt ps.length s) w=Q at *
 clear hQ
 generalize Kn (fun _=>False) w1=V at *
 generalize (ρ.get x).isSome=isK at *
 generalize hnp:ps.length=np at *
 generalize bs x.2=tx at *
 generalize x.1=xs at *
 unfold SixC ptrV at *
 obtain⟨c0a,c1a,c2a,lka,_⟩:=HS.out _ HBu.out
 go_enter func158,ntmps158
 go_wp2_with fail
 clear hw1
 go_region_held3 (fun w'=>w'.cell? ⟨lb,0,none⟩=some (.map (some tb))/\w'.cell? ⟨w.heap.size,0,none⟩=some (.int .i64 xs)/\w'.cell? ⟨w.heap.size,1,none⟩=some (.string tx)/\(Instr.lookup tyTab (.map (some tb)) (.agg #[.int .i64 xs,.string tx]) true).run prog w'=.ok (.tuple #[.agg #[.pointer sp,.string dt,.slice a1 n1 k1,.slice a2 n2 k2,.int .i64 i,.int .i64 j],.bool isK]) w'/\Hid (V w'))
  (first|with_reducible exact⟨c0a,c1a,c2a,lka,HBu⟩|with_reducible exact HS.out _ (HA1.out _ _ HBu.out)|with_reducible exact HS.out _ (HA2.out _)|(trace_state;fail)) (fail)
 all_goals
  first
  |(obtain⟨u2,hu2⟩:∃u2,u2=World.drew (World.alloc w1 (.cells #[.pointer sp,.string dt,.slice a1 n1 k1,.slice a2 n2 k2,.int .i64 i,.int .i64 j] 102)):=⟨_,rfl⟩
    rw[<- hu2]
    have hv2:V u2:=by rw[hu2];exact HA2.out _
    have hmb:u2.heap[w1.heap.size]?=some (.cells #[.pointer sp,.string dt,.slice a1 n1 k1,.slice a2 n2 k2,.int .i64 i,.int .i64 j] tyMg (0,0)):=by rw[hu2];exact(MapKept.heap_alloc w1 _).1)
  |(obtain⟨u2,hu2⟩:∃u2,u2=World.alloc (World.drew w1) (.cells #[.pointer sp,.string dt,.slice a1 n1 k1,.slice a2 n2 k2,.int .i64 i,.int .i64 j] 102):=⟨_,rfl⟩
    rw[<- hu2]
    have hv2:V u2:=by rw[hu2];exact HA1.out _ _ HBu.out
    have hmb:u2.heap[w1.heap.size]?=some (.cells #[.pointer sp,.string dt,.slice a1 n1 k1,.slice a2 n2 k2,.int .i64 i,.int .i64 j] tyMg (0,0)):=by rw[hu2];exact(MapKept.heap_alloc (World.drew w1) _).1)
  have HC:=hide (HFX.out u2 w1.heap.size hv2 hmb)
  clear HFX HS HA1 HA2 HBu c0a c1a c2a lka hu2 hv2 hmb
  generalize w1.heap.size=mb at *
  go_wp2_with fail
  refine(HC.out).mono ?_;rintro e u3⟨rfl,⟨d1,d2,d3,e1,e2,e3,e4,e5,e6⟩,ht,hf⟩
  have HT:=hide ht
  have HF:=hide hf
  clear ht hf HC
  generalize s.wc=wc at *
  cases wc with
  |true=>
   have HG:=hide (HT.out rfl _ (Kn.drewF u3))
   clear HT HF
   go_wp2_with fail
   go_region
   all_goals
    go_wp2
    refine bodyPost_end (v:=.tuple #[]) (by simp[results,results158,go_sem]) rfl HG.out
  |false=>
   have hz:=HF.out rfl
   clear HT HF
   obtain⟨⟨g1,g2,g3,q1,q2,q3,q4,q5,q6⟩,hc⟩:=hz _ (Kn.drewF u3)
   have HX:=hide hc
   clear hc hz
   go_wp2_with fail
   go_region_with (first|(refine(HX.out).mono ?_;rintro e u4⟨c,rfl,⟨z1,z2,z3,y1,y2,y3,y4,y5,y6⟩,hne,heq⟩;have HG:=hide (show Q (.returned (.tuple #[])) (u4.setCell ⟨lb,2,none⟩ (.bool ((np:Int) != (c:Int))))from(by by_cases hcc:np=c;(focus (have hb:((np:Int) != (c:Int))=false:=(by simp[hcc]);rw[hb];exact heq hcc));have hb:((np:Int) != (c:Int))=true:=(by simpa using (by omega:¬(np:Int)=(c:Int)));rw[hb];exact hne hcc));clear hne heq))
   all_goals
    refine bodyPost_end (v:=.tuple #[]) (by simp[results,results158,go_sem]) rfl HG.out
theorem lkCon_lb{k:Nat}{ps:List Nd}(hx:txt.length<=100000000)(h:LkAt ad ρ tb lb s w)(hn:NMem w (.mk k txt ps) nb) :
  Calls prog 158 #[ptrV lb,ptrV nb,.agg #[.int .i64 (1:Nat),.string (bs txt)],.func (.func 160) #[] #[]] w (LkB ad ρ tb lb (lkCon ρ (.mk k txt ps) s) w):=
 parts_of (x:=(1,txt)) Enters.con1 (fun sp dt a1 n1 k1 a2 n2 k2 i j m h1 _ h3 u=>(con1_any sp dt a1 n1 k1 a2 n2 k2 i j h3 u).mono fun e u' ha=>⟨by rw[ha.1,h1],ha.2⟩) ⟨show 1<3 by decide,hx⟩ h hn
theorem lkNamed_lb{k:Nat}{ps:List Nd}(hx:txt.length<=100000000)(h:LkAt ad ρ tb lb s w)(hn:NMem w (.mk k txt ps) nb) :
  Calls prog 158 #[ptrV lb,ptrV nb,.agg #[.int .i64 (2:Nat),.string (bs txt)],.func (.func 159) #[] #[]] w (LkB ad ρ tb lb (lkParts ρ (2,txt) Mg.letters ps.length s) w):=
 parts_of (x:=(2,txt)) Enters.wt1 (fun sp dt a1 n1 k1 a2 n2 k2 i j m _ h2 _ u=>(wt1_any sp dt a1 n1 k1 a2 n2 k2 i j u).mono fun e u' ha=>⟨by rw[ha.1,h2],ha.2⟩) ⟨show 2<3 by decide,hx⟩ h hn
theorem lkNamed_any{k:Nat}{ps:List Nd}(hx:txt.length<=100000000)(h:LkAt ad ρ tb lb s w)(hn:NMem w (.mk k txt ps) nb) :
  Calls prog 158 #[ptrV lb,ptrV nb,.agg #[.int .i64 (2:Nat),.string (bs txt)],.func (.func 159) #[] #[]] w (LkA ad ρ tb lb (lkParts ρ (2,txt) Mg.letters ps.length s) w):=(lkNamed_lb hx h hn).mono LkB.a
end
def okS(x:Nm):Prop:=x.length<=100000000
theorem str_key(x:Nm)(h:okS x):∃l,keyOf prog tyStr (strV x)=some l:=by
 have hsz:(bs x).size<=maxLen:=by
  have:(bs x).size=x.length:=by simp[bs,ByteArray.size]
  rw[this];unfold maxLen;unfold okS at h;omega
 refine⟨.string x,?_⟩
 unfold keyOf strV
 simp[mapKey,key_str,hsz,bs_data]
theorem strV_inj{a b:Nm}(h:strV a=strV b):a=b:=by
 unfold strV at h
 simp only[Value.string.injEq]at h
 have:=congrArg (fun b=>b.data.toList) h
 simpa [bs]using this
theorem str_ops:KeyOps prog tyStr okS (fun _ _=>True) strV:=KeyOps.of_law (WideMaps.string_law key_str) str_key (fun _ _ h=>strV_inj h)
abbrev tyCh:TypeId:=211
theorem under_ch:prog.underlying tyCh=some (.map tyStr tyTypeP):=by kernel_rfl
section
variable {ar:Nm->Nat}{ad:List Nat}{X:Nat->Prop}{rk:Nat->Nat}{σ:TS}{w w':World}{ch:List (Nm×Nat)}{cb:Nat}
def ChM(ad:List Nat)(ch:List (Nm×Nat))(cb:Nat)(w:World):Prop:=
 (∃n f,MapHas okS strV w cb n f/\∀x j,okS x->ch.lookup x=some j->f x=some (adV ad j))/\∀p∈ch,p.2<ad.length
theorem ChM.kept(h:ChM ad ch cb w)(l:List Nat)(hk:w'.heap[cb]?=w.heap[cb]?):ChM (ad++l) ch cb w':=by
 obtain⟨⟨n,f,h1,h2⟩,h3⟩:=h
 refine⟨⟨n,f,h1.kept hk,fun x j hx hj=>?_⟩,fun p hp=>by rw[length_append];have:=h3 p hp;omega⟩
 rw[h2 x j hx hj,adV_app l (h3 (x,j) (lookup_memN hj))]
theorem ChM.lt(h:ChM ad ch cb w):cb<w.heap.size:=by
 obtain⟨⟨n,f,h1,_⟩,_⟩:=h
 exact h1.lt
theorem ChM.look(h:ChM ad ch cb w){x:Nm}{j:Nat}(hx:okS x)(hj:ch.lookup x=some j):(Instr.lookup tyCh (.map (some cb)) (.string (bs x)) false).run prog w=.ok (adV ad j) w:=by
 obtain⟨⟨n,f,h1,h2⟩,h3⟩:=h
 have:=h1.look str_ops under_ch (tp_zero w) hx trivial (fun _ _=>trivial) false
 rw[h2 x j hx hj]at this
 exact this
def WrN(ar:Nm->Nat)(ch:List (Nm×Nat))(q:Nd):Prop:=
 ∀x∈q.all,(x.k=21/\okS x.txt/\(ch.lookup x.txt).isSome=true)\/(x.k≠21/\x.k≠23/\x.txt≠[]/\x.ps.length=ar x.txt/\x.k<100)\/(x.k=23/\x.ps.length=2)
theorem all_part{k:Nat}{txt:Nm}{ps:List Nd}{p x:Nd}(hp:p∈ps)(hx:x∈p.all):x∈(Nd.mk k txt ps).all:=by
 rw[Nd.all]
 exact mem_cons_of_mem _ (alls_mem hp x hx)
theorem all_self(q:Nd):q∈q.all:=by cases q;rw[Nd.all];exact mem_cons_self ..
theorem WrN.part{k:Nat}{txt:Nm}{ps:List Nd}{p:Nd}(h:WrN ar ch (.mk k txt ps))(hp:p∈ps):WrN ar ch p:=fun x hx=>h x (all_part hp hx)
theorem written_ext{ch:List (Nm×Nat)}:∀(n:Nat)(q:Nd)(σ:TS),TExt σ (written n ch q σ).2:=by
 intro n
 induction n with
 |zero=>intro q σ;rw[written];exact TExt.new _ _
 |succ n ih=>
  intro q σ
  obtain⟨k,txt,ps⟩:=q
  have hL:∀(ps:List Nd)(σ:TS),TExt σ (written.writtenL (written n ch) ps σ).2:=by
   intro ps
   induction ps with
   |nil=>intro σ;exact TExt.refl _
   |cons p r ihr=>intro σ;rw[written.writtenL];exact(ih p σ).trans (ihr _)
  rw[written]
  split
  ·split
   ·exact TExt.refl _
   ·exact TExt.new _ _
  ·dsimp only
   split
   ·split
    ·exact(hL ps σ).trans (TExt.new _ _)
    ·exact(hL ps σ).trans (TExt.new _ _)
   ·exact(hL ps σ).trans (TExt.new _ _)
theorem writtenL_len{g:Nd->TS->Nat×TS}:∀(ps:List Nd)(σ:TS),(written.writtenL g ps σ).1.length=ps.length:=by
 intro ps
 induction ps with
 |nil=>intro σ;rfl
 |cons p r ih=>intro σ;rw[written.writtenL];simp[ih]
def AnsWt(ar:Nm->Nat)(ad:List Nat)(X:Nat->Prop)(rk:Nat->Nat)(o:Nat×TS)(w:World)(e:Ending)(w':World):Prop:=
 ∃l,e=.returned (adV (ad++l) o.1)/\o.1<o.2.nodes.length/\StoM ar (ad++l) X rk o.2 w'/\Kn (fun _=>False) w w'/\∀b∈l,w.heap.size<=b
def XV(X:Nat->Prop)(v:Value)(b:Nat):Prop:=X b\/v.ownBlock=some b
structure WrAt(ar:Nm->Nat)(ad:List Nat)(X:Nat->Prop)(rk:Nat->Nat)(n:Nat)(ch:List (Nm×Nat))(cb:Nat)(σ:TS)(w:World)(ps:List Nd)(js':List Nat)(σ':TS)(k:Nat)(v:Value)(wr:World)(l:List Nat)(jsk:List Nat)(σk:TS):Prop where
 rest:written.writtenL (written n ch) (ps.drop k) σk=(js'.drop k,σ')
 js:js'.take k=jsk
 len:jsk.length=k
 lt:∀q∈jsk,q<σk.nodes.length
 ext:TExt σ σk
 sto:StoM ar (ad++l) (XV X v) rk σk wr
 chm:ChM (ad++l) ch cb wr
 kn:Kn (fun _=>False) w wr
 row:wr.ownsRow w.heap.size tyTypeP 1 v jsk.length (jsk.map (adV (ad++l)))
 new:∀b∈l,w.heap.size<=b
variable {n k:Nat}{ps:List Nd}{js':List Nat}{σ':TS}
theorem WrAt.start(h:StoM ar ad X rk σ w)(hc:ChM ad ch cb w)(hw:written.writtenL (written n ch) ps σ=(js',σ')):WrAt ar ad X rk n ch cb σ w ps js' σ' 0 (.slice none 0 0) w [] [] σ:=by
 refine⟨by simpa using hw,by simp,rfl,by simp,TExt.refl _,?_,by rw[append_nil];exact hc,Kn.refl _ _,⟨rfl,inl ⟨rfl,rfl⟩⟩,by simp⟩
 rw[append_nil]
 exact h.narrow fun b hb=>by
  rcases hb with hb|hb
  ·exact hb
  ·simp[Value.ownBlock]at hb
theorem WrAt.step{v:Value}{wr:World}{l jsk:List Nat}{σk:TS}{p:Nd}(h:WrAt ar ad X rk n ch cb σ w ps js' σ' k v wr l jsk σk)(hX:∀b,X b->b<w.heap.size)(hp:ps[k]?=some p)(hn:k<=1000000) :
  (∀b,XV X v b->b<wr.heap.size)/\∀e wr2,AnsWt ar (ad++l) (XV X v) rk (written n ch p σk) wr e wr2->∃bj:Nat,e=.returned (ptrV bj)/\(jsk.map (adA (ad++l))).length<=100000000/\w.heap.size<=wr2.heap.size/\wr2.ownsRow w.heap.size tyTypeP 1 v (jsk.map (adA (ad++l))).length ((jsk.map (adA (ad++l))).map ptrV) /\
   ∀v' w',w'.ownsRow w.heap.size tyTypeP 1 v' (jsk.map (adA (ad++l))++[bj]).length ((jsk.map (adA (ad++l))++[bj]).map ptrV)->(wr2.alloc (.cells #[.pointer (some ⟨bj,0,none⟩)] tyTypeP)).grownBy w' v.ownBlock->(∀g,v'.ownBlock=some g->v.ownBlock=some g\/wr2.heap.size<g) ->
    ∃l' jsk' σk',WrAt ar ad X rk n ch cb σ w ps js' σ' (k+1) v' w' l' jsk' σk':=by
 have hkl:=(List.getElem?_eq_some_iff.1 hp).1
 have hd:ps.drop k=p::ps.drop (k+1):=by
  rw[List.drop_eq_getElem_cons hkl]
  rw[List.getElem?_eq_getElem hkl]at hp
  rw[Option.some.inj hp]
 have hrest:=h.rest
 rw[hd,written.writtenL]at hrest
 simp only[Prod.mk.injEq]at hrest
 obtain⟨hr1,hr2⟩:=hrest
 have hjd:js'.drop (k+1)=(written.writtenL (written n ch) (ps.drop (k+1)) (written n ch p σk).2).1:=by
  rw[<- List.tail_drop,<- hr1];rfl
 have hjk:js'[k]?=some (written n ch p σk).1:=by
  rw[<- List.head?_drop,<- hr1];rfl
 have hvl:∀b,v.ownBlock=some b->w.heap.size<=b/\b<wr.heap.size:=fun b hb=>h.row.lt b hb
 refine⟨fun b hb=>?_,?_⟩
 ·rcases hb with hb|hb
  ·exact lt_of_lt_of_le (hX b hb) h.kn.size
  ·exact(hvl b hb).2
 rintro e wr2⟨l2,e1,e2,e3,e4,e5⟩
 have hold:∀q,q<wr.heap.size->wr2.heap[q]?=wr.heap[q]?:=fun q hq=>e4.block q hq fun h=>h
 have hrow2:wr2.ownsRow w.heap.size tyTypeP 1 v jsk.length (jsk.map (adV (ad++l))):=ownsRow_kept h.row fun q c f _ hc=>hold q (lt_of_heap hc)
 have hsz:w.heap.size<=wr2.heap.size:=le_trans h.kn.size e4.size
 refine⟨adA (ad++l++l2) (written n ch p σk).1,e1,by rw[length_map,h.len];omega,hsz,by rw[length_map,List.map_map];exact hrow2,?_⟩
 intro v' w2 ho hg hl
 have hX':∀q,q<wr2.heap.size->v.ownBlock≠some q->w2.heap[q]?=wr2.heap[q]?:=fun q hq hne=>by
  rw[hg.block q (by rw[alloc_size];omega) (fun e=>hne e.symm),Below.heap_alloc _ _ _ hq]
 have hext:=written_ext n p σk (ch:=ch)
 have hjl:∀q∈jsk,q<(ad++l).length:=fun q hq=>by rw[h.sto.len];exact h.lt q hq
 refine⟨l++l2,jsk++[(written n ch p σk).1],(written n ch p σk).2,?_,?_,by simp[h.len],?_,h.ext.trans hext,?_,?_,?_,?_,?_⟩
 ·rw[hjd];exact Prod.ext rfl hr2
 ·rw[List.take_add_one,h.js,hjk];rfl
 ·intro q hq
  rcases mem_append.1 hq with hq|hq
  ·exact lt_of_lt_of_le (h.lt q hq) hext.len
  ·rw[mem_singleton.1 hq];exact e2
 ·rw[<- append_assoc]
  refine e3.reX (fun q hq=>?_) (fun q c f hx hc=>?_) (fun q hq hx=>?_)
  ·obtain⟨c,f,hc⟩:=e3.isT hq
   refine hX' q (lt_of_heap hc) fun e=>?_
   rcases hrow2.2 with⟨rfl,_⟩|⟨g,cap,cur,rfl,_,hgg,_⟩
   ·simp[Value.ownBlock]at e
   ·have:g=q:=by simpa [Value.ownBlock]using e
    subst this;rw[hgg]at hc;exact absurd (cells_ty hc) (by decide)
  ·exact hX' q (lt_of_heap hc) fun e=>hx (inr e)
  ·rcases hx with hx|hx
   ·exact inl hx
   ·rcases hl q hx with hl|hl
    ·exact inr hl
    ·omega
 ·rw[<- append_assoc]
  refine h.chm.kept l2 ?_
  have hlt:=h.chm.lt
  rw[hX' cb (lt_of_lt_of_le hlt e4.size) (fun e=>?_),hold cb hlt]
  obtain⟨⟨n,f,⟨es,cl,hm,_⟩,_⟩,_⟩:=h.chm
  rcases h.row.2 with⟨rfl,_⟩|⟨g,cap,cur,rfl,_,hgg,_⟩
  ·simp[Value.ownBlock]at e
  ·have:g=cb:=by simpa [Value.ownBlock]using e
   subst this;rw[hgg]at hm;cases hm
 ·exact((h.kn.trans e4).alloc _).grown hg fun q hq=>inr (hvl q hq).1
 ·rw[<- append_assoc,map_append,map_adV_app l2 jsk hjl]
  rw[map_append,length_append,length_map,List.map_map]at ho
  rw[length_append];exact ho
 ·intro b hb
  rcases mem_append.1 hb with hb|hb
  ·exact h.new b hb
  ·exact le_trans h.kn.size (e5 b hb)
theorem WrAt.done{v:Value}{wr:World}{l jsk:List Nat}{σk:TS}(h:WrAt ar ad X rk n ch cb σ w ps js' σ' ps.length v wr l jsk σk):σk=σ'/\jsk=js':=by
 have h1:=h.rest
 rw[List.drop_length,written.writtenL]at h1
 simp only[Prod.mk.injEq]at h1
 refine⟨h1.2,?_⟩
 rw[<- h.js]
 have:js'.length<=ps.length:=List.drop_eq_nil_iff.1 h1.1.symm
 exact List.take_of_length_le this
theorem WrAt.named{v:Value}{wr:World}{l jsk:List Nat}{σk:TS}{txt:Nm}(h:WrAt ar ad X rk n ch cb σ w ps js' σ' ps.length v wr l jsk σk)(hX:∀b,X b->b<w.heap.size)(ht:txt≠[])(ha:ps.length=ar txt) :
  AnsWt ar ad X rk (σ'.named txt js') w (.returned (ptrV wr.heap.size)) (wr.alloc (.cells #[.string (bs txt),v,.pointer none,.int .i64 0] tyType)):=by
 obtain⟨rfl,rfl⟩:=h.done
 have hl:=h.len
 have hs:=(h.sto.narrow (Y:=X) fun b hb=>inl hb).new (t:=⟨txt,jsk,0⟩) (pv:=v) h.lt (fun e=>absurd e ht) (fun _=>by show jsk.length=ar txt;rw[hl,ha]) (by
  show wr.ownsRow 0 tyTypeP 1 v jsk.length (jsk.map (adV (ad++l)))
  exact ownsRow_base h.row (zero_le _)) (fun g hg hx=>by
  have h1:=(h.row.lt g hg).1
  have h2:=hX g hx
  omega)
 refine⟨l++[wr.heap.size],?_,?_,?_,h.kn.alloc _,?_⟩
 ·rw[<- append_assoc]
  show Ending.returned (ptrV wr.heap.size)=.returned (adV (ad++l++[wr.heap.size]) σk.nodes.length)
  unfold adV;rw[<- h.sto.len,adA_new]
 ·simp[TS.named,TS.new]
 ·rw[<- append_assoc];exact hs
 ·intro b hb
  rcases mem_append.1 hb with hb|hb
  ·exact h.new b hb
  ·rw[mem_singleton.1 hb];exact h.kn.size
theorem WrAt.arrow{v:Value}{wr:World}{l jsk:List Nat}{σk:TS}{x y:Nat}(h:WrAt ar ad X rk n ch cb σ w ps js' σ' ps.length v wr l jsk σk)(hX:∀b,X b->b<w.heap.size)(h2:ar arrowN=2)(hj:js'=[x,y]) :
  ∃g cap,v=.slice (some ⟨g,0,none⟩) 2 cap/\Calls prog 39 #[v] wr fun e w'=>∃b,e=.returned (ptrV b)/\AnsWt ar ad X rk (σ'.named arrowN [x,y]) w (.returned (ptrV b)) w':=by
 obtain⟨rfl,rfl⟩:=h.done
 subst hj
 have hx:=h.lt x (by simp)
 have hy:=h.lt y (by simp)
 rcases h.row.2 with⟨_,h0⟩|⟨g,cap,cur,rfl,hg0,hg,hc1,hc2,hc3,hc4⟩
 ·cases h0
 refine⟨g,cap,rfl,?_⟩
 have c0:cur[0]?=some (adV (ad++l) x):=by
  have:=congrArg (fun l=>l[0]?) hc4
  simp only[List.getElem?_take]at this
  simpa using this
 have c1:cur[1]?=some (adV (ad++l) y):=by
  have:=congrArg (fun l=>l[1]?) hc4
  simp only[List.getElem?_take]at this
  simpa using this
 refine(Function_two (b1:=adA (ad++l) x) (b2:=adA (ad++l) y) (cap:=cap) hg c0 c1).mono ?_
 rintro e w'⟨rfl,rfl⟩
 have hs:=(h.sto.narrow (Y:=X) fun b hb=>inl hb).arrow hx hy h2 (fun b hb=>lt_of_lt_of_le (hX b hb) h.kn.size)
 refine⟨_,rfl,l++[wr.heap.size+1],?_,?_,?_,(h.kn.alloc _).alloc _,?_⟩
 ·rw[<- append_assoc]
  show Ending.returned (ptrV (wr.heap.size+1))=.returned (adV (ad++l++[wr.heap.size+1]) σk.nodes.length)
  unfold adV;rw[<- h.sto.len,adA_new]
 ·simp[TS.named,TS.new]
 ·rw[<- append_assoc];exact hs
 ·intro b hb
  rcases mem_append.1 hb with hb|hb
  ·exact h.new b hb
  ·rw[mem_singleton.1 hb];exact Nat.le_succ_of_le h.kn.size
end
section
variable {ar:Nm->Nat}{rk:Nat->Nat}{ch:List (Nm×Nat)}{cb:Nat}
theorem writtenType_any(har:∀nm,ar nm<=1000000)(h2:ar arrowN=2):∀(n:Nat)(ad:List Nat)(X:Nat->Prop)(σ:TS)(q:Nd)(qb:Nat)(w:World),q.ht<n->NMem w q qb->WrN ar ch q->StoM ar ad X rk σ w->ChM ad ch cb w->(∀b,X b->b<w.heap.size) ->
  Calls prog 203 #[ptrV qb,.map (some cb)] w (AnsWt ar ad X rk (written n ch q σ) w):=by
 intro n
 induction n with
 |zero=>intro ad X σ q qb w h;omega
 |succ n ih=>
  intro ad X σ q qb w hn hm hW hS hC hX
  obtain⟨k,txt,ps⟩:=q
  obtain⟨pv,bl,n1,n2,n3⟩:=hm.inv
  have c0:w.cell? ⟨qb,0,none⟩=some (.int .i64 k):=by simp[World.cell?,n1]
  have c1:w.cell? ⟨qb,1,none⟩=some (.string (bs txt)):=by simp[World.cell?,n1]
  have c2:w.cell? ⟨qb,2,none⟩=some pv:=by simp[World.cell?,n1]
  have hself:=hW _ (all_self _)
  by_cases hk:k=21
  ·subst hk
   rcases hself with⟨_,hok,hlk⟩|⟨h,_⟩|⟨h,_⟩
   ·obtain⟨j,hj⟩:=Option.isSome_iff_exists.1 hlk
    have hlook:=hC.look hok hj
    have hjl:=hC.2 (_,j) (lookup_memN hj)
    have hfin:AnsWt ar ad X rk (written (n+1) ch (.mk 21 txt ps) σ) w (.returned (adV ad j)) w:=by
     rw[written,if_pos rfl]
     have hj:ch.lookup txt=some j:=hj
     rw[hj]
     exact⟨[],by simp,by rw[<- hS.len];exact hjl,by rw[append_nil];exact hS,Kn.refl _ _,by simp⟩
    have HF:=hide hfin
    have hlook:(Instr.lookup tyCh (.map (some cb)) (.string (bs txt)) false).run prog w=.ok (adV ad j) w:=hlook
    clear hfin ih hm hW hS hC hX n1 n2 n3 c2 hok hlk
    generalize AnsWt ar ad X rk (written (n+1) ch (.mk 21 txt ps) σ) w=Q at *
    unfold adV ptrV at *
    generalize bs txt=tx at *
    go_enter func203,ntmps203
    go_wp2
    exact HF.out
   ·exact absurd rfl h
   ·cases h
  ·have hlen:=n3.len
   have hpl:ps.length<=1000000:=by
    rcases hself with⟨h,_⟩|⟨_,_,_,h,_⟩|⟨_,h⟩
    ·exact absurd h hk
    ·have h:ps.length=ar txt:=h
     rw[h];exact har _
    ·have h:ps.length=2:=h
     omega
   have hkn:k<100:=by
    rcases hself with⟨h,_⟩|⟨_,_,_,_,h⟩|⟨h,_⟩
    ·exact absurd h hk
    ·exact h
    ·have h:k=23:=h
     omega
   obtain⟨js',σ',hwr⟩:∃js' σ',written.writtenL (written n ch) ps σ=(js',σ'):=⟨_,_,rfl⟩
   have hst:=WrAt.start hS hC hwr (n:=n)
   have hstep:=fun(k:Nat) (v:Value) (wr:World) (l jsk:List Nat) (σk:TS) (p:Nd) (h:WrAt ar ad X rk n ch cb σ w ps js' σ' k v wr l jsk σk) (hp:ps[k]?=some p)=>h.step hX hp (by have:=(List.getElem?_eq_some_iff.1 hp).1;omega)
   have hcall:∀(i:Nat)(v:Value)(wr:World)(l jsk:List Nat)(σk:TS)(p:Nd),WrAt ar ad X rk n ch cb σ w ps js' σ' i v wr l jsk σk->ps[i]?=some p->∃b,(∀g cap,pv=.slice (some ⟨g,0,none⟩) bl.length cap->wr.cell? ⟨g,i,none⟩=some (ptrV b))/\Calls prog 203 #[ptrV b,.map (some cb)] wr (AnsWt ar (ad++l) (XV X v) rk (written n ch p σk) wr):=by
    intro i v wr l jsk σk p hat hp
    obtain⟨b,hb,hmb⟩:=n3.at hp
    have hmem:=List.mem_of_getElem? hp
    refine⟨b,fun g cap hpv=>?_,ih (ad++l) (XV X v) σk p b wr (Nd.ht_lt hmem hn) (NMem.kept (fun q c f hc=>hat.kn.block q (lt_of_heap hc) fun h=>h) (fun q c f hc=>hat.kn.block q (lt_of_heap hc) fun h=>h) p b hmb) (hW.part hmem) hat.sto hat.chm (hstep i v wr l jsk σk p hat hp).1⟩
    subst hpv
    have hrow:wr.ownsRow 0 tyTreeP 1 (.slice (some ⟨g,0,none⟩) bl.length cap) bl.length (bl.map ptrV):=ownsRow_kept n2 fun q c f _ hc=>hat.kn.block q (lt_of_heap hc) fun h=>h
    have hi:=(List.getElem?_eq_some_iff.1 hb).1
    rw[hrow.cellAt i (by omega),List.getElem?_map,hb];rfl
   have hcells:∀(i:Nat)(v:Value)(wr:World)(l jsk:List Nat)(σk:TS),WrAt ar ad X rk n ch cb σ w ps js' σ' i v wr l jsk σk->wr.cell? ⟨qb,0,none⟩=some (.int .i64 k)/\wr.cell? ⟨qb,1,none⟩=some (.string (bs txt))/\∃a c,v=.slice a i c:=by
    intro i v wr l jsk σk hat
    have hb:wr.heap[qb]?=w.heap[qb]?:=hat.kn.block qb (lt_of_heap n1) fun h=>h
    refine⟨by simp[World.cell?,hb,n1],by simp[World.cell?,hb,n1],?_⟩
    have hl:=hat.len
    rcases ownsRow_forms hat.row with⟨h,h0⟩|⟨g,cap,h⟩
    ·exact⟨none,0,by rw[h];congr 1;omega⟩
    ·exact⟨_,cap,by rw[h,hl]⟩
   have hfin:∀(v:Value)(wr:World)(l jsk:List Nat)(σk:TS),WrAt ar ad X rk n ch cb σ w ps js' σ' ps.length v wr l jsk σk->(k=23->∃g cap,v=.slice (some ⟨g,0,none⟩) 2 cap/\Calls prog 39 #[v] wr fun e w'=>∃b,e=.returned (ptrV b)/\AnsWt ar ad X rk (written (n+1) ch (.mk k txt ps) σ) w (.returned (ptrV b)) w') /\
     (k≠23->AnsWt ar ad X rk (written (n+1) ch (.mk k txt ps) σ) w (.returned (ptrV wr.heap.size)) (wr.alloc (.cells #[.string (bs txt),v,.pointer none,.int .i64 0] tyType))):=by
    intro v wr l jsk σk hat
    have hjl:js'.length=ps.length:=by have:=writtenL_len (g:=written n ch) ps σ;rw[hwr]at this;exact this
    rw[written,if_neg hk,hwr]
    refine⟨fun e=>?_,fun e=>?_⟩
    ·subst e
     have hp2:ps.length=2:=by
      rcases hself with⟨h,_⟩|⟨_,h,_⟩|⟨_,h⟩
      ·cases h
      ·exact absurd rfl h
      ·exact h
     rw[hp2]at hjl
     obtain⟨x,y,rfl⟩:∃x y,js'=[x,y]:=by
      match js',hjl with
      |[x,y],_=>exact⟨x,y,rfl⟩
     rw[if_pos rfl]
     exact hat.arrow hX h2 rfl
    ·rw[if_neg e]
     rcases hself with⟨h,_⟩|⟨_,_,h3,h4,_⟩|⟨h,_⟩
     ·exact absurd h hk
     ·exact hat.named hX h3 h4
     ·exact absurd h e
   have hmax:=ownsRow_max n2
   have hforms:∃a cap,pv=.slice a bl.length cap/\(0<bl.length->∃g,a=some ⟨g,0,none⟩/\g<w.heap.size):=by
    rcases ownsRow_forms n2 with⟨h,h0⟩|⟨g,cap,h⟩
    ·exact⟨none,0,by rw[h,h0],fun h=>by omega⟩
    ·exact⟨_,cap,h,fun _=>⟨g,rfl,(n2.lt g (by rw[h];rfl)).2⟩⟩
   obtain⟨a,cap,rfl,ha⟩:=hforms
   have hnamed:=fun(s:ByteArray) (a:Option Addr) (n c:Nat) (w:World)=>Named_any s a n c w
   have hsz:∀(i:Nat)(v:Value)(wr:World)(l jsk:List Nat)(σk:TS),WrAt ar ad X rk n ch cb σ w ps js' σ' i v wr l jsk σk->w.heap.size<=wr.heap.size:=fun i v wr l jsk σk hat=>hat.kn.size
   have HSTEP:=hide hstep
   have HCALL:=hide hcall
   have HCELLS:=hide hcells
   have HFIN:=hide hfin
   have HNM:=hide hnamed
   have HAT:Hid (∃l jsk σk,WrAt ar ad X rk n ch cb σ w ps js' σ' 0 (.slice none 0 0) w l jsk σk):=hide ⟨[],[],σ,hst⟩
   have HSZ:=hide hsz
   clear hsz
   have hq21:¬(k:Int)=21:=by omega
   clear hstep hcall hcells hfin hnamed hst ih hm hW hS hC hX n1 n2 n3 hwr hself har h2 hn
   rw[hlen]at *
   generalize hpn:ps.length=pn at *
   generalize AnsWt ar ad X rk (written (n+1) ch (.mk k txt ps) σ) w=Q at *
   unfold ptrV at *
   generalize bs txt=tx at *
   go_enter func203,ntmps203
   go_wp2_with fail
   go_loopg [5,24] pn (fun gk v5 v24 wr=>∃i,v24=.int .i64 (i:Nat)/\i+gk=pn/\Hid (∃l jsk σk,WrAt ar ad X rk n ch cb σ w ps js' σ' i v5 wr l jsk σk))
   case atStart=>exact⟨0,rfl,by omega,HAT⟩
   case round=>
    clear HAT
    obtain⟨i,rfl,hi,HAT⟩:=hrel
    obtain⟨l,jsk,σk,hat⟩:=HAT.out
    obtain⟨d0,d1,av,cv,rfl⟩:=HCELLS.out _ _ _ _ _ _ hat
    have hszw:=HSZ.out _ _ _ _ _ _ hat
    by_cases hlt:i<pn
    ·have hil:i<ps.length:=by omega
     have hp:ps[i]?=some ps[i]:=List.getElem?_eq_getElem hil
     generalize ps[i]=p at hp
     obtain⟨b,hb1,hb2⟩:=HCALL.out _ _ _ _ _ _ p hat hp
     obtain⟨_,hnx⟩:=HSTEP.out _ _ _ _ _ _ p hat hp
     obtain⟨g,rfl,hgw⟩:=ha (by omega)
     have hgl:g<wr.heap.size:=by omega
     have hcell:=hb1 g cap rfl
     have HC:=hide hb2
     have HNX:=hide hnx
     have hlt3:(i:Int)<(pn:Int):=by omega
     clear hb1 hb2 hnx hat HAT HCALL HSTEP HCELLS HFIN HNM HSZ hp d0 d1 c0 c1 c2
     go_wp2_with fail
     refine(HC.out).mono ?_;intro e wr2 hq
     obtain⟨bj,rfl,hjl,hsz,hown,hput⟩:=HNX.out e wr2 hq
     have HPUT:=hide hput
     clear hq hput HC HNX
     generalize jsk.map (adA (ad++l))=js at *
     go_wp2_with (at_builtin;refine append_tp rfl _ _ rfl bj hown hjl hsz rfl rfl ?_)
     intro v' w2 ho hg HL
     have ho:w2.ownsRow w.heap.size tyTypeP 1 v' (js++[bj]).length ((js++[bj]).map ptrV):=by rw[length_append,map_append];exact ho
     have HF:=hide (HPUT.out v' w2 ho hg HL.out)
     clear hg HL HPUT hown
     obtain⟨g',cap',rfl⟩:∃g' cap',v'=.slice (some ⟨g',0,none⟩) (js++[bj]).length cap':=by
      rcases ownsRow_forms ho with⟨_,hn0⟩|h
      ·simp at hn0
      ·exact h
     clear ho
     generalize (js++[bj]).length=jn at *
     go_wp2_with fail
     go_roundg (pn-(i+1))
     case rel=>exact⟨i+1,by simp,by omega,HF⟩
     case measure=>omega
    ·have hin:i=pn:=by omega
     subst hin
     obtain⟨hf1,hf2⟩:=HFIN.out _ _ _ _ _ hat
     have HF1:=hide hf1
     have HF2:=hide hf2
     have hlt3:¬(i:Int)<(i:Int):=by omega
     clear hf1 hf2 hat HAT HCALL HSTEP HCELLS HFIN HSZ c0 c1 c2
     by_cases hk23:k=23
     ·subst hk23
      obtain⟨g,cap2,hv,hc⟩:=HF1.out rfl
      cases hv
      have HC:=hide hc
      clear hc HF1 HF2
      go_wp2_with fail
      refine(HC.out).mono ?_;rintro e w3⟨b,rfl,hq⟩
      have HG:=hide hq
      clear hq HC
      go_wp2
      exact HG.out
     ·have HG:=hide (HF2.out hk23)
      have hq23:¬(k:Int)=23:=by omega
      have HNN:=hide (HNM.out tx av i cv wr)
      clear HF1 HF2 HNM
      go_wp2_with fail
      refine(HNN.out).mono ?_;rintro e w3⟨rfl,rfl⟩
      clear HNN
      go_wp2
      exact HG.out
end
end Go.Proofs.YtcbppnefeonmgaaGreatDoor
