import Derived.Test.YtbkiipiocpnnnaaGreatDoorC25
set_option linter.all false
set_option maxHeartbeats 40000000
set_option maxRecDepth 100000
open Go.Proofs.Tryz
open Or (inl inr)
open Nat (le_trans lt_of_lt_of_le)
open List (map_cons)
namespace Go.Proofs.YtbkiipiocpnnnaaGreatDoor
open Go.RowKit
theorem rkey_any(s:ByteArray)(w:World):Calls prog 68 #[.string s] w fun e w'=>e=.returned (.agg #[.int .i64 0,.string s])/\w'=w.alloc (.cells #[.int .i64 0,.string s] tyKey):=by
 go_enter func68,ntmps68
 go_wp2
 refine bodyPost_ret (v:=.agg #[.int .i64 0,.string s]) (by simp[results,results68,go_sem]) rfl ⟨rfl,rfl⟩
section
variable {mb tb bb:Nat}{ρ:List Nm}{w:World}{c:Cd}{Kb:Nat}{csb:Array Value}
theorem bw_facts{vs:List Nm}{a:Option Addr}{n cp:Nat}(hr:w.ownsRow 0 tyStr 1 (.slice a n cp) vs.length (vs.map strV))(hok:∀x∈vs,okK (0,x))(hlen:ρ.length+vs.length<=1000000)(h:BM mb tb bb ρ ρ.length w)
  (hE:∀u,Kn (fun k=>k=tb\/k=bb) w u->BM mb tb bb (binds ρ vs) (ρ.length+vs.length) u->Calls prog Kb csb u (BA mb tb bb (binds ρ vs) c u)) :
  ∃WI:Nat->List Deferred->World->Prop,n<=1000000/\WI 0 [] w /\
   (∀i D wr,WI i D wr->i<n->∃g tx ai,a=some ⟨g,0,none⟩/\wr.cell? ⟨g,i,none⟩=some (.string tx)/\g<wr.heap.size/\ai<=1000000/\∀u,Kn (fun _=>False) wr u->(u.cell? ⟨bb,1,none⟩=some (.map (some tb))/\u.cell? ⟨bb,2,none⟩=some (.int .i64 (ai:Nat))) /\
    Calls prog 67 #[.map (some tb),.agg #[.int .i64 0,.string tx],.int .i64 (ai:Nat)] u fun e u'=>∃W,e=.returned (unbI W)/\(u'.cell? ⟨bb,1,none⟩=some (.map (some tb))/\u'.cell? ⟨bb,2,none⟩=some (.int .i64 (ai:Nat)))/\u'.frozen? ⟨bb,2,none⟩=false/\Hid (WI (i+1) (unbDI W::D) (u'.setCell ⟨bb,2,none⟩ (.int .i64 ((ai:Int)+1))))) /\
   ∀D wr,WI n D wr->Calls prog Kb csb wr fun e w7=>∃K cs ai,e=.returned (.func (.func K) #[] cs)/\ai<=1000000/\w7.cell? ⟨bb,2,none⟩=some (.int .i64 (ai:Nat))/\w7.frozen? ⟨bb,2,none⟩=false/\Hid (∀tmps,(∀(wx:World)(Q:Ending->World->Prop),Q (.returned (.func (.func K) #[] cs)) wx->Leaves prog f41 tmps Q [] .returning wx)->Leaves prog f41 tmps (BA mb tb bb ρ c w) D .returning (w7.setCell ⟨bb,2,none⟩ (.int .i64 ((ai:Int)-(n:Int))))):=by
 obtain⟨rfl,hav⟩:n=vs.length/\(0<vs.length->∃g',a=some ⟨g',0,none⟩):=by
  rcases ownsRow_forms hr with⟨h,h0⟩|⟨g,cap,h⟩
  ·cases h;exact⟨h0.symm,fun h=>by omega⟩
  ·cases h;exact⟨rfl,fun _=>⟨g,rfl⟩⟩
 refine⟨fun i D wr=>BwAt mb tb bb ρ w vs i D wr,by omega,BwAt.start h,?_,?_⟩
 ·intro i D wr hat hi
  have hv:vs[i]?=some vs[i]:=List.getElem?_eq_getElem hi
  have hmem:=List.mem_of_getElem? hv
  generalize vs[i]=x at hv hmem
  obtain⟨g,rfl⟩:=hav (by omega)
  have hrow:wr.ownsRow 0 tyStr 1 (.slice (some ⟨g,0,none⟩) vs.length cp) vs.length (vs.map strV):=ownsRow_kept hr fun q c f _ hc=>hat.kn.block q (lt_of_heap hc) fun e=>by rcases e with e|e;exact h.not_tb hc e;exact h.not_bb hc (by decide) e
  refine⟨g,bs x,ρ.length+i,rfl,?_,(hrow.lt g rfl).2,by omega,fun u hu=>?_⟩
  ·rw[hrow.cellAt i (by omega),List.getElem?_map,hv];rfl
  have hb:=(hat.bm.stays hu).bld
  refine⟨⟨by simp[World.cell?,hb],by simp[World.cell?,hb]⟩,(hat.bind hv (hok x hmem) (by omega) hu).mono ?_⟩
  rintro e u'⟨e1,e2,e3⟩
  refine⟨_,e1,⟨by simp[World.cell?,e2],by simp[World.cell?,e2]⟩,by simp[World.frozen?,e2],hide (e3 _ (by simp[World.setCell]) rfl rfl rfl (fun k hk=>Below.heap_setCell _ _ _ _ hk) ?_)⟩
  simp[World.setCell,Array.getElem?_modify,e2]
  omega
 ·intro D wr hat
  have hbm:=hat.bm
  have hlv:=hat.lv
  rw[List.take_length]at hbm hlv
  refine(hE wr hat.kn hbm).mono ?_
  rintro e w7⟨K,cs,rfl,h1,h2,h3⟩
  have hb7:=h1.bld
  rw[binds_len]at hb7
  refine⟨K,cs,ρ.length+vs.length,rfl,hlen,by simp[World.cell?,hb7],by simp[World.frozen?,hb7],hide fun tmps hl=>?_⟩
  have hk8:Kn (fun k=>k=tb\/k=bb) w7 (w7.setCell ⟨bb,2,none⟩ (.int .i64 (((ρ.length+vs.length:Nat):Int)-(vs.length:Int)))):=(Kn.refl _ w7).set (p:=⟨bb,2,none⟩) (inl (inr rfl)) _
  have htb:tb≠bb:=fun e=>h1.not_tb h1.bld e.symm
  refine hlv tmps c K cs _ hl ⟨?_,?_,by omega⟩ (h2.trans hk8) (h3.kept (h1.kr hk8))
  ·simp[World.setCell,Array.getElem?_modify,hb7]
  ·obtain⟨n7,f7,q1,q2⟩:=h1.tab
   exact⟨n7,f7,q1.kept (Below.heap_setCell _ _ _ _ htb),q2⟩
theorem withinR_of{vs:List Nm}{a:Option Addr}{n cp:Nat}(hEb:Enters Kb)(hr:w.ownsRow 0 tyStr 1 (.slice a n cp) vs.length (vs.map strV))(hok:∀x∈vs,okK (0,x))(hlen:ρ.length+vs.length<=1000000)(h:BM mb tb bb ρ ρ.length w)
  (hE:∀u,Kn (fun k=>k=tb\/k=bb) w u->BM mb tb bb (binds ρ vs) (ρ.length+vs.length) u->Calls prog Kb csb u (BA mb tb bb (binds ρ vs) c u)) :
  Calls prog 41 #[ptrV bb,.func (.func Kb) #[] csb,.slice a n cp] w (BA mb tb bb ρ c w):=by
 obtain⟨WI,hn,h0,hs,he⟩:=bw_facts hr hok hlen h hE
 have hEn:=fun(args:Array Value) (w:World)=>hEb args w
 have H0:=hide h0
 have HS:=hide hs
 have HE:=hide he
 have hK:=fun(tx:ByteArray) (u:World)=>rkey_any tx u
 have HK:=hide hK
 clear h0 hs he hr hok h hE hK hEb hlen
 generalize BA mb tb bb ρ c w=Q at *
 unfold ptrV at *
 go_enter_defers func41,ntmps41
 go_wp2_with fail
 refine wp_loop_ghost_k (fun gk a' w'=>∃(i:Nat) (D:List Deferred) (u8 u13 u14 u15 u16 u17 u18 u19 u20 u21 u22 u23 u24 u25 u26 u27 u28 u29 u30 u31 u32 u33 u34:Value),i+gk=n/\Hid (WI i D w')/\a'={ tmps:=#[.pointer (some ⟨bb,0,none⟩),.func (.func Kb) #[] csb,.slice a n cp,undef,undef,undef,.nilFunc,undef,u8,undef,.slice a n cp,.int .i64 n,.int .i64 (i:Nat),u13,u14,u15,u16,u17,u18,u19,u20,u21,u22,u23,u24,u25,u26,u27,u28,u29,u30,u31,u32,u33,u34,undef,undef,undef,undef,undef,undef,undef,undef,undef,undef,undef,undef],defers:=D }) n ⟨0,[],undef,undef,undef,undef,undef,undef,undef,undef,undef,undef,undef,undef,undef,undef,undef,undef,undef,undef,undef,undef,undef,undef,undef,by omega,H0,rfl⟩ ?_
 rintro gk a' wr⟨i,D,u8,u13,u14,u15,u16,u17,u18,u19,u20,u21,u22,u23,u24,u25,u26,u27,u28,u29,u30,u31,u32,u33,u34,hi,HR,rfl⟩ J KK hJ hKK
 clear H0
 by_cases hlt:i<n
 ·obtain⟨g',tx,ai,rfl,e1,e3,hai,hu⟩:=HS.out i D wr HR.out hlt
  have hlt3:(i:Int)<(n:Int):=by omega
  have hal:∀u o u',Kn (fun _=>False) wr u->u'=World.alloc u o->Kn (fun _=>False) wr u':=fun u o u' hu e=>by
   subst e;exact hu.alloc o
  have HV:=hide (Kn.drewF wr)
  have HAL:=hide hal
  have HX:=hide hu
  have HJ:=hide hJ
  clear hu hal HS HE HR
  generalize Kn (fun _=>False) wr=V at *
  have hz:=HX.out _ HV.out
  obtain⟨⟨c1a,c2a⟩,_⟩:=hz
  unfold unbI at *
  go_wp2_with fail
  go_region_held3 (fun w'=>w'.cell? ⟨bb,1,none⟩=some (.map (some tb))/\w'.cell? ⟨bb,2,none⟩=some (.int .i64 (ai:Nat))) (exact⟨c1a,c2a⟩)
   (first|(go_at_call 68;refine(HK.out _ _).mono ?_;rintro e u⟨rfl,hu⟩;have HV:=hide (HAL.out _ _ _ HV.out hu);have hz:=HX.out _ HV.out;obtain⟨⟨c1a,c2a⟩,hb⟩:=hz;have HB:=hide hb;clear hu hb)|(go_at_call 67;refine(HB.out).mono ?_;rintro e u6⟨W,rfl,⟨c1a,c2a⟩,f2a,HRN⟩))
  all_goals
   go_wp2_with fail
   rw[show (i:Int)+1=((i+1:Nat):Int) by omega]
   exact Handed.intro (n-(i+1)) (by omega) (HJ.out _ _ _ ⟨i+1,unbDI W::D,_,_,_,_,_,_,_,_,_,_,_,_,_,_,_,_,_,_,_,_,_,_,_,by omega,HRN,rfl⟩)
 ·have hin:i=n:=by omega
  subst hin
  have hlt3:¬(i:Int)<(i:Int):=by omega
  have HC:=hide (HE.out D wr HR.out)
  clear HS HE HR
  go_wp2_with fail
  refine(HC.out).mono ?_;rintro e w7⟨K,cs,ai,rfl,hai,c2,f2,HL⟩
  clear HC
  go_wp2
  exact HL.out _ (fun wx Q hq=>by simp only[Leaves];exact⟨_,by simp[results,results41,go_sem],hq⟩)
end
theorem Each.max{mb:Nat}{w:World}:∀{ps:List Cd}{xs:List Value},Each (CdX mb w) ps xs->∃n,Each (CdM mb w n) ps xs:=by
 intro ps
 induction ps with
 |nil=>intro xs h;cases xs with|nil=>exact⟨0,trivial⟩|cons=>exact h.elim
 |cons c r ih=>
  intro xs h
  cases xs with
  |nil=>exact h.elim
  |cons x l=>
   obtain⟨n1,h1⟩:=h.1
   obtain⟨n2,h2⟩:=ih h.2
   exact⟨n1+n2,h1.le (by omega),h2.imp fun _ _ q=>q.le (by omega)⟩
theorem Each.snoc{α β:Type}{R:α->β->Prop}:∀{ps:List α}{xs:List β}{c:α}{x:β},Each R ps xs->R c x->Each R (ps++[c]) (xs++[x]):=by
 intro ps
 induction ps with
 |nil=>intro xs c x h hr;cases xs with|nil=>exact⟨hr,trivial⟩|cons=>exact h.elim
 |cons p r ih=>
  intro xs c x h hr
  cases xs with
  |nil=>exact h.elim
  |cons y l=>exact⟨h.1,ih h.2 hr⟩
theorem al1(w:World)(o1:Obj):(w.alloc o1).heap[w.heap.size]?=some o1:=by simp only[alloc_heap,if_pos]
theorem al2(w:World)(o1 o2:Obj):((w.alloc o1).alloc o2).heap[w.heap.size]?=some o1/\((w.alloc o1).alloc o2).heap[w.heap.size+1]?=some o2:=by
 refine⟨?_,?_⟩
 ·rw[alloc_heap,if_neg (by rw[alloc_size];omega),al1]
 ·rw[alloc_heap,if_pos (by rw[alloc_size])]
theorem al3(w:World)(o1 o2 o3:Obj):(((w.alloc o1).alloc o2).alloc o3).heap[w.heap.size]?=some o1/\(((w.alloc o1).alloc o2).alloc o3).heap[w.heap.size+1]?=some o2/\(((w.alloc o1).alloc o2).alloc o3).heap[w.heap.size+1+1]?=some o3:=by
 have h:=al2 w o1 o2
 refine⟨?_,?_,?_⟩
 ·rw[alloc_heap,if_neg (by rw[alloc_size,alloc_size];omega)];exact h.1
 ·rw[alloc_heap,if_neg (by rw[alloc_size,alloc_size];omega)];exact h.2
 ·rw[alloc_heap,if_pos (by rw[alloc_size,alloc_size])]
section
variable {mb tb bb:Nat}{ρ:List Nm}{w u:World}
theorem BA.of{K:Nat}{l:List Nat}{c:Cd}{xs:List Value}{bl:List (TypeId×Value)}(hB:BM mb tb bb ρ ρ.length w)(hF:Fresh w u)(hin:InI c.n/\(c.op=3->0<=c.n/\c.n.toNat<=1000000))(hx:Each (CdX mb w) c.ps xs)(hf:formOf mb c xs=some (K,bl))(hE:Enters K)(hb:Bxs u bl l) :
  BA mb tb bb ρ c w (.returned (fnV K l)) u:=by
 obtain⟨n,hn⟩:=(hx.imp (CdX.kept hF.kr)).max
 exact⟨K,_,rfl,hB.stays hF.kn,hF.kn.wide fun _ _ h=>h.elim,n+1,hin,xs,K,bl,hn,hf,hE,l,rfl,hb⟩
theorem BA.behind{c:Cd}{e:Ending}{w1 w2:World}(hk:Kn (fun k=>k=tb\/k=bb) w w1)(h:BA mb tb bb ρ c w1 e w2):BA mb tb bb ρ c w e w2:=by
 obtain⟨K,cs,h1,h2,h3,h4⟩:=h
 exact⟨K,cs,h1,h2,hk.trans h3,h4⟩
theorem in0:InI 0:=by unfold InI;omega
section
variable {K1 K2 K3:Nat}{cs1 cs2 cs3:Array Value}{c1 c2 c3:Cd}{nm:Nm}
theorem b_fun(hB:BM mb tb bb ρ ρ.length w)(h1:CdX mb w c1 (.func (.func K1) #[] cs1)):Calls prog 108 #[.func (.func K1) #[] cs1] w (BA mb tb bb ρ ⟨5,0,nm,[c1],[]⟩ w):=by
 refine(mk_fun).mono ?_
 rintro e u⟨rfl,rfl⟩
 exact BA.of (l:=[w.heap.size]) (xs:=[_]) hB ((Fresh.refl w).alloc _) ⟨in0,fun h=>by cases h⟩ ⟨h1,trivial⟩ rfl Enters.fun ⟨al1 _ _,fxCode,trivial⟩
theorem b_fetch(hB:BM mb tb bb ρ ρ.length w)(h1:CdX mb w c1 (.func (.func K1) #[] cs1)):Calls prog 160 #[.func (.func K1) #[] cs1] w (BA mb tb bb ρ ⟨12,0,nm,[c1],[]⟩ w):=by
 refine(mk_fetch).mono ?_
 rintro e u⟨rfl,rfl⟩
 exact BA.of (l:=[w.heap.size]) (xs:=[_]) hB ((Fresh.refl w).alloc _) ⟨in0,fun h=>by cases h⟩ ⟨h1,trivial⟩ rfl Enters.fetch ⟨al1 _ _,fxCode,trivial⟩
theorem b_let(hB:BM mb tb bb ρ ρ.length w)(h1:CdX mb w c1 (.func (.func K1) #[] cs1))(h2:CdX mb w c2 (.func (.func K2) #[] cs2)):Calls prog 116 #[.func (.func K1) #[] cs1,.func (.func K2) #[] cs2] w (BA mb tb bb ρ ⟨6,0,nm,[c1,c2],[]⟩ w):=by
 refine(mk_let).mono ?_
 rintro e u⟨rfl,rfl⟩
 have h:=al2 w (.cells #[.func (.func K1) #[] cs1] tyCode) (.cells #[.func (.func K2) #[] cs2] tyCode)
 exact BA.of (l:=[w.heap.size,w.heap.size+1]) (xs:=[_,_]) hB (((Fresh.refl w).alloc _).alloc _) ⟨in0,fun h=>by cases h⟩ ⟨h1,h2,trivial⟩ rfl Enters.let ⟨h.1,fxCode,h.2,fxCode,trivial⟩
theorem b_rec(hB:BM mb tb bb ρ ρ.length w)(h1:CdX mb w c1 (.func (.func K1) #[] cs1))(h2:CdX mb w c2 (.func (.func K2) #[] cs2)):Calls prog 115 #[.func (.func K1) #[] cs1,.func (.func K2) #[] cs2] w (BA mb tb bb ρ ⟨7,0,nm,[c1,c2],[]⟩ w):=by
 refine(mk_rec).mono ?_
 rintro e u⟨rfl,rfl⟩
 have h:=al2 w (.cells #[.func (.func K1) #[] cs1] tyCode) (.cells #[.func (.func K2) #[] cs2] tyCode)
 exact BA.of (l:=[w.heap.size,w.heap.size+1]) (xs:=[_,_]) hB (((Fresh.refl w).alloc _).alloc _) ⟨in0,fun h=>by cases h⟩ ⟨h1,h2,trivial⟩ rfl Enters.rec ⟨h.1,fxCode,h.2,fxCode,trivial⟩
theorem b_seq(hB:BM mb tb bb ρ ρ.length w)(h1:CdX mb w c1 (.func (.func K1) #[] cs1))(h2:CdX mb w c2 (.func (.func K2) #[] cs2)):Calls prog 71 #[.func (.func K1) #[] cs1,.func (.func K2) #[] cs2] w (BA mb tb bb ρ ⟨9,0,nm,[c1,c2],[]⟩ w):=by
 refine(mk_seq).mono ?_
 rintro e u⟨rfl,rfl⟩
 have h:=al2 w (.cells #[.func (.func K1) #[] cs1] tyCode) (.cells #[.func (.func K2) #[] cs2] tyCode)
 exact BA.of (l:=[w.heap.size,w.heap.size+1]) (xs:=[_,_]) hB (((Fresh.refl w).alloc _).alloc _) ⟨in0,fun h=>by cases h⟩ ⟨h1,h2,trivial⟩ rfl Enters.seq ⟨h.1,fxCode,h.2,fxCode,trivial⟩
theorem b_set(hB:BM mb tb bb ρ ρ.length w)(h1:CdX mb w c1 (.func (.func K1) #[] cs1))(h2:CdX mb w c2 (.func (.func K2) #[] cs2)):Calls prog 159 #[.func (.func K1) #[] cs1,.func (.func K2) #[] cs2] w (BA mb tb bb ρ ⟨10,0,nm,[c1,c2],[]⟩ w):=by
 refine(mk_set).mono ?_
 rintro e u⟨rfl,rfl⟩
 have h:=al2 w (.cells #[.func (.func K1) #[] cs1] tyCode) (.cells #[.func (.func K2) #[] cs2] tyCode)
 exact BA.of (l:=[w.heap.size,w.heap.size+1]) (xs:=[_,_]) hB (((Fresh.refl w).alloc _).alloc _) ⟨in0,fun h=>by cases h⟩ ⟨h1,h2,trivial⟩ rfl Enters.set ⟨h.1,fxCode,h.2,fxCode,trivial⟩
theorem b_choice(hB:BM mb tb bb ρ ρ.length w)(h1:CdX mb w c1 (.func (.func K1) #[] cs1))(h2:CdX mb w c2 (.func (.func K2) #[] cs2))(h3:CdX mb w c3 (.func (.func K3) #[] cs3)):Calls prog 158 #[.func (.func K1) #[] cs1,.func (.func K2) #[] cs2,.func (.func K3) #[] cs3] w (BA mb tb bb ρ ⟨8,0,nm,[c1,c2,c3],[]⟩ w):=by
 refine(mk_choice).mono ?_
 rintro e u⟨rfl,rfl⟩
 have h:=al3 w (.cells #[.func (.func K1) #[] cs1] tyCode) (.cells #[.func (.func K2) #[] cs2] tyCode) (.cells #[.func (.func K3) #[] cs3] tyCode)
 exact BA.of (l:=[w.heap.size,w.heap.size+1,w.heap.size+1+1]) (xs:=[_,_,_]) hB ((((Fresh.refl w).alloc _).alloc _).alloc _) ⟨in0,fun h=>by cases h⟩ ⟨h1,h2,h3,trivial⟩ rfl Enters.choice ⟨h.1,fxCode,h.2.1,fxCode,h.2.2,fxCode,trivial⟩
theorem b_apply(hB:BM mb tb bb ρ ρ.length w)(h1:CdX mb w c1 (.func (.func K1) #[] cs1))(h2:CdX mb w c2 (.func (.func K2) #[] cs2)):Calls prog 157 #[.func (.func 40) #[ptrV mb] #[],.func (.func K1) #[] cs1,.func (.func K2) #[] cs2] w (BA mb tb bb ρ ⟨13,0,nm,[c1,c2],[]⟩ w):=by
 refine(mk_apply).mono ?_
 rintro e u⟨rfl,rfl⟩
 have h:=al3 w (.cells #[.func (.func 40) #[ptrV mb] #[]] 1) (.cells #[.func (.func K1) #[] cs1] tyCode) (.cells #[.func (.func K2) #[] cs2] tyCode)
 exact BA.of (l:=[w.heap.size+1,w.heap.size+1+1,w.heap.size]) (xs:=[_,_]) hB ((((Fresh.refl w).alloc _).alloc _).alloc _) ⟨in0,fun h=>by cases h⟩ ⟨h1,h2,trivial⟩ rfl Enters.apply ⟨h.2.1,fxCode,h.2.2,fxCode,h.1,fxStep,trivial⟩
theorem b_calc{Ko:Nat}(ho:operV nm=.func (.func Ko) #[] #[])(hB:BM mb tb bb ρ ρ.length w)(h1:CdX mb w c1 (.func (.func K1) #[] cs1))(h2:CdX mb w c2 (.func (.func K2) #[] cs2)):Calls prog 161 #[.func (.func Ko) #[] #[],.func (.func K1) #[] cs1,.func (.func K2) #[] cs2] w (BA mb tb bb ρ ⟨11,0,nm,[c1,c2],[]⟩ w):=by
 refine(mk_calc).mono ?_
 rintro e u⟨rfl,rfl⟩
 have h:=al3 w (.cells #[.func (.func Ko) #[] #[]] tyOper) (.cells #[.func (.func K1) #[] cs1] tyCode) (.cells #[.func (.func K2) #[] cs2] tyCode)
 exact BA.of (l:=[w.heap.size+1,w.heap.size+1+1,w.heap.size]) (xs:=[_,_]) hB ((((Fresh.refl w).alloc _).alloc _).alloc _) ⟨in0,fun h=>by cases h⟩ ⟨h1,h2,trivial⟩ rfl Enters.calc ⟨h.2.1,fxCode,h.2.2,fxCode,by rw[ho];exact h.1,fxOper,trivial⟩
theorem b_num(hB:BM mb tb bb ρ ρ.length w):Calls prog 69 #[numV 0] w (BA mb tb bb ρ ⟨0,0,nm,[],[]⟩ w):=by
 refine(mk_always).mono ?_
 rintro e u⟨rfl,rfl⟩
 exact BA.of (l:=[w.heap.size]) (xs:=[]) hB ((Fresh.refl w).alloc _) ⟨in0,fun h=>by cases h⟩ trivial rfl Enters.always ⟨al1 _ _,fxVal,trivial⟩
theorem b_unit(hB:BM mb tb bb ρ ρ.length w):Calls prog 69 #[unitV] w (BA mb tb bb ρ ⟨2,0,nm,[],[]⟩ w):=by
 refine(mk_always).mono ?_
 rintro e u⟨rfl,rfl⟩
 exact BA.of (l:=[w.heap.size]) (xs:=[]) hB ((Fresh.refl w).alloc _) ⟨in0,fun h=>by cases h⟩ trivial rfl Enters.always ⟨al1 _ _,fxVal,trivial⟩
end
end
theorem Fresh.below{w u:World}(h:Below w.heap.size w u):Fresh w u:=⟨Kn.of_below h,h.size,fun k c t f _ hc=>h.block k (lt_of_heap hc),fun k _ hl=>h.block k hl,h.os,h.tape,h.output⟩
theorem operationOf_any{nm:Nm}(h:nm=[43]\/nm=[60])(w:World):∃Ko,operV nm=.func (.func Ko) #[] #[]/\Calls prog 162 #[.string (bs nm)] w fun e w'=>e=.returned (.func (.func Ko) #[] #[])/\w'=w:=by
 rcases h with rfl|rfl
 ·refine⟨_,rfl,?_⟩
  have hb:bs [43]=⟨#[43]⟩:=rfl
  rw[hb]
  go_enter func162,ntmps162
  go_wp2
  refine bodyPost_ret (v:=.func (.func 221) #[] #[]) (by simp[results,results162,go_sem]) rfl ⟨rfl,rfl⟩
 ·refine⟨_,rfl,?_⟩
  have hb:bs [60]=⟨#[60]⟩:=rfl
  rw[hb]
  go_enter func162,ntmps162
  go_wp2
  refine bodyPost_ret (v:=.func (.func 227) #[] #[]) (by simp[results,results162,go_sem]) rfl ⟨rfl,rfl⟩
theorem plainUnit{nb:Nat}{w:World}(c0:w.cell? ⟨nb,0,none⟩=some (.int .i64 2)):Calls prog 106 #[ptrV nb] w fun e w'=>e=.returned unitV/\w'=w:=by
 unfold ptrV unitV
 go_enter func106,ntmps106
 go_wp2
 refine bodyPost_ret (v:=.iface 139 (.agg #[])) (by simp[results,results106,go_sem]) rfl ⟨rfl,rfl⟩
theorem plainZero{nb:Nat}{w:World}(c0:w.cell? ⟨nb,0,none⟩=some (.int .i64 0))(c1:w.cell? ⟨nb,1,none⟩=some (.string (bs [48]))):Calls prog 106 #[ptrV nb] w fun e w'=>e=.returned (numV 0)/\Fresh w w':=by
 have hP:Calls prog 144 #[.string (bs [48]),.int .i64 10,.int .i64 64] w fun e w'=>e=.returned (.tuple #[.int .i64 0,.nilIface])/\Hid (Fresh w w'):=by
  refine(Tryz.strconv_ParseInt_10_at64_ok (bs [48]) (by decide) 0 (by decide) w).mono ?_
  rintro e w'⟨rfl,hw|⟨t,rfl⟩⟩
  ·rw[hw];exact⟨rfl,Fresh.refl w⟩
  ·exact⟨rfl,Fresh.below (Lib.bytesWorld_below w _ t)⟩
 have HP:=hide hP
 clear hP
 generalize bs [48]=sx at *
 unfold ptrV numV
 go_enter func106,ntmps106
 go_wp2_with fail
 refine(HP.out).mono ?_
 rintro e w1⟨rfl,HF⟩
 go_wp2
 refine bodyPost_ret (v:=.iface 2 (.int .i64 0)) (by simp[results,results106,go_sem]) rfl ⟨rfl,HF.out⟩
theorem info_code:(prog.info? tyCode).map (fun i=>(i.zero,i.size,i.bytes))=some (some .nilFunc,1,8):=by kernel_rfl
def OneB(w w':World):Prop:=∀(k:Nat)(x:Value)(t:TypeId),Fixed t->w.heap[k]?=some (.cells #[x] t (0,0))->w'.heap[k]?=w.heap[k]?
theorem Bxs.kept1{w w':World}(hk:OneB w w'):∀{r:List (TypeId×Value)}{l:List Nat},Bxs w r l->Bxs w' r l:=by
 intro r
 induction r with
 |nil=>intro l h;cases l with|nil=>trivial|cons=>exact h.elim
 |cons x r ih=>
  intro l h
  obtain⟨t,v⟩:=x
  cases l with
  |nil=>exact h.elim
  |cons b l=>exact⟨(hk b _ _ h.2.1 h.1).trans h.1,h.2.1,ih h.2.2⟩
theorem CdM.kept1{mb:Nat}{w w':World}(hk:OneB w w'):∀(n:Nat)(c:Cd)(v:Value),CdM mb w n c v->CdM mb w' n c v:=by
 intro n
 induction n with
 |zero=>intro c v h;exact h.elim
 |succ n ih=>
  intro c v h
  obtain⟨h0,xs,K,bl,h1,h2,hE,l,h3,h4⟩:=h
  exact⟨h0,xs,K,bl,h1.imp ih,h2,hE,l,h3,h4.kept1 hk⟩
theorem CdX.kept1{mb:Nat}{w w':World}(hk:OneB w w')(c:Cd)(v:Value)(h:CdX mb w c v):CdX mb w' c v:=h.elim fun n hn=>⟨n,hn.kept1 hk⟩
section
variable {mb tb bb:Nat}{ρ:List Nm}{w u:World}
theorem BM.tree(h:BM mb tb bb ρ ρ.length w)(hk:Kn (fun k=>k=tb\/k=bb) w u){nd:Nd}{nb:Nat}(hn:NMem w nd nb):NMem u nd nb:=
 NMem.kept (fun k c f hc=>hk.block k (lt_of_heap hc) fun e=>by rcases e with e|e;exact h.not_tb hc e;exact h.not_bb hc (by decide) e) (fun k c f hc=>hk.block k (lt_of_heap hc) fun e=>by rcases e with e|e;exact h.not_tb hc e;exact h.not_bb hc (by decide) e) nd nb hn
theorem BM.pt(h:BM mb tb bb ρ ρ.length w)(hk:Kn (fun k=>k=tb\/k=bb) w u){nb k g cap:Nat}{txt:Nm}{bl:List Nat}(hp:PtAt nb k txt g cap bl w):PtAt nb k txt g cap bl u:=by
 obtain⟨cs,h1,h2⟩:=hp.row
 refine⟨(hk.block nb (lt_of_heap hp.node) fun e=>?_).trans hp.node,cs,(hk.block g (lt_of_heap h1) fun e=>?_).trans h1,h2⟩
 ·rcases e with e|e;exact h.not_tb hp.node e;exact h.not_bb hp.node (by decide) e
 ·rcases e with e|e;exact h.not_tb h1 e;exact h.not_bb h1 (by decide) e
structure CpAt(mb tb bb:Nat)(ρ:List Nm)(w:World)(cds:List Cd)(i:Nat)(v:Value)(wr:World):Prop where
 bm:BM mb tb bb ρ ρ.length wr
 kn:Kn (fun k=>k=tb\/k=bb) w wr
 row:∃xs,wr.ownsRow w.heap.size tyCode 1 v i xs/\Each (CdX mb wr) (cds.take i) xs
 nul:i=0->v=.slice none 0 0
theorem CpAt.more{cds:List Cd}{i K:Nat}{v:Value}{wr:World}{cs:Array Value}{c:Cd}(h:CpAt mb tb bb ρ w cds i v wr)(hi:cds[i]?=some c)(hn:i<=1000)(ha:BA mb tb bb ρ c wr (.returned (.func (.func K) #[] cs)) u) :
  ∃v' w2,(Builtin.append_ #[198,198] 198 #[v,.slice (some ⟨u.heap.size,0,none⟩) 1 1]).run prog (u.alloc (.cells #[.func (.func K) #[] cs] tyCode))=.ok v' w2/\CpAt mb tb bb ρ w cds (i+1) v' w2:=by
 obtain⟨K',cs',hkc,hb,hk,hc⟩:=ha
 cases hkc
 obtain⟨xs,hx1,hx2⟩:=h.row
 obtain⟨i0,hi0,hz0,hz1,hz2⟩:=info_parts info_code
 have hkr:=h.bm.kr hk
 have hown:u.ownsRow w.heap.size tyCode 1 v i xs:=ownsRow_kept hx1 fun k c f _ hcc=>hk.block k (lt_of_heap hcc) fun e=>by rcases e with e|e;exact h.bm.not_tb hcc e;exact h.bm.not_bb hcc (by decide) e
 have hown1:=hown.alloc (.cells #[.func (.func K) #[] cs] tyCode)
 have hnews:∀j z,[Value.func (.func K) #[] cs][j]?=some z->(u.alloc (.cells #[.func (.func K) #[] cs] tyCode)).cell? ((⟨u.heap.size,0,none⟩:Addr).add j)=some z:=fun j z hj=>cell_new rfl (by simpa using hj)
 have hone:∀z∈[Value.func (.func K) #[] cs],z.oneCell'=true:=by intro z hz;simp at hz;subst hz;rfl
 have hbase:w.heap.size<=u.heap.size:=le_trans h.kn.size hk.size
 obtain⟨v',w2,hrun,ho2,hg',_⟩:=run_append_own (P:=prog) (u.alloc (.cells #[.func (.func K) #[] cs] tyCode)) w.heap.size 198 198 tyCode i0 .nilFunc 1 8 underlying198 hi0 hz0 hz1 hz2 rfl (by decide) v i xs hown1 ⟨u.heap.size,0,none⟩ 1 1 [.func (.func K) #[] cs] rfl hnews hone (by unfold maxLen;omega) (by omega) (by rw[alloc_size];omega)
 refine⟨v',w2,hrun,?_⟩
 have hvb:∀g,v.ownBlock=some g->∃c f,u.heap[g]?=some (.cells c tyCode f)/\w.heap.size<=g:=fun g hg=>by
  rcases hown.2 with⟨rfl,_⟩|⟨g',cap,cur,rfl,hbg,hgg,_⟩
  ·simp[Value.ownBlock]at hg
  ·have:g'=g:=by simpa [Value.ownBlock]using hg
   subst this
   exact⟨_,_,hgg,hbg⟩
 have hold:∀k,k<u.heap.size->v.ownBlock≠some k->w2.heap[k]?=u.heap[k]?:=fun k hk2 hne=>by
  rw[hg'.block k (by rw[alloc_size];omega) (fun e=>hne e.symm),alloc_heap,if_neg (by omega)]
 have hnb:v.ownBlock≠some bb:=fun e=>by
  obtain⟨c,f,h1,_⟩:=hvb _ e
  exact hb.not_bb h1 (by decide) rfl
 have hnt:v.ownBlock≠some tb:=fun e=>by
  obtain⟨c,f,h1,_⟩:=hvb _ e
  exact hb.not_tb h1 rfl
 have hsz:u.heap.size<=w2.heap.size:=by
  have:=hg'.size
  rw[alloc_size]at this;omega
 obtain⟨n2,f2,t1,t2⟩:=hb.tab
 have hb2:BM mb tb bb ρ ρ.length w2:=⟨(hold bb (lt_of_heap hb.bld) hnb).trans hb.bld,⟨n2,f2,t1.kept (hold tb t1.lt hnt),t2⟩,hb.len⟩
 have hkw:Kn (fun k=>k=tb\/k=bb) w w2:=by
  have hku:=h.kn.trans hk
  refine⟨hg'.os.trans hku.os,hg'.tape.trans hku.tape,hg'.output.trans hku.output,le_trans hku.size hsz,fun k hk1 hd=>?_⟩
  rw[hold k (lt_of_lt_of_le hk1 hku.size) (fun e=>by obtain⟨_,_,_,h3⟩:=hvb _ e;omega)]
  exact hku.block k hk1 hd
 have hone1:OneB u w2:=fun k x t ht hc=>by
  by_cases hkv:v.ownBlock=some k
  ·rcases hown1.2 with⟨rfl,_⟩|⟨g0,cap,cur,rfl,hbg,hg,hnc,hcm,hcs,htake⟩
   ·simp[Value.ownBlock]at hkv
   ·have hgk:g0=k:=by simpa [Value.ownBlock]using hkv
    subst hgk
    have hlt:=lt_of_heap hc
    rw[alloc_heap,if_neg (by omega),hc]at hg
    have hcur:cur=#[x]:=by simp at hg;exact hg.1.symm
    have hcap:cap=1:=by rw[hcur]at hcs;simpa using hcs.symm
    subst hcap
    have hi1:i≠0:=fun e=>by have:=h.nul e;cases this
    have hr:=run_append_grow (P:=prog) (u.alloc (.cells #[.func (.func K) #[] cs] tyCode)) 198 198 tyCode i0 .nilFunc underlying198 hi0 hz0 ⟨g0,0,none⟩ i 1 xs (by rw[hz1];exact hown.1) (hown1.cells (g:=g0) rfl) ⟨u.heap.size,0,none⟩ 1 1 [.func (.func K) #[] cs] (by rw[hz1];rfl) hnews (by omega) (by omega) (growslice_fits (by omega) (by rw[hz2];omega))
    rw[hrun]at hr
    simp only[Result.ok.injEq]at hr
    rw[hr.2,alloc_heap,if_neg (by show g0≠(u.alloc _).heap.size;rw[alloc_size];omega)]
    show (u.alloc _).heap[g0]?=_
    rw[alloc_heap,if_neg (by omega)]
  ·exact hold k (lt_of_heap hc) hkv
 have htk:cds.take (i+1)=cds.take i++[c]:=by rw[List.take_add_one,hi];rfl
 refine⟨hb2,hkw,⟨_,ho2,?_⟩,fun e=>by omega⟩
 rw[htk]
 exact((hx2.imp (CdX.kept hkr)).imp (CdX.kept1 hone1)).snoc (hc.kept1 hone1)
end
section
variable {mb tb bb:Nat}{ρ:List Nm}{w:World}
theorem cp_facts{k nb g cap:Nat}{txt:Nm}{ps:List Nd}{cds:List Cd}{bl:List Nat}(hB:BM mb tb bb ρ ρ.length w)(hp:PtAt nb k txt g cap bl w)(hm:NMem.NMems w ps bl)(hl:cds.length=ps.length)(hn:ps.length<=1000)
  (hE:∀(i:Nat)(nd:Nd)(b:Nat)(c:Cd)(u:World),ps[i]?=some nd->bl[i]?=some b->cds[i]?=some c->BM mb tb bb ρ ρ.length u->NMem u nd b->Calls prog 72 #[ptrV bb,ptrV b] u (BA mb tb bb ρ c u)) :
  ∃LI:Nat->Value->World->Prop,bl.length<=1000/\LI 0 (.slice none 0 0) w /\
   (∀i v wr,LI i v wr->i<bl.length->∃b,wr.cell? ⟨g,i,none⟩=some (ptrV b)/\g<wr.heap.size/\Calls prog 72 #[ptrV bb,ptrV b] wr fun e u=>∃K cs v' w2,e=.returned (.func (.func K) #[] cs)/\(Builtin.append_ #[198,198] 198 #[v,.slice (some ⟨u.heap.size,0,none⟩) 1 1]).run prog (u.alloc (.cells #[.func (.func K) #[] cs] tyCode))=.ok v' w2/\Hid (LI (i+1) v' w2)) /\
   ∀v wr,LI bl.length v wr->CpAt mb tb bb ρ w cds cds.length v wr:=by
 have hbl:bl.length=ps.length:=hm.len
 refine⟨fun i v wr=>CpAt mb tb bb ρ w cds i v wr,by omega,⟨hB,Kn.refl _ _,⟨[],World.ownsRow_nil _ _ _ _,by rw[List.take_zero];trivial⟩,fun _=>rfl⟩,fun i v wr h hi=>?_,fun v wr h=>by rw[hl,<- hbl];exact h⟩
 have hpr:=hB.pt h.kn hp
 have hmr:NMem.NMems wr ps bl:=hm.kept (fun k c f hc=>h.kn.block k (lt_of_heap hc) fun e=>by rcases e with e|e;exact hB.not_tb hc e;exact hB.not_bb hc (by decide) e) (fun k c f hc=>h.kn.block k (lt_of_heap hc) fun e=>by rcases e with e|e;exact hB.not_tb hc e;exact hB.not_bb hc (by decide) e)
 obtain⟨b,hb⟩:∃b,bl[i]?=some b:=⟨_,List.getElem?_eq_getElem hi⟩
 obtain⟨nd,hnd⟩:∃nd,ps[i]?=some nd:=⟨_,List.getElem?_eq_getElem (by omega)⟩
 obtain⟨c,hc⟩:∃c,cds[i]?=some c:=⟨_,List.getElem?_eq_getElem (by omega)⟩
 obtain⟨cs0,hg1,_⟩:=hpr.row
 obtain⟨b',hb',hnm⟩:=hmr.at hnd
 rw[hb]at hb'
 cases hb'
 refine⟨b,hpr.cells.2.2.2 i b hb,lt_of_heap hg1,(hE i nd b c wr hnd hb hc h.bm hnm).mono ?_⟩
 intro e u ha
 obtain⟨K,cs,rfl,_⟩:=id ha
 obtain⟨v',w2,h1,h2⟩:=h.more hc (by omega) ha
 exact⟨K,cs,v',w2,rfl,h1,h2⟩
theorem wpList_run_append{ops:Array Oper}{rest:List Oper}{o:Oper}{a:Act}{Q:Exit->Act->World->Prop}{w w':World}{v' vs vx:Value}(hgd:o.guard=none)(s x:Operand)(ts:Array TypeId)
  (ho:o.op=.call { callee:=.builtin .append,args:=#[s,x],argTypes:=ts }) (hs:a.eval s=vs) (hx:a.eval x=vx) (hr:(Builtin.append_ ts o.type #[vs,vx]).run prog w=.ok v' w') (h:wpList prog ops Q rest (a.put o.dst v') w'):wpList prog ops Q (o::rest) a w:=by
 refine wpList_plain hgd fun K hK=>?_
 unfold Oper.wp execOp
 simp only[ho,resolve,invoke,builtin,Sem.run_bind,Sem.run_pure,Result.andThen_ok,List.map_toArray,map_cons,List.map_nil,hs,hx,hr]
 exact hK _ _ h
theorem row_cell{w:World}{base:Nat}{t:TypeId}{v:Value}{n:Nat}{xs:List Value}(h:w.ownsRow base t 1 v n xs)(hn:n≠0):∃g cap,v=.slice (some ⟨g,0,none⟩) n cap/\∀j x,xs[j]?=some x->w.cell? ⟨g,j,none⟩=some x:=by
 rcases ownsRow_forms h with⟨_,h0⟩|⟨g,cap,rfl⟩
 ·exact absurd h0 hn
 ·refine⟨g,cap,rfl,fun j x hx=>?_⟩
  have:=h.cells (g:=g) rfl j x hx
  have e:(⟨g,0,none⟩:Addr).add j=⟨g,j,none⟩:=by unfold Addr.add;split<;>simp_all
  rw[e]at this;exact this
theorem CpAt.end1{c1:Cd}{v:Value}{wr:World}(h:CpAt mb tb bb ρ w [c1] 1 v wr):∃g cap K1 cs1,v=.slice (some ⟨g,0,none⟩) 1 cap/\wr.cell? ⟨g,0,none⟩=some (.func (.func K1) #[] cs1)/\CdX mb wr c1 (.func (.func K1) #[] cs1):=by
 obtain⟨xs,h1,h2⟩:=h.row
 obtain⟨g,cap,rfl,hc⟩:=row_cell h1 (by decide)
 match xs,h2 with
 |[x1],h2=>
  have q1:CdX mb wr c1 x1:=h2.1
  obtain⟨K1,cs1,rfl,_⟩:=q1.elim fun n h=>h.form
  exact⟨g,cap,K1,cs1,rfl,hc 0 _ rfl,q1⟩
theorem CpAt.end2{c1 c2:Cd}{v:Value}{wr:World}(h:CpAt mb tb bb ρ w [c1,c2] 2 v wr):∃g cap K1 cs1 K2 cs2,v=.slice (some ⟨g,0,none⟩) 2 cap/\wr.cell? ⟨g,0,none⟩=some (.func (.func K1) #[] cs1)/\wr.cell? ⟨g,1,none⟩=some (.func (.func K2) #[] cs2)/\CdX mb wr c1 (.func (.func K1) #[] cs1)/\CdX mb wr c2 (.func (.func K2) #[] cs2):=by
 obtain⟨xs,h1,h2⟩:=h.row
 obtain⟨g,cap,rfl,hc⟩:=row_cell h1 (by decide)
 match xs,h2 with
 |[x1,x2],h2=>
  have q1:CdX mb wr c1 x1:=h2.1
  have q2:CdX mb wr c2 x2:=h2.2.1
  obtain⟨K1,cs1,rfl,_⟩:=q1.elim fun n h=>h.form
  obtain⟨K2,cs2,rfl,_⟩:=q2.elim fun n h=>h.form
  exact⟨g,cap,K1,cs1,K2,cs2,rfl,hc 0 _ rfl,hc 1 _ rfl,q1,q2⟩
theorem CpAt.end3{c1 c2 c3:Cd}{v:Value}{wr:World}(h:CpAt mb tb bb ρ w [c1,c2,c3] 3 v wr):∃g cap K1 cs1 K2 cs2 K3 cs3,v=.slice (some ⟨g,0,none⟩) 3 cap/\wr.cell? ⟨g,0,none⟩=some (.func (.func K1) #[] cs1)/\wr.cell? ⟨g,1,none⟩=some (.func (.func K2) #[] cs2)/\wr.cell? ⟨g,2,none⟩=some (.func (.func K3) #[] cs3)/\CdX mb wr c1 (.func (.func K1) #[] cs1)/\CdX mb wr c2 (.func (.func K2) #[] cs2)/\CdX mb wr c3 (.func (.func K3) #[] cs3):=by
 obtain⟨xs,h1,h2⟩:=h.row
 obtain⟨g,cap,rfl,hc⟩:=row_cell h1 (by decide)
 match xs,h2 with
 |[x1,x2,x3],h2=>
  have q1:CdX mb wr c1 x1:=h2.1
  have q2:CdX mb wr c2 x2:=h2.2.1
  have q3:CdX mb wr c3 x3:=h2.2.2.1
  obtain⟨K1,cs1,rfl,_⟩:=q1.elim fun n h=>h.form
  obtain⟨K2,cs2,rfl,_⟩:=q2.elim fun n h=>h.form
  obtain⟨K3,cs3,rfl,_⟩:=q3.elim fun n h=>h.form
  exact⟨g,cap,K1,cs1,K2,cs2,K3,cs3,rfl,hc 0 _ rfl,hc 1 _ rfl,hc 2 _ rfl,q1,q2,q3⟩
theorem composed9{nb:Nat}{txt:Nm}{n1 n2:Nd}{c1 c2:Cd}(hB:BM mb tb bb ρ ρ.length w)(hn:NMem w (.mk 9 txt [n1,n2]) nb)
  (hE:∀(i:Nat)(nd:Nd)(b:Nat)(c:Cd)(u:World),[n1,n2][i]?=some nd->[c1,c2][i]?=some c->BM mb tb bb ρ ρ.length u->NMem u nd b->Calls prog 72 #[ptrV bb,ptrV b] u (BA mb tb bb ρ c u)) :
  Calls prog 113 #[ptrV bb,ptrV nb] w (BA mb tb bb ρ ⟨9,0,txt,[c1,c2],[]⟩ w):=by
 obtain⟨g,cap,bl,hp,hm,hbl⟩:=hn.pt (by simp)
 obtain⟨LI,hbn,h0,hs,he⟩:=cp_facts (cds:=[c1,c2]) hB hp hm rfl (by simp) (fun i nd b c u h1 _ h3 h4 h5=>hE i nd b c u h1 h3 h4 h5)
 have hbl:bl.length=2:=hbl
 have hfin:∀v wr,LI 2 v wr->∃g2 cap2 K1 cs1 K2 cs2,v=.slice (some ⟨g2,0,none⟩) 2 cap2/\(wr.cell? ⟨g2,0,none⟩=some (.func (.func K1) #[] cs1)/\wr.cell? ⟨g2,1,none⟩=some (.func (.func K2) #[] cs2))/\(wr.cell? ⟨nb,0,none⟩=some (.int .i64 9)/\wr.cell? ⟨nb,1,none⟩=some (.string (bs txt))/\wr.cell? ⟨bb,0,none⟩=some (stepV mb))/\Hid (∀u,Kn (fun _=>False) wr u->Calls prog 71 #[.func (.func K1) #[] cs1,.func (.func K2) #[] cs2] u (BA mb tb bb ρ ⟨9,0,txt,[c1,c2],[]⟩ w)):=fun v wr hh=>by
  have hcp:=he v wr (by rw[hbl];exact hh)
  obtain⟨g2,cap2,K1,cs1,K2,cs2,rfl,r1,r2,q1,q2⟩:=hcp.end2
  have hc:=(hB.pt hcp.kn hp).cells
  refine⟨_,_,_,_,_,_,rfl,⟨r1,r2⟩,⟨hc.1,hc.2.1,by simp[World.cell?,hcp.bm.bld]⟩,?_⟩
  exact fun u hu=>(b_seq (hcp.bm.stays hu) (q1.kept (hcp.bm.kr (hu.wide fun _ _ h=>h.elim))) (q2.kept (hcp.bm.kr (hu.wide fun _ _ h=>h.elim)))).mono fun e u2 ha=>ha.behind (hcp.kn.trans (hu.wide fun _ _ h=>h.elim))
 have hc:=hp.cells
 obtain⟨z0,z1,z2,_⟩:=hc
 rw[hbl]at z2 hs
 have H0:=hide h0
 have HS:=hide hs
 have HF:=hide hfin
 clear h0 hs he hp hm hE hB hn hfin hbn
 generalize bs txt=tx at *
 unfold ptrV stepV at *
 go_enter func113,ntmps113
 go_wp2_with fail
 go_loopg [5,13] 2 (fun gk v5 v13 wr=>∃i:Nat,v13=.int .i64 (i:Nat)/\i+gk=2/\Hid (LI i v5 wr))
 case atStart=>exact⟨0,rfl,rfl,H0⟩
 case round=>
  clear H0
  obtain⟨i,rfl,hi,HL⟩:=hrel
  by_cases hlt:i<2
  ·obtain⟨b,e1,e2,hc⟩:=HS.out _ _ _ HL.out hlt
   have hlt3:(i:Int)<2:=by omega
   have HC:=hide hc
   clear hc HS HF HL
   go_wp2_with fail
   refine(HC.out).mono ?_
   rintro e u⟨K,cs,v',w2,rfl,hrun,HL⟩
   have HR:=hide hrun
   clear HC hrun
   go_wp2_with (at_builtin;refine wpList_run_append rfl _ _ _ rfl (by simp[Act.eval,Act.put]) (by simp[Act.eval,Act.put]) HR.out ?_)
   go_roundg (2-(i+1))
   case rel=>exact⟨i+1,by simp,by omega,HL⟩
   case measure=>omega
  ·have hin:i=2:=by omega
   subst hin
   have hlt3:¬((2:Nat):Int)<2:=by omega
   have hz:=HF.out _ _ HL.out
   obtain⟨g2,cap2,K1,cs1,K2,cs2,rfl,⟨r1,r2⟩,⟨d0,d1,d2⟩,HC⟩:=hz
   clear HS HF HL
   have HV:=hide (Kn.drewF wr)
   go_wp2_with fail
   go_region_with ((refine(HC.out _ HV.out).mono ?_);intro e u hq;obtain⟨Kr,csr,rfl,hq2⟩:=hq;have HQ:=hide (show BA mb tb bb ρ _ w _ u from⟨Kr,csr,rfl,hq2⟩);clear hq2)
   all_goals
    go_wp2
    refine bodyPost_ret (v:=.func (.func Kr) #[] csr) (by simp[results,results113,go_sem]) rfl HQ.out
end
end Go.Proofs.YtbkiipiocpnnnaaGreatDoor
