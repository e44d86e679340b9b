import Derived.Test.YtbkiipiocpnnnaaGreatDoorC24
set_option linter.all false
set_option maxHeartbeats 40000000
set_option maxRecDepth 100000
open Go.Proofs.Tryz
open Or (inl inr)
open Nat (le_refl)
open List (append_nil length_append map_append)
namespace Go.Proofs.YtbkiipiocpnnnaaGreatDoor
open Go.RowKit
def plOf(ρ:List Nm)(v:Nm):Option Nat:=(ρ.idxOf? v).map fun i=>ρ.length-1-i
theorem plOf_here(ρ:List Nm)(v:Nm):plOf (v::ρ) v=some ρ.length:=by simp[plOf,List.idxOf?_cons]
theorem plOf_there{ρ:List Nm}{v x:Nm}(h:v≠x):plOf (x::ρ) v=plOf ρ v:=by
 unfold plOf
 have h':(x==v)=false:=by simpa using fun e=>h e.symm
 rw[List.idxOf?_cons,h']
 cases hi:ρ.idxOf? v with
 |none=>simp
 |some i=>simp;omega
def binds(ρ vs:List Nm):List Nm:=vs.foldl (fun ρ v=>v::ρ) ρ
theorem binds_snoc(ρ vs:List Nm)(x:Nm):binds ρ (vs++[x])=x::binds ρ vs:=by unfold binds;rw[List.foldl_append];rfl
theorem binds_len(ρ vs:List Nm):(binds ρ vs).length=ρ.length+vs.length:=by
 induction vs generalizing ρ with
 |nil=>rfl
 |cons v r ih=>show (binds (v::ρ) r).length=_;rw[ih];simp;omega
structure BM(mb tb bb:Nat)(ρ:List Nm)(a:Nat)(w:World):Prop where
 bld:w.heap[bb]?=some (.cells #[stepV mb,.map (some tb),.int .i64 (a:Nat)] tyBld (0,0))
 tab:∃n f,MapHas okK kyV w tb n f/\∀v,okK (0,v)->f (0,v)=(plOf ρ v).map fun i=>.int .i64 (i:Nat)
 len:a<=1000000
section
variable {mb tb bb:Nat}{ρ:List Nm}{a:Nat}{w w' u:World}
theorem BM.tb_lt(h:BM mb tb bb ρ a w):tb<w.heap.size:=by obtain⟨n,f,h1,_⟩:=h.tab;exact h1.lt
theorem BM.not_tb(h:BM mb tb bb ρ a w){k:Nat}{c:Array Value}{t:TypeId}{f:Nat×Nat}(hc:w.heap[k]?=some (.cells c t f)):k≠tb:=fun e=>by
 subst e
 obtain⟨n,f,⟨es,cl,hm,_⟩,_⟩:=h.tab
 rw[hm]at hc;cases hc
theorem BM.not_bb(h:BM mb tb bb ρ a w){k:Nat}{c:Array Value}{t:TypeId}{f:Nat×Nat}(hc:w.heap[k]?=some (.cells c t f))(ht:t≠tyBld):k≠bb:=fun e=>by
 subst e;rw[h.bld]at hc;exact ht (cells_ty hc).symm
theorem BM.kr(h:BM mb tb bb ρ a w)(hk:Kn (fun k=>k=tb\/k=bb) w w'):KR 0 w w':=
 ⟨hk.size,fun k c t f ht hc=>hk.block k (lt_of_heap hc) fun e=>by rcases e with e|e;exact h.not_tb hc e;exact h.not_bb hc ht.2.2.2.2 e,fun k h=>absurd h (Nat.not_lt_zero k),⟨hk.os,hk.tape,hk.output⟩⟩
theorem BM.stays(h:BM mb tb bb ρ a w)(hk:Kn (fun _=>False) w w'):BM mb tb bb ρ a w':=by
 obtain⟨n,f,h1,h2⟩:=h.tab
 exact⟨(hk.block _ (lt_of_heap h.bld) id).trans h.bld,⟨n,f,h1.kept (hk.block tb h1.lt id),h2⟩,h.len⟩
def BA(mb tb bb:Nat)(ρ:List Nm)(c:Cd)(w:World)(e:Ending)(w':World):Prop:=
 ∃K cs,e=.returned (.func (.func K) #[] cs)/\BM mb tb bb ρ ρ.length w'/\Kn (fun k=>k=tb\/k=bb) w w'/\CdX mb w' c (.func (.func K) #[] cs)
def unbDI(W:Nat):Deferred:={ target:=.fn (.func 102) #[.pointer (some ⟨W+3,0,none⟩),.pointer (some ⟨W+2,0,none⟩),.pointer (some ⟨W,0,none⟩),.pointer (some ⟨W+1,0,none⟩)],args:=#[] }
structure BwAt(mb tb bb:Nat)(ρ0:List Nm)(w0:World)(vs:List Nm)(i:Nat)(D:List Deferred)(wr:World):Prop where
 bm:BM mb tb bb (binds ρ0 (vs.take i)) (ρ0.length+i) wr
 kn:Kn (fun k=>k=tb\/k=bb) w0 wr
 lv:∀tmps c K cs w7,(∀(wx:World)(Q:Ending->World->Prop),Q (.returned (.func (.func K) #[] cs)) wx->Leaves prog f41 tmps Q [] .returning wx)->BM mb tb bb (binds ρ0 (vs.take i)) ρ0.length w7->Kn (fun k=>k=tb\/k=bb) wr w7->CdX mb w7 c (.func (.func K) #[] cs)->Leaves prog f41 tmps (BA mb tb bb ρ0 c w0) D .returning w7
theorem BwAt.start{ρ0 vs:List Nm}{w0:World}(h:BM mb tb bb ρ0 ρ0.length w0):BwAt mb tb bb ρ0 w0 vs 0 [] w0:=
 ⟨by simpa [binds]using h,Kn.refl _ _,fun tmps c K cs w7 hl hb hk hc=>hl w7 _ ⟨K,cs,rfl,by simpa [binds]using hb,hk,hc⟩⟩
theorem BwAt.bind{ρ0 vs:List Nm}{w0 wr:World}{i:Nat}{D:List Deferred}{x:Nm}(h:BwAt mb tb bb ρ0 w0 vs i D wr)(hi:vs[i]?=some x)(hx:okK (0,x))(hlen:ρ0.length+i<1000000){u:World}(hu:Kn (fun _=>False) wr u) :
  Calls prog 67 #[.map (some tb),.agg #[.int .i64 0,.string (bs x)],.int .i64 ((ρ0.length+i:Nat):Int)] u fun e u'=>e=.returned (unbI u.heap.size)/\u'.heap[bb]?=some (.cells #[stepV mb,.map (some tb),.int .i64 ((ρ0.length+i:Nat):Int)] tyBld (0,0)) /\
   ∀u2,u2.heap.size=u'.heap.size->u2.os=u'.os->u2.tape=u'.tape->u2.output=u'.output->(∀k,k≠bb->u2.heap[k]?=u'.heap[k]?)->u2.heap[bb]?=some (.cells #[stepV mb,.map (some tb),.int .i64 ((ρ0.length+(i+1):Nat):Int)] tyBld (0,0))->BwAt mb tb bb ρ0 w0 vs (i+1) (unbDI u.heap.size::D) u2:=by
 have hbm:=h.bm
 have hlv:=h.lv
 have htk:vs.take (i+1)=vs.take i++[x]:=by rw[List.take_add_one,hi];rfl
 have hbt:binds ρ0 (vs.take (i+1))=x::binds ρ0 (vs.take i):=by rw[htk,binds_snoc]
 have hil:i<vs.length:=(List.getElem?_eq_some_iff.1 hi).1
 have hl0:(binds ρ0 (vs.take i)).length=ρ0.length+i:=by rw[binds_len,List.length_take];omega
 generalize binds ρ0 (vs.take i)=ρ at *
 have hbu:=hbm.stays hu
 obtain⟨n,f,hm,hf⟩:=hbu.tab
 have hmi:∀v,f (0,x)=some v->∃i,v=.int .i64 i:=fun v hv=>by
  rw[hf x hx]at hv
  cases hp:plOf ρ x with
  |none=>rw[hp]at hv;cases hv
  |some j=>rw[hp]at hv;cases hv;exact⟨_,rfl⟩
 refine(BindI_any hm hx hmi (m:=.int .i64 ((ρ0.length+i:Nat):Int)) ⟨_,rfl⟩).mono ?_
 rintro e u'⟨e1,⟨n',e2⟩,e3,e4,e5⟩
 have hnt:∀(k:Nat)(c:Array Value)(t:TypeId)(f:Nat×Nat),u.heap[k]?=some (.cells c t f)->u'.heap[k]?=u.heap[k]?:=fun k c t f hc=>e5.block k (lt_of_heap hc) (hbu.not_tb hc)
 refine⟨e1,(hnt _ _ _ _ hbu.bld).trans hbu.bld,fun u2 hs ho ht hout hr hh=>?_⟩
 have htb:tb≠bb:=fun e=>hbu.not_tb hbu.bld e.symm
 have hk1:Kn (fun k=>k=tb\/k=bb) wr u2:=by
  have hk0:Kn (fun k=>k=tb\/k=bb) wr u':=(hu.wide fun _ _ hh=>hh.elim).trans (e5.wide fun k _ hk=>inl hk)
  refine⟨ho.trans hk0.os,ht.trans hk0.tape,hout.trans hk0.output,by rw[hs];exact hk0.size,fun k hk hd=>?_⟩
  rw[hr k (fun e=>hd (inr e))]
  exact hk0.block k hk hd
 have hm2:MapHas okK kyV u2 tb n' (fun y=>if y=(0,x)then some (.int .i64 ((ρ0.length+i:Nat):Int))else f y):=e2.kept (hr tb htb)
 have hbm2:BM mb tb bb (x::ρ) (ρ0.length+(i+1)) u2:=by
  refine⟨hh,⟨n',_,hm2,fun v hv=>?_⟩,by omega⟩
  by_cases hvx:v=x
  ·subst hvx
   rw[if_pos rfl,plOf_here,hl0];rfl
  ·rw[if_neg (fun e=>hvx (by simpa using e)),plOf_there hvx]
   exact hf v hv
 have hbbl:bb<wr.heap.size:=lt_of_heap hbm.bld
 have htbl:tb<wr.heap.size:=hbm.tb_lt
 refine⟨by rw[hbt];exact hbm2,h.kn.trans hk1,fun tmps c K cs w7 hl hb7 hk7 hc7=>?_⟩
 rw[hbt]at hb7
 have hku:Kn (fun k=>k=tb\/k=bb) wr w7:=hk1.trans hk7
 have hu7:UnbI tb (0,x) (f (0,x)) u.heap.size w7:=e3.kept fun k hk1 hk2=>by
  have hsz:=hu.size
  rw[hk7.block k (by rw[hs];omega) (fun hd=>by rcases hd with hd|hd<;>omega),hr k (by omega)]
 obtain⟨n7,f7,hm7,hf7⟩:=hb7.tab
 unfold unbDI
 refine leaves_cons (f:=102) (by simp) (by simp[go_sem];rfl) ?_
 refine(BindI1_end (u:=.returning) hm7 hx hu7).mono ?_
 rintro e u8 w8⟨rfl,rfl,⟨n8,hm8⟩,ht8⟩
 have hk8:Kn (fun k=>k=tb\/k=bb) w7 w8:=(Kn.refl _ w7).turned ht8 (inl (inl rfl))
 refine hlv tmps c K cs w8 hl ⟨(turned_other ht8 hb7.bld).trans hb7.bld,⟨n8,_,hm8,fun v hv=>?_⟩,hb7.len⟩ (hku.trans hk8) (hc7.kept (hb7.kr hk8))
 by_cases hvx:v=x
 ·subst hvx
  rw[if_pos rfl]
  exact hf v hv
 ·rw[if_neg (fun e=>hvx (by simpa using e)),hf7 v hv,plOf_there hvx]
end
section
variable {mb tb bb:Nat}{ρ:List Nm}{a:Nat}{w w':World}
structure Fresh(w u:World):Prop where
 kn:Kn (fun _=>False) w u
 kr:KR 0 w u
theorem Fresh.refl(w:World):Fresh w w:=⟨Kn.refl _ _,KR.refl 0 w⟩
theorem Fresh.alloc{w u:World}(h:Fresh w u)(o:Obj):Fresh w (u.alloc o):=⟨h.kn.alloc o,h.kr.push (PEq.alloc _ o)⟩
theorem Fresh.trans{a b c:World}(h:Fresh a b)(k:Fresh b c):Fresh a c:=⟨h.kn.trans k.kn,h.kr.trans k.kr⟩
theorem mk_fun{K1:Nat}{cs1:Array Value}:Calls prog 108 #[.func (.func K1) #[] cs1] w fun e u=>e=.returned (.func (.func 147) #[] #[ptrV (w.heap.size)])/\u=(w.alloc (.cells #[.func (.func K1) #[] cs1] tyCode)):=by
 unfold ptrV
 go_enter func108,ntmps108
 go_wp2
 refine bodyPost_ret (v:=.func (.func 147) #[] #[.pointer (some ⟨w.heap.size,0,none⟩)]) (by simp[results,results108,go_sem]) rfl ⟨rfl,rfl⟩
theorem mk_fetch{K1:Nat}{cs1:Array Value}:Calls prog 160 #[.func (.func K1) #[] cs1] w fun e u=>e=.returned (.func (.func 216) #[] #[ptrV (w.heap.size)])/\u=(w.alloc (.cells #[.func (.func K1) #[] cs1] tyCode)):=by
 unfold ptrV
 go_enter func160,ntmps160
 go_wp2
 refine bodyPost_ret (v:=.func (.func 216) #[] #[.pointer (some ⟨w.heap.size,0,none⟩)]) (by simp[results,results160,go_sem]) rfl ⟨rfl,rfl⟩
theorem mk_let{K1 K2:Nat}{cs1 cs2:Array Value}:Calls prog 116 #[.func (.func K1) #[] cs1,.func (.func K2) #[] cs2] w fun e u=>e=.returned (.func (.func 165) #[] #[ptrV (w.heap.size),ptrV (w.heap.size+1)])/\u=((w.alloc (.cells #[.func (.func K1) #[] cs1] tyCode)).alloc (.cells #[.func (.func K2) #[] cs2] tyCode)):=by
 unfold ptrV
 go_enter func116,ntmps116
 go_wp2
 refine bodyPost_ret (v:=.func (.func 165) #[] #[.pointer (some ⟨w.heap.size,0,none⟩),.pointer (some ⟨w.heap.size+1,0,none⟩)]) (by simp[results,results116,go_sem]) rfl ⟨rfl,rfl⟩
theorem mk_rec{K1 K2:Nat}{cs1 cs2:Array Value}:Calls prog 115 #[.func (.func K1) #[] cs1,.func (.func K2) #[] cs2] w fun e u=>e=.returned (.func (.func 163) #[] #[ptrV (w.heap.size),ptrV (w.heap.size+1)])/\u=((w.alloc (.cells #[.func (.func K1) #[] cs1] tyCode)).alloc (.cells #[.func (.func K2) #[] cs2] tyCode)):=by
 unfold ptrV
 go_enter func115,ntmps115
 go_wp2
 refine bodyPost_ret (v:=.func (.func 163) #[] #[.pointer (some ⟨w.heap.size,0,none⟩),.pointer (some ⟨w.heap.size+1,0,none⟩)]) (by simp[results,results115,go_sem]) rfl ⟨rfl,rfl⟩
theorem mk_seq{K1 K2:Nat}{cs1 cs2:Array Value}:Calls prog 71 #[.func (.func K1) #[] cs1,.func (.func K2) #[] cs2] w fun e u=>e=.returned (.func (.func 104) #[] #[ptrV (w.heap.size),ptrV (w.heap.size+1)])/\u=((w.alloc (.cells #[.func (.func K1) #[] cs1] tyCode)).alloc (.cells #[.func (.func K2) #[] cs2] tyCode)):=by
 unfold ptrV
 go_enter func71,ntmps71
 go_wp2
 refine bodyPost_ret (v:=.func (.func 104) #[] #[.pointer (some ⟨w.heap.size,0,none⟩),.pointer (some ⟨w.heap.size+1,0,none⟩)]) (by simp[results,results71,go_sem]) rfl ⟨rfl,rfl⟩
theorem mk_set{K1 K2:Nat}{cs1 cs2:Array Value}:Calls prog 159 #[.func (.func K1) #[] cs1,.func (.func K2) #[] cs2] w fun e u=>e=.returned (.func (.func 213) #[] #[ptrV (w.heap.size),ptrV (w.heap.size+1)])/\u=((w.alloc (.cells #[.func (.func K1) #[] cs1] tyCode)).alloc (.cells #[.func (.func K2) #[] cs2] tyCode)):=by
 unfold ptrV
 go_enter func159,ntmps159
 go_wp2
 refine bodyPost_ret (v:=.func (.func 213) #[] #[.pointer (some ⟨w.heap.size,0,none⟩),.pointer (some ⟨w.heap.size+1,0,none⟩)]) (by simp[results,results159,go_sem]) rfl ⟨rfl,rfl⟩
theorem mk_choice{K1 K2 K3:Nat}{cs1 cs2 cs3:Array Value}:Calls prog 158 #[.func (.func K1) #[] cs1,.func (.func K2) #[] cs2,.func (.func K3) #[] cs3] w fun e u=>e=.returned (.func (.func 211) #[] #[ptrV (w.heap.size),ptrV (w.heap.size+1),ptrV (w.heap.size+1+1)])/\u=(((w.alloc (.cells #[.func (.func K1) #[] cs1] tyCode)).alloc (.cells #[.func (.func K2) #[] cs2] tyCode)).alloc (.cells #[.func (.func K3) #[] cs3] tyCode)):=by
 unfold ptrV
 go_enter func158,ntmps158
 go_wp2
 refine bodyPost_ret (v:=.func (.func 211) #[] #[.pointer (some ⟨w.heap.size,0,none⟩),.pointer (some ⟨w.heap.size+1,0,none⟩),.pointer (some ⟨w.heap.size+1+1,0,none⟩)]) (by simp[results,results158,go_sem]) rfl ⟨rfl,rfl⟩
theorem mk_apply{K1 K2:Nat}{cs1 cs2:Array Value}:Calls prog 157 #[.func (.func 40) #[ptrV mb] #[],.func (.func K1) #[] cs1,.func (.func K2) #[] cs2] w fun e u=>e=.returned (.func (.func 208) #[] #[ptrV (w.heap.size+1),ptrV (w.heap.size+1+1),ptrV (w.heap.size)])/\u=(((w.alloc (.cells #[.func (.func 40) #[ptrV mb] #[]] 1)).alloc (.cells #[.func (.func K1) #[] cs1] tyCode)).alloc (.cells #[.func (.func K2) #[] cs2] tyCode)):=by
 unfold ptrV
 go_enter func157,ntmps157
 go_wp2
 refine bodyPost_ret (v:=.func (.func 208) #[] #[.pointer (some ⟨w.heap.size+1,0,none⟩),.pointer (some ⟨w.heap.size+1+1,0,none⟩),.pointer (some ⟨w.heap.size,0,none⟩)]) (by simp[results,results157,go_sem]) rfl ⟨rfl,rfl⟩
theorem mk_calc{K1 K2:Nat}{cs1 cs2:Array Value}{Ko:Nat}:Calls prog 161 #[.func (.func Ko) #[] #[],.func (.func K1) #[] cs1,.func (.func K2) #[] cs2] w fun e u=>e=.returned (.func (.func 218) #[] #[ptrV (w.heap.size+1),ptrV (w.heap.size+1+1),ptrV (w.heap.size)])/\u=(((w.alloc (.cells #[.func (.func Ko) #[] #[]] tyOper)).alloc (.cells #[.func (.func K1) #[] cs1] tyCode)).alloc (.cells #[.func (.func K2) #[] cs2] tyCode)):=by
 unfold ptrV
 go_enter func161,ntmps161
 go_wp2
 refine bodyPost_ret (v:=.func (.func 218) #[] #[.pointer (some ⟨w.heap.size+1,0,none⟩),.pointer (some ⟨w.heap.size+1+1,0,none⟩),.pointer (some ⟨w.heap.size,0,none⟩)]) (by simp[results,results161,go_sem]) rfl ⟨rfl,rfl⟩
theorem mk_always{t:TypeId}{v:Value}:Calls prog 69 #[.iface t v] w fun e u=>e=.returned (.func (.func 103) #[] #[ptrV (w.heap.size)])/\u=(w.alloc (.cells #[.iface t v] tyVal)):=by
 unfold ptrV
 go_enter func69,ntmps69
 go_wp2
 refine bodyPost_ret (v:=.func (.func 103) #[] #[.pointer (some ⟨w.heap.size,0,none⟩)]) (by simp[results,results69,go_sem]) rfl ⟨rfl,rfl⟩
theorem mk_variable{n:Int}:Calls prog 107 #[.int .i64 n] w fun e u=>e=.returned (.func (.func 145) #[] #[ptrV (w.heap.size)])/\u=(w.alloc (.cells #[.int .i64 n] 3)):=by
 unfold ptrV
 go_enter func107,ntmps107
 go_wp2
 refine bodyPost_ret (v:=.func (.func 145) #[] #[.pointer (some ⟨w.heap.size,0,none⟩)]) (by simp[results,results107,go_sem]) rfl ⟨rfl,rfl⟩
end
theorem under_strs:prog.underlying 22=some (.slice tyStr):=by kernel_rfl
theorem info_strs:(prog.info? tyStr).map (fun i=>(i.zero,i.size,i.bytes))=some (some (.string ⟨#[]⟩),1,16):=by kernel_rfl
theorem run_append_st{w:World}{base:Nat}{v:Value}{ns:List Nm}{ty:TypeId}(k:Nm)(hown:w.ownsRow base tyStr 1 v ns.length (ns.map strV))(hn:ns.length<=100000000)(hb:base<=w.heap.size) :
  ∃v' w',(Builtin.append_ #[22,22] ty #[v,.slice (some ⟨w.heap.size,0,none⟩) 1 1]).run prog (w.alloc (.cells #[.string (bs k)] tyStr))=.ok v' w' /\
   w'.ownsRow base tyStr 1 v' (ns++[k]).length ((ns++[k]).map strV)/\(w.alloc (.cells #[.string (bs k)] tyStr)).grownBy w' v.ownBlock:=by
 obtain⟨i0,hi,hz0,hz1,hz2⟩:=info_parts info_strs
 have hown1:=hown.alloc (.cells #[.string (bs k)] tyStr)
 have hnews:∀j u,[Value.string (bs k)][j]?=some u->(w.alloc (.cells #[.string (bs k)] tyStr)).cell? ((⟨w.heap.size,0,none⟩:Addr).add j)=some u:=fun j u hj=>cell_new rfl (by simpa using hj)
 have h1:∀u∈[Value.string (bs k)],u.oneCell'=true:=by intro u hu;simp at hu;subst hu;rfl
 obtain⟨v',w',hr,ho',hg',_⟩:=run_append_own (P:=prog) (w.alloc (.cells #[.string (bs k)] tyStr)) base 22 ty tyStr i0 (.string ⟨#[]⟩) 1 16 under_strs hi hz0 hz1 hz2 rfl (by decide) v ns.length (ns.map strV) hown1 ⟨w.heap.size,0,none⟩ 1 1 [.string (bs k)] rfl hnews h1 (by unfold maxLen;omega) (by omega) (by simp;omega)
 have ho2:w'.ownsRow base tyStr 1 v' (ns++[k]).length ((ns++[k]).map strV):=by
  rw[length_append,map_append];exact ho'
 exact⟨v',w',hr,ho2,hg'⟩
section
variable {ad:List Nat}{ρ:Env}{tb:Nat}{w w':World}{nb:Nat}{txt:Nm}
theorem Tab.put(h:Tab ad tb ρ w){x:Ky}(hx:okK x){m:Mg}{v:Value}(hv:MgAt ad w m v):∃w',(Instr.mapUpdate tyTab (.map (some tb)) (.agg #[.int .i64 x.1,.string (bs x.2)]) v).run prog w=.ok () w'/\Tab ad tb ((x,m)::ρ) w'/\w.mapTurned w' tb:=by
 obtain⟨n,f,h1,h2⟩:=h
 obtain⟨w',hrun,hm,ht⟩:=h1.store ky_ops under_tab (v:=v) hx trivial (fun _ _=>trivial)
 refine⟨w',hrun,⟨_,_,hm,fun y hy=>?_⟩,ht⟩
 rw[Env.get]
 by_cases hyx:y=x
 ·rw[if_pos hyx]
  simp only[if_pos hyx]
  exact inr ⟨m,v,rfl,rfl,hv.turned ht⟩
 ·rw[if_neg hyx]
  simp only[if_neg hyx]
  rcases h2 y hy with h3|⟨m',v',h3,h4,h5⟩
  ·exact inl h3
  ·exact inr ⟨m',v',h3,h4,h5.turned ht⟩
theorem Tab.stays(h:Tab ad tb ρ w)(hk:Kn (fun _=>False) w w'):Tab ad tb ρ w':=by
 obtain⟨n,f,h1,_⟩:=id h
 have:=h.kept (l:=[]) (w':=w') (hk.block tb h1.lt id) (fun k c f hc=>hk.block k (lt_of_heap hc) id) (fun k c f hc=>hk.block k (lt_of_heap hc) id) (fun k c f hc=>hk.block k (lt_of_heap hc) id)
 rw[append_nil]at this;exact this
theorem mgType_at(n:Nat)(w:World):MgAt ad w (Mg.type n) (.agg #[.pointer none,.string ⟨#[]⟩,.slice none 0 0,.slice none 0 0,.int .i64 0,.int .i64 n]):=
 ⟨.slice none 0 0,.slice none 0 0,[],rfl,(fun t' e=>by simp[Mg.type]at e),World.ownsRow_nil _ _ _ _,World.ownsRow_nil _ _ _ _,by simp[Mg.type,Vr.zero,NMem.NMems]⟩
end
abbrev tyLook:TypeId:=126
structure LkAt(ad:List Nat)(ρ:Env)(tb lb:Nat)(s:Lk)(w:World):Prop where
 tab:Tab ad tb ρ w
 lk:w.heap[lb]?=some (.cells #[.map (some tb),.bool s.wn,.bool s.wc] tyLook (0,0))
def LkA(ad:List Nat)(ρ:Env)(tb lb:Nat)(s':Lk)(w:World)(e:Ending)(w':World):Prop:=
 e=.returned (.tuple #[])/\LkAt ad ρ tb lb s' w'/\Kn (fun k=>k=tb\/k=lb) w w'
def LkB(ad:List Nat)(ρ:Env)(tb lb:Nat)(s':Lk)(w:World)(e:Ending)(w':World):Prop:=
 e=.returned (.tuple #[])/\LkAt ad ρ tb lb s' w'/\Kn (fun k=>k=lb) w w'
theorem LkB.a{ad:List Nat}{ρ:Env}{tb lb:Nat}{s':Lk}{w:World}(e:Ending)(w':World)(h:LkB ad ρ tb lb s' w e w'):LkA ad ρ tb lb s' w e w':=⟨h.1,h.2.1,h.2.2.wide fun _ _ e=>inr e⟩
section
variable {ad:List Nat}{ρ:Env}{tb lb:Nat}{s:Lk}{w w':World}{nb:Nat}{txt:Nm}
theorem LkAt.stays(h:LkAt ad ρ tb lb s w)(hk:Kn (fun _=>False) w w'):LkAt ad ρ tb lb s w':=⟨h.tab.stays hk,(hk.block lb (lt_of_heap h.lk) id).trans h.lk⟩
theorem LkAt.not_tb(h:LkAt ad ρ tb lb s w){k:Nat}{c:Array Value}{t:TypeId}{f:Nat×Nat}(hc:w.heap[k]?=some (.cells c t f)):k≠tb:=fun e=>by
 obtain⟨n,f,⟨es,cl,hb,_⟩,_⟩:=h.tab
 subst e;rw[hc]at hb;cases hb
theorem LkAt.not(h:LkAt ad ρ tb lb s w){k:Nat}{c:Array Value}{t:TypeId}{f:Nat×Nat}(hc:w.heap[k]?=some (.cells c t f))(ht:t≠tyLook):¬(k=tb\/k=lb):=by
 rintro (e|e)
 ·exact h.not_tb hc e
 ·subst e;rw[h.lk]at hc;exact ht (cells_ty hc).symm
theorem LkAt.tree(h:LkAt ad ρ tb lb s w)(hk:Kn (fun k=>k=tb\/k=lb) w w'){nd:Nd}(hn:NMem w nd nb):NMem w' nd nb:=
 NMem.kept (fun k c f hc=>hk.block k (lt_of_heap hc) (h.not hc (by decide))) (fun k c f hc=>hk.block k (lt_of_heap hc) (h.not hc (by decide))) nd nb hn
theorem LkAt.flag(h:LkAt ad ρ tb lb s w)(s':Lk){i:Nat}{v:Value}(hv:(#[Value.map (some tb),.bool s.wn,.bool s.wc]).setIfInBounds i v=#[.map (some tb),.bool s'.wn,.bool s'.wc]):LkAt ad ρ tb lb s' (w.setCell ⟨lb,i,none⟩ v)/\Kn (fun k=>k=lb) w (w.setCell ⟨lb,i,none⟩ v):=by
 have hk:Kn (fun k=>k=lb) w (w.setCell ⟨lb,i,none⟩ v):=(Kn.refl (fun k=>k=lb) w).set (p:=⟨lb,i,none⟩) (inl rfl) v
 obtain⟨n,f,h1,_⟩:=id h.tab
 have hb:∀(k:Nat)(c:Array Value)(t:TypeId)(f:Nat×Nat),t≠tyLook->w.heap[k]?=some (.cells c t f)->(w.setCell ⟨lb,i,none⟩ v).heap[k]?=w.heap[k]?:=fun k c t f ht hc=>hk.block k (lt_of_heap hc) fun e=>h.not hc ht (inr e)
 refine⟨⟨?_,?_⟩,hk⟩
 ·have:=h.tab.kept (l:=[]) (w':=w.setCell ⟨lb,i,none⟩ v) (Below.heap_setCell _ _ _ _ fun e=>by
   obtain⟨es,cl,hm,_⟩:=h1
   rw[e,h.lk]at hm;cases hm) (fun k c f hc=>hb k c _ f (by decide) hc) (fun k c f hc=>hb k c _ f (by decide) hc) (fun k c f hc=>hb k c _ f (by decide) hc)
  rw[append_nil]at this;exact this
 ·rw[heap_setCell_same _ _ _ _ _ _ h.lk,hv]
theorem refuseName_lb(b:Bool)(h:LkAt ad ρ tb lb s w):Calls prog 131 #[ptrV lb,.bool b] w (LkB ad ρ tb lb (s.name b) w):=by
 have c1:w.cell? ⟨lb,1,none⟩=some (.bool s.wn):=by simp[World.cell?,h.lk]
 have f1:w.frozen? ⟨lb,1,none⟩=false:=frozen_of_row _ _ _ _ _ h.lk
 obtain⟨q1,q2⟩:=h.flag (s.name b) (i:=1) (v:=.bool (s.wn || b)) rfl
 have hq:LkB ad ρ tb lb (s.name b) w (.returned (.tuple #[])) (w.setCell ⟨lb,1,none⟩ (.bool (s.wn || b))):=⟨rfl,q1,q2⟩
 have HQ:=hide hq
 clear hq q1 q2 h
 generalize LkB ad ρ tb lb (s.name b) w=Q at *
 generalize s.wn=x at *
 unfold ptrV at *
 cases x with
 |true=>
  simp only[Bool.true_or]at HQ
  go_enter func131,ntmps131
  go_wp2
  refine bodyPost_end (v:=.tuple #[]) (by simp[results,results131,go_sem]) rfl HQ.out
 |false=>
  simp only[Bool.false_or]at HQ
  go_enter func131,ntmps131
  go_wp2
  refine bodyPost_end (v:=.tuple #[]) (by simp[results,results131,go_sem]) rfl HQ.out
theorem refuseName_any(b:Bool)(h:LkAt ad ρ tb lb s w):Calls prog 131 #[ptrV lb,.bool b] w (LkA ad ρ tb lb (s.name b) w):=(refuseName_lb b h).mono LkB.a
end
section
variable {ad:List Nat}{ρ ρ0:Env}{tb lb:Nat}{s s':Lk}{w w0 w':World}{nb:Nat}{txt:Nm}
theorem Tab.unbound{x:Ky}{m:Mg}{w1 w7 w8:World}{n8:Nat}{f f7:Ky->Option Value}(hx:okK x)
  (hf7:∀y,okK y->(Env.get ((x,m)::ρ) y=none/\f7 y=none)\/∃m' v,Env.get ((x,m)::ρ) y=some m'/\f7 y=some v/\MgAt ad w7 m' v)
  (hf:∀x,okK x->(ρ.get x=none/\f x=none)\/∃m v,ρ.get x=some m/\f x=some v/\MgAt ad w1 m v) (hk:∀(k:Nat)(c:Array Value)(t:TypeId)(f:Nat×Nat),t=tyStr\/t=tyTree\/t=tyTreeP->w1.heap[k]?=some (.cells c t f)->w7.heap[k]?=w1.heap[k]?)
  (hm8:MapHas okK kyV w8 tb n8 (fun y=>if y=x then f x else f7 y)) (ht:w7.mapTurned w8 tb):Tab ad tb ρ w8:=by
 refine⟨n8,_,hm8,fun y hy=>?_⟩
 by_cases hyx:y=x
 ·subst hyx
  simp only[if_true]
  rcases hf y hy with h1|⟨m',v',h1,h2,h3⟩
  ·exact inl h1
  ·exact inr ⟨m',v',h1,h2,MgAt.turned (h3.kept (fun _ _=>rfl) (le_refl _) (fun k c f hc=>hk k c _ f (inl rfl) hc) (fun k c f hc=>hk k c _ f (inr (inl rfl)) hc) (fun k c f hc=>hk k c _ f (inr (inr rfl)) hc)) ht⟩
 ·simp only[if_neg hyx]
  rcases hf7 y hy with⟨h1,h2⟩|⟨m',v',h1,h2,h3⟩
  ·rw[Env.get,if_neg hyx]at h1;exact inl ⟨h1,h2⟩
  ·rw[Env.get,if_neg hyx]at h1;exact inr ⟨m',v',h1,h2,h3.turned ht⟩
theorem mgZero_at(w:World):MgAt ad w Mg.zero (.agg #[.pointer none,.string ⟨#[]⟩,.slice none 0 0,.slice none 0 0,.int .i64 0,.int .i64 0]):=mgType_at 0 w
structure WiAt(ad:List Nat)(ρ0:Env)(tb lb:Nat)(s:Lk)(w0:World)(vs:List Nm)(i:Nat)(D:List Deferred)(wr:World):Prop where
 lk:LkAt ad (bindAll ρ0 (vs.take i) Mg.zero) tb lb s wr
 kn:Kn (fun k=>k=tb\/k=lb) w0 wr
 lv:∀s' e w7 tmps,LkA ad (bindAll ρ0 (vs.take i) Mg.zero) tb lb s' wr e w7->Leaves prog f92 tmps (LkA ad ρ0 tb lb s' w0) D .returning w7
theorem WiAt.start{vs:List Nm}(h:LkAt ad ρ0 tb lb s w0):WiAt ad ρ0 tb lb s w0 vs 0 [] w0:=by
 refine⟨by simpa [bindAll]using h,Kn.refl _ _,fun s' e w7 tmps ha=>?_⟩
 have ha:LkA ad ρ0 tb lb s' w0 e w7:=by simpa [bindAll]using ha
 obtain⟨rfl,_⟩:=id ha
 simp only[Leaves]
 exact⟨.tuple #[],by simp[results,results92,go_sem],ha⟩
theorem bindAll_snoc(ρ:Env)(vs:List Nm)(x:Nm)(m:Mg):bindAll ρ (vs++[x]) m=((0,x),m)::bindAll ρ vs m:=by
 unfold bindAll;rw[List.foldl_append];rfl
theorem WiAt.bind{vs:List Nm}{i:Nat}{D:List Deferred}{wr:World}{x:Nm}(h:WiAt ad ρ0 tb lb s w0 vs i D wr)(hi:vs[i]?=some x)(hx:okK (0,x)){u:World}(hu:Kn (fun _=>False) wr u) :
  Calls prog 134 #[.map (some tb),.agg #[.int .i64 0,.string (bs x)],.agg #[.pointer none,.string ⟨#[]⟩,.slice none 0 0,.slice none 0 0,.int .i64 0,.int .i64 0]] u fun e u'=>e=.returned (unbV u.heap.size)/\WiAt ad ρ0 tb lb s w0 vs (i+1) (unbD u.heap.size::D) u':=by
 have hlk:=h.lk
 have hlv:=h.lv
 have htk:vs.take (i+1)=vs.take i++[x]:=by rw[List.take_add_one,hi];rfl
 have hbt:bindAll ρ0 (vs.take (i+1)) Mg.zero=((0,x),Mg.zero)::bindAll ρ0 (vs.take i) Mg.zero:=by rw[htk,bindAll_snoc]
 generalize bindAll ρ0 (vs.take i) Mg.zero=ρ at *
 obtain⟨n,f,hm,hf,hsix⟩:=hlk.tab.six
 have hmk:MapHas okK kyV u tb n f:=hm.kept (hu.block tb hm.lt id)
 have hlu:=hlk.stays hu
 have hfu:∀x,okK x->(ρ.get x=none/\f x=none)\/∃m v,ρ.get x=some m/\f x=some v/\MgAt ad u m v:=fun x hx2=>by
  rcases hf x hx2 with h1|⟨m',v',h1,h2,h3⟩
  ·exact inl h1
  ·exact inr ⟨m',v',h1,h2,h3.kept (fun _ _=>rfl) (le_refl _) (fun k c f hc=>hu.block k (lt_of_heap hc) id) (fun k c f hc=>hu.block k (lt_of_heap hc) id) (fun k c f hc=>hu.block k (lt_of_heap hc) id)⟩
 refine(Bind_any hmk hx (fun v hv=>hsix _ hx v hv) (m:=.agg #[.pointer none,.string ⟨#[]⟩,.slice none 0 0,.slice none 0 0,.int .i64 0,.int .i64 0]) ⟨_,_,_,_,_,_,_,_,_,_,rfl⟩).mono ?_
 rintro e u'⟨e1,⟨n',e2⟩,e3,e4,e5⟩
 have hnt:∀(k:Nat)(c:Array Value)(t:TypeId)(f:Nat×Nat),u.heap[k]?=some (.cells c t f)->u'.heap[k]?=u.heap[k]?:=fun k c t f hc=>e5.block k (lt_of_heap hc) (hlu.not_tb hc)
 have hlb':u'.heap[lb]?=some (.cells #[.map (some tb),.bool s.wn,.bool s.wc] tyLook (0,0)):=(hnt _ _ _ _ hlu.lk).trans hlu.lk
 have hl':LkAt ad (((0,x),Mg.zero)::ρ) tb lb s u':=by
  refine⟨⟨n',_,e2,fun y hy=>?_⟩,hlb'⟩
  rw[Env.get]
  by_cases hyx:y=(0,x)
  ·rw[if_pos hyx]
   simp only[if_pos hyx]
   exact inr ⟨Mg.zero,_,rfl,rfl,mgZero_at u'⟩
  ·rw[if_neg hyx]
   simp only[if_neg hyx]
   rcases hfu y hy with h1|⟨m',v',h1,h2,h3⟩
   ·exact inl h1
   ·exact inr ⟨m',v',h1,h2,h3.kept (fun _ _=>rfl) (le_refl _) (fun k c f hc=>hnt k c _ f hc) (fun k c f hc=>hnt k c _ f hc) (fun k c f hc=>hnt k c _ f hc)⟩
 have hk1:Kn (fun k=>k=tb\/k=lb) wr u':=(hu.wide fun _ _ hh=>hh.elim).trans (e5.wide fun k _ hk=>inl hk)
 have hlbl:lb<wr.heap.size:=lt_of_heap hlk.lk
 have htbl:tb<wr.heap.size:=hm.lt
 refine⟨e1,by rw[hbt];exact hl',h.kn.trans hk1,fun s' e w7 tmps ha=>?_⟩
 rw[hbt]at ha
 obtain⟨rfl,a2,a3⟩:=ha
 have hk7:Kn (fun k=>k=tb\/k=lb) wr w7:=hk1.trans a3
 have hu7:Unb tb (0,x) (f (0,x)) u.heap.size w7:=e3.kept fun k hk1 hk2=>a3.block k (by omega) fun hd=>by
  have:=hu.size
  rcases hd with hd|hd<;>omega
 obtain⟨n7,f7,hm7,hf7⟩:=a2.tab
 unfold unbD
 refine leaves_cons (f:=179) (by simp) (by simp[go_sem];rfl) ?_
 refine(Bind1_end (u:=.returning) hm7 hx hu7).mono ?_
 rintro e u8 w8⟨rfl,rfl,⟨n8,hm8⟩,ht8⟩
 refine hlv s' (.returned (.tuple #[])) w8 tmps ⟨rfl,⟨Tab.unbound hx hf7 hf (fun k c t f ht2 hc=>hk7.block k (lt_of_heap hc) (hlk.not hc (by rcases ht2 with rfl|rfl|rfl<;>decide))) hm8 ht8,(turned_other ht8 a2.lk).trans a2.lk⟩,hk7.turned ht8 (inl (inl rfl))⟩
end
section
variable {ad:List Nat}{ρ:Env}{tb lb:Nat}{s s':Lk}{w w':World}{nb:Nat}{txt:Nm}
theorem wi_facts{vs:List Nm}{a:Option Addr}{n c:Nat}(hr:w.ownsRow 0 tyStr 1 (.slice a n c) vs.length (vs.map strV))(hok:∀x∈vs,okK (0,x))(h:LkAt ad ρ tb lb s w)
  (hE:∀u,Kn (fun k=>k=tb\/k=lb) w u->LkAt ad (bindAll ρ vs Mg.zero) tb lb s u->Calls prog 93 #[ptrV lb,ptrV nb] u (LkA ad (bindAll ρ vs Mg.zero) tb lb s' u)) :
  ∃WI:Nat->List Deferred->World->Prop,n<=9223372036854775807/\WI 0 [] w /\
   (∀i D wr,WI i D wr->i<n->∃g tx,a=some ⟨g,0,none⟩/\wr.cell? ⟨g,i,none⟩=some (.string tx)/\g<wr.heap.size/\∀u,Kn (fun _=>False) wr u->u.cell? ⟨lb,0,none⟩=some (.map (some tb)) /\
    Calls prog 134 #[.map (some tb),.agg #[.int .i64 0,.string tx],.agg #[.pointer none,.string ⟨#[]⟩,.slice none 0 0,.slice none 0 0,.int .i64 0,.int .i64 0]] u fun e u'=>∃W,e=.returned (unbV W)/\u'.cell? ⟨lb,0,none⟩=some (.map (some tb))/\Hid (WI (i+1) (unbD W::D) u')) /\
   ∀D wr,WI n D wr->Calls prog 93 #[ptrV lb,ptrV nb] wr fun e w7=>e=.returned (.tuple #[])/\∀tmps,Leaves prog f92 tmps (LkA ad ρ tb lb s' w) D .returning w7:=by
 obtain⟨rfl,hav⟩:n=vs.length/\(0<vs.length->∃g',a=some ⟨g',0,none⟩):=by
  rcases ownsRow_forms hr with⟨h,h0⟩|⟨g,cap,h⟩
  ·cases h;exact⟨h0.symm,fun h=>by omega⟩
  ·cases h;exact⟨rfl,fun _=>⟨g,rfl⟩⟩
 refine⟨fun i D wr=>WiAt ad ρ tb lb s w vs i D wr,ownsRow_max hr,WiAt.start h,?_,?_⟩
 ·intro i D wr hat hi
  have hv:vs[i]?=some vs[i]:=List.getElem?_eq_getElem hi
  have hmem:=List.mem_of_getElem? hv
  generalize vs[i]=x at hv hmem
  obtain⟨g,rfl⟩:=hav (by omega)
  have hrow:wr.ownsRow 0 tyStr 1 (.slice (some ⟨g,0,none⟩) vs.length c) vs.length (vs.map strV):=ownsRow_kept hr fun q c f _ hc=>hat.kn.block q (lt_of_heap hc) (h.not hc (by decide))
  refine⟨g,bs x,rfl,?_,(hrow.lt g rfl).2,fun u hu=>⟨by simp[World.cell?,(hat.lk.stays hu).lk],(hat.bind hv (hok x hmem) hu).mono ?_⟩⟩
  ·rw[hrow.cellAt i (by omega),List.getElem?_map,hv];rfl
  ·rintro e u'⟨e1,e2⟩
   exact⟨_,e1,by simp[World.cell?,e2.lk.lk],hide e2⟩
 ·intro D wr hat
  have hl:=hat.lk
  have hlv:=hat.lv
  rw[List.take_length]at hl hlv
  refine(hE wr hat.kn hl).mono fun e w7 ha=>?_
  exact⟨ha.1,fun tmps=>hlv s' e w7 tmps ha⟩
theorem withinLook_of{vs:List Nm}{a:Option Addr}{n c:Nat}(hr:w.ownsRow 0 tyStr 1 (.slice a n c) vs.length (vs.map strV))(hok:∀x∈vs,okK (0,x))(h:LkAt ad ρ tb lb s w)
  (hE:∀u,Kn (fun k=>k=tb\/k=lb) w u->LkAt ad (bindAll ρ vs Mg.zero) tb lb s u->Calls prog 93 #[ptrV lb,ptrV nb] u (LkA ad (bindAll ρ vs Mg.zero) tb lb s' u)) :
  Calls prog 92 #[ptrV lb,ptrV nb,.slice a n c] w (LkA ad ρ tb lb s' w):=by
 obtain⟨WI,hn,h0,hs,he⟩:=wi_facts hr hok h hE
 have H0:=hide h0
 have HS:=hide hs
 have HE:=hide he
 have hK:=fun(tx:ByteArray) (u:World)=>key0_any tx u
 have HK:=hide hK
 clear h0 hs he hr hok h hE hK
 generalize LkA ad ρ tb lb s' w=Q at *
 unfold ptrV at *
 go_enter_defers func92,ntmps92
 go_wp2_with fail
 refine wp_loop_ghost_k (fun gk a' w'=>∃(i:Nat) (D:List Deferred) (u7 u11 u12 u13 u14 u15 u16 u17 u18 u19 u20 u21 u22:Value),i+gk=n/\Hid (WI i D w')/\a'={ tmps:=#[.pointer (some ⟨lb,0,none⟩),.pointer (some ⟨nb,0,none⟩),.slice a n c,undef,undef,undef,undef,u7,.slice a n c,.int .i64 n,.int .i64 (i:Nat),u11,u12,u13,u14,u15,u16,u17,u18,u19,u20,u21,u22,undef,undef,undef],defers:=D }) n ⟨0,[],undef,undef,undef,undef,undef,undef,undef,undef,undef,undef,undef,undef,undef,by omega,H0,rfl⟩ ?_
 rintro gk a' wr⟨i,D,u7,u11,u12,u13,u14,u15,u16,u17,u18,u19,u20,u21,u22,hi,HR,rfl⟩ J KK hJ hKK
 clear H0
 by_cases hlt:i<n
 ·obtain⟨g',tx,rfl,e1,e3,hu⟩:=HS.out i D wr HR.out hlt
  have hlt3:(i:Int)<(n:Int):=by omega
  have hal:∀u o u',Kn (fun _=>False) wr u->u'=World.alloc u o->Kn (fun _=>False) wr u':=fun u o u' hu e=>by
   subst e;exact hu.alloc o
  have HV:=hide (Kn.drewF wr)
  have HAL:=hide hal
  have HX:=hide hu
  have HJ:=hide hJ
  clear hu hal HS HE HR
  generalize Kn (fun _=>False) wr=V at *
  have hz:=HX.out _ HV.out
  obtain⟨c1a,_⟩:=hz
  unfold unbV at *
  go_wp2_with fail
  go_region_held3 (fun w'=>w'.cell? ⟨lb,0,none⟩=some (.map (some tb))) (exact c1a)
   (first|(go_at_call 25;refine(HK.out _ _).mono ?_;rintro e u⟨rfl,hu⟩;have HV:=hide (HAL.out _ _ _ HV.out hu);have hz:=HX.out _ HV.out;obtain⟨c1a,hb⟩:=hz;have HB:=hide hb;clear hu hb)|(go_at_call 134;refine(HB.out).mono ?_;rintro e u6⟨W,rfl,c1a,HRN⟩))
  all_goals
   go_wp2_with fail
   rw[show (i:Int)+1=((i+1:Nat):Int) by omega]
   exact Handed.intro (n-(i+1)) (by omega) (HJ.out _ _ _ ⟨i+1,unbD W::D,_,_,_,_,_,_,_,_,_,_,_,_,_,by omega,HRN,rfl⟩)
 ·have hin:i=n:=by omega
  subst hin
  have hlt3:¬(i:Int)<(i:Int):=by omega
  have HC:=hide (HE.out D wr HR.out)
  clear HS HE HR
  go_wp2_with fail
  refine(HC.out).mono ?_;rintro e w7⟨rfl,hl⟩
  have HL:=hide hl
  clear hl HC
  go_wp2
  exact HL.out _
end
end Go.Proofs.YtbkiipiocpnnnaaGreatDoor
