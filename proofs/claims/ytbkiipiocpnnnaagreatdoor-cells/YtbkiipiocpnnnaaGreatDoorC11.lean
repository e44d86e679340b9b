import Derived.Test.YtbkiipiocpnnnaaGreatDoorC10
import Derived.Deep.RegionHeld2
import Derived.Deep.RegionWith
import Derived.Deep.RegionLaw
set_option linter.all false
set_option maxHeartbeats 40000000
set_option maxRecDepth 100000
open Go.Proofs.Tryz
open Or (inl inr)
open List (map_cons)
namespace Go.Proofs.YtbkiipiocpnnnaaGreatDoor
open Go.RowKit
theorem with_any{v:Value}(p:Option Addr)(hv:IfV v)(w:World):Calls prog 45 #[.pointer p,v] w fun e w'=>e=.returned (ptrV w.heap.size)/\w'=w.alloc (.cells #[v,.pointer p] tyScope):=by
 unfold ptrV
 rcases hv with⟨t,x,rfl⟩|rfl
 all_goals
  go_enter func45,ntmps45
  go_wp2
  refine bodyPost_ret (v:=.pointer (some ⟨w.heap.size,0,none⟩)) (by simp[results,results45,go_sem]) rfl ⟨rfl,rfl⟩
theorem later_any(K:Nat)(cs:Array Value)(w:World):Calls prog 150 #[.func (.func K) #[] cs] w fun e w'=>e=.returned (.func (.func 197) #[] #[ptrV w.heap.size])/\w'=w.alloc (.cells #[.func (.func K) #[] cs] tyNext):=by
 unfold ptrV
 go_enter func150,ntmps150
 go_wp2
 refine bodyPost_ret (v:=.func (.func 197) #[] #[.pointer (some ⟨w.heap.size,0,none⟩)]) (by simp[results,results150,go_sem]) rfl ⟨rfl,rfl⟩
theorem as_bool(v:Value)(w:World):(Instr.typeAssert (.iface 4 v) 145 4 false).run prog w=.ok v w:=by kernel_rfl
theorem as_int(v:Value)(w:World):(Instr.typeAssert (.iface 2 v) 145 2 false).run prog w=.ok v w:=by kernel_rfl
theorem as_cell(v:Value)(w:World):(Instr.typeAssert (.iface 150 v) 145 150 false).run prog w=.ok v w:=by kernel_rfl
theorem as_fn(v:Value)(w:World):(Instr.typeAssert (.iface 115 v) 145 115 false).run prog w=.ok v w:=by kernel_rfl
section
variable {b1 b2 b3 b4 K K':Nat}{p:Option Addr}{cs cs':Array Value}{x kv:Value}{w:World}{P:Value->World->Prop}
theorem w_later1(hx:IfV x)(hp:P (.func (.func 198) #[] #[ptrV b1,ptrV w.heap.size]) (w.alloc (.cells #[x] tyVal))) :
  Calls prog 197 #[x,ptrV b1] w (RQ P):=by
 have HP:=hide hp
 clear hp
 unfold ptrV at *
 rcases hx with⟨tx,vx,rfl⟩|rfl
 all_goals
  go_enter func197,ntmps197
  go_wp2
  refine bodyPost_ret (v:=.func (.func 198) #[] #[.pointer (some ⟨b1,0,none⟩),.pointer (some ⟨w.heap.size,0,none⟩)]) (by simp[results,results197,go_sem]) rfl ⟨_,rfl,HP.out⟩
theorem w_fun11(hx:IfV x)(hp:P (.func (.func 149) #[] #[ptrV b1,ptrV b2,ptrV w.heap.size,ptrV (w.heap.size+1)]) ((w.alloc (.cells #[x] tyVal)).alloc (.cells #[.func (.func K') #[] cs'] tyNext))) :
  Calls prog 148 #[x,.func (.func K') #[] cs',ptrV b1,ptrV b2] w (RQ P):=by
 have HP:=hide hp
 clear hp
 unfold ptrV at *
 rcases hx with⟨tx,vx,rfl⟩|rfl
 all_goals
  go_enter func148,ntmps148
  go_wp2
  refine bodyPost_ret (v:=.func (.func 149) #[] #[.pointer (some ⟨b1,0,none⟩),.pointer (some ⟨b2,0,none⟩),.pointer (some ⟨w.heap.size,0,none⟩),.pointer (some ⟨w.heap.size+1,0,none⟩)]) (by simp[results,results148,go_sem]) rfl ⟨_,rfl,HP.out⟩
theorem w_end(hp:P .nilFunc w):Calls prog 74 #[x] w (RQ P):=by
 have HP:=hide hp
 clear hp
 go_enter func74,ntmps74
 go_wp2
 refine bodyPost_ret (v:=.nilFunc) (by simp[results,results74,go_sem]) rfl ⟨_,rfl,HP.out⟩
theorem w_choice1(b:Bool)(h1:w.cell? ⟨if b then b1 else b4,0,none⟩=some (.func (.func K) #[] cs))(h2:w.cell? ⟨b2,0,none⟩=some (.pointer p))(h3:w.cell? ⟨b3,0,none⟩=some kv)(HE:Enters K)
  (hc:Calls prog K (#[.pointer p,kv]++cs) w (RQ P)) :
  Calls prog 212 #[boolV b,ptrV b1,ptrV b2,ptrV b3,ptrV b4] w (RQ P):=by
 have hE:=fun(args:Array Value) (w:World)=>HE args w
 have HC:=hide hc
 clear hc HE
 unfold ptrV boolV at *
 have ha:=as_bool
 cases b
 all_goals
  simp only[Bool.false_eq_true,if_false,if_true]at h1
  go_enter func212,ntmps212
  go_wp2_with fail
  refine(HC.out).mono ?_
  rintro e w'⟨rv,rfl,hq⟩
  go_wp2
  refine bodyPost_ret (v:=rv) (by simp[results,results212,go_sem]) rfl ⟨rv,rfl,hq⟩
theorem w_fetch1{b:Nat}{y:Value}(h0:w.cell? ⟨b,0,none⟩=some y)(h1:w.cell? ⟨b1,0,none⟩=some (.func (.func K) #[] cs))(HE:Enters K)
  (hc:∀u,HEq u w->Calls prog K (#[y]++cs) u (RQ P)) :
  Calls prog 217 #[.iface tyCellP (ptrV b),ptrV b1] w (RQ P):=by
 have hE:=fun(args:Array Value) (w:World)=>HE args w
 have HC:=hide hc
 clear hc HE
 unfold ptrV at *
 have ha:=as_cell
 go_enter func217,ntmps217
 go_wp2_with fail
 have HU:=hide (HEq.drew w)
 go_region_with ((refine(HC.out _ HU.out).mono ?_);rintro e w'⟨rv,rfl,hq⟩)
 all_goals
  go_wp2
  refine bodyPost_ret (v:=rv) (by simp[results,results217,go_sem]) rfl ⟨rv,rfl,hq⟩
theorem w_let1(hx:IfV x)(h1:w.cell? ⟨b1,0,none⟩=some (.func (.func K) #[] cs))(h2:w.cell? ⟨b2,0,none⟩=some (.pointer p))(h3:w.cell? ⟨b3,0,none⟩=some kv)(HE:Enters K)
  (hc:∀u,PEq u w (.cells #[x,.pointer p] tyScope (0,0))->Calls prog K (#[ptrV w.heap.size,kv]++cs) u (RQ fun rv u'=>P rv u'/\u'.cell? ⟨b1,0,none⟩=some (.func (.func K) #[] cs)/\u'.cell? ⟨b2,0,none⟩=some (.pointer p)/\u'.cell? ⟨b3,0,none⟩=some kv)) :
  Calls prog 166 #[x,ptrV b1,ptrV b2,ptrV b3] w (RQ P):=by
 have hE:=fun(args:Array Value) (w:World)=>HE args w
 have hW:∀u,HEq u w->Calls prog 45 #[.pointer p,x] u fun e u'=>e=.returned (ptrV w.heap.size)/\(PEq u' w (.cells #[x,.pointer p] tyScope (0,0))/\u'.cell? ⟨b1,0,none⟩=some (.func (.func K) #[] cs)/\u'.cell? ⟨b2,0,none⟩=some (.pointer p)/\u'.cell? ⟨b3,0,none⟩=some kv):=fun u hu=>by
  refine(with_any p hx u).mono ?_
  rintro e u'⟨rfl,rfl⟩
  have hcc:∀b v,w.cell? ⟨b,0,none⟩=some v->u.cell? ⟨b,0,none⟩=some v:=fun b v h=>by unfold World.cell? at h ⊢;rw[hu.heap];exact h
  refine⟨by rw[hu.heap],⟨?_,hu.so.os,hu.so.tape,hu.so.output⟩,cell_up (hcc _ _ h1),cell_up (hcc _ _ h2),cell_up (hcc _ _ h3)⟩
  rw[<- hu.heap];rfl
 have HW:=hide hW
 have HC:=hide hc
 have HU:=hide (HEq.drew w)
 clear hc HE hW
 unfold ptrV at *
 go_enter func166,ntmps166
 go_wp2_with fail
 have c1:w.drew.cell? ⟨b1,0,none⟩=some (.func (.func K) #[] cs):=h1
 have c2:w.drew.cell? ⟨b2,0,none⟩=some (.pointer p):=h2
 have c3:w.drew.cell? ⟨b3,0,none⟩=some kv:=h3
 clear h1 h2 h3
 go_region_held2 (fun w'=>w'.cell? ⟨b1,0,none⟩=some (.func (.func K) #[] cs)/\w'.cell? ⟨b2,0,none⟩=some (.pointer p)/\w'.cell? ⟨b3,0,none⟩=some kv) (exact⟨c1,c2,c3⟩)
  (first|(go_at_call 45;refine(HW.out _ HU.out).mono ?_;rintro e u⟨rfl,hu,c1,c2,c3⟩;have HV:=hide hu;clear hu)|(refine(HC.out _ HV.out).mono ?_;rintro e w'⟨rv,rfl,hq,c1,c2,c3⟩))
 all_goals
  go_wp2
  refine bodyPost_ret (v:=rv) (by simp[results,results166,go_sem]) rfl ⟨rv,rfl,hq⟩
end
structure Upd(w w':World)(b:Nat)(o:Obj):Prop where
 size:w'.heap.size=w.heap.size
 rest:∀k,k≠b->w'.heap[k]?=w.heap[k]?
 here:w'.heap[b]?=some o
 so:SameO w' w
theorem Upd.set{w:World}{b:Nat}{c:Array Value}{t:TypeId}{f:Nat×Nat}(h:w.heap[b]?=some (.cells c t f))(i:Nat)(v:Value):Upd w (w.setCell ⟨b,i,none⟩ v) b (.cells (c.setIfInBounds i v) t f):=
 ⟨by simp[World.setCell],fun k hk=>Below.heap_setCell _ _ _ _ hk,by simp[World.setCell,Array.getElem?_modify,h],rfl,rfl,rfl⟩
theorem Upd.heap{w u w':World}{b:Nat}{o:Obj}(h:Upd u w' b o)(e:HEq u w):Upd w w' b o:=⟨by rw[<- e.heap];exact h.size,fun k hk=>by rw[<- e.heap];exact h.rest k hk,h.here,e.so.trans h.so⟩
theorem cell_of{w:World}{b:Nat}{c:Array Value}{t:TypeId}{f:Nat×Nat}(h:w.heap[b]?=some (.cells c t f))(i:Nat):w.cell? ⟨b,i,none⟩=c[i]?:=by simp[World.cell?,h]
theorem froz_of{w:World}{b:Nat}{c:Array Value}{t:TypeId}(h:w.heap[b]?=some (.cells c t (0,0)))(i:Nat):w.frozen? ⟨b,i,none⟩=false:=by simp[World.frozen?,h]
section
variable {mb b1 b2 b3 b4 K K':Nat}{p:Option Addr}{fs cs cs':Array Value}{x kv:Value}{w:World}{P:Value->World->Prop}
theorem step_any{i0 o0:Value}{M D:Nat}(h:w.heap[mb]?=some (.cells #[i0,o0,.int .i64 M,.int .i64 D] tyMach (0,0)))(hD:D≠M)(hM:D<=4000) :
  Calls prog 40 #[ptrV mb] w fun e w'=>e=.returned (.tuple #[])/\Upd w w' mb (.cells #[i0,o0,.int .i64 M,.int .i64 (D+1:Nat)] tyMach (0,0)):=by
 have c2:w.cell? ⟨mb,2,none⟩=some (.int .i64 M):=by rw[cell_of h];rfl
 have c3:w.cell? ⟨mb,3,none⟩=some (.int .i64 D):=by rw[cell_of h];rfl
 have f3:w.frozen? ⟨mb,3,none⟩=false:=froz_of h 3
 have hne:((D:Int)==(M:Int))=false:=by simp;omega
 have hne':¬((D:Int)=(M:Int)):=by omega
 have HU:=hide (show ∀u:World,HEq u w->Upd w (u.setCell ⟨mb,3,none⟩ (.int .i64 ((D:Int)+1))) mb (.cells #[i0,o0,.int .i64 M,.int .i64 (D+1:Nat)] tyMach (0,0))from fun u e=>by
  have:=(Upd.set (w:=u) (by rw[e.heap];exact h) 3 (.int .i64 ((D:Int)+1))).heap e
  simpa using this)
 clear h
 unfold ptrV
 go_enter func40,ntmps40
 go_wp2_with fail
 go_quiet (fail)
 go_wp2_with fail
 refine bodyPost_end (v:=.tuple #[]) (by simp[results,results40,go_sem]) rfl ⟨rfl,HU.out (w.drewN nq) ⟨rfl,rfl,rfl,rfl⟩⟩
theorem w_cell(hx:IfV x)(HE:Enters K)(hc:Calls prog K (#[.iface tyCellP (ptrV w.heap.size)]++cs) (w.alloc (.cells #[x] tyCell)) (RQ P)) :
  Calls prog 48 #[x,.func (.func K) #[] cs] w (RQ P):=by
 have hE:=fun(args:Array Value) (w:World)=>HE args w
 have HC:=hide hc
 clear hc HE
 unfold ptrV at *
 rcases hx with⟨tx,vx,rfl⟩|rfl
 all_goals
  go_enter func48,ntmps48
  go_wp2_with fail
  refine(HC.out).mono ?_
  rintro e w'⟨rv,rfl,hq⟩
  go_wp2
  refine bodyPost_ret (v:=rv) (by simp[results,results48,go_sem]) rfl ⟨rv,rfl,hq⟩
theorem w_set2{cb:Nat}{y:Value}(hx:IfV x)(h0:w.heap[cb]?=some (.cells #[y] tyCell (0,0)))(h1:w.cell? ⟨b1,0,none⟩=some (.iface tyCellP (ptrV cb)))(h2:∀u,Upd w u cb (.cells #[x] tyCell (0,0))->u.cell? ⟨b2,0,none⟩=some (.func (.func K) #[] cs))(HE:Enters K)
  (hc:∀u,Upd w u cb (.cells #[x] tyCell (0,0))->Calls prog K (#[unitV]++cs) u (RQ P)) :
  Calls prog 215 #[x,ptrV b1,ptrV b2] w (RQ P):=by
 have hE:=fun(args:Array Value) (w:World)=>HE args w
 have ha:=as_cell
 have c0:w.cell? ⟨cb,0,none⟩=some y:=by rw[cell_of h0];rfl
 have f0:w.frozen? ⟨cb,0,none⟩=false:=froz_of h0 0
 have HC:=hide hc
 have H2:=hide h2
 have HU:=hide (show ∀u:World,HEq u w->Upd w (u.setCell ⟨cb,0,none⟩ x) cb (.cells #[x] tyCell (0,0))from fun u e=>by
  have:=(Upd.set (w:=u) (by rw[e.heap];exact h0) 0 x).heap e
  simpa using this)
 have d2:=h2 _ (HU.out w (HEq.refl w))
 clear hc HE h2 h0
 unfold ptrV unitV at *
 rcases hx with⟨tx,vx,rfl⟩|rfl
 all_goals
  go_enter func215,ntmps215
  go_wp2_with fail
  refine(HC.out _ (HU.out w (HEq.refl w))).mono ?_
  rintro e w'⟨rv,rfl,hq⟩
  go_wp2
  refine bodyPost_ret (v:=rv) (by simp[results,results215,go_sem]) rfl ⟨rv,rfl,hq⟩
theorem w_rec1{sb:Nat}{y ov:Value}(hx:IfV x)(h0:w.heap[sb]?=some (.cells #[y,ov] tyScope (0,0)))(h1:w.cell? ⟨b1,0,none⟩=some (ptrV sb))(h2:∀u,Upd w u sb (.cells #[x,ov] tyScope (0,0))->u.cell? ⟨b1,0,none⟩=some (ptrV sb)/\u.cell? ⟨b2,0,none⟩=some (.func (.func K) #[] cs)/\u.cell? ⟨b3,0,none⟩=some kv)(HE:Enters K)
  (hc:∀u,Upd w u sb (.cells #[x,ov] tyScope (0,0))->Calls prog K (#[ptrV sb,kv]++cs) u (RQ P)) :
  Calls prog 164 #[x,ptrV b1,ptrV b2,ptrV b3] w (RQ P):=by
 have hE:=fun(args:Array Value) (w:World)=>HE args w
 have c0:w.cell? ⟨sb,0,none⟩=some y:=by rw[cell_of h0];rfl
 have f0:w.frozen? ⟨sb,0,none⟩=false:=froz_of h0 0
 have HC:=hide hc
 have H2:=hide h2
 have HU:=hide (show ∀u:World,HEq u w->Upd w (u.setCell ⟨sb,0,none⟩ x) sb (.cells #[x,ov] tyScope (0,0))from fun u e=>by
  have:=(Upd.set (w:=u) (by rw[e.heap];exact h0) 0 x).heap e
  simpa using this)
 obtain⟨d1,d2,d3⟩:=h2 _ (HU.out w (HEq.refl w))
 clear hc HE h2 h0
 unfold ptrV at *
 rcases hx with⟨tx,vx,rfl⟩|rfl
 all_goals
  go_enter func164,ntmps164
  go_wp2_with fail
  refine(HC.out _ (HU.out w (HEq.refl w))).mono ?_
  rintro e w'⟨rv,rfl,hq⟩
  go_wp2
  refine bodyPost_ret (v:=rv) (by simp[results,results164,go_sem]) rfl ⟨rv,rfl,hq⟩
theorem w_rec(h1:w.cell? ⟨b1,0,none⟩=some (.func (.func K) #[] cs))(HE:Enters K)
  (hc:∀(u:World),u.heap=((w.heap.push (.cells #[.func (.func K') #[] cs'] tyNext (0,0))).push (.cells #[.nilIface,.pointer p] tyScope (0,0))).push (.cells #[ptrV (w.heap.size+1)] tyScopeP (0,0))->SameO u w->Calls prog K (#[ptrV (w.heap.size+1),.func (.func 164) #[] #[ptrV (w.heap.size+1+1),ptrV b2,ptrV w.heap.size]]++cs) u (RQ P)) :
  Calls prog 163 #[.pointer p,.func (.func K') #[] cs',ptrV b1,ptrV b2] w (RQ P):=by
 have hE:=fun(args:Array Value) (w:World)=>HE args w
 have hW:=fun w=>with_any p (inr rfl) w
 have HC:=hide hc
 have HW:=hide hW
 clear hc HE hW
 unfold ptrV at *
 go_enter func163,ntmps163
 go_wp2_with fail
 refine(HW.out _).mono ?_
 rintro e w1⟨rfl,rfl⟩
 have c1:=cell_up (o:=.cells #[.pointer (some ⟨w.heap.size+1,0,none⟩)] tyScopeP) (cell_up (o:=.cells #[.nilIface,.pointer p] tyScope) (cell_up (o:=.cells #[.func (.func K') #[] cs'] tyNext) h1))
 go_wp2_with fail
 refine(HC.out (((w.alloc (.cells #[.func (.func K') #[] cs'] tyNext)).alloc (.cells #[.nilIface,.pointer p] tyScope)).alloc (.cells #[.pointer (some ⟨w.heap.size+1,0,none⟩)] tyScopeP)) rfl ⟨rfl,rfl,rfl⟩).mono ?_
 rintro e w'⟨rv,rfl,hq⟩
 go_wp2
 refine bodyPost_ret (v:=rv) (by simp[results,results163,go_sem]) rfl ⟨rv,rfl,hq⟩
end
theorem bs_tail(c:UInt8)(r:List UInt8):(bs (c::r)).extract 1 (bs (c::r)).size=bs r:=by
 refine ByteArray.ext ?_
 rw[ByteArray.data_extract]
 refine Array.ext' ?_
 simp[bs,ByteArray.size]
section
variable {mb b1 b2 b3 b4 K K':Nat}{p:Option Addr}{fs cs cs':Array Value}{x kv:Value}{w:World}{P:Value->World->Prop}
theorem w_apply2(h1:w.cell? ⟨b1,0,none⟩=some (stepV mb))(HE:Enters K)
  (hS:Calls prog 40 #[ptrV mb] w fun e u=>e=.returned (.tuple #[])/\(u.cell? ⟨b2,0,none⟩=some (.iface tyFn (.func (.func K) fs cs))/\u.cell? ⟨b3,0,none⟩=some kv)/\∀u':World,HEq u' u->Calls prog K (fs++(#[x,kv]++cs)) u' (RQ P)) :
  Calls prog 210 #[x,ptrV b1,ptrV b2,ptrV b3] w (RQ P):=by
 have hE:=fun(args:Array Value) (w:World)=>HE args w
 have ha:=as_fn
 have HS:=hide hS
 clear hS HE
 unfold ptrV stepV at *
 go_enter func210,ntmps210
 go_wp2_with fail
 refine(HS.out).mono ?_
 rintro e u⟨rfl,⟨c2,c3⟩,hc⟩
 have HC:=hide hc
 clear hc HS h1
 go_wp2_with fail
 have HU:=hide (HEq.drew u)
 go_region_with ((refine(HC.out _ HU.out).mono ?_);rintro e w'⟨rv,rfl,hq⟩)
 all_goals
  go_wp2
  refine bodyPost_ret (v:=rv) (by simp[results,results210,go_sem]) rfl ⟨rv,rfl,hq⟩
theorem w_get{i0:Nm}{o0:Value}{M D:Int}(h:w.heap[mb]?=some (.cells #[.string (bs i0),o0,.int .i64 M,.int .i64 D] tyMach (0,0)))(HE:Enters K)(hl:i0.length<=1000000)
  (hc:(i0=[]/\∀u:World,HEq u w->Calls prog K (#[numV (-1)]++cs) u (RQ P))\/∃c r,i0=c::r/\∀u:World,Upd w u mb (.cells #[.string (bs r),o0,.int .i64 M,.int .i64 D] tyMach (0,0))->Calls prog K (#[numV c.toNat]++cs) u (RQ P)) :
  Calls prog 47 #[ptrV mb,x,.func (.func K) #[] cs] w (RQ P):=by
 have hE:=fun(args:Array Value) (w:World)=>HE args w
 have c0:w.cell? ⟨mb,0,none⟩=some (.string (bs i0)):=by rw[cell_of h];rfl
 have f0:w.frozen? ⟨mb,0,none⟩=false:=froz_of h 0
 unfold ptrV numV at *
 rcases hc with⟨rfl,hc⟩|⟨c,r,rfl,hc⟩
 ·have HC:=hide hc
  clear hc HE h
  have hb:bs []=ByteArray.empty:=rfl
  rw[hb]at c0
  go_enter func47,ntmps47
  go_wp2_with fail
  refine(HC.out _ (HEq.refl _)).mono ?_
  rintro e w'⟨rv,rfl,hq⟩
  go_wp2
  refine bodyPost_ret (v:=rv) (by simp[results,results47,go_sem]) rfl ⟨rv,rfl,hq⟩
 ·have hsz:0<(bs (c::r)).size:=by simp[bs,ByteArray.size]
  have hem:(bs (c::r)).toList.isEmpty=false:=by
   rw[List.isEmpty_eq_false_iff]
   intro hh
   have:=congrArg List.length hh
   simp[bs,ByteArray.size]at this
  have hg:RowKit.wrap64 ((bs (c::r))[0].toNat:Int)=(c.toNat:Int):=by
   have h1:(bs (c::r))[0]=c:=rfl
   rw[h1]
   have:=c.toNat_lt
   unfold RowKit.wrap64
   omega
  have hx:(bs (c::r)).extract 1 (bs (c::r)).size=bs r:=by
   exact bs_tail c r
  have hc1:=hc (w.setCell ⟨mb,0,none⟩ (.string ((bs (c::r)).extract 1 (bs (c::r)).size))) (by
   have:=Upd.set h 0 (.string ((bs (c::r)).extract 1 (bs (c::r)).size))
   rw[hx]at this ⊢
   simpa using this)
  rw[<- hg]at hc1
  have HC:=hide hc1
  have hbig:(1:Int)<=((bs (c::r)).size:Int):=by omega
  clear hc HE h hg hx hc1
  generalize bs (c::r)=sv at *
  go_enter func47,ntmps47
  go_wp2_with fail
  refine(HC.out).mono ?_
  rintro e w'⟨rv,rfl,hq⟩
  go_wp2
  refine bodyPost_ret (v:=rv) (by simp[results,results47,go_sem]) rfl ⟨rv,rfl,hq⟩
theorem w_var{n:Int}{y:Value}(h1:w.cell? ⟨b1,0,none⟩=some (.int .i64 n))(HE:Enters K)
  (hO:∀u:World,HEq u w->Calls prog 146 #[.pointer p,.int .i64 n] u fun e u'=>e=.returned y/\u'=u)
  (hc:∀u:World,HEq u w->Calls prog K (#[y]++cs) u (RQ P)) :
  Calls prog 145 #[.pointer p,.func (.func K) #[] cs,ptrV b1] w (RQ P):=by
 have hE:=fun(args:Array Value) (w:World)=>HE args w
 have HC:=hide hc
 have HO:=hide hO
 have HU:=hide (HEq.drew w)
 clear hc HE hO
 unfold ptrV at *
 go_enter func145,ntmps145
 go_wp2_with fail
 refine(HO.out _ (HEq.refl _)).mono ?_
 rintro e w'⟨rfl,hw'⟩
 subst w'
 go_wp2_with fail
 refine(HC.out _ (HEq.refl _)).mono ?_
 rintro e w'⟨rv,rfl,hq⟩
 go_wp2
 refine bodyPost_ret (v:=rv) (by simp[results,results145,go_sem]) rfl ⟨rv,rfl,hq⟩
end
section
variable {mb b1 b2 b3 b4 K K':Nat}{p:Option Addr}{fs cs cs':Array Value}{x kv:Value}{w:World}{P:Value->World->Prop}
theorem w_calc2{l r:Int}{Ko:Nat}{y:Value}(h1:w.cell? ⟨b1,0,none⟩=some (.func (.func K) #[] cs))(h2:w.cell? ⟨b2,0,none⟩=some (.func (.func Ko) #[] #[]))(h3:w.cell? ⟨b3,0,none⟩=some (numV l))(HE:Enters K)(HEo:Enters Ko)
  (hO:∀u:World,HEq u w->Calls prog Ko #[.int .i64 l,.int .i64 r] u fun e u'=>e=.returned y/\u'=u)
  (hc:∀u:World,HEq u w->Calls prog K (#[y]++cs) u (RQ fun rv u'=>P rv u'/\u'.cell? ⟨b1,0,none⟩=some (.func (.func K) #[] cs)/\u'.cell? ⟨b2,0,none⟩=some (.func (.func Ko) #[] #[])/\u'.cell? ⟨b3,0,none⟩=some (numV l))) :
  Calls prog 220 #[numV r,ptrV b1,ptrV b2,ptrV b3] w (RQ P):=by
 have hE:=fun(args:Array Value) (w:World)=>HE args w
 have hEo:=fun(args:Array Value) (w:World)=>HEo args w
 have ha:=as_int
 have HC:=hide hc
 have HO:=hide hO
 have HU:=hide (HEq.drew w)
 clear hc HE hO HEo
 unfold ptrV numV at *
 have c1:w.drew.cell? ⟨b1,0,none⟩=some (.func (.func K) #[] cs):=h1
 have c2:w.drew.cell? ⟨b2,0,none⟩=some (.func (.func Ko) #[] #[]):=h2
 have c3:w.drew.cell? ⟨b3,0,none⟩=some (.iface 2 (.int .i64 l)):=h3
 clear h1 h2 h3
 go_enter func220,ntmps220
 go_wp2_with fail
 go_region_held2 (fun w'=>w'.cell? ⟨b1,0,none⟩=some (.func (.func K) #[] cs)/\w'.cell? ⟨b2,0,none⟩=some (.func (.func Ko) #[] #[])/\w'.cell? ⟨b3,0,none⟩=some (.iface 2 (.int .i64 l))) (exact⟨c1,c2,c3⟩)
  (first|((with_reducible refine(HC.out _ HU.out).mono ?_);rintro e w'⟨rv,rfl,hq,c1,c2,c3⟩)|((with_reducible refine(HO.out _ HU.out).mono ?_);rintro e w'⟨rfl,hw'⟩;subst w'))
 all_goals
  go_wp2
  refine bodyPost_ret (v:=rv) (by simp[results,results220,go_sem]) rfl ⟨rv,rfl,hq⟩
end
section
variable {mb b1 b2 b3 b4 K K':Nat}{p:Option Addr}{fs cs cs':Array Value}{x kv:Value}{w:World}{P:Value->World->Prop}
def Later2(w u:World)(x:Value)(p:Option Addr)(kv:Value)(sb lb:Nat):Prop:=
 u.heap.size=w.heap.size+2/\(∀k,k<w.heap.size->u.heap[k]?=w.heap[k]?)/\u.heap[sb]?=some (.cells #[x,.pointer p] tyScope (0,0))/\u.heap[lb]?=some (.cells #[kv] tyNext (0,0)) /\
 ((sb=w.heap.size/\lb=w.heap.size+1)\/(lb=w.heap.size/\sb=w.heap.size+1))/\SameO u w
theorem w_fun111(hx:IfV x)(h1:w.cell? ⟨b1,0,none⟩=some (.func (.func K) #[] cs))(h2:w.cell? ⟨b2,0,none⟩=some (.pointer p))(h3:w.cell? ⟨b3,0,none⟩=some x)(h4:w.cell? ⟨b4,0,none⟩=some (.func (.func K') #[] cs'))(HE:Enters K)
  (hc:∀(u:World)(sb lb:Nat),Later2 w u x p (.func (.func K') #[] cs') sb lb->Calls prog K (#[ptrV sb,.func (.func 197) #[] #[ptrV lb]]++cs) u (RQ fun rv u'=>P rv u'/\u'.cell? ⟨b1,0,none⟩=some (.func (.func K) #[] cs)/\u'.cell? ⟨b2,0,none⟩=some (.pointer p)/\u'.cell? ⟨b3,0,none⟩=some x/\u'.cell? ⟨b4,0,none⟩=some (.func (.func K') #[] cs'))) :
  Calls prog 149 #[ptrV b1,ptrV b2,ptrV b3,ptrV b4] w (RQ P):=by
 have hE:=fun(args:Array Value) (w:World)=>HE args w
 have hcc:∀u:World,(∀k,k<w.heap.size->u.heap[k]?=w.heap[k]?)->u.cell? ⟨b1,0,none⟩=some (.func (.func K) #[] cs)/\u.cell? ⟨b2,0,none⟩=some (.pointer p)/\u.cell? ⟨b3,0,none⟩=some x/\u.cell? ⟨b4,0,none⟩=some (.func (.func K') #[] cs'):=fun u hu=>by
  have hh:∀b v,w.cell? ⟨b,0,none⟩=some v->u.cell? ⟨b,0,none⟩=some v:=fun b v h=>by
   have hb:b<w.heap.size:=by
    unfold World.cell? at h
    cases hc:w.heap[b]? with
    |none=>simp[hc]at h
    |some o=>exact lt_of_heap hc
   have e:=hu b hb
   unfold World.cell? at h ⊢
   rw[show u.heap[b]?=w.heap[b]? from e];exact h
  exact⟨hh _ _ h1,hh _ _ h2,hh _ _ h3,hh _ _ h4⟩
 have hW0:∀u:World,HEq u w->Calls prog 45 #[.pointer p,x] u fun e u'=>e=.returned (ptrV w.heap.size)/\PEq u' w (.cells #[x,.pointer p] tyScope (0,0)):=fun u hu=>(with_any p hx u).mono (by
  rintro e u'⟨rfl,rfl⟩;exact⟨by rw[hu.heap],by rw[<- hu.heap];rfl,hu.so.os,hu.so.tape,hu.so.output⟩)
 have hL0:∀u:World,HEq u w->Calls prog 150 #[.func (.func K') #[] cs'] u fun e u'=>e=.returned (.func (.func 197) #[] #[ptrV w.heap.size])/\PEq u' w (.cells #[.func (.func K') #[] cs'] tyNext (0,0)):=fun u hu=>(later_any K' cs' u).mono (by
  rintro e u'⟨rfl,rfl⟩;exact⟨by rw[hu.heap],by rw[<- hu.heap];rfl,hu.so.os,hu.so.tape,hu.so.output⟩)
 have hW1:∀u:World,PEq u w (.cells #[.func (.func K') #[] cs'] tyNext (0,0))->Calls prog 45 #[.pointer p,x] u fun e u'=>e=.returned (ptrV (w.heap.size+1))/\Later2 w u' x p (.func (.func K') #[] cs') (w.heap.size+1) w.heap.size:=fun u hu=>(with_any p hx u).mono (by
  rintro e u'⟨rfl,rfl⟩
  have e2:PEq (u.alloc (.cells #[x,.pointer p] tyScope)) u (.cells #[x,.pointer p] tyScope (0,0)):=PEq.alloc _ _
  have s1:=push_size hu
  refine⟨by rw[s1],by rw[push_size e2,s1],fun k hk=>(push_old e2 (by omega)).trans (push_old hu hk),by rw[<- s1];exact push_new e2,(push_old e2 (by omega)).trans (push_new hu),inr ⟨rfl,rfl⟩,hu.so.trans e2.so⟩)
 have hL1:∀u:World,PEq u w (.cells #[x,.pointer p] tyScope (0,0))->Calls prog 150 #[.func (.func K') #[] cs'] u fun e u'=>e=.returned (.func (.func 197) #[] #[ptrV (w.heap.size+1)])/\Later2 w u' x p (.func (.func K') #[] cs') w.heap.size (w.heap.size+1):=fun u hu=>(later_any K' cs' u).mono (by
  rintro e u'⟨rfl,rfl⟩
  have e2:PEq (u.alloc (.cells #[.func (.func K') #[] cs'] tyNext)) u (.cells #[.func (.func K') #[] cs'] tyNext (0,0)):=PEq.alloc _ _
  have s1:=push_size hu
  refine⟨by rw[s1],by rw[push_size e2,s1],fun k hk=>(push_old e2 (by omega)).trans (push_old hu hk),(push_old e2 (by omega)).trans (push_new hu),by rw[<- s1];exact push_new e2,inl ⟨rfl,rfl⟩,hu.so.trans e2.so⟩)
 have HW0:=hide hW0
 have HL0:=hide hL0
 have HW1:=hide hW1
 have HL1:=hide hL1
 have HC:=hide hc
 have HCC:=hide hcc
 have HU:=hide (HEq.drew w)
 obtain⟨c1,c2,c3,c4⟩:=hcc w.drew (fun k _=>rfl)
 clear hW0 hL0 hW1 hL1 hc hcc HE h1 h2 h3 h4
 unfold ptrV at *
 go_enter func149,ntmps149
 go_wp2_with fail
 go_region_held2 (fun w'=>w'.cell? ⟨b1,0,none⟩=some (.func (.func K) #[] cs)/\w'.cell? ⟨b2,0,none⟩=some (.pointer p)/\w'.cell? ⟨b3,0,none⟩=some x/\w'.cell? ⟨b4,0,none⟩=some (.func (.func K') #[] cs')) (exact⟨c1,c2,c3,c4⟩)
  (first
   |(go_at_call 45;first
     |((with_reducible refine(HW0.out _ HU.out).mono ?_);rintro e u⟨rfl,hu⟩;obtain⟨c1,c2,c3,c4⟩:=HCC.out u (fun k hk=>push_old hu hk);have HU:=hide hu;clear hu)
     |((with_reducible refine(HW1.out _ HU.out).mono ?_);rintro e u⟨rfl,hu⟩;obtain⟨c1,c2,c3,c4⟩:=HCC.out u hu.2.1;have HV:=hide hu;clear hu))
   |(go_at_call 150;first
     |((with_reducible refine(HL0.out _ HU.out).mono ?_);rintro e u⟨rfl,hu⟩;obtain⟨c1,c2,c3,c4⟩:=HCC.out u (fun k hk=>push_old hu hk);have HU:=hide hu;clear hu)
     |((with_reducible refine(HL1.out _ HU.out).mono ?_);rintro e u⟨rfl,hu⟩;obtain⟨c1,c2,c3,c4⟩:=HCC.out u hu.2.1;have HV:=hide hu;clear hu))
   |((with_reducible refine(HC.out _ _ _ HV.out).mono ?_);rintro e w'⟨rv,rfl,hq,c1,c2,c3,c4⟩))
 all_goals
  go_wp2
  refine bodyPost_ret (v:=rv) (by simp[results,results149,go_sem]) rfl ⟨rv,rfl,hq⟩
end
theorem wrap_eq(n:Int):RowKit.wrap64 n=_root_.Go.Proofs.YtbkiipiocpnnnaaGreatDoor.wrap64 n:=by
 unfold RowKit.wrap64 _root_.Go.Proofs.YtbkiipiocpnnnaaGreatDoor.wrap64
 first|rfl|omega
theorem wrap_in(n:Int):InI (_root_.Go.Proofs.YtbkiipiocpnnnaaGreatDoor.wrap64 n):=by
 unfold InI _root_.Go.Proofs.YtbkiipiocpnnnaaGreatDoor.wrap64
 omega
theorem oper1(l r:Int)(w:World):Calls prog 221 #[.int .i64 l,.int .i64 r] w fun e w'=>e=.returned (numV (_root_.Go.Proofs.YtbkiipiocpnnnaaGreatDoor.wrap64 (l+r)))/\w'=w:=by
 unfold numV
 go_enter func221,ntmps221
 go_wp2
 refine bodyPost_ret (v:=.iface 2 (.int .i64 (RowKit.wrap64 (l+r)))) (by simp[results,results221,go_sem]) rfl ⟨by rw[wrap_eq],rfl⟩
theorem oper2(l r:Int)(w:World):Calls prog 222 #[.int .i64 l,.int .i64 r] w fun e w'=>e=.returned (numV (_root_.Go.Proofs.YtbkiipiocpnnnaaGreatDoor.wrap64 (l-r)))/\w'=w:=by
 unfold numV
 go_enter func222,ntmps222
 go_wp2
 refine bodyPost_ret (v:=.iface 2 (.int .i64 (RowKit.wrap64 (l-r)))) (by simp[results,results222,go_sem]) rfl ⟨by rw[wrap_eq],rfl⟩
theorem oper3(l r:Int)(w:World):Calls prog 223 #[.int .i64 l,.int .i64 r] w fun e w'=>e=.returned (numV (_root_.Go.Proofs.YtbkiipiocpnnnaaGreatDoor.wrap64 (l*r)))/\w'=w:=by
 unfold numV
 go_enter func223,ntmps223
 go_wp2
 refine bodyPost_ret (v:=.iface 2 (.int .i64 (RowKit.wrap64 (l*r)))) (by simp[results,results223,go_sem]) rfl ⟨by rw[wrap_eq],rfl⟩
theorem oper5(l r:Int)(w:World):Calls prog 226 #[.int .i64 l,.int .i64 r] w fun e w'=>e=.returned (boolV (decide (l=r)))/\w'=w:=by
 unfold boolV
 go_enter func226,ntmps226
 go_wp2
 refine bodyPost_ret (v:=.iface 4 (.bool (l==r))) (by simp[results,results226,go_sem]) rfl ⟨by rw[show (l==r)=decide (l=r)from rfl],rfl⟩
theorem oper6(l r:Int)(w:World):Calls prog 227 #[.int .i64 l,.int .i64 r] w fun e w'=>e=.returned (boolV (decide (l<r)))/\w'=w:=by
 unfold boolV
 go_enter func227,ntmps227
 go_wp2
 refine bodyPost_ret (v:=.iface 4 (.bool (decide (l<r)))) (by simp[results,results227,go_sem]) rfl ⟨by rfl,rfl⟩
theorem quotient_any(l r:Int)(w:World):Calls prog 225 #[.int .i64 l,.int .i64 r] w fun e w'=>e=.returned (.int .i64 (if r=0 then 0 else _root_.Go.Proofs.YtbkiipiocpnnnaaGreatDoor.wrap64 (l.tdiv r)))/\w'=w:=by
 by_cases hr:r=0
 ·subst hr
  simp only[if_true]
  have h0:((0:Int)==0)=true:=rfl
  go_enter func225,ntmps225
  go_wp2
  refine bodyPost_ret (v:=.int .i64 0) (by simp[results,results225,go_sem]) rfl ⟨rfl,rfl⟩
 ·have h0:(r==0)=false:=by simpa using hr
  rw[if_neg hr,<- wrap_eq]
  go_enter func225,ntmps225
  go_wp2
  refine bodyPost_ret (v:=.int .i64 (RowKit.wrap64 (l.tdiv r))) (by simp[results,results225,go_sem]) rfl ⟨rfl,rfl⟩
theorem oper4(l r:Int)(w:World):Calls prog 224 #[.int .i64 l,.int .i64 r] w fun e w'=>e=.returned (numV (if r=0 then 0 else _root_.Go.Proofs.YtbkiipiocpnnnaaGreatDoor.wrap64 (l.tdiv r)))/\w'=w:=by
 have HQ:=hide (quotient_any l r w)
 generalize (if r=0 then 0 else _root_.Go.Proofs.YtbkiipiocpnnnaaGreatDoor.wrap64 (l.tdiv r))=q at *
 unfold numV
 go_enter func224,ntmps224
 go_wp2_with fail
 refine(HQ.out).mono ?_
 rintro e w'⟨rfl,hw'⟩
 subst w'
 go_wp2
 refine bodyPost_ret (v:=.iface 2 (.int .i64 q)) (by simp[results,results224,go_sem]) rfl ⟨rfl,rfl⟩
theorem Enters.op1:Enters 221:=enters func221 (by kernel_rfl) rfl
theorem Enters.op2:Enters 222:=enters func222 (by kernel_rfl) rfl
theorem Enters.op3:Enters 223:=enters func223 (by kernel_rfl) rfl
theorem Enters.op4:Enters 224:=enters func224 (by kernel_rfl) rfl
theorem Enters.op5:Enters 226:=enters func226 (by kernel_rfl) rfl
theorem Enters.op6:Enters 227:=enters func227 (by kernel_rfl) rfl
theorem oper_any(s:Nm){l r:Int}(w:World):∃Ko y,operV s=.func (.func Ko) #[] #[]/\Enters Ko/\(∀(mb:Nat)(sa ca:List Nat)(u:World),VM mb sa ca u (calcR s l r) y)/\∀u:World,Calls prog Ko #[.int .i64 l,.int .i64 r] u fun e u'=>e=.returned y/\u'=u:=by
 unfold operV calcR
 by_cases h1:s=[43]
 ·simp only[if_pos h1]
  exact⟨_,_,rfl,Enters.op1,fun _ _ _ _=>inl ⟨rfl,rfl,wrap_in _⟩,fun u=>oper1 l r u⟩
 simp only[if_neg h1]
 by_cases h2:s=[45]
 ·simp only[if_pos h2]
  exact⟨_,_,rfl,Enters.op2,fun _ _ _ _=>inl ⟨rfl,rfl,wrap_in _⟩,fun u=>oper2 l r u⟩
 simp only[if_neg h2]
 by_cases h3:s=[42]
 ·simp only[if_pos h3]
  exact⟨_,_,rfl,Enters.op3,fun _ _ _ _=>inl ⟨rfl,rfl,wrap_in _⟩,fun u=>oper3 l r u⟩
 simp only[if_neg h3]
 by_cases h4:s=[47]
 ·simp only[if_pos h4]
  refine⟨_,_,rfl,Enters.op4,fun _ _ _ _=>inl ?_,fun u=>oper4 l r u⟩
  by_cases hr:r=0
  ·rw[if_pos hr,if_pos hr];exact⟨rfl,rfl,show InI 0 by unfold InI;omega⟩
  ·rw[if_neg hr,if_neg hr];exact⟨rfl,rfl,wrap_in _⟩
 simp only[if_neg h4]
 by_cases h5:s=[61]
 ·simp only[if_pos h5]
  refine⟨_,_,rfl,Enters.op5,fun _ _ _ _=>inr (inl ⟨rfl,?_⟩),fun u=>oper5 l r u⟩
  by_cases hr:l=r<;>simp[RV.bool,hr]
 simp only[if_neg h5]
 refine⟨_,_,rfl,Enters.op6,fun _ _ _ _=>inr (inl ⟨rfl,?_⟩),fun u=>oper6 l r u⟩
 by_cases hr:l<r<;>simp[RV.bool,hr]
def OutC(w:World):Nat->Option Addr->Value->Prop
 |0,p,y=>∃b,p=some ⟨b,0,none⟩/\w.cell? ⟨b,0,none⟩=some y
 |n+1,p,y=>∃b q,p=some ⟨b,0,none⟩/\w.cell? ⟨b,1,none⟩=some (.pointer q)/\OutC w n q y
theorem outwards_any{n:Nat}{p:Option Addr}{y:Value}{w:World}(hn:n<=1000000)(h:OutC w n p y):Calls prog 146 #[.pointer p,.int .i64 n] w fun e w'=>e=.returned y/\w'=w:=by
 have H:=hide h
 clear h
 go_enter func146,ntmps146
 go_wp2_with fail
 go_loopg [0,6] n (fun gk v0 v6 wr=>∃i q,v0=.pointer q/\v6=.int .i64 (i:Nat)/\i+gk=n/\Hid (OutC w gk q y)/\wr=w)
 case atStart=>exact⟨0,p,rfl,rfl,by omega,H,rfl⟩
 case round=>
  clear H
  obtain⟨i,q,rfl,rfl,hi,H,rfl⟩:=hrel
  cases gk with
  |zero=>
   obtain⟨b,rfl,hc⟩:=H.out
   have hlt:¬(i:Int)<(n:Int):=by omega
   have hlt2:decide ((i:Int)<(n:Int))=false:=by simp;omega
   clear H
   go_wp2
   refine bodyPost_ret (v:=y) (by simp[results,results146,go_sem]) rfl ⟨rfl,rfl⟩
  |succ g=>
   obtain⟨b,q',rfl,hc,hr⟩:=H.out
   have hlt:(i:Int)<(n:Int):=by omega
   have hlt2:decide ((i:Int)<(n:Int))=true:=by simp;omega
   have HR:=hide hr
   clear H hr
   go_wp2_with fail
   go_roundg g
   case rel=>exact⟨i+1,q',rfl,by simp,by omega,HR,rfl⟩
   case measure=>omega
theorem Tryz.infoByteR:(prog.info? tyRB).map (fun i=>(i.zero,i.size,i.bytes))=some (some (.int .u8 0),1,1):=by kernel_rfl
theorem step_append_rr{ops:Array Oper}{o:Oper}{a:Act}{w w':World}{K:Act->World->Prop}{Q:Exit->Act->World->Prop}{E:Prop}{v' vs vx:Value}(hgd:o.guard=none)(s x:Operand)(ts:Array TypeId)
  (ho:o.op=.call { callee:=.builtin .append,args:=#[s,x],argTypes:=ts }) (hs:a.eval s=vs) (hx:a.eval x=vx) (hr:(Builtin.append_ ts o.type #[vs,vx]).run prog w=.ok v' w') (h:K (a.put o.dst v') w') :
  if Region.wanted o (yielded ops a.tmps)=true then Oper.wp prog o a w K Q else E:=by
 have hw:Region.wanted o (yielded ops a.tmps)=true:=by simp[Region.wanted,hgd]
 rw[if_pos hw]
 unfold Oper.wp execOp
 simp only[ho,resolve,invoke,builtin,Sem.run_bind,Sem.run_pure,Result.andThen_ok,List.map_toArray,map_cons,List.map_nil,hs,hx,hr]
 exact h
theorem w_put{B mb K:Nat}{cs:Array Value}{w:World}{P:Value->World->Prop}{n:Int}{i0:Value}{M D:Int}{ov:Value}{xs:List Value}(h:w.heap[mb]?=some (.cells #[i0,ov,.int .i64 M,.int .i64 D] tyMach (0,0)))(hBs:B<=w.heap.size)(hown:w.ownsRow B tyRB 1 ov xs.length xs)(hl:xs.length<=4000)(HE:Enters K)
  (hc:∀(u:World)(ov':Value),u.heap[mb]?=some (.cells #[i0,ov',.int .i64 M,.int .i64 D] tyMach (0,0))->u.ownsRow B tyRB 1 ov' (xs.length+1) (xs++[.int .u8 (n % 256)])->w.heap.size<=u.heap.size->(∀k,k<w.heap.size->k≠mb->ov.ownBlock≠some k->u.heap[k]?=w.heap[k]?)->SameO u w->Calls prog K (#[unitV]++cs) u (RQ P)) :
  Calls prog 46 #[ptrV mb,numV n,.func (.func K) #[] cs] w (RQ P):=by
 obtain⟨i0',hi,hz0,hz1,hz2⟩:=info_parts Tryz.infoByteR
 have hE:=fun(args:Array Value) (w:World)=>HE args w
 have hlt:=lt_of_heap h
 have hwr:IntKind.u8.wrap n=n % 256:=by simp[IntKind.wrap,IntKind.bits,IntKind.signed]
 rw[<- hwr]at hc
 have hown1:(w.alloc (.cells #[.int .u8 (IntKind.u8.wrap n)] tyRB)).drew.ownsRow B tyRB 1 ov xs.length xs:=hown.alloc _
 have hnews:∀j u,[Value.int .u8 (IntKind.u8.wrap n)][j]?=some u->(w.alloc (.cells #[.int .u8 (IntKind.u8.wrap n)] tyRB)).drew.cell? ((⟨w.heap.size,0,none⟩:Addr).add j)=some u:=fun j u hj=>cell_new rfl (by simpa using hj)
 have hone:∀u∈[Value.int .u8 (IntKind.u8.wrap n)],u.oneCell'=true:=by intro u hu;simp at hu;subst hu;rfl
 obtain⟨v',w2,hrun,ho2,hg',_⟩:=run_append_own (P:=prog) (w.alloc (.cells #[.int .u8 (IntKind.u8.wrap n)] tyRB)).drew B 31 31 tyRB i0' (.int .u8 0) 1 1 underlying31 hi hz0 hz1 hz2 rfl (by decide) ov xs.length xs hown1 ⟨w.heap.size,0,none⟩ 1 1 [.int .u8 (IntKind.u8.wrap n)] rfl hnews hone (by unfold maxLen;omega) (by omega) (by show B<=(w.alloc _).heap.size;rw[alloc_size];omega)
 have hne:ov.ownBlock≠some mb:=fun e=>by
  rcases hown.2 with⟨rfl,_⟩|⟨g,cap,cur,rfl,_,hgg,_⟩
  ·simp[Value.ownBlock]at e
  ·have:g=mb:=by simpa [Value.ownBlock]using e
   subst this
   rw[h]at hgg;exact absurd (cells_ty hgg) (by decide)
 have hold:∀k,k<w.heap.size->ov.ownBlock≠some k->w2.heap[k]?=w.heap[k]?:=fun k hk hn=>by
  rw[hg'.block k (by show k<(w.alloc _).heap.size;rw[alloc_size];omega) (fun e=>hn e.symm)]
  show (w.alloc _).heap[k]?=_
  rw[alloc_heap,if_neg (by omega)]
 have h2:w2.heap[mb]?=some (.cells #[i0,ov,.int .i64 M,.int .i64 D] tyMach (0,0)):=(hold mb hlt hne).trans h
 have hsz:w.heap.size<=w2.heap.size:=by
  have:=hg'.size
  have e:(w.alloc (.cells #[.int .u8 (IntKind.u8.wrap n)] tyRB)).drew.heap.size=w.heap.size+1:=alloc_size _ _
  omega
 have hv':∃g cap,v'=.slice (some ⟨g,0,none⟩) (xs.length+1) cap:=by
  rcases ownsRow_forms ho2 with⟨_,h0⟩|h0
  ·simp at h0
  ·exact h0
 obtain⟨g,cap,rfl⟩:=hv'
 have hne2:g≠mb:=fun e=>by
  subst e
  rcases ho2.2 with⟨e2,_⟩|⟨g',cap',cur,e2,_,hgg,_⟩
  ·cases e2
  ·have:g=g':=by simp at e2;exact e2.1
   subst this
   rw[h2]at hgg;exact absurd (cells_ty hgg) (by decide)
 have hu:=Upd.set h2 1 (.slice (some ⟨g,0,none⟩) (xs.length+1) cap)
 have hcc:=hc (w2.setCell ⟨mb,1,none⟩ (.slice (some ⟨g,0,none⟩) (xs.length+1) cap)) _ (by have:=hu.here;simpa using this) (ownsRow_kept ho2 fun k c f hk _=>hu.rest k (fun e=>by subst e;simp[Value.ownBlock]at hk;exact hne2 hk)) (by rw[hu.size];exact hsz) (fun k hk hkm hko=>(hu.rest k hkm).trans (hold k hk hko)) ⟨hg'.os,hg'.tape,hg'.output⟩
 have c1:w.cell? ⟨mb,1,none⟩=some ov:=(cell_of h 1).trans rfl
 have d1:w2.cell? ⟨mb,1,none⟩=some ov:=(cell_of h2 1).trans rfl
 have f1:w2.frozen? ⟨mb,1,none⟩=false:=froz_of h2 1
 have ha:=as_int
 have HC:=hide hcc
 have HR:=hide hrun
 clear hc HE h h2 hcc hu hne2 hold hne hown hown1 hwr hnews hone ho2 hg' hrun
 unfold ptrV numV unitV at *
 go_enter func46,ntmps46
 go_wp2_with fail
 go_region_law (refine step_append_rr rfl _ _ _ rfl (by simp[Act.eval,Act.put]) (by simp[Act.eval,Act.put]) HR.out ?_)
 all_goals
  go_wp2_with fail
  refine(HC.out).mono ?_
  rintro e w'⟨rv,rfl,hq⟩
  go_wp2
  refine bodyPost_ret (v:=rv) (by simp[results,results46,go_sem]) rfl ⟨rv,rfl,hq⟩
end Go.Proofs.YtbkiipiocpnnnaaGreatDoor
