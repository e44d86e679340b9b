import Derived.Test.YtbkiipiocpnnnaaGreatDoorC13
set_option linter.all false
set_option maxHeartbeats 40000000
set_option maxRecDepth 100000
open Go.Proofs.Tryz
open Or (inl inr)
open Nat (le_refl le_trans)
open List (append_nil length_append length_cons mem_cons_self mem_cons_of_mem mem_append mem_singleton cons_append nil_append)
namespace Go.Proofs.YtbkiipiocpnnnaaGreatDoor
section
open Go.RowKit
abbrev tyTabI:TypeId:=103
theorem under_tabI:prog.underlying tyTabI=some (.map tyKey 3):=by kernel_rfl
theorem int_zero(w:World):(zeroValue 3).run prog w=.ok (.int .i64 0) w:=by
 have h:(prog.info? 3).map (fun i=>i.zero)=some (some (.int .i64 0)):=by kernel_rfl
 cases hi:prog.info? 3 with
 |none=>rw[hi]at h;cases h
 |some j=>
  rw[hi]at h
  have hz:j.zero=some (.int .i64 0):=by simpa using h
  simp[zeroValue,typeInfo,hi,hz,Result.andThen]
theorem look_tabI{tb n:Nat}{f:Ky->Option Value}{w:World}{x:Ky}(h:MapHas okK kyV w tb n f)(hx:okK x)(c:Bool):(Instr.lookup tyTabI (.map (some tb)) (.agg #[.int .i64 x.1,.string (bs x.2)]) c).run prog w=.ok (if c then .tuple #[(f x).getD (.int .i64 0),.bool (f x).isSome]else(f x).getD (.int .i64 0)) w:=
 h.look ky_ops under_tabI (int_zero w) hx trivial (fun _ _=>trivial) c
def unbI(W:Nat):Value:=.func (.func 102) #[] #[.pointer (some ⟨W+3,0,none⟩),.pointer (some ⟨W+2,0,none⟩),.pointer (some ⟨W,0,none⟩),.pointer (some ⟨W+1,0,none⟩)]
structure UnbI(tb:Nat)(x:Ky)(old:Option Value)(W:Nat)(w:World):Prop where
 tab:w.heap[W]?=some (.cells #[.map (some tb)] tyTabI (0,0))
 key:w.heap[W+1]?=some (.cells #[.int .i64 x.1,.string (bs x.2)] tyKey (0,0))
 bef:∃(i:Int),w.heap[W+2]?=some (.cells #[.int .i64 i] 3 (0,0))/\∀v,old=some v->v=.int .i64 i
 was:w.heap[W+3]?=some (.cells #[.bool old.isSome] 4 (0,0))
theorem UnbI.kept{tb:Nat}{x:Ky}{old:Option Value}{W:Nat}{w w':World}(h:UnbI tb x old W w)(hk:∀k,W<=k->k<W+4->w'.heap[k]?=w.heap[k]?):UnbI tb x old W w':=by
 obtain⟨h1,h2,⟨i,h3,h3'⟩,h4⟩:=h
 exact⟨(hk _ (by omega) (by omega)).trans h1,(hk _ (by omega) (by omega)).trans h2,⟨i,(hk _ (by omega) (by omega)).trans h3,h3'⟩,(hk _ (by omega) (by omega)).trans h4⟩
section
variable {tb n:Nat}{f:Ky->Option Value}{w:World}{x:Ky}
theorem BindI_any(h:MapHas okK kyV w tb n f)(hx:okK x)(hs:∀v,f x=some v->∃i,v=.int .i64 i){m:Value}(hm:∃i,m=.int .i64 i) :
  Calls prog 67 #[.map (some tb),kyV x,m] w fun e w'=>e=.returned (unbI w.heap.size)/\(∃n',MapHas okK kyV w' tb n' (fun y=>if y=x then some m else f y))/\UnbI tb x (f x) w.heap.size w'/\w'.heap.size=w.heap.size+4/\Kn (·=tb) w w':=by
 obtain⟨i0,rfl⟩:=hm
 generalize hQ:(fun(e:Ending) (w':World)=>e=.returned (unbI w.heap.size)/\(∃n',MapHas okK kyV w' tb n' (fun y=>if y=x then some (.int .i64 i0)else f y))/\UnbI tb x (f x) w.heap.size w'/\w'.heap.size=w.heap.size+4/\Kn (·=tb) w w')=Q
 unfold kyV
 obtain⟨g0,hg⟩:∃i,((f x).getD (.int .i64 0))=.int .i64 i:=by
  cases hf:f x with
  |none=>exact⟨_,rfl⟩
  |some v=>exact hs v hf
 have hl:∀w',MapHas okK kyV w' tb n f->(Instr.lookup tyTabI (.map (some tb)) (.agg #[.int .i64 x.1,.string (bs x.2)]) true).run prog w'=.ok (.tuple #[.int .i64 g0,.bool (f x).isSome]) w':=fun w' h'=>by
  have:=look_tabI h' hx true
  rw[if_pos rfl,hg]at this
  exact this
 have hl1:=hl _ ((h.alloc (.cells #[.map (some tb)] tyTabI)).alloc (.cells #[.int .i64 x.1,.string (bs x.2)] tyKey))
 have h5:=(((h.alloc (.cells #[.map (some tb)] tyTabI)).alloc (.cells #[.int .i64 x.1,.string (bs x.2)] tyKey)).alloc (.cells #[.int .i64 g0] 3)).alloc (.cells #[.bool (f x).isSome] 4)
 obtain⟨w6,hup,hm6,ht6⟩:=h5.store ky_ops under_tabI (v:=.int .i64 i0) hx trivial (fun _ _=>trivial)
 unfold kyV at hup
 have hsz:=turned_size ht6
 have htl:=h.lt
 have hfin:(∃n',MapHas okK kyV w6 tb n' (fun y=>if y=x then some (.int .i64 i0)else f y))/\UnbI tb x (f x) w.heap.size w6/\w6.heap.size=w.heap.size+4/\Kn (·=tb) w w6:=by
  refine⟨⟨_,hm6⟩,⟨?_,?_,⟨g0,?_,?_⟩,?_⟩,?_,?_⟩
  ·rw[turned_ne ht6 (by omega)];simp only[alloc_heap,alloc_size];repeat (first|rw[if_neg (by omega)]|(rw[if_pos trivial];done)|rw[if_pos (by omega)])
  ·rw[turned_ne ht6 (by omega)];simp only[alloc_heap,alloc_size];repeat (first|rw[if_neg (by omega)]|(rw[if_pos trivial];done)|rw[if_pos (by omega)])
  ·rw[turned_ne ht6 (by omega)];simp only[alloc_heap,alloc_size];repeat (first|rw[if_neg (by omega)]|(rw[if_pos trivial];done)|rw[if_pos (by omega)])
  ·intro v hv;rw[hv]at hg;exact hg
  ·rw[turned_ne ht6 (by omega)];simp only[alloc_heap,alloc_size];repeat (first|rw[if_neg (by omega)]|(rw[if_pos trivial];done)|rw[if_pos (by omega)])
  ·rw[hsz];simp
  ·exact(((((Kn.refl _ w).alloc _).alloc _).alloc _).alloc _).turned ht6 (inl rfl)
 have HF:=hide hfin
 clear h hs hg hl h5 hm6 ht6 hfin hsz htl
 have hq:Q (.returned (unbI w.heap.size)) w6:=by rw[<- hQ];exact⟨rfl,HF.out⟩
 have HQ:=hide hq
 clear HF hq hQ
 generalize (f x).isSome=sm at *
 generalize hsp:x.1=sp at *
 generalize hnm:bs x.2=nm at *
 clear hsp hnm
 go_enter func67,ntmps67
 go_wp2
 exact HQ.out
theorem BindI1_end{W:Nat}{old:Option Value}{u:FrameMode}(h:MapHas okK kyV w tb n f)(hx:okK x)(hu:UnbI tb x old W w) :
  CallsD prog 102 #[.pointer (some ⟨W+3,0,none⟩),.pointer (some ⟨W+2,0,none⟩),.pointer (some ⟨W,0,none⟩),.pointer (some ⟨W+1,0,none⟩)] u w fun e u' w'=>u'=u/\(fun(e:Ending) (w':World)=>e=.returned (.tuple #[])/\(∃n',MapHas okK kyV w' tb n' (fun y=>if y=x then old else f y))/\w.mapTurned w' tb) e w':=by
 obtain⟨h1,h2,⟨g0,h3,h3'⟩,h4⟩:=hu
 have k1:w.cell? ⟨W,0,none⟩=some (.map (some tb)):=by simp[World.cell?,h1]
 have k2:w.cell? ⟨W+1,0,none⟩=some (.int .i64 x.1):=by simp[World.cell?,h2]
 have k2':w.cell? ⟨W+1,1,none⟩=some (.string (bs x.2)):=by simp[World.cell?,h2]
 have k4:w.cell? ⟨W+3,0,none⟩=some (.bool old.isSome):=by simp[World.cell?,h4]
 have j0:w.cell? ⟨W+2,0,none⟩=some (.int .i64 g0):=by simp[World.cell?,h3]
 cases old with
 |some v=>
  obtain rfl:=h3' v rfl
  obtain⟨w6,hup,hm6,ht6⟩:=h.store ky_ops under_tabI (v:=.int .i64 g0) hx trivial (fun _ _=>trivial)
  unfold kyV at hup
  simp only[Option.isSome_some]at k4
  have HF:=hide (show (∃n',MapHas okK kyV w6 tb n' (fun y=>if y=x then some (.int .i64 g0)else f y))/\w.mapTurned w6 tb from⟨⟨_,hm6⟩,ht6⟩)
  generalize hQ:(fun(e:Ending) (w':World)=>e=.returned (.tuple #[])/\(∃n',MapHas okK kyV w' tb n' (fun y=>if y=x then some (.int .i64 g0)else f y))/\w.mapTurned w' tb)=Q
  have HQ:=hide (show Q (.returned (.tuple #[])) w6 by rw[<- hQ];exact⟨rfl,HF.out⟩)
  clear h h1 h2 h3 h3' h4 hm6 ht6 HF hQ
  generalize hsp:x.1=sp at *
  generalize hnm:bs x.2=nm at *
  clear hsp hnm
  go_enter_d func102,ntmps102
  go_wp2
  refine bodyPost_ret (v:=.tuple #[]) (by simp[results,results102,go_sem]) rfl HQ.out
 |none=>
  obtain⟨w6,hup,hm6,ht6⟩:=h.drop ky_ops under_tabI hx trivial (fun _ _=>trivial) (P:=prog) 0
  unfold kyV at hup
  simp only[Option.isSome_none]at k4
  have HF:=hide (show (∃n',MapHas okK kyV w6 tb n' (fun y=>if y=x then none else f y))/\w.mapTurned w6 tb from⟨⟨_,hm6⟩,ht6⟩)
  generalize hQ:(fun(e:Ending) (w':World)=>e=.returned (.tuple #[])/\(∃n',MapHas okK kyV w' tb n' (fun y=>if y=x then none else f y))/\w.mapTurned w' tb)=Q
  have HQ:=hide (show Q (.returned (.tuple #[])) w6 by rw[<- hQ];exact⟨rfl,HF.out⟩)
  clear h h1 h2 h3 h3' h4 hm6 ht6 HF hQ
  generalize hsp:x.1=sp at *
  generalize hnm:bs x.2=nm at *
  clear hsp hnm
  go_enter_d func102,ntmps102
  go_wp2
  refine bodyPost_end (v:=.tuple #[]) (by simp[results,results102,go_sem]) rfl HQ.out
end
end
section
open Go.RowKit
abbrev tyLM:TypeId:=282
theorem under_lm:prog.underlying tyLM=some (.map tyTypeP tyTypeP):=by kernel_rfl
theorem under_tp:prog.underlying tyTypeP=some (.pointer tyType):=by kernel_rfl
theorem tp_ops:KeyOps prog tyTypeP (fun _:Nat=>True) isVarB ptrK:=by
 have h:(prog.info? tyType).map (fun i=>i.size)=some 4:=info_type
 cases hi:prog.info? tyType with
 |none=>rw[hi]at h;cases h
 |some j=>
  rw[hi]at h
  have hz:j.size=4:=by simpa using h
  exact ptr_keyed under_tp hi (by rw[hz];decide)
theorem tp_zero(w:World):(zeroValue tyTypeP).run prog w=.ok (.pointer none) w:=by
 have h:(prog.info? tyTypeP).map (fun i=>i.zero)=some (some (.pointer none)):=by kernel_rfl
 cases hi:prog.info? tyTypeP with
 |none=>rw[hi]at h;cases h
 |some j=>
  rw[hi]at h
  have hz:j.zero=some (.pointer none):=by simpa using h
  simp[zeroValue,typeInfo,hi,hz,Result.andThen]
def LMf(ad:List Nat)(m:List (Nat×Nat))(f:Nat->Option Value):Prop:=
 (∀i,i<ad.length->f (adA ad i)=(m.lookup i).map (adV ad))/\(∀b,(f b).isSome=true->b∈ad)/\∀p∈m,p.1<ad.length/\p.2<ad.length
def LM(ad:List Nat)(m:List (Nat×Nat))(lb:Nat)(w:World):Prop:=
 ∃n f,MapHas (fun _:Nat=>True) ptrK w lb n f/\LMf ad m f
theorem LM.kept{ad:List Nat}{m:List (Nat×Nat)}{lb:Nat}{w w':World}(h:LM ad m lb w)(hk:w'.heap[lb]?=w.heap[lb]?):LM ad m lb w':=by
 obtain⟨n,f,h1,h2⟩:=h
 exact⟨n,f,h1.kept hk,h2⟩
theorem LM.lt{ad:List Nat}{m:List (Nat×Nat)}{lb:Nat}{w:World}(h:LM ad m lb w):lb<w.heap.size:=by
 obtain⟨n,f,h1,_⟩:=h
 exact h1.lt
theorem lookup_memT{m:List (Nat×Nat)}{i j:Nat}(h:m.lookup i=some j):(i,j)∈m:=by
 induction m with
 |nil=>cases h
 |cons p r ih=>
  obtain⟨a,b⟩:=p
  rw[List.lookup_cons]at h
  by_cases he:i=a
  ·subst he;simp at h;subst h;exact mem_cons_self ..
  ·rw[beq_false_of_ne he]at h;exact mem_cons_of_mem _ (ih h)
theorem lookup_snoc(m:List (Nat×Nat))(i j k:Nat):(m++[(i,j)]).lookup k=(m.lookup k).or (if k=i then some j else none):=by
 induction m with
 |nil=>
  rw[nil_append,List.lookup_cons]
  by_cases h:k=i
  ·subst h;simp
  ·rw[beq_false_of_ne h,if_neg h];rfl
 |cons p r ih=>
  obtain⟨a,b⟩:=p
  rw[cons_append,List.lookup_cons,List.lookup_cons,ih]
  by_cases h:k=a
  ·subst h;simp
  ·rw[beq_false_of_ne h]
section
variable {ar:Nm->Nat}{ad:List Nat}{X:Nat->Prop}{rk:Nat->Nat}{σ:TS}{w:World}{r lb d:Nat}{m:List (Nat×Nat)}
theorem StoM.isVarM(h:StoM ar ad X rk σ w){b:Nat}(hb:b∈ad):isVarB w b:=by
 obtain⟨i,hi,rfl⟩:=h.mem_of hb
 obtain⟨pv,fv,h1,_⟩:=h.node i hi
 exact⟨_,_,h1⟩
theorem adA_app(l:List Nat){i:Nat}(hi:i<ad.length):adA (ad++l) i=adA ad i:=by
 unfold adA;rw[List.getElem?_append_left hi]
theorem adV_app(l:List Nat){i:Nat}(hi:i<ad.length):adV (ad++l) i=adV ad i:=by
 unfold adV;rw[adA_app l hi]
theorem adA_new(b:Nat):adA (ad++[b]) ad.length=b:=by unfold adA;simp
theorem LMf.more{f:Nat->Option Value}(h:LMf ad m f)(b:Nat)(hb:b∉ad):LMf (ad++[b]) m f:=by
 obtain⟨h2,h3,h4⟩:=h
 refine⟨fun i hi=>?_,fun x hx=>List.mem_append_left _ (h3 x hx),fun p hp=>?_⟩
 ·rw[length_append,List.length_singleton]at hi
  by_cases hil:i<ad.length
  ·rw[adA_app _ hil,h2 i hil]
   cases hl:m.lookup i with
   |none=>rfl
   |some j=>simp only[Option.map_some];rw[adV_app _ (h4 _ (lookup_memT hl)).2]
  ·have:i=ad.length:=by omega
   subst this
   rw[adA_new]
   have hf:f b=none:=by
    cases hfb:f b with
    |none=>rfl
    |some v=>exact absurd (h3 b (by rw[hfb];rfl)) hb
   rw[hf]
   cases hl:m.lookup ad.length with
   |none=>rfl
   |some j=>have:=(h4 _ (lookup_memT hl)).1;simp at this
 ·have:=h4 p hp
  rw[length_append];omega
theorem LM.more(h:LM ad m lb w)(b:Nat)(hb:b∉ad):LM (ad++[b]) m lb w:=by
 obtain⟨n,f,h1,h2⟩:=h
 exact⟨n,f,h1,h2.more b hb⟩
theorem LMf.add{f:Nat->Option Value}(h:LMf ad m f)(hp:ad.Pairwise (· < ·)){j:Nat}(hr:r<ad.length)(hj:j<ad.length)(hl:m.lookup r=none):LMf ad (m++[(r,j)]) (fun y=>if y=adA ad r then some (adV ad j)else f y):=by
 obtain⟨h2,h3,h4⟩:=h
 refine⟨fun i hi=>?_,fun x hx=>?_,fun p hq=>?_⟩
 ·simp only
  rw[lookup_snoc]
  by_cases hir:i=r
  ·subst hir;rw[if_pos rfl,if_pos rfl,hl];rfl
  ·rw[if_neg (fun e=>hir (adA_inj hp hi hr e)),if_neg hir,h2 i hi,Option.or_none]
 ·simp only at hx
  split at hx
  ·next e=>subst e;exact adA_mem hr
  ·exact h3 x hx
 ·rcases mem_append.1 hq with hq|hq
  ·exact h4 p hq
  ·rw[mem_singleton.1 hq];exact⟨hr,hj⟩
def AnsI(ar:Nm->Nat)(ad:List Nat)(X:Nat->Prop)(lb:Nat)(o:Nat×TS×List (Nat×Nat))(w:World)(e:Ending)(w':World):Prop:=
 ∃l rk',e=.returned (adV (ad++l) o.1)/\o.1<o.2.1.nodes.length/\StoM ar (ad++l) X rk' o.2.1 w'/\LM (ad++l) o.2.2 lb w'/\Kn (fun k=>k∈ad\/k=lb) w w'/\∀b∈l,w.heap.size<=b
def liOf(σ:TS)(d:Nat)(m:List (Nat×Nat))(r:Nat):Nat×TS×List (Nat×Nat):=
 if σ.depth r≠openD then(r,σ,m)
 else match m.lookup r with
  |some j=>(j,σ,m)
  |none=>(σ.nodes.length,(σ.letter d).2,m++[(r,σ.nodes.length)])
theorem letterInstance_any(h:StoM ar ad X rk σ w)(hi:r<σ.nodes.length)(hm:LM ad m lb w) :
  Calls prog 297 #[adV ad r,.int .i64 d,.map (some lb)] w (AnsI ar ad X lb (liOf σ d m r) w):=by
 obtain⟨pv,fv,_,_,_,c3,_,_,_,_⟩:=h.cell hi
 have hdep:(σ.node r).depth=σ.depth r:=rfl
 rw[hdep]at c3
 have hil:r<ad.length:=by rw[h.len];exact hi
 obtain⟨n,f,m1,m2,m3,m4⟩:=hm
 have mf:LMf ad m f:=⟨m2,m3,m4⟩
 have hS:∀w',StoM ar ad X rk σ w'->∀y,(f y).isSome=true->isVarB w' y:=fun w' h' y hy=>h'.isVarM (m3 y hy)
 have hlook:=m1.look tp_ops under_lm (tp_zero w) (x:=adA ad r) trivial (h.isVarM (adA_mem hil)) (hS w h) false
 simp only[Bool.false_eq_true,if_false]at hlook
 rw[m2 r hil]at hlook
 unfold liOf
 by_cases hd:σ.depth r=openD
 ·rw[if_neg (fun e=>e hd)]
  rw[hd]at c3
  cases hlk:m.lookup r with
  |some j=>
   rw[hlk]at hlook
   have hj:=(m4 _ (lookup_memT hlk)).2
   have hq:AnsI ar ad X lb (j,σ,m) w (.returned (adV ad j)) w:=⟨[],rk,by rw[append_nil],by rw[<- h.len];exact hj,by rw[append_nil];exact h,by rw[append_nil];exact⟨n,f,m1,m2,m3,m4⟩,Kn.refl _ _,by simp⟩
   have HQ:=hide hq
   clear mf hq h m1 m2 m3 m4 hS hlk hj hd
   generalize AnsI ar ad X lb (j,σ,m) w=Q at *
   unfold adV ptrV ptrK at *
   simp only[Option.map_some,Option.getD_some]at hlook
   generalize adA ad r=b at *
   generalize adA ad j=bj at *
   go_enter func297,ntmps297
   go_wp2
   exact HQ.out
  |none=>
   rw[hlk]at hlook
   have hnm:w.heap.size∉ad:=fun e=>Nat.lt_irrefl _ (h.ad_lt e)
   have hst:=h.new (t:=⟨[],[],d⟩) (pv:=.slice none 0 0) (by simp) (fun _=>rfl) (fun e=>absurd rfl e) ⟨rfl,inl ⟨rfl,rfl⟩⟩ (fun g hg=>by simp[Value.ownBlock]at hg)
   have hw1:=m1.kept (Below.heap_alloc w (.cells #[.string (bs []),.slice none 0 0,.pointer none,.int .i64 d] tyType) _ m1.lt)
   have hS1:∀y,(f y).isSome=true->isVarB (w.alloc (.cells #[.string (bs []),.slice none 0 0,.pointer none,.int .i64 d] tyType)) y:=fun y hy=>hst.isVarM (List.mem_append_left _ (m3 y hy))
   obtain⟨w2,hup,hm2,ht2⟩:=hw1.store tp_ops under_lm (x:=adA ad r) (v:=ptrV w.heap.size) trivial (hst.isVarM (List.mem_append_left _ (adA_mem hil))) hS1
   have hst2:StoM ar (ad++[w.heap.size]) X rk (σ.letter d).2 w2:=hst.kept (fun k hk=>by obtain⟨c,f,hc⟩:=hst.isT hk;exact turned_other ht2 hc) (fun k c f _ hc=>turned_other ht2 hc)
   have hS2:∀y,((fun y=>if y=adA ad r then some (ptrV w.heap.size)else f y) y).isSome=true->isVarB w2 y:=fun y hy=>by
    simp only at hy
    split at hy
    ·next e=>subst e;exact hst2.isVarM (List.mem_append_left _ (adA_mem hil))
    ·exact hst2.isVarM (List.mem_append_left _ (m3 y hy))
   have hlook2:=hm2.look tp_ops under_lm (tp_zero w2) (x:=adA ad r) trivial (hst2.isVarM (List.mem_append_left _ (adA_mem hil))) hS2 false
   simp only[Bool.false_eq_true,if_false,if_true,Option.getD_some]at hlook2
   have hlm:LM (ad++[w.heap.size]) (m++[(r,σ.nodes.length)]) lb w2:=by
    have h1:=(mf.more w.heap.size hnm).add hst.lt (r:=r) (j:=ad.length) (by rw[length_append];omega) (by simp) hlk
    rw[adA_app _ hil,show adV (ad++[w.heap.size]) ad.length=ptrV w.heap.size by unfold adV;rw[adA_new]]at h1
    rw[<- h.len]
    exact⟨_,_,hm2,h1⟩
   have hq:AnsI ar ad X lb (σ.nodes.length,(σ.letter d).2,m++[(r,σ.nodes.length)]) w (.returned (ptrV w.heap.size)) w2:=
    ⟨[w.heap.size],rk,by unfold adV;rw[<- h.len,adA_new],by simp[TS.letter,TS.new],hst2,hlm,(((Kn.refl _ w).alloc _).turned ht2 (inl (inr rfl))),fun b hb=>by rw[mem_singleton.1 hb];exact le_refl _⟩
   have hc:=NewLetter_any d w
   have HC:=hide hc
   have HQ:=hide hq
   clear mf hc hq h m1 m2 m3 m4 hS hlk hd hnm hst hw1 hS1 hm2 ht2 hst2 hS2 hlm
   generalize AnsI ar ad X lb (σ.nodes.length,(σ.letter d).2,m++[(r,σ.nodes.length)]) w=Q at *
   unfold adV ptrV ptrK at *
   simp only[Option.map_none,Option.getD_none]at hlook
   generalize adA ad r=b at *
   go_enter func297,ntmps297
   go_wp2_with fail
   refine(HC.out).mono ?_;rintro e w1⟨rfl,rfl⟩
   go_wp2
   exact HQ.out
 ·rw[if_pos hd]
  have hd2:¬((σ.depth r:Int)=9223372036854775807):=fun e=>hd (by unfold openD;omega)
  have hq:AnsI ar ad X lb (r,σ,m) w (.returned (adV ad r)) w:=⟨[],rk,by rw[append_nil],hi,by rw[append_nil];exact h,by rw[append_nil];exact⟨n,f,m1,m2,m3,m4⟩,Kn.refl _ _,by simp⟩
  have HQ:=hide hq
  clear mf hq h m1 m2 m3 m4 hS hlook hdep hd
  generalize AnsI ar ad X lb (r,σ,m) w=Q at *
  generalize σ.depth r=dp at *
  unfold adV ptrV at *
  generalize adA ad r=b at *
  go_enter func297,ntmps297
  go_wp2
  exact HQ.out
end
end
section
open Go.RowKit
section
variable {ar:Nm->Nat}{ad:List Nat}{X:Nat->Prop}{rk:Nat->Nat}{σ:TS}{w w':World}{i:Nat}
theorem stand_visits(tbx t:Nat)(ht:t<σ.nodes.length):Visits ar ad X rk σ 265 #[.pointer (some ⟨tbx,0,none⟩)] (fun _ j=>j != t) (·∈ad) (fun acc=>lower σ t acc) (fun _ w=>w.heap[tbx]?=some (.cells #[adV ad t] tyTypeP (0,0))) (fun _=>True) where
 enters:=Enters.stand1
 good _ _ _ _:=trivial
 alike acc:=lower_alike acc σ t
 ads k hk:=hk
 rows acc w k c f hs _ hd hc:=by
  obtain⟨c2,f2,h2⟩:=hs.isT hd
  rw[hc]at h2
  exact absurd (cells_ty h2) (by decide)
 stays acc w w' hz hs hk:=by rw[hk.block tbx (lt_of_heap hz) (box_ne (by decide) hz hs)];exact hz
 visit acc r w _ hs hz hr hrr:=by
  have hlen:=(lower_alike acc σ t).len
  refine(stand1_any hs (by rw[hlen];exact hr) (by rw[hlen];exact ht) hz).mono ?_
  rintro e w'⟨rfl,h2,h3⟩
  rw[lower_snoc]
  exact⟨rfl,h2,by rw[h3.block tbx (lt_of_heap hz) (box_ne (by decide) hz hs)];exact hz,h3⟩
def AnsU(ar:Nm->Nat)(ad:List Nat)(X:Nat->Prop)(o:Option TS)(w:World)(e:Ending)(w':World):Prop:=
 Kn (·∈ad) w w'/\((o=none/\e=.returned (.bool false))\/∃σ' rk',o=some σ'/\e=.returned (.bool true)/\StoM ar ad X rk' σ' w')
theorem standFor_any{t o:Nat}(h:StoM ar ad X rk σ w)(ht:t<σ.nodes.length)(ho:o<σ.nodes.length)(hl:σ.isLetter t=true)(h1:σ.root t=t)(h2:σ.root o=o)(hne:t≠o) :
  Calls prog 238 #[adV ad t,adV ad o] w (AnsU ar ad X (σ.standFor t o) w):=by
 rw[TS.standFor_eq]
 have hF:=Fits_any (h.alloc (.cells #[adV ad t] tyTypeP)) ho
 have hbox:(w.alloc (.cells #[adV ad t] tyTypeP)).heap[w.heap.size]?=some (.cells #[adV ad t] tyTypeP (0,0)):=(MapKept.heap_alloc w _).1
 have hK0:Kn (·∈ad) w (w.alloc (.cells #[adV ad t] tyTypeP)):=(Kn.refl _ w).alloc _
 cases hf:σ.fits o with
 |false=>
  rw[hf]at hF
  have hq:∀w1,AnsTB ar ad X rk σ (.bool false) (w.alloc (.cells #[adV ad t] tyTypeP)) (.returned (.bool false)) w1->AnsU ar ad X none w (.returned (.bool false)) w1:=fun w1 ha=>⟨hK0.trans ha.2.2,inl ⟨rfl,rfl⟩⟩
  simp only[Bool.false_and,Bool.false_eq_true,if_false]
  have HF:=hide hF
  have HQ:=hide hq
  clear hF hq h hbox hK0
  have hret:∀e w1,AnsTB ar ad X rk σ (.bool false) (w.alloc (.cells #[adV ad t] tyTypeP)) e w1->e=.returned (.bool false):=fun e w1 ha=>ha.1
  have HRET:=hide hret
  clear hret
  generalize AnsU ar ad X none w=Q at *
  generalize hQ1:AnsTB ar ad X rk σ (.bool false) (w.alloc (.cells #[adV ad t] tyTypeP))=Q1 at *
  clear hQ1
  unfold adV ptrV at *
  go_enter func238,ntmps238
  go_wp2_with fail
  refine(HF.out).mono ?_;intro e w1 ha
  obtain rfl:=HRET.out e w1 ha
  have HE:=hide (HQ.out w1 ha)
  clear ha HQ HF HRET
  go_wp2
  exact HE.out
 |true=>
  rw[hf]at hF
  obtain⟨acc',b,hwk⟩:=TS.fits_end hf (fun _ j=>j != t)
  have hw:∀w1,AnsTB ar ad X rk σ (.bool true) (w.alloc (.cells #[adV ad t] tyTypeP)) (.returned (.bool true)) w1->Kn (·∈ad) w w1/\w1.heap[w.heap.size]?=some (.cells #[adV ad t] tyTypeP (0,0))/\Calls prog 98 #[adV ad o,.func (.func 265) #[] #[.pointer (some ⟨w.heap.size,0,none⟩)]] w1 (AnsWk ar ad X rk (·∈ad) (fun acc=>lower σ t acc) (fun _ w1=>w1.heap[w.heap.size]?=some (.cells #[adV ad t] tyTypeP (0,0))) acc' b w1):=by
   intro w1 ha
   have hz:w1.heap[w.heap.size]?=some (.cells #[adV ad t] tyTypeP (0,0)):=by
    rw[ha.2.2.block _ (lt_of_heap hbox) (box_ne (by decide) hbox (h.alloc _))];exact hbox
   exact⟨hK0.trans ha.2.2,hz,walk_any (stand_visits w.heap.size t ht) wkFuel [] o w1 acc' b hwk ho trivial ha.2.1 hz⟩
  have hret:∀e w1,AnsTB ar ad X rk σ (.bool true) (w.alloc (.cells #[adV ad t] tyTypeP)) e w1->e=.returned (.bool true):=fun e w1 ha=>ha.1
  have hwpost:∀w1 e w2,AnsWk ar ad X rk (·∈ad) (fun acc=>lower σ t acc) (fun _ w1=>w1.heap[w.heap.size]?=some (.cells #[adV ad t] tyTypeP (0,0))) acc' b w1 e w2->e=.returned (.bool b)/\StoM ar ad X rk (lower σ t acc') w2/\w2.heap[w.heap.size]?=some (.cells #[adV ad t] tyTypeP (0,0))/\Kn (·∈ad) w1 w2:=fun w1 e w2 ha=>ha
  rw[hwk]
  cases b with
  |false=>
   have hq:∀w1 w2,Kn (·∈ad) w w1->Kn (·∈ad) w1 w2->AnsU ar ad X none w (.returned (.bool false)) w2:=fun w1 w2 a b=>⟨a.trans b,inl ⟨rfl,rfl⟩⟩
   simp only[Bool.true_and,Option.any_some,Bool.false_eq_true,if_false]
   have HF:=hide hF
   have HQ:=hide hq
   have HW:=hide hw
   have HRET:=hide hret
   have HWP:=hide hwpost
   clear hF hq h hbox hK0 hw hret hwpost hwk hf
   generalize AnsU ar ad X none w=Q at *
   generalize hQ1:AnsTB ar ad X rk σ (.bool true) (w.alloc (.cells #[adV ad t] tyTypeP))=Q1 at *
   generalize hQ2:AnsWk ar ad X rk (·∈ad) (fun acc=>lower σ t acc) (fun _ w1=>w1.heap[w.heap.size]?=some (.cells #[adV ad t] tyTypeP (0,0))) acc' false=Q2 at *
   clear hQ1 hQ2
   unfold adV ptrV at *
   go_enter func238,ntmps238
   go_wp2_with fail
   refine(HF.out).mono ?_;intro e w1 ha
   obtain rfl:=HRET.out e w1 ha
   obtain⟨k1,_,hc⟩:=HW.out w1 ha
   have HC:=hide hc
   have HK1:=hide k1
   clear ha HF HRET HW hc k1
   go_wp2_with fail
   refine(HC.out).mono ?_;intro e w2 ha
   obtain⟨rfl,_,_,k2⟩:=HWP.out w1 e w2 ha
   have HE:=hide (HQ.out w1 w2 HK1.out k2)
   clear ha HQ HC HK1 HWP k2
   go_wp2
   exact HE.out
  |true=>
   have hpre:acc'=σ.pre o:=by
    have h3:=wk_true hwk
    rw[TS.fits_pre hf]at h3
    simp at h3;exact h3.symm
   subst hpre
   have hal:=lower_alike (σ.pre o) σ t
   have hmem:adA ad t∈ad:=adA_mem (by rw[h.len];exact ht)
   have hq:∀w1 w2,Kn (·∈ad) w w1->Kn (·∈ad) w1 w2->StoM ar ad X rk (lower σ t (σ.pre o)) w2->w2.heap[w.heap.size]?=some (.cells #[adV ad t] tyTypeP (0,0))->w2.cell? ⟨w.heap.size,0,none⟩=some (adV ad t)/\(∃old,w2.cell? ⟨adA ad t,2,none⟩=some old)/\w2.frozen? ⟨adA ad t,2,none⟩=false/\AnsU ar ad X (some ((lower σ t (σ.pre o)).found t o)) w (.returned (.bool true)) (w2.setCell ⟨adA ad t,2,none⟩ (adV ad o)):=by
    intro w1 w2 k1 k2 hs hz
    obtain⟨pv,fv,_,_,c3,_,f3,_⟩:=hs.cell (i:=t) (by rw[hal.len];exact ht)
    refine⟨by simp[World.cell?,hz],⟨fv,c3⟩,f3,(k1.trans k2).set (inl hmem) _,inr ⟨_,_,rfl,rfl,hs.found (by rw[hal.len];exact ht) (by rw[hal.len];exact ho) (by rw[hal.isLetter];exact hl) (by rw[hal.root];exact h1) (by rw[hal.root];exact h2) hne⟩⟩
   simp only[Bool.true_and,Option.any_some,if_true]
   have HF:=hide hF
   have HQ:=hide hq
   have HW:=hide hw
   have HRET:=hide hret
   have HWP:=hide hwpost
   clear hF hq h hbox hK0 hw hret hwpost hwk hf hal hmem
   generalize AnsU ar ad X (some ((lower σ t (σ.pre o)).found t o)) w=Q at *
   generalize hQ1:AnsTB ar ad X rk σ (.bool true) (w.alloc (.cells #[adV ad t] tyTypeP))=Q1 at *
   generalize hQ2:AnsWk ar ad X rk (·∈ad) (fun acc=>lower σ t acc) (fun _ w1=>w1.heap[w.heap.size]?=some (.cells #[adV ad t] tyTypeP (0,0))) (σ.pre o) true=Q2 at *
   clear hQ1 hQ2
   unfold adV ptrV at *
   go_enter func238,ntmps238
   go_wp2_with fail
   refine(HF.out).mono ?_;intro e w1 ha
   obtain rfl:=HRET.out e w1 ha
   obtain⟨k1,_,hc⟩:=HW.out w1 ha
   have HC:=hide hc
   have HK1:=hide k1
   clear ha HF HRET HW hc k1
   go_wp2_with fail
   refine(HC.out).mono ?_;intro e w2 ha
   obtain⟨rfl,s2,z2,k2⟩:=HWP.out w1 e w2 ha
   obtain⟨q1,⟨old,q2⟩,q3,q4⟩:=HQ.out w1 w2 HK1.out k2 s2 z2
   have HE:=hide q4
   clear ha HQ HC HK1 HWP k2 s2 z2 q4
   go_wp2
   exact HE.out
end
end
section
structure SameN(σ τ:TS):Prop where
 len:τ.nodes.length=σ.nodes.length
 given:τ.given=σ.given
 name:∀i,(τ.node i).name=(σ.node i).name
 parts:∀i,(τ.node i).parts=(σ.node i).parts
theorem SameN.refl(σ:TS):SameN σ σ:=⟨rfl,rfl,fun _=>rfl,fun _=>rfl⟩
theorem SameN.trans{a b c:TS}(h:SameN a b)(k:SameN b c):SameN a c:=⟨k.len.trans h.len,k.given.trans h.given,fun i=>(k.name i).trans (h.name i),fun i=>(k.parts i).trans (h.parts i)⟩
theorem Alike.sameN{a b:TS}(h:Alike a b):SameN a b:=⟨h.len,h.given,h.name,h.parts⟩
theorem standFor_same{σ σ':TS}{t o:Nat}(h:σ.standFor t o=some σ'):SameN σ σ':=by
 rw[TS.standFor_eq]at h
 split at h
 ·cases h
  exact(lower_alike (σ.pre o) σ t).sameN.trans ⟨rfl,rfl,fun _=>rfl,fun _=>rfl⟩
 ·cases h
theorem unL_same{g:TS->Nat->Nat->Nat->Option (TS×Nat)}(hg:∀σ pl a b σ' pl',g σ pl a b=some (σ',pl')->SameN σ σ'/\pl<=pl') :
  ∀(az bs:List Nat)(σ:TS)(pl:Nat)(σ':TS)(pl':Nat),un.unL g σ pl az bs=some (σ',pl')->SameN σ σ'/\pl<=pl':=by
 intro az
 induction az with
 |nil=>intro bs σ pl σ' pl' hs;rw[un.unL]at hs;cases hs;exact⟨SameN.refl _,le_refl _⟩;intro _ _ _ _ h;cases h
 |cons a az ih=>
  intro bs σ pl σ' pl' hs
  cases bs with
  |nil=>rw[un.unL]at hs;cases hs;exact⟨SameN.refl _,le_refl _⟩;intro _ _ _ _ _ h;cases h
  |cons b bs=>
   rw[un.unL]at hs
   cases hgx:g σ pl a b with
   |none=>rw[hgx]at hs;cases hs
   |some x=>
    obtain⟨σ1,pl1⟩:=x
    rw[hgx]at hs
    obtain⟨s1,l1⟩:=hg σ pl a b σ1 pl1 hgx
    obtain⟨s2,l2⟩:=ih bs σ1 pl1 σ' pl' hs
    exact⟨s1.trans s2,le_trans l1 l2⟩
theorem un_same:∀(n:Nat)(σ:TS)(pl a b:Nat)(σ':TS)(pl':Nat),un n σ pl a b=some (σ',pl')->SameN σ σ'/\pl<=pl':=by
 intro n
 induction n with
 |zero=>intro σ pl a b σ' pl' hs;cases hs
 |succ n ih=>
  intro σ pl a b σ' pl' hs
  rw[un]at hs
  split at hs
  ·cases hs;exact⟨SameN.refl _,by omega⟩
  ·split at hs
   ·cases hs
   ·split at hs
    ·cases hx:σ.standFor (σ.root a) (σ.root b)with
     |none=>rw[hx]at hs;cases hs
     |some y=>rw[hx]at hs;cases hs;exact⟨standFor_same hx,by omega⟩
    ·split at hs
     ·cases hx:σ.standFor (σ.root b) (σ.root a)with
      |none=>rw[hx]at hs;cases hs
      |some y=>rw[hx]at hs;cases hs;exact⟨standFor_same hx,by omega⟩
     ·split at hs
      ·obtain⟨h1,h2⟩:=unL_same (fun σ pl a b σ' pl' h=>ih σ pl a b σ' pl' h) _ _ _ _ _ _ hs
       exact⟨h1,by omega⟩
      ·cases hs
theorem unL_bound{A B:Nat}{g:TS->Nat->Nat->Nat->Option (TS×Nat)}(hs:∀σ pl a b σ' pl',g σ pl a b=some (σ',pl')->SameN σ σ')(hg:∀σ pl a b σ' pl',(∀i,(σ.node i).parts.length<=A)->g σ pl a b=some (σ',pl')->pl'<=max (pl+1) B) :
  ∀(az bs:List Nat)(σ:TS)(pl:Nat)(σ':TS)(pl' k:Nat),(∀i,(σ.node i).parts.length<=A)->pl<=B+k->un.unL g σ pl az bs=some (σ',pl')->pl'<=B+k+az.length:=by
 intro az
 induction az with
 |nil=>intro bs σ pl σ' pl' k _ hk h;rw[un.unL]at h;cases h;simpa using hk;intro _ _ _ _ h;cases h
 |cons a az ih=>
  intro bs σ pl σ' pl' k hA hk h
  cases bs with
  |nil=>rw[un.unL]at h;cases h;simp;omega;intro _ _ _ _ _ h;cases h
  |cons b bs=>
   rw[un.unL]at h
   cases hgx:g σ pl a b with
   |none=>rw[hgx]at h;cases h
   |some x=>
    obtain⟨σ1,pl1⟩:=x
    rw[hgx]at h
    have s1:=hs σ pl a b σ1 pl1 hgx
    have l1:=hg σ pl a b σ1 pl1 hA hgx
    have:=ih bs σ1 pl1 σ' pl' (k+1) (fun i=>by rw[s1.parts];exact hA i) (by omega) h
    rw[length_cons];omega
theorem un_bound{A:Nat}:∀(n:Nat)(σ:TS)(pl a b:Nat)(σ':TS)(pl':Nat),(∀i,(σ.node i).parts.length<=A)->un n σ pl a b=some (σ',pl')->pl'<=max (pl+1) (201+n*A):=by
 intro n
 induction n with
 |zero=>intro σ pl a b σ' pl' _ hs;cases hs
 |succ n ih=>
  intro σ pl a b σ' pl' hA hs
  rw[un]at hs
  split at hs
  ·cases hs;omega
  ·split at hs
   ·cases hs
   ·rename_i hbig
    split at hs
    ·cases hx:σ.standFor (σ.root a) (σ.root b)with
     |none=>rw[hx]at hs;cases hs
     |some y=>rw[hx]at hs;cases hs;omega
    ·split at hs
     ·cases hx:σ.standFor (σ.root b) (σ.root a)with
      |none=>rw[hx]at hs;cases hs
      |some y=>rw[hx]at hs;cases hs;omega
     ·split at hs
      ·have h1:=unL_bound (A:=A) (B:=201+n*A) (fun σ pl a b σ' pl' h=>(un_same n σ pl a b σ' pl' h).1) (fun σ pl a b σ' pl' h1 h2=>ih σ pl a b σ' pl' h1 h2) _ _ _ _ _ _ 0 hA (by unfold maxSize at hbig;omega) hs
       have h2:=hA (σ.root a)
       rw[Nat.succ_mul]
       omega
      ·cases hs
end
end Go.Proofs.YtbkiipiocpnnnaaGreatDoor
