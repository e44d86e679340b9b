import Derived.Test.YtcbppnefeonmgaaGreatDoorC6
set_option linter.all false
set_option maxHeartbeats 40000000
set_option maxRecDepth 100000
open Go.Proofs.Tryz
open Or (inl inr)
open Nat (le_refl lt_of_lt_of_le)
open List (length_cons mem_cons_self mem_cons_of_mem mem_cons map_cons)
namespace Go.Proofs.YtcbppnefeonmgaaGreatDoor
open Go.RowKit
def kdOf(c:Nat)(is name:Nm):Nat×Nm:=
 if c=6 then(16,[])
 else if c=5 then(19,name)
 else if c=3 then(20,name)
 else if c=2 then(if is=K.var_ then(21,name.drop 1)else if is=K.named_ then(22,name)else(23,[]))
 else if c=4 then(if is=K.do_ then(17,[])else if is=K.type_ then(18,name)else if is=K.let_ then(6,name)else(7,name))
 else if is=K.num_ then(0,name)
 else if is=K.const_ then(if name=K.under_ then(4,name)else if name=K.unit_ then(2,name)else(1,name))
 else if is=K.var_ then(3,name)
 else if is=K.fun_ then(5,name)
 else if is=K.let_ then(6,name)
 else if is=K.rec_ then(7,name)
 else if is=K.if_ then(8,[])
 else if is=K.seq_ then(9,[])
 else if is=K.setN_ then(10,[])
 else if is=K.bang_ then(12,[])
 else if is=K.app_ then(13,[])
 else if is=K.con_ then(14,name)
 else if is=K.match_ then(15,[])
 else(11,is)
def partC(c:Nat)(is:Nm)(i:Nat)(t:Tr):Nat:=
 if c=6 then(if i=0 then 1 else 0)
 else if c=3 then 2
 else if c=2 then 2
 else if c=4 then(if is=K.type_ then(if t.is=K.var_ then 5 else 3)else 0)
 else if c=0 then(if is=K.match_ then(if i=0 then 0 else 6)else 0)
 else c
def ndOf:Nat->Tr->Nd
 |c,.mk is name ts=>.mk (kdOf c is name).1 (kdOf c is name).2 (nds c is 0 ts)
 where
 nds (c:Nat) (is:Nm):Nat->List Tr->List Nd
  |_,[]=>[]
  |i,t::r=>ndOf (partC c is i t) t::nds c is (i+1) r
theorem ndOf_mk(c:Nat)(is name:Nm)(ts:List Tr):ndOf c (.mk is name ts)=.mk (kdOf c is name).1 (kdOf c is name).2 (ndOf.nds c is 0 ts):=by rw[ndOf]
theorem kd_low{c:Nat}(h:c<=1):c≠6/\c≠5/\c≠3/\c≠2/\c≠4:=by omega
theorem KindOf.kd{c:Nat}{is name:List UInt8}{k:Int}{txt:List UInt8}{cs:List Nat}(h:KindOf c is name k txt cs):(kdOf c is name).2=txt/\((kdOf c is name).1:Int)=k:=by
 refine h (fun c is name k txt _=>(kdOf c is name).2=txt/\((kdOf c is name).1:Int)=k) ?_ ?_ ?_ ?_ ?_ ?_ ?_ ?_ ?_ ?_ ?_ ?_ ?_ ?_ ?_ ?_ ?_ ?_ ?_ ?_ ?_ ?_ ?_ ?_ ?_ ?_
 ·intro c hc x;obtain⟨h1,h2,h3,h4,h5⟩:=kd_low hc;simp[kdOf,h1,h2,h3,h4,h5]
 ·intro c hc x hx;obtain⟨h1,h2,h3,h4,h5⟩:=kd_low hc
  rcases hx with rfl|rfl<;>simp[kdOf,h1,h2,h3,h4,h5,show ¬K.const_=K.num_ by decide,show ¬K.true_=K.under_ by decide,show ¬K.true_=K.unit_ by decide,show ¬K.false_=K.under_ by decide,show ¬K.false_=K.unit_ by decide]
 ·intro c hc;obtain⟨h1,h2,h3,h4,h5⟩:=kd_low hc;simp[kdOf,h1,h2,h3,h4,h5,show ¬K.const_=K.num_ by decide,show ¬K.unit_=K.under_ by decide]
 ·intro c hc x;obtain⟨h1,h2,h3,h4,h5⟩:=kd_low hc;simp[kdOf,h1,h2,h3,h4,h5,show ¬K.var_=K.num_ by decide,show ¬K.var_=K.const_ by decide]
 ·exact⟨rfl,rfl⟩
 ·intro x;exact⟨rfl,rfl⟩
 ·intro x;exact⟨rfl,rfl⟩
 ·intro x;exact⟨rfl,rfl⟩
 ·exact⟨rfl,rfl⟩
 ·exact⟨rfl,rfl⟩
 ·exact⟨rfl,rfl⟩
 ·intro x hx
  simp only[mem_cons,List.not_mem_nil,or_false]at hx
  rcases hx with rfl|rfl|rfl|rfl|rfl|rfl<;>exact⟨rfl,rfl⟩
 ·exact⟨rfl,rfl⟩
 ·exact⟨rfl,rfl⟩
 ·intro c hc x n;obtain⟨h1,h2,h3,h4,h5⟩:=kd_low hc
  have e:c=0\/c=1:=by omega
  rcases e with rfl|rfl<;>exact⟨rfl,rfl⟩
 ·intro n;exact⟨rfl,rfl⟩
 ·exact⟨rfl,rfl⟩
 ·exact⟨rfl,rfl⟩
 ·intro x n m;exact⟨rfl,rfl⟩
 ·intro x;exact⟨rfl,rfl⟩
 ·intro x n;exact⟨rfl,rfl⟩
 ·intro x;exact⟨rfl,rfl⟩
 ·intro x n;exact⟨rfl,rfl⟩
 ·exact⟨rfl,rfl⟩
 ·intro x;exact⟨rfl,rfl⟩
 ·intro x;exact⟨rfl,rfl⟩
theorem KindOf.own_is{is name:List UInt8}{k:Int}{txt:List UInt8}{cs:List Nat}(h:KindOf 5 is name k txt cs):is=K.var_:=
 h (fun c is _ _ _ _=>c=5->is=K.var_) (fun c hc _ e=>by omega) (fun c hc _ _ e=>by omega) (fun c hc e=>by omega) (fun c hc _ e=>by omega) (fun e=>by omega) (fun _ e=>by omega) (fun _ e=>by omega) (fun _ e=>by omega) (fun e=>by omega) (fun e=>by omega) (fun e=>by omega) (fun _ _ e=>by omega) (fun e=>by omega) (fun e=>by omega) (fun c hc _ _ e=>by omega) (fun _ e=>by omega) (fun e=>by omega) (fun e=>by omega) (fun _ _ _ e=>by omega) (fun _ _=>rfl) (fun _ _ e=>by omega) (fun _ e=>by omega) (fun _ _ e=>by omega) (fun e=>by omega) (fun _ e=>by omega) (fun _ e=>by omega) rfl
theorem KindOf.variant_is{is name:List UInt8}{k:Int}{txt:List UInt8}{cs:List Nat}(h:KindOf 3 is name k txt cs):is=K.named_:=
 h (fun c is _ _ _ _=>c=3->is=K.named_) (fun c hc _ e=>by omega) (fun c hc _ _ e=>by omega) (fun c hc e=>by omega) (fun c hc _ e=>by omega) (fun e=>by omega) (fun _ e=>by omega) (fun _ e=>by omega) (fun _ e=>by omega) (fun e=>by omega) (fun e=>by omega) (fun e=>by omega) (fun _ _ e=>by omega) (fun e=>by omega) (fun e=>by omega) (fun c hc _ _ e=>by omega) (fun _ e=>by omega) (fun e=>by omega) (fun e=>by omega) (fun _ _ _ e=>by omega) (fun _ e=>by omega) (fun _ _ _=>rfl) (fun _ e=>by omega) (fun _ _ e=>by omega) (fun e=>by omega) (fun _ e=>by omega) (fun _ e=>by omega) rfl
def PartsOk(c:Nat)(is:Nm)(cs:List Nat)(ts:List Tr):Prop:=∀(j:Nat)(t:Tr)(d:Nat),cs[j]?=some d->ts[j]?=some t->(d=5->t.is=K.var_)->(d=3->t.is=K.named_)->partC c is j t=d
theorem KindOf.parts{c:Nat}{is name:List UInt8}{k:Int}{txt:List UInt8}{cs:List Nat}(h:KindOf c is name k txt cs)(ts:List Tr):PartsOk c is cs ts:=by
 refine h (fun c is _ _ _ cs=>PartsOk c is cs ts) ?_ ?_ ?_ ?_ ?_ ?_ ?_ ?_ ?_ ?_ ?_ ?_ ?_ ?_ ?_ ?_ ?_ ?_ ?_ ?_ ?_ ?_ ?_ ?_ ?_ ?_
 ·intro c hc x j t d hd;simp at hd
 ·intro c hc x hx j t d hd;simp at hd
 ·intro c hc j t d hd;simp at hd
 ·intro c hc x j t d hd;simp at hd
 ·intro j t d hd;simp at hd
 ·intro x j t d hd _ _ _
  match j,hd with
  |0,hd=>cases hd;rfl
 ·intro x j t d hd _ _ _
  match j,hd with
  |0,hd=>cases hd;rfl
  |1,hd=>cases hd;rfl
 ·intro x j t d hd _ _ _
  match j,hd with
  |0,hd=>cases hd;rfl
  |1,hd=>cases hd;rfl
 ·intro j t d hd _ _ _
  match j,hd with
  |0,hd=>cases hd;rfl
  |1,hd=>cases hd;rfl
  |2,hd=>cases hd;rfl
 ·intro j t d hd _ _ _
  match j,hd with
  |0,hd=>cases hd;rfl
  |1,hd=>cases hd;rfl
 ·intro j t d hd _ _ _
  match j,hd with
  |0,hd=>cases hd;rfl
  |1,hd=>cases hd;rfl
 ·intro x hx j t d hd _ _ _
  have hp:partC 0 x j t=0:=by
   have hm:¬x=K.match_:=fun e=>by rw[e]at hx;exact absurd hx (by decide)
   simp[partC,hm]
  match j,hd with
  |0,hd=>cases hd;exact hp
  |1,hd=>cases hd;exact hp
 ·intro j t d hd _ _ _
  match j,hd with
  |0,hd=>cases hd;rfl
 ·intro j t d hd _ _ _
  match j,hd with
  |0,hd=>cases hd;rfl
  |1,hd=>cases hd;rfl
 ·intro c hc x n j t d hd _ _ _
  have hd:=(List.getElem?_replicate.symm.trans hd)
  split at hd
  ·cases hd
   have e:c=0\/c=1:=by omega
   rcases e with rfl|rfl<;>rfl
  ·cases hd
 ·intro n j t d hd _ _ _
  cases j with
  |zero=>cases hd;rfl
  |succ j=>
   rw[List.getElem?_cons_succ,List.getElem?_replicate]at hd
   split at hd
   ·cases hd;simp[partC]
   ·cases hd
 ·intro j t d hd _ _ _
  match j,hd with
  |0,hd=>cases hd;rfl
  |1,hd=>cases hd;rfl
 ·intro j t d hd _ _ _
  match j,hd with
  |0,hd=>cases hd;rfl
 ·intro x n m j t d hd _ h5 h3
  rw[List.getElem?_append]at hd
  split at hd
  ·rw[List.getElem?_replicate]at hd
   split at hd
   ·cases hd;simp[partC,h5 rfl]
   ·cases hd
  ·rw[List.getElem?_replicate]at hd
   split at hd
   ·cases hd
    simp[partC,h3 rfl,show ¬K.named_=K.var_ by decide]
   ·cases hd
 ·intro x j t d hd;simp at hd
 ·intro x n j t d hd _ _ _
  rw[List.getElem?_replicate]at hd
  split at hd
  ·cases hd;rfl
  ·cases hd
 ·intro x j t d hd;simp at hd
 ·intro x n j t d hd _ _ _
  rw[List.getElem?_replicate]at hd
  split at hd
  ·cases hd;rfl
  ·cases hd
 ·intro j t d hd _ _ _
  match j,hd with
  |0,hd=>cases hd;rfl
  |1,hd=>cases hd;rfl
 ·intro x j t d hd _ _ _
  match j,hd with
  |0,hd=>cases hd;rfl
 ·intro x j t d hd _ _ _
  match j,hd with
  |0,hd=>cases hd;rfl
section
theorem Named_any(s:ByteArray)(a:Option Addr)(n c:Nat)(w:World) :
  Calls prog 81 #[.string s,.slice a n c] w fun e w'=>e=.returned (ptrV w.heap.size)/\w'=w.alloc (.cells #[.string s,.slice a n c,.pointer none,.int .i64 0] tyType):=by
 unfold ptrV
 generalize hQ:(fun(e:Ending) (w':World)=>e=.returned (.pointer (some ⟨w.heap.size,0,none⟩))/\w'=w.alloc (.cells #[.string s,.slice a n c,.pointer none,.int .i64 0] tyType))=Q
 go_enter func81,ntmps81
 go_wp2
 rw[<- hQ]
 exact⟨rfl,rfl⟩
theorem NewLetter_any(d:Nat)(w:World) :
  Calls prog 80 #[.int .i64 d] w fun e w'=>e=.returned (ptrV w.heap.size)/\w'=w.alloc (.cells #[.string (bs []),.slice none 0 0,.pointer none,.int .i64 d] tyType):=by
 unfold ptrV
 generalize hQ:(fun(e:Ending) (w':World)=>e=.returned (.pointer (some ⟨w.heap.size,0,none⟩))/\w'=w.alloc (.cells #[.string (bs []),.slice none 0 0,.pointer none,.int .i64 d] tyType))=Q
 go_enter func80,ntmps80
 go_wp2
 rw[<- hQ]
 exact⟨rfl,rfl⟩
variable {ar:Nm->Nat}{ad:List Nat}{X:Nat->Prop}{rk:Nat->Nat}{σ:TS}{w w':World}{i j:Nat}
theorem StoM.cell(h:StoM ar ad X rk σ w)(hi:i<σ.nodes.length):∃pv fv,
  w.cell? ⟨adA ad i,0,none⟩=some (.string (bs (σ.node i).name))/\w.cell? ⟨adA ad i,1,none⟩=some pv/\w.cell? ⟨adA ad i,2,none⟩=some fv/\w.cell? ⟨adA ad i,3,none⟩=some (.int .i64 (σ.node i).depth) /\
  w.frozen? ⟨adA ad i,2,none⟩=false/\w.frozen? ⟨adA ad i,3,none⟩=false /\
  w.ownsRow 0 tyTypeP 1 pv (σ.node i).parts.length ((σ.node i).parts.map (adV ad))/\((σ.root i=i/\fv=.pointer none)\/(σ.root i≠i/\∃j,j<σ.nodes.length/\fv=adV ad j/\σ.root j=σ.root i/\rk j<rk i)):=by
 obtain⟨pv,fv,h1,h2,h3⟩:=h.cells hi
 refine⟨pv,fv,?_,?_,?_,?_,?_,?_,h2,h3⟩
 ·simp[World.cell?,h1]
 ·simp[World.cell?,h1]
 ·simp[World.cell?,h1]
 ·simp[World.cell?,h1]
 ·exact frozen_of_row _ _ _ _ _ h1
 ·exact frozen_of_row _ _ _ _ _ h1
theorem bs_empty(l:Nm):(bs l).toList.isEmpty=(l==[]):=by
 rw[ByteArray.toList_eq,bs_data]
 cases l<;>rfl
theorem isLetter_any(h:StoM ar ad X rk σ w)(hi:i<σ.nodes.length) :
  Calls prog 47 #[adV ad i] w fun e w'=>e=.returned (.bool (σ.isLetter i))/\w'=w:=by
 obtain⟨pv,fv,h1,_⟩:=h.cell hi
 have hb:(bs (σ.node i).name).toList.isEmpty=σ.isLetter i:=bs_empty _
 unfold adV ptrV
 generalize hQ:(fun(e:Ending) (w':World)=>e=.returned (.bool (σ.isLetter i))/\w'=w)=Q
 clear h
 generalize adA ad i=b at *
 generalize bs (σ.node i).name=nm at *
 go_enter func47,ntmps47
 go_wp2
 rw[<- hQ]
 exact⟨by rw[<- hb];rfl,rfl⟩
def AnsRoot(ar:Nm->Nat)(ad:List Nat)(X:Nat->Prop)(rk:Nat->Nat)(σ:TS)(i:Nat)(w:World)(e:Ending)(w':World):Prop:=
 e=.returned (adV ad (σ.root i))/\StoM ar ad X rk σ w'/\Kn (·∈ad) w w'/\w'.heap.size=w.heap.size
theorem root_any:∀(n:Nat)(i:Nat)(w:World),rk i<n->StoM ar ad X rk σ w->i<σ.nodes.length->Calls prog 46 #[adV ad i] w (AnsRoot ar ad X rk σ i w):=by
 intro n
 induction n with
 |zero=>intro i w hn;omega
 |succ n ih=>
  intro i w hn h hi
  obtain⟨pv,fv,h1,h2,h3,h4,h5,h6,h7,h8⟩:=h.cell hi
  rcases h8 with⟨hr,rfl⟩|⟨hr,j,hj,rfl,hjr,hrk⟩
  ·have hq:AnsRoot ar ad X rk σ i w (.returned (adV ad i)) w:=⟨by rw[hr],h,Kn.refl _ _,rfl⟩
   have HQ:=hide hq
   clear hq h h1 h2 h4 h5 h6 h7 ih
   unfold adV ptrV at *
   generalize AnsRoot ar ad X rk σ i w=Q at *
   generalize adA ad i=b at *
   go_enter func46,ntmps46
   go_wp2
   exact HQ.out
  ·have hc:=ih j w (by omega) h hj
   have hmem:adA ad i∈ad:=adA_mem (by rw[h.len];exact hi)
   have hq:∀e w1,AnsRoot ar ad X rk σ j w e w1->e=.returned (adV ad (σ.root i))/\w1.frozen? ⟨adA ad i,2,none⟩=false/\(w1.cell? ⟨adA ad i,2,none⟩).isSome=true/\AnsRoot ar ad X rk σ i w (.returned (adV ad (σ.root i))) (w1.setCell ⟨adA ad i,2,none⟩ (adV ad (σ.root i))):=by
    rintro e w1⟨a1,a2,a3,a4⟩
    obtain⟨_,fv2,_,_,c3,_,c5,_⟩:=a2.cell hi
    refine⟨by rw[a1,hjr],c5,by rw[c3];rfl,rfl,a2.shorten hi hr,a3.set (inl hmem) _,by simp[a4]⟩
   have HC:=hide hc
   have HQ:=hide hq
   clear hq hc h h1 h2 h4 h6 h7 ih hmem
   unfold adV ptrV at *
   generalize AnsRoot ar ad X rk σ i w=Q at *
   generalize AnsRoot ar ad X rk σ j w=Q1 at *
   generalize adA ad i=b at *
   generalize adA ad j=b1 at *
   generalize adA ad (σ.root i)=b2 at *
   go_enter func46,ntmps46
   go_wp2_with fail
   refine(HC.out).mono ?_;intro e w1 ha
   obtain⟨rfl,hf,hs,hq⟩:=HQ.out e w1 ha
   have HF:=hide hq
   clear ha hq HQ HC
   obtain⟨old,hold⟩:=Option.isSome_iff_exists.1 hs
   go_wp2
   exact HF.out
end
abbrev tyKey:TypeId:=97
theorem laidOutP:laidOutB prog=true:=by kernel_rfl
theorem key_law:WideMaps.KeyLaw prog tyKey:=
 deep_law_laid laidOutP (m:=5) (by decide) (by
                         have:decide (tyKey<prog.types.size)=true:=by kernel_rfl
                         simpa using this) (by kernel_rfl) (by kernel_rfl)
def kyV(x:Ky):Value:=.agg #[.int .i64 x.1,.string (bs x.2)]
def okK(x:Ky):Prop:=x.1<3/\x.2.length<=100000000
theorem key_fields : (match prog.underlying tyKey with | some (.struct fs) => some (fs.toList.map fun f => (f.name != "_", f.type, f.offset)) | _ => none) = some [(true, 95, 0), (true, tyStr, 1)] := by kernel_rfl
theorem key_type:prog.keyType tyKey=true:=by kernel_rfl
theorem key_cells:(prog.cellsOf tyKey,prog.cellsOf 95,prog.cellsOf tyStr)=(2,1,1):=by kernel_rfl
theorem key_str:prog.underlying tyStr=some .string:=by kernel_rfl
theorem key_deep:∃d,prog.types.size+1=d+2:=⟨prog.types.size-1,by
 have:decide (1<=prog.types.size)=true:=by kernel_rfl
 have:1<=prog.types.size:=of_decide_eq_true this
 omega⟩
theorem ky_key(x:Ky)(h:okK x):∃l,keyOf prog tyKey (kyV x)=some l:=by
 obtain⟨sp,nm⟩:=x
 obtain⟨h1,h2⟩:=h
 simp only at h1 h2
 have hf:=key_fields
 have hc:=key_cells
 simp only[Prod.mk.injEq]at hc
 obtain⟨hc1,hc2,hc3⟩:=hc
 obtain⟨d,hd⟩:=key_deep
 cases hu:prog.underlying tyKey with
 |none=>rw[hu]at hf;cases hf
 |some D=>
  cases D with
  |struct fs=>
   rw[hu]at hf
   have hf : fs.toList.map (fun f => (f.name != "_", f.type, f.offset)) = [(true, 95, 0), (true, tyStr, 1)] := by simpa using hf
   match hfs:fs.toList,hf with
   |[],hf=>simp at hf
   |[_],hf=>simp at hf
   |_::_::_::_,hf=>simp at hf
   |[f1,f2],hf=>
    simp only[map_cons,List.map_nil,List.cons.injEq,Prod.mk.injEq,and_true]at hf
    obtain⟨⟨a1,a2,a3⟩,b1,b2,b3⟩:=hf
    have hall : fs.all (fun f => f.name != "_") = true := by
     rw[<- Array.all_toList,hfs];simp[a1,b1]
    have hwf:(Lit.int .i64 (sp:Int)).wf=true:=by
     have:sp=0\/sp=1\/sp=2:=by omega
     rcases this with rfl|rfl|rfl<;>decide
    have hsz:(bs nm).size<=maxLen:=by
     have:(bs nm).size=nm.length:=by simp[bs,ByteArray.size]
     rw[this];unfold maxLen;omega
    have k1:prog.keyLits (d+1) 95 [.int .i64 sp]=some [.int .i64 sp]:=by
     simp[Program.keyLits,hwf]
    have k2:prog.keyLits (d+1) tyStr [.string (bs nm)]=some [.string nm]:=by
     simp[Program.keyLits,hsz,bs_data]
    have hL:prog.keyLits (d+2) tyKey [.int .i64 sp,.string (bs nm)]=some [.int .i64 sp,.string nm]:=by
     unfold Program.keyLits
     simp only[hu]
     rw[if_pos ⟨by rw[hc1];rfl,hall⟩,hfs]
     simp only[List.mapM_cons,List.mapM_nil,a2,a3,b2,b3,hc2,hc3,List.drop_zero,List.drop_succ_cons,List.take_succ_cons,List.take_zero,k1,k2]
     rfl
    refine⟨.string (keyBytes [.int .i64 sp,.string nm]),?_⟩
    unfold keyOf kyV
    simp only[hu,key_type,Value.formed,hc1,Bool.true_and]
    rw[hd]
    simp[Value.cells,hL]
  |_=>rw[hu]at hf;cases hf
theorem kyV_inj{a b:Ky}(h:kyV a=kyV b):a=b:=by
 unfold kyV at h
 simp only[Value.agg.injEq,Array.mk.injEq,List.cons.injEq,Value.int.injEq,Value.string.injEq,and_true,true_and]at h
 obtain⟨h1,h2⟩:=h
 have h1:a.1=b.1:=by omega
 have h2:a.2=b.2:=by
  have:=congrArg (fun b=>b.data.toList) h2
  simpa [bs]using this
 exact Prod.ext h1 h2
theorem ky_ops:KeyOps prog tyKey okK (fun _ _=>True) kyV:=KeyOps.of_law key_law ky_key (fun _ _ h=>kyV_inj h)
abbrev tyTab:TypeId:=44
abbrev tyMg:TypeId:=102
def schV(ad:List Nat):Option Nat->Value
 |none=>.pointer none
 |some t=>adV ad t
def MgAt(ad:List Nat)(w:World)(m:Mg)(v:Value):Prop:=
 ∃lv pv bl,v=.agg #[schV ad m.scheme,.string (bs m.vr.data),lv,pv,.int .i64 m.vr.sibs,.int .i64 m.letters]/\(∀t,m.scheme=some t->t<ad.length) /\
  w.ownsRow 0 tyStr 1 lv m.vr.letters.length (m.vr.letters.map strV)/\w.ownsRow 0 tyTreeP 1 pv bl.length (bl.map ptrV)/\NMem.NMems w m.vr.parts bl
def Tab(ad:List Nat)(tb:Nat)(ρ:Env)(w:World):Prop:=
 ∃n f,MapHas okK kyV w tb n f/\∀x,okK x->(ρ.get x=none/\f x=none)\/∃m v,ρ.get x=some m/\f x=some v/\MgAt ad w m v
theorem Tab.raw{ad:List Nat}{tb:Nat}{ρ:Env}{w:World}(h:Tab ad tb ρ w):∃n f,MapHas okK kyV w tb n f:=by
 obtain⟨n,f,h1,_⟩:=h
 exact⟨n,f,h1⟩
theorem MgAt.kept{ad ad':List Nat}{w w':World}{m:Mg}{v:Value}(h:MgAt ad w m v)(ha:∀i,i<ad.length->adA ad' i=adA ad i)(hl:ad.length<=ad'.length)(h0:∀(k:Nat)(c:Array Value)(f:Nat×Nat),w.heap[k]?=some (.cells c tyStr f)->w'.heap[k]?=w.heap[k]?)
  (h1:∀(k:Nat)(c:Array Value)(f:Nat×Nat),w.heap[k]?=some (.cells c tyTree f)->w'.heap[k]?=w.heap[k]?) (h2:∀(k:Nat)(c:Array Value)(f:Nat×Nat),w.heap[k]?=some (.cells c tyTreeP f)->w'.heap[k]?=w.heap[k]?):MgAt ad' w' m v:=by
 obtain⟨lv,pv,bl,e1,e2,e3,e4,e5⟩:=h
 refine⟨lv,pv,bl,?_,fun t ht=>lt_of_lt_of_le (e2 t ht) hl,ownsRow_kept e3 fun k c f _ hc=>h0 k c f hc,ownsRow_kept e4 fun k c f _ hc=>h2 k c f hc,e5.kept h1 h2⟩
 rw[e1]
 congr 3
 cases hm:m.scheme with
 |none=>rfl
 |some t=>show ptrV (adA ad t)=ptrV (adA ad' t);rw[ha t (e2 t hm)]
theorem turned_other{w w':World}{b k:Nat}{c:Array Value}{t:TypeId}{f:Nat×Nat}(h:w.mapTurned w' b)(hc:w.heap[k]?=some (.cells c t f)):w'.heap[k]?=w.heap[k]?:=by
 obtain⟨es,clock,es',clock',hb,rfl⟩:=h
 refine(MapKept.heap_set hb).2 k (fun e=>?_)
 subst e
 rw[hb]at hc;cases hc
theorem MgAt.turned{ad:List Nat}{w w':World}{b:Nat}{m:Mg}{v:Value}(h:MgAt ad w m v)(ht:w.mapTurned w' b):MgAt ad w' m v:=
 h.kept (fun _ _=>rfl) (le_refl _) (fun _ _ _ hc=>turned_other ht hc) (fun _ _ _ hc=>turned_other ht hc) (fun _ _ _ hc=>turned_other ht hc)
theorem under_tab:prog.underlying tyTab=some (.map tyKey tyMg):=by kernel_rfl
theorem mg_zero(w:World):(zeroValue tyMg).run prog w=.ok (.agg #[.pointer none,.string ⟨#[]⟩,.slice none 0 0,.slice none 0 0,.int .i64 0,.int .i64 0]) w:=by
 have h:(prog.info? tyMg).map (fun i=>i.zero)=some (some (.agg #[.pointer none,.string ⟨#[]⟩,.slice none 0 0,.slice none 0 0,.int .i64 0,.int .i64 0])):=by kernel_rfl
 cases hi:prog.info? tyMg with
 |none=>rw[hi]at h;cases h
 |some j=>
  rw[hi]at h
  have hz:j.zero=some (.agg #[.pointer none,.string ⟨#[]⟩,.slice none 0 0,.slice none 0 0,.int .i64 0,.int .i64 0]):=by simpa using h
  simp[zeroValue,typeInfo,hi,hz,Result.andThen]
theorem Rq.over{rb:Nat}{w:World}(h:Rq rb [] w):rb<w.heap.size/\(∃tb o cap,w.cell? ⟨rb,0,none⟩=some (.slice (some ⟨tb,o,none⟩) 0 cap))/\w.frozen? ⟨rb,0,none⟩=false:=by
 have hl:=h.lt
 obtain⟨tb,o,cap,cs,hb,_⟩:=h.own
 exact⟨hl,⟨tb,o,cap,by simp[World.cell?,hb]⟩,by simp[World.frozen?,hb]⟩
theorem Rq.more{rb:Nat}{t:List UInt8}{ts:Toks}{w:World}(h:Rq rb (t::ts) w):rb<w.heap.size/\(∃tb o cap,w.cell? ⟨rb,0,none⟩=some (.slice (some ⟨tb,o,none⟩) (ts.length+1) cap)/\w.cell? ⟨tb,o,none⟩=some (.string (bs t))/\tb<w.heap.size/\ts.length+1<=cap/\cap<=9223372036854775807 /\
  ∀o2,(cap=1\/o2=o+1)->Rq rb ts (w.setCell ⟨rb,0,none⟩ (.slice (some ⟨tb,o2,none⟩) ts.length (cap-1))))/\w.frozen? ⟨rb,0,none⟩=false:=by
 have hl:=h.lt
 obtain⟨tb,o,cap,cs,hb,ht,h1,h2,h3⟩:=h.own
 have hne:tb≠rb:=by
  intro e;subst e
  rw[hb]at ht;simp at ht;exact absurd ht.2 (by decide)
 refine⟨hl,⟨tb,o,cap,by simp[World.cell?,hb],?_,(Array.getElem?_eq_some_iff.1 ht).1,h1,h2,fun o2 ho=>?_⟩,by simp[World.frozen?,hb]⟩
 ·have:=h3 0 t rfl
  simp[World.cell?,ht]
  simpa [strV]using this
 ·refine⟨by have:=h.len;rw[length_cons]at this;omega,fun x hx=>h.toks x (mem_cons_of_mem _ hx),tb,o2,cap-1,cs,?_,?_,by rw[length_cons]at h1;omega,by omega,?_⟩
  ·simp only[World.setCell,Array.getElem?_modify,if_pos,hb,Option.map_some,Option.isSome_none,Bool.false_eq_true,if_false]
   simp
  ·rw[Below.heap_setCell _ _ _ _ hne];exact ht
  ·intro i x hi
   rcases ho with ho|rfl
   ·exfalso
    have:ts=[]:=List.length_eq_zero_iff.1 (by rw[length_cons]at h1;omega)
    subst this
    simp at hi
   ·have:=h3 (i+1) x (by simpa using hi)
    rw[<- this];congr 1;omega
theorem peek_any{rb:Nat}{ts:Toks}{w:World}(h:Rq rb ts w) :
  Calls prog 126 #[ptrV rb] w fun e w'=>e=.returned (.string (bs (ts.headD [])))/\w'=w:=by
 cases ts with
 |nil=>
  obtain⟨hl,⟨tb,o,cap,c0⟩,hf⟩:=h.over
  clear h
  unfold ptrV
  go_enter func126,ntmps126
  go_wp2
  go_ret
  exact⟨rfl,rfl⟩
 |cons t r=>
  obtain⟨hl,⟨tb,o,cap,c0,c1,hl2,hc,_,_⟩,hf⟩:=h.more
  have hcap:=h.len
  rw[length_cons]at hcap
  show Calls _ _ _ _ fun e w'=>e=.returned (.string (bs t))/\w'=w
  clear h
  unfold ptrV
  generalize bs t=tx at *
  generalize r.length=n at *
  have hd:((n:Int)+1==0)=false:=by simp;omega
  have hd2:¬((n:Int)+1=0):=by omega
  go_enter func126,ntmps126
  go_wp2
  go_ret
  exact⟨rfl,rfl⟩
def AnsT(rb:Nat)(ts:Toks)(w:World)(e:Ending)(w':World):Prop:=
 Kq rb w w'/\((ts=[]/\e=gaveUp)\/∃t r,ts=t::r/\e=.returned (.string (bs t))/\Rq rb r w')
theorem take_any{rb:Nat}{ts:Toks}{w:World}(h:Rq rb ts w):Calls prog 63 #[ptrV rb] w (AnsT rb ts w):=by
 cases ts with
 |nil=>
  obtain⟨hl,⟨tb,o,cap,c0⟩,hf⟩:=h.over
  clear h
  unfold ptrV
  go_enter func63,ntmps63
  go_wp2
  exact⟨rfl,Kq.refl _ _,inl ⟨rfl,rfl⟩⟩
 |cons t r=>
  obtain⟨hl,⟨tb,o,cap,c0,c1,hl2,hc,hc2,hR⟩,hf⟩:=h.more
  have hcap:=h.len
  rw[length_cons]at hcap
  have hfin:∀w',Kq rb w w'->Rq rb r w'->AnsT rb (t::r) w (.returned (.string (bs t))) w':=fun w' h1 h2=>⟨h1,inr ⟨t,r,rfl,rfl,h2⟩⟩
  have HR:=hide hR
  have HF:=hide hfin
  clear h hR hfin
  unfold ptrV
  generalize AnsT rb (t::r) w=Q at *
  generalize bs t=tx at *
  generalize hn:r.length=n at *
  have hd:((n:Int)+1==0)=false:=by simp;omega
  have hd2:¬((n:Int)+1=0):=by omega
  by_cases hc1:cap=1
  ·subst hc1
   obtain rfl:n=0:=by omega
   go_enter func63,ntmps63
   go_wp2
   exact HF.out _ ((Kq.refl _ _).setR _ _) (HR.out _ (inl trivial))
  ·go_enter func63,ntmps63
   go_wp2
   exact HF.out _ ((Kq.refl _ _).setR _ _) (HR.out _ (inr rfl))
def AnsA(rb:Nat)(x:List UInt8)(ts:Toks)(w:World)(e:Ending)(w':World):Prop:=
 Kq rb w w'/\((ts.headD []≠x/\e=.returned (.bool false)/\Rq rb ts w')\/(ts.headD []=x/\e=.returned (.bool true)/\Rq rb ts.tail w'))
theorem bs_eqb{a b:List UInt8}(h:a≠b):((bs a).toList==(bs b).toList)=false:=by rw[bs_eq];simpa using h
theorem accept_any{rb:Nat}{ts:Toks}{w:World}(x:List UInt8)(hx:x≠[])(h:Rq rb ts w):Calls prog 100 #[ptrV rb,.string (bs x)] w (AnsA rb x ts w):=by
 have hp:=peek_any h
 have ht:=take_any h
 by_cases he:ts.headD []=x
 ·have hfin:∀e w',AnsT rb ts w e w'->AnsA rb x ts w (.returned (.bool true)) w'/\∃v,e=.returned (.string v):=by
   rintro e w'⟨h1,h2⟩
   rcases h2 with⟨rfl,_⟩|⟨t,r,rfl,rfl,h3⟩
   ·exact absurd he.symm hx
   ·exact⟨⟨h1,inr ⟨he,rfl,h3⟩⟩,_,rfl⟩
  rw[he]at hp
  have HP:=hide hp
  have HT:=hide ht
  have HF:=hide hfin
  have hb:((bs x).toList==(bs x).toList)=true:=by simp
  have hb2:((bs x).toList != (bs x).toList)=false:=by simp
  clear hp ht hfin h he hx
  generalize AnsA rb x ts w=Q at *
  generalize bs x=bx at *
  go_enter func100,ntmps100
  go_wp2_with fail
  refine(HP.out).mono ?_;rintro e w1⟨rfl,rfl⟩
  go_wp2_with fail
  refine(HT.out).mono ?_;intro e w1 ha
  obtain⟨hq,v,rfl⟩:=HF.out _ _ ha
  have HQ:=hide hq
  clear ha hq
  go_wp2
  exact HQ.out
 ·have hq:AnsA rb x ts w (.returned (.bool false)) w:=⟨Kq.refl _ _,inl ⟨he,rfl,h⟩⟩
  have hb:=bs_eqb he
  have hb2:((bs (ts.headD [])).toList != (bs x).toList)=true:=by unfold bne;rw[hb];rfl
  have HP:=hide hp
  have HQ:=hide hq
  clear hp ht hq h he hx
  generalize AnsA rb x ts w=Q at *
  generalize bs x=bx at *
  generalize bs (ts.headD [])=bh at *
  go_enter func100,ntmps100
  go_wp2_with fail
  refine(HP.out).mono ?_;rintro e w1⟨rfl,rfl⟩
  go_wp2_with fail
  exact HQ.out
def AnsE(rb:Nat)(x:List UInt8)(ts:Toks)(w:World)(e:Ending)(w':World):Prop:=
 Kq rb w w'/\((ts.headD []≠x/\e=gaveUp)\/(ts.headD []=x/\e=.returned (.tuple #[])/\Rq rb ts.tail w'))
theorem expect_any{rb:Nat}{ts:Toks}{w:World}(x:List UInt8)(hx:x≠[])(h:Rq rb ts w):Calls prog 98 #[ptrV rb,.string (bs x)] w (AnsE rb x ts w):=by
 have ha:=accept_any x hx h
 have h1:∀w',Kq rb w w'->ts.headD []≠x->AnsE rb x ts w gaveUp w':=fun w' k e=>⟨k,inl ⟨e,rfl⟩⟩
 have h2:∀w',Kq rb w w'->ts.headD []=x->Rq rb ts.tail w'->AnsE rb x ts w (.returned (.tuple #[])) w':=fun w' k e r=>⟨k,inr ⟨e,rfl,r⟩⟩
 have HA:=hide ha
 have H1:=hide h1
 have H2:=hide h2
 clear ha h h1 h2 hx
 unfold gaveUp noForm at H1
 generalize AnsE rb x ts w=Q at *
 go_enter func98,ntmps98
 go_wp2_with fail
 refine(HA.out).mono ?_;rintro e w1⟨hk,⟨he,rfl,_⟩|⟨he,rfl,hr⟩⟩
 ·go_wp2
  exact⟨rfl,H1.out _ hk he⟩
 ·have HR:=hide hr
  clear hr
  go_wp2
  go_end0
  exact H2.out _ hk he HR.out
def AnsEnd(ts:Toks)(w:World)(e:Ending)(w':World):Prop:=w'=w/\((ts≠[]/\e=gaveUp)\/(ts=[]/\e=.returned (.tuple #[])))
theorem end_any{rb:Nat}{ts:Toks}{w:World}(h:Rq rb ts w):Calls prog 31 #[ptrV rb] w (AnsEnd ts w):=by
 cases ts with
 |nil=>
  obtain⟨hl,⟨tb,o,cap,c0⟩,hf⟩:=h.over
  clear h
  unfold ptrV
  go_enter func31,ntmps31
  go_wp2
  go_end0
  exact⟨rfl,inr ⟨rfl,rfl⟩⟩
 |cons t r=>
  obtain⟨hl,⟨tb,o,cap,c0,c1,hl2,hc,hc2,hR⟩,hf⟩:=h.more
  have hcap:=h.len
  rw[length_cons]at hcap
  clear h hR
  unfold ptrV
  generalize r.length=n at *
  have hd:decide ((0:Int)<(n:Int)+1)=true:=decide_eq_true (by omega)
  have hd2:(0:Int)<(n:Int)+1:=by omega
  go_enter func31,ntmps31
  go_wp2
  exact⟨rfl,rfl,inl ⟨by simp,rfl⟩⟩
def AnsM(rb:Nat)(ts:Toks)(w:World)(e:Ending)(w':World):Prop:=
 Kq rb w w'/\((G.kind 110 ts=none/\e=gaveUp)\/∃x r,G.kind 110 ts=some (x,r)/\e=.returned (.string (bs x))/\Rq rb r w')
theorem Rq.head{rb:Nat}{ts:Toks}{w:World}(h:Rq rb ts w):Tok (ts.headD []):=by
 cases ts with
 |nil=>exact Tok.nil
 |cons t r=>exact(h.toks t (mem_cons_self ..)).1
theorem bs_size(l:List UInt8):(bs l).size=l.length:=by simp[bs,ByteArray.size]
theorem Tok.size{t:List UInt8}(h:Tok t):(bs t).size<=maxLen:=by rw[bs_size];have:=h.2;unfold maxLen;omega
theorem IsName_tok{t:List UInt8}(h:Tok t)(w:World):Calls prog 125 #[.string (bs t)] w fun e w'=>e=.returned (.bool (tokKind t==110))/\w'=w:=by
 have:=IsName_any (bs t) w h.size
 rw[bs_data,name_kind h]at this
 exact this
theorem IsConstructor_tok{t:List UInt8}(h:Tok t)(w:World):Calls prog 128 #[.string (bs t)] w fun e w'=>e=.returned (.bool (tokKind t==99))/\w'=w:=by
 have:=IsConstructor_any (bs t) w h.size
 rw[bs_data,con_kind t]at this
 exact this
theorem IsNumber_tok{t:List UInt8}(h:Tok t)(w:World):Calls prog 238 #[.string (bs t)] w fun e w'=>e=.returned (.bool (tokKind t==100))/\w'=w:=by
 have:=IsNumber_any (bs t) w h.size
 rw[bs_data,num_kind h]at this
 exact this
theorem IsLetter_tok{t:List UInt8}(h:Tok t)(w:World):Calls prog 147 #[.string (bs t)] w fun e w'=>e=.returned (.bool (tokKind t==108))/\w'=w:=by
 have:=IsLetter_any (bs t) w h.size
 rw[bs_data,letter_kind h]at this
 exact this
theorem kind_cons{k:Int}{ts:Toks}(h0:k≠0)(h:(G.kindOf ts==k)=true):∃t r,ts=t::r:=by
 cases ts with
 |nil=>
  have:G.kindOf []=k:=by simpa using h
  exact absurd this.symm h0
 |cons t r=>exact⟨t,r,rfl⟩
theorem name_any{rb:Nat}{ts:Toks}{w:World}(h:Rq rb ts w):Calls prog 95 #[ptrV rb] w (AnsM rb ts w):=by
 have hp:=peek_any h
 have hi:=IsName_tok h.head w
 have ht:=take_any h
 have HP:=hide hp
 have HI:=hide hi
 have HT:=hide ht
 cases hk:(tokKind (ts.headD [])==110)
 ·have hq:AnsM rb ts w gaveUp w:=⟨Kq.refl _ _,inl ⟨by unfold G.kind G.kindOf;rw[hk];rfl,rfl⟩⟩
  have HQ:=hide hq
  rw[hk]at HI
  clear hp hi ht hq h hk HT
  unfold gaveUp noForm at HQ
  generalize AnsM rb ts w=Q at *
  generalize bs (ts.headD [])=bx at *
  go_enter func95,ntmps95
  go_wp2_with fail
  refine(HP.out).mono ?_;rintro e w1⟨rfl,rfl⟩
  go_wp2_with fail
  refine(HI.out).mono ?_;rintro e w1⟨rfl,rfl⟩
  go_wp2
  exact⟨rfl,HQ.out⟩
 ·obtain⟨t,r,rfl⟩:=kind_cons (ts:=ts) (k:=110) (by decide) hk
  have hq:∀w',Kq rb w w'->Rq rb r w'->AnsM rb (t::r) w (.returned (.string (bs t))) w':=fun w' k1 k2=>⟨k1,inr ⟨t,r,by unfold G.kind G.kindOf;rw[hk];rfl,rfl,k2⟩⟩
  have HQ:=hide hq
  rw[hk]at HI
  clear hp hi ht hq h hk
  generalize AnsM rb (t::r) w=Q at *
  rw[show (t::r).headD []=t from rfl]at HP HI
  go_enter func95,ntmps95
  go_wp2_with fail
  refine(HP.out).mono ?_;rintro e w1⟨rfl,rfl⟩
  go_wp2_with fail
  refine(HI.out).mono ?_;rintro e w1⟨rfl,rfl⟩
  go_wp2_with fail
  refine(HT.out).mono ?_;rintro e w1⟨hk,⟨he,_⟩|⟨t2,r2,he,rfl,hr⟩⟩
  ·cases he
  ·injection he with he1 he2
   subst he1
   subst he2
   have HR:=hide hr
   clear hr
   go_wp2
   exact HQ.out _ hk HR.out
end Go.Proofs.YtcbppnefeonmgaaGreatDoor
