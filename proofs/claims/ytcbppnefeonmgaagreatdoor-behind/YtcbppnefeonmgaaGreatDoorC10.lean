import Derived.Test.YtcbppnefeonmgaaGreatDoorC9
import Derived.LaidEqlPtr
set_option linter.all false
set_option maxHeartbeats 40000000
set_option maxRecDepth 100000
open Go.Proofs.Tryz
open Or (inl inr)
open Nat (le_refl)
open List (append_nil length_append mem_cons_self mem_cons_of_mem mem_append mem_singleton cons_append mem_cons nil_append)
namespace Go.Proofs.YtcbppnefeonmgaaGreatDoor
section
open Go.RowKit
section
variable {ar:Nm->Nat}{ad:List Nat}{X:Nat->Prop}{rk:Nat->Nat}{σ:TS}{w w':World}{i:Nat}
theorem Enters.open1:Enters 166:=enters func166 (by kernel_rfl) rfl
theorem StoM.drewN(h:StoM ar ad X rk σ w)(n:Nat):StoM ar ad X rk σ (w.drewN n):=h.kept (fun _ _=>rfl) (fun _ _ _ _ _=>rfl)
theorem Kn.drewN{D:Nat->Prop}{a:World}(h:Kn D a w)(n:Nat):Kn D a (w.drewN n):=⟨h.os,h.tape,h.output,h.size,h.block⟩
theorem open1_any{db d:Nat}(h:StoM ar ad X rk σ w)(hi:i<σ.nodes.length)(hb:w.heap[db]?=some (.cells #[.int .i64 d] tyIntB (0,0))) :
  Calls prog 166 #[adV ad i,.pointer (some ⟨db,0,none⟩)] w (AnsTB ar ad X rk (if (σ.isLetter i && decide (d<σ.depth i))=true then σ.setDepth i openD else σ) (.bool true) w):=by
 have hc:=fun n=>isLetter_any (h.drewN n) hi
 obtain⟨pv,fv,_,_,_,c3,_,f3,_,_⟩:=h.cell hi
 have cd:w.cell? ⟨db,0,none⟩=some (.int .i64 d):=by simp[World.cell?,hb]
 have hdep:(σ.node i).depth=σ.depth i:=rfl
 rw[hdep]at c3
 have hmem:adA ad i∈ad:=adA_mem (by rw[h.len];exact hi)
 have hq1:∀n,(σ.isLetter i && decide (d<σ.depth i))=false->AnsTB ar ad X rk (if (σ.isLetter i && decide (d<σ.depth i))=true then σ.setDepth i openD else σ) (.bool true) w (.returned (.bool true)) (w.drewN n):=fun n hf=>by
  rw[hf];exact⟨rfl,h.drewN n,(Kn.refl _ w).drewN n⟩
 have hq2:∀n,(σ.isLetter i && decide (d<σ.depth i))=true->AnsTB ar ad X rk (if (σ.isLetter i && decide (d<σ.depth i))=true then σ.setDepth i openD else σ) (.bool true) w (.returned (.bool true)) ((w.drewN n).setCell ⟨adA ad i,3,none⟩ (.int .i64 openD)):=fun n hf=>by
  rw[hf];exact⟨rfl,(h.drewN n).setDepth hi openD,((Kn.refl _ w).drewN n).set (inl hmem) _⟩
 have HC:=hide hc
 have HQ1:=hide hq1
 have HQ2:=hide hq2
 clear hc h hb hdep hq1 hq2 hmem
 generalize AnsTB ar ad X rk (if (σ.isLetter i && decide (d<σ.depth i))=true then σ.setDepth i openD else σ) (.bool true) w=Q at *
 generalize σ.depth i=dp at *
 generalize σ.isLetter i=lt at *
 unfold adV ptrV at *
 generalize adA ad i=b at *
 cases lt with
 |false=>
  go_enter func166,ntmps166
  go_wp2_with fail
  go_quiet (first|(go_at_call 47;refine Calls.quiet_of_same (HC.out _)))
  go_wp2
  exact HQ1.out _ rfl
 |true=>
  by_cases hd:d<dp
  ·have hd2:(d:Int)<(dp:Int):=by omega
   have hd3:decide (d<dp)=true:=decide_eq_true hd
   go_enter func166,ntmps166
   go_wp2_with fail
   go_quiet (first|(go_at_call 47;refine Calls.quiet_of_same (HC.out _)))
   go_wp2
   exact HQ2.out _ (by rw[hd3];rfl)
  ·have hd2:¬(d:Int)<(dp:Int):=by omega
   have hd3:decide (d<dp)=false:=decide_eq_false hd
   have hd4:decide ((d:Int)<(dp:Int))=false:=decide_eq_false hd2
   go_enter func166,ntmps166
   go_wp2_with fail
   go_quiet (first|(go_at_call 47;refine Calls.quiet_of_same (HC.out _)))
   go_wp2
   exact HQ1.out _ (by rw[hd3];rfl)
theorem open_visits(db d:Nat):Visits ar ad X rk σ 166 #[.pointer (some ⟨db,0,none⟩)] (fun _ _=>true) (fun k=>k∈ad\/k=db) (fun acc=>opened σ d acc) (fun _ w=>w.heap[db]?=some (.cells #[.int .i64 d] tyIntB (0,0))) (fun _=>True) where
 enters:=Enters.open1
 good _ _ _ _:=trivial
 alike acc:=opened_alike acc σ d
 ads k hk:=inl hk
 rows acc w k c f hs hz hd hc:=by
  rcases hd with hd|rfl
  ·obtain⟨c2,f2,h2⟩:=hs.isT hd
   rw[hc]at h2
   exact absurd (cells_ty h2) (by decide)
  ·rw[hz]at hc
   exact absurd (cells_ty hc) (by decide)
 stays acc w w' hz hs hk:=by rw[hk.block db (lt_of_heap hz) (box_ne (by decide) hz hs)];exact hz
 visit acc r w _ hs hz hr hrr:=by
  have hlen:=(opened_alike acc σ d).len
  have hr':r<(opened σ d acc).nodes.length:=by rw[hlen];exact hr
  refine(open1_any hs hr' hz).mono ?_
  rintro e w'⟨rfl,h2,h3⟩
  rw[opened_snoc]
  exact⟨rfl,h2,by rw[h3.block db (lt_of_heap hz) (box_ne (by decide) hz hs)];exact hz,h3.wide fun k _ hk=>inl hk⟩
theorem Open_any(d:Nat)(h:StoM ar ad X rk σ w)(hi:i<σ.nodes.length)(hf:σ.fits i=true):Calls prog 143 #[adV ad i,.int .i64 d] w (AnsTB ar ad X rk (σ.openAll d i) (.tuple #[]) w):=by
 have hwk:=TS.fits_pre hf
 have h1:=h.alloc (.cells #[.int .i64 d] tyIntB)
 have hb:(w.alloc (.cells #[.int .i64 d] tyIntB)).heap[w.heap.size]?=some (.cells #[.int .i64 d] tyIntB (0,0)):=(MapKept.heap_alloc w _).1
 have hc:=walk_any (open_visits (ar:=ar) (ad:=ad) (X:=X) (rk:=rk) (σ:=σ) w.heap.size d) wkFuel [] i (w.alloc (.cells #[.int .i64 d] tyIntB)) (σ.pre i) true hwk hi trivial h1 hb
 have hq:∀e w',AnsWk ar ad X rk (fun k=>k∈ad\/k=w.heap.size) (fun acc=>opened σ d acc) (fun _ w1=>w1.heap[w.heap.size]?=some (.cells #[.int .i64 d] tyIntB (0,0))) (σ.pre i) true (w.alloc (.cells #[.int .i64 d] tyIntB)) e w'->e=.returned (.bool true)/\AnsTB ar ad X rk (σ.openAll d i) (.tuple #[]) w (.returned (.tuple #[])) w':=by
  intro e w' ha
  obtain⟨a1,a2,a3⟩:=ha.toB (w0:=w) ((Kn.refl _ w).alloc _) (fun k hk hd=>by
   rcases hd with hd|rfl
   ·exact hd
   ·omega)
  exact⟨a1,rfl,a2,a3⟩
 have HC:=hide hc
 have HQ:=hide hq
 clear hc hq hb h1 h hwk hf
 generalize AnsTB ar ad X rk (σ.openAll d i) (.tuple #[]) w=Q at *
 generalize AnsWk ar ad X rk (fun k=>k∈ad\/k=w.heap.size) (fun acc=>opened σ d acc) (fun _ w1=>w1.heap[w.heap.size]?=some (.cells #[.int .i64 d] tyIntB (0,0))) (σ.pre i) true (w.alloc (.cells #[.int .i64 d] tyIntB))=Q1 at *
 unfold adV ptrV at *
 go_enter func143,ntmps143
 go_wp2_with fail
 refine(HC.out).mono ?_;intro e w1 ha
 obtain⟨rfl,hq⟩:=HQ.out e w1 ha
 have HF:=hide hq
 clear ha hq HQ HC
 go_wp2
 first|exact HF.out|(go_ret3;exact HF.out)|(go_end0;exact HF.out)
end
end
section
open Go.RowKit Go.MapKept
def ptrK(b:Nat):Value:=.pointer (some ⟨b,0,none⟩)
def isVarB(w:World)(b:Nat):Prop:=∃c t,w.heap[b]?=some (.cells c t (0,0))
theorem ptr_equal{P:Program}{k e:TypeId}{j:TypeInfo}(hk:P.underlying k=some (.pointer e))(hj:P.info? e=some j)(hsz:j.size≠0){w:World}{x y:Nat}(hx:isVarB w x)(hy:isVarB w y):(Op.equal k (ptrK x) (ptrK y)).run P w=.ok (decide (x=y)) w:=by
 by_cases he:x=y
 ·subst he
  have h:∀d:Nat,(Op.equalIn (d+1) k (ptrK x) (ptrK x)).run P w=.ok true w:=fun d=>by
   simp[Op.equalIn,ptrK,run_underlying hk,sizeOf,typeInfo,hj,run_sameAddr_same]
  simp[Op.equal,Op.maxDepth,h 9999]
 ·obtain⟨cx,tx,hx⟩:=hx
  obtain⟨cy,ty,hy⟩:=hy
  have hne:(⟨x,0,none⟩:Addr)≠⟨y,0,none⟩:=fun e=>he (by simpa using e)
  have h:∀d:Nat,(Op.equalIn (d+1) k (ptrK x) (ptrK y)).run P w=.ok false w:=fun d=>by
   simp[Op.equalIn,ptrK,run_underlying hk,sizeOf,typeInfo,hj,hsz,run_sameAddr_other w hne hx hy]
  simp[Op.equal,Op.maxDepth,h 9999,he]
theorem ptr_ask{P:Program}{k e:TypeId}{j:TypeInfo}(hk:P.underlying k=some (.pointer e))(hj:P.info? e=some j)(hsz:j.size≠0){w:World}{x:Nat}(hx:isVarB w x):∀(es:List MapEntry)(i:Nat),(∀e∈es,∃y,isVarB w y/\e.key=ptrK y) ->
  ((Instr.findAsking k (ptrK x) es i).run P w=.ok none w/\∀e∈es,e.key≠ptrK x)\/∃j' e',(Instr.findAsking k (ptrK x) es i).run P w=.ok (some (i+j',e'.val)) w/\es[j']?=some e'/\e'.key=ptrK x:=by
 intro es
 induction es with
 |nil=>intro i _;exact inl ⟨by simp[Instr.findAsking],by simp⟩
 |cons a r ih=>
  intro i h
  obtain⟨y,hy,ey⟩:=h a (mem_cons_self ..)
  have heq:=ptr_equal hk hj hsz hx hy
  by_cases he:x=y
  ·subst he
   exact inr ⟨0,a,by simp[Instr.findAsking,ey,heq,Result.andThen],rfl,ey⟩
  ·have hane:a.key≠ptrK x:=by rw[ey];intro e2;exact he (by simpa [ptrK]using e2.symm)
   rcases ih (i+1) (fun e he=>h e (mem_cons_of_mem _ he))with⟨h1,h2⟩|⟨j',e',h1,h2,h3⟩
   ·refine inl ⟨by simp[Instr.findAsking,ey,heq,he,h1,Result.andThen],fun e he=>?_⟩
    rcases mem_cons.1 he with rfl|he
    ·exact hane
    ·exact h2 e he
   ·exact inr ⟨j'+1,e',by simp[Instr.findAsking,ey,heq,he,h1,Result.andThen];omega,by simpa using h2,h3⟩
theorem ptr_keyed{P:Program}{k e:TypeId}{j:TypeInfo}(hk:P.underlying k=some (.pointer e))(hj:P.info? e=some j)(hsz:j.size≠0):KeyOps P k (fun _:Nat=>True) isVarB ptrK where
 inj _ _ h:=by simpa [ptrK]using h
 check w em x _:=by
  unfold Instr.checkKey
  simp[run_underlying hk,Result.andThen,ptrK]
 find w x _ hx es hes:=by
  cases es with
  |nil=>exact inl ⟨by simp[Instr.findKey,run_underlying hk,Instr.findNow,Result.andThen],by simp⟩
  |cons a r=>
   have hnow:Instr.findNow (.pointer e) (ptrK x) (a::r) 0=none:=by
    simp[Instr.findNow,Instr.sameNow]
   have hrun:(Instr.findKey k (ptrK x) (a::r)).run P w=(Instr.findAsking k (ptrK x) (a::r)).run P w:=by
    simp[Instr.findKey,run_underlying hk,hnow,Result.andThen]
   rw[hrun]
   rcases ptr_ask hk hj hsz hx (a::r) 0 (fun e he=>by obtain⟨y,_,hy,ey⟩:=hes e he;exact⟨y,hy,ey⟩)with h|⟨j',e',h1,h2⟩
   ·exact inl h
   ·exact inr ⟨j',e',by simpa using h1,h2⟩
 stays w x _:=by
  unfold Instr.keyThatStays
  simp[Instr.sameBits,ptrK]
end
section
open Go.RowKit
section
variable {ar:Nm->Nat}{ad:List Nat}{X:Nat->Prop}{rk:Nat->Nat}{σ:TS}{w w':World}{i:Nat}
theorem Enters.stand1:Enters 201:=enters func201 (by kernel_rfl) rfl
theorem info_type:(prog.info? tyType).map (fun j=>j.size)=some 4:=by kernel_rfl
theorem under_typeP:prog.underlying tyTypeP=some (.pointer tyType):=by kernel_rfl
theorem ptr_neq{b1 b2:Nat}{w:World}(h1:isVarB w b1)(h2:isVarB w b2):(binOp .neq tyTypeP (.pointer (some ⟨b1,0,none⟩)) (.pointer (some ⟨b2,0,none⟩))).run prog w=.ok (.bool (decide (b1≠b2))) w:=by
 obtain⟨j,hj⟩:∃j,prog.info? tyType=some j:=by
  cases hx:prog.info? tyType with
  |none=>have:=info_type;rw[hx]at this;cases this
  |some j=>exact⟨j,rfl⟩
 have hsz:j.size≠0:=by
  have:=info_type
  rw[hj]at this
  have h4:j.size=4:=by simpa using this
  omega
 have:=ptr_equal under_typeP hj hsz h1 h2
 unfold ptrK at this
 simp only[binOp]
 simp[this,Result.andThen]
theorem ptr_eql{b1 b2:Nat}{w:World}(h1:isVarB w b1)(h2:isVarB w b2):(binOp .eql tyTypeP (.pointer (some ⟨b1,0,none⟩)) (.pointer (some ⟨b2,0,none⟩))).run prog w=.ok (.bool (decide (b1=b2))) w:=by
 obtain⟨j,hj⟩:∃j,prog.info? tyType=some j:=by
  cases hx:prog.info? tyType with
  |none=>have:=info_type;rw[hx]at this;cases this
  |some j=>exact⟨j,rfl⟩
 have hsz:j.size≠0:=by
  have:=info_type
  rw[hj]at this
  have h4:j.size=4:=by simpa using this
  omega
 have:=ptr_equal under_typeP hj hsz h1 h2
 unfold ptrK at this
 simp only[binOp]
 simp[this,Result.andThen]
theorem StoM.isVar(h:StoM ar ad X rk σ w)(hi:i<σ.nodes.length):isVarB w (adA ad i):=by
 obtain⟨pv,fv,h1,_⟩:=h.cells hi
 exact⟨_,_,h1⟩
theorem stand1_any{tbx t:Nat}(h:StoM ar ad X rk σ w)(hi:i<σ.nodes.length)(ht:t<σ.nodes.length)(hb:w.heap[tbx]?=some (.cells #[adV ad t] tyTypeP (0,0))) :
  Calls prog 201 #[adV ad i,.pointer (some ⟨tbx,0,none⟩)] w (AnsTB ar ad X rk (if σ.isLetter i then σ.setDepth i (min (σ.depth i) (σ.depth t))else σ) (.bool (i != t)) w):=by
 have hc:=isLetter_any h hi
 obtain⟨pv,fv,_,_,_,c3,_,f3,_,_⟩:=h.cell hi
 obtain⟨pv2,fv2,_,_,_,t3,_,_,_,_⟩:=h.cell ht
 have cd:w.cell? ⟨tbx,0,none⟩=some (adV ad t):=by simp[World.cell?,hb]
 have hdep:(σ.node i).depth=σ.depth i:=rfl
 have hdept:(σ.node t).depth=σ.depth t:=rfl
 rw[hdep]at c3
 rw[hdept]at t3
 have hne:∀w',StoM ar ad X rk (if σ.isLetter i then σ.setDepth i (min (σ.depth i) (σ.depth t))else σ) w'->(binOp .neq tyTypeP (.pointer (some ⟨adA ad i,0,none⟩)) (.pointer (some ⟨adA ad t,0,none⟩))).run prog w'=.ok (.bool (i != t)) w':=fun w' hs=>by
  have hlen:(if σ.isLetter i then σ.setDepth i (min (σ.depth i) (σ.depth t))else σ).nodes.length=σ.nodes.length:=by
   split
   ·exact(Alike.setDepth _ _ _).len
   ·rfl
  rw[ptr_neq (hs.isVar (by rw[hlen];exact hi)) (hs.isVar (by rw[hlen];exact ht))]
  congr 2
  by_cases he:i=t
  ·subst he;simp
  ·have:adA ad i≠adA ad t:=fun e=>he (adA_inj h.lt (by rw[h.len];exact hi) (by rw[h.len];exact ht) e)
   simp[he,this]
 have hmem:adA ad i∈ad:=adA_mem (by rw[h.len];exact hi)
 have htb:tbx∉ad:=box_ne (by decide) hb h
 have HC:=hide hc
 have HNE:=hide hne
 cases hl:σ.isLetter i with
 |false=>
  rw[hl]at HC HNE
  have hq:AnsTB ar ad X rk σ (.bool (i != t)) w (.returned (.bool (i != t))) w:=⟨rfl,h,Kn.refl _ _⟩
  have hrun:=HNE.out w h
  simp only[Bool.false_eq_true,if_false]
  have HQ:=hide hq
  clear hc hne HNE hq h hb hmem htb hdep hdept c3 f3 t3
  generalize AnsTB ar ad X rk σ (.bool (i != t)) w=Q at *
  generalize (i != t)=bv at *
  unfold adV ptrV at *
  generalize adA ad i=b at *
  generalize adA ad t=b2 at *
  go_enter func201,ntmps201
  go_wp2_with fail
  refine(HC.out).mono ?_;rintro e w1⟨rfl,rfl⟩
  go_wp2
  exact HQ.out
 |true=>
  rw[hl]at HC HNE
  have hq:StoM ar ad X rk (σ.setDepth i (min (σ.depth i) (σ.depth t))) (w.setCell ⟨adA ad i,3,none⟩ (.int .i64 ((min (σ.depth i) (σ.depth t):Nat)))).drew/\Kn (·∈ad) w (w.setCell ⟨adA ad i,3,none⟩ (.int .i64 ((min (σ.depth i) (σ.depth t):Nat)))).drew/\(w.setCell ⟨adA ad i,3,none⟩ (.int .i64 ((min (σ.depth i) (σ.depth t):Nat)))).drew.cell? ⟨tbx,0,none⟩=some (adV ad t):=by
   refine⟨(h.setDepth hi _).kept (fun _ _=>rfl) (fun _ _ _ _ _=>rfl),((Kn.refl _ w).set (inl hmem) _).drew,?_⟩
   have e1:(w.setCell ⟨adA ad i,3,none⟩ (.int .i64 ((min (σ.depth i) (σ.depth t):Nat)))).drew.heap[tbx]?=some (.cells #[adV ad t] tyTypeP (0,0)):=by
    show (w.setCell ⟨adA ad i,3,none⟩ (.int .i64 ((min (σ.depth i) (σ.depth t):Nat)))).heap[tbx]?=_
    rw[Below.heap_setCell _ _ _ _ (fun e=>htb (by have e:tbx=adA ad i:=e;rw[e];exact hmem))]
    exact hb
   simp[World.cell?,e1]
  have hfin:∀w',StoM ar ad X rk (σ.setDepth i (min (σ.depth i) (σ.depth t))) w'->Kn (·∈ad) w w'->AnsTB ar ad X rk (σ.setDepth i (min (σ.depth i) (σ.depth t))) (.bool (i != t)) w (.returned (.bool (i != t))) w':=fun w' a b=>⟨rfl,a,b⟩
  simp only[if_true]at HNE ⊢
  have hmin:((min (σ.depth i) (σ.depth t):Nat):Int)=min (σ.depth i:Int) (σ.depth t:Int):=by omega
  rw[hmin]at hq
  have HQ:=hide hq
  have HF:=hide hfin
  clear hc hne hq hfin h hb hmem htb hdep hdept hmin
  generalize AnsTB ar ad X rk (σ.setDepth i (min (σ.depth i) (σ.depth t))) (.bool (i != t)) w=Q at *
  generalize (i != t)=bv at *
  generalize StoM ar ad X rk (σ.setDepth i (min (σ.depth i) (σ.depth t)))=SS at *
  generalize hdi:σ.depth i=di at *
  generalize hdt:σ.depth t=dt at *
  unfold adV ptrV at *
  generalize adA ad i=b at *
  generalize adA ad t=b2 at *
  go_enter func201,ntmps201
  go_wp2_with fail
  refine(HC.out).mono ?_;rintro e w1⟨rfl,rfl⟩
  go_wp2_with fail
  go_region
  obtain⟨q1,q2,q3⟩:=HQ.out
  have HR:=hide (HNE.out _ q1)
  have HFF:=hide (HF.out _ q1 q2)
  clear q1 q2 HQ HNE HF HC c3 f3 t3 cd
  generalize (w1.setCell ⟨b,3,none⟩ (.int .i64 (min (di:Int) (dt:Int)))).drew=w3 at *
  have hrun:=HR.out
  go_wp2
  exact HFF.out
end
end
section
open Go.RowKit
theorem key0_any(s:ByteArray)(w:World):Calls prog 38 #[.string s] w fun e w'=>e=.returned (.agg #[.int .i64 0,.string s])/\w'=w.alloc (.cells #[.int .i64 0,.string s] tyKey):=by
 go_enter func38,ntmps38
 go_wp2
 refine bodyPost_ret (v:=.agg #[.int .i64 0,.string s]) (by simp[results,results38,go_sem]) rfl ⟨rfl,rfl⟩
theorem key1_any(s:ByteArray)(w:World):Calls prog 85 #[.string s] w fun e w'=>e=.returned (.agg #[.int .i64 1,.string s])/\w'=w.alloc (.cells #[.int .i64 1,.string s] tyKey):=by
 go_enter func85,ntmps85
 go_wp2
 refine bodyPost_ret (v:=.agg #[.int .i64 1,.string s]) (by simp[results,results85,go_sem]) rfl ⟨rfl,rfl⟩
theorem key2_any(s:ByteArray)(w:World):Calls prog 37 #[.string s] w fun e w'=>e=.returned (.agg #[.int .i64 2,.string s])/\w'=w.alloc (.cells #[.int .i64 2,.string s] tyKey):=by
 go_enter func37,ntmps37
 go_wp2
 refine bodyPost_ret (v:=.agg #[.int .i64 2,.string s]) (by simp[results,results37,go_sem]) rfl ⟨rfl,rfl⟩
section
variable {tb n:Nat}{f:Ky->Option Value}{w:World}{x:Ky}
theorem look_tab(h:MapHas okK kyV w tb n f)(hx:okK x)(c:Bool):(Instr.lookup tyTab (.map (some tb)) (.agg #[.int .i64 x.1,.string (bs x.2)]) c).run prog w=.ok (if c then .tuple #[(f x).getD (.agg #[.pointer none,.string ⟨#[]⟩,.slice none 0 0,.slice none 0 0,.int .i64 0,.int .i64 0]),.bool (f x).isSome]else(f x).getD (.agg #[.pointer none,.string ⟨#[]⟩,.slice none 0 0,.slice none 0 0,.int .i64 0,.int .i64 0])) w:=
 h.look ky_ops under_tab (mg_zero w) hx trivial (fun _ _=>trivial) c
theorem MapHas.alloc(h:MapHas okK kyV w tb n f)(o:Obj):MapHas okK kyV (w.alloc o) tb n f:=h.kept (Below.heap_alloc _ _ _ h.lt)
def Six(v:Value):Prop:=∃(p:Option Addr) (t:ByteArray) (a1:Option Addr) (n1 c1:Nat) (a2:Option Addr) (n2 c2:Nat) (i j:Int),v=.agg #[.pointer p,.string t,.slice a1 n1 c1,.slice a2 n2 c2,.int .i64 i,.int .i64 j]
theorem MgAt.six{ad:List Nat}{m:Mg}{v:Value}(h:MgAt ad w m v):Six v:=by
 obtain⟨lv,pv,bl,rfl,_,e3,e4,_⟩:=h
 have hsc:∃p,schV ad m.scheme=.pointer p:=by
  cases m.scheme with
  |none=>exact⟨none,rfl⟩
  |some t=>exact⟨_,rfl⟩
 obtain⟨p,hp⟩:=hsc
 rw[hp]
 rcases ownsRow_forms e3 with⟨rfl,_⟩|⟨g,cap,rfl⟩<;>rcases ownsRow_forms e4 with⟨rfl,_⟩|⟨g',cap',rfl⟩<;>exact⟨_,_,_,_,_,_,_,_,_,_,rfl⟩
theorem Has_any(h:MapHas okK kyV w tb n f)(hx:okK x)(hs:∀v,f x=some v->Six v):Calls prog 134 #[.map (some tb),kyV x] w fun e w'=>e=.returned (.bool (f x).isSome)/\Below w.heap.size w w':=by
 have hl:=look_tab (h.alloc (.cells #[.int .i64 x.1,.string (bs x.2)] tyKey)) hx true
 simp only[if_true]at hl
 obtain⟨g0,g1,a1,n1,c1,a2,n2,c2,g4,g5,hg⟩:Six ((f x).getD (.agg #[.pointer none,.string ⟨#[]⟩,.slice none 0 0,.slice none 0 0,.int .i64 0,.int .i64 0])):=by
  cases hf:f x with
  |none=>exact⟨_,_,_,_,_,_,_,_,_,_,rfl⟩
  |some v=>exact hs v hf
 rw[hg]at hl
 unfold kyV
 have hb:Below w.heap.size w ((w.alloc (.cells #[.int .i64 x.1,.string (bs x.2)] tyKey)).alloc (.cells #[.pointer g0,.string g1,.slice a1 n1 c1,.slice a2 n2 c2,.int .i64 g4,.int .i64 g5] tyMg)):=((Below.refl _ w).alloc (le_refl _) _).alloc (by simp) _
 have HB:=hide hb
 clear h hx hs hg hb
 generalize hQ:(fun(e:Ending) (w':World)=>e=.returned (.bool (f x).isSome)/\Below w.heap.size w w')=Q
 generalize (f x).isSome=sm at *
 generalize x.1=sp at *
 generalize bs x.2=nm at *
 go_enter func134,ntmps134
 go_wp2
 rw[<- hQ]
 exact⟨rfl,HB.out⟩
end
end
section
open Go.RowKit
theorem turned_ne'{w:World}{b:Nat}{es es':Array MapEntry}{clock clock':Nat}(hm:w.heap[b]?=some (.map es clock))(k:Nat)(hk:k≠b):(ChangeMaps.setBlock w b (.map es' clock')).heap[k]?=w.heap[k]?:=
 (MapKept.heap_set hm).2 k hk
theorem Kn.turned{D:Nat->Prop}{a w w':World}{b:Nat}(h:Kn D a w)(ht:w.mapTurned w' b)(hb:D b\/a.heap.size<=b):Kn D a w':=by
 obtain⟨es,clock,es',clock',hm,rfl⟩:=ht
 refine⟨h.os,h.tape,h.output,?_,fun k hk1 hk2=>?_⟩
 ·have:=h.size;simpa [ChangeMaps.setBlock]using this
 ·rw[turned_ne' hm k (fun e=>by subst e;rcases hb with hb|hb;exact hk2 hb;omega)]
  exact h.block k hk1 hk2
theorem turned_ne{w w':World}{b k:Nat}(h:w.mapTurned w' b)(hk:k≠b):w'.heap[k]?=w.heap[k]?:=by
 obtain⟨es,clock,es',clock',hb,rfl⟩:=h
 exact(MapKept.heap_set hb).2 k hk
theorem turned_size{w w':World}{b:Nat}(h:w.mapTurned w' b):w'.heap.size=w.heap.size:=by
 obtain⟨es,clock,es',clock',hb,rfl⟩:=h
 simp[ChangeMaps.setBlock]
theorem alloc_heap(w:World)(o:Obj)(k:Nat):(w.alloc o).heap[k]?=if k=w.heap.size then some o else w.heap[k]?:=by
 split
 ·next h=>subst h;exact(MapKept.heap_alloc w o).1
 ·next h=>
  by_cases hk:k<w.heap.size
  ·exact Below.heap_alloc _ _ _ hk
  ·rw[Array.getElem?_eq_none (by simp;omega),Array.getElem?_eq_none (by omega)]
theorem alloc_size(w:World)(o:Obj):(w.alloc o).heap.size=w.heap.size+1:=by simp
def unbV(W:Nat):Value:=.func (.func 155) #[] #[.pointer (some ⟨W+4,0,none⟩),.pointer (some ⟨W+3,0,none⟩),.pointer (some ⟨W,0,none⟩),.pointer (some ⟨W+1,0,none⟩)]
structure Unb(tb:Nat)(x:Ky)(old:Option Value)(W:Nat)(w:World):Prop where
 tab:w.heap[W]?=some (.cells #[.map (some tb)] tyTab (0,0))
 key:w.heap[W+1]?=some (.cells #[.int .i64 x.1,.string (bs x.2)] tyKey (0,0))
 bef:∃(p:Option Addr) (t:ByteArray) (a1:Option Addr) (n1 c1:Nat) (a2:Option Addr) (n2 c2:Nat) (i j:Int),w.heap[W+3]?=some (.cells #[.pointer p,.string t,.slice a1 n1 c1,.slice a2 n2 c2,.int .i64 i,.int .i64 j] tyMg (0,0))/\∀v,old=some v->v=.agg #[.pointer p,.string t,.slice a1 n1 c1,.slice a2 n2 c2,.int .i64 i,.int .i64 j]
 was:w.heap[W+4]?=some (.cells #[.bool old.isSome] 4 (0,0))
theorem Unb.kept{tb:Nat}{x:Ky}{old:Option Value}{W:Nat}{w w':World}(h:Unb tb x old W w)(hk:∀k,W<=k->k<W+5->w'.heap[k]?=w.heap[k]?):Unb tb x old W w':=by
 obtain⟨h1,h2,⟨p,t,a1,n1,c1,a2,n2,c2,i,j,h3,h3'⟩,h4⟩:=h
 exact⟨(hk _ (by omega) (by omega)).trans h1,(hk _ (by omega) (by omega)).trans h2,⟨p,t,a1,n1,c1,a2,n2,c2,i,j,(hk _ (by omega) (by omega)).trans h3,h3'⟩,(hk _ (by omega) (by omega)).trans h4⟩
section
variable {tb n:Nat}{f:Ky->Option Value}{w:World}{x:Ky}
theorem Bind_any(h:MapHas okK kyV w tb n f)(hx:okK x)(hs:∀v,f x=some v->Six v){m:Value}(hm:Six m) :
  Calls prog 136 #[.map (some tb),kyV x,m] w fun e w'=>e=.returned (unbV w.heap.size)/\(∃n',MapHas okK kyV w' tb n' (fun y=>if y=x then some m else f y))/\Unb tb x (f x) w.heap.size w'/\w'.heap.size=w.heap.size+5/\Kn (·=tb) w w':=by
 obtain⟨p0,s0,u1,v1,d1,u2,v2,d2,i0,j0,rfl⟩:=hm
 generalize hQ:(fun(e:Ending) (w':World)=>e=.returned (unbV w.heap.size)/\(∃n',MapHas okK kyV w' tb n' (fun y=>if y=x then some (.agg #[.pointer p0,.string s0,.slice u1 v1 d1,.slice u2 v2 d2,.int .i64 i0,.int .i64 j0])else f y))/\Unb tb x (f x) w.heap.size w'/\w'.heap.size=w.heap.size+5/\Kn (·=tb) w w')=Q
 unfold kyV
 obtain⟨g0,g1,a1,n1,c1,a2,n2,c2,g4,g5,hg⟩:Six ((f x).getD (.agg #[.pointer none,.string ⟨#[]⟩,.slice none 0 0,.slice none 0 0,.int .i64 0,.int .i64 0])):=by
  cases hf:f x with
  |none=>exact⟨_,_,_,_,_,_,_,_,_,_,rfl⟩
  |some v=>exact hs v hf
 have hl:∀w',MapHas okK kyV w' tb n f->(Instr.lookup tyTab (.map (some tb)) (.agg #[.int .i64 x.1,.string (bs x.2)]) true).run prog w'=.ok (.tuple #[.agg #[.pointer g0,.string g1,.slice a1 n1 c1,.slice a2 n2 c2,.int .i64 g4,.int .i64 g5],.bool (f x).isSome]) w':=fun w' h'=>by
  have:=look_tab h' hx true
  rw[if_pos rfl,hg]at this
  exact this
 have hl1:=hl _ (((h.alloc (.cells #[.map (some tb)] tyTab)).alloc (.cells #[.int .i64 x.1,.string (bs x.2)] tyKey)).alloc (.cells #[.pointer p0,.string s0,.slice u1 v1 d1,.slice u2 v2 d2,.int .i64 i0,.int .i64 j0] tyMg))
 have h5:=((((h.alloc (.cells #[.map (some tb)] tyTab)).alloc (.cells #[.int .i64 x.1,.string (bs x.2)] tyKey)).alloc (.cells #[.pointer p0,.string s0,.slice u1 v1 d1,.slice u2 v2 d2,.int .i64 i0,.int .i64 j0] tyMg)).alloc (.cells #[.pointer g0,.string g1,.slice a1 n1 c1,.slice a2 n2 c2,.int .i64 g4,.int .i64 g5] tyMg)).alloc (.cells #[.bool (f x).isSome] 4)
 obtain⟨w6,hup,hm6,ht6⟩:=h5.store ky_ops under_tab (v:=.agg #[.pointer p0,.string s0,.slice u1 v1 d1,.slice u2 v2 d2,.int .i64 i0,.int .i64 j0]) hx trivial (fun _ _=>trivial)
 unfold kyV at hup
 have hsz:=turned_size ht6
 have htl:=h.lt
 have hfin:(∃n',MapHas okK kyV w6 tb n' (fun y=>if y=x then some (.agg #[.pointer p0,.string s0,.slice u1 v1 d1,.slice u2 v2 d2,.int .i64 i0,.int .i64 j0])else f y))/\Unb tb x (f x) w.heap.size w6/\w6.heap.size=w.heap.size+5/\Kn (·=tb) w w6:=by
  refine⟨⟨_,hm6⟩,⟨?_,?_,⟨g0,g1,a1,n1,c1,a2,n2,c2,g4,g5,?_,?_⟩,?_⟩,?_,?_⟩
  ·rw[turned_ne ht6 (by omega)];simp only[alloc_heap,alloc_size];repeat (first|rw[if_neg (by omega)]|(rw[if_pos trivial];done)|rw[if_pos (by omega)])
  ·rw[turned_ne ht6 (by omega)];simp only[alloc_heap,alloc_size];repeat (first|rw[if_neg (by omega)]|(rw[if_pos trivial];done)|rw[if_pos (by omega)])
  ·rw[turned_ne ht6 (by omega)];simp only[alloc_heap,alloc_size];repeat (first|rw[if_neg (by omega)]|(rw[if_pos trivial];done)|rw[if_pos (by omega)])
  ·intro v hv;rw[hv]at hg;exact hg
  ·rw[turned_ne ht6 (by omega)];simp only[alloc_heap,alloc_size];repeat (first|rw[if_neg (by omega)]|(rw[if_pos trivial];done)|rw[if_pos (by omega)])
  ·rw[hsz];simp
  ·exact((((((Kn.refl _ w).alloc _).alloc _).alloc _).alloc _).alloc _).turned ht6 (inl rfl)
 have HF:=hide hfin
 clear h hs hg hl h5 hm6 ht6 hfin hsz htl
 have hq:Q (.returned (unbV w.heap.size)) w6:=by rw[<- hQ];exact⟨rfl,HF.out⟩
 have HQ:=hide hq
 clear HF hq hQ
 generalize (f x).isSome=sm at *
 generalize hsp:x.1=sp at *
 generalize hnm:bs x.2=nm at *
 clear hsp hnm
 go_enter func136,ntmps136
 go_wp2
 exact HQ.out
end
end
section
open Go.RowKit
abbrev tyLM:TypeId:=224
theorem under_lm:prog.underlying tyLM=some (.map tyTypeP tyTypeP):=by kernel_rfl
theorem under_tp:prog.underlying tyTypeP=some (.pointer tyType):=by kernel_rfl
theorem tp_ops:KeyOps prog tyTypeP (fun _:Nat=>True) isVarB ptrK:=by
 have h:(prog.info? tyType).map (fun i=>i.size)=some 4:=info_type
 cases hi:prog.info? tyType with
 |none=>rw[hi]at h;cases h
 |some j=>
  rw[hi]at h
  have hz:j.size=4:=by simpa using h
  exact ptr_keyed under_tp hi (by rw[hz];decide)
theorem tp_zero(w:World):(zeroValue tyTypeP).run prog w=.ok (.pointer none) w:=by
 have h:(prog.info? tyTypeP).map (fun i=>i.zero)=some (some (.pointer none)):=by kernel_rfl
 cases hi:prog.info? tyTypeP with
 |none=>rw[hi]at h;cases h
 |some j=>
  rw[hi]at h
  have hz:j.zero=some (.pointer none):=by simpa using h
  simp[zeroValue,typeInfo,hi,hz,Result.andThen]
def LMf(ad:List Nat)(m:List (Nat×Nat))(f:Nat->Option Value):Prop:=
 (∀i,i<ad.length->f (adA ad i)=(m.lookup i).map (adV ad))/\(∀b,(f b).isSome=true->b∈ad)/\∀p∈m,p.1<ad.length/\p.2<ad.length
def LM(ad:List Nat)(m:List (Nat×Nat))(lb:Nat)(w:World):Prop:=
 ∃n f,MapHas (fun _:Nat=>True) ptrK w lb n f/\LMf ad m f
theorem LM.kept{ad:List Nat}{m:List (Nat×Nat)}{lb:Nat}{w w':World}(h:LM ad m lb w)(hk:w'.heap[lb]?=w.heap[lb]?):LM ad m lb w':=by
 obtain⟨n,f,h1,h2⟩:=h
 exact⟨n,f,h1.kept hk,h2⟩
theorem LM.lt{ad:List Nat}{m:List (Nat×Nat)}{lb:Nat}{w:World}(h:LM ad m lb w):lb<w.heap.size:=by
 obtain⟨n,f,h1,_⟩:=h
 exact h1.lt
theorem lookup_memT{m:List (Nat×Nat)}{i j:Nat}(h:m.lookup i=some j):(i,j)∈m:=by
 induction m with
 |nil=>cases h
 |cons p r ih=>
  obtain⟨a,b⟩:=p
  rw[List.lookup_cons]at h
  by_cases he:i=a
  ·subst he;simp at h;subst h;exact mem_cons_self ..
  ·rw[beq_false_of_ne he]at h;exact mem_cons_of_mem _ (ih h)
theorem lookup_snoc(m:List (Nat×Nat))(i j k:Nat):(m++[(i,j)]).lookup k=(m.lookup k).or (if k=i then some j else none):=by
 induction m with
 |nil=>
  rw[nil_append,List.lookup_cons]
  by_cases h:k=i
  ·subst h;simp
  ·rw[beq_false_of_ne h,if_neg h];rfl
 |cons p r ih=>
  obtain⟨a,b⟩:=p
  rw[cons_append,List.lookup_cons,List.lookup_cons,ih]
  by_cases h:k=a
  ·subst h;simp
  ·rw[beq_false_of_ne h]
section
variable {ar:Nm->Nat}{ad:List Nat}{X:Nat->Prop}{rk:Nat->Nat}{σ:TS}{w:World}{r lb d:Nat}{m:List (Nat×Nat)}
theorem StoM.isVarM(h:StoM ar ad X rk σ w){b:Nat}(hb:b∈ad):isVarB w b:=by
 obtain⟨i,hi,rfl⟩:=h.mem_of hb
 obtain⟨pv,fv,h1,_⟩:=h.node i hi
 exact⟨_,_,h1⟩
theorem adA_app(l:List Nat){i:Nat}(hi:i<ad.length):adA (ad++l) i=adA ad i:=by
 unfold adA;rw[List.getElem?_append_left hi]
theorem adV_app(l:List Nat){i:Nat}(hi:i<ad.length):adV (ad++l) i=adV ad i:=by
 unfold adV;rw[adA_app l hi]
theorem adA_new(b:Nat):adA (ad++[b]) ad.length=b:=by unfold adA;simp
theorem LMf.more{f:Nat->Option Value}(h:LMf ad m f)(b:Nat)(hb:b∉ad):LMf (ad++[b]) m f:=by
 obtain⟨h2,h3,h4⟩:=h
 refine⟨fun i hi=>?_,fun x hx=>List.mem_append_left _ (h3 x hx),fun p hp=>?_⟩
 ·rw[length_append,List.length_singleton]at hi
  by_cases hil:i<ad.length
  ·rw[adA_app _ hil,h2 i hil]
   cases hl:m.lookup i with
   |none=>rfl
   |some j=>simp only[Option.map_some];rw[adV_app _ (h4 _ (lookup_memT hl)).2]
  ·have:i=ad.length:=by omega
   subst this
   rw[adA_new]
   have hf:f b=none:=by
    cases hfb:f b with
    |none=>rfl
    |some v=>exact absurd (h3 b (by rw[hfb];rfl)) hb
   rw[hf]
   cases hl:m.lookup ad.length with
   |none=>rfl
   |some j=>have:=(h4 _ (lookup_memT hl)).1;simp at this
 ·have:=h4 p hp
  rw[length_append];omega
theorem LM.more(h:LM ad m lb w)(b:Nat)(hb:b∉ad):LM (ad++[b]) m lb w:=by
 obtain⟨n,f,h1,h2⟩:=h
 exact⟨n,f,h1,h2.more b hb⟩
theorem LMf.add{f:Nat->Option Value}(h:LMf ad m f)(hp:ad.Pairwise (· < ·)){j:Nat}(hr:r<ad.length)(hj:j<ad.length)(hl:m.lookup r=none):LMf ad (m++[(r,j)]) (fun y=>if y=adA ad r then some (adV ad j)else f y):=by
 obtain⟨h2,h3,h4⟩:=h
 refine⟨fun i hi=>?_,fun x hx=>?_,fun p hq=>?_⟩
 ·simp only
  rw[lookup_snoc]
  by_cases hir:i=r
  ·subst hir;rw[if_pos rfl,if_pos rfl,hl];rfl
  ·rw[if_neg (fun e=>hir (adA_inj hp hi hr e)),if_neg hir,h2 i hi,Option.or_none]
 ·simp only at hx
  split at hx
  ·next e=>subst e;exact adA_mem hr
  ·exact h3 x hx
 ·rcases mem_append.1 hq with hq|hq
  ·exact h4 p hq
  ·rw[mem_singleton.1 hq];exact⟨hr,hj⟩
def AnsI(ar:Nm->Nat)(ad:List Nat)(X:Nat->Prop)(lb:Nat)(o:Nat×TS×List (Nat×Nat))(w:World)(e:Ending)(w':World):Prop:=
 ∃l rk',e=.returned (adV (ad++l) o.1)/\o.1<o.2.1.nodes.length/\StoM ar (ad++l) X rk' o.2.1 w'/\LM (ad++l) o.2.2 lb w'/\Kn (fun k=>k∈ad\/k=lb) w w'/\∀b∈l,w.heap.size<=b
def liOf(σ:TS)(d:Nat)(m:List (Nat×Nat))(r:Nat):Nat×TS×List (Nat×Nat):=
 if σ.depth r≠openD then(r,σ,m)
 else match m.lookup r with
  |some j=>(j,σ,m)
  |none=>(σ.nodes.length,(σ.letter d).2,m++[(r,σ.nodes.length)])
theorem letterInstance_any(h:StoM ar ad X rk σ w)(hi:r<σ.nodes.length)(hm:LM ad m lb w) :
  Calls prog 231 #[adV ad r,.int .i64 d,.map (some lb)] w (AnsI ar ad X lb (liOf σ d m r) w):=by
 obtain⟨pv,fv,_,_,_,c3,_,_,_,_⟩:=h.cell hi
 have hdep:(σ.node r).depth=σ.depth r:=rfl
 rw[hdep]at c3
 have hil:r<ad.length:=by rw[h.len];exact hi
 obtain⟨n,f,m1,m2,m3,m4⟩:=hm
 have mf:LMf ad m f:=⟨m2,m3,m4⟩
 have hS:∀w',StoM ar ad X rk σ w'->∀y,(f y).isSome=true->isVarB w' y:=fun w' h' y hy=>h'.isVarM (m3 y hy)
 have hlook:=m1.look tp_ops under_lm (tp_zero w) (x:=adA ad r) trivial (h.isVarM (adA_mem hil)) (hS w h) false
 simp only[Bool.false_eq_true,if_false]at hlook
 rw[m2 r hil]at hlook
 unfold liOf
 by_cases hd:σ.depth r=openD
 ·rw[if_neg (fun e=>e hd)]
  rw[hd]at c3
  cases hlk:m.lookup r with
  |some j=>
   rw[hlk]at hlook
   have hj:=(m4 _ (lookup_memT hlk)).2
   have hq:AnsI ar ad X lb (j,σ,m) w (.returned (adV ad j)) w:=⟨[],rk,by rw[append_nil],by rw[<- h.len];exact hj,by rw[append_nil];exact h,by rw[append_nil];exact⟨n,f,m1,m2,m3,m4⟩,Kn.refl _ _,by simp⟩
   have HQ:=hide hq
   clear mf hq h m1 m2 m3 m4 hS hlk hj hd
   generalize AnsI ar ad X lb (j,σ,m) w=Q at *
   unfold adV ptrV ptrK at *
   simp only[Option.map_some,Option.getD_some]at hlook
   generalize adA ad r=b at *
   generalize adA ad j=bj at *
   go_enter func231,ntmps231
   go_wp2
   exact HQ.out
  |none=>
   rw[hlk]at hlook
   have hnm:w.heap.size∉ad:=fun e=>Nat.lt_irrefl _ (h.ad_lt e)
   have hst:=h.new (t:=⟨[],[],d⟩) (pv:=.slice none 0 0) (by simp) (fun _=>rfl) (fun e=>absurd rfl e) ⟨rfl,inl ⟨rfl,rfl⟩⟩ (fun g hg=>by simp[Value.ownBlock]at hg)
   have hw1:=m1.kept (Below.heap_alloc w (.cells #[.string (bs []),.slice none 0 0,.pointer none,.int .i64 d] tyType) _ m1.lt)
   have hS1:∀y,(f y).isSome=true->isVarB (w.alloc (.cells #[.string (bs []),.slice none 0 0,.pointer none,.int .i64 d] tyType)) y:=fun y hy=>hst.isVarM (List.mem_append_left _ (m3 y hy))
   obtain⟨w2,hup,hm2,ht2⟩:=hw1.store tp_ops under_lm (x:=adA ad r) (v:=ptrV w.heap.size) trivial (hst.isVarM (List.mem_append_left _ (adA_mem hil))) hS1
   have hst2:StoM ar (ad++[w.heap.size]) X rk (σ.letter d).2 w2:=hst.kept (fun k hk=>by obtain⟨c,f,hc⟩:=hst.isT hk;exact turned_other ht2 hc) (fun k c f _ hc=>turned_other ht2 hc)
   have hS2:∀y,((fun y=>if y=adA ad r then some (ptrV w.heap.size)else f y) y).isSome=true->isVarB w2 y:=fun y hy=>by
    simp only at hy
    split at hy
    ·next e=>subst e;exact hst2.isVarM (List.mem_append_left _ (adA_mem hil))
    ·exact hst2.isVarM (List.mem_append_left _ (m3 y hy))
   have hlook2:=hm2.look tp_ops under_lm (tp_zero w2) (x:=adA ad r) trivial (hst2.isVarM (List.mem_append_left _ (adA_mem hil))) hS2 false
   simp only[Bool.false_eq_true,if_false,if_true,Option.getD_some]at hlook2
   have hlm:LM (ad++[w.heap.size]) (m++[(r,σ.nodes.length)]) lb w2:=by
    have h1:=(mf.more w.heap.size hnm).add hst.lt (r:=r) (j:=ad.length) (by rw[length_append];omega) (by simp) hlk
    rw[adA_app _ hil,show adV (ad++[w.heap.size]) ad.length=ptrV w.heap.size by unfold adV;rw[adA_new]]at h1
    rw[<- h.len]
    exact⟨_,_,hm2,h1⟩
   have hq:AnsI ar ad X lb (σ.nodes.length,(σ.letter d).2,m++[(r,σ.nodes.length)]) w (.returned (ptrV w.heap.size)) w2:=
    ⟨[w.heap.size],rk,by unfold adV;rw[<- h.len,adA_new],by simp[TS.letter,TS.new],hst2,hlm,(((Kn.refl _ w).alloc _).turned ht2 (inl (inr rfl))),fun b hb=>by rw[mem_singleton.1 hb];exact le_refl _⟩
   have hc:=NewLetter_any d w
   have HC:=hide hc
   have HQ:=hide hq
   clear mf hc hq h m1 m2 m3 m4 hS hlk hd hnm hst hw1 hS1 hm2 ht2 hst2 hS2 hlm
   generalize AnsI ar ad X lb (σ.nodes.length,(σ.letter d).2,m++[(r,σ.nodes.length)]) w=Q at *
   unfold adV ptrV ptrK at *
   simp only[Option.map_none,Option.getD_none]at hlook
   generalize adA ad r=b at *
   go_enter func231,ntmps231
   go_wp2_with fail
   refine(HC.out).mono ?_;rintro e w1⟨rfl,rfl⟩
   go_wp2
   exact HQ.out
 ·rw[if_pos hd]
  have hd2:¬((σ.depth r:Int)=9223372036854775807):=fun e=>hd (by unfold openD;omega)
  have hq:AnsI ar ad X lb (r,σ,m) w (.returned (adV ad r)) w:=⟨[],rk,by rw[append_nil],hi,by rw[append_nil];exact h,by rw[append_nil];exact⟨n,f,m1,m2,m3,m4⟩,Kn.refl _ _,by simp⟩
  have HQ:=hide hq
  clear mf hq h m1 m2 m3 m4 hS hlook hdep hd
  generalize AnsI ar ad X lb (r,σ,m) w=Q at *
  generalize σ.depth r=dp at *
  unfold adV ptrV at *
  generalize adA ad r=b at *
  go_enter func231,ntmps231
  go_wp2
  exact HQ.out
end
end
end Go.Proofs.YtcbppnefeonmgaaGreatDoor
