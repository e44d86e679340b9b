import Derived.Test.YtbkiipiocpnnnaaGreatDoorC8
import Derived.LaidEqlPtr
set_option linter.all false
set_option maxHeartbeats 40000000
set_option maxRecDepth 100000
open Go.Proofs.Tryz
open Or (inl inr)
open Nat (le_refl)
open List (mem_cons_self mem_cons_of_mem mem_cons)
namespace Go.Proofs.YtbkiipiocpnnnaaGreatDoor
section
open Go.RowKit
section
variable {ar:Nm->Nat}{ad:List Nat}{X:Nat->Prop}{rk:Nat->Nat}{σ:TS}{w w':World}{i:Nat}
theorem Enters.open1:Enters 190:=enters func190 (by kernel_rfl) rfl
theorem StoM.drewN(h:StoM ar ad X rk σ w)(n:Nat):StoM ar ad X rk σ (w.drewN n):=h.kept (fun _ _=>rfl) (fun _ _ _ _ _=>rfl)
theorem Kn.drewN{D:Nat->Prop}{a:World}(h:Kn D a w)(n:Nat):Kn D a (w.drewN n):=⟨h.os,h.tape,h.output,h.size,h.block⟩
theorem open1_any{db d:Nat}(h:StoM ar ad X rk σ w)(hi:i<σ.nodes.length)(hb:w.heap[db]?=some (.cells #[.int .i64 d] tyIntB (0,0))) :
  Calls prog 190 #[adV ad i,.pointer (some ⟨db,0,none⟩)] w (AnsTB ar ad X rk (if (σ.isLetter i && decide (d<σ.depth i))=true then σ.setDepth i openD else σ) (.bool true) w):=by
 have hc:=fun n=>isLetter_any (h.drewN n) hi
 obtain⟨pv,fv,_,_,_,c3,_,f3,_,_⟩:=h.cell hi
 have cd:w.cell? ⟨db,0,none⟩=some (.int .i64 d):=by simp[World.cell?,hb]
 have hdep:(σ.node i).depth=σ.depth i:=rfl
 rw[hdep]at c3
 have hmem:adA ad i∈ad:=adA_mem (by rw[h.len];exact hi)
 have hq1:∀n,(σ.isLetter i && decide (d<σ.depth i))=false->AnsTB ar ad X rk (if (σ.isLetter i && decide (d<σ.depth i))=true then σ.setDepth i openD else σ) (.bool true) w (.returned (.bool true)) (w.drewN n):=fun n hf=>by
  rw[hf];exact⟨rfl,h.drewN n,(Kn.refl _ w).drewN n⟩
 have hq2:∀n,(σ.isLetter i && decide (d<σ.depth i))=true->AnsTB ar ad X rk (if (σ.isLetter i && decide (d<σ.depth i))=true then σ.setDepth i openD else σ) (.bool true) w (.returned (.bool true)) ((w.drewN n).setCell ⟨adA ad i,3,none⟩ (.int .i64 openD)):=fun n hf=>by
  rw[hf];exact⟨rfl,(h.drewN n).setDepth hi openD,((Kn.refl _ w).drewN n).set (inl hmem) _⟩
 have HC:=hide hc
 have HQ1:=hide hq1
 have HQ2:=hide hq2
 clear hc h hb hdep hq1 hq2 hmem
 generalize AnsTB ar ad X rk (if (σ.isLetter i && decide (d<σ.depth i))=true then σ.setDepth i openD else σ) (.bool true) w=Q at *
 generalize σ.depth i=dp at *
 generalize σ.isLetter i=lt at *
 unfold adV ptrV at *
 generalize adA ad i=b at *
 cases lt with
 |false=>
  go_enter func190,ntmps190
  go_wp2_with fail
  go_quiet (first|(go_at_call 34;refine Calls.quiet_of_same (HC.out _)))
  go_wp2
  exact HQ1.out _ rfl
 |true=>
  by_cases hd:d<dp
  ·have hd2:(d:Int)<(dp:Int):=by omega
   have hd3:decide (d<dp)=true:=decide_eq_true hd
   go_enter func190,ntmps190
   go_wp2_with fail
   go_quiet (first|(go_at_call 34;refine Calls.quiet_of_same (HC.out _)))
   go_wp2
   exact HQ2.out _ (by rw[hd3];rfl)
  ·have hd2:¬(d:Int)<(dp:Int):=by omega
   have hd3:decide (d<dp)=false:=decide_eq_false hd
   have hd4:decide ((d:Int)<(dp:Int))=false:=decide_eq_false hd2
   go_enter func190,ntmps190
   go_wp2_with fail
   go_quiet (first|(go_at_call 34;refine Calls.quiet_of_same (HC.out _)))
   go_wp2
   exact HQ1.out _ (by rw[hd3];rfl)
theorem open_visits(db d:Nat):Visits ar ad X rk σ 190 #[.pointer (some ⟨db,0,none⟩)] (fun _ _=>true) (fun k=>k∈ad\/k=db) (fun acc=>opened σ d acc) (fun _ w=>w.heap[db]?=some (.cells #[.int .i64 d] tyIntB (0,0))) (fun _=>True) where
 enters:=Enters.open1
 good _ _ _ _:=trivial
 alike acc:=opened_alike acc σ d
 ads k hk:=inl hk
 rows acc w k c f hs hz hd hc:=by
  rcases hd with hd|rfl
  ·obtain⟨c2,f2,h2⟩:=hs.isT hd
   rw[hc]at h2
   exact absurd (cells_ty h2) (by decide)
  ·rw[hz]at hc
   exact absurd (cells_ty hc) (by decide)
 stays acc w w' hz hs hk:=by rw[hk.block db (lt_of_heap hz) (box_ne (by decide) hz hs)];exact hz
 visit acc r w _ hs hz hr hrr:=by
  have hlen:=(opened_alike acc σ d).len
  have hr':r<(opened σ d acc).nodes.length:=by rw[hlen];exact hr
  refine(open1_any hs hr' hz).mono ?_
  rintro e w'⟨rfl,h2,h3⟩
  rw[opened_snoc]
  exact⟨rfl,h2,by rw[h3.block db (lt_of_heap hz) (box_ne (by decide) hz hs)];exact hz,h3.wide fun k _ hk=>inl hk⟩
theorem Open_any(d:Nat)(h:StoM ar ad X rk σ w)(hi:i<σ.nodes.length)(hf:σ.fits i=true):Calls prog 141 #[adV ad i,.int .i64 d] w (AnsTB ar ad X rk (σ.openAll d i) (.tuple #[]) w):=by
 have hwk:=TS.fits_pre hf
 have h1:=h.alloc (.cells #[.int .i64 d] tyIntB)
 have hb:(w.alloc (.cells #[.int .i64 d] tyIntB)).heap[w.heap.size]?=some (.cells #[.int .i64 d] tyIntB (0,0)):=(MapKept.heap_alloc w _).1
 have hc:=walk_any (open_visits (ar:=ar) (ad:=ad) (X:=X) (rk:=rk) (σ:=σ) w.heap.size d) wkFuel [] i (w.alloc (.cells #[.int .i64 d] tyIntB)) (σ.pre i) true hwk hi trivial h1 hb
 have hq:∀e w',AnsWk ar ad X rk (fun k=>k∈ad\/k=w.heap.size) (fun acc=>opened σ d acc) (fun _ w1=>w1.heap[w.heap.size]?=some (.cells #[.int .i64 d] tyIntB (0,0))) (σ.pre i) true (w.alloc (.cells #[.int .i64 d] tyIntB)) e w'->e=.returned (.bool true)/\AnsTB ar ad X rk (σ.openAll d i) (.tuple #[]) w (.returned (.tuple #[])) w':=by
  intro e w' ha
  obtain⟨a1,a2,a3⟩:=ha.toB (w0:=w) ((Kn.refl _ w).alloc _) (fun k hk hd=>by
   rcases hd with hd|rfl
   ·exact hd
   ·omega)
  exact⟨a1,rfl,a2,a3⟩
 have HC:=hide hc
 have HQ:=hide hq
 clear hc hq hb h1 h hwk hf
 generalize AnsTB ar ad X rk (σ.openAll d i) (.tuple #[]) w=Q at *
 generalize AnsWk ar ad X rk (fun k=>k∈ad\/k=w.heap.size) (fun acc=>opened σ d acc) (fun _ w1=>w1.heap[w.heap.size]?=some (.cells #[.int .i64 d] tyIntB (0,0))) (σ.pre i) true (w.alloc (.cells #[.int .i64 d] tyIntB))=Q1 at *
 unfold adV ptrV at *
 go_enter func141,ntmps141
 go_wp2_with fail
 refine(HC.out).mono ?_;intro e w1 ha
 obtain⟨rfl,hq⟩:=HQ.out e w1 ha
 have HF:=hide hq
 clear ha hq HQ HC
 go_wp2
 first|exact HF.out|(go_ret3;exact HF.out)|(go_end0;exact HF.out)
end
end
section
open Go.RowKit Go.MapKept
def ptrK(b:Nat):Value:=.pointer (some ⟨b,0,none⟩)
def isVarB(w:World)(b:Nat):Prop:=∃c t,w.heap[b]?=some (.cells c t (0,0))
theorem ptr_equal{P:Program}{k e:TypeId}{j:TypeInfo}(hk:P.underlying k=some (.pointer e))(hj:P.info? e=some j)(hsz:j.size≠0){w:World}{x y:Nat}(hx:isVarB w x)(hy:isVarB w y):(Op.equal k (ptrK x) (ptrK y)).run P w=.ok (decide (x=y)) w:=by
 by_cases he:x=y
 ·subst he
  have h:∀d:Nat,(Op.equalIn (d+1) k (ptrK x) (ptrK x)).run P w=.ok true w:=fun d=>by
   simp[Op.equalIn,ptrK,run_underlying hk,sizeOf,typeInfo,hj,run_sameAddr_same]
  simp[Op.equal,Op.maxDepth,h 9999]
 ·obtain⟨cx,tx,hx⟩:=hx
  obtain⟨cy,ty,hy⟩:=hy
  have hne:(⟨x,0,none⟩:Addr)≠⟨y,0,none⟩:=fun e=>he (by simpa using e)
  have h:∀d:Nat,(Op.equalIn (d+1) k (ptrK x) (ptrK y)).run P w=.ok false w:=fun d=>by
   simp[Op.equalIn,ptrK,run_underlying hk,sizeOf,typeInfo,hj,hsz,run_sameAddr_other w hne hx hy]
  simp[Op.equal,Op.maxDepth,h 9999,he]
theorem ptr_ask{P:Program}{k e:TypeId}{j:TypeInfo}(hk:P.underlying k=some (.pointer e))(hj:P.info? e=some j)(hsz:j.size≠0){w:World}{x:Nat}(hx:isVarB w x):∀(es:List MapEntry)(i:Nat),(∀e∈es,∃y,isVarB w y/\e.key=ptrK y) ->
  ((Instr.findAsking k (ptrK x) es i).run P w=.ok none w/\∀e∈es,e.key≠ptrK x)\/∃j' e',(Instr.findAsking k (ptrK x) es i).run P w=.ok (some (i+j',e'.val)) w/\es[j']?=some e'/\e'.key=ptrK x:=by
 intro es
 induction es with
 |nil=>intro i _;exact inl ⟨by simp[Instr.findAsking],by simp⟩
 |cons a r ih=>
  intro i h
  obtain⟨y,hy,ey⟩:=h a (mem_cons_self ..)
  have heq:=ptr_equal hk hj hsz hx hy
  by_cases he:x=y
  ·subst he
   exact inr ⟨0,a,by simp[Instr.findAsking,ey,heq,Result.andThen],rfl,ey⟩
  ·have hane:a.key≠ptrK x:=by rw[ey];intro e2;exact he (by simpa [ptrK]using e2.symm)
   rcases ih (i+1) (fun e he=>h e (mem_cons_of_mem _ he))with⟨h1,h2⟩|⟨j',e',h1,h2,h3⟩
   ·refine inl ⟨by simp[Instr.findAsking,ey,heq,he,h1,Result.andThen],fun e he=>?_⟩
    rcases mem_cons.1 he with rfl|he
    ·exact hane
    ·exact h2 e he
   ·exact inr ⟨j'+1,e',by simp[Instr.findAsking,ey,heq,he,h1,Result.andThen];omega,by simpa using h2,h3⟩
theorem ptr_keyed{P:Program}{k e:TypeId}{j:TypeInfo}(hk:P.underlying k=some (.pointer e))(hj:P.info? e=some j)(hsz:j.size≠0):KeyOps P k (fun _:Nat=>True) isVarB ptrK where
 inj _ _ h:=by simpa [ptrK]using h
 check w em x _:=by
  unfold Instr.checkKey
  simp[run_underlying hk,Result.andThen,ptrK]
 find w x _ hx es hes:=by
  cases es with
  |nil=>exact inl ⟨by simp[Instr.findKey,run_underlying hk,Instr.findNow,Result.andThen],by simp⟩
  |cons a r=>
   have hnow:Instr.findNow (.pointer e) (ptrK x) (a::r) 0=none:=by
    simp[Instr.findNow,Instr.sameNow]
   have hrun:(Instr.findKey k (ptrK x) (a::r)).run P w=(Instr.findAsking k (ptrK x) (a::r)).run P w:=by
    simp[Instr.findKey,run_underlying hk,hnow,Result.andThen]
   rw[hrun]
   rcases ptr_ask hk hj hsz hx (a::r) 0 (fun e he=>by obtain⟨y,_,hy,ey⟩:=hes e he;exact⟨y,hy,ey⟩)with h|⟨j',e',h1,h2⟩
   ·exact inl h
   ·exact inr ⟨j',e',by simpa using h1,h2⟩
 stays w x _:=by
  unfold Instr.keyThatStays
  simp[Instr.sameBits,ptrK]
end
section
open Go.RowKit
section
variable {ar:Nm->Nat}{ad:List Nat}{X:Nat->Prop}{rk:Nat->Nat}{σ:TS}{w w':World}{i:Nat}
theorem Enters.stand1:Enters 265:=enters func265 (by kernel_rfl) rfl
theorem info_type:(prog.info? tyType).map (fun j=>j.size)=some 4:=by kernel_rfl
theorem under_typeP:prog.underlying tyTypeP=some (.pointer tyType):=by kernel_rfl
theorem ptr_neq{b1 b2:Nat}{w:World}(h1:isVarB w b1)(h2:isVarB w b2):(binOp .neq tyTypeP (.pointer (some ⟨b1,0,none⟩)) (.pointer (some ⟨b2,0,none⟩))).run prog w=.ok (.bool (decide (b1≠b2))) w:=by
 obtain⟨j,hj⟩:∃j,prog.info? tyType=some j:=by
  cases hx:prog.info? tyType with
  |none=>have:=info_type;rw[hx]at this;cases this
  |some j=>exact⟨j,rfl⟩
 have hsz:j.size≠0:=by
  have:=info_type
  rw[hj]at this
  have h4:j.size=4:=by simpa using this
  omega
 have:=ptr_equal under_typeP hj hsz h1 h2
 unfold ptrK at this
 simp only[binOp]
 simp[this,Result.andThen]
theorem ptr_eql{b1 b2:Nat}{w:World}(h1:isVarB w b1)(h2:isVarB w b2):(binOp .eql tyTypeP (.pointer (some ⟨b1,0,none⟩)) (.pointer (some ⟨b2,0,none⟩))).run prog w=.ok (.bool (decide (b1=b2))) w:=by
 obtain⟨j,hj⟩:∃j,prog.info? tyType=some j:=by
  cases hx:prog.info? tyType with
  |none=>have:=info_type;rw[hx]at this;cases this
  |some j=>exact⟨j,rfl⟩
 have hsz:j.size≠0:=by
  have:=info_type
  rw[hj]at this
  have h4:j.size=4:=by simpa using this
  omega
 have:=ptr_equal under_typeP hj hsz h1 h2
 unfold ptrK at this
 simp only[binOp]
 simp[this,Result.andThen]
theorem StoM.isVar(h:StoM ar ad X rk σ w)(hi:i<σ.nodes.length):isVarB w (adA ad i):=by
 obtain⟨pv,fv,h1,_⟩:=h.cells hi
 exact⟨_,_,h1⟩
theorem stand1_any{tbx t:Nat}(h:StoM ar ad X rk σ w)(hi:i<σ.nodes.length)(ht:t<σ.nodes.length)(hb:w.heap[tbx]?=some (.cells #[adV ad t] tyTypeP (0,0))) :
  Calls prog 265 #[adV ad i,.pointer (some ⟨tbx,0,none⟩)] w (AnsTB ar ad X rk (if σ.isLetter i then σ.setDepth i (min (σ.depth i) (σ.depth t))else σ) (.bool (i != t)) w):=by
 have hc:=isLetter_any h hi
 obtain⟨pv,fv,_,_,_,c3,_,f3,_,_⟩:=h.cell hi
 obtain⟨pv2,fv2,_,_,_,t3,_,_,_,_⟩:=h.cell ht
 have cd:w.cell? ⟨tbx,0,none⟩=some (adV ad t):=by simp[World.cell?,hb]
 have hdep:(σ.node i).depth=σ.depth i:=rfl
 have hdept:(σ.node t).depth=σ.depth t:=rfl
 rw[hdep]at c3
 rw[hdept]at t3
 have hne:∀w',StoM ar ad X rk (if σ.isLetter i then σ.setDepth i (min (σ.depth i) (σ.depth t))else σ) w'->(binOp .neq tyTypeP (.pointer (some ⟨adA ad i,0,none⟩)) (.pointer (some ⟨adA ad t,0,none⟩))).run prog w'=.ok (.bool (i != t)) w':=fun w' hs=>by
  have hlen:(if σ.isLetter i then σ.setDepth i (min (σ.depth i) (σ.depth t))else σ).nodes.length=σ.nodes.length:=by
   split
   ·exact(Alike.setDepth _ _ _).len
   ·rfl
  rw[ptr_neq (hs.isVar (by rw[hlen];exact hi)) (hs.isVar (by rw[hlen];exact ht))]
  congr 2
  by_cases he:i=t
  ·subst he;simp
  ·have:adA ad i≠adA ad t:=fun e=>he (adA_inj h.lt (by rw[h.len];exact hi) (by rw[h.len];exact ht) e)
   simp[he,this]
 have hmem:adA ad i∈ad:=adA_mem (by rw[h.len];exact hi)
 have htb:tbx∉ad:=box_ne (by decide) hb h
 have HC:=hide hc
 have HNE:=hide hne
 cases hl:σ.isLetter i with
 |false=>
  rw[hl]at HC HNE
  have hq:AnsTB ar ad X rk σ (.bool (i != t)) w (.returned (.bool (i != t))) w:=⟨rfl,h,Kn.refl _ _⟩
  have hrun:=HNE.out w h
  simp only[Bool.false_eq_true,if_false]
  have HQ:=hide hq
  clear hc hne HNE hq h hb hmem htb hdep hdept c3 f3 t3
  generalize AnsTB ar ad X rk σ (.bool (i != t)) w=Q at *
  generalize (i != t)=bv at *
  unfold adV ptrV at *
  generalize adA ad i=b at *
  generalize adA ad t=b2 at *
  go_enter func265,ntmps265
  go_wp2_with fail
  refine(HC.out).mono ?_;rintro e w1⟨rfl,rfl⟩
  go_wp2
  exact HQ.out
 |true=>
  rw[hl]at HC HNE
  have hq:StoM ar ad X rk (σ.setDepth i (min (σ.depth i) (σ.depth t))) (w.setCell ⟨adA ad i,3,none⟩ (.int .i64 ((min (σ.depth i) (σ.depth t):Nat)))).drew/\Kn (·∈ad) w (w.setCell ⟨adA ad i,3,none⟩ (.int .i64 ((min (σ.depth i) (σ.depth t):Nat)))).drew/\(w.setCell ⟨adA ad i,3,none⟩ (.int .i64 ((min (σ.depth i) (σ.depth t):Nat)))).drew.cell? ⟨tbx,0,none⟩=some (adV ad t):=by
   refine⟨(h.setDepth hi _).kept (fun _ _=>rfl) (fun _ _ _ _ _=>rfl),((Kn.refl _ w).set (inl hmem) _).drew,?_⟩
   have e1:(w.setCell ⟨adA ad i,3,none⟩ (.int .i64 ((min (σ.depth i) (σ.depth t):Nat)))).drew.heap[tbx]?=some (.cells #[adV ad t] tyTypeP (0,0)):=by
    show (w.setCell ⟨adA ad i,3,none⟩ (.int .i64 ((min (σ.depth i) (σ.depth t):Nat)))).heap[tbx]?=_
    rw[Below.heap_setCell _ _ _ _ (fun e=>htb (by have e:tbx=adA ad i:=e;rw[e];exact hmem))]
    exact hb
   simp[World.cell?,e1]
  have hfin:∀w',StoM ar ad X rk (σ.setDepth i (min (σ.depth i) (σ.depth t))) w'->Kn (·∈ad) w w'->AnsTB ar ad X rk (σ.setDepth i (min (σ.depth i) (σ.depth t))) (.bool (i != t)) w (.returned (.bool (i != t))) w':=fun w' a b=>⟨rfl,a,b⟩
  simp only[if_true]at HNE ⊢
  have hmin:((min (σ.depth i) (σ.depth t):Nat):Int)=min (σ.depth i:Int) (σ.depth t:Int):=by omega
  rw[hmin]at hq
  have HQ:=hide hq
  have HF:=hide hfin
  clear hc hne hq hfin h hb hmem htb hdep hdept hmin
  generalize AnsTB ar ad X rk (σ.setDepth i (min (σ.depth i) (σ.depth t))) (.bool (i != t)) w=Q at *
  generalize (i != t)=bv at *
  generalize StoM ar ad X rk (σ.setDepth i (min (σ.depth i) (σ.depth t)))=SS at *
  generalize hdi:σ.depth i=di at *
  generalize hdt:σ.depth t=dt at *
  unfold adV ptrV at *
  generalize adA ad i=b at *
  generalize adA ad t=b2 at *
  go_enter func265,ntmps265
  go_wp2_with fail
  refine(HC.out).mono ?_;rintro e w1⟨rfl,rfl⟩
  go_wp2_with fail
  go_region
  obtain⟨q1,q2,q3⟩:=HQ.out
  have HR:=hide (HNE.out _ q1)
  have HFF:=hide (HF.out _ q1 q2)
  clear q1 q2 HQ HNE HF HC c3 f3 t3 cd
  generalize (w1.setCell ⟨b,3,none⟩ (.int .i64 (min (di:Int) (dt:Int)))).drew=w3 at *
  have hrun:=HR.out
  go_wp2
  exact HFF.out
end
end
section
open Go.RowKit
theorem key0_any(s:ByteArray)(w:World):Calls prog 25 #[.string s] w fun e w'=>e=.returned (.agg #[.int .i64 0,.string s])/\w'=w.alloc (.cells #[.int .i64 0,.string s] tyKey):=by
 go_enter func25,ntmps25
 go_wp2
 refine bodyPost_ret (v:=.agg #[.int .i64 0,.string s]) (by simp[results,results25,go_sem]) rfl ⟨rfl,rfl⟩
theorem key2_any(s:ByteArray)(w:World):Calls prog 24 #[.string s] w fun e w'=>e=.returned (.agg #[.int .i64 2,.string s])/\w'=w.alloc (.cells #[.int .i64 2,.string s] tyKey):=by
 go_enter func24,ntmps24
 go_wp2
 refine bodyPost_ret (v:=.agg #[.int .i64 2,.string s]) (by simp[results,results24,go_sem]) rfl ⟨rfl,rfl⟩
section
variable {tb n:Nat}{f:Ky->Option Value}{w:World}{x:Ky}
theorem look_tab(h:MapHas okK kyV w tb n f)(hx:okK x)(c:Bool):(Instr.lookup tyTab (.map (some tb)) (.agg #[.int .i64 x.1,.string (bs x.2)]) c).run prog w=.ok (if c then .tuple #[(f x).getD (.agg #[.pointer none,.string ⟨#[]⟩,.slice none 0 0,.slice none 0 0,.int .i64 0,.int .i64 0]),.bool (f x).isSome]else(f x).getD (.agg #[.pointer none,.string ⟨#[]⟩,.slice none 0 0,.slice none 0 0,.int .i64 0,.int .i64 0])) w:=
 h.look ky_ops under_tab (mg_zero w) hx trivial (fun _ _=>trivial) c
theorem MapHas.alloc(h:MapHas okK kyV w tb n f)(o:Obj):MapHas okK kyV (w.alloc o) tb n f:=h.kept (Below.heap_alloc _ _ _ h.lt)
def Six(v:Value):Prop:=∃(p:Option Addr) (t:ByteArray) (a1:Option Addr) (n1 c1:Nat) (a2:Option Addr) (n2 c2:Nat) (i j:Int),v=.agg #[.pointer p,.string t,.slice a1 n1 c1,.slice a2 n2 c2,.int .i64 i,.int .i64 j]
theorem MgAt.six{ad:List Nat}{m:Mg}{v:Value}(h:MgAt ad w m v):Six v:=by
 obtain⟨lv,pv,bl,rfl,_,e3,e4,_⟩:=h
 have hsc:∃p,schV ad m.scheme=.pointer p:=by
  cases m.scheme with
  |none=>exact⟨none,rfl⟩
  |some t=>exact⟨_,rfl⟩
 obtain⟨p,hp⟩:=hsc
 rw[hp]
 rcases ownsRow_forms e3 with⟨rfl,_⟩|⟨g,cap,rfl⟩<;>rcases ownsRow_forms e4 with⟨rfl,_⟩|⟨g',cap',rfl⟩<;>exact⟨_,_,_,_,_,_,_,_,_,_,rfl⟩
theorem Has_any(h:MapHas okK kyV w tb n f)(hx:okK x)(hs:∀v,f x=some v->Six v):Calls prog 132 #[.map (some tb),kyV x] w fun e w'=>e=.returned (.bool (f x).isSome)/\Below w.heap.size w w':=by
 have hl:=look_tab (h.alloc (.cells #[.int .i64 x.1,.string (bs x.2)] tyKey)) hx true
 simp only[if_true]at hl
 obtain⟨g0,g1,a1,n1,c1,a2,n2,c2,g4,g5,hg⟩:Six ((f x).getD (.agg #[.pointer none,.string ⟨#[]⟩,.slice none 0 0,.slice none 0 0,.int .i64 0,.int .i64 0])):=by
  cases hf:f x with
  |none=>exact⟨_,_,_,_,_,_,_,_,_,_,rfl⟩
  |some v=>exact hs v hf
 rw[hg]at hl
 unfold kyV
 have hb:Below w.heap.size w ((w.alloc (.cells #[.int .i64 x.1,.string (bs x.2)] tyKey)).alloc (.cells #[.pointer g0,.string g1,.slice a1 n1 c1,.slice a2 n2 c2,.int .i64 g4,.int .i64 g5] tyMg)):=((Below.refl _ w).alloc (le_refl _) _).alloc (by simp) _
 have HB:=hide hb
 clear h hx hs hg hb
 generalize hQ:(fun(e:Ending) (w':World)=>e=.returned (.bool (f x).isSome)/\Below w.heap.size w w')=Q
 generalize (f x).isSome=sm at *
 generalize x.1=sp at *
 generalize bs x.2=nm at *
 go_enter func132,ntmps132
 go_wp2
 rw[<- hQ]
 exact⟨rfl,HB.out⟩
end
end
section
open Go.RowKit
theorem turned_ne'{w:World}{b:Nat}{es es':Array MapEntry}{clock clock':Nat}(hm:w.heap[b]?=some (.map es clock))(k:Nat)(hk:k≠b):(ChangeMaps.setBlock w b (.map es' clock')).heap[k]?=w.heap[k]?:=
 (MapKept.heap_set hm).2 k hk
theorem Kn.turned{D:Nat->Prop}{a w w':World}{b:Nat}(h:Kn D a w)(ht:w.mapTurned w' b)(hb:D b\/a.heap.size<=b):Kn D a w':=by
 obtain⟨es,clock,es',clock',hm,rfl⟩:=ht
 refine⟨h.os,h.tape,h.output,?_,fun k hk1 hk2=>?_⟩
 ·have:=h.size;simpa [ChangeMaps.setBlock]using this
 ·rw[turned_ne' hm k (fun e=>by subst e;rcases hb with hb|hb;exact hk2 hb;omega)]
  exact h.block k hk1 hk2
theorem turned_ne{w w':World}{b k:Nat}(h:w.mapTurned w' b)(hk:k≠b):w'.heap[k]?=w.heap[k]?:=by
 obtain⟨es,clock,es',clock',hb,rfl⟩:=h
 exact(MapKept.heap_set hb).2 k hk
theorem turned_size{w w':World}{b:Nat}(h:w.mapTurned w' b):w'.heap.size=w.heap.size:=by
 obtain⟨es,clock,es',clock',hb,rfl⟩:=h
 simp[ChangeMaps.setBlock]
theorem alloc_heap(w:World)(o:Obj)(k:Nat):(w.alloc o).heap[k]?=if k=w.heap.size then some o else w.heap[k]?:=by
 split
 ·next h=>subst h;exact(MapKept.heap_alloc w o).1
 ·next h=>
  by_cases hk:k<w.heap.size
  ·exact Below.heap_alloc _ _ _ hk
  ·rw[Array.getElem?_eq_none (by simp;omega),Array.getElem?_eq_none (by omega)]
theorem alloc_size(w:World)(o:Obj):(w.alloc o).heap.size=w.heap.size+1:=by simp
def unbV(W:Nat):Value:=.func (.func 179) #[] #[.pointer (some ⟨W+4,0,none⟩),.pointer (some ⟨W+3,0,none⟩),.pointer (some ⟨W,0,none⟩),.pointer (some ⟨W+1,0,none⟩)]
structure Unb(tb:Nat)(x:Ky)(old:Option Value)(W:Nat)(w:World):Prop where
 tab:w.heap[W]?=some (.cells #[.map (some tb)] tyTab (0,0))
 key:w.heap[W+1]?=some (.cells #[.int .i64 x.1,.string (bs x.2)] tyKey (0,0))
 bef:∃(p:Option Addr) (t:ByteArray) (a1:Option Addr) (n1 c1:Nat) (a2:Option Addr) (n2 c2:Nat) (i j:Int),w.heap[W+3]?=some (.cells #[.pointer p,.string t,.slice a1 n1 c1,.slice a2 n2 c2,.int .i64 i,.int .i64 j] tyMg (0,0))/\∀v,old=some v->v=.agg #[.pointer p,.string t,.slice a1 n1 c1,.slice a2 n2 c2,.int .i64 i,.int .i64 j]
 was:w.heap[W+4]?=some (.cells #[.bool old.isSome] 4 (0,0))
theorem Unb.kept{tb:Nat}{x:Ky}{old:Option Value}{W:Nat}{w w':World}(h:Unb tb x old W w)(hk:∀k,W<=k->k<W+5->w'.heap[k]?=w.heap[k]?):Unb tb x old W w':=by
 obtain⟨h1,h2,⟨p,t,a1,n1,c1,a2,n2,c2,i,j,h3,h3'⟩,h4⟩:=h
 exact⟨(hk _ (by omega) (by omega)).trans h1,(hk _ (by omega) (by omega)).trans h2,⟨p,t,a1,n1,c1,a2,n2,c2,i,j,(hk _ (by omega) (by omega)).trans h3,h3'⟩,(hk _ (by omega) (by omega)).trans h4⟩
section
variable {tb n:Nat}{f:Ky->Option Value}{w:World}{x:Ky}
theorem Bind_any(h:MapHas okK kyV w tb n f)(hx:okK x)(hs:∀v,f x=some v->Six v){m:Value}(hm:Six m) :
  Calls prog 134 #[.map (some tb),kyV x,m] w fun e w'=>e=.returned (unbV w.heap.size)/\(∃n',MapHas okK kyV w' tb n' (fun y=>if y=x then some m else f y))/\Unb tb x (f x) w.heap.size w'/\w'.heap.size=w.heap.size+5/\Kn (·=tb) w w':=by
 obtain⟨p0,s0,u1,v1,d1,u2,v2,d2,i0,j0,rfl⟩:=hm
 generalize hQ:(fun(e:Ending) (w':World)=>e=.returned (unbV w.heap.size)/\(∃n',MapHas okK kyV w' tb n' (fun y=>if y=x then some (.agg #[.pointer p0,.string s0,.slice u1 v1 d1,.slice u2 v2 d2,.int .i64 i0,.int .i64 j0])else f y))/\Unb tb x (f x) w.heap.size w'/\w'.heap.size=w.heap.size+5/\Kn (·=tb) w w')=Q
 unfold kyV
 obtain⟨g0,g1,a1,n1,c1,a2,n2,c2,g4,g5,hg⟩:Six ((f x).getD (.agg #[.pointer none,.string ⟨#[]⟩,.slice none 0 0,.slice none 0 0,.int .i64 0,.int .i64 0])):=by
  cases hf:f x with
  |none=>exact⟨_,_,_,_,_,_,_,_,_,_,rfl⟩
  |some v=>exact hs v hf
 have hl:∀w',MapHas okK kyV w' tb n f->(Instr.lookup tyTab (.map (some tb)) (.agg #[.int .i64 x.1,.string (bs x.2)]) true).run prog w'=.ok (.tuple #[.agg #[.pointer g0,.string g1,.slice a1 n1 c1,.slice a2 n2 c2,.int .i64 g4,.int .i64 g5],.bool (f x).isSome]) w':=fun w' h'=>by
  have:=look_tab h' hx true
  rw[if_pos rfl,hg]at this
  exact this
 have hl1:=hl _ (((h.alloc (.cells #[.map (some tb)] tyTab)).alloc (.cells #[.int .i64 x.1,.string (bs x.2)] tyKey)).alloc (.cells #[.pointer p0,.string s0,.slice u1 v1 d1,.slice u2 v2 d2,.int .i64 i0,.int .i64 j0] tyMg))
 have h5:=((((h.alloc (.cells #[.map (some tb)] tyTab)).alloc (.cells #[.int .i64 x.1,.string (bs x.2)] tyKey)).alloc (.cells #[.pointer p0,.string s0,.slice u1 v1 d1,.slice u2 v2 d2,.int .i64 i0,.int .i64 j0] tyMg)).alloc (.cells #[.pointer g0,.string g1,.slice a1 n1 c1,.slice a2 n2 c2,.int .i64 g4,.int .i64 g5] tyMg)).alloc (.cells #[.bool (f x).isSome] 4)
 obtain⟨w6,hup,hm6,ht6⟩:=h5.store ky_ops under_tab (v:=.agg #[.pointer p0,.string s0,.slice u1 v1 d1,.slice u2 v2 d2,.int .i64 i0,.int .i64 j0]) hx trivial (fun _ _=>trivial)
 unfold kyV at hup
 have hsz:=turned_size ht6
 have htl:=h.lt
 have hfin:(∃n',MapHas okK kyV w6 tb n' (fun y=>if y=x then some (.agg #[.pointer p0,.string s0,.slice u1 v1 d1,.slice u2 v2 d2,.int .i64 i0,.int .i64 j0])else f y))/\Unb tb x (f x) w.heap.size w6/\w6.heap.size=w.heap.size+5/\Kn (·=tb) w w6:=by
  refine⟨⟨_,hm6⟩,⟨?_,?_,⟨g0,g1,a1,n1,c1,a2,n2,c2,g4,g5,?_,?_⟩,?_⟩,?_,?_⟩
  ·rw[turned_ne ht6 (by omega)];simp only[alloc_heap,alloc_size];repeat (first|rw[if_neg (by omega)]|(rw[if_pos trivial];done)|rw[if_pos (by omega)])
  ·rw[turned_ne ht6 (by omega)];simp only[alloc_heap,alloc_size];repeat (first|rw[if_neg (by omega)]|(rw[if_pos trivial];done)|rw[if_pos (by omega)])
  ·rw[turned_ne ht6 (by omega)];simp only[alloc_heap,alloc_size];repeat (first|rw[if_neg (by omega)]|(rw[if_pos trivial];done)|rw[if_pos (by omega)])
  ·intro v hv;rw[hv]at hg;exact hg
  ·rw[turned_ne ht6 (by omega)];simp only[alloc_heap,alloc_size];repeat (first|rw[if_neg (by omega)]|(rw[if_pos trivial];done)|rw[if_pos (by omega)])
  ·rw[hsz];simp
  ·exact((((((Kn.refl _ w).alloc _).alloc _).alloc _).alloc _).alloc _).turned ht6 (inl rfl)
 have HF:=hide hfin
 clear h hs hg hl h5 hm6 ht6 hfin hsz htl
 have hq:Q (.returned (unbV w.heap.size)) w6:=by rw[<- hQ];exact⟨rfl,HF.out⟩
 have HQ:=hide hq
 clear HF hq hQ
 generalize (f x).isSome=sm at *
 generalize hsp:x.1=sp at *
 generalize hnm:bs x.2=nm at *
 clear hsp hnm
 go_enter func134,ntmps134
 go_wp2
 exact HQ.out
end
end
section
structure Pt where
 op:Nat
 n:Int
 nm:Nm
 ps:List Pt
structure Cd where
 op:Nat
 n:Int
 nm:Nm
 ps:List Cd
 pts:List Pt
structure RV where
 tag:Nat
 n:Int
 nm:Nm
 ps:List RV
 sc:Nat
 cd:List Cd
def RV.num(n:Int):RV:=⟨0,n,[],[],0,[]⟩
def RV.bool(b:Bool):RV:=⟨1,if b then 1 else 0,[],[],0,[]⟩
def RV.unit:RV:=⟨2,0,[],[],0,[]⟩
def RV.data(nm:Nm)(ps:List RV):RV:=⟨3,0,nm,ps,0,[]⟩
def RV.fn(c:Cd)(sc:Nat):RV:=⟨4,0,[],[],sc,[c]⟩
def RV.put:RV:=⟨5,0,[],[],0,[]⟩
def RV.get:RV:=⟨6,0,[],[],0,[]⟩
def RV.ref:RV:=⟨7,0,[],[],0,[]⟩
def RV.cell(n:Nat):RV:=⟨8,n,[],[],0,[]⟩
def RV.none:RV:=⟨9,0,[],[],0,[]⟩
def RV.bad:RV:=⟨10,0,[],[],0,[]⟩
def digitsVal(l:Nm):Int:=l.foldl (fun a c=>10*a+(c.toNat-48:Nat)) 0
def plainN2(k:Nat)(txt:Nm):Int:=if k=0 then digitsVal txt else if k=1 then(if txt=[116,114,117,101]then 1 else 0)else 0
def ptOf:Nat->Nd->Pt
 |0,_=>⟨4,0,[],[]⟩
 |n+1,.mk k txt ps=>⟨k,plainN2 k txt,txt,ps.map (ptOf n)⟩
def cdOf:Nat->List Nm->Nd->Cd
 |0,_,_=>⟨2,0,[],[],[]⟩
 |n+1,ρ,.mk k txt ps=>
  match k,ps with
  |3,_=>⟨3,((ρ.idxOf? txt).getD 0:Nat),txt,[],[]⟩
  |5,[a]=>⟨5,0,txt,[cdOf n (txt::ρ) a],[]⟩
  |6,[a,b]=>⟨6,0,txt,[cdOf n ρ a,cdOf n (txt::ρ) b],[]⟩
  |7,[a,b]=>⟨7,0,txt,[cdOf n (txt::ρ) a,cdOf n (txt::ρ) b],[]⟩
  |15,a::rows=>⟨15,0,[],cdOf n ρ a::(only 16 rows).map (fun r=>match r.ps with|[p,e]=>cdOf n ((varsOf p).foldl (fun ρ v=>v::ρ) ρ) e|_=>⟨2,0,[],[],[]⟩),(only 16 rows).map (fun r=>match r.ps with|p::_=>ptOf (p.ht+1) p|[]=>⟨4,0,[],[]⟩)⟩
  |k,ps=>⟨k,plainN2 k txt,txt,ps.map (cdOf n ρ),[]⟩
def cdProg(ρ:List Nm):List Nd->Cd
 |[]=>⟨2,0,[],[],[]⟩
 |.mk 17 _ (a::_)::r=>⟨9,0,[],[cdOf (a.ht+1) ρ a,cdProg ρ r],[]⟩
 |.mk 6 txt (a::_)::r=>⟨6,0,txt,[cdOf (a.ht+1) ρ a,cdProg (txt::ρ) r],[]⟩
 |.mk 7 txt (a::_)::r=>⟨7,0,txt,[cdOf (a.ht+1) (txt::ρ) a,cdProg (txt::ρ) r],[]⟩
 |_::r=>cdProg ρ r
structure Mach where
 input:Nm
 output:Nm
 most:Nat
 done:Nat
 scopes:List (RV×Nat)
 cells:List RV
def Mach.with(m:Mach)(v:RV)(sc:Nat):Nat×Mach:=(m.scopes.length+1,{ m with scopes:=m.scopes++[(v,sc)] })
def Mach.out(m:Mach):Nat->Nat->RV
 |0,sc=>if sc=0 then RV.bad else((m.scopes[sc-1]?).map Prod.fst).getD RV.bad
 |k+1,sc=>if sc=0 then RV.bad else Mach.out m k (((m.scopes[sc-1]?).map Prod.snd).getD 0)
structure Fr where
 op:Nat
 cds:List Cd
 pts:List Pt
 sc:Nat
 vs:List RV
 nm:Nm
structure St where
 cd:List Cd
 sc:Nat
 v:RV
 k:List Fr
def St.ev(c:Cd)(sc:Nat)(k:List Fr):St:=⟨[c],sc,RV.none,k⟩
def St.go(v:RV)(k:List Fr):St:=⟨[],0,v,k⟩
def wrap64(n:Int):Int:=(n+9223372036854775808) % 18446744073709551616-9223372036854775808
def calcR(s:Nm)(a b:Int):RV:=
 if s=[43]then RV.num (wrap64 (a+b))else if s=[45]then RV.num (wrap64 (a-b))else if s=[42]then RV.num (wrap64 (a*b))
 else if s=[47]then(if b=0 then RV.num 0 else RV.num (wrap64 (a.tdiv b)))
 else if s=[61]then RV.bool (decide (a=b))else RV.bool (decide (a<b))
def fitP:Nat->Pt->RV->Option (List RV)
 |0,_,_=>none
 |n+1,p,v=>
  if p.op=4 then some []
  else if p.op=3 then some [v]
  else if p.op=14 then(if v.nm=p.nm then fitL (fitP n) p.ps v.ps else none)
  else if p.op=2 then some []
  else if p.n=v.n then some []else none
 where
 fitL (g:Pt->RV->Option (List RV)):List Pt->List RV->Option (List RV)
  |p::ps,v::vs=>
   match g p v with
   |none=>none
   |some a=>
    match fitL g ps vs with
    |none=>none
    |some b=>some (a++b)
  |_,_=>some []
def pickRow(pts:List Pt)(cds:List Cd)(v:RV):Option (Cd×List RV):=
 match pts,cds with
 |p::ps,c::cs=>
  match fitP 4000 p v with
  |some vs=>some (c,vs)
  |none=>pickRow ps cs v
 |_,_=>none
def Mach.withs(m:Mach)(sc:Nat):List RV->Nat×Mach
 |[]=>(sc,m)
 |v::vs=>let x:=m.with v sc;Mach.withs x.2 x.1 vs
def call(m:Mach)(f a:RV)(k:List Fr):Nat ⊕ (Mach×St):=
 if f.tag=4 then
  match f.cd with
  |[c]=>let x:=m.with a f.sc;.inr (x.2,St.ev c x.1 (⟨13,[],[],0,[],[]⟩::k))
  |_=>.inl 3
 else if f.tag=5 then(if a.tag=0 then .inr ({ m with output:=m.output++[UInt8.ofNat (a.n % 256).toNat] },St.go RV.unit k)else .inl 3)
 else if f.tag=6 then
  match m.input with
  |[]=>.inr (m,St.go (RV.num (-1)) k)
  |c::r=>.inr ({ m with input:=r },St.go (RV.num c.toNat) k)
 else if f.tag=7 then .inr ({ m with cells:=m.cells++[a] },St.go (RV.cell m.cells.length) k)
 else .inl 3
def stepR(m:Mach)(s:St):Nat ⊕ (Mach×St):=
 match s.cd with
 |c::_=>
  match c.op,c.ps with
  |0,_=>.inr (m,St.go (RV.num c.n) s.k)
  |1,_=>.inr (m,St.go (RV.bool (decide (c.n=1))) s.k)
  |2,_=>.inr (m,St.go RV.unit s.k)
  |3,_=>if (m.out c.n.toNat s.sc).tag=10 then .inl 3 else .inr (m,St.go (m.out c.n.toNat s.sc) s.k)
  |5,[a]=>.inr (m,St.go (RV.fn a s.sc) s.k)
  |13,[a,b]=>.inr (m,St.ev a s.sc (⟨0,[b],[],s.sc,[],[]⟩::s.k))
  |6,[a,b]=>.inr (m,St.ev a s.sc (⟨2,[b],[],s.sc,[],[]⟩::s.k))
  |7,[a,b]=>let x:=m.with RV.none s.sc;.inr (x.2,St.ev a x.1 (⟨3,[b],[],x.1,[],[]⟩::s.k))
  |8,[a,b,d]=>.inr (m,St.ev a s.sc (⟨4,[b,d],[],s.sc,[],[]⟩::s.k))
  |9,[a,b]=>.inr (m,St.ev a s.sc (⟨5,[b],[],s.sc,[],[]⟩::s.k))
  |10,[a,b]=>.inr (m,St.ev a s.sc (⟨6,[b],[],s.sc,[],[]⟩::s.k))
  |12,[a]=>.inr (m,St.ev a s.sc (⟨8,[],[],s.sc,[],[]⟩::s.k))
  |11,[a,b]=>.inr (m,St.ev a s.sc (⟨9,[b],[],s.sc,[],c.nm⟩::s.k))
  |14,[]=>.inr (m,St.go (RV.data c.nm []) s.k)
  |14,a::r=>.inr (m,St.ev a s.sc (⟨11,r,[],s.sc,[],c.nm⟩::s.k))
  |15,a::r=>.inr (m,St.ev a s.sc (⟨12,r,c.pts,s.sc,[],[]⟩::s.k))
  |_,_=>.inl 3
 |[]=>
  match s.k with
  |[]=>.inl 0
  |f::k=>
   match f.op,f.cds with
   |0,[b]=>.inr (m,St.ev b f.sc (⟨1,[],[],0,[s.v],[]⟩::k))
   |1,_=>if m.done=m.most then .inl 2 else call { m with done:=m.done+1 } (f.vs.headD RV.none) s.v k
   |2,[b]=>let x:=m.with s.v f.sc;.inr (x.2,St.ev b x.1 k)
   |3,[b]=>.inr ({ m with scopes:=m.scopes.modify (f.sc-1) (fun x=>(s.v,x.2)) },St.ev b f.sc k)
   |4,[a,b]=>if s.v.tag=1 then .inr (m,St.ev (if s.v.n=1 then a else b) f.sc k)else .inl 3
   |5,[b]=>.inr (m,St.ev b f.sc k)
   |6,[b]=>.inr (m,St.ev b f.sc (⟨7,[],[],0,[s.v],[]⟩::k))
   |7,_=>if (f.vs.headD RV.none).tag=8 then .inr ({ m with cells:=m.cells.modify (f.vs.headD RV.none).n.toNat (fun _=>s.v) },St.go RV.unit k)else .inl 3
   |8,_=>if s.v.tag=8 then .inr (m,St.go ((m.cells[s.v.n.toNat]?).getD RV.none) k)else .inl 3
   |9,[b]=>.inr (m,St.ev b f.sc (⟨10,[],[],0,[s.v],f.nm⟩::k))
   |10,_=>if (f.vs.headD RV.none).tag=0 then(if s.v.tag=0 then .inr (m,St.go (calcR f.nm (f.vs.headD RV.none).n s.v.n) k)else .inl 3)else .inl 3
   |11,[]=>.inr (m,St.go (RV.data f.nm (f.vs++[s.v])) k)
   |11,a::r=>.inr (m,St.ev a f.sc (⟨11,r,[],f.sc,f.vs++[s.v],f.nm⟩::k))
   |12,_=>
    match pickRow f.pts f.cds s.v with
    |none=>.inl 1
    |some (c,vs)=>let x:=m.withs f.sc vs;.inr (x.2,St.ev c x.1 k)
   |13,_=>.inr (m,St.go s.v k)
   |_,_=>.inl 3
def runR:Nat->Mach->St->Option (Nat×Mach)
 |0,_,_=>none
 |n+1,m,s=>
  match stepR m s with
  |.inl e=>some (e,m)
  |.inr (m',s')=>runR n m' s'
def putN:Nm:=[112,117,116]
def getN:Nm:=[103,101,116]
def startM(input:Nm)(steps:Nat):Mach:=⟨input,[],steps,0,[(RV.put,0),(RV.get,1),(RV.ref,2)],[]⟩
def startS(l:List Nd):St:=St.ev (cdProg [refN,getN,putN] l) 3 []
end
end Go.Proofs.YtbkiipiocpnnnaaGreatDoor
