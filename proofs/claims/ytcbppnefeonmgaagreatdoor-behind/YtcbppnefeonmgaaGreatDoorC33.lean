import Derived.Test.YtcbppnefeonmgaaGreatDoorC30
import Derived.Recover
set_option linter.all false
set_option maxHeartbeats 40000000
set_option maxRecDepth 100000
open Go.Proofs.Tryz
open Or (inl inr)
open Option (bind_eq_some_iff)
open Nat (lt_succ_self)
open List (append_nil length_append mem_append mem_singleton)
namespace Go.Proofs.YtcbppnefeonmgaaGreatDoor
open Go.RowKit
section
variable {ar:Nm->Nat}{ad:List Nat}{Y:Nat->Prop}{rk:Nat->Nat}{σ:TS}{ρ:Env}{tb yb d:Nat}{gv:Value}{w w':World}{nb:Nat}{txt:Nm}
theorem do_chain{k g cap ba:Nat}{bl:List Nat}{oa:Option TS}(h0:ar unitN=0)(h:YM ar ad Y rk σ ρ tb yb d gv w)(hp:PtAt nb k txt g cap (ba::bl) w)
  (hA:∀u,Kn (Dm ad tb yb gv) w u->YM ar (ad++[w.heap.size]) Y rk (σ.named unitN []).2 ρ tb yb d gv u->Calls prog 116 #[ptrV yb,ptrV ba,adV (ad++[w.heap.size]) σ.nodes.length] u (AnEx ar (ad++[w.heap.size]) Y ρ tb yb d gv oa u)) :
  ∀u,Kn (fun _=>False) w u->u.heap.size=w.heap.size->First nb k txt g cap bl.length ba u/\Calls prog 41 #[] u fun e u1=>e=.returned (ptrV w.heap.size)/\First nb k txt g cap bl.length ba u1/\Calls prog 116 #[ptrV yb,ptrV ba,ptrV w.heap.size] u1 fun e u2=>
   (e=noTy/\AnTy ar ad Y ρ tb yb d gv (oa.map fun s=>s.named unitN []) w noTy u2)\/(e=.returned (.tuple #[])/\First nb k txt g cap bl.length ba u2/\Calls prog 41 #[] u2 fun e u3=>∃b,e=.returned (ptrV b)/\AnTy ar ad Y ρ tb yb d gv (oa.map fun s=>s.named unitN []) w (.returned (ptrV b)) u3):=by
 have hcl:∀u,Kn (Dm ad tb yb gv) w u->First nb k txt g cap bl.length ba u:=fun u hu=>(h.pt hu hp).first
 intro u hu hs
 refine⟨hcl _ (hu.wide fun _ _ h=>h.elim),(unitN_any u).mono ?_⟩
 rintro e u1⟨rfl,rfl⟩
 obtain⟨h1,hb1⟩:=h.plainAt h0 hu hs
 refine⟨by rw[hs],hcl _ hb1.kn,?_⟩
 have hc:=hA _ hb1.kn h1
 rw[h.new1]at hc
 refine hc.mono fun e u2 ha=>?_
 rcases AnEx.go hb1 ha (o:=oa.map fun s=>s.named unitN []) (fun e=>by rw[e];rfl)with⟨q1,q2⟩|⟨σ1,l1,rk1,gv1,q1,q2,q4,q5,q6,q7⟩
 ·exact inl ⟨q1,q2⟩
 ·refine inr ⟨q2,hcl _ q5.kn,(unitN_any u2).mono ?_⟩
  rintro e u3⟨rfl,rfl⟩
  obtain⟨h7,hb7⟩:=q4.plainAt h0 (Kn.refl _ u2) rfl
  refine⟨_,rfl,AnTy.behind q5 ?_⟩
  rw[q1]
  exact AnTy.newOne q4 h7 (by simp[TS.named,TS.new])
theorem declaration_do{g cap ba:Nat}{bl:List Nat}{oa:Option TS}(h0:ar unitN=0)(h:YM ar ad Y rk σ ρ tb yb d gv w)(hp:PtAt nb 17 txt g cap (ba::bl) w)
  (hA:∀u,Kn (Dm ad tb yb gv) w u->YM ar (ad++[w.heap.size]) Y rk (σ.named unitN []).2 ρ tb yb d gv u->Calls prog 116 #[ptrV yb,ptrV ba,adV (ad++[w.heap.size]) σ.nodes.length] u (AnEx ar (ad++[w.heap.size]) Y ρ tb yb d gv oa u)) :
  Calls prog 87 #[ptrV yb,ptrV nb] w (AnTy ar ad Y ρ tb yb d gv (oa.map fun s=>s.named unitN []) w):=by
 have hc0:=do_chain h0 h hp hA w.drew (Kn.drewF w) rfl
 obtain⟨ck,_,_,_⟩:=hp.cells
 have HCH:=hide hc0
 clear hc0 h0 h hp hA
 generalize AnTy ar ad Y ρ tb yb d gv (oa.map fun s=>s.named unitN []) w=Q at *
 generalize bl.length=pn at *
 generalize bs txt=tx at *
 unfold noTy noTypeV First ptrV at *
 go_enter func87,ntmps87
 go_wp2_with fail
 obtain⟨⟨_,_,c1a,c2a⟩,hu⟩:=HCH.out
 have HU:=hide hu
 clear hu HCH
 go_region_held2 (fun w'=>w'.cell? ⟨nb,2,none⟩=some (.slice (some ⟨g,0,none⟩) (pn+1) cap)/\w'.cell? ⟨g,0,none⟩=some (.pointer (some ⟨ba,0,none⟩))) (exact⟨c1a,c2a⟩) (first|(go_at_call 41;refine(HU.out).mono ?_;rintro e u1⟨rfl,⟨_,_,c1a,c2a⟩,hc⟩;have HC:=hide hc;clear hc)|(go_at_call 116;refine(HC.out).mono ?_;rintro e u2 (⟨rfl,hp⟩|⟨rfl,⟨_,_,c1a,c2a⟩,hc⟩);(focus (exact⟨rfl,hp⟩));have HE:=hide hc;clear hc))
 all_goals
  go_wp2_with fail
  refine(HE.out).mono ?_;rintro e u3⟨b,rfl,hq⟩
  have HG:=hide hq
  clear hq HE
  go_wp2
  exact HG.out
def valO(iv:Bool)(ob:Option (Nat×TS)):Option (Nat×TS):=ob.bind fun r=>if iv || !r.2.hasLetters r.1 then some r else none
theorem val_chain{k g cap ba n:Nat}{bl:List Nat}{a:Nd}{o:Option (Nat×TS)}(h:YM ar ad Y rk σ ρ tb yb d gv w)(hp:PtAt nb k txt g cap (ba::bl) w)(hn:a.ht<n)(hN:NMem w a ba)
  (hA:Calls prog 117 #[ptrV yb,ptrV nb] w (AnTy ar ad Y ρ tb yb d gv (boundO d o) w)) :
  Calls prog 117 #[ptrV yb,ptrV nb] w fun e u2=>(e=noTy/\AnTy ar ad Y ρ tb yb d gv (valO (isValue n a) (boundO d o)) w noTy u2)\/∃b,e=.returned (ptrV b)/\∀u,Kn (fun _=>False) u2 u->First nb k txt g cap bl.length ba u/\Calls prog 118 #[ptrV ba] u (fun e u'=>e=.returned (.bool (isValue n a))/\u'=u) /\
   Calls prog 119 #[ptrV b] u (fun e u3=>∃v,e=.returned (.bool v)/\First nb k txt g cap bl.length ba u3/\((isValue n a || !v)=false->AnTy ar ad Y ρ tb yb d gv (valO (isValue n a) (boundO d o)) w noTy u3)/\((isValue n a || !v)=true->AnTy ar ad Y ρ tb yb d gv (valO (isValue n a) (boundO d o)) w (.returned (ptrV b)) u3)) /\
   (isValue n a=true->AnTy ar ad Y ρ tb yb d gv (valO (isValue n a) (boundO d o)) w (.returned (ptrV b)) u):=by
 have hcl:∀u,Kn (Dm ad tb yb gv) w u->First nb k txt g cap bl.length ba u:=fun u hu=>(h.pt hu hp).first
 refine hA.mono fun e u2 ha=>?_
 rcases AnTy.go (Bt.refl ad tb yb gv w) (show AnTy ar (ad++[]) Y ρ tb yb d gv (boundO d o) w e u2 by rw[append_nil];exact ha) (o:=valO (isValue n a) (boundO d o)) (fun e=>by rw[e];rfl)with⟨q1,q2⟩|⟨t,σ1,l1,rk1,gv1,q1,q2,q3,q4,q5,_,_⟩
 ·exact inl ⟨q1,q2⟩
 have hfit:σ1.fits t=true:=by
  unfold boundO at q1
  obtain⟨r,hr,hq⟩:=bind_eq_some_iff.1 q1
  split at hq
  ·rename_i hf
   cases hq
   have:=(opened_alike (r.2.pre r.1) r.2 d).fits r.1
   exact this.trans hf
  ·cases hq
 refine inr ⟨_,q2,fun u hu=>?_⟩
 have q5u:Bt ad tb yb gv w l1 gv1 u:=⟨q5.kn.trans (hu.wide fun _ _ h=>h.elim),q5.new,q5.giv⟩
 have hyu:=q4.stays hu
 refine⟨hcl _ q5u.kn,isValue_any n a ba hn (h.tree q5u.kn hN),(HasLetters_any hyu.sto q3 hfit).mono ?_,fun hv=>?_⟩
 ·rintro e u3⟨rfl,r2,r3⟩
  have hb3:=q5u.store r3 (l2:=[]) (by simp)
  rw[append_nil]at hb3
  have hy3:=hyu.step (l:=[]) r3 (by rw[append_nil];exact r2) rfl
  rw[append_nil]at hy3
  refine⟨_,rfl,hcl _ hb3.kn,fun hv=>AnTy.panic (by unfold valO;rw[q1,Option.bind_some];simp only[hv];rfl) hb3.kn hy3.raw,fun hv=>AnTy.ok (by unfold valO;rw[q1,Option.bind_some];simp only[hv];rfl) q3 hy3 hb3⟩
 ·exact AnTy.ok (by unfold valO;rw[q1,Option.bind_some];simp only[hv,Bool.true_or];rfl) q3 hyu q5u
theorem declaration_val{k g cap ba n:Nat}{bl:List Nat}{a:Nd}{o:Option (Nat×TS)}(hk:k≠17)(hk2:k<100)(h:YM ar ad Y rk σ ρ tb yb d gv w)(hp:PtAt nb k txt g cap (ba::bl) w)(hn:a.ht<n)(hN:NMem w a ba)
  (hA:Calls prog 117 #[ptrV yb,ptrV nb] w (AnTy ar ad Y ρ tb yb d gv (boundO d o) w)) :
  Calls prog 87 #[ptrV yb,ptrV nb] w (AnTy ar ad Y ρ tb yb d gv (valO (isValue n a) (boundO d o)) w):=by
 have hc0:=val_chain h hp hn hN hA
 obtain⟨ck,_,_,_⟩:=hp.cells
 have hk3:¬(k:Int)=17:=by omega
 have HCH:=hide hc0
 have HN:=hide need_any
 have HDR:=hide (fun u:World=>Kn.refl (fun _=>False) u)
 clear hc0 h hp hA hN hn
 generalize AnTy ar ad Y ρ tb yb d gv (valO (isValue n a) (boundO d o)) w=Q at *
 generalize isValue n a=iv at *
 generalize bl.length=pn at *
 generalize bs txt=tx at *
 unfold noTy noTypeV First ptrV at *
 go_enter func87,ntmps87
 go_wp2_with fail
 refine(HCH.out).mono ?_;rintro e u2 (⟨rfl,hp⟩|⟨b,rfl,hu⟩)
 ·exact⟨rfl,hp⟩
 obtain⟨⟨_,_,c1a,c2a⟩,hv,hl,hy⟩:=hu u2 (HDR.out u2)
 have HV:=hide hv
 have HL:=hide hl
 have HY:=hide hy
 clear hu hv hl hy HCH
 go_wp2_with fail
 refine(HV.out).mono ?_;rintro e u3⟨rfl,rfl⟩
 clear HV
 cases iv with
 |true=>
  have HG:=hide (HY.out rfl)
  clear HL HY
  go_wp2_with fail
  refine(HN.out _ _).mono ?_;rintro e u6⟨rfl,⟨hv,rfl⟩|⟨hv,rfl⟩⟩
  ·cases hv
  ·go_wp2
   exact HG.out
 |false=>
  go_wp2_with fail
  refine(HL.out).mono ?_;rintro e u4⟨v,rfl,_,hno,hyes⟩
  have HNO:=hide hno
  have HYES:=hide hyes
  clear hno hyes HL HY
  go_wp2_with fail
  refine(HN.out _ _).mono ?_;rintro e u6⟨rfl,⟨hv,rfl⟩|⟨hv,rfl⟩⟩
  ·exact⟨rfl,HNO.out (by simpa using hv)⟩
  ·have HG:=hide (HYES.out (by simpa using hv))
   go_wp2
   exact HG.out
end
theorem catch_type(w:World):CallsD prog 86 #[] (.panicking [{ v:=noTypeV,recovered:=false }]) w fun e u' w'=>
   e=.returned (.tuple #[])/\u'=.panicking [{ v:=noTypeV,recovered:=true }]/\w'=w:=by
 unfold noTypeV
 refine callsD_of_wpS func86 rfl fun c₀ cs hu=>?_
 apply wpS_seq
 apply wpS_region
 simp[wpOpsS,go_sem,recoverD,hu,ntmps86,Exit.thenS]
 have hne1:∀w:World,(binOp BinOp.neq 20 (.iface 139 (.agg #[])) .nilIface).run prog w=.ok (.bool true) w:=fun _=>by kernel_rfl
 have hne2:∀w:World,(binOp BinOp.neq 20 (.iface 139 (.agg #[])) (.iface 139 (.agg #[]))).run prog w=.ok (.bool false) w:=fun _=>by kernel_rfl
 refine wpS_of_wp ?_
 go_wp2
 cases c₀
 simp_all [bodyPostS,results,results86]
theorem catch_none(w:World):CallsD prog 86 #[] .returning w fun e u' w'=>e=.returned (.tuple #[])/\u'=.returning/\w'=w:=by
 refine callsD_of_wpS func86 rfl fun c₀ cs hu=>?_
 apply wpS_seq
 apply wpS_region
 simp[wpOpsS,go_sem,recoverD,hu,ntmps86,Exit.thenS]
 have hne1:∀w:World,(binOp BinOp.neq 20 .nilIface .nilIface).run prog w=.ok (.bool false) w:=fun _=>by kernel_rfl
 refine wpS_of_wp ?_
 go_wp2
 cases c₀
 simp_all [bodyPostS,results,results86]
section
variable {ar:Nm->Nat}{ad:List Nat}{X:Nat->Prop}{rk:Nat->Nat}{σ:TS}{ρ:Env}{tb:Nat}{w w':World}{nb:Nat}
def TdA(ar:Nm->Nat)(ad:List Nat)(X:Nat->Prop)(ρ:Env)(tb:Nat)(o:Option (Nat×TS))(w:World)(e:Ending)(w':World):Prop:=
 Kn (fun k=>k∈ad\/k=tb) w w'/\((o=none/\∃p,e=.returned (.tuple #[.pointer p,.bool false])) \/
  ∃t σ' l rk',o=some (t,σ')/\e=.returned (.tuple #[adV (ad++l) t,.bool true])/\t<σ'.nodes.length/\StoM ar (ad++l) X rk' σ' w'/\Tab (ad++l) tb ρ w'/\∀b∈l,w.heap.size<=b)
def fitO(o:Option (Nat×TS)):Option (Nat×TS):=o.bind fun r=>if r.2.given.all r.2.fits then some (r.1,{ r.2 with given:=[] })else none
theorem fndOk_given{σ:TS}{g:List Nat}:∀{l:List (Nat×Nat)},FndOk σ l->FndOk { σ with given:=g } l:=by
 intro l
 induction l with
 |nil=>intro _;trivial
 |cons x r ih=>intro h;exact⟨h.1,h.2.1,h.2.2.1,h.2.2.2.1,h.2.2.2.2.1,h.2.2.2.2.2.1,ih h.2.2.2.2.2.2⟩
theorem StoM.noGiven(h:StoM ar ad X rk σ w):StoM ar ad X rk { σ with given:=[] } w:=by
 refine⟨⟨fndOk_given h.ok.fnd,h.ok.parts,by simp⟩,h.len,h.lt,fun i hi=>?_⟩
 exact h.node i hi
theorem td_facts{oD:Option (Nat×TS)}(h:StoM ar ad X rk σ w)(ht:Tab ad tb ρ w)(hX:∀b,X b->b<w.heap.size)(hg:σ.given=[])
  (hD:YM ar ad X rk σ ρ tb w.heap.size 0 (.slice none 0 0) (w.alloc (.cells #[.map (some tb),.int .i64 (0:Nat),.slice none 0 0] tyTyping))->Calls prog 87 #[ptrV w.heap.size,ptrV nb] (w.alloc (.cells #[.map (some tb),.int .i64 (0:Nat),.slice none 0 0] tyTyping)) (AnTy ar ad X ρ tb w.heap.size 0 (.slice none 0 0) oD (w.alloc (.cells #[.map (some tb),.int .i64 (0:Nat),.slice none 0 0] tyTyping)))) :
  Calls prog 87 #[ptrV w.heap.size,ptrV nb] (w.alloc (.cells #[.map (some tb),.int .i64 (0:Nat),.slice none 0 0] tyTyping)) fun e u2=>(e=noTy/\TdA ar ad X ρ tb (fitO oD) w (.returned (.tuple #[.pointer none,.bool false])) u2)\/∃b,e=.returned (ptrV b)/\∃(a:Option Addr) (n c:Nat) (GV:Nat->World->Prop),u2.cell? ⟨w.heap.size,2,none⟩=some (.slice a n c)/\n<=9223372036854775807/\GV 0 u2 /\
   (∀i wr,GV i wr->i<n->∃g bt,a=some ⟨g,0,none⟩/\wr.cell? ⟨g,i,none⟩=some (ptrV bt)/\g<wr.heap.size/\Calls prog 89 #[ptrV bt] wr fun e wr2=>∃v,e=.returned (.bool v)/\(v=false->TdA ar ad X ρ tb (fitO oD) w (.returned (.tuple #[ptrV b,.bool false])) wr2)/\(v=true->Hid (GV (i+1) wr2))) /\
   ∀wr,GV n wr->TdA ar ad X ρ tb (fitO oD) w (.returned (.tuple #[ptrV b,.bool true])) wr:=by
 have hns:∀b,XG X (.slice none 0 0) b->X b:=fun b hb=>by
  rcases hb with hb|hb
  ·exact hb
  ·simp[Value.ownBlock]at hb
 have htb:=ht.raw.choose_spec.choose_spec.lt
 have hy:YM ar ad X rk σ ρ tb w.heap.size 0 (.slice none 0 0) (w.alloc (.cells #[.map (some tb),.int .i64 (0:Nat),.slice none 0 0] tyTyping)):=by
  refine⟨(h.alloc _).narrow hns,?_,(MapKept.heap_alloc w _).1,?_,fun b hb=>by rw[alloc_size];have:=hX b hb;omega⟩
  ·have:=ht.kept (l:=[]) (w':=w.alloc (.cells #[.map (some tb),.int .i64 (0:Nat),.slice none 0 0] tyTyping)) (Below.heap_alloc _ _ _ htb) (fun k c f hc=>Below.heap_alloc _ _ _ (lt_of_heap hc)) (fun k c f hc=>Below.heap_alloc _ _ _ (lt_of_heap hc)) (fun k c f hc=>Below.heap_alloc _ _ _ (lt_of_heap hc))
   rw[append_nil]at this;exact this
  ·rw[hg];exact⟨rfl,inl ⟨rfl,rfl⟩⟩
 have hkD:∀{u:World},Kn (Dm ad tb w.heap.size (.slice none 0 0)) (w.alloc (.cells #[.map (some tb),.int .i64 (0:Nat),.slice none 0 0] tyTyping)) u->Kn (fun k=>k∈ad\/k=tb) w u:=fun hk=>((Kn.refl _ w).alloc _).trans' hk fun k hkl hd=>by
  rcases hd with hd|hd|hd|hd
  ·exact inl hd
  ·exact inr hd
  ·omega
  ·simp[Value.ownBlock]at hd
 refine(hD hy).mono fun e u2 ha=>?_
 rcases ha.cases with⟨q1,q2,q3,_⟩|⟨t,σ',l,rk',gv',q1,q2,q3,q4,q5⟩
 ·exact inl ⟨q2,hkD q3,inl ⟨by rw[q1];rfl,_,rfl⟩⟩
 have hforms:∃a c,gv'=.slice a σ'.given.length c:=by
  rcases ownsRow_forms q4.giv with⟨h,h0⟩|⟨g,cap,h⟩
  ·exact⟨none,0,by rw[h,h0]⟩
  ·exact⟨_,cap,h⟩
 obtain⟨a,c,rfl⟩:=hforms
 have hnew:∀b∈l,w.heap.size<=b:=fun b hb=>by have:=q5.new b hb;rw[alloc_size]at this;omega
 refine inr ⟨adA (ad++l) t,q2,a,σ'.given.length,c,fun i wr=>YM ar (ad++l) X rk' σ' ρ tb w.heap.size 0 (.slice a σ'.given.length c) wr/\Bt ad tb w.heap.size (.slice none 0 0) (w.alloc (.cells #[.map (some tb),.int .i64 (0:Nat),.slice none 0 0] tyTyping)) l (.slice a σ'.given.length c) wr/\(σ'.given.take i).all σ'.fits=true,by simp[World.cell?,q4.typ],ownsRow_max q4.giv,⟨q4,q5,by simp⟩,?_,?_⟩
 ·rintro i wr⟨y1,y2,y3⟩ hi
  have hgi:σ'.given[i]?=some σ'.given[i]:=List.getElem?_eq_getElem hi
  have hmem:=List.mem_of_getElem? hgi
  have htk:(σ'.given.take (i+1)).all σ'.fits=σ'.fits σ'.given[i]:=by
   rw[List.take_succ_eq_append_getElem hi,List.all_append,y3];simp
  generalize σ'.given[i]=x at hgi hmem htk
  have hxl:x<σ'.nodes.length:=y1.sto.ok.given x hmem
  obtain⟨g,rfl⟩:∃g,a=some ⟨g,0,none⟩:=by
   rcases ownsRow_forms y1.giv with⟨h,h0⟩|⟨g,cap,h⟩
   ·omega
   ·cases h;exact⟨g,rfl⟩
  refine⟨g,adA (ad++l) x,rfl,?_,(y1.giv.lt g rfl).2,(Fits_any y1.sto hxl).mono ?_⟩
  ·rw[y1.giv.cellAt i (by omega),List.getElem?_map,hgi];rfl
  ·rintro e wr2⟨rfl,r2,r3⟩
   have hb3:=y2.store r3 (l2:=[]) (by simp)
   rw[append_nil]at hb3
   have hy3:=y1.step (l:=[]) r3 (by rw[append_nil];exact r2) rfl
   rw[append_nil]at hy3
   refine⟨_,rfl,fun hv=>⟨hkD hb3.kn,inl ⟨?_,_,rfl⟩⟩,fun hv=>hide ⟨hy3,hb3,by rw[htk];exact hv⟩⟩
   unfold fitO
   rw[q1,Option.bind_some]
   have:σ'.given.all σ'.fits=false:=List.all_eq_false.2 ⟨x,hmem,by simp[hv]⟩
   simp only[this]
   rfl
 ·rintro wr⟨y1,y2,y3⟩
  rw[List.take_length]at y3
  refine⟨hkD y2.kn,inr ⟨t,{ σ' with given:=[] },l,rk',?_,rfl,q3,(y1.sto.narrow fun b hb=>inl hb).noGiven,y1.tab,hnew⟩⟩
  unfold fitO
  rw[q1,Option.bind_some]
  simp only[y3]
  rfl
theorem typeDeclaration_of{oD:Option (Nat×TS)}(h:StoM ar ad X rk σ w)(ht:Tab ad tb ρ w)(hX:∀b,X b->b<w.heap.size)(hg:σ.given=[])
  (hD:YM ar ad X rk σ ρ tb w.heap.size 0 (.slice none 0 0) (w.alloc (.cells #[.map (some tb),.int .i64 (0:Nat),.slice none 0 0] tyTyping))->Calls prog 87 #[ptrV w.heap.size,ptrV nb] (w.alloc (.cells #[.map (some tb),.int .i64 (0:Nat),.slice none 0 0] tyTyping)) (AnTy ar ad X ρ tb w.heap.size 0 (.slice none 0 0) oD (w.alloc (.cells #[.map (some tb),.int .i64 (0:Nat),.slice none 0 0] tyTyping)))) :
  Calls prog 45 #[.map (some tb),ptrV nb] w (TdA ar ad X ρ tb (fitO oD) w):=by
 have hf:=td_facts h ht hX hg hD
 have HF:=hide hf
 have HN:=hide need_any
 clear hf h ht hX hg hD
 generalize TdA ar ad X ρ tb (fitO oD) w=Q at *
 unfold noTy ptrV at *
 go_enter_defers func45,ntmps45
 go_wp2_with fail
 refine(HF.out).mono ?_;rintro e u2 (⟨rfl,hq⟩|⟨b,rfl,a,n,c,GV,hc,hn,h0,hs,he⟩)
 ·have HG:=hide hq
  clear hq HF
  go_wp2
  refine leaves_cons (f:=86) (args:=#[]) (by simp) (by simp[go_sem]) ?_
  refine(catch_type _).mono ?_
  rintro e u' w''⟨rfl,rfl,rfl⟩
  simp[Leaves,settle,results,results45,go_sem]
  exact HG.out
 ·have H0:=hide h0
  have HS:=hide hs
  have HE:=hide he
  clear h0 hs he HF
  generalize w.heap.size=yb at *
  go_wp2_with fail
  go_loopg [16] n (fun gk v16 wr=>∃i,v16=.int .i64 (i:Nat)/\i+gk=n/\Hid (GV i wr))
  case atStart=>exact⟨0,rfl,by omega,H0⟩
  case round=>
   clear H0
   obtain⟨i,rfl,hi,HGV⟩:=hrel
   by_cases hlt:i<n
   ·obtain⟨g,bt,rfl,e1,e2,hcc⟩:=HS.out _ _ HGV.out hlt
    have HC:=hide hcc
    have hlt3:(i:Int)<(n:Int):=by omega
    clear hcc HS HE HGV
    go_wp2_with fail
    refine(HC.out).mono ?_;rintro e wr2⟨v,rfl,hno,hyes⟩
    have HNO:=hide hno
    have HYES:=hide hyes
    clear hno hyes HC
    go_wp2_with fail
    refine(HN.out _ _).mono ?_;rintro e u6⟨rfl,⟨hv,rfl⟩|⟨hv,rfl⟩⟩
    ·have HG:=hide (HNO.out hv)
     clear HNO HYES hv
     go_wp2
     refine leaves_cons (f:=86) (args:=#[]) (by simp) (by simp[go_sem]) ?_
     refine(catch_type _).mono ?_
     rintro e u' w''⟨rfl,rfl,rfl⟩
     simp[Leaves,settle,results,results45,go_sem]
     exact HG.out
    ·have HGV:=HYES.out hv
     clear HNO HYES
     go_wp2_with fail
     go_roundg (n-(i+1))
     case rel=>exact⟨i+1,by simp,by omega,HGV⟩
     case measure=>omega
   ·have hin:i=n:=by omega
    subst hin
    have hlt3:¬(i:Int)<(i:Int):=by omega
    have HG:=hide (HE.out _ HGV.out)
    clear HS HE HGV
    go_wp2
    refine leaves_cons (f:=86) (args:=#[]) (by simp) (by simp[go_sem]) ?_
    refine(catch_none _).mono ?_
    rintro e u' w''⟨rfl,rfl,rfl⟩
    simp[Leaves,settle,results,results45,go_sem]
    exact HG.out
end
section
variable {ar:Nm->Nat}{ad:List Nat}{X:Nat->Prop}{rk:Nat->Nat}{σ:TS}{ρ:Env}{tb:Nat}{w w':World}{nb:Nat}{txt:Nm}
theorem declT_do{a:Nd}{r:List Nd}:declT ρ (.mk 17 txt (a::r)) σ=fitO ((exX (exT (a.ht+1)) ρ 0 a σ.nodes.length (σ.named unitN []).2).map fun s=>s.named unitN []):=by
 rw[show declT ρ (.mk 17 txt (a::r)) σ=(match (exX (exT (a.ht+1)) ρ 0 a σ.nodes.length (σ.named unitN []).2).map fun s=>(s.nodes.length,(s.named unitN []).2)with|some (t,s)=>if s.given.all s.fits then some (t,{ s with given:=[] })else none|none=>none)from rfl]
 unfold fitO
 cases exX (exT (a.ht+1)) ρ 0 a σ.nodes.length (σ.named unitN []).2 with
 |none=>rfl
 |some s=>rfl
theorem declT_val{k:Nat}{a:Nd}{r:List Nd}(hk:k≠17):declT ρ (.mk k txt (a::r)) σ=fitO (valO (isValue (a.ht+1) a) (boundT (exT (a.ht+1)) ρ 0 (k==7) txt a σ)):=by
 unfold declT
 dsimp only
 rw[if_neg hk]
 unfold fitO valO
 cases boundT (exT (a.ht+1)) ρ 0 (k==7) txt a σ with
 |none=>rfl
 |some r=>
  rw[Option.bind_some]
  dsimp only
  cases (isValue (a.ht+1) a || !r.2.hasLetters r.1)with
  |false=>rfl
  |true=>rfl
theorem typeDecl_any(ha:ArOk ar){k m m2:Nat}{a:Nd}{r:List Nd}(hk:k=17\/k=6\/k=7)(h1:NmOk m (if k=7 then(((0,txt),Mg.zero)::ρ)else ρ) a)(q1:a.ht<m)(q2:a.ht<m2)(h2:XSh m2 a)(h3:EnvB ar ρ)(hd:a.ht<=900000)(hsz:a.sz<=100000000)(hx:okK (0,txt))
  (hm:NMem w (.mk k txt (a::r)) nb) (h:StoM ar ad X rk σ w) (ht:Tab ad tb ρ w) (hX:∀b,X b->b<w.heap.size) (hg:σ.given=[]) :
  Calls prog 45 #[.map (some tb),ptrV nb] w (TdA ar ad X ρ tb (declT ρ (.mk k txt (a::r)) σ) w):=by
 have hI:∀yb,ExIH ar tb yb (a.ht+1) a:=fun yb=>expression_any ha (a.ht+1) a (lt_succ_self _)
 have hm1:NMem (w.alloc (.cells #[.map (some tb),.int .i64 (0:Nat),.slice none 0 0] tyTyping)) (.mk k txt (a::r)) nb:=NMem.kept (fun k c f hc=>Below.heap_alloc _ _ _ (lt_of_heap hc)) (fun k c f hc=>Below.heap_alloc _ _ _ (lt_of_heap hc)) _ nb hm
 obtain⟨g,cap,bl,hp,hms,_⟩:=hm1.pt (by simp)
 obtain⟨ba,bl',rfl,ma,_⟩:=NMems.cons_inv hms
 have hg0:σ.given.length+a.sz<=100000000:=by rw[hg];simpa using hsz
 rcases hk with rfl|rfl|rfl
 ·rw[declT_do]
  refine typeDeclaration_of h ht hX hg fun hy=>?_
  refine declaration_do ha.unit hy hp fun u hk hyu=>?_
  exact(hI _).want ha q1 q2 h1 h2 h3 (by omega) (hy.tree hk ma) hyu hg0 (new_lt _ _)
 ·rw[declT_val (by decide),show ((6:Nat)==7)=false from rfl,boundT_let]
  refine typeDeclaration_of h ht hX hg fun hy=>?_
  exact declaration_val (by decide) (by decide) hy hp (lt_succ_self a.ht) ma (bound_let (hI _) q1 q2 h1 h2 h3 (by omega) hp ma hy hg0)
 ·rw[declT_val (by decide),show ((7:Nat)==7)=true from rfl,boundT_rec]
  refine typeDeclaration_of h ht hX hg fun hy=>?_
  exact declaration_val (by decide) (by decide) hy hp (lt_succ_self a.ht) ma (bound_rec ha (hI _) q1 q2 h1 h2 h3 (by omega) hx hp ma hy hg0)
end
abbrev tyProg:TypeId:=46
structure PsM(ar:Nm->Nat)(ad:List Nat)(rk:Nat->Nat)(p:PS)(tb pb:Nat)(dv bv:Value)(w:World):Prop where
 sto:StoM ar ad (fun _=>False) rk p.sto w
 giv:p.sto.given=[]
 tab:Tab ad tb p.env w
 prog:w.heap[pb]?=some (.cells #[dv,bv,.map (some tb)] tyProg (0,0))
 row:w.ownsRow 0 tyBg 2 bv p.binds.length (bgCells ad p.binds)
 lt:∀x∈p.binds,x.2<ad.length
def DmP(ad:List Nat)(tb pb:Nat)(bv:Value)(k:Nat):Prop:=k∈ad\/k=tb\/k=pb\/bv.ownBlock=some k
def DcA(ar:Nm->Nat)(ad:List Nat)(tb pb:Nat)(dv bv:Value)(o:Nat×PS)(w:World)(e:Ending)(w':World):Prop:=
 Kn (DmP ad tb pb bv) w w'/\e=.returned (.int .i64 o.1)/\(o.1=0->∃l rk' bv',PsM ar (ad++l) rk' o.2 tb pb dv bv' w'/\(∀b∈l,w.heap.size<=b)/\∀b,bv'.ownBlock=some b->bv.ownBlock=some b\/w.heap.size<=b)
section
variable {ar:Nm->Nat}{ad:List Nat}{rk:Nat->Nat}{p:PS}{tb pb:Nat}{dv bv:Value}{w w':World}{nb:Nat}{txt:Nm}
theorem PsM.not_tb(h:PsM ar ad rk p tb pb dv bv w){k:Nat}{c:Array Value}{t:TypeId}{f:Nat×Nat}(hc:w.heap[k]?=some (.cells c t f)):k≠tb:=fun e=>by
 obtain⟨n,f,⟨es,cl,hb,_⟩,_⟩:=h.tab
 subst e;rw[hc]at hb;cases hb
theorem PsM.not_ad(h:PsM ar ad rk p tb pb dv bv w){k:Nat}{c:Array Value}{t:TypeId}{f:Nat×Nat}(hc:w.heap[k]?=some (.cells c t f))(ht:t≠tyType):k∉ad:=h.sto.ty_not hc ht
theorem PsM.turn(h:PsM ar ad rk p tb pb dv bv w){l:List Nat}{rk':Nat->Nat}{s:TS}{ρ:Env}(hk:Kn (fun k=>k∈ad\/k=tb) w w')(hs:StoM ar (ad++l) (fun _=>False) rk' s w')(hg:s.given=[])(ht:Tab (ad++l) tb ρ w'):PsM ar (ad++l) rk' ⟨ρ,s,p.binds⟩ tb pb dv bv w':=by
 have hb:∀(k:Nat)(c:Array Value)(t:TypeId)(f:Nat×Nat),t≠tyType->w.heap[k]?=some (.cells c t f)->w'.heap[k]?=w.heap[k]?:=fun k c t f htt hc=>hk.block k (lt_of_heap hc) fun hd=>by
  rcases hd with hd|hd
  ·exact h.not_ad hc htt hd
  ·exact h.not_tb hc hd
 refine⟨hs,hg,ht,(hb _ _ _ _ (by decide) h.prog).trans h.prog,?_,fun x hx=>by rw[length_append];have:=h.lt x hx;omega⟩
 rw[bgCells_app l h.lt]
 exact ownsRow_kept h.row fun k c f _ hc=>hb k c _ f (by decide) hc
theorem Kn.dmp(hk:Kn (fun k=>k∈ad\/k=tb) w w'):Kn (DmP ad tb pb bv) w w':=hk.wide fun k _ hd=>by
 rcases hd with hd|hd
 ·exact inl hd
 ·exact inr (inl hd)
theorem StoM.turned{X:Nat->Prop}{σ:TS}(h:StoM ar ad X rk σ w)(ht:w.mapTurned w' tb):StoM ar ad X rk σ w':=
 h.kept (fun k hk=>by
  obtain⟨c,f,hc⟩:=h.isT hk
  exact turned_other ht hc) (fun k c f _ hc=>turned_other ht hc)
theorem StoM.stays{X:Nat->Prop}{σ:TS}(h:StoM ar ad X rk σ w)(hk:Kn (fun _=>False) w w'):StoM ar ad X rk σ w':=
 h.kept (fun k hk2=>hk.block k (h.ad_lt hk2) id) (fun k c f _ hc=>hk.block k (lt_of_heap hc) id)
theorem PsM.stays(h:PsM ar ad rk p tb pb dv bv w)(hk:Kn (fun _=>False) w w'):PsM ar ad rk p tb pb dv bv w':=
 ⟨h.sto.stays hk,h.giv,h.tab.stays hk,(hk.block pb (lt_of_heap h.prog) id).trans h.prog,ownsRow_kept h.row fun k c f _ hc=>hk.block k (lt_of_heap hc) id,h.lt⟩
theorem bind_facts{t:Nat}{u2:World}(h:PsM ar ad rk p tb pb dv bv u2)(ht:t<p.sto.nodes.length)(hx:okK (0,txt))(hn:p.binds.length<=1000000)(hnt:∃c t f,u2.heap[nb]?=some (.cells c t f)/\c[1]?=some (.string (bs txt))/\t≠tyBg/\t≠tyProg) :
  ∀u,Kn (fun _=>False) u2 u->(u.cell? ⟨pb,2,none⟩=some (.map (some tb))/\u.cell? ⟨nb,1,none⟩=some (.string (bs txt)))/\∃u3,(Instr.mapUpdate tyTab (.map (some tb)) (.agg #[.int .i64 0,.string (bs txt)]) (.agg #[adV ad t,.string ⟨#[]⟩,.slice none 0 0,.slice none 0 0,.int .i64 0,.int .i64 0])).run prog u=.ok () u3/\(u3.cell? ⟨pb,2,none⟩=some (.map (some tb))/\u3.cell? ⟨nb,1,none⟩=some (.string (bs txt)))/\u3.cell? ⟨pb,1,none⟩=some bv /\
   ∃xs:List Value,u3.drew.ownsRow 0 tyBg 2 bv p.binds.length xs/\p.binds.length<=100000000/\∀v' w2,w2.ownsRow 0 tyBg 2 v' (p.binds.length+1) (xs++[.string (bs txt),adV ad t])->(u3.drew.alloc (.cells #[.string (bs txt),adV ad t] tyBg)).grownBy w2 bv.ownBlock->(∀g,v'.ownBlock=some g->bv.ownBlock=some g\/u3.heap.size<g) ->
    w2.frozen? ⟨pb,1,none⟩=false/\w2.cell? ⟨pb,1,none⟩=some bv/\PsM ar ad rk ⟨((0,txt),Mg.var t)::p.env,p.sto,p.binds++[(txt,t)]⟩ tb pb dv v' (w2.setCell ⟨pb,1,none⟩ v')/\Kn (DmP ad tb pb bv) u2 (w2.setCell ⟨pb,1,none⟩ v')/\∀b,v'.ownBlock=some b->bv.ownBlock=some b\/u2.heap.size<=b:=by
 intro u hu
 have hp:=h.stays hu
 obtain⟨cc,tt,ff,hnb,hnc,hn1,hn2⟩:=hnt
 have hnu:u.heap[nb]?=some (.cells cc tt ff):=(hu.block nb (lt_of_heap hnb) id).trans hnb
 have htl:t<ad.length:=by rw[h.sto.len];exact ht
 refine⟨⟨by simp[World.cell?,hp.prog],by simp[World.cell?,hnu,hnc]⟩,?_⟩
 obtain⟨u3,r1,r2,r3⟩:=hp.tab.put (x:=(0,txt)) hx (mgVar_at htl u)
 have hpr3:u3.heap[pb]?=some (.cells #[dv,bv,.map (some tb)] tyProg (0,0)):=(turned_other r3 hp.prog).trans hp.prog
 have hnb3:u3.heap[nb]?=some (.cells cc tt ff):=(turned_other r3 hnu).trans hnu
 have hrow3:u3.ownsRow 0 tyBg 2 bv p.binds.length (bgCells ad p.binds):=ownsRow_kept hp.row fun k c f _ hc=>turned_other r3 hc
 have hsto3:=hp.sto.turned r3
 have hk3:Kn (fun k=>k∈ad\/k=tb) u2 u3:=(hu.wide fun _ _ h=>h.elim).turned r3 (inl (inr rfl))
 refine⟨u3,r1,⟨by simp[World.cell?,hpr3],by simp[World.cell?,hnb3,hnc]⟩,by simp[World.cell?,hpr3],bgCells ad p.binds,hrow3,by omega,?_⟩
 intro v' w2 ho hg hl
 have hne:∀k,k<u3.heap.size->bv.ownBlock≠some k->w2.heap[k]?=u3.heap[k]?:=fun k hk hn=>by
  have hk':k<u3.drew.heap.size:=hk
  rw[hg.block k (by rw[alloc_size];omega) (fun e=>hn e.symm),Below.heap_alloc _ _ _ hk'];rfl
 have hty:∀(k:Nat)(c:Array Value)(t:TypeId)(f:Nat×Nat),u3.heap[k]?=some (.cells c t f)->t≠tyBg->w2.heap[k]?=u3.heap[k]?:=fun k c t f hc ht=>hne k (lt_of_heap hc) fun e=>by
  obtain⟨c2,h2⟩:=own_cells hrow3 e
  rw[hc]at h2;exact ht (cells_ty h2)
 have hr2:w2.heap[pb]?=some (.cells #[dv,bv,.map (some tb)] tyProg (0,0)):=(hty pb _ _ _ hpr3 (by decide)).trans hpr3
 have hset:∀k,k≠pb->(w2.setCell ⟨pb,1,none⟩ v').heap[k]?=w2.heap[k]?:=fun k hk=>Below.heap_setCell _ _ _ _ hk
 have hcel:∀(k:Nat)(c:Array Value)(t:TypeId)(f:Nat×Nat),t≠tyBg->t≠tyProg->u3.heap[k]?=some (.cells c t f)->(w2.setCell ⟨pb,1,none⟩ v').heap[k]?=u3.heap[k]?:=fun k c t f h1 h2 hc=>by
  rw[hset k (fun e=>by subst e;rw[hpr3]at hc;exact h2 (cells_ty hc).symm)];exact hty k c t f hc h1
 have htb:(w2.setCell ⟨pb,1,none⟩ v').heap[tb]?=u3.heap[tb]?:=by
  obtain⟨n,f,⟨es,cl,hm,_⟩,_⟩:=r2
  rw[hset tb (fun e=>by subst e;rw[hpr3]at hm;cases hm),hne tb (by cases hh:u3.heap[tb]? with|none=>rw[hh]at hm;cases hm|some o=>exact lt_of_heap hh) (fun e=>by
   obtain⟨c2,h2⟩:=own_cells hrow3 e
   rw[hm]at h2;cases h2)]
 refine⟨frozen_of_row _ _ _ _ _ hr2,by simp[World.cell?,hr2],⟨?_,h.giv,?_,?_,?_,?_⟩,?_,fun b hb=>?_⟩
 ·refine hsto3.kept (fun k hk=>?_) (fun k c f _ hc=>hcel k c _ f (by decide) (by decide) hc)
  obtain⟨c,f,hc⟩:=hsto3.isT hk
  exact hcel k c _ f (by decide) (by decide) hc
 ·have:=r2.kept (l:=[]) htb (fun k c f hc=>hcel k c _ f (by decide) (by decide) hc) (fun k c f hc=>hcel k c _ f (by decide) (by decide) hc) (fun k c f hc=>hcel k c _ f (by decide) (by decide) hc)
  rw[append_nil]at this;exact this
 ·rw[heap_setCell_same _ _ _ _ _ _ hr2];rfl
 ·show (w2.setCell ⟨pb,1,none⟩ v').ownsRow 0 tyBg 2 v' (p.binds++[(txt,t)]).length (bgCells ad (p.binds++[(txt,t)]))
  rw[bgCells_snoc,length_append]
  exact ownsRow_kept ho fun q c f _ hc=>hset q fun e=>by subst e;rw[hr2]at hc;exact absurd (cells_ty hc) (by decide)
 ·intro x hx
  rcases mem_append.1 hx with hx|hx
  ·exact h.lt x hx
  ·rw[mem_singleton.1 hx];exact htl
 ·have k1:Kn (DmP ad tb pb bv) u2 u3.drew:=(Kn.dmp hk3).drew
  exact((k1.alloc _).grown hg (fun k hk=>inl (inr (inr (inr hk))))).set (p:=⟨pb,1,none⟩) (inl (inr (inr (inl rfl)))) _
 ·rcases hl b hb with h1|h1
  ·exact inl h1
  ·have:=hk3.size;exact inr (by omega)
end
end Go.Proofs.YtcbppnefeonmgaaGreatDoor
