import Derived.Test.YtbkiipiocpnnnaaGreatDoorC33
set_option linter.all false
set_option maxHeartbeats 40000000
set_option maxRecDepth 100000
open Go.Proofs.Tryz
open Or (inl inr)
open Nat (le_trans zero_le lt_succ_self)
open List (append_nil length_append mem_cons_self mem_append mem_singleton)
namespace Go.Proofs.YtbkiipiocpnnnaaGreatDoor
open Go.RowKit
theorem catch_type(w:World):CallsD prog 61 #[] (.panicking [{ v:=noTypeV,recovered:=false }]) w fun e u' w'=>
   e=.returned (.tuple #[])/\u'=.panicking [{ v:=noTypeV,recovered:=true }]/\w'=w:=by
 unfold noTypeV
 refine callsD_of_wpS func61 rfl fun c₀ cs hu=>?_
 apply wpS_seq
 apply wpS_region
 simp[wpOpsS,go_sem,recoverD,hu,ntmps61,Exit.thenS]
 have hne1:∀w:World,(binOp BinOp.neq 20 (.iface 130 (.agg #[])) .nilIface).run prog w=.ok (.bool true) w:=fun _=>by kernel_rfl
 have hne2:∀w:World,(binOp BinOp.neq 20 (.iface 130 (.agg #[])) (.iface 130 (.agg #[]))).run prog w=.ok (.bool false) w:=fun _=>by kernel_rfl
 refine wpS_of_wp ?_
 go_wp2
 cases c₀
 simp_all [bodyPostS,results,results61]
theorem catch_none(w:World):CallsD prog 61 #[] .returning w fun e u' w'=>e=.returned (.tuple #[])/\u'=.returning/\w'=w:=by
 refine callsD_of_wpS func61 rfl fun c₀ cs hu=>?_
 apply wpS_seq
 apply wpS_region
 simp[wpOpsS,go_sem,recoverD,hu,ntmps61,Exit.thenS]
 have hne1:∀w:World,(binOp BinOp.neq 20 .nilIface .nilIface).run prog w=.ok (.bool false) w:=fun _=>by kernel_rfl
 refine wpS_of_wp ?_
 go_wp2
 cases c₀
 simp_all [bodyPostS,results,results61]
section
variable {ar:Nm->Nat}{ad:List Nat}{X:Nat->Prop}{rk:Nat->Nat}{σ:TS}{ρ:Env}{tb:Nat}{w w':World}{nb:Nat}
def TdA(ar:Nm->Nat)(ad:List Nat)(X:Nat->Prop)(ρ:Env)(tb:Nat)(o:Option (Nat×TS))(w:World)(e:Ending)(w':World):Prop:=
 Kn (fun k=>k∈ad\/k=tb) w w'/\((o=none/\∃p,e=.returned (.tuple #[.pointer p,.bool false])) \/
  ∃t σ' l rk',o=some (t,σ')/\e=.returned (.tuple #[adV (ad++l) t,.bool true])/\t<σ'.nodes.length/\StoM ar (ad++l) X rk' σ' w'/\Tab (ad++l) tb ρ w'/\∀b∈l,w.heap.size<=b)
def fitO(o:Option (Nat×TS)):Option (Nat×TS):=o.bind fun r=>if r.2.given.all r.2.fits then some (r.1,{ r.2 with given:=[] })else none
theorem fndOk_given{σ:TS}{g:List Nat}:∀{l:List (Nat×Nat)},FndOk σ l->FndOk { σ with given:=g } l:=by
 intro l
 induction l with
 |nil=>intro _;trivial
 |cons x r ih=>intro h;exact⟨h.1,h.2.1,h.2.2.1,h.2.2.2.1,h.2.2.2.2.1,h.2.2.2.2.2.1,ih h.2.2.2.2.2.2⟩
theorem StoM.noGiven(h:StoM ar ad X rk σ w):StoM ar ad X rk { σ with given:=[] } w:=by
 refine⟨⟨fndOk_given h.ok.fnd,h.ok.parts,by simp⟩,h.len,h.lt,fun i hi=>?_⟩
 exact h.node i hi
theorem td_facts{oD:Option (Nat×TS)}(h:StoM ar ad X rk σ w)(ht:Tab ad tb ρ w)(hX:∀b,X b->b<w.heap.size)(hg:σ.given=[])
  (hD:YM ar ad X rk σ ρ tb w.heap.size 0 (.slice none 0 0) (w.alloc (.cells #[.map (some tb),.int .i64 (0:Nat),.slice none 0 0] tyTyping))->Calls prog 62 #[ptrV w.heap.size,ptrV nb] (w.alloc (.cells #[.map (some tb),.int .i64 (0:Nat),.slice none 0 0] tyTyping)) (AnTy ar ad X ρ tb w.heap.size 0 (.slice none 0 0) oD (w.alloc (.cells #[.map (some tb),.int .i64 (0:Nat),.slice none 0 0] tyTyping)))) :
  Calls prog 62 #[ptrV w.heap.size,ptrV nb] (w.alloc (.cells #[.map (some tb),.int .i64 (0:Nat),.slice none 0 0] tyTyping)) fun e u2=>(e=noTy/\TdA ar ad X ρ tb (fitO oD) w (.returned (.tuple #[.pointer none,.bool false])) u2)\/∃b,e=.returned (ptrV b)/\∃(a:Option Addr) (n c:Nat) (GV:Nat->World->Prop),u2.cell? ⟨w.heap.size,2,none⟩=some (.slice a n c)/\n<=9223372036854775807/\GV 0 u2 /\
   (∀i wr,GV i wr->i<n->∃g bt,a=some ⟨g,0,none⟩/\wr.cell? ⟨g,i,none⟩=some (ptrV bt)/\g<wr.heap.size/\Calls prog 64 #[ptrV bt] wr fun e wr2=>∃v,e=.returned (.bool v)/\(v=false->TdA ar ad X ρ tb (fitO oD) w (.returned (.tuple #[ptrV b,.bool false])) wr2)/\(v=true->Hid (GV (i+1) wr2))) /\
   ∀wr,GV n wr->TdA ar ad X ρ tb (fitO oD) w (.returned (.tuple #[ptrV b,.bool true])) wr:=by
 have hns:∀b,XG X (.slice none 0 0) b->X b:=fun b hb=>by
  rcases hb with hb|hb
  ·exact hb
  ·simp[Value.ownBlock]at hb
 have htb:=ht.raw.choose_spec.choose_spec.lt
 have hy:YM ar ad X rk σ ρ tb w.heap.size 0 (.slice none 0 0) (w.alloc (.cells #[.map (some tb),.int .i64 (0:Nat),.slice none 0 0] tyTyping)):=by
  refine⟨(h.alloc _).narrow hns,?_,(MapKept.heap_alloc w _).1,?_,fun b hb=>by rw[alloc_size];have:=hX b hb;omega⟩
  ·have:=ht.kept (l:=[]) (w':=w.alloc (.cells #[.map (some tb),.int .i64 (0:Nat),.slice none 0 0] tyTyping)) (Below.heap_alloc _ _ _ htb) (fun k c f hc=>Below.heap_alloc _ _ _ (lt_of_heap hc)) (fun k c f hc=>Below.heap_alloc _ _ _ (lt_of_heap hc)) (fun k c f hc=>Below.heap_alloc _ _ _ (lt_of_heap hc))
   rw[append_nil]at this;exact this
  ·rw[hg];exact⟨rfl,inl ⟨rfl,rfl⟩⟩
 have hkD:∀{u:World},Kn (Dm ad tb w.heap.size (.slice none 0 0)) (w.alloc (.cells #[.map (some tb),.int .i64 (0:Nat),.slice none 0 0] tyTyping)) u->Kn (fun k=>k∈ad\/k=tb) w u:=fun hk=>((Kn.refl _ w).alloc _).trans' hk fun k hkl hd=>by
  rcases hd with hd|hd|hd|hd
  ·exact inl hd
  ·exact inr hd
  ·omega
  ·simp[Value.ownBlock]at hd
 refine(hD hy).mono fun e u2 ha=>?_
 rcases ha.cases with⟨q1,q2,q3,_⟩|⟨t,σ',l,rk',gv',q1,q2,q3,q4,q5⟩
 ·exact inl ⟨q2,hkD q3,inl ⟨by rw[q1];rfl,_,rfl⟩⟩
 have hforms:∃a c,gv'=.slice a σ'.given.length c:=by
  rcases ownsRow_forms q4.giv with⟨h,h0⟩|⟨g,cap,h⟩
  ·exact⟨none,0,by rw[h,h0]⟩
  ·exact⟨_,cap,h⟩
 obtain⟨a,c,rfl⟩:=hforms
 have hnew:∀b∈l,w.heap.size<=b:=fun b hb=>by have:=q5.new b hb;rw[alloc_size]at this;omega
 refine inr ⟨adA (ad++l) t,q2,a,σ'.given.length,c,fun i wr=>YM ar (ad++l) X rk' σ' ρ tb w.heap.size 0 (.slice a σ'.given.length c) wr/\Bt ad tb w.heap.size (.slice none 0 0) (w.alloc (.cells #[.map (some tb),.int .i64 (0:Nat),.slice none 0 0] tyTyping)) l (.slice a σ'.given.length c) wr/\(σ'.given.take i).all σ'.fits=true,by simp[World.cell?,q4.typ],ownsRow_max q4.giv,⟨q4,q5,by simp⟩,?_,?_⟩
 ·rintro i wr⟨y1,y2,y3⟩ hi
  have hgi:σ'.given[i]?=some σ'.given[i]:=List.getElem?_eq_getElem hi
  have hmem:=List.mem_of_getElem? hgi
  have htk:(σ'.given.take (i+1)).all σ'.fits=σ'.fits σ'.given[i]:=by
   rw[List.take_succ_eq_append_getElem hi,List.all_append,y3];simp
  generalize σ'.given[i]=x at hgi hmem htk
  have hxl:x<σ'.nodes.length:=y1.sto.ok.given x hmem
  obtain⟨g,rfl⟩:∃g,a=some ⟨g,0,none⟩:=by
   rcases ownsRow_forms y1.giv with⟨h,h0⟩|⟨g,cap,h⟩
   ·omega
   ·cases h;exact⟨g,rfl⟩
  refine⟨g,adA (ad++l) x,rfl,?_,(y1.giv.lt g rfl).2,(Fits_any y1.sto hxl).mono ?_⟩
  ·rw[y1.giv.cellAt i (by omega),List.getElem?_map,hgi];rfl
  ·rintro e wr2⟨rfl,r2,r3⟩
   have hb3:=y2.store r3 (l2:=[]) (by simp)
   rw[append_nil]at hb3
   have hy3:=y1.step (l:=[]) r3 (by rw[append_nil];exact r2) rfl
   rw[append_nil]at hy3
   refine⟨_,rfl,fun hv=>⟨hkD hb3.kn,inl ⟨?_,_,rfl⟩⟩,fun hv=>hide ⟨hy3,hb3,by rw[htk];exact hv⟩⟩
   unfold fitO
   rw[q1,Option.bind_some]
   have:σ'.given.all σ'.fits=false:=List.all_eq_false.2 ⟨x,hmem,by simp[hv]⟩
   simp only[this]
   rfl
 ·rintro wr⟨y1,y2,y3⟩
  rw[List.take_length]at y3
  refine⟨hkD y2.kn,inr ⟨t,{ σ' with given:=[] },l,rk',?_,rfl,q3,(y1.sto.narrow fun b hb=>inl hb).noGiven,y1.tab,hnew⟩⟩
  unfold fitO
  rw[q1,Option.bind_some]
  simp only[y3]
  rfl
theorem typeDeclaration_of{oD:Option (Nat×TS)}(h:StoM ar ad X rk σ w)(ht:Tab ad tb ρ w)(hX:∀b,X b->b<w.heap.size)(hg:σ.given=[])
  (hD:YM ar ad X rk σ ρ tb w.heap.size 0 (.slice none 0 0) (w.alloc (.cells #[.map (some tb),.int .i64 (0:Nat),.slice none 0 0] tyTyping))->Calls prog 62 #[ptrV w.heap.size,ptrV nb] (w.alloc (.cells #[.map (some tb),.int .i64 (0:Nat),.slice none 0 0] tyTyping)) (AnTy ar ad X ρ tb w.heap.size 0 (.slice none 0 0) oD (w.alloc (.cells #[.map (some tb),.int .i64 (0:Nat),.slice none 0 0] tyTyping)))) :
  Calls prog 32 #[.map (some tb),ptrV nb] w (TdA ar ad X ρ tb (fitO oD) w):=by
 have hf:=td_facts h ht hX hg hD
 have HF:=hide hf
 have HN:=hide need_any
 clear hf h ht hX hg hD
 generalize TdA ar ad X ρ tb (fitO oD) w=Q at *
 unfold noTy ptrV at *
 go_enter_defers func32,ntmps32
 go_wp2_with fail
 refine(HF.out).mono ?_;rintro e u2 (⟨rfl,hq⟩|⟨b,rfl,a,n,c,GV,hc,hn,h0,hs,he⟩)
 ·have HG:=hide hq
  clear hq HF
  go_wp2
  refine leaves_cons (f:=61) (args:=#[]) (by simp) (by simp[go_sem]) ?_
  refine(catch_type _).mono ?_
  rintro e u' w''⟨rfl,rfl,rfl⟩
  simp[Leaves,settle,results,results32,go_sem]
  exact HG.out
 ·have H0:=hide h0
  have HS:=hide hs
  have HE:=hide he
  clear h0 hs he HF
  generalize w.heap.size=yb at *
  go_wp2_with fail
  go_loopg [16] n (fun gk v16 wr=>∃i,v16=.int .i64 (i:Nat)/\i+gk=n/\Hid (GV i wr))
  case atStart=>exact⟨0,rfl,by omega,H0⟩
  case round=>
   clear H0
   obtain⟨i,rfl,hi,HGV⟩:=hrel
   by_cases hlt:i<n
   ·obtain⟨g,bt,rfl,e1,e2,hcc⟩:=HS.out _ _ HGV.out hlt
    have HC:=hide hcc
    have hlt3:(i:Int)<(n:Int):=by omega
    clear hcc HS HE HGV
    go_wp2_with fail
    refine(HC.out).mono ?_;rintro e wr2⟨v,rfl,hno,hyes⟩
    have HNO:=hide hno
    have HYES:=hide hyes
    clear hno hyes HC
    go_wp2_with fail
    refine(HN.out _ _).mono ?_;rintro e u6⟨rfl,⟨hv,rfl⟩|⟨hv,rfl⟩⟩
    ·have HG:=hide (HNO.out hv)
     clear HNO HYES hv
     go_wp2
     refine leaves_cons (f:=61) (args:=#[]) (by simp) (by simp[go_sem]) ?_
     refine(catch_type _).mono ?_
     rintro e u' w''⟨rfl,rfl,rfl⟩
     simp[Leaves,settle,results,results32,go_sem]
     exact HG.out
    ·have HGV:=HYES.out hv
     clear HNO HYES
     go_wp2_with fail
     go_roundg (n-(i+1))
     case rel=>exact⟨i+1,by simp,by omega,HGV⟩
     case measure=>omega
   ·have hin:i=n:=by omega
    subst hin
    have hlt3:¬(i:Int)<(i:Int):=by omega
    have HG:=hide (HE.out _ HGV.out)
    clear HS HE HGV
    go_wp2
    refine leaves_cons (f:=61) (args:=#[]) (by simp) (by simp[go_sem]) ?_
    refine(catch_none _).mono ?_
    rintro e u' w''⟨rfl,rfl,rfl⟩
    simp[Leaves,settle,results,results32,go_sem]
    exact HG.out
end
section
variable {ar:Nm->Nat}{ad:List Nat}{X:Nat->Prop}{rk:Nat->Nat}{σ:TS}{ρ:Env}{tb:Nat}{w w':World}{nb:Nat}{txt:Nm}
theorem declT_do{a:Nd}{r:List Nd}:declT ρ (.mk 17 txt (a::r)) σ=fitO ((exX (exT (a.ht+1)) ρ 0 a σ.nodes.length (σ.named unitN []).2).map fun s=>s.named unitN []):=by
 rw[show declT ρ (.mk 17 txt (a::r)) σ=(match (exX (exT (a.ht+1)) ρ 0 a σ.nodes.length (σ.named unitN []).2).map fun s=>(s.nodes.length,(s.named unitN []).2)with|some (t,s)=>if s.given.all s.fits then some (t,{ s with given:=[] })else none|none=>none)from rfl]
 unfold fitO
 cases exX (exT (a.ht+1)) ρ 0 a σ.nodes.length (σ.named unitN []).2 with
 |none=>rfl
 |some s=>rfl
theorem declT_val{k:Nat}{a:Nd}{r:List Nd}(hk:k≠17):declT ρ (.mk k txt (a::r)) σ=fitO (valO (isValue (a.ht+1) a) (boundT (exT (a.ht+1)) ρ 0 (k==7) txt a σ)):=by
 unfold declT
 dsimp only
 rw[if_neg hk]
 unfold fitO valO
 cases boundT (exT (a.ht+1)) ρ 0 (k==7) txt a σ with
 |none=>rfl
 |some r=>
  rw[Option.bind_some]
  dsimp only
  cases (isValue (a.ht+1) a || !r.2.hasLetters r.1)with
  |false=>rfl
  |true=>rfl
end
abbrev tyProg:TypeId:=41
structure PsM(ar:Nm->Nat)(ad:List Nat)(rk:Nat->Nat)(p:PS)(tb pb:Nat)(dv bv:Value)(w:World):Prop where
 sto:StoM ar ad (fun _=>False) rk p.sto w
 giv:p.sto.given=[]
 tab:Tab ad tb p.env w
 prog:w.heap[pb]?=some (.cells #[dv,bv,.map (some tb)] tyProg (0,0))
 row:w.ownsRow 0 tyBg 2 bv p.binds.length (bgCells ad p.binds)
 lt:∀x∈p.binds,x.2<ad.length
def DmP(ad:List Nat)(tb pb:Nat)(bv:Value)(k:Nat):Prop:=k∈ad\/k=tb\/k=pb\/bv.ownBlock=some k
def DcA(ar:Nm->Nat)(ad:List Nat)(tb pb:Nat)(dv bv:Value)(o:Nat×PS)(w:World)(e:Ending)(w':World):Prop:=
 Kn (DmP ad tb pb bv) w w'/\e=.returned (.int .i64 o.1)/\(o.1=0->∃l rk' bv',PsM ar (ad++l) rk' o.2 tb pb dv bv' w'/\(∀b∈l,w.heap.size<=b)/\∀b,bv'.ownBlock=some b->bv.ownBlock=some b\/w.heap.size<=b)
section
variable {ar:Nm->Nat}{ad:List Nat}{rk:Nat->Nat}{p:PS}{tb pb:Nat}{dv bv:Value}{w w':World}{nb:Nat}{txt:Nm}
theorem PsM.not_tb(h:PsM ar ad rk p tb pb dv bv w){k:Nat}{c:Array Value}{t:TypeId}{f:Nat×Nat}(hc:w.heap[k]?=some (.cells c t f)):k≠tb:=fun e=>by
 obtain⟨n,f,⟨es,cl,hb,_⟩,_⟩:=h.tab
 subst e;rw[hc]at hb;cases hb
theorem PsM.not_ad(h:PsM ar ad rk p tb pb dv bv w){k:Nat}{c:Array Value}{t:TypeId}{f:Nat×Nat}(hc:w.heap[k]?=some (.cells c t f))(ht:t≠tyType):k∉ad:=h.sto.ty_not hc ht
theorem PsM.turn(h:PsM ar ad rk p tb pb dv bv w){l:List Nat}{rk':Nat->Nat}{s:TS}{ρ:Env}(hk:Kn (fun k=>k∈ad\/k=tb) w w')(hs:StoM ar (ad++l) (fun _=>False) rk' s w')(hg:s.given=[])(ht:Tab (ad++l) tb ρ w'):PsM ar (ad++l) rk' ⟨ρ,s,p.binds⟩ tb pb dv bv w':=by
 have hb:∀(k:Nat)(c:Array Value)(t:TypeId)(f:Nat×Nat),t≠tyType->w.heap[k]?=some (.cells c t f)->w'.heap[k]?=w.heap[k]?:=fun k c t f htt hc=>hk.block k (lt_of_heap hc) fun hd=>by
  rcases hd with hd|hd
  ·exact h.not_ad hc htt hd
  ·exact h.not_tb hc hd
 refine⟨hs,hg,ht,(hb _ _ _ _ (by decide) h.prog).trans h.prog,?_,fun x hx=>by rw[length_append];have:=h.lt x hx;omega⟩
 rw[bgCells_app l h.lt]
 exact ownsRow_kept h.row fun k c f _ hc=>hb k c _ f (by decide) hc
theorem Kn.dmp(hk:Kn (fun k=>k∈ad\/k=tb) w w'):Kn (DmP ad tb pb bv) w w':=hk.wide fun k _ hd=>by
 rcases hd with hd|hd
 ·exact inl hd
 ·exact inr (inl hd)
theorem StoM.turned{X:Nat->Prop}{σ:TS}(h:StoM ar ad X rk σ w)(ht:w.mapTurned w' tb):StoM ar ad X rk σ w':=
 h.kept (fun k hk=>by
  obtain⟨c,f,hc⟩:=h.isT hk
  exact turned_other ht hc) (fun k c f _ hc=>turned_other ht hc)
theorem StoM.stays{X:Nat->Prop}{σ:TS}(h:StoM ar ad X rk σ w)(hk:Kn (fun _=>False) w w'):StoM ar ad X rk σ w':=
 h.kept (fun k hk2=>hk.block k (h.ad_lt hk2) id) (fun k c f _ hc=>hk.block k (lt_of_heap hc) id)
theorem PsM.stays(h:PsM ar ad rk p tb pb dv bv w)(hk:Kn (fun _=>False) w w'):PsM ar ad rk p tb pb dv bv w':=
 ⟨h.sto.stays hk,h.giv,h.tab.stays hk,(hk.block pb (lt_of_heap h.prog) id).trans h.prog,ownsRow_kept h.row fun k c f _ hc=>hk.block k (lt_of_heap hc) id,h.lt⟩
theorem bind_facts{t:Nat}{u2:World}(h:PsM ar ad rk p tb pb dv bv u2)(ht:t<p.sto.nodes.length)(hx:okK (0,txt))(hn:p.binds.length<=1000000)(hnt:∃c t f,u2.heap[nb]?=some (.cells c t f)/\c[1]?=some (.string (bs txt))/\t≠tyBg/\t≠tyProg) :
  ∀u,Kn (fun _=>False) u2 u->(u.cell? ⟨pb,2,none⟩=some (.map (some tb))/\u.cell? ⟨nb,1,none⟩=some (.string (bs txt)))/\∃u3,(Instr.mapUpdate tyTab (.map (some tb)) (.agg #[.int .i64 0,.string (bs txt)]) (.agg #[adV ad t,.string ⟨#[]⟩,.slice none 0 0,.slice none 0 0,.int .i64 0,.int .i64 0])).run prog u=.ok () u3/\(u3.cell? ⟨pb,2,none⟩=some (.map (some tb))/\u3.cell? ⟨nb,1,none⟩=some (.string (bs txt)))/\u3.cell? ⟨pb,1,none⟩=some bv /\
   ∃xs:List Value,u3.drew.ownsRow 0 tyBg 2 bv p.binds.length xs/\p.binds.length<=100000000/\∀v' w2,w2.ownsRow 0 tyBg 2 v' (p.binds.length+1) (xs++[.string (bs txt),adV ad t])->(u3.drew.alloc (.cells #[.string (bs txt),adV ad t] tyBg)).grownBy w2 bv.ownBlock->(∀g,v'.ownBlock=some g->bv.ownBlock=some g\/u3.heap.size<g) ->
    w2.frozen? ⟨pb,1,none⟩=false/\w2.cell? ⟨pb,1,none⟩=some bv/\PsM ar ad rk ⟨((0,txt),Mg.var t)::p.env,p.sto,p.binds++[(txt,t)]⟩ tb pb dv v' (w2.setCell ⟨pb,1,none⟩ v')/\Kn (DmP ad tb pb bv) u2 (w2.setCell ⟨pb,1,none⟩ v')/\∀b,v'.ownBlock=some b->bv.ownBlock=some b\/u2.heap.size<=b:=by
 intro u hu
 have hp:=h.stays hu
 obtain⟨cc,tt,ff,hnb,hnc,hn1,hn2⟩:=hnt
 have hnu:u.heap[nb]?=some (.cells cc tt ff):=(hu.block nb (lt_of_heap hnb) id).trans hnb
 have htl:t<ad.length:=by rw[h.sto.len];exact ht
 refine⟨⟨by simp[World.cell?,hp.prog],by simp[World.cell?,hnu,hnc]⟩,?_⟩
 obtain⟨u3,r1,r2,r3⟩:=hp.tab.put (x:=(0,txt)) hx (mgVar_at htl u)
 have hpr3:u3.heap[pb]?=some (.cells #[dv,bv,.map (some tb)] tyProg (0,0)):=(turned_other r3 hp.prog).trans hp.prog
 have hnb3:u3.heap[nb]?=some (.cells cc tt ff):=(turned_other r3 hnu).trans hnu
 have hrow3:u3.ownsRow 0 tyBg 2 bv p.binds.length (bgCells ad p.binds):=ownsRow_kept hp.row fun k c f _ hc=>turned_other r3 hc
 have hsto3:=hp.sto.turned r3
 have hk3:Kn (fun k=>k∈ad\/k=tb) u2 u3:=(hu.wide fun _ _ h=>h.elim).turned r3 (inl (inr rfl))
 refine⟨u3,r1,⟨by simp[World.cell?,hpr3],by simp[World.cell?,hnb3,hnc]⟩,by simp[World.cell?,hpr3],bgCells ad p.binds,hrow3,by omega,?_⟩
 intro v' w2 ho hg hl
 have hne:∀k,k<u3.heap.size->bv.ownBlock≠some k->w2.heap[k]?=u3.heap[k]?:=fun k hk hn=>by
  have hk':k<u3.drew.heap.size:=hk
  rw[hg.block k (by rw[alloc_size];omega) (fun e=>hn e.symm),Below.heap_alloc _ _ _ hk'];rfl
 have hty:∀(k:Nat)(c:Array Value)(t:TypeId)(f:Nat×Nat),u3.heap[k]?=some (.cells c t f)->t≠tyBg->w2.heap[k]?=u3.heap[k]?:=fun k c t f hc ht=>hne k (lt_of_heap hc) fun e=>by
  obtain⟨c2,h2⟩:=own_cells hrow3 e
  rw[hc]at h2;exact ht (cells_ty h2)
 have hr2:w2.heap[pb]?=some (.cells #[dv,bv,.map (some tb)] tyProg (0,0)):=(hty pb _ _ _ hpr3 (by decide)).trans hpr3
 have hset:∀k,k≠pb->(w2.setCell ⟨pb,1,none⟩ v').heap[k]?=w2.heap[k]?:=fun k hk=>Below.heap_setCell _ _ _ _ hk
 have hcel:∀(k:Nat)(c:Array Value)(t:TypeId)(f:Nat×Nat),t≠tyBg->t≠tyProg->u3.heap[k]?=some (.cells c t f)->(w2.setCell ⟨pb,1,none⟩ v').heap[k]?=u3.heap[k]?:=fun k c t f h1 h2 hc=>by
  rw[hset k (fun e=>by subst e;rw[hpr3]at hc;exact h2 (cells_ty hc).symm)];exact hty k c t f hc h1
 have htb:(w2.setCell ⟨pb,1,none⟩ v').heap[tb]?=u3.heap[tb]?:=by
  obtain⟨n,f,⟨es,cl,hm,_⟩,_⟩:=r2
  rw[hset tb (fun e=>by subst e;rw[hpr3]at hm;cases hm),hne tb (by cases hh:u3.heap[tb]? with|none=>rw[hh]at hm;cases hm|some o=>exact lt_of_heap hh) (fun e=>by
   obtain⟨c2,h2⟩:=own_cells hrow3 e
   rw[hm]at h2;cases h2)]
 refine⟨frozen_of_row _ _ _ _ _ hr2,by simp[World.cell?,hr2],⟨?_,h.giv,?_,?_,?_,?_⟩,?_,fun b hb=>?_⟩
 ·refine hsto3.kept (fun k hk=>?_) (fun k c f _ hc=>hcel k c _ f (by decide) (by decide) hc)
  obtain⟨c,f,hc⟩:=hsto3.isT hk
  exact hcel k c _ f (by decide) (by decide) hc
 ·have:=r2.kept (l:=[]) htb (fun k c f hc=>hcel k c _ f (by decide) (by decide) hc) (fun k c f hc=>hcel k c _ f (by decide) (by decide) hc) (fun k c f hc=>hcel k c _ f (by decide) (by decide) hc)
  rw[append_nil]at this;exact this
 ·rw[heap_setCell_same _ _ _ _ _ _ hr2];rfl
 ·show (w2.setCell ⟨pb,1,none⟩ v').ownsRow 0 tyBg 2 v' (p.binds++[(txt,t)]).length (bgCells ad (p.binds++[(txt,t)]))
  rw[bgCells_snoc,length_append]
  exact ownsRow_kept ho fun q c f _ hc=>hset q fun e=>by subst e;rw[hr2]at hc;exact absurd (cells_ty hc) (by decide)
 ·intro x hx
  rcases mem_append.1 hx with hx|hx
  ·exact h.lt x hx
  ·rw[mem_singleton.1 hx];exact htl
 ·have k1:Kn (DmP ad tb pb bv) u2 u3.drew:=(Kn.dmp hk3).drew
  exact((k1.alloc _).grown hg (fun k hk=>inl (inr (inr (inr hk))))).set (p:=⟨pb,1,none⟩) (inl (inr (inr (inl rfl)))) _
 ·rcases hl b hb with h1|h1
  ·exact inl h1
  ·have:=hk3.size;exact inr (by omega)
end
section
variable {ar:Nm->Nat}{ad:List Nat}{rk:Nat->Nat}{p:PS}{tb pb:Nat}{dv bv:Value}{w w':World}{nb:Nat}{txt:Nm}
theorem declT_noGiven{ρ:Env}{nd:Nd}{σ:TS}{t:Nat}{s:TS}(h:declT ρ nd σ=some (t,s)):s.given=[]:=by
 obtain⟨k,txt,ps⟩:=nd
 unfold declT at h
 dsimp only at h
 split at h
 ·split at h
  ·split at h
   ·cases h;rfl
   ·cases h
  ·cases h
 ·cases h
theorem PsM.look(h:PsM ar ad rk p tb pb dv bv w){ρ:Env}(hk:Kn (·=tb) w w')(ht:Tab ad tb ρ w'):PsM ar ad rk ⟨ρ,p.sto,p.binds⟩ tb pb dv bv w':=by
 have hs:StoM ar ad (fun _=>False) rk p.sto w':=h.sto.kept (fun k hk2=>by
  obtain⟨c,f,hc⟩:=h.sto.isT hk2
  exact hk.block k (lt_of_heap hc) (h.not_tb hc)) (fun k c f _ hc=>hk.block k (lt_of_heap hc) (h.not_tb hc))
 have:=h.turn (l:=[]) (hk.wide fun k _ hd=>inr hd) (by rw[append_nil];exact hs) h.giv (by rw[append_nil];exact ht)
 rw[append_nil]at this
 exact this
theorem dc_facts{k:Nat}{ps:List Nd}(h:PsM ar ad rk p tb pb dv bv w)(hm:NMem w (.mk k txt ps) nb)(hx:okK (0,txt))(hnb:p.binds.length<=1000000)(_hk:k<100)
  (hL:Calls prog 30 #[.map (some tb),ptrV nb] w fun e u=>e=.returned (.int .i64 (lkErr (lkD p.env (.mk k txt ps) ⟨false,false⟩)))/\Tab ad tb p.env u/\Kn (·=tb) w u)
  (hT:lkErr (lkD p.env (.mk k txt ps) ⟨false,false⟩)=0->k≠18->∀u,Kn (·=tb) w u->StoM ar ad (fun _=>False) rk p.sto u->Tab ad tb p.env u->Calls prog 32 #[.map (some tb),ptrV nb] u (TdA ar ad (fun _=>False) p.env tb (declT p.env (.mk k txt ps) p.sto) u))
  (hD:lkErr (lkD p.env (.mk k txt ps) ⟨false,false⟩)=0->k=18->∀u,Kn (·=tb) w u->Tab ad tb p.env u->Calls prog 31 #[.map (some tb),ptrV nb] u fun e u2=>e=.returned (.tuple #[])/\Tab ad tb (declareType p.env txt ps) u2/\Kn (·=tb) u u2)
  {Q:Ending->World->Prop} (hQ:∀e w',DcA ar ad tb pb dv bv (declare p (.mk k txt ps)) w e w'->Q e w') :
  Calls prog 30 #[.map (some tb),ptrV nb] w fun e u1=>∃er:Nat,e=.returned (.int .i64 er)/\(er≠0->Q (.returned (.int .i64 er)) u1)/\(er=0->(u1.cell? ⟨pb,2,none⟩=some (.map (some tb))/\u1.cell? ⟨nb,0,none⟩=some (.int .i64 k)) /\
   (k=18->Calls prog 31 #[.map (some tb),ptrV nb] u1 fun e u2=>e=.returned (.tuple #[])/\Q (.returned (.int .i64 0)) u2) /\
   (k≠18->Calls prog 32 #[.map (some tb),ptrV nb] u1 fun e u2=>∃pp ok,e=.returned (.tuple #[.pointer pp,.bool ok])/\u2.cell? ⟨nb,0,none⟩=some (.int .i64 k)/\(ok=false->Q (.returned (.int .i64 6)) u2)/\(ok=true->(k=17->Q (.returned (.int .i64 0)) u2)/\(k≠17->∃bt bn,pp=some ⟨bt,0,none⟩ /\
    ∀u,Kn (fun _=>False) u2 u->(u.cell? ⟨pb,2,none⟩=some (.map (some tb))/\u.cell? ⟨nb,1,none⟩=some (.string (bs txt)))/\∃u3,(Instr.mapUpdate tyTab (.map (some tb)) (.agg #[.int .i64 0,.string (bs txt)]) (.agg #[ptrV bt,.string ⟨#[]⟩,.slice none 0 0,.slice none 0 0,.int .i64 0,.int .i64 0])).run prog u=.ok () u3/\(u3.cell? ⟨pb,2,none⟩=some (.map (some tb))/\u3.cell? ⟨nb,1,none⟩=some (.string (bs txt)))/\u3.cell? ⟨pb,1,none⟩=some bv /\
     ∃xs:List Value,u3.drew.ownsRow 0 tyBg 2 bv bn xs/\bn<=100000000/\∀v' w2,w2.ownsRow 0 tyBg 2 v' (bn+1) (xs++[.string (bs txt),ptrV bt])->(u3.drew.alloc (.cells #[.string (bs txt),ptrV bt] tyBg)).grownBy w2 bv.ownBlock->(∀g,v'.ownBlock=some g->bv.ownBlock=some g\/u3.heap.size<g) ->
      w2.frozen? ⟨pb,1,none⟩=false/\w2.cell? ⟨pb,1,none⟩=some bv/\Q (.returned (.int .i64 0)) (w2.setCell ⟨pb,1,none⟩ v'))))):=by
 obtain⟨pv,bl,n1,_,_⟩:=hm.inv
 have hnd:∀{u:World},Kn (fun k=>k∈ad\/k=tb) w u->u.heap[nb]?=some (.cells #[.int .i64 k,.string (bs txt),pv] tyTree (0,0)):=fun hu=>(hu.block nb (lt_of_heap n1) fun hd=>by
  rcases hd with hd|hd
  ·exact h.not_ad n1 (by decide) hd
  ·exact h.not_tb n1 hd).trans n1
 refine hL.mono ?_
 rintro e u1⟨rfl,ht1,hk1⟩
 have hk1':Kn (fun k=>k∈ad\/k=tb) w u1:=hk1.wide fun k _ hd=>inr hd
 have hp1:=h.look hk1 ht1
 have hp1:PsM ar ad rk p tb pb dv bv u1:=hp1
 generalize her:lkErr (lkD p.env (.mk k txt ps) ⟨false,false⟩)=er at *
 have hde:declare p (.mk k txt ps)=if er≠0 then(er,p)else if k=18 then(0,{ p with env:=declareType p.env txt ps })else match declT p.env (.mk k txt ps) p.sto with
   |none=>(6,p)
   |some (t,s)=>if k=17 then(0,{ p with sto:=s })else(0,⟨((0,txt),Mg.var t)::p.env,s,p.binds++[(txt,t)]⟩):=by
  rw[<- her];rfl
 refine⟨er,rfl,fun hne=>hQ _ _ ?_,fun h0=>⟨⟨by simp[World.cell?,hp1.prog],by simp[World.cell?,hnd hk1']⟩,fun h18=>?_,fun h18=>?_⟩⟩
 ·rw[hde,if_pos hne]
  exact⟨Kn.dmp hk1',rfl,fun e=>absurd e hne⟩
 ·refine(hD h0 h18 u1 hk1 ht1).mono ?_
  rintro e u2⟨rfl,r1,r2⟩
  refine⟨rfl,hQ _ _ ?_⟩
  rw[hde,if_neg (by simpa using h0),if_pos h18]
  refine⟨Kn.dmp ((hk1.trans r2).wide fun k _ hd=>inr hd),rfl,fun _=>⟨[],rk,bv,?_,by simp,fun b hb=>inl hb⟩⟩
  rw[append_nil]
  exact hp1.look r2 r1
 ·refine(hT h0 h18 u1 hk1 hp1.sto ht1).mono ?_
  rintro e u2⟨hk2,ha⟩
  have hk2':Kn (fun k=>k∈ad\/k=tb) w u2:=hk1'.trans hk2
  rcases ha with⟨a1,pp,rfl⟩|⟨t,s,l,rk',a1,rfl,a3,a4,a5,a6⟩
  ·refine⟨pp,false,rfl,by simp[World.cell?,hnd hk2'],fun _=>hQ _ _ ?_,fun e=>by cases e⟩
   rw[hde,if_neg (by simpa using h0),if_neg h18,a1]
   exact⟨Kn.dmp hk2',rfl,fun e=>by cases e⟩
  ·have hp2:=hp1.turn hk2 a4 (declT_noGiven a1) a5
   have hnew:∀b∈l,w.heap.size<=b:=fun b hb=>le_trans hk1.size (a6 b hb)
   refine⟨_,true,rfl,by simp[World.cell?,hnd hk2'],(fun e=>by cases e),fun _=>⟨fun h17=>hQ _ _ ?_,fun h17=>?_⟩⟩
   ·rw[hde,if_neg (by simpa using h0),if_neg h18,a1]
    simp only[if_pos h17]
    exact⟨Kn.dmp hk2',rfl,fun _=>⟨l,rk',bv,hp2,hnew,fun b hb=>inl hb⟩⟩
   ·refine⟨adA (ad++l) t,p.binds.length,rfl,fun u hu=>?_⟩
    have hb:=bind_facts (txt:=txt) (nb:=nb) hp2 a3 hx hnb ⟨_,_,_,hnd hk2',rfl,by decide,by decide⟩ u hu
    obtain⟨q1,u3,q2,q3,q4,xs,q5,q6,q7⟩:=hb
    refine⟨q1,u3,q2,q3,q4,xs,q5,q6,fun v' w2 z1 z2 z3=>?_⟩
    obtain⟨y1,y2,y3,y4,y5⟩:=q7 v' w2 z1 z2 z3
    refine⟨y1,y2,hQ _ _ ?_⟩
    rw[hde,if_neg (by simpa using h0),if_neg h18,a1]
    simp only[if_neg h17]
    refine⟨(Kn.dmp hk2').trans' y4 fun k hk hd=>?_,rfl,fun _=>⟨l,rk',v',y3,hnew,fun b hb=>?_⟩⟩
    ·rcases hd with hd|hd|hd|hd
     ·rcases mem_append.1 hd with hd|hd
      ·exact inl hd
      ·have:=hnew k hd;omega
     ·exact inr (inl hd)
     ·exact inr (inr (inl hd))
     ·exact inr (inr (inr hd))
    ·exact(y5 b hb).imp id (le_trans hk2'.size)
theorem declare_of{k:Nat}{ps:List Nd}(h:PsM ar ad rk p tb pb dv bv w)(hm:NMem w (.mk k txt ps) nb)(hx:okK (0,txt))(hnb:p.binds.length<=1000000)(hk:k<100)
  (hL:Calls prog 30 #[.map (some tb),ptrV nb] w fun e u=>e=.returned (.int .i64 (lkErr (lkD p.env (.mk k txt ps) ⟨false,false⟩)))/\Tab ad tb p.env u/\Kn (·=tb) w u)
  (hT:lkErr (lkD p.env (.mk k txt ps) ⟨false,false⟩)=0->k≠18->∀u,Kn (·=tb) w u->StoM ar ad (fun _=>False) rk p.sto u->Tab ad tb p.env u->Calls prog 32 #[.map (some tb),ptrV nb] u (TdA ar ad (fun _=>False) p.env tb (declT p.env (.mk k txt ps) p.sto) u))
  (hD:lkErr (lkD p.env (.mk k txt ps) ⟨false,false⟩)=0->k=18->∀u,Kn (·=tb) w u->Tab ad tb p.env u->Calls prog 31 #[.map (some tb),ptrV nb] u fun e u2=>e=.returned (.tuple #[])/\Tab ad tb (declareType p.env txt ps) u2/\Kn (·=tb) u u2) :
  Calls prog 12 #[ptrV pb,ptrV nb] w (DcA ar ad tb pb dv bv (declare p (.mk k txt ps)) w):=by
 have hf:=dc_facts h hm hx hnb hk hL hT hD (Q:=DcA ar ad tb pb dv bv (declare p (.mk k txt ps)) w) (fun _ _ ha=>ha)
 have c2:w.cell? ⟨pb,2,none⟩=some (.map (some tb)):=by simp[World.cell?,h.prog]
 obtain⟨av,kv,cv,hbv⟩:∃a k c,bv=.slice a k c:=by
  rcases ownsRow_forms h.row with⟨h,_⟩|⟨g,cap,h⟩
  ·exact⟨_,_,_,h⟩
  ·exact⟨_,_,_,h⟩
 have HF:=hide hf
 have hK:=fun(s:ByteArray) (u:World)=>key0_any s u
 have HK:=hide hK
 clear hf h hm hx hnb hL hT hD hK
 generalize DcA ar ad tb pb dv bv (declare p (.mk k txt ps)) w=Q at *
 subst hbv
 unfold ptrV at *
 generalize bs txt=tx at *
 go_enter func12,ntmps12
 go_wp2_with fail
 refine(HF.out).mono ?_;rintro e u1⟨er,rfl,hne,h0⟩
 have HNE:=hide hne
 have H0:=hide h0
 clear hne h0 HF c2
 by_cases he:er=0
 ·subst he
  have hz:=H0.out rfl
  clear H0 HNE
  obtain⟨⟨c2,ck⟩,hd,ht⟩:=hz
  have HD:=hide hd
  have HT:=hide ht
  clear hd ht
  by_cases h18:k=18
  ·subst h18
   have HD1:=hide (HD.out rfl)
   clear HD HT
   go_wp2_with fail
   refine(HD1.out).mono ?_;rintro e u2⟨rfl,hq⟩
   have HG:=hide hq
   clear hq HD1
   go_wp2
   exact HG.out
  ·have HT1:=hide (HT.out h18)
   have hk18:¬(k:Int)=18:=by omega
   clear HD HT
   go_wp2_with fail
   refine(HT1.out).mono ?_;rintro e u2⟨pp,ok,rfl,ck2,hno,hyes⟩
   have HNO:=hide hno
   have HYES:=hide hyes
   clear hno hyes HT1
   cases ok with
   |false=>
    have HG:=hide (HNO.out rfl)
    clear HNO HYES
    go_wp2
    exact HG.out
   |true=>
    have hz:=HYES.out rfl
    clear HNO HYES
    obtain⟨hd,hb⟩:=hz
    by_cases h17:k=17
    ·have HG:=hide (hd h17)
     have hk17:(k:Int)=17:=by omega
     clear hd hb
     go_wp2
     exact HG.out
    ·have hz:=hb h17
     have hk17:¬(k:Int)=17:=by omega
     clear hd hb
     obtain⟨bt,bn,rfl,hu⟩:=hz
     have HX:=hide hu
     have hal:∀u o u',Kn (fun _=>False) u2 u->u'=World.alloc u o->Kn (fun _=>False) u2 u':=fun u o u' hu e=>by
      subst e;exact hu.alloc o
     have HV:=hide (Kn.drewF u2)
     have HAL:=hide hal
     clear hu hal
     generalize Kn (fun _=>False) u2=V at *
     have hz:=HX.out _ HV.out
     obtain⟨⟨c1a,c2a⟩,_⟩:=hz
     go_wp2_with fail
     go_region_held3 (fun w'=>w'.cell? ⟨pb,2,none⟩=some (.map (some tb))/\w'.cell? ⟨nb,1,none⟩=some (.string tx)) (first|with_reducible exact⟨c1a,c2a⟩|with_reducible exact⟨m1a,m2a⟩)
      (first|(go_at_call 25;refine(HK.out _ _).mono ?_;rintro e u⟨rfl,hu⟩;have HV:=hide (HAL.out _ _ _ HV.out hu);have hz:=HX.out _ HV.out;obtain⟨⟨c1a,c2a⟩,u9,hup,⟨m1a,m2a⟩,c4,xs,hown,hbn,hfin⟩:=hz;have HFIN:=hide hfin;clear hu hfin))
     all_goals
      clear HX HV HAL
      have c1b:(u9.alloc (.cells #[.string tx,.pointer (some ⟨bt,0,none⟩)] 44)).cell? ⟨pb,1,none⟩=some (.slice av kv cv):=cell_alloc_old c4
      have ctb:(u9.alloc (.cells #[.string tx,.pointer (some ⟨bt,0,none⟩)] 44)).cell? ⟨nb,1,none⟩=some (.string tx):=cell_alloc_old m2a
      go_wp2_with fail
      go_region_law (refine step_append_bg rfl _ _ rfl tx bt hown hbn (zero_le _) (by simp[Act.eval,Act.put]) (by simp[Act.eval,Act.put]) ?_;intro v' w2 ho hg HL;obtain⟨hfr,hc1,hq⟩:=HFIN.out v' w2 ho hg HL.out;have HG:=hide hq;obtain⟨g',cap',rfl⟩:∃g' cap',v'=.slice (some ⟨g',0,none⟩) (bn+1) cap':=(by rcases ownsRow_forms ho with⟨_,hn0⟩|h;(focus (simp at hn0));exact h);clear hq ho hg HL)
      all_goals
       go_wp2
       exact HG.out
 ·have HG:=hide (HNE.out he)
  have he3:¬(er:Int)=0:=by omega
  clear H0 HNE
  go_wp2
  exact HG.out
end
section
variable {ar:Nm->Nat}{ad:List Nat}{X:Nat->Prop}{rk:Nat->Nat}{σ:TS}{ρ:Env}{tb:Nat}{w w':World}{nb:Nat}{txt:Nm}
theorem typeDecl_anyC(ha:ArOk ar){k m m2:Nat}{a:Nd}{r:List Nd}(hc:NoCM a)(hk:k=17\/k=6\/k=7)(h1:NmOk m (if k=7 then(((0,txt),Mg.zero)::ρ)else ρ) a)(q1:a.ht<m)(q2:a.ht<m2)(h2:XSh m2 a)(h3:EnvB ar ρ)(hd:a.ht<=900000)(hsz:a.sz<=100000000)(hx:okK (0,txt))
  (hm:NMem w (.mk k txt (a::r)) nb) (h:StoM ar ad X rk σ w) (ht:Tab ad tb ρ w) (hX:∀b,X b->b<w.heap.size) (hg:σ.given=[]) :
  Calls prog 32 #[.map (some tb),ptrV nb] w (TdA ar ad X ρ tb (declT ρ (.mk k txt (a::r)) σ) w):=by
 have hI:∀yb,ExIH ar tb yb (a.ht+1) a:=fun yb=>expression_anyC ha (a.ht+1) a hc (lt_succ_self _)
 have hm1:NMem (w.alloc (.cells #[.map (some tb),.int .i64 (0:Nat),.slice none 0 0] tyTyping)) (.mk k txt (a::r)) nb:=NMem.kept (fun k c f hc=>Below.heap_alloc _ _ _ (lt_of_heap hc)) (fun k c f hc=>Below.heap_alloc _ _ _ (lt_of_heap hc)) _ nb hm
 obtain⟨g,cap,bl,hp,hms,_⟩:=hm1.pt (by simp)
 obtain⟨ba,bl',rfl,ma,_⟩:=NMems.cons_inv hms
 have hg0:σ.given.length+a.sz<=100000000:=by rw[hg];simpa using hsz
 rcases hk with rfl|rfl|rfl
 ·rw[declT_do]
  refine typeDeclaration_of h ht hX hg fun hy=>?_
  refine declaration_do ha.unit hy hp fun u hk hyu=>?_
  exact(hI _).want ha q1 q2 h1 h2 h3 (by omega) (hy.tree hk ma) hyu hg0 (new_lt _ _)
 ·rw[declT_val (by decide),show ((6:Nat)==7)=false from rfl,boundT_let]
  refine typeDeclaration_of h ht hX hg fun hy=>?_
  exact declaration_val (by decide) (by decide) hy hp (lt_succ_self a.ht) ma (bound_let (hI _) q1 q2 h1 h2 h3 (by omega) hp ma hy hg0)
 ·rw[declT_val (by decide),show ((7:Nat)==7)=true from rfl,boundT_rec]
  refine typeDeclaration_of h ht hX hg fun hy=>?_
  exact declaration_val (by decide) (by decide) hy hp (lt_succ_self a.ht) ma (bound_rec ha (hI _) q1 q2 h1 h2 h3 (by omega) hx hp ma hy hg0)
end
section
variable {ad:List Nat}{rk:Nat->Nat}{p:PS}{tb pb:Nat}{dv bv:Value}{w w':World}{nb:Nat}
theorem declare_anyC{a b:List Nd}{nd:Nd}(h18:nd.k≠18)(hc:NoCM nd)(hf:∀d∈a++nd::b,DeclFine d)(hE:EsOk (arOf (a++nd::b)) p.env a)(h:PsM (arOf (a++nd::b)) ad rk p tb pb dv bv w)(hm:NMem w nd nb)(hnb:p.binds.length<=1000000) :
  Calls prog 12 #[ptrV pb,ptrV nb] w (DcA (arOf (a++nd::b)) ad tb pb dv bv (declare p nd) w):=by
 have hd:=hf nd (mem_append.2 (inr mem_cons_self))
 have ha:=arOf_ok hf
 generalize arOf (a++nd::b)=ar at *
 obtain⟨k,txt,ps⟩:=nd
 have hok:DeclOk k txt ps:=hd.ok
 have hk4:=hok.kind
 refine declare_of h hm ⟨show 0<3 by decide,hok.text⟩ hnb (by omega) (lookNames_anyC h18 hc hok h.tab hm) (fun he hk u hu hs ht=>?_) (fun he hk u hu ht=>?_)
 ·obtain⟨c,r,hps,hx,hht,hsz⟩:=hd.val hk
  have hps:ps=c::r:=hps
  subst hps
  have hfn:=lkErr_zero he
  have hmu:NMem u (.mk k txt (c::r)) nb:=NMem.kept (fun q cc f hc=>hu.block q (lt_of_heap hc) (h.not_tb hc)) (fun q cc f hc=>hu.block q (lt_of_heap hc) (h.not_tb hc)) _ nb hm
  refine typeDecl_anyC ha (hc.sub (by simp[Nd.ps])) (m:=c.ht+1) (m2:=c.ht+1) (by omega) ?_ (lt_succ_self _) (lt_succ_self _) (hx _) hE.b hht hsz ⟨show 0<3 by decide,hok.text⟩ hmu hs ht (fun _ hf=>hf.elim) h.giv
  by_cases h7:k=7
  ·subst h7
   rw[lkD_rec]at hfn
   rw[if_pos rfl]
   exact(lkE_fine _ _ _ _ hfn).2
  ·rw[lkD_val hk h7]at hfn
   rw[if_neg h7]
   exact(lkE_fine _ _ _ _ hfn).2
 ·exact absurd hk h18
end
end Go.Proofs.YtbkiipiocpnnnaaGreatDoor
