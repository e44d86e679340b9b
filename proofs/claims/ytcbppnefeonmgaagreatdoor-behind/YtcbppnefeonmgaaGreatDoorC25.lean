import Derived.Test.YtcbppnefeonmgaaGreatDoorC22
import Derived.Test.YtcbppnefeonmgaaGreatDoorC24
import Derived.Deep.RegionLaw
set_option linter.all false
set_option maxHeartbeats 40000000
set_option maxRecDepth 100000
open Go.Proofs.Tryz
open Or (inl inr)
open Option (map_eq_some_iff)
open Nat (le_refl le_trans zero_le lt_of_lt_of_le)
open List (append_nil length_append length_cons mem_append mem_singleton mem_cons length_nil map_cons)
namespace Go.Proofs.YtcbppnefeonmgaaGreatDoor
open Go.RowKit
theorem step_append_bg{ops:Array Oper}{o:Oper}{a:Act}{w:World}{K:Act->World->Prop}{Q:Exit->Act->World->Prop}{E:Prop}(hgd:o.guard=none)(s x:Operand)
  (ho:o.op=.call { callee:=.builtin .append,args:=#[s,x],argTypes:=#[42,42] }) {base:Nat}{v:Value}{n:Nat}{xs:List Value} (sn:ByteArray) (k:Nat)
  (hown:w.ownsRow base tyBg 2 v n xs) (hn:n<=100000000) (hb:base<=w.heap.size) (hs:a.eval s=v) (hx:a.eval x=.slice (some ⟨w.heap.size,0,none⟩) 1 1)
  (h:∀v' w',w'.ownsRow base tyBg 2 v' (n+1) (xs++[.string sn,ptrV k])->(w.alloc (.cells #[.string sn,.pointer (some ⟨k,0,none⟩)] tyBg)).grownBy w' v.ownBlock->Hid (∀g,v'.ownBlock=some g->v.ownBlock=some g\/w.heap.size<g)->K (a.put o.dst v') w') :
  if Region.wanted o (yielded ops a.tmps)=true then Oper.wp prog o a (w.alloc (.cells #[.string sn,.pointer (some ⟨k,0,none⟩)] tyBg)) K Q else E:=by
 have hw:Region.wanted o (yielded ops a.tmps)=true:=by simp[Region.wanted,hgd]
 rw[if_pos hw]
 obtain⟨v',w',hr,h2,h3,h4,_⟩:=run_append_bg (ty:=o.type) sn k hown hn hb
 unfold Oper.wp execOp
 simp only[ho,resolve,invoke,builtin,Sem.run_bind,Sem.run_pure,Result.andThen_ok,List.map_toArray,map_cons,List.map_nil,hs,hx,hr]
 exact h v' w' h2 h3 h4
section
variable {ar:Nm->Nat}{ad:List Nat}{Y:Nat->Prop}{rk:Nat->Nat}{σ:TS}{vs:List (Nm×Nat)}{ρ:Env}{tb yb d:Nat}{gv vv:Value}{w w':World}{nb:Nat}{txt:Nm}{rb:Nat}
theorem YM.keptT(h:YM ar ad Y rk σ ρ tb yb d gv w)(hc:∀(k:Nat)(c:Array Value)(t:TypeId)(f:Nat×Nat),w.heap[k]?=some (.cells c t f)->t≠tyBg->t≠tyRT->w'.heap[k]?=w.heap[k]?)(ht:w'.heap[tb]?=w.heap[tb]?)(hs:w.heap.size<=w'.heap.size):YM ar ad Y rk σ ρ tb yb d gv w':=by
 refine⟨h.sto.kept (fun k hk=>?_) (fun k c f _ hk=>hc k c _ f hk (by decide) (by decide)),?_,?_,ownsRow_kept h.giv fun k c f _ hk=>hc k c _ f hk (by decide) (by decide),fun b hb=>lt_of_lt_of_le (h.yok b hb) hs⟩
 ·obtain⟨c,f,hc2⟩:=h.sto.isT hk
  exact hc k c _ f hc2 (by decide) (by decide)
 ·have:=h.tab.kept (l:=[]) ht (fun k c f hk=>hc k c _ f hk (by decide) (by decide)) (fun k c f hk=>hc k c _ f hk (by decide) (by decide)) (fun k c f hk=>hc k c _ f hk (by decide) (by decide))
  rw[append_nil]at this;exact this
 ·rw[hc _ _ _ _ h.typ (by decide) (by decide)];exact h.typ
theorem AnCT.newOne{o:Obj}{σ':TS}(h:YM ar ad Y rk σ ρ tb yb d gv w)(he:EP 0 rb yb (σ,vs) vv ad w)(h':YM ar (ad++[w.heap.size]) Y rk σ' ρ tb yb d gv (w.alloc o))(hn:σ'.nodes.length=σ.nodes.length+1)(hg:σ'.given=σ.given) :
  AnCT Prod.fst (EP 1 rb yb) rb ar ad Y ρ tb yb d gv vv (some (σ.nodes.length,(σ',vs))) w (.returned (ptrV w.heap.size)) (w.alloc o):=by
 refine⟨(Kn.refl _ w).alloc _,inr ⟨_,_,[w.heap.size],rk,gv,vv,rfl,by rw[h.new1],by show σ.nodes.length<σ'.nodes.length;omega,h',?_,fun b hb=>by rw[mem_singleton.1 hb];exact le_refl _,fun b hb=>inl hb,fun b hb=>inl hb⟩⟩
 exact he.stays [w.heap.size] (τ:=σ') (c':=1) ((Kn.refl (fun _=>False) w).alloc _) (fun _ hf=>hf.elim) (by show σ.given.length+0<=σ'.given.length+1;rw[hg];omega)
theorem AnCT.more{o:Option (Nat×(TS×List (Nm×Nat)))}{e:Ending}(ha:AnCT Prod.fst (EP 0 rb yb) rb ar ad Y ρ tb yb d gv vv o w e w'):AnCT Prod.fst (EP 1 rb yb) rb ar ad Y ρ tb yb d gv vv o w e w':=by
 refine⟨ha.1,?_⟩
 rcases ha.2 with h|⟨t,s',l,rk',gv',vv',a1,a2,a3,a4,a5,a6⟩
 ·exact inl h
 ·exact inr ⟨t,s',l,rk',gv',vv',a1,a2,a3,a4,⟨a5.1,a5.2.1,a5.2.2.1,by have:=a5.2.2.2;omega⟩,a6⟩
theorem pat_wild(h:YM ar ad Y rk σ ρ tb yb d gv w)(he:EP 0 rb yb (σ,vs) vv ad w)(hk:w.cell? ⟨nb,0,none⟩=some (.int .i64 (4:Nat))) :
  Calls prog 232 #[ptrV rb,ptrV nb] w (AnCT Prod.fst (EP 1 rb yb) rb ar ad Y ρ tb yb d gv vv (some (σ.nodes.length,((σ.letter d).2,vs))) w):=by
 have hc:=(yletter_any h).mono (R':=fun e w'=>e=.returned (ptrV w.heap.size)/\AnCT Prod.fst (EP 1 rb yb) rb ar ad Y ρ tb yb d gv vv (some (σ.nodes.length,((σ.letter d).2,vs))) w (.returned (ptrV w.heap.size)) w') fun e u ha=>by
  obtain⟨rfl,rfl⟩:=ha
  exact⟨rfl,AnCT.newOne h he (h.letter d) (by simp[TS.letter,TS.new]) rfl⟩
 have c0:=he.cell0
 have HC:=hide hc
 clear hc h he
 generalize AnCT Prod.fst (EP 1 rb yb) rb ar ad Y ρ tb yb d gv vv (some (σ.nodes.length,((σ.letter d).2,vs))) w=Q at *
 unfold ptrV at *
 go_enter func232,ntmps232
 go_wp2_with fail
 refine(HC.out).mono ?_;rintro e u⟨rfl,hq⟩
 have HG:=hide hq
 clear hq HC
 go_wp2
 exact HG.out
theorem pat_plain0(h0:ar intN=0)(h:YM ar ad Y rk σ ρ tb yb d gv w)(he:EP 0 rb yb (σ,vs) vv ad w)(hk:w.cell? ⟨nb,0,none⟩=some (.int .i64 (0:Nat))) :
  Calls prog 232 #[ptrV rb,ptrV nb] w (AnCT Prod.fst (EP 1 rb yb) rb ar ad Y ρ tb yb d gv vv (some (σ.nodes.length,((σ.named intN []).2,vs))) w):=by
 have hc:=(plainType0 hk).mono (R':=fun e w'=>e=.returned (ptrV w.heap.size)/\AnCT Prod.fst (EP 1 rb yb) rb ar ad Y ρ tb yb d gv vv (some (σ.nodes.length,((σ.named intN []).2,vs))) w (.returned (ptrV w.heap.size)) w') fun e u ha=>by
  obtain⟨rfl,rfl⟩:=ha
  exact⟨rfl,AnCT.newOne h he (h.plain h0) (by simp[TS.named,TS.new]) rfl⟩
 have HC:=hide hc
 clear hc h he
 generalize AnCT Prod.fst (EP 1 rb yb) rb ar ad Y ρ tb yb d gv vv (some (σ.nodes.length,((σ.named intN []).2,vs))) w=Q at *
 unfold ptrV at *
 go_enter func232,ntmps232
 go_wp2_with fail
 refine(HC.out).mono ?_;rintro e u⟨rfl,hq⟩
 have HG:=hide hq
 clear hq HC
 go_wp2
 exact HG.out
theorem pat_plain1(h0:ar boolN=0)(h:YM ar ad Y rk σ ρ tb yb d gv w)(he:EP 0 rb yb (σ,vs) vv ad w)(hk:w.cell? ⟨nb,0,none⟩=some (.int .i64 (1:Nat))) :
  Calls prog 232 #[ptrV rb,ptrV nb] w (AnCT Prod.fst (EP 1 rb yb) rb ar ad Y ρ tb yb d gv vv (some (σ.nodes.length,((σ.named boolN []).2,vs))) w):=by
 have hc:=(plainType1 hk).mono (R':=fun e w'=>e=.returned (ptrV w.heap.size)/\AnCT Prod.fst (EP 1 rb yb) rb ar ad Y ρ tb yb d gv vv (some (σ.nodes.length,((σ.named boolN []).2,vs))) w (.returned (ptrV w.heap.size)) w') fun e u ha=>by
  obtain⟨rfl,rfl⟩:=ha
  exact⟨rfl,AnCT.newOne h he (h.plain h0) (by simp[TS.named,TS.new]) rfl⟩
 have HC:=hide hc
 clear hc h he
 generalize AnCT Prod.fst (EP 1 rb yb) rb ar ad Y ρ tb yb d gv vv (some (σ.nodes.length,((σ.named boolN []).2,vs))) w=Q at *
 unfold ptrV at *
 go_enter func232,ntmps232
 go_wp2_with fail
 refine(HC.out).mono ?_;rintro e u⟨rfl,hq⟩
 have HG:=hide hq
 clear hq HC
 go_wp2
 exact HG.out
theorem pat_plain2(h0:ar unitN=0)(h:YM ar ad Y rk σ ρ tb yb d gv w)(he:EP 0 rb yb (σ,vs) vv ad w)(hk:w.cell? ⟨nb,0,none⟩=some (.int .i64 (2:Nat))) :
  Calls prog 232 #[ptrV rb,ptrV nb] w (AnCT Prod.fst (EP 1 rb yb) rb ar ad Y ρ tb yb d gv vv (some (σ.nodes.length,((σ.named unitN []).2,vs))) w):=by
 have hc:=(plainType2 hk).mono (R':=fun e w'=>e=.returned (ptrV w.heap.size)/\AnCT Prod.fst (EP 1 rb yb) rb ar ad Y ρ tb yb d gv vv (some (σ.nodes.length,((σ.named unitN []).2,vs))) w (.returned (ptrV w.heap.size)) w') fun e u ha=>by
  obtain⟨rfl,rfl⟩:=ha
  exact⟨rfl,AnCT.newOne h he (h.plain h0) (by simp[TS.named,TS.new]) rfl⟩
 have HC:=hide hc
 clear hc h he
 generalize AnCT Prod.fst (EP 1 rb yb) rb ar ad Y ρ tb yb d gv vv (some (σ.nodes.length,((σ.named unitN []).2,vs))) w=Q at *
 unfold ptrV at *
 go_enter func232,ntmps232
 go_wp2_with fail
 refine(HC.out).mono ?_;rintro e u⟨rfl,hq⟩
 have HG:=hide hq
 clear hq HC
 go_wp2
 exact HG.out
theorem pat_var(h:YM ar ad Y rk σ ρ tb yb d gv w)(he:EP 0 rb yb (σ,vs) vv ad w)(hk:w.cell? ⟨nb,0,none⟩=some (.int .i64 (3:Nat)))(ht:w.cell? ⟨nb,1,none⟩=some (.string (bs txt)))(hn:vs.length<=100000000) :
  Calls prog 232 #[ptrV rb,ptrV nb] w (AnCT Prod.fst (EP 1 rb yb) rb ar ad Y ρ tb yb d gv vv (some (σ.nodes.length,((σ.letter d).2,vs++[(txt,σ.nodes.length)]))) w):=by
 obtain⟨e1,e2,e3,e4⟩:=he
 have hL:=yletter_any h
 have h1:=h.letter d
 have hnew:=h.new1
 generalize hw0:w.alloc (.cells #[.string (bs []),.slice none 0 0,.pointer none,.int .i64 d] tyType)=w0 at *
 have h1:=h1.drew
 generalize hw1:w0.drew=w1 at *
 have hk1:Kn (fun _=>False) w w1:=by rw[<- hw1,<- hw0];exact((Kn.refl _ _).alloc _).drew
 have hrb:rb<w.heap.size:=lt_of_heap e1
 have e1':w1.heap[rb]?=some (.cells #[ptrV yb,vv] tyRT (0,0)):=(hk1.block rb hrb fun h=>h).trans e1
 have hown:w1.ownsRow 0 tyBg 2 vv vs.length (bgCells ad vs):=ownsRow_kept e2 fun q c f _ hc=>hk1.block q (lt_of_heap hc) fun h=>h
 have c0:w.cell? ⟨rb,0,none⟩=some (ptrV yb):=by simp[World.cell?,e1]
 have c1:w1.cell? ⟨rb,1,none⟩=some vv:=by simp[World.cell?,e1']
 have ct:w1.cell? ⟨nb,1,none⟩=some (.string (bs txt)):=by
  have:w1.heap[nb]?=w.heap[nb]?:=hk1.block nb (by
   cases hh:w.heap[nb]? with
   |none=>simp[World.cell?,hh]at ht
   |some o=>exact lt_of_heap hh) fun h=>h
  unfold World.cell? at ht ⊢;rw[this];exact ht
 have hrb1:rb<w1.heap.size:=lt_of_heap e1'
 have hfin:∀v' w2,w2.ownsRow 0 tyBg 2 v' (vs.length+1) (bgCells ad vs++[.string (bs txt),ptrV w.heap.size])->(w1.alloc (.cells #[.string (bs txt),.pointer (some ⟨w.heap.size,0,none⟩)] tyBg)).grownBy w2 vv.ownBlock->(∀g,v'.ownBlock=some g->vv.ownBlock=some g\/w1.heap.size<g) ->
   w2.frozen? ⟨rb,1,none⟩=false/\w2.cell? ⟨rb,1,none⟩=some vv/\AnCT Prod.fst (EP 1 rb yb) rb ar ad Y ρ tb yb d gv vv (some (σ.nodes.length,((σ.letter d).2,vs++[(txt,σ.nodes.length)]))) w (.returned (ptrV w.heap.size)) (w2.setCell ⟨rb,1,none⟩ v'):=by
  intro v' w2 ho hg hl
  have hsz:w1.heap.size<=w2.heap.size:=le_trans (by rw[alloc_size];omega) hg.size
  have hne:∀k,k<w1.heap.size->vv.ownBlock≠some k->w2.heap[k]?=w1.heap[k]?:=fun k hk hn=>by
   rw[hg.block k (by rw[alloc_size];omega) (fun e=>hn e.symm),Below.heap_alloc _ _ _ hk]
  have hty:∀(k:Nat)(c:Array Value)(t:TypeId)(f:Nat×Nat),w1.heap[k]?=some (.cells c t f)->t≠tyBg->w2.heap[k]?=w1.heap[k]?:=fun k c t f hc ht=>hne k (lt_of_heap hc) fun e=>by
   obtain⟨c2,h2⟩:=own_cells hown e
   rw[hc]at h2;exact ht (cells_ty h2)
  have hr2:w2.heap[rb]?=some (.cells #[ptrV yb,vv] tyRT (0,0)):=(hty rb _ _ _ e1' (by decide)).trans e1'
  have hset:∀k,k≠rb->(w2.setCell ⟨rb,1,none⟩ v').heap[k]?=w2.heap[k]?:=fun k hk=>Below.heap_setCell _ _ _ _ hk
  have htb:(w2.setCell ⟨rb,1,none⟩ v').heap[tb]?=w1.heap[tb]?:=by
   obtain⟨n,f,⟨es,cl,hm,_⟩,_⟩:=h1.tab
   rw[hset tb (fun e=>by subst e;rw[e1']at hm;cases hm),hne tb h1.tb_lt (fun e=>by
    obtain⟨c2,h2⟩:=own_cells hown e
    rw[hm]at h2;cases h2)]
  have hy:=h1.keptT (w':=w2.setCell ⟨rb,1,none⟩ v') (fun k c t f hc ht1 ht2=>by
   rw[hset k (fun e=>by subst e;rw[e1']at hc;exact ht2 (cells_ty hc).symm)];exact hty k c t f hc ht1) htb (by simpa [World.setCell]using hsz)
  have hkn:Kn (DmC ad tb yb gv rb vv) w (w2.setCell ⟨rb,1,none⟩ v'):=by
   have k1:Kn (DmC ad tb yb gv rb vv) w w1:=hk1.wide fun _ _ h=>h.elim
   exact((k1.alloc _).grown hg (fun k hk=>inl (inr (inr hk)))).set (p:=⟨rb,1,none⟩) (inl (inr (inl rfl))) _
  refine⟨frozen_of_row _ _ _ _ _ hr2,by simp[World.cell?,hr2],hkn,inr ⟨_,_,[w.heap.size],rk,gv,v',rfl,by rw[hnew],by simp[TS.letter,TS.new],hy,⟨?_,?_,?_,?_⟩,fun b hb=>by rw[mem_singleton.1 hb];exact le_refl _,fun b hb=>inl hb,fun b hb=>?_⟩⟩
  ·rw[heap_setCell_same _ _ _ _ _ _ hr2];rfl
  ·show (w2.setCell ⟨rb,1,none⟩ v').ownsRow 0 tyBg 2 v' (vs++[(txt,σ.nodes.length)]).length (bgCells (ad++[w.heap.size]) (vs++[(txt,σ.nodes.length)]))
   rw[bgCells_snoc,bgCells_app _ e3,length_append]
   show (w2.setCell ⟨rb,1,none⟩ v').ownsRow 0 tyBg 2 v' (vs.length+1) (bgCells ad vs++[.string (bs txt),adV (ad++[w.heap.size]) σ.nodes.length])
   rw[hnew]
   exact ownsRow_kept ho fun q c f hq hc=>hset q fun e=>by subst e;rw[hr2]at hc;exact absurd (cells_ty hc) (by decide)
  ·intro x hx
   rcases mem_append.1 hx with hx|hx
   ·have:=e3 x hx;rw[length_append];omega
   ·rw[mem_singleton.1 hx,length_append,h.len];simp
  ·show (vs++[(txt,σ.nodes.length)]).length<=σ.given.length+1
   have e4:vs.length<=σ.given.length+0:=e4
   rw[length_append];simp only[length_cons,length_nil];omega
  ·rcases hl b hb with h2|h2
   ·exact inl h2
   ·have:=hk1.size;exact inr (by omega)
 have hforms:=ownsRow_forms hown
 have HL:=hide hL
 have HFIN:=hide hfin
 clear hL hfin h h1 e1 e2 e3 e4 hnew hk1 ht e1'
 generalize AnCT Prod.fst (EP 1 rb yb) rb ar ad Y ρ tb yb d gv vv (some (σ.nodes.length,((σ.letter d).2,vs++[(txt,σ.nodes.length)]))) w=Q at *
 generalize bgCells ad vs=cs at *
 generalize vs.length=vn at *
 generalize bs txt=tx at *
 obtain⟨av,kv,cv,rfl⟩:∃a k c,vv=.slice a k c:=by
  rcases hforms with⟨h,_⟩|⟨g,cap,h⟩
  ·exact⟨_,_,_,h⟩
  ·exact⟨_,_,_,h⟩
 clear hforms
 unfold ptrV at *
 go_enter func232,ntmps232
 go_wp2_with fail
 refine(HL.out).mono ?_;rintro e u⟨rfl,hu⟩
 subst hu
 clear HL hw0
 subst hw1
 have c1u:u.cell? ⟨rb,1,none⟩=some (.slice av kv cv):=c1
 have ctu:u.cell? ⟨nb,1,none⟩=some (.string tx):=ct
 have c1b:(u.alloc (.cells #[.string tx,.pointer (some ⟨w.heap.size,0,none⟩)] 49)).cell? ⟨rb,1,none⟩=some (.slice av kv cv):=cell_alloc_old c1u
 have ctb:(u.alloc (.cells #[.string tx,.pointer (some ⟨w.heap.size,0,none⟩)] 49)).cell? ⟨nb,1,none⟩=some (.string tx):=cell_alloc_old ctu
 go_wp2_with fail
 go_region_law (refine step_append_bg rfl _ _ rfl tx w.heap.size hown hn (zero_le _) (by simp[Act.eval,Act.put]) (by simp[Act.eval,Act.put]) ?_;intro v' w2 ho hg HL;obtain⟨hfr,hc1,hq⟩:=HFIN.out v' w2 ho hg HL.out;have HG:=hide hq;obtain⟨g',cap',rfl⟩:∃g' cap',v'=.slice (some ⟨g',0,none⟩) (vn+1) cap':=(by rcases ownsRow_forms ho with⟨_,hn0⟩|h;(focus (simp at hn0));exact h);clear hq ho hg HL)
 all_goals
  go_wp2
  exact HG.out
end
structure ArOk(ar:Nm->Nat):Prop where
 le:∀nm,ar nm<=1000000
 arrow:ar arrowN=2
 int:ar intN=0
 bool:ar boolN=0
 unit:ar unitN=0
 ref:ar refN=1
theorem Enters.rexpect:Enters 222:=enters func222 (by kernel_rfl) rfl
theorem Enters.expect:Enters 116:=enters func116 (by kernel_rfl) rfl
def PtOk(ar:Nm->Nat)(ρ:Env)(p:Nd):Prop:=
 ∀x∈p.all,x.txt.length<=100000000/\x.ps.length<=1000000/\(x.k<=4\/x.k=14)/\(x.k=14->∃m,ρ.get (1,x.txt)=some m/\ConIn ar m x.ps.length)
section
variable {ar:Nm->Nat}{ad:List Nat}{Y:Nat->Prop}{rk:Nat->Nat}{σ:TS}{vs:List (Nm×Nat)}{ρ:Env}{tb yb d:Nat}{gv vv:Value}{w w':World}{nb:Nat}{txt:Nm}{rb:Nat}
theorem PtOk.part{k:Nat}{ps:List Nd}{p:Nd}(h:PtOk ar ρ (.mk k txt ps))(hp:p∈ps):PtOk ar ρ p:=fun x hx=>h x (all_part hp hx)
theorem unify_given{σ σ':TS}{a b:Nat}(h:σ.unify a b=some σ'):σ'.given=σ.given:=by
 unfold TS.unify at h
 obtain⟨r,hr,rfl⟩:=map_eq_some_iff.1 h
 exact(un_same _ _ _ _ _ _ _ hr).1.given
theorem conGo_given{S:Type}{get:S->TS}{put:S->TS->S}(hgp:∀s τ,get (put s τ)=τ){ex:Nd->Nat->S->Option S}{ch:List (Nm×Nat)}:∀(l:List (Nd×Nd)) (s s':S),(∀p∈l.map Prod.fst,∀want s s',ex p want s=some s'->(get s').given.length<=(get s).given.length+p.sz)->conT.go get put ex ch l s=some s'->(get s').given.length<=(get s).given.length+Nd.sz.szs (l.map Prod.fst):=by
 intro l
 induction l with
 |nil=>intro s s' _ h;rw[conT.go]at h;cases h;simp
 |cons a r ih=>
  intro s s' hp h
  obtain⟨p,q⟩:=a
  rw[conT.go]at h
  split at h
  ·rename_i s1 hs1
   have h1:=hp p (by simp) _ _ _ hs1
   rw[hgp,(written_ext _ q (get s) (ch:=ch)).given]at h1
   have h2:=ih s1 s' (fun p hp2=>hp p (by simp only[map_cons,mem_cons];exact inr hp2)) h
   rw[map_cons,Nd.sz.szs]
   show (get s').given.length<=(get s).given.length+(p.sz+_)
   omega
  ·cases h
theorem conT_given{S:Type}{get:S->TS}{put:S->TS->S}(hgp:∀s τ,get (put s τ)=τ){ρ:Env}{ex:Nd->Nat->S->Option S}{ps:List Nd}{s:S}{t:Nat}{s':S}(hp:∀p∈ps,∀want s s',ex p want s=some s'->(get s').given.length<=(get s).given.length+p.sz)(h:conT get put ρ d txt ps ex s=some (t,s')):(get s').given.length<=(get s).given.length+Nd.sz.szs ps:=by
 unfold conT at h
 split at h
 ·cases h
 ·rename_i m hm
  simp only at h
  split at h
  ·rename_i s1 hs1
   cases h
   have hsub:∀p∈(ps.zip m.vr.parts).map Prod.fst,p∈ps:=fun p hp=>by
    obtain⟨q,hq,rfl⟩:=List.mem_map.1 hp
    exact(List.of_mem_zip hq).1
   have h1:=conGo_given hgp _ _ _ (fun p hp2=>hp p (hsub p hp2)) hs1
   rw[hgp,(lettersFor_ext d m.vr.letters (get s)).given]at h1
   have h2:Nd.sz.szs ((ps.zip m.vr.parts).map Prod.fst)<=Nd.sz.szs ps:=by
    have:∀(a:List Nd)(b:List Nd),Nd.sz.szs ((a.zip b).map Prod.fst)<=Nd.sz.szs a:=by
     intro a
     induction a with
     |nil=>intro b;simp
     |cons x r ih=>
      intro b
      cases b with
      |nil=>simp[Nd.sz.szs]
      |cons y b=>simp only[List.zip_cons_cons,map_cons,Nd.sz.szs];have:=ih b;omega
    exact this _ _
   rw[hgp]
   show (get s1).given.length<=_
   omega
  ·cases h
theorem patX_given{g:Nd->TS×List (Nm×Nat)->Option (Nat×(TS×List (Nm×Nat)))}{p:Nd}(hg:∀s t s',g p s=some (t,s')->s'.1.given.length+1<=s.1.given.length+p.sz){want:Nat}{s s':TS×List (Nm×Nat)}(h:patT.patX g p want s=some s'):s'.1.given.length<=s.1.given.length+p.sz:=by
 unfold patT.patX at h
 split at h
 ·rename_i t s1 hs1
  obtain⟨σ2,h2,rfl⟩:=map_eq_some_iff.1 h
  have:=hg _ _ _ hs1
  show σ2.given.length<=_
  rw[unify_given h2]
  simp only[TS.give,length_append,length_cons,length_nil]
  omega
 ·cases h
theorem patT_given:∀(n:Nat) (p:Nd) (s:TS×List (Nm×Nat)) (t:Nat) (s':TS×List (Nm×Nat)),patT ρ d n p s=some (t,s')->s'.1.given.length+1<=s.1.given.length+p.sz:=by
 intro n
 induction n with
 |zero=>intro p s t s' h;cases h
 |succ n ih=>
  intro p s t s' h
  obtain⟨k,txt,ps⟩:=p
  rw[patT]at h
  split at h
  ·cases h;simp[TS.letter,TS.new,Nd.sz]
  ·split at h
   ·cases h;simp[TS.letter,TS.new,Nd.sz]
   ·split at h
    ·have h1:=conT_given (get:=Prod.fst) (put:=fun s τ=>(τ,s.2)) (fun _ _=>rfl) (fun p _ want s s' hx=>patX_given (fun s t s'=>ih p s t s') hx) h
     rw[Nd.sz]
     omega
    ·cases h;simp[TS.named,TS.new,Nd.sz]
theorem pat_con{o:Option (Nat×(TS×List (Nm×Nat)))}(he:EP 0 rb yb (σ,vs) vv ad w)(hk:w.cell? ⟨nb,0,none⟩=some (.int .i64 (14:Nat)))
  (hC:∀u,Kn (fun _=>False) w u->Calls prog 182 #[ptrV yb,ptrV nb,.func (.func 222) #[ptrV rb] #[]] u (AnCT Prod.fst (EP 0 rb yb) rb ar ad Y ρ tb yb d gv vv o u)) :
  Calls prog 232 #[ptrV rb,ptrV nb] w (AnCT Prod.fst (EP 1 rb yb) rb ar ad Y ρ tb yb d gv vv o w):=by
 have hch:∀u,Kn (fun _=>False) w u->Calls prog 182 #[ptrV yb,ptrV nb,.func (.func 222) #[ptrV rb] #[]] u fun e u2=>(e=noTy/\AnCT Prod.fst (EP 1 rb yb) rb ar ad Y ρ tb yb d gv vv o w noTy u2)\/∃b,e=.returned (ptrV b)/\AnCT Prod.fst (EP 1 rb yb) rb ar ad Y ρ tb yb d gv vv o w (.returned (ptrV b)) u2:=fun u hu=>(hC u hu).mono fun e u2 ha=>by
  have hq:=AnCT.base (EP.bes 1 rb yb) hu ha.more
  rcases ha.forms with rfl|⟨b,rfl⟩
  ·exact inl ⟨rfl,hq⟩
  ·exact inr ⟨b,rfl,hq⟩
 have c0:=he.cell0
 have HC:=hide (hch w (Kn.refl _ _))
 clear hch hC he
 generalize AnCT Prod.fst (EP 1 rb yb) rb ar ad Y ρ tb yb d gv vv o w=Q at *
 unfold noTy noTypeV ptrV at *
 have hmf:∀(fn:Fn)(first cap:Array Value)(w:World),(Instr.makeFunc fn first cap).run prog w=.ok (.func fn first cap) w:=fun _ _ _ _=>rfl
 go_enter func232,ntmps232
 go_wp2_with fail
 refine(HC.out).mono ?_;rintro e u3 (⟨rfl,hp⟩|⟨b,rfl,hq⟩)
 ·exact⟨rfl,hp⟩
 have HG:=hide hq
 clear hq HC
 go_wp2
 exact HG.out
end
section
variable {ar:Nm->Nat}{ρ:Env}{tb yb d:Nat}{rb:Nat}
theorem patX_eq{g:Nd->TS×List (Nm×Nat)->Option (Nat×(TS×List (Nm×Nat)))}{p:Nd}{want:Nat}{s:TS×List (Nm×Nat)}:patT.patX g p want s=patXo (g p s) want:=by
 unfold patT.patX patXo
 cases g p s with
 |none=>rfl
 |some r=>rfl
theorem rexpect_from(ha:ArOk ar){n:Nat}{p:Nd}{bp want:Nat}{Y:Nat->Prop}{ad:List Nat}{rk:Nat->Nat}{s:TS×List (Nm×Nat)}{gv vv:Value}{u:World}(hm:NMem u p bp)(h:YM ar ad Y rk s.1 ρ tb yb d gv u)(he:EP 0 rb yb s vv ad u)(hb:s.1.given.length+p.sz<=100000000)(hw:want<s.1.nodes.length)
  (hP:∀u',NMem u' p bp->YM ar ad Y rk s.1 ρ tb yb d gv u'->EP 0 rb yb s vv ad u'->Calls prog 232 #[ptrV rb,ptrV bp] u' (AnCT Prod.fst (EP 1 rb yb) rb ar ad Y ρ tb yb d gv vv (patT ρ d n p s) u')) :
  Calls prog 222 #[ptrV rb,ptrV bp,adV ad want] u (AnC Prod.fst (EP 0 rb yb) rb ar ad Y ρ tb yb d gv vv (patT.patX (patT ρ d n) p want s) u):=by
 rw[patX_eq]
 refine rexpect_of ha.le (fun t s' hs=>?_) h he hw fun u' hu=>?_
 ·have:=patT_given n p s t s' hs
  omega
 ·refine hP u' (NMem.kept (fun k c f hc=>hu.block k (lt_of_heap hc) fun h=>h) (fun k c f hc=>hu.block k (lt_of_heap hc) fun h=>h) p bp hm) (h.stays hu) ?_
  have:=he.stays [] (τ:=s.1) (c':=0) hu (fun _ hf=>hf.elim) (le_refl _)
  rw[append_nil]at this
  exact this
theorem patterns_any(ha:ArOk ar):∀(n:Nat)(p:Nd),p.ht<n->PtOk ar ρ p->∀(bp:Nat) (Y:Nat->Prop) (ad:List Nat) (rk:Nat->Nat) (s:TS×List (Nm×Nat)) (gv vv:Value) (u:World),NMem u p bp->YM ar ad Y rk s.1 ρ tb yb d gv u->EP 0 rb yb s vv ad u->s.1.given.length+p.sz<=100000000 ->
  Calls prog 232 #[ptrV rb,ptrV bp] u (AnCT Prod.fst (EP 1 rb yb) rb ar ad Y ρ tb yb d gv vv (patT ρ d n p s) u):=by
 intro n
 induction n with
 |zero=>intro p h;omega
 |succ n ih=>
  intro p hn hp bp Y ad rk s gv vv u hm h he hb
  obtain⟨k,txt,ps⟩:=p
  obtain⟨σ,vs⟩:=s
  obtain⟨pv,bl,n1,n2,n3⟩:=hm.inv
  have c0:u.cell? ⟨bp,0,none⟩=some (.int .i64 k):=by simp[World.cell?,n1]
  have c1:u.cell? ⟨bp,1,none⟩=some (.string (bs txt)):=by simp[World.cell?,n1]
  obtain⟨hp1,hp2,hp3,hp4⟩:=hp _ (all_self _)
  have hp1:txt.length<=100000000:=hp1
  have hp2:ps.length<=1000000:=hp2
  have hp3:k<=4\/k=14:=hp3
  have hp4:k=14->∃m,ρ.get (1,txt)=some m/\ConIn ar m ps.length:=hp4
  have hb:σ.given.length+(Nd.sz.szs ps+1)<=100000000:=hb
  have hks:k=0\/k=1\/k=2\/k=3\/k=4\/k=14:=by omega
  rw[patT]
  rcases hks with rfl|rfl|rfl|rfl|rfl|rfl
  ·exact pat_plain0 ha.int h he c0
  ·exact pat_plain1 ha.bool h he c0
  ·exact pat_plain2 ha.unit h he c0
  ·have e4:vs.length<=σ.given.length+0:=he.2.2.2
   have hvl:vs.length<=100000000:=by omega
   exact pat_var h he c0 c1 hvl
  ·exact pat_wild h he c0
  ·obtain⟨m,hg,hci⟩:=hp4 rfl
   rw[if_neg (by decide),if_neg (by decide),if_pos rfl]
   refine pat_con he c0 fun u' hu=>?_
   have he':EP 0 rb yb (σ,vs) vv ad u':=by
    have:=he.stays [] (τ:=σ) (c':=0) hu (fun _ hf=>hf.elim) (le_refl _)
    rw[append_nil]at this
    exact this
   refine con_of (EP.bes 0 rb yb) ha.le ha.arrow (M:=100000000) Enters.rexpect (s0:=(σ,vs)) (h.stays hu) he' (NMem.kept (fun k c f hc=>hu.block k (lt_of_heap hc) fun h=>h) (fun k c f hc=>hu.block k (lt_of_heap hc) fun h=>h) _ bp hm) ⟨show 1<3 by decide,hp1⟩ hg hci hp2 ?_ ?_ ?_
   ·intro p hpm bp Y ad rk s gv vv u want hm h he hb hw
    exact rexpect_from ha hm h he hb hw fun u' hm' h' he'=>ih p (Nd.ht_lt hpm hn) (hp.part hpm) bp Y ad rk s gv vv u' hm' h' he' hb
   ·intro p hpm want s s' hs
    exact patX_given (fun s t s'=>patT_given n p s t s') hs
   ·show σ.given.length+_<=_
    omega
theorem rexpect_any(ha:ArOk ar){n:Nat}{p:Nd}(hn:p.ht<n)(hp:PtOk ar ρ p){bp want:Nat}{Y:Nat->Prop}{ad:List Nat}{rk:Nat->Nat}{s:TS×List (Nm×Nat)}{gv vv:Value}{u:World}(hm:NMem u p bp)(h:YM ar ad Y rk s.1 ρ tb yb d gv u)(he:EP 0 rb yb s vv ad u)(hb:s.1.given.length+p.sz<=100000000)(hw:want<s.1.nodes.length) :
  Calls prog 222 #[ptrV rb,ptrV bp,adV ad want] u (AnC Prod.fst (EP 0 rb yb) rb ar ad Y ρ tb yb d gv vv (patT.patX (patT ρ d n) p want s) u):=
 rexpect_from ha hm h he hb hw fun u' hm' h' he'=>patterns_any ha n p hn hp bp Y ad rk s gv vv u' hm' h' he' hb
end
def modeOf:Ending->FrameMode
 |.returned _=>.returning
 |.panicked c=>.panicking c
 |.outgrown=>.run
def unbD(W:Nat):Deferred:={ target:=.fn (.func 155) #[.pointer (some ⟨W+4,0,none⟩),.pointer (some ⟨W+3,0,none⟩),.pointer (some ⟨W,0,none⟩),.pointer (some ⟨W+1,0,none⟩)],args:=#[] }
section
variable {ar:Nm->Nat}{ad:List Nat}{Y:Nat->Prop}{rk:Nat->Nat}{σ:TS}{ρ ρ0:Env}{tb yb d:Nat}{gv:Value}{w w0 w':World}{nb:Nat}{txt:Nm}
theorem F6.finX{x:Ky}{m:Mg}{W:Nat}{f:Ky->Option Value}{u:World}(h:YM ar ad Y rk σ ρ tb yb d gv w)(hx:okK x)(hf:∀x,okK x->(ρ.get x=none/\f x=none)\/∃m v,ρ.get x=some m/\f x=some v/\MgAt ad w m v)
  (h6:F6 ar ad Y rk σ ρ tb yb d gv x m (f x) w W u) {o:Option TS}{e:Ending}{w7:World} (ha:AnEx ar ad Y ((x,m)::ρ) tb yb d gv o u e w7) :
  ∃n7 f7,(e=noTy\/e=.returned (.tuple #[]))/\MapHas okK kyV w7 tb n7 f7/\Unb tb x (f x) W w7/\∀w8,(∃n',MapHas okK kyV w8 tb n' (fun y=>if y=x then f x else f7 y))->w7.mapTurned w8 tb->AnEx ar ad Y ρ tb yb d gv o w e w8:=by
 obtain⟨hk,ha⟩:=ha
 have hkw:Kn (Dm ad tb yb gv) w w7:=h6.kn.trans hk
 have hu7:Unb tb x (f x) W w7:=h6.unb.kept fun k hk1 hk2=>hk.block k (by have:=h6.sz;omega) fun hd=>by
  have:=h.dm_lt hd
  have:=h6.w0
  omega
 have hk8:∀w8,w7.mapTurned w8 tb->Kn (Dm ad tb yb gv) w w8:=fun w8 ht=>hkw.turned ht (inl (inr (inl rfl)))
 rcases ha with⟨h1,h2,n7,f7,h3⟩|⟨σ',l,rk',gv',h1,h2,h4,h5,h7⟩
 ·refine⟨n7,f7,inl h2,h3,hu7,fun w8 hm8 ht=>⟨hk8 w8 ht,inl ⟨h1,h2,?_⟩⟩⟩
  obtain⟨n',hm'⟩:=hm8
  exact⟨n',_,hm'⟩
 ·obtain⟨n7,f7,hm7,hf7⟩:=h4.tab
  refine⟨n7,f7,inr h2,hm7,hu7,fun w8 hm8 ht=>⟨hk8 w8 ht,inr ⟨σ',l,rk',gv',h1,h2,?_,fun b hb=>le_trans h6.kn.size (h5 b hb),fun b hb=>?_⟩⟩⟩
  ·obtain⟨n',hm'⟩:=hm8
   refine h4.unbound hx hf7 hf (fun k c t f ht2 hc=>hkw.block k (lt_of_heap hc) (h.dm_not hc ?_ ?_ ?_)) hm' ht
   ·rcases ht2 with rfl|rfl|rfl<;>decide
   ·rcases ht2 with rfl|rfl|rfl<;>decide
   ·rcases ht2 with rfl|rfl|rfl<;>decide
  ·rcases h7 b hb with h8|h8
   ·exact inl h8
   ·exact inr (le_trans h6.kn.size h8)
structure RwAt(ar:Nm->Nat)(ad:List Nat)(Y:Nat->Prop)(rk:Nat->Nat)(σ:TS)(ρ0:Env)(tb yb d:Nat)(gv:Value)(R:Option TS->Ending->World->Prop)(w0:World)(vs:List (Nm×Nat))(i:Nat)(D:List Deferred)(wr:World):Prop where
 ym:YM ar ad Y rk σ (bindTs ρ0 (vs.take i)) tb yb d gv wr
 kn:Kn (Dm ad tb yb gv) w0 wr
 lv:∀o e w7 tmps,AnEx ar ad Y (bindTs ρ0 (vs.take i)) tb yb d gv o wr e w7->Leaves prog f204 tmps (R o) D (modeOf e) w7
theorem RwAt.start{vs:List (Nm×Nat)}{R:Option TS->Ending->World->Prop}(h:YM ar ad Y rk σ ρ0 tb yb d gv w0)(hR:∀o e w',AnEx ar ad Y ρ0 tb yb d gv o w0 e w'->R o e w'):RwAt ar ad Y rk σ ρ0 tb yb d gv R w0 vs 0 [] w0:=by
 refine⟨by simpa [bindTs]using h,Kn.refl _ _,fun o e w7 tmps ha=>?_⟩
 have ha:AnEx ar ad Y ρ0 tb yb d gv o w0 e w7:=by simpa [bindTs]using ha
 rcases ha.cases with⟨_,q2,_⟩|⟨_,_,_,_,_,q2,_⟩
 ·subst q2
  simp only[noTy,modeOf,Leaves]
  exact hR _ _ _ ha
 ·subst q2
  simp only[modeOf,Leaves]
  exact⟨.tuple #[],by simp[results,results204,go_sem],hR _ _ _ ha⟩
theorem bindTs_snoc(ρ:Env)(vs:List (Nm×Nat))(x:Nm×Nat):bindTs ρ (vs++[x])=((0,x.1),Mg.var x.2)::bindTs ρ vs:=by
 unfold bindTs;rw[List.foldl_append];rfl
theorem RwAt.bind{vs:List (Nm×Nat)}{R:Option TS->Ending->World->Prop}{i:Nat}{D:List Deferred}{wr:World}{x:Nm}{t:Nat}(h:RwAt ar ad Y rk σ ρ0 tb yb d gv R w0 vs i D wr)(hi:vs[i]?=some (x,t))(hx:okK (0,x))(ht:t<σ.nodes.length){u:World}(hu:Kn (fun _=>False) wr u) :
  Calls prog 136 #[.map (some tb),.agg #[.int .i64 0,.string (bs x)],.agg #[adV ad t,.string ⟨#[]⟩,.slice none 0 0,.slice none 0 0,.int .i64 0,.int .i64 0]] u fun e u'=>e=.returned (unbV u.heap.size)/\Kn (·=tb) u u'/\RwAt ar ad Y rk σ ρ0 tb yb d gv R w0 vs (i+1) (unbD u.heap.size::D) u':=by
 have hym:=h.ym
 have hlv:=h.lv
 have htk:vs.take (i+1)=vs.take i++[(x,t)]:=by rw[List.take_add_one,hi];rfl
 have hbt:bindTs ρ0 (vs.take (i+1))=((0,x),Mg.var t)::bindTs ρ0 (vs.take i):=by rw[htk,bindTs_snoc]
 generalize bindTs ρ0 (vs.take i)=ρ at *
 obtain⟨n,f,hm,hf,hsix⟩:=hym.tab.six
 have htl:t<ad.length:=by rw[hym.len];exact ht
 have hmk:MapHas okK kyV u tb n f:=hm.kept (hu.block tb hm.lt id)
 refine(Bind_any hmk hx (fun v hv=>hsix _ hx v hv) (m:=.agg #[adV ad t,.string ⟨#[]⟩,.slice none 0 0,.slice none 0 0,.int .i64 0,.int .i64 0]) ⟨_,_,_,_,_,_,_,_,_,_,rfl⟩).mono ?_
 rintro e u'⟨e1,⟨n',e2⟩,e3,e4,e5⟩
 have hyu:=hym.stays hu
 have h6:F6 ar ad Y rk σ ρ tb yb d gv (0,x) (Mg.var t) (f (0,x)) wr u.heap.size u':=by
  refine⟨hu.size,(hu.wide fun _ _ hh=>hh.elim).trans (e5.wide fun k _ hk=>inr (inl hk)),hyu.bound hmk (fun x hx2=>?_) e2 e5 (mgVar_at htl u),e3,by omega⟩
  rcases hf x hx2 with h1|⟨m',v',h1,h2,h3⟩
  ·exact inl h1
  ·exact inr ⟨m',v',h1,h2,h3.kept (fun _ _=>rfl) (le_refl _) (fun k c f hc=>hu.block k (lt_of_heap hc) id) (fun k c f hc=>hu.block k (lt_of_heap hc) id) (fun k c f hc=>hu.block k (lt_of_heap hc) id)⟩
 refine⟨e1,e5,by rw[hbt];exact h6.ym,h.kn.trans h6.kn,fun o e w7 tmps ha=>?_⟩
 rw[hbt]at ha
 obtain⟨n7,f7,he,hm7,hu7,hq⟩:=F6.finX hym hx hf h6 ha
 unfold unbD
 rcases he with rfl|rfl
 ·refine leaves_cons (f:=155) (by simp[modeOf,noTy]) (by simp[go_sem];rfl) ?_
  refine(Bind1_end (u:=modeOf noTy) hm7 hx hu7).mono ?_
  rintro e u' w8⟨rfl,rfl,hm8,ht8⟩
  exact hlv o noTy w8 tmps (hq w8 hm8 ht8)
 ·refine leaves_cons (f:=155) (by simp[modeOf]) (by simp[go_sem];rfl) ?_
  refine(Bind1_end (u:=modeOf (.returned (.tuple #[]))) hm7 hx hu7).mono ?_
  rintro e u' w8⟨rfl,rfl,hm8,ht8⟩
  exact hlv o (.returned (.tuple #[])) w8 tmps (hq w8 hm8 ht8)
end
section
variable {ad:List Nat}{ρ ρ0:Env}{tb lb:Nat}{s s':Lk}{w w0 w':World}{nb:Nat}{txt:Nm}
theorem conLook_lb{k:Nat}{ps:List Nd}(hx:txt.length<=100000000)(h:LkAt ad ρ tb lb s w)(hn:NMem w (.mk k txt ps) nb) :
  Calls prog 139 #[ptrV lb,ptrV nb] w (LkB ad ρ tb lb (lkCon ρ (.mk k txt ps) s) w):=by
 obtain⟨pv,bl,n1,_,_⟩:=hn.inv
 have hch:∀u,Kn (fun _=>False) w u->u.cell? ⟨nb,1,none⟩=some (.string (bs txt))/\Calls prog 158 #[ptrV lb,ptrV nb,.agg #[.int .i64 (1:Nat),.string (bs txt)],.func (.func 160) #[] #[]] u fun e u2=>e=.returned (.tuple #[])/\u2.cell? ⟨nb,1,none⟩=some (.string (bs txt))/\LkB ad ρ tb lb (lkCon ρ (.mk k txt ps) s) w (.returned (.tuple #[])) u2:=fun u hu=>by
  have e1:u.heap[nb]?=w.heap[nb]?:=hu.block nb (lt_of_heap n1) id
  have hm:NMem u (.mk k txt ps) nb:=NMem.kept (fun k c f hc=>hu.block k (lt_of_heap hc) id) (fun k c f hc=>hu.block k (lt_of_heap hc) id) _ nb hn
  have hl:=h.stays hu
  refine⟨by simp[World.cell?,e1,n1],(lkCon_lb hx hl hm).mono ?_⟩
  rintro e u2⟨rfl,q1,q2⟩
  have e2:u2.heap[nb]?=u.heap[nb]?:=q2.block nb (lt_of_heap (e1.trans n1)) (fun e=>hl.not (e1.trans n1) (by decide) (inr e))
  exact⟨rfl,by simp[World.cell?,e2,e1,n1],rfl,q1,(hu.wide fun _ _ h=>h.elim).trans q2⟩
 have hal:∀u o u',Kn (fun _=>False) w u->u'=World.alloc u o->Kn (fun _=>False) w u':=fun u o u' hu e=>by
  subst e;exact hu.alloc o
 have hK:=fun(u:World)=>key1_any (bs txt) u
 have HCH:=hide hch
 have HAL:=hide hal
 have HK:=hide hK
 have HV:=hide (Kn.refl (fun _=>False) w)
 have HVD:=hide (Kn.drewF w)
 have hmf:∀(fn:Fn)(first cap:Array Value)(w:World),(Instr.makeFunc fn first cap).run prog w=.ok (.func fn first cap) w:=fun _ _ _ _=>rfl
 clear hch hal hK h hn n1
 generalize LkB ad ρ tb lb (lkCon ρ (.mk k txt ps) s) w=Q at *
 generalize Kn (fun _=>False) w=V at *
 generalize bs txt=tx at *
 unfold ptrV at *
 obtain⟨c1,_⟩:=HCH.out _ HV.out
 obtain⟨c1a,_⟩:=HCH.out _ HVD.out
 go_enter func139,ntmps139
 go_wp2_with fail
 refine(HK.out _).mono ?_;rintro e u⟨rfl,hu⟩
 have HV2:=hide (HAL.out _ _ _ HV.out hu)
 have hz:=HCH.out _ HV2.out
 clear hu HCH HAL HK
 obtain⟨c2,hc⟩:=hz
 have HC:=hide hc
 clear hc
 go_wp2_with fail
 refine(HC.out).mono ?_;rintro e u2⟨rfl,_,hq⟩
 have HG:=hide hq
 clear hq HC
 go_wp2
 refine bodyPost_end (v:=.tuple #[]) (by simp[results,results139,go_sem]) rfl HG.out
theorem conLook_any{k:Nat}{ps:List Nd}(hx:txt.length<=100000000)(h:LkAt ad ρ tb lb s w)(hn:NMem w (.mk k txt ps) nb) :
  Calls prog 139 #[ptrV lb,ptrV nb] w (LkA ad ρ tb lb (lkCon ρ (.mk k txt ps) s) w):=(conLook_lb hx h hn).mono LkB.a
theorem Tab.unbound{x:Ky}{m:Mg}{w1 w7 w8:World}{n8:Nat}{f f7:Ky->Option Value}(hx:okK x)
  (hf7:∀y,okK y->(Env.get ((x,m)::ρ) y=none/\f7 y=none)\/∃m' v,Env.get ((x,m)::ρ) y=some m'/\f7 y=some v/\MgAt ad w7 m' v)
  (hf:∀x,okK x->(ρ.get x=none/\f x=none)\/∃m v,ρ.get x=some m/\f x=some v/\MgAt ad w1 m v) (hk:∀(k:Nat)(c:Array Value)(t:TypeId)(f:Nat×Nat),t=tyStr\/t=tyTree\/t=tyTreeP->w1.heap[k]?=some (.cells c t f)->w7.heap[k]?=w1.heap[k]?)
  (hm8:MapHas okK kyV w8 tb n8 (fun y=>if y=x then f x else f7 y)) (ht:w7.mapTurned w8 tb):Tab ad tb ρ w8:=by
 refine⟨n8,_,hm8,fun y hy=>?_⟩
 by_cases hyx:y=x
 ·subst hyx
  simp only[if_true]
  rcases hf y hy with h1|⟨m',v',h1,h2,h3⟩
  ·exact inl h1
  ·exact inr ⟨m',v',h1,h2,MgAt.turned (h3.kept (fun _ _=>rfl) (le_refl _) (fun k c f hc=>hk k c _ f (inl rfl) hc) (fun k c f hc=>hk k c _ f (inr (inl rfl)) hc) (fun k c f hc=>hk k c _ f (inr (inr rfl)) hc)) ht⟩
 ·simp only[if_neg hyx]
  rcases hf7 y hy with⟨h1,h2⟩|⟨m',v',h1,h2,h3⟩
  ·rw[Env.get,if_neg hyx]at h1;exact inl ⟨h1,h2⟩
  ·rw[Env.get,if_neg hyx]at h1;exact inr ⟨m',v',h1,h2,h3.turned ht⟩
theorem mgZero_at(w:World):MgAt ad w Mg.zero (.agg #[.pointer none,.string ⟨#[]⟩,.slice none 0 0,.slice none 0 0,.int .i64 0,.int .i64 0]):=mgType_at 0 w
structure WiAt(ad:List Nat)(ρ0:Env)(tb lb:Nat)(s:Lk)(w0:World)(vs:List Nm)(i:Nat)(D:List Deferred)(wr:World):Prop where
 lk:LkAt ad (bindAll ρ0 (vs.take i) Mg.zero) tb lb s wr
 kn:Kn (fun k=>k=tb\/k=lb) w0 wr
 lv:∀s' e w7 tmps,LkA ad (bindAll ρ0 (vs.take i) Mg.zero) tb lb s' wr e w7->Leaves prog f114 tmps (LkA ad ρ0 tb lb s' w0) D .returning w7
theorem WiAt.start{vs:List Nm}(h:LkAt ad ρ0 tb lb s w0):WiAt ad ρ0 tb lb s w0 vs 0 [] w0:=by
 refine⟨by simpa [bindAll]using h,Kn.refl _ _,fun s' e w7 tmps ha=>?_⟩
 have ha:LkA ad ρ0 tb lb s' w0 e w7:=by simpa [bindAll]using ha
 obtain⟨rfl,_⟩:=id ha
 simp only[Leaves]
 exact⟨.tuple #[],by simp[results,results114,go_sem],ha⟩
theorem bindAll_snoc(ρ:Env)(vs:List Nm)(x:Nm)(m:Mg):bindAll ρ (vs++[x]) m=((0,x),m)::bindAll ρ vs m:=by
 unfold bindAll;rw[List.foldl_append];rfl
theorem WiAt.bind{vs:List Nm}{i:Nat}{D:List Deferred}{wr:World}{x:Nm}(h:WiAt ad ρ0 tb lb s w0 vs i D wr)(hi:vs[i]?=some x)(hx:okK (0,x)){u:World}(hu:Kn (fun _=>False) wr u) :
  Calls prog 136 #[.map (some tb),.agg #[.int .i64 0,.string (bs x)],.agg #[.pointer none,.string ⟨#[]⟩,.slice none 0 0,.slice none 0 0,.int .i64 0,.int .i64 0]] u fun e u'=>e=.returned (unbV u.heap.size)/\WiAt ad ρ0 tb lb s w0 vs (i+1) (unbD u.heap.size::D) u':=by
 have hlk:=h.lk
 have hlv:=h.lv
 have htk:vs.take (i+1)=vs.take i++[x]:=by rw[List.take_add_one,hi];rfl
 have hbt:bindAll ρ0 (vs.take (i+1)) Mg.zero=((0,x),Mg.zero)::bindAll ρ0 (vs.take i) Mg.zero:=by rw[htk,bindAll_snoc]
 generalize bindAll ρ0 (vs.take i) Mg.zero=ρ at *
 obtain⟨n,f,hm,hf,hsix⟩:=hlk.tab.six
 have hmk:MapHas okK kyV u tb n f:=hm.kept (hu.block tb hm.lt id)
 have hlu:=hlk.stays hu
 have hfu:∀x,okK x->(ρ.get x=none/\f x=none)\/∃m v,ρ.get x=some m/\f x=some v/\MgAt ad u m v:=fun x hx2=>by
  rcases hf x hx2 with h1|⟨m',v',h1,h2,h3⟩
  ·exact inl h1
  ·exact inr ⟨m',v',h1,h2,h3.kept (fun _ _=>rfl) (le_refl _) (fun k c f hc=>hu.block k (lt_of_heap hc) id) (fun k c f hc=>hu.block k (lt_of_heap hc) id) (fun k c f hc=>hu.block k (lt_of_heap hc) id)⟩
 refine(Bind_any hmk hx (fun v hv=>hsix _ hx v hv) (m:=.agg #[.pointer none,.string ⟨#[]⟩,.slice none 0 0,.slice none 0 0,.int .i64 0,.int .i64 0]) ⟨_,_,_,_,_,_,_,_,_,_,rfl⟩).mono ?_
 rintro e u'⟨e1,⟨n',e2⟩,e3,e4,e5⟩
 have hnt:∀(k:Nat)(c:Array Value)(t:TypeId)(f:Nat×Nat),u.heap[k]?=some (.cells c t f)->u'.heap[k]?=u.heap[k]?:=fun k c t f hc=>e5.block k (lt_of_heap hc) (hlu.not_tb hc)
 have hlb':u'.heap[lb]?=some (.cells #[.map (some tb),.bool s.wn,.bool s.wc] tyLook (0,0)):=(hnt _ _ _ _ hlu.lk).trans hlu.lk
 have hl':LkAt ad (((0,x),Mg.zero)::ρ) tb lb s u':=by
  refine⟨⟨n',_,e2,fun y hy=>?_⟩,hlb'⟩
  rw[Env.get]
  by_cases hyx:y=(0,x)
  ·rw[if_pos hyx]
   simp only[if_pos hyx]
   exact inr ⟨Mg.zero,_,rfl,rfl,mgZero_at u'⟩
  ·rw[if_neg hyx]
   simp only[if_neg hyx]
   rcases hfu y hy with h1|⟨m',v',h1,h2,h3⟩
   ·exact inl h1
   ·exact inr ⟨m',v',h1,h2,h3.kept (fun _ _=>rfl) (le_refl _) (fun k c f hc=>hnt k c _ f hc) (fun k c f hc=>hnt k c _ f hc) (fun k c f hc=>hnt k c _ f hc)⟩
 have hk1:Kn (fun k=>k=tb\/k=lb) wr u':=(hu.wide fun _ _ hh=>hh.elim).trans (e5.wide fun k _ hk=>inl hk)
 have hlbl:lb<wr.heap.size:=lt_of_heap hlk.lk
 have htbl:tb<wr.heap.size:=hm.lt
 refine⟨e1,by rw[hbt];exact hl',h.kn.trans hk1,fun s' e w7 tmps ha=>?_⟩
 rw[hbt]at ha
 obtain⟨rfl,a2,a3⟩:=ha
 have hk7:Kn (fun k=>k=tb\/k=lb) wr w7:=hk1.trans a3
 have hu7:Unb tb (0,x) (f (0,x)) u.heap.size w7:=e3.kept fun k hk1 hk2=>a3.block k (by omega) fun hd=>by
  have:=hu.size
  rcases hd with hd|hd<;>omega
 obtain⟨n7,f7,hm7,hf7⟩:=a2.tab
 unfold unbD
 refine leaves_cons (f:=155) (by simp) (by simp[go_sem];rfl) ?_
 refine(Bind1_end (u:=.returning) hm7 hx hu7).mono ?_
 rintro e u8 w8⟨rfl,rfl,⟨n8,hm8⟩,ht8⟩
 refine hlv s' (.returned (.tuple #[])) w8 tmps ⟨rfl,⟨Tab.unbound hx hf7 hf (fun k c t f ht2 hc=>hk7.block k (lt_of_heap hc) (hlk.not hc (by rcases ht2 with rfl|rfl|rfl<;>decide))) hm8 ht8,(turned_other ht8 a2.lk).trans a2.lk⟩,hk7.turned ht8 (inl (inl rfl))⟩
end
end Go.Proofs.YtcbppnefeonmgaaGreatDoor
