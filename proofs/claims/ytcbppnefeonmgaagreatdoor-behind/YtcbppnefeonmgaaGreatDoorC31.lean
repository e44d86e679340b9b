import Derived.Test.YtcbppnefeonmgaaGreatDoorC30
import Derived.Deep.RegionHeldLaw
set_option linter.all false
set_option maxHeartbeats 40000000
set_option maxRecDepth 100000
open Go.Proofs.Tryz
open Or (inl inr)
open Nat (le_refl le_trans zero_le)
open List (mem_cons_self mem_cons_of_mem length_map)
namespace Go.Proofs.YtcbppnefeonmgaaGreatDoor
open Go.RowKit
section
variable {ad:List Nat}{ρ:Env}{tb lb:Nat}{s s':Lk}{w w':World}{nb:Nat}{txt:Nm}
theorem bindLook{Fn:Func}{x:Ky}{m:Mg}{n:Nat}(h:LkAt ad ρ tb lb s w)(hx:okK x)(hv:∀u,MgAt ad u m (.agg #[.pointer none,.string ⟨#[]⟩,.slice none 0 0,.slice none 0 0,.int .i64 0,.int .i64 n])){u:World}(hu:Kn (fun _=>False) w u) :
  Calls prog 136 #[.map (some tb),.agg #[.int .i64 x.1,.string (bs x.2)],.agg #[.pointer none,.string ⟨#[]⟩,.slice none 0 0,.slice none 0 0,.int .i64 0,.int .i64 n]] u fun e u'=>e=.returned (unbV u.heap.size)/\LkAt ad ((x,m)::ρ) tb lb s u'/\Kn (fun k=>k=tb\/k=lb) w u' /\
   ∀(Q:Ending->World->Prop)(D:List Deferred)(s':Lk)(w7:World)(tmps:Array Value),LkAt ad ((x,m)::ρ) tb lb s' w7->Kn (fun k=>k=tb\/k=lb) u' w7->(∀w8,LkAt ad ρ tb lb s' w8->Kn (fun k=>k=tb\/k=lb) w w8->Leaves prog Fn tmps Q D .returning w8)->Leaves prog Fn tmps Q (unbD u.heap.size::D) .returning w7:=by
 obtain⟨nn,f,hm,hf,hsix⟩:=h.tab.six
 have hmk:MapHas okK kyV u tb nn f:=hm.kept (hu.block tb hm.lt id)
 have hlu:=h.stays hu
 have hfu:∀x,okK x->(ρ.get x=none/\f x=none)\/∃m v,ρ.get x=some m/\f x=some v/\MgAt ad u m v:=fun x hx2=>by
  rcases hf x hx2 with h1|⟨m',v',h1,h2,h3⟩
  ·exact inl h1
  ·exact inr ⟨m',v',h1,h2,h3.kept (fun _ _=>rfl) (le_refl _) (fun k c f hc=>hu.block k (lt_of_heap hc) id) (fun k c f hc=>hu.block k (lt_of_heap hc) id) (fun k c f hc=>hu.block k (lt_of_heap hc) id)⟩
 refine(Bind_any hmk hx (fun v hv=>hsix _ hx v hv) (m:=.agg #[.pointer none,.string ⟨#[]⟩,.slice none 0 0,.slice none 0 0,.int .i64 0,.int .i64 n]) ⟨_,_,_,_,_,_,_,_,_,_,rfl⟩).mono ?_
 rintro e u'⟨e1,⟨n',e2⟩,e3,e4,e5⟩
 have hnt:∀(k:Nat)(c:Array Value)(t:TypeId)(f:Nat×Nat),u.heap[k]?=some (.cells c t f)->u'.heap[k]?=u.heap[k]?:=fun k c t f hc=>e5.block k (lt_of_heap hc) (hlu.not_tb hc)
 have hlb':u'.heap[lb]?=some (.cells #[.map (some tb),.bool s.wn,.bool s.wc] tyLook (0,0)):=(hnt _ _ _ _ hlu.lk).trans hlu.lk
 have hl':LkAt ad ((x,m)::ρ) tb lb s u':=by
  refine⟨⟨n',_,e2,fun y hy=>?_⟩,hlb'⟩
  rw[Env.get]
  by_cases hyx:y=x
  ·rw[if_pos hyx]
   simp only[if_pos hyx]
   exact inr ⟨m,_,rfl,rfl,hv u'⟩
  ·rw[if_neg hyx]
   simp only[if_neg hyx]
   rcases hfu y hy with h1|⟨m',v',h1,h2,h3⟩
   ·exact inl h1
   ·exact inr ⟨m',v',h1,h2,h3.kept (fun _ _=>rfl) (le_refl _) (fun k c f hc=>hnt k c _ f hc) (fun k c f hc=>hnt k c _ f hc) (fun k c f hc=>hnt k c _ f hc)⟩
 have hk1:Kn (fun k=>k=tb\/k=lb) w u':=(hu.wide fun _ _ hh=>hh.elim).trans (e5.wide fun k _ hk=>inl hk)
 have hlbl:lb<w.heap.size:=lt_of_heap h.lk
 have htbl:tb<w.heap.size:=hm.lt
 refine⟨e1,hl',hk1,fun Q D s' w7 tmps a2 a3 hlv=>?_⟩
 have hk7:Kn (fun k=>k=tb\/k=lb) w w7:=hk1.trans a3
 have hu7:Unb tb x (f x) u.heap.size w7:=e3.kept fun k hk1 hk2=>a3.block k (by omega) fun hd=>by
  have:=hu.size
  rcases hd with hd|hd<;>omega
 obtain⟨n7,f7,hm7,hf7⟩:=a2.tab
 unfold unbD
 refine leaves_cons (f:=155) (by simp) (by simp[go_sem];rfl) ?_
 refine(Bind1_end (u:=.returning) hm7 hx hu7).mono ?_
 rintro e u8 w8⟨rfl,rfl,⟨n8,hm8⟩,ht8⟩
 exact hlv w8 ⟨Tab.unbound hx hf7 hf (fun k c t f ht2 hc=>hk7.block k (lt_of_heap hc) (h.not hc (by rcases ht2 with rfl|rfl|rfl<;>decide))) hm8 ht8,(turned_other ht8 a2.lk).trans a2.lk⟩ (hk7.turned ht8 (inl (inl rfl)))
def csF(ρ:Env)(s:Lk)(c:Nm):Lk:=s.name (ρ.get (1,c)).isSome
def vsF(ρ:Env)(ls:List Nm)(s:Lk)(v:Nd):Lk:=v.ps.foldl (fun s p=>lkW ρ ls p.all s) s
theorem lkType_eq(ps:List Nd):lkType ρ txt ps s=(only 20 ps).foldl (vsF (((2,txt),Mg.type ((only 19 ps).map Nd.txt).length)::ρ) ((only 19 ps).map Nd.txt)) ((((only 20 ps).map Nd.txt)).foldl (csF ρ) (s.name ((ρ.get (2,txt)).isSome || hasTwice ((only 19 ps).map Nd.txt) || hasTwice ((only 20 ps).map Nd.txt)))):=rfl
structure T1At(ad:List Nat)(ρ:Env)(tb lb:Nat)(cs:List Nm)(s1:Lk)(w u4:World)(i:Nat)(wr:World):Prop where
 lk:LkAt ad ρ tb lb ((cs.take i).foldl (csF ρ) s1) wr
 kw:Kn (fun k=>k=tb\/k=lb) w wr
 k4:Kn (fun k=>k=tb\/k=lb) u4 wr
theorem T1At.step{cs:List Nm}{s1:Lk}{u4:World}{a3:Option Addr}{n3 c3:Nat}(h4:LkAt ad ρ tb lb s u4)(hr:u4.ownsRow 0 tyStr 1 (.slice a3 n3 c3) cs.length (cs.map strV))(hcx:∀c∈cs,c.length<=100000000){i:Nat}{wr:World}(h:T1At ad ρ tb lb cs s1 w u4 i wr)(hi:i<n3) :
  ∃g tx,a3=some ⟨g,0,none⟩/\wr.cell? ⟨g,i,none⟩=some (.string tx)/\g<wr.heap.size/\∀u,Kn (fun _=>False) wr u->u.cell? ⟨lb,0,none⟩=some (.map (some tb)) /\
   Calls prog 134 #[.map (some tb),.agg #[.int .i64 (1:Nat),.string tx]] u fun e v=>∃b,e=.returned (.bool b)/\v.cell? ⟨lb,0,none⟩=some (.map (some tb)) /\
    Calls prog 133 #[ptrV lb,.bool b] v fun e v2=>e=.returned (.tuple #[])/\v2.cell? ⟨lb,0,none⟩=some (.map (some tb))/\Hid (T1At ad ρ tb lb cs s1 w u4 (i+1) v2):=by
 obtain⟨rfl,hav⟩:n3=cs.length/\(0<cs.length->∃g',a3=some ⟨g',0,none⟩):=by
  rcases ownsRow_forms hr with⟨h,h0⟩|⟨g,cap,h⟩
  ·cases h;exact⟨h0.symm,fun h=>by omega⟩
  ·cases h;exact⟨rfl,fun _=>⟨g,rfl⟩⟩
 have hv:cs[i]?=some cs[i]:=List.getElem?_eq_getElem hi
 have hmem:=List.mem_of_getElem? hv
 have htk:cs.take (i+1)=cs.take i++[cs[i]]:=by rw[List.take_add_one,hv];rfl
 generalize cs[i]=x at hv hmem htk
 obtain⟨g,rfl⟩:=hav (by omega)
 have hrow:wr.ownsRow 0 tyStr 1 (.slice (some ⟨g,0,none⟩) cs.length c3) cs.length (cs.map strV):=ownsRow_kept hr fun q c f _ hc=>h.k4.block q (lt_of_heap hc) (h4.not hc (by decide))
 refine⟨g,bs x,rfl,?_,(hrow.lt g rfl).2,fun u hu=>⟨by simp[World.cell?,(h.lk.stays hu).lk],?_⟩⟩
 ·rw[hrow.cellAt i (by omega),List.getElem?_map,hv];rfl
 ·refine((h.lk.stays hu).tab.has (x:=(1,x)) ⟨show 1<3 by decide,hcx x hmem⟩).mono ?_
  rintro e v⟨rfl,hk⟩
  have hlv:=(h.lk.stays hu).stays hk
  refine⟨_,rfl,by simp[World.cell?,hlv.lk],(refuseName_any _ hlv).mono ?_⟩
  rintro e v2⟨rfl,q1,q2⟩
  have hk2:Kn (fun k=>k=tb\/k=lb) wr v2:=((hu.trans hk).wide fun _ _ h=>h.elim).trans q2
  refine⟨rfl,by simp[World.cell?,q1.lk],hide ⟨?_,h.kw.trans hk2,h.k4.trans hk2⟩⟩
  rw[htk,List.foldl_append];exact q1
structure T2At(ad:List Nat)(ρ ρ':Env)(tb lb:Nat)(S:Lk)(w u4:World)(W:Nat)(wr:World):Prop where
 lk:LkAt ad ρ' tb lb S wr
 kw:Kn (fun k=>k=tb\/k=lb) w wr
 k4:Kn (fun k=>k=tb\/k=lb) u4 wr
 lv:∀s' w7 tmps,LkAt ad ρ' tb lb s' w7->Kn (fun k=>k=tb\/k=lb) wr w7->Leaves prog f113 tmps (LkA ad ρ tb lb s' w) [unbD W] .returning w7
theorem T2At.part{ρ':Env}{S:Lk}{u4:World}{W:Nat}{wr:World}{ls:List Nm}{a1:Option Addr}{n1 c1:Nat}{p:Nd}{b:Nat}(h4:LkAt ad ρ tb lb s u4)(hls:u4.ownsRow 0 tyStr 1 (.slice a1 n1 c1) ls.length (ls.map strV))(hx:∀x∈p.all,x.txt.length<=100000000)(hm:NMem u4 p b)(h:T2At ad ρ ρ' tb lb S w u4 W wr) :
  Calls prog 137 #[ptrV lb,ptrV b,.slice a1 n1 c1] wr fun e v=>e=.returned (.tuple #[])/\T2At ad ρ ρ' tb lb (lkW ρ' ls p.all S) w u4 W v:=by
 have hrow:wr.ownsRow 0 tyStr 1 (.slice a1 n1 c1) ls.length (ls.map strV):=ownsRow_kept hls fun q c f _ hc=>h.k4.block q (lt_of_heap hc) (h4.not hc (by decide))
 refine(writtenLook_any hrow hx h.lk (h4.tree h.k4 hm)).mono ?_
 rintro e v⟨rfl,q1,q2⟩
 exact⟨rfl,q1,h.kw.trans q2,h.k4.trans q2,fun s' w7 tmps hl hk=>h.lv s' w7 tmps hl (q2.trans hk)⟩
end
section
variable {ad:List Nat}{ρ:Env}{tb lb:Nat}{s s':Lk}{w w':World}{nb:Nat}{txt:Nm}
def TdC(tb lb nb:Nat)(tx:ByteArray)(u:World):Prop:=u.cell? ⟨lb,0,none⟩=some (.map (some tb))/\u.cell? ⟨nb,1,none⟩=some (.string tx)
def TdF(tb lb nb:Nat)(tx:ByteArray)(b1 b2:Bool)(Q:Ending->World->Prop)(a1:Option Addr)(n1 c1:Nat)(a2:Option Addr)(n2:Nat)(a3:Option Addr)(n3 c3:Nat)(u4:World):Prop:=
 ∃(L1:Nat->World->Prop) (L2:Nat->Nat->World->Prop) (L3:Nat->Nat->Nat->World->Prop),
  (∀u,Kn (fun _=>False) u4 u->TdC tb lb nb tx u/\Calls prog 134 #[.map (some tb),.agg #[.int .i64 (2:Nat),.string tx]] u fun e v=>e=.returned (.bool b1)/\TdC tb lb nb tx v /\
   (b1=true->Calls prog 133 #[ptrV lb,.bool true] v fun e v2=>e=.returned (.tuple #[])/\TdC tb lb nb tx v2/\Hid (L1 0 v2)) /\
   (b1=false->Calls prog 135 #[.slice a1 n1 c1] v fun e v=>e=.returned (.bool b2)/\TdC tb lb nb tx v /\
    (b2=true->Calls prog 133 #[ptrV lb,.bool true] v fun e v2=>e=.returned (.tuple #[])/\TdC tb lb nb tx v2/\Hid (L1 0 v2)) /\
    (b2=false->Calls prog 135 #[.slice a3 n3 c3] v fun e v=>∃b3,e=.returned (.bool b3)/\TdC tb lb nb tx v/\Calls prog 133 #[ptrV lb,.bool b3] v fun e v2=>e=.returned (.tuple #[])/\TdC tb lb nb tx v2/\Hid (L1 0 v2)))) /\
  (∀i wr,L1 i wr->i<n3->∃g ty,a3=some ⟨g,0,none⟩/\wr.cell? ⟨g,i,none⟩=some (.string ty)/\g<wr.heap.size/\∀u,Kn (fun _=>False) wr u->u.cell? ⟨lb,0,none⟩=some (.map (some tb)) /\
   Calls prog 134 #[.map (some tb),.agg #[.int .i64 (1:Nat),.string ty]] u fun e v=>∃b,e=.returned (.bool b)/\v.cell? ⟨lb,0,none⟩=some (.map (some tb)) /\
    Calls prog 133 #[ptrV lb,.bool b] v fun e v2=>e=.returned (.tuple #[])/\v2.cell? ⟨lb,0,none⟩=some (.map (some tb))/\Hid (L1 (i+1) v2)) /\
  (∀wr,L1 n3 wr->∀u,Kn (fun _=>False) wr u->TdC tb lb nb tx u/\Calls prog 136 #[.map (some tb),.agg #[.int .i64 (2:Nat),.string tx],.agg #[.pointer none,.string ⟨#[]⟩,.slice none 0 0,.slice none 0 0,.int .i64 0,.int .i64 n1]] u fun e u'=>∃W,e=.returned (unbV W)/\TdC tb lb nb tx u'/\Hid (L2 W 0 u')) /\
  (∀W i wr,L2 W i wr->i<n2->∃g b a4 n4 c4,a2=some ⟨g,0,none⟩/\wr.cell? ⟨g,i,none⟩=some (ptrV b)/\g<wr.heap.size/\wr.cell? ⟨b,2,none⟩=some (.slice a4 n4 c4)/\n4<=9223372036854775807/\Hid (L3 W i 0 wr) /\
   (∀j wr,L3 W i j wr->j<n4->∃g b,a4=some ⟨g,0,none⟩/\wr.cell? ⟨g,j,none⟩=some (ptrV b)/\g<wr.heap.size/\Calls prog 137 #[ptrV lb,ptrV b,.slice a1 n1 c1] wr fun e v=>e=.returned (.tuple #[])/\Hid (L3 W i (j+1) v)) /\
   ∀wr,L3 W i n4 wr->L2 W (i+1) wr) /\
  ∀W wr,L2 W n2 wr->∀tmps,Leaves prog f113 tmps Q [unbD W] .returning wr
theorem td_rest{ps:List Nd}{u4:World}{a1:Option Addr}{n1 c1:Nat}{a2:Option Addr}{n2 c2:Nat}{a3:Option Addr}{n3 c3:Nat}{l2:List Nat}(h:LkAt ad ρ tb lb s w)(hk4:Kn (fun _=>False) w u4)(hn:NMem u4 (.mk 18 txt ps) nb)(hall:∀x∈(Nd.mk 18 txt ps).all,x.txt.length<=100000000)(hp:ps.length<=1000000)
  (r1:u4.ownsRow 0 tyStr 1 (.slice a1 n1 c1) ((only 19 ps).map Nd.txt).length (((only 19 ps).map Nd.txt).map strV)) (r2:u4.ownsRow 0 tyTreeP 1 (.slice a2 n2 c2) l2.length (l2.map ptrV)) (hm2:NMem.NMems u4 (only 20 ps) l2) (r3:u4.ownsRow 0 tyStr 1 (.slice a3 n3 c3) ((only 20 ps).map Nd.txt).length (((only 20 ps).map Nd.txt).map strV)) :
  TdF tb lb nb (bs txt) (ρ.get (2,txt)).isSome (hasTwice ((only 19 ps).map Nd.txt)) (LkA ad ρ tb lb (lkType ρ txt ps s) w) a1 n1 c1 a2 n2 a3 n3 c3 u4:=by
 have h4:=h.stays hk4
 have hmo:∀{kk:Nat}{x:Nd},x∈only kk ps->x∈ps:=fun hx=>(List.mem_filter.1 hx).1
 have hol:∀kk,((only kk ps).map Nd.txt).length<=100000000:=fun kk=>by
  rw[length_map];exact le_trans (List.length_filter_le _ _) (by omega)
 have hps:∀p∈ps,∀x∈p.all,x.txt.length<=100000000:=fun p hp x hx=>hall x (by rw[Nd.all_eq];exact mem_cons_of_mem _ (alls_mem hp x hx))
 have htx:txt.length<=100000000:=hall (.mk 18 txt ps) (by rw[Nd.all_eq];exact mem_cons_self)
 have hself:∀x:Nd,x∈x.all:=fun x=>by cases x;rw[Nd.all_eq];exact mem_cons_self
 have hcx:∀c∈(only 20 ps).map Nd.txt,c.length<=100000000:=fun c hc=>by
  obtain⟨v,hv,rfl⟩:=List.mem_map.1 hc
  exact hps v (hmo hv) v (hself v)
 have hok:okK (2,txt):=⟨show 2<3 by decide,htx⟩
 obtain⟨pvn,bln,nn1,_,_⟩:=hn.inv
 have hC:∀{u:World}{s2:Lk}{ρ2:Env},Kn (fun k=>k=tb\/k=lb) u4 u->LkAt ad ρ2 tb lb s2 u->TdC tb lb nb (bs txt) u:=fun hk hl=>⟨by simp[World.cell?,hl.lk],by
  rw[World.cell?,hk.block nb (lt_of_heap nn1) (h4.not nn1 (by decide)),nn1];rfl⟩
 have hn1:n1=((only 19 ps).map Nd.txt).length:=by
  rcases ownsRow_forms r1 with⟨h,h0⟩|⟨g,cap,h⟩
  ·cases h;exact h0.symm
  ·cases h;rfl
 have hn3:n3=((only 20 ps).map Nd.txt).length:=by
  rcases ownsRow_forms r3 with⟨h,h0⟩|⟨g,cap,h⟩
  ·cases h;exact h0.symm
  ·cases h;rfl
 have hl2:=hm2.len
 obtain⟨hn2,hav⟩:n2=l2.length/\(0<l2.length->∃g',a2=some ⟨g',0,none⟩):=by
  rcases ownsRow_forms r2 with⟨h,h0⟩|⟨g,cap,h⟩
  ·cases h;exact⟨h0.symm,fun h=>by omega⟩
  ·cases h;exact⟨rfl,fun _=>⟨g,rfl⟩⟩
 have hlk:=lkType_eq (ρ:=ρ) (txt:=txt) (s:=s) ps
 generalize hls:(only 19 ps).map Nd.txt=ls at *
 generalize hcs:(only 20 ps).map Nd.txt=cs at *
 generalize hs1:s.name ((ρ.get (2,txt)).isSome || hasTwice ls || hasTwice cs)=s1 at *
 generalize hρ':((((2,txt),Mg.type ls.length)::ρ:Env))=ρ' at *
 have hw4:∀{u},Kn (fun k=>k=tb\/k=lb) u4 u->Kn (fun k=>k=tb\/k=lb) w u:=fun hk=>(hk4.wide fun _ _ h=>h.elim).trans hk
 have hstart:∀{v:World}{b:Bool},Kn (fun _=>False) u4 v->s.name b=s1->Calls prog 133 #[ptrV lb,.bool b] v fun e v2=>e=.returned (.tuple #[])/\TdC tb lb nb (bs txt) v2/\Hid (T1At ad ρ tb lb cs s1 w u4 0 v2):=fun hv hb=>by
  refine(refuseName_any _ (h4.stays hv)).mono ?_
  rintro e v2⟨rfl,q1,q2⟩
  have hk2:Kn (fun k=>k=tb\/k=lb) u4 v2:=(hv.wide fun _ _ h=>h.elim).trans q2
  refine⟨rfl,hC hk2 q1,hide ⟨?_,hw4 hk2,hk2⟩⟩
  rw[List.take_zero,List.foldl_nil,<- hb];exact q1
 refine⟨fun i wr=>T1At ad ρ tb lb cs s1 w u4 i wr,fun W i wr=>T2At ad ρ ρ' tb lb (((only 20 ps).take i).foldl (vsF ρ' ls) (cs.foldl (csF ρ) s1)) w u4 W wr,
  fun W i j wr=>∃v,(only 20 ps)[i]?=some v/\T2At ad ρ ρ' tb lb ((v.ps.take j).foldl (fun s p=>lkW ρ' ls p.all s) (((only 20 ps).take i).foldl (vsF ρ' ls) (cs.foldl (csF ρ) s1))) w u4 W wr,?_,?_,?_,?_,?_⟩
 ·intro u hu
  have hlu:=h4.stays hu
  refine⟨hC (hu.wide fun _ _ h=>h.elim) hlu,(hlu.tab.has hok).mono ?_⟩
  rintro e v⟨rfl,hk⟩
  have hv:=hu.trans hk
  refine⟨rfl,hC (hv.wide fun _ _ h=>h.elim) (h4.stays hv),fun hb=>?_,fun hb=>?_⟩
  ·exact hstart hv (by rw[<- hs1,hb];rfl)
  ·refine(hasTwice_any (hol 19 |> fun h=>by rw[hls]at h;exact h) (ownsRow_kept r1 fun q c f _ hc=>hv.block q (lt_of_heap hc) id)).mono ?_
   rintro e v2⟨rfl,hk2⟩
   have hv2:=hv.trans hk2
   refine⟨rfl,hC (hv2.wide fun _ _ h=>h.elim) (h4.stays hv2),fun hb2=>?_,fun hb2=>?_⟩
   ·exact hstart hv2 (by rw[<- hs1,hb,hb2];rfl)
   ·refine(hasTwice_any (hol 20 |> fun h=>by rw[hcs]at h;exact h) (ownsRow_kept r3 fun q c f _ hc=>hv2.block q (lt_of_heap hc) id)).mono ?_
    rintro e v3⟨rfl,hk3⟩
    have hv3:=hv2.trans hk3
    exact⟨_,rfl,hC (hv3.wide fun _ _ h=>h.elim) (h4.stays hv3),hstart hv3 (by rw[<- hs1,hb,hb2];rfl)⟩
 ·intro i wr h1 hi
  exact T1At.step h4 r3 hcx h1 hi
 ·intro wr h1 u hu
  have hlu:=h1.lk.stays hu
  rw[hn3,List.take_length]at hlu
  have hlw:=h1.lk
  rw[hn3,List.take_length]at hlw
  have hk4u:Kn (fun k=>k=tb\/k=lb) u4 u:=h1.k4.trans (hu.wide fun _ _ h=>h.elim)
  refine⟨hC hk4u hlu,(bindLook (Fn:=f113) (x:=(2,txt)) (m:=Mg.type n1) (n:=n1) hlw hok (fun u=>mgType_at n1 u) hu).mono ?_⟩
  rintro e u'⟨rfl,q1,q2,q3⟩
  rw[hn1,hρ']at q1
  have hk4':=h1.k4.trans q2
  refine⟨_,rfl,hC hk4' q1,hide ⟨by rw[List.take_zero,List.foldl_nil];exact q1,h1.kw.trans q2,hk4',fun s' w7 tmps hl hk=>q3 _ [] s' w7 tmps (by rw[hn1,hρ'];exact hl) hk fun w8 hl8 hk8=>?_⟩⟩
  simp only[Leaves]
  exact⟨.tuple #[],by simp[results,results113,go_sem],rfl,hl8,h1.kw.trans hk8⟩
 ·intro W i wr hT hi
  have hv:(only 20 ps)[i]?=some (only 20 ps)[i]:=List.getElem?_eq_getElem (by omega)
  have hmem:=List.mem_of_getElem? hv
  have htk:(only 20 ps).take (i+1)=(only 20 ps).take i++[(only 20 ps)[i]]:=by rw[List.take_add_one,hv];rfl
  obtain⟨b,hb,hmb⟩:=hm2.at hv
  generalize (only 20 ps)[i]=v at hv hmem htk hmb
  obtain⟨g,rfl⟩:=hav (by omega)
  obtain⟨vk,vt,vps⟩:=v
  obtain⟨pv,vbl,v1,v2,v3⟩:=hmb.inv
  have hvl:=v3.len
  have hvm:=ownsRow_max v2
  obtain⟨a4,c4,rfl,hav4⟩:∃a c,pv=.slice a vps.length c/\(0<vps.length->∃g',a=some ⟨g',0,none⟩):=by
   rcases ownsRow_forms v2 with⟨h,h0⟩|⟨g,cap,h⟩
   ·exact⟨none,0,by rw[h,<- hvl,h0],fun h=>by omega⟩
   ·exact⟨_,cap,by rw[h,hvl],fun _=>⟨g,rfl⟩⟩
  have hkc:∀{wr:World},Kn (fun k=>k=tb\/k=lb) u4 wr->∀(q:Nat)(c:Array Value)(t:TypeId)(f:Nat×Nat),t≠tyLook->u4.heap[q]?=some (.cells c t f)->wr.heap[q]?=u4.heap[q]?:=fun hk q c t f ht hc=>hk.block q (lt_of_heap hc) (h4.not hc ht)
  have hrow:wr.ownsRow 0 tyTreeP 1 (.slice (some ⟨g,0,none⟩) n2 c2) l2.length (l2.map ptrV):=ownsRow_kept r2 fun q c f _ hc=>hkc hT.k4 q c _ f (by decide) hc
  rw[<- hn2]at hrow
  refine⟨g,b,a4,vps.length,c4,rfl,?_,(hrow.lt g rfl).2,by simp[World.cell?,hkc hT.k4 b _ _ _ (by decide) v1,v1],by omega,hide ⟨_,hv,by rw[List.take_zero,List.foldl_nil];exact hT⟩,?_,?_⟩
  ·rw[hrow.cellAt i (by omega),List.getElem?_map,hb];rfl
  ·rintro j wr2⟨v',hv',hT2⟩ hj
   rw[hv]at hv'
   obtain rfl:=Option.some.inj hv'
   have hpj:vps[j]?=some vps[j]:=List.getElem?_eq_getElem hj
   have hmemj:=List.mem_of_getElem? hpj
   have htj:vps.take (j+1)=vps.take j++[vps[j]]:=by rw[List.take_add_one,hpj];rfl
   generalize vps[j]=p at hpj hmemj htj
   obtain⟨bp,hbp,hmp⟩:=v3.at hpj
   obtain⟨g4,rfl⟩:=hav4 (by omega)
   have hrow4:wr2.ownsRow 0 tyTreeP 1 (.slice (some ⟨g4,0,none⟩) vps.length c4) vbl.length (vbl.map ptrV):=ownsRow_kept v2 fun q c f _ hc=>hkc hT2.k4 q c _ f (by decide) hc
   rw[hvl]at hrow4
   refine⟨g4,bp,rfl,?_,(hrow4.lt g4 rfl).2,?_⟩
   ·rw[hrow4.cellAt j (by omega),List.getElem?_map,hbp];rfl
   ·have hxp:∀x∈p.all,x.txt.length<=100000000:=fun x hx=>hps _ (hmo hmem) x (by rw[Nd.all_eq];exact mem_cons_of_mem _ (alls_mem hmemj x hx))
    refine(T2At.part h4 r1 hxp hmp hT2).mono ?_
    rintro e v⟨rfl,hT3⟩
    refine⟨rfl,hide ⟨_,hv,?_⟩⟩
    rw[htj,List.foldl_append];exact hT3
  ·rintro wr2⟨v',hv',hT2⟩
   rw[hv]at hv'
   obtain rfl:=Option.some.inj hv'
   rw[htk,List.foldl_append]
   rw[List.take_length]at hT2
   exact hT2
 ·intro W wr hT tmps
  have:=hT.lv _ wr tmps hT.lk (Kn.refl _ _)
  rw[hn2,hl2,List.take_length,<- hlk]at this
  exact this
end
section
variable {ad:List Nat}{ρ:Env}{tb lb:Nat}{s s':Lk}{w w':World}{nb:Nat}{txt:Nm}
theorem td_chain{ps:List Nd}(h:LkAt ad ρ tb lb s w)(hn:NMem w (.mk 18 txt ps) nb)(hall:∀x∈(Nd.mk 18 txt ps).all,x.txt.length<=100000000)(hp:ps.length<=1000000)(hks:∀p∈ps,p.k<=1000) :
  Calls prog 84 #[ptrV nb,.int .i64 (19:Nat)] w fun e u1=>∃a n c,e=.returned (.slice a n c)/\Calls prog 83 #[.slice a n c] u1 fun e u2=>∃a1 n1 c1,e=.returned (.slice a1 n1 c1)/\n1<=9223372036854775807 /\
   Calls prog 84 #[ptrV nb,.int .i64 (20:Nat)] u2 fun e u3=>∃a2 n2 c2,e=.returned (.slice a2 n2 c2)/\n2<=9223372036854775807/\Calls prog 83 #[.slice a2 n2 c2] u3 fun e u4=>∃a3 n3 c3,e=.returned (.slice a3 n3 c3)/\n3<=9223372036854775807 /\
    TdF tb lb nb (bs txt) (ρ.get (2,txt)).isSome (hasTwice ((only 19 ps).map Nd.txt)) (LkA ad ρ tb lb (lkType ρ txt ps s) w) a1 n1 c1 a2 n2 a3 n3 c3 u4:=by
 have hol:∀kk,(only kk ps).length<=1000000:=fun kk=>le_trans (List.length_filter_le _ _) hp
 refine(Only_any hn hp hks (by decide)).mono ?_
 rintro e u1⟨a,n,c,rfl,l,o1,o2,o3⟩
 refine⟨a,n,c,rfl,(textsOf_any (ownsRow_base o1 (zero_le _)) o2 (hol 19)).mono ?_⟩
 rintro e u2⟨a1,c1,rfl,t2,t3⟩
 have hk2:Kn (fun _=>False) w u2:=o3.trans t3
 have hn2:NMem u2 (.mk 18 txt ps) nb:=NMem.kept (fun k c f hc=>hk2.block k (lt_of_heap hc) id) (fun k c f hc=>hk2.block k (lt_of_heap hc) id) _ nb hn
 refine⟨a1,_,c1,rfl,ownsRow_max t2,(Only_any hn2 hp hks (by decide)).mono ?_⟩
 rintro e u3⟨a2,n2,c2,rfl,l2,p1,p2,p3⟩
 have hm2:n2<=9223372036854775807:=by
  have:=ownsRow_max p1
  rcases ownsRow_forms p1 with⟨h,h0⟩|⟨g,cap,h⟩
  ·cases h;omega
  ·cases h;omega
 refine⟨a2,n2,c2,rfl,hm2,(textsOf_any (ownsRow_base p1 (zero_le _)) p2 (hol 20)).mono ?_⟩
 rintro e u4⟨a3,c3,rfl,q2,q3⟩
 have hk24:Kn (fun _=>False) u2 u4:=p3.trans q3
 have hk4:Kn (fun _=>False) w u4:=hk2.trans hk24
 have hn4:NMem u4 (.mk 18 txt ps) nb:=NMem.kept (fun k c f hc=>hk4.block k (lt_of_heap hc) id) (fun k c f hc=>hk4.block k (lt_of_heap hc) id) _ nb hn
 refine⟨a3,_,c3,rfl,ownsRow_max q2,td_rest h hk4 hn4 hall hp ?_ (ownsRow_kept (ownsRow_base p1 (zero_le _)) fun q c f _ hc=>q3.block q (lt_of_heap hc) id) (p2.kept (fun q c f hc=>q3.block q (lt_of_heap hc) id) (fun q c f hc=>q3.block q (lt_of_heap hc) id)) ?_⟩
 ·rw[length_map];exact ownsRow_kept (ownsRow_base t2 (zero_le _)) fun q c f _ hc=>hk24.block q (lt_of_heap hc) id
 ·rw[length_map];exact ownsRow_base q2 (zero_le _)
theorem typeLook_any{ps:List Nd}(h:LkAt ad ρ tb lb s w)(hn:NMem w (.mk 18 txt ps) nb)(hall:∀x∈(Nd.mk 18 txt ps).all,x.txt.length<=100000000)(hp:ps.length<=1000000)(hks:∀p∈ps,p.k<=1000) :
  Calls prog 113 #[ptrV lb,ptrV nb] w (LkA ad ρ tb lb (lkType ρ txt ps s) w):=by
 have hch:=td_chain h hn hall hp hks
 have hK1:=fun(tx:ByteArray) (u:World)=>key1_any tx u
 have hK2:=fun(tx:ByteArray) (u:World)=>key2_any tx u
 have hal:∀(w u:World) o u',Kn (fun _=>False) w u->u'=World.alloc u o->Kn (fun _=>False) w u':=fun w u o u' hu e=>by
  subst e;exact hu.alloc o
 have HAL:=hide hal
 have HK1:=hide hK1
 have HK2:=hide hK2
 have HCH:=hide hch
 have HDW:=hide Kn.drewF
 clear h hn hall hp hks hch hK1 hK2 hal
 generalize LkA ad ρ tb lb (lkType ρ txt ps s) w=Q at *
 generalize (ρ.get (2,txt)).isSome=b1 at *
 generalize hasTwice ((only 19 ps).map Nd.txt)=b2 at *
 generalize bs txt=tx at *
 unfold TdF TdC ptrV at *
 go_enter_defers func113,ntmps113
 go_wp2_with fail
 refine(HCH.out).mono ?_;rintro e u1⟨a,n,c,rfl,hc⟩
 have HC:=hide hc
 clear hc HCH
 go_wp2_with fail
 refine(HC.out).mono ?_;rintro e u2⟨a1,n1,c1,rfl,hn1,hc⟩
 have HC2:=hide hc
 clear hc HC
 go_wp2_with fail
 refine(HC2.out).mono ?_;rintro e u3⟨a2,n2,c2,rfl,hn2,hc⟩
 have HC3:=hide hc
 clear hc HC2
 go_wp2_with fail
 refine(HC3.out).mono ?_;rintro e u4⟨a3,n3,c3,rfl,hn3,L1,L2,L3,hA,hB,hC,hD,hE⟩
 have HA:=hide hA
 have HB:=hide hB
 have HCC:=hide hC
 have HD:=hide hD
 have HE:=hide hE
 clear hA hB hC hD hE HC3
 have HV:=hide (HDW.out u4)
 have hz:=HA.out _ HV.out
 obtain⟨⟨c1a,c2a⟩,_⟩:=hz
 go_wp2_with fail
 have HAL4:=hide (HAL.out u4)
 cases b1 with
 |true=>
  refine wp_region_noPanic ?_
  first | (go_region_held_law (fun w' => w'.cell? ⟨lb, 0, none⟩ = some (.map (some tb)) ∧ w'.cell? ⟨nb, 1, none⟩ = some (.string tx)) (with_reducible exact ⟨c1a, c2a⟩) (first | (go_at_call 37; refine (HK2.out _ _).mono ?_; rintro e u ⟨rfl, hu⟩; have HV := hide (HAL4.out _ _ _ HV.out hu); have hz := HA.out _ HV.out; obtain ⟨⟨c1a, c2a⟩, hb⟩ := hz; have HH := hide hb; clear hu hb) | (go_at_call 134; refine (HH.out).mono ?_; rintro e u6 ⟨rfl, ⟨c1a, c2a⟩, HT, HF⟩; have HR := hide (HT (by trivial)); clear HH HT HF) | (go_at_call 133; refine (HR.out).mono ?_; rintro e u7 ⟨rfl, ⟨c1a, c2a⟩, HL1⟩; clear HR))) | (fail "region")
  all_goals refine NoPanic.normal ?_
  all_goals
   go_wp2_with fail
   clear c1a c2a
   go_loopg [42] n3 (fun gk v wr=>∃i,v=.int .i64 (i:Nat)/\i+gk=n3/\Hid (L1 i wr))
   case atStart=>exact⟨0,rfl,by omega,HL1⟩
   case round=>
    clear HL1
    obtain⟨i,rfl,hi,HL1⟩:=hrel
    by_cases hlt:i<n3
    ·obtain⟨g,ty,rfl,e1,e2,hu⟩:=HB.out _ _ HL1.out hlt
     have hlt3:(i:Int)<(n3:Int):=by omega
     have HV:=hide (HDW.out wr)
     have HX:=hide hu
     have HALW:=hide (HAL.out wr)
     clear hu HA HB HCC HD HE HL1
     obtain⟨c1a,_⟩:=HX.out _ HV.out
     go_wp2_with fail
     go_region_held3 (fun w'=>w'.cell? ⟨lb,0,none⟩=some (.map (some tb))) (exact c1a) (first|(go_at_call 85;refine(HK1.out _ _).mono ?_;rintro e u⟨rfl,hu⟩;have HV:=hide (HALW.out _ _ _ HV.out hu);have hz:=HX.out _ HV.out;obtain⟨c1a,hb⟩:=hz;have HH:=hide hb;clear hu hb)|(go_at_call 134;refine(HH.out).mono ?_;rintro e u12⟨b,rfl,c1a,hb⟩;have HR:=hide hb;clear hb)|(go_at_call 133;refine(HR.out).mono ?_;rintro e u13⟨rfl,c1a,HL1⟩))
     all_goals
      go_wp2_with fail
      go_roundg (n3-(i+1))
      case rel=>exact⟨i+1,by simp,by omega,HL1⟩
      case measure=>omega
    ·have hin:i=n3:=by omega
     subst hin
     have hlt3:¬(i:Int)<(i:Int):=by omega
     have HX:=hide (HCC.out _ HL1.out)
     have HV:=hide (HDW.out wr)
     have HALW:=hide (HAL.out wr)
     clear HA HB HCC HL1
     obtain⟨⟨c1a,c2a⟩,_⟩:=HX.out _ HV.out
     unfold unbV at *
     go_wp2_with fail
     go_region_held3 (fun w'=>w'.cell? ⟨lb,0,none⟩=some (.map (some tb))/\w'.cell? ⟨nb,1,none⟩=some (.string tx)) (exact⟨c1a,c2a⟩) (first|(go_at_call 37;refine(HK2.out _ _).mono ?_;rintro e u⟨rfl,hu⟩;have HV:=hide (HALW.out _ _ _ HV.out hu);have hz:=HX.out _ HV.out;obtain⟨⟨c1a,c2a⟩,hb⟩:=hz;have HH:=hide hb;clear hu hb)|(go_at_call 136;refine(HH.out).mono ?_;rintro e u14⟨W,rfl,⟨c1a,c2a⟩,HL2⟩))
     all_goals
      clear HX HV HH
      go_wp2_with fail
      clear c1a c2a
      go_loopg [71] n2 (fun gk v wr=>∃i,v=.int .i64 (i:Nat)/\i+gk=n2/\Hid (L2 W i wr))
      case atStart=>exact⟨0,rfl,by omega,HL2⟩
      case round=>
       clear HL2
       obtain⟨i,rfl,hi,HL2⟩:=hrel
       by_cases hlt:i<n2
       ·obtain⟨g,b,a4,n4,c4,rfl,e1,e2,e3,hn4,HL3,hs,he⟩:=HD.out _ _ _ HL2.out hlt
        have hlt3:(i:Int)<(n2:Int):=by omega
        have HS:=hide hs
        have HE4:=hide he
        clear hs he HD HE HL2
        go_wp2_with fail
        clear e1 e2 e3
        go_loopg [80] n4 (fun gk v wr=>∃j,v=.int .i64 (j:Nat)/\j+gk=n4/\Hid (L3 W i j wr))
        case atStart=>exact⟨0,rfl,by omega,HL3⟩
        case round=>
         clear HL3
         obtain⟨j,rfl,hj,HL3⟩:=hrel
         by_cases hltj:j<n4
         ·obtain⟨g4,b4,rfl,f1,f2,hc⟩:=HS.out _ _ HL3.out hltj
          have hltj3:(j:Int)<(n4:Int):=by omega
          have HC:=hide hc
          clear hc HS HE4 HL3
          go_wp2_with fail
          refine(HC.out).mono ?_;rintro e w2⟨rfl,HL3⟩
          clear HC
          go_wp2_with fail
          go_roundg (n4-(j+1))
          case rel=>exact⟨j+1,by simp,by omega,HL3⟩
          case measure=>omega
         ·have hjn:j=n4:=by omega
          subst hjn
          have hltj3:¬(j:Int)<(j:Int):=by omega
          have HL2:=hide (HE4.out _ HL3.out)
          clear HS HE4 HL3
          go_wp2_with fail
          go_roundg (n2-(i+1))
          case rel=>exact⟨i+1,by simp,by omega,HL2⟩
          case measure=>omega
       ·have hin:i=n2:=by omega
        subst hin
        have hlt3:¬(i:Int)<(i:Int):=by omega
        have HL:=hide (HE.out _ _ HL2.out)
        clear HD HE HL2
        unfold unbD at *
        go_wp2
        exact HL.out _
 |false=>
  cases b2 with
  |true=>
   refine wp_region_noPanic ?_
   first | (go_region_held_law (fun w' => w'.cell? ⟨lb, 0, none⟩ = some (.map (some tb)) ∧ w'.cell? ⟨nb, 1, none⟩ = some (.string tx)) (with_reducible exact ⟨c1a, c2a⟩) (first | (go_at_call 37; refine (HK2.out _ _).mono ?_; rintro e u ⟨rfl, hu⟩; have HV := hide (HAL4.out _ _ _ HV.out hu); have hz := HA.out _ HV.out; obtain ⟨⟨c1a, c2a⟩, hb⟩ := hz; have HH := hide hb; clear hu hb) | (go_at_call 134; refine (HH.out).mono ?_; rintro e u6 ⟨rfl, ⟨c1a, c2a⟩, HT, HF⟩; have H2 := hide (HF (by trivial)); clear HH HT HF) | (go_at_call 135; refine (H2.out).mono ?_; rintro e u8 ⟨rfl, ⟨c1a, c2a⟩, HT, HF⟩; have HR := hide (HT (by trivial)); clear H2 HT HF) | (go_at_call 133; refine (HR.out).mono ?_; rintro e u7 ⟨rfl, ⟨c1a, c2a⟩, HL1⟩; clear HR))) | (fail "region")
   all_goals refine NoPanic.normal ?_
   all_goals
    go_wp2_with fail
    clear c1a c2a
    go_loopg [42] n3 (fun gk v wr=>∃i,v=.int .i64 (i:Nat)/\i+gk=n3/\Hid (L1 i wr))
    case atStart=>exact⟨0,rfl,by omega,HL1⟩
    case round=>
     clear HL1
     obtain⟨i,rfl,hi,HL1⟩:=hrel
     by_cases hlt:i<n3
     ·obtain⟨g,ty,rfl,e1,e2,hu⟩:=HB.out _ _ HL1.out hlt
      have hlt3:(i:Int)<(n3:Int):=by omega
      have HV:=hide (HDW.out wr)
      have HX:=hide hu
      have HALW:=hide (HAL.out wr)
      clear hu HA HB HCC HD HE HL1
      obtain⟨c1a,_⟩:=HX.out _ HV.out
      go_wp2_with fail
      go_region_held3 (fun w'=>w'.cell? ⟨lb,0,none⟩=some (.map (some tb))) (exact c1a) (first|(go_at_call 85;refine(HK1.out _ _).mono ?_;rintro e u⟨rfl,hu⟩;have HV:=hide (HALW.out _ _ _ HV.out hu);have hz:=HX.out _ HV.out;obtain⟨c1a,hb⟩:=hz;have HH:=hide hb;clear hu hb)|(go_at_call 134;refine(HH.out).mono ?_;rintro e u12⟨b,rfl,c1a,hb⟩;have HR:=hide hb;clear hb)|(go_at_call 133;refine(HR.out).mono ?_;rintro e u13⟨rfl,c1a,HL1⟩))
      all_goals
       go_wp2_with fail
       go_roundg (n3-(i+1))
       case rel=>exact⟨i+1,by simp,by omega,HL1⟩
       case measure=>omega
     ·have hin:i=n3:=by omega
      subst hin
      have hlt3:¬(i:Int)<(i:Int):=by omega
      have HX:=hide (HCC.out _ HL1.out)
      have HV:=hide (HDW.out wr)
      have HALW:=hide (HAL.out wr)
      clear HA HB HCC HL1
      obtain⟨⟨c1a,c2a⟩,_⟩:=HX.out _ HV.out
      unfold unbV at *
      go_wp2_with fail
      go_region_held3 (fun w'=>w'.cell? ⟨lb,0,none⟩=some (.map (some tb))/\w'.cell? ⟨nb,1,none⟩=some (.string tx)) (exact⟨c1a,c2a⟩) (first|(go_at_call 37;refine(HK2.out _ _).mono ?_;rintro e u⟨rfl,hu⟩;have HV:=hide (HALW.out _ _ _ HV.out hu);have hz:=HX.out _ HV.out;obtain⟨⟨c1a,c2a⟩,hb⟩:=hz;have HH:=hide hb;clear hu hb)|(go_at_call 136;refine(HH.out).mono ?_;rintro e u14⟨W,rfl,⟨c1a,c2a⟩,HL2⟩))
      all_goals
       clear HX HV HH
       go_wp2_with fail
       clear c1a c2a
       go_loopg [71] n2 (fun gk v wr=>∃i,v=.int .i64 (i:Nat)/\i+gk=n2/\Hid (L2 W i wr))
       case atStart=>exact⟨0,rfl,by omega,HL2⟩
       case round=>
        clear HL2
        obtain⟨i,rfl,hi,HL2⟩:=hrel
        by_cases hlt:i<n2
        ·obtain⟨g,b,a4,n4,c4,rfl,e1,e2,e3,hn4,HL3,hs,he⟩:=HD.out _ _ _ HL2.out hlt
         have hlt3:(i:Int)<(n2:Int):=by omega
         have HS:=hide hs
         have HE4:=hide he
         clear hs he HD HE HL2
         go_wp2_with fail
         clear e1 e2 e3
         go_loopg [80] n4 (fun gk v wr=>∃j,v=.int .i64 (j:Nat)/\j+gk=n4/\Hid (L3 W i j wr))
         case atStart=>exact⟨0,rfl,by omega,HL3⟩
         case round=>
          clear HL3
          obtain⟨j,rfl,hj,HL3⟩:=hrel
          by_cases hltj:j<n4
          ·obtain⟨g4,b4,rfl,f1,f2,hc⟩:=HS.out _ _ HL3.out hltj
           have hltj3:(j:Int)<(n4:Int):=by omega
           have HC:=hide hc
           clear hc HS HE4 HL3
           go_wp2_with fail
           refine(HC.out).mono ?_;rintro e w2⟨rfl,HL3⟩
           clear HC
           go_wp2_with fail
           go_roundg (n4-(j+1))
           case rel=>exact⟨j+1,by simp,by omega,HL3⟩
           case measure=>omega
          ·have hjn:j=n4:=by omega
           subst hjn
           have hltj3:¬(j:Int)<(j:Int):=by omega
           have HL2:=hide (HE4.out _ HL3.out)
           clear HS HE4 HL3
           go_wp2_with fail
           go_roundg (n2-(i+1))
           case rel=>exact⟨i+1,by simp,by omega,HL2⟩
           case measure=>omega
        ·have hin:i=n2:=by omega
         subst hin
         have hlt3:¬(i:Int)<(i:Int):=by omega
         have HL:=hide (HE.out _ _ HL2.out)
         clear HD HE HL2
         unfold unbD at *
         go_wp2
         exact HL.out _
  |false=>
   first | (go_region_held3 (fun w' => w'.cell? ⟨lb, 0, none⟩ = some (.map (some tb)) ∧ w'.cell? ⟨nb, 1, none⟩ = some (.string tx)) (with_reducible exact ⟨c1a, c2a⟩) (first | (go_at_call 37; refine (HK2.out _ _).mono ?_; rintro e u ⟨rfl, hu⟩; have HV := hide (HAL4.out _ _ _ HV.out hu); have hz := HA.out _ HV.out; obtain ⟨⟨c1a, c2a⟩, hb⟩ := hz; have HH := hide hb; clear hu hb) | (go_at_call 134; refine (HH.out).mono ?_; rintro e u6 ⟨rfl, ⟨c1a, c2a⟩, HT, HF⟩; have H2 := hide (HF (by trivial)); clear HH HT HF) | (go_at_call 135; refine (H2.out).mono ?_; rintro e u8 ⟨rfl, ⟨c1a, c2a⟩, HT, HF⟩; have H3 := hide (HF (by trivial)); clear H2 HT HF) | (go_at_call 135; refine (H3.out).mono ?_; rintro e u9 ⟨b3, rfl, ⟨c1a, c2a⟩, hr⟩; have HR := hide hr; clear H3 hr) | (go_at_call 133; refine (HR.out).mono ?_; rintro e u7 ⟨rfl, ⟨c1a, c2a⟩, HL1⟩; clear HR))) | (fail "region")
   all_goals
    go_wp2_with fail
    clear c1a c2a
    go_loopg [42] n3 (fun gk v wr=>∃i,v=.int .i64 (i:Nat)/\i+gk=n3/\Hid (L1 i wr))
    case atStart=>exact⟨0,rfl,by omega,HL1⟩
    case round=>
     clear HL1
     obtain⟨i,rfl,hi,HL1⟩:=hrel
     by_cases hlt:i<n3
     ·obtain⟨g,ty,rfl,e1,e2,hu⟩:=HB.out _ _ HL1.out hlt
      have hlt3:(i:Int)<(n3:Int):=by omega
      have HV:=hide (HDW.out wr)
      have HX:=hide hu
      have HALW:=hide (HAL.out wr)
      clear hu HA HB HCC HD HE HL1
      obtain⟨c1a,_⟩:=HX.out _ HV.out
      go_wp2_with fail
      go_region_held3 (fun w'=>w'.cell? ⟨lb,0,none⟩=some (.map (some tb))) (exact c1a) (first|(go_at_call 85;refine(HK1.out _ _).mono ?_;rintro e u⟨rfl,hu⟩;have HV:=hide (HALW.out _ _ _ HV.out hu);have hz:=HX.out _ HV.out;obtain⟨c1a,hb⟩:=hz;have HH:=hide hb;clear hu hb)|(go_at_call 134;refine(HH.out).mono ?_;rintro e u12⟨b,rfl,c1a,hb⟩;have HR:=hide hb;clear hb)|(go_at_call 133;refine(HR.out).mono ?_;rintro e u13⟨rfl,c1a,HL1⟩))
      all_goals
       go_wp2_with fail
       go_roundg (n3-(i+1))
       case rel=>exact⟨i+1,by simp,by omega,HL1⟩
       case measure=>omega
     ·have hin:i=n3:=by omega
      subst hin
      have hlt3:¬(i:Int)<(i:Int):=by omega
      have HX:=hide (HCC.out _ HL1.out)
      have HV:=hide (HDW.out wr)
      have HALW:=hide (HAL.out wr)
      clear HA HB HCC HL1
      obtain⟨⟨c1a,c2a⟩,_⟩:=HX.out _ HV.out
      unfold unbV at *
      go_wp2_with fail
      go_region_held3 (fun w'=>w'.cell? ⟨lb,0,none⟩=some (.map (some tb))/\w'.cell? ⟨nb,1,none⟩=some (.string tx)) (exact⟨c1a,c2a⟩) (first|(go_at_call 37;refine(HK2.out _ _).mono ?_;rintro e u⟨rfl,hu⟩;have HV:=hide (HALW.out _ _ _ HV.out hu);have hz:=HX.out _ HV.out;obtain⟨⟨c1a,c2a⟩,hb⟩:=hz;have HH:=hide hb;clear hu hb)|(go_at_call 136;refine(HH.out).mono ?_;rintro e u14⟨W,rfl,⟨c1a,c2a⟩,HL2⟩))
      all_goals
       clear HX HV HH
       go_wp2_with fail
       clear c1a c2a
       go_loopg [71] n2 (fun gk v wr=>∃i,v=.int .i64 (i:Nat)/\i+gk=n2/\Hid (L2 W i wr))
       case atStart=>exact⟨0,rfl,by omega,HL2⟩
       case round=>
        clear HL2
        obtain⟨i,rfl,hi,HL2⟩:=hrel
        by_cases hlt:i<n2
        ·obtain⟨g,b,a4,n4,c4,rfl,e1,e2,e3,hn4,HL3,hs,he⟩:=HD.out _ _ _ HL2.out hlt
         have hlt3:(i:Int)<(n2:Int):=by omega
         have HS:=hide hs
         have HE4:=hide he
         clear hs he HD HE HL2
         go_wp2_with fail
         clear e1 e2 e3
         go_loopg [80] n4 (fun gk v wr=>∃j,v=.int .i64 (j:Nat)/\j+gk=n4/\Hid (L3 W i j wr))
         case atStart=>exact⟨0,rfl,by omega,HL3⟩
         case round=>
          clear HL3
          obtain⟨j,rfl,hj,HL3⟩:=hrel
          by_cases hltj:j<n4
          ·obtain⟨g4,b4,rfl,f1,f2,hc⟩:=HS.out _ _ HL3.out hltj
           have hltj3:(j:Int)<(n4:Int):=by omega
           have HC:=hide hc
           clear hc HS HE4 HL3
           go_wp2_with fail
           refine(HC.out).mono ?_;rintro e w2⟨rfl,HL3⟩
           clear HC
           go_wp2_with fail
           go_roundg (n4-(j+1))
           case rel=>exact⟨j+1,by simp,by omega,HL3⟩
           case measure=>omega
          ·have hjn:j=n4:=by omega
           subst hjn
           have hltj3:¬(j:Int)<(j:Int):=by omega
           have HL2:=hide (HE4.out _ HL3.out)
           clear HS HE4 HL3
           go_wp2_with fail
           go_roundg (n2-(i+1))
           case rel=>exact⟨i+1,by simp,by omega,HL2⟩
           case measure=>omega
        ·have hin:i=n2:=by omega
         subst hin
         have hlt3:¬(i:Int)<(i:Int):=by omega
         have HL:=hide (HE.out _ _ HL2.out)
         clear HD HE HL2
         unfold unbD at *
         go_wp2
         exact HL.out _
end
end Go.Proofs.YtcbppnefeonmgaaGreatDoor
