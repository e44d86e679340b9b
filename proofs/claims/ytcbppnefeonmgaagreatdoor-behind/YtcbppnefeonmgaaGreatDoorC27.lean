import Derived.Test.YtcbppnefeonmgaaGreatDoorC26
import Derived.RangeFuncNested
import Derived.RangeFuncBound
import Derived.RangeFuncCalls
import Derived.RangeFuncLeaves
import Derived.Shelf.Abstract
import Derived.Shelf.RegionOpen
import Derived.OwnWalkIn
import Derived.TacticsInMore
import Derived.LoopNIn
import Derived.LoopIn
import Derived.Lib.SlicesS
import Derived.RangeFuncBox
import Derived.RangeFuncFrom
import Derived.Maps.AppendAt
import Derived.Sort.OwnSorted
set_option linter.all false
set_option maxHeartbeats 40000000
set_option maxRecDepth 100000
open Go.Proofs.Tryz
open Or (inl inr)
open Nat (le_refl le_trans zero_le lt_succ_self)
open List (append_nil length_append length_cons mem_cons_self mem_cons_of_mem append_assoc cons_append length_nil map_append length_map map_cons nil_append)
namespace Go.Proofs.YtcbppnefeonmgaaGreatDoor
section
open Go.RowKit Go.Shelf
section
attribute [local go_sem] Oper.semAt_some
theorem room_none{F:Fence}(hd:F.depth=none)(k:Nat):F.room k:=fun d h=>by rw[hd]at h;cases h
theorem yield_depth{F:Fence}(hd:F.depth=none){m:Nat}(m':Nat){P:Program}{l:Nat}{args:Array Value}{W:World}{R:Ending->World->Prop}(h:YieldAt F m P l args W R):YieldAt F m' P l args W R:=by
 obtain⟨fn,tmps,assign,body,hy,hR⟩:=h
 exact⟨fn,tmps,assign,body,hy,hR.1,fun c cs _=>hR.2 c cs (room_none hd _)⟩
def TrK(W W':World):Prop:=W.heap.size<=W'.heap.size/\∀(k:Nat)(c:Array Value)(t:TypeId)(f:Nat×Nat),t=tyTree\/t=tyTreeP->W.heap[k]?=some (.cells c t f)->W'.heap[k]?=W.heap[k]?
theorem TrK.refl(W:World):TrK W W:=⟨le_refl _,fun _ _ _ _ _ _=>rfl⟩
theorem TrK.trans{a b c:World}(h:TrK a b)(k:TrK b c):TrK a c:=⟨le_trans h.1 k.1,fun i x t f ht hi=>by
 have e:=h.2 i x t f ht hi
 rw[k.2 i x t f ht (e.trans hi),e]⟩
theorem TrK.tree{W W':World}(h:TrK W W'){nd:Nd}{b:Nat}(hn:NMem W nd b):NMem W' nd b:=
 NMem.kept (fun k c f hc=>h.2 k c _ f (inl rfl) hc) (fun k c f hc=>h.2 k c _ f (inr rfl) hc) nd b hn
theorem TrK.putObj{W:World}{l:Nat}{o:Obj}(o':Obj)(hl:W.heap[l]?=some o)(hc:o.isCells=false):TrK W (W.putObj l o'):=by
 refine⟨by simp,fun k c t f _ hk=>World.putObj_heap_other fun e=>?_⟩
 subst e
 rw[hk]at hl
 obtain rfl:=Option.some.inj hl
 simp[Obj.isCells]at hc
theorem TrK.of_kn{D:Nat->Prop}{W W':World}(h:Kn D W W')(hD:∀(k:Nat)(c:Array Value)(t:TypeId)(f:Nat×Nat),t=tyTree\/t=tyTreeP->W.heap[k]?=some (.cells c t f)->¬D k):TrK W W':=
 ⟨h.size,fun k c t f ht hk=>h.block k (lt_of_heap hk) (hD k c t f ht hk)⟩
abbrev NdIn(w0:World):={ x:Nd×Nat // NMem w0 x.1 x.2/\x.1.txt.length<=100000000 }
def encT{w0:World}(x:NdIn w0):Array Value:=#[ptrV x.1.2]
theorem alls_append(a b:List Nd):Nd.all.alls (a++b)=Nd.all.alls a++Nd.all.alls b:=by
 induction a with
 |nil=>simp[Nd.all.alls]
 |cons p r ih=>rw[cons_append,Nd.all.alls,Nd.all.alls,ih,append_assoc]
theorem alls_snoc(a:List Nd)(p:Nd):Nd.all.alls (a++[p])=Nd.all.alls a++p.all:=by
 rw[alls_append,Nd.all.alls,Nd.all.alls,append_nil]
theorem walk_loop{F:Fence}{l N:Nat}{w0:World}{J Jx:List (NdIn w0)->World->Prop}{k:Nat}{txt:Nm}{ps:List Nd}{b:Nat}(hm:NMem w0 (.mk k txt ps) b)
  (ih:∀(p:Nd)(bp:Nat),p∈ps->NMem w0 p bp->∀(n:Nat) (pre:List (NdIn w0)) (W:World),TrK w0 W->J pre W->pre.length+p.all.length<=N ->
   CallsIn F n prog 178 #[ptrV bp,.func (.yield l) #[] #[]] W fun e W'=>∃q:List (NdIn w0),(e=.returned (.bool true)/\q.map (·.1.1)=p.all/\J (pre++q) W'/\TrK W W')\/(e=.returned (.bool false)/\Jx (pre++q) W'))
  {pre:List (NdIn w0)}{Wb:World} (hWb:TrK w0 Wb) (hN:pre.length+(Nd.all.alls ps).length<=N) :
  ∃(a:Option Addr) (n c:Nat) (LP:Nat->World->Prop),n<=9223372036854775807/\(∀W,TrK Wb W->J pre W->W.cell? ⟨b,2,none⟩=some (.slice a n c)/\Hid (LP 0 W)) /\
   (∀i wr m,LP i wr->i<n->∃g bp,a=some ⟨g,0,none⟩/\wr.cell? ⟨g,i,none⟩=some (ptrV bp)/\g<wr.heap.size /\
    CallsIn F m prog 178 #[ptrV bp,.func (.yield l) #[] #[]] wr fun e u=>(e=.returned (.bool true)/\Hid (LP (i+1) u))\/(e=.returned (.bool false)/\∃q:List (NdIn w0),Jx (pre++q) u)) /\
   ∀wr,LP n wr->TrK Wb wr/\∃q:List (NdIn w0),q.map (·.1.1)=Nd.all.alls ps/\J (pre++q) wr:=by
 obtain⟨pv,bl,n1,n2,n3⟩:=hm.inv
 have hlen:=n3.len
 have hmx:=ownsRow_max n2
 obtain⟨a,c,rfl,hav⟩:∃a c,pv=.slice a ps.length c/\(0<ps.length->∃g',a=some ⟨g',0,none⟩):=by
  rcases ownsRow_forms n2 with⟨h,h0⟩|⟨g,cap,h⟩
  ·exact⟨none,0,by rw[h,<- hlen,h0],fun h=>by omega⟩
  ·exact⟨_,cap,by rw[h,hlen],fun _=>⟨g,rfl⟩⟩
 rw[hlen]at n2
 refine⟨a,ps.length,c,fun i wr=>TrK Wb wr/\∃q:List (NdIn w0),q.map (·.1.1)=Nd.all.alls (ps.take i)/\J (pre++q) wr,by omega,fun W hW hJ=>⟨?_,hide ⟨hW,[],by simp[Nd.all.alls],by simpa using hJ⟩⟩,?_,?_⟩
 ·simp[World.cell?,(hWb.trans hW).2 b _ _ _ (inl rfl) n1,n1]
 ·rintro i wr m⟨hk,q,hq,hJ⟩ hi
  have hv:ps[i]?=some ps[i]:=List.getElem?_eq_getElem hi
  have hmem:=List.mem_of_getElem? hv
  have htk:ps.take (i+1)=ps.take i++[ps[i]]:=by rw[List.take_add_one,hv];rfl
  generalize ps[i]=p at hv hmem htk
  obtain⟨bp,hb,hmb⟩:=n3.at hv
  obtain⟨g,rfl⟩:=hav (by omega)
  have hrow:wr.ownsRow 0 tyTreeP 1 (.slice (some ⟨g,0,none⟩) ps.length c) ps.length (bl.map ptrV):=ownsRow_kept n2 fun q c f _ hc=>(hWb.trans hk).2 q c _ f (inr rfl) hc
  have hle:q.length+p.all.length<=(Nd.all.alls ps).length:=by
   have h1:q.length=(Nd.all.alls (ps.take i)).length:=by rw[<- hq,length_map]
   have h2:Nd.all.alls ps=Nd.all.alls (ps.take (i+1))++Nd.all.alls (ps.drop (i+1)):=by rw[<- alls_append,List.take_append_drop]
   rw[h1,h2,htk,alls_snoc];simp
  refine⟨g,bp,rfl,?_,(hrow.lt g rfl).2,?_⟩
  ·rw[hrow.cellAt i (by omega),List.getElem?_map,hb];rfl
  ·refine(ih p bp hmem hmb m (pre++q) wr (hWb.trans hk) hJ (by rw[length_append];omega)).mono ?_
   rintro e u⟨q2,⟨rfl,h2,hj,hk2⟩|⟨rfl,hx⟩⟩
   ·refine inl ⟨rfl,hide ⟨hk.trans hk2,q++q2,?_,by rw[<- append_assoc];exact hj⟩⟩
    rw[map_append,hq,h2,htk,alls_snoc]
   ·exact inr ⟨rfl,q++q2,by rw[<- append_assoc];exact hx⟩
 ·rintro wr⟨hk,q,hq,hJ⟩
  rw[List.take_length]at hq
  exact⟨hk,q,hq,hJ⟩
theorem walk_in(F:Fence)(hd:F.depth=none)(hf:F.fn 178)(hro:F.round=none)(l N:Nat)(w0:World)(J Jx:List (NdIn w0)->World->Prop)
  (hY:∀m pre x W,J pre W->pre.length<N->YieldAt F m prog l (encT x) W fun e W'=>
   (e=.returned (.bool true)/\J (pre++[x]) W'/\TrK W W')\/(e=.returned (.bool false)/\Jx (pre++[x]) W')) :
  ∀(h:Nat)(nd:Nd)(b:Nat),nd.ht<h->NMem w0 nd b->(∀x∈nd.all,x.txt.length<=100000000)->∀(n:Nat) (pre:List (NdIn w0)) (W:World),TrK w0 W->J pre W->pre.length+nd.all.length<=N ->
   CallsIn F n prog 178 #[ptrV b,.func (.yield l) #[] #[]] W fun e W'=>∃q:List (NdIn w0),(e=.returned (.bool true)/\q.map (·.1.1)=nd.all/\J (pre++q) W'/\TrK W W')\/(e=.returned (.bool false)/\Jx (pre++q) W'):=by
 intro h
 induction h with
 |zero=>intro nd b h;omega
 |succ h ihh=>
  intro nd b hh hm hx n pre W hW hJ hN
  have hdd:∀k:Nat,(F.depth.isSome=true->1<=k):=fun k h=>by rw[hd]at h;cases h
  obtain⟨k,txt,ps⟩:=nd
  rw[Nd.all_eq,length_cons]at hN
  have hm2:NMem w0 (.mk k txt ps) b/\txt.length<=100000000:=⟨hm,hx _ (by rw[Nd.all_eq];exact mem_cons_self)⟩
  obtain⟨a,pn,c,LP,hmax,hstart,hs,he⟩:=walk_loop (F:=F) (l:=l) (N:=N) (J:=J) (Jx:=Jx) (pre:=pre++[⟨(.mk k txt ps,b),hm2⟩]) hm
   (fun p bp hp hmp n pre W hW hJ hN=>ihh p bp (Nd.ht_lt hp hh) hmp (fun x hxp=>hx x (by rw[Nd.all_eq];exact mem_cons_of_mem _ (alls_mem hp x hxp))) n pre W hW hJ hN) hW (by rw[length_append];simp;omega)
  have hy:=YieldAt.mono (hY (n-1) pre ⟨(.mk k txt ps,b),hm2⟩ W hJ (by omega)) (R':=fun e W'=>(e=.returned (.bool true)/\W'.cell? ⟨b,2,none⟩=some (.slice a pn c)/\Hid (LP 0 W'))\/(e=.returned (.bool false)/\Hid (Jx (pre++[⟨(.mk k txt ps,b),hm2⟩]) W'))) (by
    rintro e W' (⟨rfl,hj,hk⟩|⟨rfl,hx⟩)
    ·obtain⟨c2,h0⟩:=hstart W' hk hj
     exact inl ⟨rfl,c2,h0⟩
    ·exact inr ⟨rfl,hide hx⟩)
  have hfin:∀wr,LP pn wr->∃q:List (NdIn w0),(Ending.returned (.bool true)=.returned (.bool true)/\q.map (·.1.1)=(Nd.mk k txt ps).all/\J (pre++q) wr/\TrK W wr)\/(Ending.returned (.bool true)=.returned (.bool false)/\Jx (pre++q) wr):=fun wr hlp=>by
   obtain⟨hk,q,hq,hj⟩:=he wr hlp
   exact⟨⟨(.mk k txt ps,b),hm2⟩::q,inl ⟨rfl,by rw[map_cons,hq,Nd.all_eq],by simpa using hj,hk⟩⟩
  have hbad:∀(q:List (NdIn w0)) wr,Jx (pre++[⟨(.mk k txt ps,b),hm2⟩]++q) wr->∃q:List (NdIn w0),(Ending.returned (.bool false)=.returned (.bool true)/\q.map (·.1.1)=(Nd.mk k txt ps).all/\J (pre++q) wr/\TrK W wr)\/(Ending.returned (.bool false)=.returned (.bool false)/\Jx (pre++q) wr):=fun q wr hx=>
   ⟨⟨(.mk k txt ps,b),hm2⟩::q,inr ⟨rfl,by simpa using hx⟩⟩
  have hbad0:∀wr,Jx (pre++[⟨(.mk k txt ps,b),hm2⟩]) wr->∃q:List (NdIn w0),(Ending.returned (.bool false)=.returned (.bool true)/\q.map (·.1.1)=(Nd.mk k txt ps).all/\J (pre++q) wr/\TrK W wr)\/(Ending.returned (.bool false)=.returned (.bool false)/\Jx (pre++q) wr):=fun wr hx=>
   hbad [] wr (by simpa using hx)
  obtain⟨fn,tmps,assign,body,hyr,hR⟩:=hy
  have HR:=hide hR
  have HS:=hide hs
  have HE1:=hide hfin
  have HB1:=hide hbad
  have HB01:=hide hbad0
  clear hR hs he hfin hbad hbad0 ihh hY hstart hJ hN hh hW hx
  generalize hQ:(fun(e:Ending) (W':World)=>∃q:List (NdIn w0),(e=.returned (.bool true)/\q.map (·.1.1)=(Nd.mk k txt ps).all/\J (pre++q) W'/\TrK W W')\/(e=.returned (.bool false)/\Jx (pre++q) W'))=Q
  have HE:Hid (∀wr,LP pn wr->Q (.returned (.bool true)) wr):=hide fun wr h=>by rw[<- hQ];exact HE1.out wr h
  have HB:Hid (∀(q:List (NdIn w0)) wr,Jx (pre++[⟨(.mk k txt ps,b),hm2⟩]++q) wr->Q (.returned (.bool false)) wr):=hide fun q wr h=>by rw[<- hQ];exact HB1.out q wr h
  have HB0:Hid (∀wr,Jx (pre++[⟨(.mk k txt ps,b),hm2⟩]) wr->Q (.returned (.bool false)) wr):=hide fun wr h=>by rw[<- hQ];exact HB01.out wr h
  clear hQ HE1 HB1 HB01
  refine callsIn_of_wp func178 rfl hf ?_ hro
  simp only[ntmps178,List.size_toArray,length_cons,length_nil,Nat.reduceAdd,Nat.reduceSub,Array.replicate_succ,Array.replicate_zero,List.push_toArray,List.append_toArray,nil_append,cons_append]
  unfold encT ptrV at *
  gi_wp2_with ((try refine⟨hdd _,?_⟩);refine HR.out.mono ?_;clear HR;rintro e W2 (⟨rfl,c2,H0⟩|⟨rfl,HX⟩))
  ·gi_loopw [16] (fun i wr=>∃j:Nat,j<=pn/\i=.int .i64 (j:Nat)/\Hid (LP j wr)) (fun i _=>(pn-intOf i).toNat)
   case atStart=>exact⟨0,zero_le _,rfl,H0⟩
   case round=>
    obtain⟨i,hi,rfl,HL⟩:=hrel
    clear H0 c2
    by_cases hlt:i<pn
    ·obtain⟨g,bp,rfl,hcell,hgl,hc⟩:=HS.out i _ (n-1) HL.out hlt
     have HC:=hide hc
     have hlt3:(i:Int)<(pn:Int):=by omega
     clear hc HL
     gi_wp2_with ((try refine⟨hdd _,?_⟩);gi_at_call 178;refine HC.out.mono ?_;clear HC;rintro e W3 (⟨rfl,HN⟩|⟨rfl,q,hx⟩))
     ·go_roundw
      case rel=>exact⟨i+1,by omega,by simp,HN⟩
      case measure=>simp[intOf];omega
     ·exact HB.out _ _ hx
    ·obtain rfl:i=pn:=by omega
     have hlt3:¬(i:Int)<(i:Int):=by omega
     have HG:=hide (HE.out _ HL.out)
     clear HL HE HS
     gi_wp2
     exact HG.out
  ·exact HB0.out _ HX.out
theorem all1_in(F:Fence)(hd:F.depth=none)(n:Nat)(hf1:F.fn 177)(hf:F.fn 178)(hro:F.round=none)(l Bt:Nat)(nd:Nd)(b:Nat)(w0:World)(hm:NMem w0 nd b)(hx:∀x∈nd.all,x.txt.length<=100000000)(J Jx:List (NdIn w0)->World->Prop)
  (hY:∀pre x W,J pre W->pre.length<nd.all.length->YieldAt F (n-1) prog l (encT x) W fun e W'=>
   (e=.returned (.bool true)/\J (pre++[x]) W'/\TrK W W')\/(e=.returned (.bool false)/\Jx (pre++[x]) W'))
  (W:World) (hW:TrK w0 W) (hBt:W.cell? ⟨Bt,0,none⟩=some (ptrV b)) (h0:J [] W) :
  CallsIn F n prog 177 #[.func (.yield l) #[] #[],.pointer (some ⟨Bt,0,none⟩)] W fun e W'=>(∃v,e=.returned v) /\
   ((∃ys:List (NdIn w0),ys.map (·.1.1)=nd.all/\J ys W')\/(∃pre:List (NdIn w0),True/\Jx pre W')):=by
 have hdd:∀k:Nat,(F.depth.isSome=true->1<=k):=fun k h=>by rw[hd]at h;cases h
 have hp:=walk_in F hd hf hro l nd.all.length w0 J Jx (fun m pre x W hj hl=>yield_depth hd m (hY pre x W hj hl)) (nd.ht+1) nd b (lt_succ_self _) hm hx (n-1) [] W hW h0 (by simp)
 have HP:=hide hp
 clear hp
 unfold ptrV at *
 refine callsIn_of_wp func177 rfl hf1 ?_ hro
 simp only[ntmps177,List.size_toArray,length_cons,length_nil,Nat.reduceAdd,Nat.reduceSub,Array.replicate_succ,Array.replicate_zero,List.push_toArray,List.append_toArray,nil_append,cons_append]
 gi_wp2_with ((try refine⟨hdd _,?_⟩);gi_at_call 178;refine HP.out.mono ?_;clear HP;rintro e W1⟨q,⟨rfl,hq,hJ1,_⟩|⟨rfl,hx2⟩⟩)
 ·go_end0
  exact⟨⟨_,rfl⟩,.inl ⟨q,hq,by simpa using hJ1⟩⟩
 ·go_end0
  exact⟨⟨_,rfl⟩,.inr ⟨q,trivial,by simpa using hx2⟩⟩
theorem all_in(F:Fence)(n:Nat)(hf:F.fn 156)(hro:F.round=none)(b:Nat)(w:World) :
  CallsIn F n prog 156 #[ptrV b] w fun e w'=>e=.returned (.func (.func 177) #[] #[.pointer (some ⟨w.heap.size,0,none⟩)])/\w'=w.alloc (.cells #[ptrV b] tyTreeP):=by
 unfold ptrV
 refine callsIn_of_wp func156 rfl hf ?_ hro
 simp only[ntmps156,List.size_toArray,length_cons,length_nil,Nat.reduceAdd,Nat.reduceSub,Array.replicate_succ,Array.replicate_zero,List.push_toArray,List.append_toArray,nil_append,cons_append]
 gi_wp2
 go_ret
 exact⟨rfl,rfl⟩
theorem TrK.of_below{w W:World}(h:Below w.heap.size w W):TrK w W:=⟨h.size,fun k _ _ _ _ hk=>h.block k (lt_of_heap hk)⟩
theorem all_stops(F:Fence)(hd:F.depth=none)(n:Nat)(hf1:F.fn 177)(hf:F.fn 178)(hro:F.round=none)(Bt:Nat)(nd:Nd)(b:Nat)(w0:World)(hm:NMem w0 nd b)(hx:∀x∈nd.all,x.txt.length<=100000000)(hc:w0.heap[Bt]?=some (.cells #[ptrV b] tyTreeP (0,0))) :
  SeqStopsK F n prog 177 #[.pointer (some ⟨Bt,0,none⟩)] (encT (w0:=w0)) TrK (fun ys=>ys.map (·.1.1)=nd.all) (fun _=>True) nd.all.length w0:=fun l J Jx W hW _ _ hY h0=>
 all1_in F hd n hf1 hf hro l Bt nd b w0 hm hx J Jx hY W (TrK.of_below hW) (by simp[World.cell?,hW.block Bt (lt_of_heap hc),hc]) h0
end
end
section
open Go.RowKit Go.Shelf
section
attribute [local go_sem] Oper.semAt_some
variable {ad:List Nat}{ρ:Env}{tb lb:Nat}{s s':Lk}{w w':World}{nb:Nat}{txt:Nm}
theorem LkAt.grown(h:LkAt ad ρ tb lb s w){row:Option Nat}(hg:w.grownBy w' row)(hr:∀r,row=some r->tb≠r/\∃o:Obj,w.heap[r]?=some o/\o.isCells=false):LkAt ad ρ tb lb s w':=by
 have hc:∀(k:Nat)(c:Array Value)(t:TypeId)(f:Nat×Nat),w.heap[k]?=some (.cells c t f)->w'.heap[k]?=w.heap[k]?:=fun k c t f hk=>by
  refine hg.block k (lt_of_heap hk) fun e=>?_
  obtain⟨_,o,ho,hn⟩:=hr k e.symm
  rw[hk]at ho;cases ho;cases hn
 refine⟨?_,(hc _ _ _ _ h.lk).trans h.lk⟩
 obtain⟨n,f,h1,_⟩:=id h.tab
 have:=h.tab.kept (l:=[]) (w':=w') (hg.block tb h1.lt fun e=>(hr tb e.symm).1 rfl) (fun k c f hk=>hc k c _ f hk) (fun k c f hk=>hc k c _ f hk) (fun k c f hk=>hc k c _ f hk)
 rw[append_nil]at this;exact this
theorem contains_any{ls:List Nm}{a:Option Addr}{n c:Nat}(hr:w.ownsRow 0 tyStr 1 (.slice a n c) ls.length (ls.map strV))(x:Nm) :
  Calls prog 157 #[.slice a n c,.string (bs x)] w fun e w'=>e=.returned (.bool (ls.contains x))/\w'=w:=by
 have hmx:=ownsRow_max hr
 rcases ownsRow_forms hr with⟨h,h0⟩|⟨g,cap,h⟩
 ·cases h
  have hl:ls=[]:=List.length_eq_zero_iff.1 h0
  subst hl
  exact Tryz.slices_Contains_string_empty none 0 (bs x) w
 ·cases h
  have hc:=Tryz.slices_Contains_string g 0 ls.length c (ls.map bs) (bs x) w (by simp) hmx (fun j hj=>by
   have hj':j<ls.length:=by simpa using hj
   rw[Nat.zero_add,hr.cellAt j (by omega),List.getElem?_map,List.getElem?_eq_getElem hj']
   simp[strV,List.getD,hj'])
  have e:Lib.containsS ((ls.map bs).take ls.length) (bs x)=ls.contains x:=by
   rw[List.take_of_length_le (by simp)]
   rw[Bool.eq_iff_iff,Lib.containsS_iff,List.contains_iff_mem]
   constructor
   ·intro hm
    obtain⟨y,hy,hyx⟩:=List.mem_map.1 hm
    rw[<- bs_injT hyx];exact hy
   ·exact fun hm=>List.mem_map.2 ⟨x,hm,rfl⟩
  rw[e]at hc;exact hc
abbrev tyLookP:TypeId:=155
abbrev tyStrs:TypeId:=22
structure WtAt(ad:List Nat)(ρ:Env)(tb lb:Nat)(s:Lk)(ls:List Nm)(w wl:World){w0:World}(pre:List (NdIn w0))(W:World):Prop where
 lk:LkAt ad ρ tb lb (lkW ρ ls (pre.map (·.1.1)) s) W
 kn:Kn (fun k=>k=tb\/k=lb) wl W
theorem WtAt.own{ls:List Nm}{wl w0:World}{B:Nat}(ht:tb<B)(hB:wl.heap.size<=B):OwnFrom B (WtAt ad ρ tb lb s ls w wl (w0:=w0)):=by
 rintro pre W W' row h hg hr
 refine⟨h.lk.grown hg fun r e=>⟨by have:=(hr r e).1;omega,(hr r e).2⟩,?_⟩
 refine h.kn.grown hg fun k e=>inr ?_
 have:=(hr k e).1;omega
theorem keeps_of_kn{W W':World}{B:Nat}(h:Kn (fun k=>k=tb\/k=lb) W W')(h1:tb<B)(h2:lb<B):KeepsFrom B W W':=⟨h.size,fun k o hB hk _=>by
 rw[h.block k (Array.getElem?_eq_some_iff.1 hk).1 (by rintro (e|e)<;>omega)];exact hk⟩
theorem lkW_snoc(ls:List Nm)(l:List Nd)(x:Nd)(s:Lk):lkW ρ ls (l++[x]) s=(if x.k=21 then(lkW ρ ls l s).name (!ls.contains x.txt)else if x.k=22 then lkParts ρ (2,x.txt) Mg.letters x.ps.length (lkW ρ ls l s)else lkW ρ ls l s):=by
 unfold lkW;rw[List.foldl_append];rfl
theorem wt_round{ls:List Nm}{a:Option Addr}{n c:Nat}{wl W:World}{pre:List (NdIn wl)}(x:NdIn wl)(hr:wl.ownsRow 0 tyStr 1 (.slice a n c) ls.length (ls.map strV))(hll:LkAt ad ρ tb lb s wl)
  {B0:Nat} (b0:wl.heap[B0]?=some (.cells #[ptrV lb] tyLookP (0,0))) (b1:wl.heap[B0+1]?=some (.cells #[.slice a n c] tyStrs (0,0)))
  (hI:WtAt ad ρ tb lb s ls w wl pre W) :
  (∀u,Kn (fun _=>False) W u->(u.cell? ⟨B0,0,none⟩=some (ptrV lb)/\u.cell? ⟨B0+1,0,none⟩=some (.slice a n c)/\u.cell? ⟨x.1.2,0,none⟩=some (.int .i64 x.1.1.k)/\u.cell? ⟨x.1.2,1,none⟩=some (.string (bs x.1.1.txt)))) /\
  (x.1.1.k=21->∀u,Kn (fun _=>False) W u->Calls prog 157 #[.slice a n c,.string (bs x.1.1.txt)] u fun e u'=>∃b,e=.returned (.bool b)/\u'=u /\
   Calls prog 133 #[ptrV lb,.bool (!b)] u fun e u'=>e=.returned (.tuple #[])/\KeepsFrom wl.heap.size W u'/\TrK W u'/\WtAt ad ρ tb lb s ls w wl (pre++[x]) u') /\
  (x.1.1.k=22->∀u,Kn (fun _=>False) W u->Calls prog 158 #[ptrV lb,ptrV x.1.2,.agg #[.int .i64 (2:Nat),.string (bs x.1.1.txt)],.func (.func 159) #[] #[]] u fun e u'=>e=.returned (.tuple #[])/\KeepsFrom wl.heap.size W u'/\TrK W u'/\WtAt ad ρ tb lb s ls w wl (pre++[x]) u') /\
  (x.1.1.k≠21->x.1.1.k≠22->KeepsFrom wl.heap.size W W/\TrK W W/\WtAt ad ρ tb lb s ls w wl (pre++[x]) W):=by
 have hm:=x.2.1
 have hmk:x.1.1=.mk x.1.1.k x.1.1.txt x.1.1.ps:=by cases x.1.1;rfl
 have hx:=x.2.2
 obtain⟨hlk,hkn⟩:=hI
 have hmW:NMem W (.mk x.1.1.k x.1.1.txt x.1.1.ps) x.1.2:=by
  have:=hll.tree hkn hm
  rw[hmk]at this;exact this
 obtain⟨pv,bl,n1,_,_⟩:=hmW.inv
 have hlbl:lb<wl.heap.size:=lt_of_heap hll.lk
 obtain⟨_,_,hmp,_⟩:=id hll.tab
 have htbl:tb<wl.heap.size:=hmp.lt
 have d0:W.heap[B0]?=some (.cells #[ptrV lb] tyLookP (0,0)):=(hkn.block _ (lt_of_heap b0) (hll.not b0 (by decide))).trans b0
 have d1:W.heap[B0+1]?=some (.cells #[.slice a n c] tyStrs (0,0)):=(hkn.block _ (lt_of_heap b1) (hll.not b1 (by decide))).trans b1
 have hrow:W.ownsRow 0 tyStr 1 (.slice a n c) ls.length (ls.map strV):=ownsRow_kept hr fun q c f _ hc=>hkn.block q (lt_of_heap hc) (hll.not hc (by decide))
 have hfin:∀u' s2,Kn (fun k=>k=tb\/k=lb) W u'->LkAt ad ρ tb lb s2 u'->s2=lkW ρ ls ((pre++[x]).map (·.1.1)) s->KeepsFrom wl.heap.size W u'/\TrK W u'/\WtAt ad ρ tb lb s ls w wl (pre++[x]) u':=fun u' s2 hk hl hs=>by
  subst hs
  exact⟨keeps_of_kn hk htbl hlbl,TrK.of_kn hk fun q c t f ht hc=>hlk.not hc (by rcases ht with rfl|rfl<;>decide),hl,hkn.trans hk⟩
 refine⟨fun u hu=>⟨hu.cell id (by simp[World.cell?,d0]),hu.cell id (by simp[World.cell?,d1]),hu.cell id (by simp[World.cell?,n1]),hu.cell id (by simp[World.cell?,n1])⟩,?_,?_,?_⟩
 ·intro hk u hu
  refine(contains_any (ownsRow_kept hrow fun q c f _ hc=>hu.block q (lt_of_heap hc) id) x.1.1.txt).mono ?_
  rintro e u'⟨rfl,rfl⟩
  refine⟨_,rfl,rfl,(refuseName_any _ (hlk.stays hu)).mono ?_⟩
  rintro e u2⟨rfl,q1,q2⟩
  refine⟨rfl,hfin u2 _ ((hu.wide fun _ _ h=>h.elim).trans q2) q1 ?_⟩
  rw[map_append,map_cons,List.map_nil,lkW_snoc,if_pos hk]
 ·intro hk u hu
  have hmu:NMem u (.mk x.1.1.k x.1.1.txt x.1.1.ps) x.1.2:=NMem.kept (fun k c f hc=>hu.block k (lt_of_heap hc) id) (fun k c f hc=>hu.block k (lt_of_heap hc) id) _ x.1.2 hmW
  refine(lkNamed_any hx (hlk.stays hu) hmu).mono ?_
  rintro e u2⟨rfl,q1,q2⟩
  refine⟨rfl,hfin u2 _ ((hu.wide fun _ _ h=>h.elim).trans q2) q1 ?_⟩
  rw[map_append,map_cons,List.map_nil,lkW_snoc,if_neg (by omega),if_pos hk]
 ·intro h1 h2
  refine hfin W _ (Kn.refl _ _) hlk ?_
  rw[map_append,map_cons,List.map_nil,lkW_snoc,if_neg h1,if_neg h2]
theorem writtenLook_any{nd:Nd}{ls:List Nm}{a:Option Addr}{n c:Nat}(hr:w.ownsRow 0 tyStr 1 (.slice a n c) ls.length (ls.map strV))(hx:∀x∈nd.all,x.txt.length<=100000000)(h:LkAt ad ρ tb lb s w)(hn:NMem w nd nb) :
  Calls prog 137 #[ptrV lb,ptrV nb,.slice a n c] w (LkA ad ρ tb lb (lkW ρ ls nd.all s) w):=by
 obtain⟨wl,hwl⟩:∃wl,wl=((w.alloc (.cells #[ptrV lb] tyLookP)).alloc (.cells #[.slice a n c] tyStrs)).alloc (.cells #[ptrV nb] tyTreeP):=⟨_,rfl⟩
 have hkl:Kn (fun _=>False) w wl:=by rw[hwl];exact(((Kn.refl _ w).alloc _).alloc _).alloc _
 have hsz:wl.heap.size=w.heap.size+3:=by rw[hwl];simp
 have hlbl:lb<w.heap.size:=lt_of_heap h.lk
 obtain⟨_,_,hmp,_⟩:=id h.tab
 have htbl:tb<w.heap.size:=hmp.lt
 have b0:wl.heap[w.heap.size]?=some (.cells #[ptrV lb] tyLookP (0,0)):=by
  rw[hwl,Below.heap_alloc _ _ _ (by simp;omega),Below.heap_alloc _ _ _ (by simp)];exact(MapKept.heap_alloc w _).1
 have b1:wl.heap[w.heap.size+1]?=some (.cells #[.slice a n c] tyStrs (0,0)):=by
  rw[hwl,Below.heap_alloc _ _ _ (by simp)]
  have:=(MapKept.heap_alloc (w.alloc (.cells #[ptrV lb] tyLookP)) (.cells #[.slice a n c] tyStrs)).1
  simpa using this
 have b2:wl.heap[w.heap.size+2]?=some (.cells #[ptrV nb] tyTreeP (0,0)):=by
  rw[hwl]
  have:=(MapKept.heap_alloc ((w.alloc (.cells #[ptrV lb] tyLookP)).alloc (.cells #[.slice a n c] tyStrs)) (.cells #[ptrV nb] tyTreeP)).1
  simpa using this
 have hll:=h.stays hkl
 have hnl:NMem wl nd nb:=NMem.kept (fun k c f hc=>hkl.block k (lt_of_heap hc) id) (fun k c f hc=>hkl.block k (lt_of_heap hc) id) _ nb hn
 have hst:=all_stops Fence.wide rfl (5-1) trivial trivial rfl (w.heap.size+2) nd nb wl hnl hx b2
 have hI0:WtAt ad ρ tb lb s ls w wl (w0:=wl) [] wl:=⟨by simpa [lkW]using hll,Kn.refl _ _⟩
 have hown:OwnFrom wl.heap.size (WtAt ad ρ tb lb s ls w wl (w0:=wl)):=WtAt.own (by omega) (le_refl _)
 have HST:=hide hst
 have HI0:=hide hI0
 have HOWN:=hide hown
 refine(callsIn_wide (n:=5)).1 ?_
 refine callsIn_of_wp_marks func137 rfl trivial ?_ rfl
 simp only[ntmps137,List.size_toArray,length_cons,length_nil,Nat.reduceAdd,Nat.reduceSub,Array.replicate_succ,Array.replicate_zero,List.push_toArray,List.append_toArray,nil_append,cons_append]
 unfold ptrV at *
 gi_wp2_with (refine⟨trivial,?_⟩;gi_at_call 156;refine(all_in Fence.wide _ trivial rfl _ _).mono ?_;rintro e w'⟨rfl,rfl⟩)
 unfold ptrV
 rw[<- hwl]
 have hrl:wl.ownsRow 0 tyStr 1 (.slice a n c) ls.length (ls.map strV):=ownsRow_kept hr fun q c f _ hc=>hkl.block q (lt_of_heap hc) id
 have HRD:=hide (fun(pre:List (NdIn wl)) (x:NdIn wl) (W:World) (hI:WtAt ad ρ tb lb s ls w wl pre W)=>wt_round (w:=w) x hrl hll b0 b1 hI)
 have hend:∀D (W:World) (xs:List (NdIn wl)),xs.map (·.1.1)=nd.all->WtAt ad ρ tb lb s ls w wl xs W->wl.heap.size<=D->W.heap[D]?=some (.deferred (some []))->LkA ad ρ tb lb (lkW ρ ls nd.all s) w (.returned (.tuple #[])) (W.putObj D (.deferred none)):=fun D W xs hxs hI hD hK=>by
  obtain⟨h1,h2⟩:=hI
  rw[hxs]at h1
  refine⟨rfl,h1.grown (grownBy_putObj' W D _) fun r e=>?_,((hkl.wide fun _ _ h=>h.elim).trans h2).grown (grownBy_putObj' W D _) fun k e=>inr ?_⟩
  ·cases e;exact⟨by omega,_,hK,rfl⟩
  ·cases e;omega
 have HEND:=hide hend
 clear hrl hend hr hx h hn hkl hmp hll hnl hst hI0 hown b0 b1 b2 hwl
 have hnl:∀(W:World)(l:Nat)(o o':Obj),wl.heap.size<=l->W.heap[l]?=some o->o.isCells=false->o.isWalk=false->TrK W (W.putObj l o'):=fun W l o o' _ hl hc _=>TrK.putObj o' hl hc
 generalize LkA ad ρ tb lb (lkW ρ ls nd.all s) w=Q at *
 refine wpIn_rangeFunc_ownG rfl (by omega) (gf:=177) (lb:=#[.pointer (some ⟨w.heap.size+2,0,none⟩)]) ?hg trivial (enters_of func177 (by kernel_rfl) rfl)
  HST.out TrK.trans hnl (Below.refl _ _) (fun _=>rfl) (WtAt ad ρ tb lb s ls w wl) (fun _ _ _=>False) HOWN.out (fun _ _ _ _ _ hs _ _=>hs) HI0.out
  (fun x=>{ tmps:=#[.pointer (some ⟨lb,0,none⟩),.pointer (some ⟨nb,0,none⟩),.slice a n c,.pointer (some ⟨w.heap.size,0,none⟩),undef,.pointer (some ⟨w.heap.size+1,0,none⟩),.pointer (some ⟨x.1.2,0,none⟩),.pointer (some ⟨nb,0,none⟩),.func (.func 177) #[] #[.pointer (some ⟨w.heap.size+2,0,none⟩)],.pointer (some ⟨x.1.2,0,none⟩),undef,undef,undef,undef,undef,undef,undef,undef,undef,undef,undef,undef,undef,undef,undef,undef,undef,undef,undef,undef,undef,undef,undef,undef,undef],defers:=[] }) ?assign ?body ?done ?stop
 case hg=>simp[go_sem,Act.eval]
 case assign=>
  intro lr x W K hK
  unfold encT ptrV
  gi_wp2
  exact hK
 case body=>
  intro lr pre x W hI _
  obtain⟨hcell,h21,h22,hno⟩:=HRD.out pre x W hI
  obtain⟨hk0,_⟩:(W.cell? ⟨x.1.2,0,none⟩=some (.int .i64 x.1.1.k))/\True:=⟨(hcell W (Kn.refl _ _)).2.2.1,trivial⟩
  have HC:=hide hcell
  have H21:=hide h21
  have H22:=hide h22
  have HNO:=hide hno
  have HD:=hide (Kn.drewF W)
  have hal:∀u o u',Kn (fun _=>False) W u->u'=World.alloc u o->Kn (fun _=>False) W u':=fun u o u' hu e=>by
   subst e;exact hu.alloc o
  have HAL:=hide hal
  have hK:=fun(tx:ByteArray) (u:World)=>key2_any tx u
  have HK:=hide hK
  clear hcell h21 h22 hno hI hal hK HST HI0 HOWN HRD HEND hnl
  generalize WtAt ad ρ tb lb s ls w wl (w0:=wl)=I at *
  generalize hV:Kn (fun _=>False) W=V at *
  generalize bs x.1.1.txt=tx at *
  generalize x.1.1.k=k at *
  by_cases hk:k=21
  ·subst hk
   obtain⟨d1,d2,d3,d4⟩:=HC.out _ HD.out
   have HS:=hide (H21.out rfl _ HD.out)
   clear H21 H22 HNO HC HK HAL
   gi_wp2_with fail
   unfold ptrV at *
   gi_region_with (first|(refine⟨trivial,?_⟩;gi_at_call 157;refine(CallsIn.inRound lr (callsIn_wide.2 HS.out)).mono ?_;clear HS;rintro e u2⟨bb,rfl,rfl,hrf⟩;have HRF:=hide hrf;clear hrf)|(refine⟨trivial,?_⟩;gi_at_call 133;refine(CallsIn.inRound lr (callsIn_wide.2 HRF.out)).mono ?_;clear HRF;rintro e u3⟨rfl,hq⟩;have HQ:=hide hq;clear hq))
   all_goals
    gi_wp2
    exact HQ.out
  ·by_cases hk2:k=22
   ·subst hk2
    obtain⟨d1,d2,d3,d4⟩:=HC.out _ HD.out
    have HS:=hide (H22.out rfl)
    have e1:((22:Int)==21)=false:=by decide
    clear H21 H22 HNO
    gi_wp2_with fail
    unfold ptrV at *
    gi_region_with (first|(refine⟨trivial,?_⟩;gi_at_call 37;refine(CallsIn.inRound lr (callsIn_wide.2 (HK.out _ _))).mono ?_;rintro e u2⟨rfl,hu⟩;have HV:=hide (HAL.out _ _ _ HD.out hu);clear hu;have HP:=hide (HS.out _ HV.out);have hz:=HC.out _ HV.out;obtain⟨d1,d2,d3,d4⟩:=hz)|(refine⟨trivial,?_⟩;gi_at_call 158;refine(CallsIn.inRound lr (callsIn_wide.2 HP.out)).mono ?_;clear HP;rintro e u3⟨rfl,hq⟩;have HQ:=hide hq;clear hq))
    all_goals
     gi_wp2
     exact HQ.out
   ·have e1:((k:Int)==21)=false:=by simp only[beq_eq_false_iff_ne,ne_eq];omega
    have e2:((k:Int)==22)=false:=by simp only[beq_eq_false_iff_ne,ne_eq];omega
    have HG:=hide (HNO.out hk hk2)
    clear HNO H21 H22 HC
    gi_wp2
    exact HG.out
 case done=>
  intro D xs W hD hxs hI hK
  have HQ:=hide (HEND.out D W xs hxs hI hD hK)
  clear hI
  gi_wp2
  refine⟨by simp,.inl ⟨_,_,rfl,run_takeDeferred hK,?_⟩⟩
  exact⟨.tuple #[],by simp[results,results137,go_sem],HQ.out⟩
 case stop=>
  intro D c pre W _ _ h _
  exact h.elim
end
end
section
open Go.RowKit Go.Shelf
section
attribute [local go_sem] Oper.semAt_some
variable {w w':World}
def encN(x:Nm):Array Value:=#[.string (bs x)]
def VaAt(N:Nat)(sv:Value)(l:List Nm)(W:World):Prop:=
 (sv=.slice none 0 0/\l=[])\/∃g cap cur,sv=.slice (some ⟨g,0,none⟩) l.length cap/\g<N/\W.heap[g]?=some (.cells cur tyStr (0,0))/\∀(j:Nat)(t:Nm),l[j]?=some t->cur[j]?=some (strV t)
theorem VaAt.of_row{sv:Value}{l:List Nm}(h:w.ownsRow 0 tyStr 1 sv l.length (l.map strV)):VaAt w.heap.size sv l w:=by
 rcases h.2 with⟨rfl,hn0⟩|⟨g,cap,cur,rfl,hbg,hgg,hnc,hcm,hcs,htake⟩
 ·exact inl ⟨rfl,List.length_eq_zero_iff.1 hn0⟩
 ·refine inr ⟨g,cap,cur,rfl,lt_of_heap hgg,hgg,fun j tk hj=>?_⟩
  have hil:j<l.length:=(List.getElem?_eq_some_iff.1 hj).1
  have h1:(l.map strV)[j]?=some (strV tk):=by rw[List.getElem?_map,hj];rfl
  rw[<- htake,List.getElem?_take,if_pos (by omega)]at h1
  rw[<- Array.getElem?_toList];exact h1
theorem VaAt.kept{N:Nat}{sv:Value}{l:List Nm}{W W':World}(h:VaAt N sv l W)(hb:Below N W W'):VaAt N sv l W':=by
 rcases h with h|⟨g,cap,cur,h1,h2,h3,h4⟩
 ·exact inl h
 ·exact inr ⟨g,cap,cur,h1,h2,(hb.block g h2).trans h3,h4⟩
theorem values1_in(F:Fence)(n:Nat)(hf:F.fn 176)(hro:F.round=none)(hn:1<=n)(lr Bs N:Nat)(sv:Value)(l:List Nm)(hl:l.length<=100000000)(J Jx:List Nm->World->Prop)
  (hY:∀pre x W,J pre W->pre.length<l.length->YieldAt F (n-1) prog lr (encN x) W fun e W'=>
   (e=.returned (.bool true)/\J (pre++[x]) W'/\Below N W W')\/(e=.returned (.bool false)/\Jx (pre++[x]) W'))
  (W:World) (hBs:W.cell? ⟨Bs,0,none⟩=some sv) (hv:VaAt N sv l W) (h0:J [] W) :
  CallsIn F n prog 176 #[.func (.yield lr) #[] #[],.pointer (some ⟨Bs,0,none⟩)] W fun e W'=>(∃v,e=.returned v) /\
   ((∃ys,ys=l/\J ys W')\/(∃pre,True/\Jx pre W')):=by
 obtain⟨a,c,rfl,hav⟩:∃a c,sv=.slice a l.length c/\(0<l.length->∃g',a=some ⟨g',0,none⟩):=by
  rcases hv with⟨rfl,rfl⟩|⟨g,cap,cur,rfl,_⟩
  ·exact⟨none,0,rfl,fun h=>by simp at h⟩
  ·exact⟨_,cap,rfl,fun _=>⟨g,rfl⟩⟩
 refine callsIn_of_wp func176 rfl hf ?_ hro
 simp only[ntmps176,List.size_toArray,length_cons,length_nil,Nat.reduceAdd,Nat.reduceSub,Array.replicate_succ,Array.replicate_zero,List.push_toArray,List.append_toArray,nil_append,cons_append]
 gi_wp2
 gi_loopw [7] (fun i wr=>∃k:Nat,k<=l.length/\i=.int .i64 (k:Nat)/\J (l.take k) wr/\Below N W wr) (fun i _=>(l.length-intOf i).toNat)
 case atStart=>exact⟨0,zero_le _,rfl,by simpa using h0,Below.refl _ _⟩
 case round=>
  obtain⟨k,hk,rfl,hJs,hnx⟩:=hrel
  by_cases hlt:k<l.length
  ·have hvk:l[k]?=some l[k]:=List.getElem?_eq_getElem hlt
   have htk:l.take (k+1)=l.take k++[l[k]]:=by rw[List.take_add_one,hvk];rfl
   generalize l[k]=tk at hvk htk
   have hx:=hY _ tk wr hJs (by rw[List.length_take];omega)
   obtain⟨g,rfl⟩:=hav (by omega)
   have hvr:=hv.kept hnx
   have hcell:wr.cell? ⟨g,k,none⟩=some (.string (bs tk))/\g<wr.heap.size:=by
    rcases hvr with⟨h1,_⟩|⟨g2,cap2,cur,h1,h2,h3,h4⟩
    ·cases h1
    ·cases h1
     have:=h4 k tk hvk
     refine⟨?_,lt_of_heap h3⟩
     simp[World.cell?,h3]
     simpa [strV]using this
   obtain⟨hcell,hgl⟩:=hcell
   obtain⟨fn,tmps,assign,body,hy,hR⟩:=hx
   unfold encN at hy
   have hi3:(k:Int)<(l.length:Int):=by omega
   clear hvr hav hY
   gi_wp2
   refine hR.mono ?_
   rintro e W3 (⟨rfl,hJ3,hk3⟩|⟨rfl,hJx3⟩)
   ·gi_wp2
    go_roundw
    case rel=>exact⟨k+1,by omega,by simp,by rw[htk];exact hJ3,hnx.trans hk3⟩
    case measure=>simp[intOf];omega
   ·gi_wp2
    refine bodyPost_ret (results_none rfl _ _ _) rfl ?_
    exact⟨⟨_,rfl⟩,.inr ⟨_,trivial,hJx3⟩⟩
  ·obtain rfl:k=l.length:=by omega
   have hi1:¬(l.length:Int)<(l.length:Int):=by omega
   gi_wp2
   go_end0
   rw[List.take_length]at hJs
   exact⟨⟨_,rfl⟩,.inl hJs⟩
theorem values_in(F:Fence)(n:Nat)(hf:F.fn 153)(hro:F.round=none)(a:Option Addr)(len cap:Nat)(w:World) :
  CallsIn F n prog 153 #[.slice a len cap] w fun e w'=>e=.returned (.func (.func 176) #[] #[.pointer (some ⟨w.heap.size,0,none⟩)])/\w'=w.alloc (.cells #[.slice a len cap] 22):=by
 refine callsIn_of_wp func153 rfl hf ?_ hro
 simp only[ntmps153,List.size_toArray,length_cons,length_nil,Nat.reduceAdd,Nat.reduceSub,Array.replicate_succ,Array.replicate_zero,List.push_toArray,List.append_toArray,nil_append,cons_append]
 gi_wp2
 go_ret
 exact⟨rfl,rfl⟩
theorem values_stops(F:Fence)(n:Nat)(hf:F.fn 176)(hro:F.round=none)(hn:1<=n)(Bs:Nat)(sv:Value)(l:List Nm)(hl:l.length<=100000000)(w:World)
  (hc:w.heap[Bs]?=some (.cells #[sv] 22 (0,0))) (hT:VaAt w.heap.size sv l w) :
  SeqStopsK F n prog 176 #[.pointer (some ⟨Bs,0,none⟩)] encN (Below w.heap.size) (fun ys=>ys=l) (fun _=>True) l.length w:=fun lr J Jx W hW _ _ hY h0=>
 values1_in F n hf hro hn lr Bs w.heap.size sv l hl J Jx hY W (by simp[World.cell?,hW.block Bs (lt_of_heap hc),hc]) (hT.kept hW) h0
end
end
end Go.Proofs.YtcbppnefeonmgaaGreatDoor
