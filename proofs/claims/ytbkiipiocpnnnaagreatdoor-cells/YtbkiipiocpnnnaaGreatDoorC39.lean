import Derived.Test.YtbkiipiocpnnnaaGreatDoorC38
import Derived.Test.YtbkiipiocpnnnaaGreatDoorC34
set_option linter.all false
set_option maxHeartbeats 40000000
set_option maxRecDepth 100000
open Go.Proofs.Tryz
open Classical (choice)
open Or (inl inr)
open Option (map_eq_some_iff)
open Nat (le_refl le_trans zero_le)
open List (append_nil length_append length_cons mem_append mem_singleton cons_append mem_cons length_nil map_append map_cons nil_append)
namespace Go.Proofs.YtbkiipiocpnnnaaGreatDoor
section
open Go.RowKit Go.Shelf
attribute [local go_sem] Oper.semAt_some
def backAt(l:Toks)(j:Nat):Int×List UInt8:=((l.length:Int)-1-j,l[l.length-1-j]?.getD [])
def backTo(l:Toks)(k:Nat):List (Int×List UInt8):=(List.range k).map (backAt l)
theorem backTo_succ(l:Toks)(k:Nat):backTo l (k+1)=backTo l k++[backAt l k]:=by simp[backTo,List.range_succ]
theorem backTo_length(l:Toks)(k:Nat):(backTo l k).length=k:=by simp[backTo]
def encB(x:Int×List UInt8):Array Value:=#[.int .i64 x.1,.string (bs x.2)]
def KeepB(B N:Nat)(W W':World):Prop:=W.heap.size<=W'.heap.size/\∀k,k<N->k≠B->W'.heap[k]?=W.heap[k]?
theorem KeepB.trans{B N:Nat}{a b c:World}(h:KeepB B N a b)(k:KeepB B N b c):KeepB B N a c:=⟨le_trans h.1 k.1,fun i hi hB=>(k.2 i hi hB).trans (h.2 i hi hB)⟩
theorem back1_in(F:Fence)(n:Nat)(hf:F.fn 231)(hro:F.round=none)(hn:1<=n)(lr Bs B N g cap:Nat)(l:Toks)(hl:l.length<=4001)(hg:g<N)(hgB:g≠B)(hBs:Bs<N)(hBsB:Bs≠B)(J Jx:List (Int×List UInt8)->World->Prop)
  (hY:∀pre x W,J pre W->pre.length<l.length->YieldAt F (n-1) prog lr (encB x) W fun e W'=>
   (e=.returned (.bool true)/\J (pre++[x]) W'/\KeepB B N W W')\/(e=.returned (.bool false)/\Jx (pre++[x]) W'))
  (W:World) (cur:Array Value) (hBs1:W.heap[Bs]?=some (.cells #[.slice (some ⟨g,0,none⟩) l.length cap] 22 (0,0))) (hg1:W.heap[g]?=some (.cells cur tyStr (0,0))) (hc:∀(j:Nat)(t:List UInt8),l[j]?=some t->cur[j]?=some (strV t)) (h0:J [] W) :
  CallsIn F n prog 231 #[.func (.yield lr) #[] #[],.pointer (some ⟨Bs,0,none⟩)] W fun e W'=>(∃v,e=.returned v) /\
   ((∃ys,ys=backTo l l.length/\J ys W')\/(∃pre,(∃k,k<=l.length/\pre=backTo l k)/\Jx pre W')):=by
 refine callsIn_of_wp func231 rfl hf ?_ hro
 simp only[ntmps231,List.size_toArray,length_cons,length_nil,Nat.reduceAdd,Nat.reduceSub,Array.replicate_succ,Array.replicate_zero,List.push_toArray,List.append_toArray,nil_append,cons_append]
 have cB:W.cell? ⟨Bs,0,none⟩=some (.slice (some ⟨g,0,none⟩) l.length cap):=by simp[World.cell?,hBs1]
 gi_wp2
 gi_loopw [3] (fun i wr=>∃k:Nat,k<=l.length/\i=.int .i64 ((l.length:Int)-1-k)/\J (backTo l k) wr/\KeepB B N W wr)
  (fun i _=>(intOf i+1).toNat)
 case atStart=>exact⟨0,zero_le _,by simp,h0,⟨le_refl _,fun _ _ _=>rfl⟩⟩
 case round=>
  obtain⟨k,hk,rfl,hJs,hnx⟩:=hrel
  have eB:wr.cell? ⟨Bs,0,none⟩=some (.slice (some ⟨g,0,none⟩) l.length cap):=by simp[World.cell?,hnx.2 Bs hBs hBsB,hBs1]
  by_cases hlt:k<l.length
  ·have hx:=hY _ (backAt l k) wr hJs (by rw[backTo_length];exact hlt)
   have hj:l.length-1-k<l.length:=by omega
   obtain⟨tk,htk⟩:∃tk,l[l.length-1-k]?=some tk:=⟨_,List.getElem?_eq_getElem hj⟩
   have hba:backAt l k=((l.length:Int)-1-k,tk):=by unfold backAt;rw[htk];rfl
   have hcell:wr.cell? ⟨g,l.length-1-k,none⟩=some (.string (bs tk)):=by
    have:=hc (l.length-1-k) tk htk
    simp[World.cell?,hnx.2 g hg hgB,hg1]
    simpa [strV]using this
   rw[hba]at hx
   have hbs:backTo l (k+1)=backTo l k++[((l.length:Int)-1-k,tk)]:=by rw[backTo_succ,hba]
   clear htk hba
   obtain⟨fn,tmps,assign,body,hy,hR⟩:=hx
   unfold encB at hy
   have hi1:(0:Int)<=(l.length:Int)-1-k:=by omega
   have hi2:((l.length:Int)-1-k).toNat=l.length-1-k:=by omega
   have hi3:(l.length:Int)-1-k<(l.length:Int):=by omega
   gi_wp2
   refine hR.mono ?_
   rintro e W3 (⟨rfl,hJ3,hk3⟩|⟨rfl,hJx3⟩)
   ·gi_wp2
    go_roundw
    case rel=>exact⟨k+1,by omega,by simp;omega,by rw[hbs];exact hJ3,hnx.trans hk3⟩
    case measure=>simp[intOf];omega
   ·gi_wp2
    refine bodyPost_ret (results_none rfl _ _ _) rfl ?_
    exact⟨⟨_,rfl⟩,.inr ⟨_,⟨k+1,by omega,hbs.symm⟩,hJx3⟩⟩
  ·obtain rfl:k=l.length:=by omega
   have hi1:¬(0:Int)<=(l.length:Int)-1-l.length:=by omega
   gi_wp2
   go_end0
   exact⟨⟨_,rfl⟩,.inl hJs⟩
theorem back1_nil(F:Fence)(n:Nat)(hf:F.fn 231)(hro:F.round=none)(lr Bs:Nat)(J:List (Int×List UInt8)->World->Prop)(W:World)(hBs:W.cell? ⟨Bs,0,none⟩=some (.slice none 0 0))(h0:J [] W) :
  CallsIn F n prog 231 #[.func (.yield lr) #[] #[],.pointer (some ⟨Bs,0,none⟩)] W fun e W'=>(∃v,e=.returned v)/\J [] W':=by
 refine callsIn_of_wp func231 rfl hf ?_ hro
 simp only[ntmps231,List.size_toArray,length_cons,length_nil,Nat.reduceAdd,Nat.reduceSub,Array.replicate_succ,Array.replicate_zero,List.push_toArray,List.append_toArray,nil_append,cons_append]
 gi_wp2
 gi_loopw [3] (fun i wr=>i=.int .i64 (-1)/\J [] wr) (fun _ _=>0)
 case atStart=>exact⟨rfl,h0⟩
 case round=>
  obtain⟨rfl,hJs⟩:=hrel
  gi_wp2
  go_end0
  exact⟨⟨_,rfl⟩,hJs⟩
theorem back_in(F:Fence)(n:Nat)(hf:F.fn 174)(hro:F.round=none)(a:Option Addr)(len cap:Nat)(w:World) :
  CallsIn F n prog 174 #[.slice a len cap] w fun e w'=>e=.returned (.func (.func 231) #[] #[.pointer (some ⟨w.heap.size,0,none⟩)])/\w'=w.alloc (.cells #[.slice a len cap] 22):=by
 refine callsIn_of_wp func174 rfl hf ?_ hro
 simp only[ntmps174,List.size_toArray,length_cons,length_nil,Nat.reduceAdd,Nat.reduceSub,Array.replicate_succ,Array.replicate_zero,List.push_toArray,List.append_toArray,nil_append,cons_append]
 gi_wp2
 go_ret
 exact⟨rfl,rfl⟩
def TextsAt(B N:Nat)(W:World)(sv:Value)(l:Toks):Prop:=
 (sv=.slice none 0 0/\l=[])\/∃g cap cur,sv=.slice (some ⟨g,0,none⟩) l.length cap/\g<N/\g≠B/\W.heap[g]?=some (.cells cur tyStr (0,0))/\∀(j:Nat)(t:List UInt8),l[j]?=some t->cur[j]?=some (strV t)
theorem back_stops(F:Fence)(n:Nat)(hf:F.fn 231)(hro:F.round=none)(hn:1<=n)(Bs B:Nat)(sv:Value)(l:Toks)(hl:l.length<=4001)(w:World)(hBs:Bs<w.heap.size)(hBsB:Bs≠B)
  (hc:w.heap[Bs]?=some (.cells #[sv] 22 (0,0))) (hT:TextsAt B w.heap.size w sv l) :
  SeqStopsK F n prog 231 #[.pointer (some ⟨Bs,0,none⟩)] encB (KeepB B w.heap.size) (fun ys=>ys=backTo l l.length) (fun pre=>∃k,pre=backTo l k) l.length w:=fun lr J Jx W hW _ _ hY h0=>by
 have hc':=(hW.block Bs hBs).trans hc
 rcases hT with⟨rfl,rfl⟩|⟨g,cap,cur,rfl,hg,hgB,hgg,hcs⟩
 ·exact(back1_nil F n hf hro lr Bs J W (by simp[World.cell?,hc']) h0).mono fun e W' ⟨he,hj⟩=>⟨he,.inl ⟨_,rfl,hj⟩⟩
 ·refine(back1_in F n hf hro hn lr Bs B w.heap.size g cap l hl hg hgB hBs hBsB J Jx hY W cur hc' ((hW.block g hg).trans hgg) hcs h0).mono ?_
  rintro e W'⟨he,⟨ys,rfl,hj⟩|⟨pre,⟨k,hk,rfl⟩,hj⟩⟩
  ·exact⟨he,.inl ⟨_,rfl,hj⟩⟩
  ·exact⟨he,.inr ⟨_,⟨k,rfl⟩,hj⟩⟩
def funsOf(t:Tr)(pre:List (Int×List UInt8)):Tr:=pre.foldl (fun z x=>.mk K.fun_ x.2 [z]) t
theorem funsOf_snoc(t:Tr)(pre:List (Int×List UInt8))(x:Int×List UInt8):funsOf t (pre++[x])=.mk K.fun_ x.2 [funsOf t pre]:=by simp[funsOf]
theorem curried_back:∀(l:Toks)(t:Tr),G.curried l t=l.reverse.foldl (fun z a=>.mk K.fun_ a [z]) t:=by
 intro l
 induction l with
 |nil=>intro t;rfl
 |cons a r ih=>intro t;rw[G.curried,ih,List.reverse_cons,List.foldl_append];rfl
theorem backTo_all(l:Toks):(backTo l l.length).map (·.2)=l.reverse:=by
 apply List.ext_getElem
 ·simp[backTo]
 ·intro i h1 h2
  have hi:i<l.length:=by simpa [backTo]using h1
  simp[backTo,backAt,List.getElem_reverse]
  rw[List.getElem?_eq_getElem (by omega)]
  rfl
theorem funsOf_all(l:Toks)(t:Tr):funsOf t (backTo l l.length)=G.curried l t:=by
 rw[curried_back,<- backTo_all,List.foldl_map]
 rfl
def FunAt(w0 w:World)(t:Tr)(pre:List (Int×List UInt8))(W:World):Prop:=
 ∃b',W.heap[w.heap.size]?=some (.cells #[ptrV b'] tyTreeP (0,0))/\Mem (fun g=>w0.heap.size<=g/\g≠w.heap.size) W 0 (funsOf t pre) b'/\Below w.heap.size w W/\w.heap.size+2<=W.heap.size
theorem funAt_own(w0 w:World)(t:Tr)(B:Nat)(hB:w.heap.size<=B):OwnFrom B (FunAt w0 w t):=by
 rintro s W W' row⟨b',h1,h2,h3,h4⟩ hg hr
 have hk:∀(k:Nat)(c:Array Value)(T:TypeId)(f:Nat×Nat),W.heap[k]?=some (.cells c T f)->W'.heap[k]?=W.heap[k]?:=by
  intro k c T f he
  refine hg.block k (lt_of_heap he) (fun e=>?_)
  obtain⟨_,o,ho,hc⟩:=hr k e.symm
  rw[he]at ho
  obtain rfl:=Option.some.inj ho
  simp[Obj.isCells]at hc
 refine⟨b',by rw[hk _ _ _ _ h1];exact h1,h2.kept (fun k c f he=>hk k c _ f he) (fun k c f hA he=>⟨hk k c _ f he,hA⟩),h3.grown hg h3.size (fun k e=>le_trans hB (hr k e).1),le_trans h4 hg.size⟩
theorem funOf_any:FunOf:=by
 intro w0 w v l t b hw hv hl hm
 have hT:TextsAt w.heap.size (w.heap.size+2) ((w.alloc (.cells #[ptrV b] tyTreeP)).alloc (.cells #[v] 22)) v l:=by
  rcases hv.2 with⟨rfl,hn0⟩|⟨g,cap,cur,rfl,hbg,hgg,hnc,hcm,hcs,htake⟩
  ·exact inl ⟨rfl,List.length_eq_zero_iff.1 hn0⟩
  ·have hgl:=lt_of_heap hgg
   refine inr ⟨g,cap,cur,rfl,by omega,by omega,by rw[Below.heap_alloc _ _ _ (by simp;omega),Below.heap_alloc _ _ _ hgl];exact hgg,fun j tk hj=>?_⟩
   have hil:j<l.length:=by
    by_cases hil:j<l.length
    ·exact hil
    ·rw[List.getElem?_eq_none (by omega)]at hj;cases hj
   have h1:(l.map strV)[j]?=some (strV tk):=by rw[List.getElem?_map,hj];rfl
   rw[<- htake,List.getElem?_take,if_pos (by omega)]at h1
   rw[<- Array.getElem?_toList];exact h1
 have hFA:FunAt w0 w t [] ((w.alloc (.cells #[ptrV b] tyTreeP)).alloc (.cells #[v] 22)):=by
  refine⟨b,?_,((hm.wide (A':=fun g=>w0.heap.size<=g/\g≠w.heap.size) fun k hf hlt=>⟨hf,by omega⟩).alloc _).alloc _,((Below.refl _ w).alloc (le_refl _) _).alloc (by simp) _,by simp⟩
  rw[Below.heap_alloc _ _ _ (by simp)]
  simp only[World.alloc,Array.getElem?_push_size]
 obtain⟨va,vn,vc,rfl⟩:∃a n c,v=.slice a n c:=by
  rcases ownsRow_forms hv with⟨rfl,_⟩|⟨g,cap,rfl⟩
  ·exact⟨_,_,_,rfl⟩
  ·exact⟨_,_,_,rfl⟩
 have HT:=hide hT
 have HFA:=hide hFA
 clear hT hFA hv hm
 unfold ptrV at *
 refine(callsIn_wide (n:=3)).1 ?_
 refine callsIn_of_wp_marks func128 rfl trivial ?_ rfl
 simp only[ntmps128,List.size_toArray,length_cons,length_nil,Nat.reduceAdd,Nat.reduceSub,Array.replicate_succ,Array.replicate_zero,List.push_toArray,List.append_toArray,nil_append,cons_append]
 gi_wp2_with (refine⟨trivial,?_⟩;gi_at_call 174;refine(back_in Fence.wide _ trivial rfl _ _ _ _).mono ?_;rintro e w'⟨rfl,rfl⟩)
 have hsz:((w.alloc (.cells #[.pointer (some ⟨b,0,none⟩)] tyTreeP)).alloc (.cells #[.slice va vn vc] 22)).heap.size=w.heap.size+2:=by simp
 have hst:=back_stops Fence.wide (3-1) trivial rfl (by omega) (w.heap.size+1) w.heap.size (.slice va vn vc) l hl ((w.alloc (.cells #[.pointer (some ⟨b,0,none⟩)] tyTreeP)).alloc (.cells #[.slice va vn vc] 22)) (by simp) (by omega)
  (by rw[show w.heap.size+1=(w.alloc (.cells #[.pointer (some ⟨b,0,none⟩)] tyTreeP)).heap.size by simp];simp only[World.alloc,Array.getElem?_push_size]) (by rw[hsz];exact HT.out)
 refine wpIn_rangeFunc_ownF rfl (by omega) (gf:=231) (lb:=#[.pointer (some ⟨w.heap.size+1,0,none⟩)]) ?hg trivial (enters_of func231 (by kernel_rfl) rfl)
  hst (fun h k=>h.trans k) ?hkb (Below.refl _ _) (fun _=>rfl) (FunAt w0 w t) (fun _ _ _=>False) (funAt_own w0 w t _ (by simp;omega)) (fun _ _ _ _ _ hs _ _=>hs) HFA.out
  (fun x=>{ tmps:=#[.slice va vn vc,.pointer (some ⟨b,0,none⟩),undef,.pointer (some ⟨w.heap.size,0,none⟩),.pointer none,undef,.string (bs x.2),.slice va vn vc,.func (.func 231) #[] #[.pointer (some ⟨w.heap.size+1,0,none⟩)],.int .i64 x.1,.string (bs x.2),undef,undef,undef,undef,undef],defers:=[] }) ?assign ?body ?done ?stop
 case hg=>rfl
 case hkb=>
  intro W k o o' hk ho _ _
  have hk2:w.heap.size+2<=k:=by simpa using hk
  refine⟨by simp,fun i hi _=>World.putObj_heap_other ?_⟩
  rw[hsz]at hi
  omega
 case assign=>
  intro lr x W K hK
  unfold encB
  gi_wp2
  exact hK
 case body=>
  rintro lr pre x W⟨b',h1,h2,h3,h4⟩ _
  have c0:W.cell? ⟨w.heap.size,0,none⟩=some (.pointer (some ⟨b',0,none⟩)):=by simp[World.cell?,h1,ptrV]
  have f0:W.frozen? ⟨w.heap.size,0,none⟩=false:=by simp[World.frozen?,h1]
  have HN:=hide (New1 W b' 5 (bs x.2))
  have hb1:(w1P W b' 5 (bs x.2)).heap[w.heap.size]?=some (.cells #[ptrV b'] tyTreeP (0,0)):=by
   unfold w1P
   rw[Below.heap_alloc _ _ _ (by simp;omega),Below.heap_alloc _ _ _ (by omega)];exact h1
  have hnext:FunAt w0 w t (pre++[x]) ((w1P W b' 5 (bs x.2)).setCell ⟨w.heap.size,0,none⟩ (.pointer (some ⟨W.heap.size+1,0,none⟩))):=by
   have hrow:=ptr1 W b'
   have hmk:=Mem.made (A:=fun g=>w0.heap.size<=g/\g≠w.heap.size) (c:=0) (is:=K.fun_) (name:=x.2) (ts:=[funsOf t pre]) (KindOf.fun_ x.2) (ownsRow_base hrow (zero_le _)) (fun g hg=>by
    have:W.heap.size=g:=by simpa [Value.ownBlock]using hg
    omega) (.cons (h2.alloc _) .nil)
   have hz:(W.alloc (.cells #[.pointer (some ⟨b',0,none⟩)] tyTreeP)).heap.size=W.heap.size+1:=by simp
   rw[hz]at hmk
   refine⟨W.heap.size+1,?_,?_,?_,?_⟩
   ·simp only[World.setCell,Array.getElem?_modify,if_pos,hb1,Option.map_some,Option.isSome_none,Bool.false_eq_true,if_false]
    simp[ptrV]
   ·rw[funsOf_snoc]
    refine Mem.kept (fun k c f he=>Below.heap_setCell _ _ _ _ (fun e=>?_)) (fun k c f hA he=>⟨Below.heap_setCell _ _ _ _ hA.2,hA⟩) hmk
    subst e
    have he2:(w1P W b' 5 (bs x.2)).heap[w.heap.size]?=some (.cells c tyTree f):=he
    rw[hb1]at he2;simp at he2
    exact absurd he2.2.1 (by decide)
   ·unfold w1P
    exact((h3.alloc h3.size _).alloc (by simp;omega) _).setCell (le_refl _) _
   ·unfold w1P
    simp[World.setCell];omega
  have HNX:=hide hnext
  have HKO:=hide (show KeepsOthers W ((w1P W b' 5 (bs x.2)).setCell ⟨w.heap.size,0,none⟩ (.pointer (some ⟨W.heap.size+1,0,none⟩)))from((KeepsOthers.alloc _ _).trans (KeepsOthers.alloc _ _)).trans (KeepsOthers.setCell _ _ _))
  have HKB:=hide (show KeepB w.heap.size ((w.alloc (.cells #[.pointer (some ⟨b,0,none⟩)] tyTreeP)).alloc (.cells #[.slice va vn vc] 22)).heap.size W ((w1P W b' 5 (bs x.2)).setCell ⟨w.heap.size,0,none⟩ (.pointer (some ⟨W.heap.size+1,0,none⟩)))from by
   refine⟨by unfold w1P;simp[World.setCell];omega,fun k hk hne=>?_⟩
   rw[hsz]at hk
   rw[Below.heap_setCell _ _ _ _ hne]
   unfold w1P
   rw[Below.heap_alloc _ _ _ (by simp;omega),Below.heap_alloc _ _ _ (by omega)])
  have c1:(w1P W b' 5 (bs x.2)).cell? ⟨w.heap.size,0,none⟩=some (.pointer (some ⟨b',0,none⟩)):=by simp[World.cell?,hb1,ptrV]
  have f1:(w1P W b' 5 (bs x.2)).frozen? ⟨w.heap.size,0,none⟩=false:=by simp[World.frozen?,hb1]
  unfold ptrV at HN
  clear hb1
  clear h1 h2 h3 h4 hnext
  gi_wp2_with (refine⟨trivial,?_⟩;gi_at_call 89;refine(CallsIn.inRound lr (callsIn_wide.2 HN.out)).mono ?_;rintro e w'⟨rfl,rfl⟩)
  exact⟨HKO.out,HKB.out,HNX.out⟩
 case done=>
  rintro D xs W hD rfl⟨b',h1,h2,h3,h4⟩ hK
  have c0:W.cell? ⟨w.heap.size,0,none⟩=some (.pointer (some ⟨b',0,none⟩)):=by simp[World.cell?,h1,ptrV]
  rw[funsOf_all]at h2
  have hDn:∀(k:Nat)(c:Array Value)(T:TypeId)(f:Nat×Nat),W.heap[k]?=some (.cells c T f)->(W.putObj D (.deferred none)).heap[k]?=W.heap[k]?:=by
   intro k c T f he
   refine World.putObj_heap_other (fun e=>?_)
   subst e
   rw[he]at hK;cases hK
  have HM:=hide (show Mem (From w0) (W.putObj D (.deferred none)) 0 (G.curried l t) b' from h2.kept (fun k c f he=>hDn k c _ f he) (fun k c f hA he=>⟨hDn k c _ f he,hA.1⟩))
  have HB:=hide (show Below w.heap.size w (W.putObj D (.deferred none))from h3.trans (belowK_b (w:=w) (le_refl _) W D _ _ (by simp at hD;omega) hK rfl rfl))
  clear h1 h2 h3 h4 hDn
  gi_wp2
  refine⟨by simp,.inl ⟨_,_,rfl,run_takeDeferred hK,?_⟩⟩
  exact⟨_,results_tmp rfl _ _ _,b',rfl,HM.out,HB.out⟩
 case stop=>
  rintro D c pre W _ _ h _
  exact h.elim
end
section
open Go.RowKit Go.Shelf
abbrev tyBuild:TypeId:=55
abbrev tyByte:TypeId:=5
theorem Tryz.sizeBuild:(prog.info? tyBuild).map (·.size)=some 2:=by kernel_rfl
theorem Tryz.infoByteB:(prog.info? tyByte).map (fun i=>(i.zero,i.size,i.bytes))=some (some (.int .u8 0),1,1):=by kernel_rfl
theorem check_used(b:Nat)(w:World)(h0:w.cell? ⟨b,0,none⟩=some (.pointer (some ⟨b,0,none⟩))) :
  Calls prog 65 #[.pointer (some ⟨b,0,none⟩)] w fun e w'=>e=.returned (.tuple #[])/\w'=w:=by
 obtain⟨j,hj,_⟩:=map_eq_some_iff.1 Tryz.sizeBuild
 go_enter func65,ntmps65
 go_wp2
 rw[Lib.run_neq_ptr_same w _ underlying53 hj]
 go_wp2
 go_end0
 exact⟨rfl,rfl⟩
end
section
open Go.RowKit
theorem byteCells_app(a b:List UInt8):Lib.byteCells a++Lib.byteCells b=Lib.byteCells (a++b):=by simp[Lib.byteCells]
theorem strCells_bs(x:List UInt8):Lib.strCells (bs x)=Lib.byteCells x:=by rw[Lib.strCells_eq,bs_data]
end
section
open Go.RowKit
def progD(D:Toks->Option Tr):Nat->Toks->List Tr->List Tr×Nat×Nat
 |0,_,acc=>(acc,0,0)
 |n+1,T,acc=>
  if T.length=0 then(acc,0,0)
  else if stopAt T=T.length then([],acc.length,3)
  else match D (T.take (stopAt T))with
   |none=>([],acc.length,3)
   |some t=>progD D n (T.drop (stopAt T+1)) (acc++[t])
def progAD(D:Toks->Option Tr)(l:List UInt8):List Tr×Nat×Nat:=if (cutL l).2.2=0 then progD D ((cutL l).1.length+1) (cutL l).1 []else([],(cutL l).2.1,(cutL l).2.2)
def Low(D:Toks->Option Tr):Prop:=∀ts t,D ts=some t->∃n,G.decl n ts=some t
def ProgAtL(w:World)(T:Toks)(gk:Nat)(v5 v8:Value)(wr:World):Prop:=
 ∃ts1 acc ps n,gk=ts1.length/\ts1.length<=T.length/\ts1.length<n/\ps.length+ts1.length<=T.length/\T.length<=4000/\((v5=.slice none 0 0/\ts1=[])\/∃tb o cap,v5=.slice (some ⟨tb,o,none⟩) ts1.length cap/\TokAt tb o cap ts1 wr) /\
  wr.ownsRow w.heap.size tyTreeP 1 v8 ps.length (ps.map ptrV)/\Below w.heap.size w wr/\Mem.Mems (fun g=>w.heap.size<=g/\v8.ownBlock≠some g) wr (List.replicate ps.length 4) acc ps/\progD (choice lf).decl (T.length+1) T []=progD (choice lf).decl n ts1 acc
theorem p_ProgramL(hF:FunOf)(txt:ByteArray)(w:World)(hs:txt.size<=maxLen):Calls prog 10 #[.string txt] w (AnsP w (progAD (choice lf).decl txt.data.toList)):=by
 have hc:=Cut_any txt w hs
 have hlen:=cutL_len txt.data.toList
 have hgood:=fun(h0:(cutL txt.data.toList).2.1=0) (h:(cutL txt.data.toList).2.2=0)=>cutL_good txt.data.toList (cutL txt.data.toList).1 (Prod.ext rfl (Prod.ext h0 h))
 have hz:=fun(h:(cutL txt.data.toList).2.2=0)=>cutL_zero txt.data.toList h
 unfold progAD
 generalize cutL txt.data.toList=R at *
 obtain⟨T,at_,er⟩:=R
 simp only at hc hlen hgood hz ⊢
 have HC:=hide hc
 have HF:=hide hF
 clear hc hF
 by_cases her:er=0
 ·subst her
  have h0:=hz rfl
  subst h0
  have HG:=hide (hgood rfl rfl)
  rw[if_pos rfl]
  clear hgood hz
  go_enter func10,ntmps10
  go_wp2_with fail
  refine(HC.out).mono ?_;rintro e w1⟨v1,rfl,hv1,hb1⟩
  have HAt:Hid (ProgAtL w T T.length v1 (.slice none 0 0) w1):=by
   refine⟨T,[],[],T.length+1,rfl,le_refl _,by omega,by simp,hlen,?_,World.ownsRow_nil _ _ _ _,hb1,.nil,rfl⟩
   rcases hv1.2 with⟨rfl,hn0⟩|⟨g,cap,cur,rfl,hbg,hgg,hnc,hcm,hcs,htake⟩
   ·exact inl ⟨rfl,List.length_eq_zero_iff.1 hn0⟩
   ·refine inr ⟨g,0,cap,rfl,hlen,fun t ht=>⟨⟨?_,(HG.out t ht).2⟩,(HG.out t ht).1.1⟩,cur,hgg,hnc,hcm,fun i t hi=>?_⟩
    ·have:=((HG.out t ht).1.2 [] (inl rfl)).1
     rw[append_nil]at this;exact this
    ·have hil:i<T.length:=by
      by_cases hil:i<T.length
      ·exact hil
      ·rw[List.getElem?_eq_none (by omega)]at hi;cases hi
     have h1:(T.map strV)[i]?=some (strV t):=by rw[List.getElem?_map,hi];rfl
     rw[<- htake,List.getElem?_take,if_pos (by omega)]at h1
     rw[Nat.zero_add,<- Array.getElem?_toList];exact h1
  clear HC HG hv1 hb1
  go_wp2_with fail
  go_loopg [5,8] T.length (fun gk v5 v8 wr=>Hid (ProgAtL w T gk v5 v8 wr))
  case atStart=>exact HAt
  case round=>
   clear HAt
   obtain⟨ts1,acc,ps,n,rfl,h1,h2,h3,h4,h5,h6,h7,h8,h9⟩:=hrel.out
   clear hrel
   have hdone:ts1=[]->AnsP w ((progD (choice lf).decl (T.length+1) T [])) (.returned (.tuple #[u8,.int .i64 0,.int .i64 0])) wr:=by
    rintro rfl
    obtain⟨m,rfl⟩:∃m,n=m+1:=⟨n-1,by omega⟩
    have he:(progD (choice lf).decl (T.length+1) T [])=(acc,0,0):=by rw[h9,progD,if_pos (show ([]:Toks).length=0 from rfl)]
    rw[he]
    exact⟨_,ps,rfl,h6,h8.wide fun _ hf _=>hf.1,h7⟩
   have HDone:=hide hdone
   clear hdone
   rcases h5 with⟨rfl,rfl⟩|⟨tb,o,cap,rfl,h5⟩
   ·have HQ:=hide (HDone.out rfl)
    clear h6 h7 h8 h9 HDone
    go_wp2
    go_ret3
    exact HQ.out
   ·by_cases hz:ts1.length=0
    ·have HQ:=hide (HDone.out (List.length_eq_zero_iff.1 hz))
     clear h5 h6 h7 h8 h9 HDone
     generalize ts1.length=n1 at *
     subst hz
     go_wp2
     go_ret3
     exact HQ.out
    ·obtain⟨m,rfl⟩:∃m,n=m+1:=⟨n-1,by omega⟩
     have hle:=stopAt_le ts1
     have hidx:Calls prog 21 #[.slice (some ⟨tb,o,none⟩) ts1.length cap,.string ⟨#[46]⟩] wr fun e w'=>e=.returned (.int .i64 (if stopAt ts1=ts1.length then -1 else(stopAt ts1:Int)))/\w'=wr:=by
      have hI:=Tryz.slices_Index_string tb o ts1.length cap (ts1.map bs) (bs K.dot_) wr (by simp) (by omega) (by
       intro j hj
       obtain⟨cs,e1,e2,e3,e4⟩:=h5.own
       have hj':j<ts1.length:=by simpa using hj
       have:=e4 j ts1[j] (List.getElem?_eq_getElem hj')
       simp[World.cell?,e1,hj']
       exact this)
      rw[List.take_of_length_le (by simp),Lib.idxOfS,idx_stop,Nat.zero_add]at hI
      exact hI
     have hpos:(0:Int)<(ts1.length:Int):=by omega
     have hpsl:ps.length<=100000000:=by omega
     have HI:=hide hidx
     clear hidx
     have hforms:=ownsRow_forms h6
     by_cases hst:stopAt ts1=ts1.length
     ·have he:(progD (choice lf).decl (T.length+1) T [])=([],acc.length,3):=by rw[h9,progD,if_neg hz,if_pos hst]
      have hpl:=h8.length.2
      have HQ:=hide (show AnsP w ((progD (choice lf).decl (T.length+1) T [])) (.returned (.tuple #[.slice none 0 0,.int .i64 (ps.length:Nat),.int .i64 3])) wr by
       rw[he,hpl];exact⟨_,[],rfl,World.ownsRow_nil _ _ _ _,.nil,h7⟩)
      rw[if_pos hst]at HI
      clear h5 h6 h7 h8 h9 HDone he hst hle hpl
      generalize ts1.length=n1 at *
      generalize ps.length=pn at *
      rcases hforms with⟨rfl,rfl⟩|⟨g,cap2,rfl⟩
      ·go_wp2_with fail
       refine(HI.out).mono ?_;rintro e wp⟨rfl,hw⟩
       rw[hw];clear hw wp
       go_wp2
       go_ret3
       exact HQ.out
      ·go_wp2_with fail
       refine(HI.out).mono ?_;rintro e wp⟨rfl,hw⟩
       rw[hw];clear hw wp
       go_wp2
       go_ret3
       exact HQ.out
     ·rw[if_neg hst]at HI
      have hlt:stopAt ts1<ts1.length:=by omega
      obtain⟨cs0,_,hcap1,hcap2,_⟩:=h5.own
      have hR:=p_readDeclaration HF.out (ts1.take (stopAt ts1)) wr (h5.take (stopAt ts1) hle)
      have htl:(ts1.take (stopAt ts1)).length=stopAt ts1:=by simp;omega
      rw[htl]at hR
      have heN:(choice lf).decl (ts1.take (stopAt ts1))=none->(progD (choice lf).decl (T.length+1) T [])=([],acc.length,3):=fun h=>by rw[h9,progD,if_neg hz,if_neg hst,h]
      have heS:∀t,(choice lf).decl (ts1.take (stopAt ts1))=some t->progD (choice lf).decl (T.length+1) T []=progD (choice lf).decl m (ts1.drop (stopAt ts1+1)) (acc++[t]):=fun t h=>by rw[h9,progD,if_neg hz,if_neg hst,h]
      have HEN:=hide heN
      have HES:=hide heS
      have HR:=hide hR
      have H5:=hide h5
      have H6:=hide h6
      have H7:=hide h7
      have H8:=hide h8
      have hdl:(ts1.drop (stopAt ts1+1)).length=ts1.length-(stopAt ts1+1):=by simp
      have HDL:=hide hdl
      have HT5:=hide (fun o2=>h5.drop (stopAt ts1+1) (by omega) o2)
      clear hR heN heS h5 h6 h7 h8 h9 HDone htl hst hdl
      have hk0:(0:Int)<=(stopAt ts1:Int):=by omega
      have hk1:(stopAt ts1:Int)<=(cap:Int):=by omega
      have hk2:¬(stopAt ts1:Int)<0:=by omega
      have hk3:¬cap=0:=by omega
      have hk4:stopAt ts1<=4000:=by omega
      have hk5:(stopAt ts1:Int)+1<=(ts1.length:Int):=by omega
      have hk6:(0:Int)<=(stopAt ts1:Int)+1:=by omega
      go_wp2_with fail
      refine(HI.out).mono ?_;rintro e wp⟨rfl,hw⟩
      rw[hw];clear hw wp
      go_wp2_with fail
      refine(HR.out).mono ?_;rintro e w2⟨hb2,⟨ho2,rfl⟩|⟨t2,b2,ho2,rfl,hm2⟩⟩
      ·have hpl:=H8.out.length.2
       have HQ:=hide (show AnsP w ((progD (choice lf).decl (T.length+1) T [])) (.returned (.tuple #[.slice none 0 0,.int .i64 (ps.length:Nat),.int .i64 3])) w2 by
        rw[HEN.out ho2,hpl];exact⟨_,[],rfl,World.ownsRow_nil _ _ _ _,.nil,H7.out.trans (hb2.mono H7.out.size)⟩)
       clear HI HR HEN HES H5 H6 H7 H8 HDL HT5 hpl
       generalize ps.length=pn at *
       rcases hforms with⟨rfl,rfl⟩|⟨g,cap2,rfl⟩
       ·go_wp2
        go_ret3
        exact HQ.out
       ·go_wp2
        go_ret3
        exact HQ.out
      ·have hown2:=ownsRow_below H6.out hb2
       have hms2:=H8.out.onto hb2
       have hv8:∀g,u8.ownBlock=some g->g<wr.heap.size:=fun g hg=>(H6.out.lt g hg).2
       have hm2':Mem (fun g=>w.heap.size<=g/\u8.ownBlock≠some g) w2 4 t2 b2:=hm2.wide fun k hf _=>⟨le_trans H7.out.size hf,fun e=>by have:=hv8 k e;have hf:wr.heap.size<=k:=hf;omega⟩
       have hbel2:Below w.heap.size w w2:=H7.out.trans (hb2.mono H7.out.size)
       have hbs2:w.heap.size<=w2.heap.size:=hbel2.size
       have HMS:=hide hms2
       have HM:=hide hm2'
       have HBEL:=hide hbel2
       have HPR:=hide (HES.out t2 ho2)
       have HB2:=hide hb2
       have HOWN:=hide hown2
       clear hms2 hm2 hm2' hbel2 hb2 H6 H7 H8 HI HR HEN HES H5 ho2 hforms
       unfold ptrV at *
       go_wp2_with (at_builtin;refine append_ptr rfl _ _ rfl b2 hown2 hpsl hbs2 rfl rfl ?_)
       intro v9 w9 hown9 hgr9 HLt9
       have hown10:w9.ownsRow w.heap.size tyTreeP 1 v9 (ps++[b2]).length ((ps++[b2]).map ptrV):=by
        rw[length_append,map_append];exact hown9
       have hms9:=row_put (A:=fun w v g=>w.heap.size<=g/\v.ownBlock≠some g) rfl HOWN.out HMS.out HM.out hgr9 HLt9.out
       have hbel9:Below w.heap.size w w9:=(HBEL.out.alloc hbs2 _).grown hgr9 (by simp;omega) (fun k e=>(HOWN.out.lt k e).1)
       have htk9:∀{o2:Nat},TokAt tb o2 (cap-(stopAt ts1+1)) (ts1.drop (stopAt ts1+1)) wr->TokAt tb o2 (cap-(stopAt ts1+1)) (ts1.drop (stopAt ts1+1)) w9:=by
        intro o2 h
        refine((h.kept (w':=w2) fun k c f he=>HB2.out.block k (lt_of_heap he))).kept (fun k c f he=>?_)
        rw[hgr9.block k (by have:=lt_of_heap he;simp;omega) (fun e=>?_),Below.heap_alloc _ _ _ (lt_of_heap he)]
        rcases HOWN.out.2 with⟨rfl,_⟩|⟨g2,cap3,cur,rfl,_,hgg,_⟩
        ·simp[Value.ownBlock]at e
        ·have e:k=g2:=by simpa [Value.ownBlock]using e
         subst e
         rw[he]at hgg;simp at hgg
         exact absurd hgg.2.1 (by decide)
       have hcs:List.replicate ps.length 4++[4]=List.replicate (ps++[b2]).length 4:=by rw[length_append];exact(List.replicate_succ' ..).symm
       rw[hcs]at hms9
       have hnext:∀o2,(cap=stopAt ts1+1\/o2=o+(stopAt ts1+1))->ProgAtL w T (ts1.length-(stopAt ts1+1)) (.slice (some ⟨tb,o2,none⟩) (ts1.length-(stopAt ts1+1)) (cap-(stopAt ts1+1))) v9 w9:=by
        intro o2 ho
        have ht:=htk9 (HT5.out o2 ho)
        refine⟨ts1.drop (stopAt ts1+1),acc++[t2],ps++[b2],m,HDL.out.symm,by rw[HDL.out];omega,by rw[HDL.out];omega,by rw[HDL.out];simp;omega,h4,inr ⟨tb,o2,_,by rw[HDL.out],ht⟩,hown10,hbel9,hms9,HPR.out⟩
       have HNX:=hide hnext
       obtain⟨g',cap',rfl⟩:∃g' cap',v9=.slice (some ⟨g',0,none⟩) (ps++[b2]).length cap':=by
        rcases ownsRow_forms hown10 with⟨_,hn0⟩|h
        ·simp at hn0
        ·exact h
       clear hown2 hown9 hown10 hgr9 HLt9 hms9 hbel9 htk9 hcs hnext HMS HM HBEL HPR HB2 HOWN HT5
       by_cases hcap:cap=stopAt ts1+1
       ·have HN1:=hide (HNX.out o (inl hcap))
        rw[show cap-(stopAt ts1+1)=0 by omega]at HN1
        clear HNX
        go_wp2_with fail
        go_roundg (ts1.length-(stopAt ts1+1))
        case rel=>exact HN1
        case measure=>omega
       ·have HN1:=hide (HNX.out (o+(stopAt ts1+1)) (inr rfl))
        clear HNX
        go_wp2_with fail
        go_roundg (ts1.length-(stopAt ts1+1))
        case rel=>exact HN1
        case measure=>omega
 ·rw[if_neg her]
  clear hgood hz
  have hQ:∀w1,Below w.heap.size w w1->AnsP w ([],at_,er) (.returned (.tuple #[.slice none 0 0,.int .i64 at_,.int .i64 er])) w1:=fun w1 hb=>⟨_,[],rfl,World.ownsRow_nil _ _ _ _,.nil,hb⟩
  have HQ:=hide hQ
  have her2:((er:Int) != 0)=true:=by simpa using her
  have her3:¬(er:Int)=0:=by omega
  clear hQ
  go_enter func10,ntmps10
  go_wp2_with fail
  refine(HC.out).mono ?_;rintro e w1⟨v1,rfl,hv1,hb1⟩
  have HB:=hide (HQ.out w1 hb1)
  clear hv1 hb1 HQ
  go_wp2
  go_ret3
  exact HB.out
theorem progD_len(D:Toks->Option Tr):∀(n:Nat)(T:Toks)(acc:List Tr),(progD D n T acc).1.length<=acc.length+T.length:=by
 intro n
 induction n with
 |zero=>intro T acc;exact Nat.le_add_right _ _
 |succ n ih=>
  intro T acc
  rw[progD]
  split
  ·exact Nat.le_add_right _ _
  ·split
   ·exact zero_le _
   ·split
    ·exact zero_le _
    ·rename_i h1 h2 _ t1 _
     have:=ih (T.drop (stopAt T+1)) (acc++[t1])
     refine le_trans this ?_
     rw[length_append,List.length_drop,length_cons,length_nil]
     omega
theorem progD_w{D:Toks->Option Tr}(hL:Low D):∀(n:Nat)(T:Toks)(acc:List Tr)(t:Tr),t∈(progD D n T acc).1->t∈acc\/mu t<=wt T:=by
 intro n
 induction n with
 |zero=>intro T acc t h;exact inl h
 |succ n ih=>
  intro T acc t h
  rw[progD]at h
  split at h
  ·exact inl h
  ·split at h
   ·cases h
   ·split at h
    ·cases h
    ·rename_i t1 ht1
     rcases ih _ _ _ h with h|h
     ·rcases mem_append.1 h with h|h
      ·exact inl h
      ·rw[mem_singleton.1 h]
       obtain⟨_,ht1⟩:=hL _ _ ht1
       have h1:=decl_w ht1
       have h2:=wt_take (stopAt T) T
       exact inr (by omega)
     ·have h2:=wt_drop (stopAt T+1) T
      exact inr (by omega)
theorem progD_full{D:Toks->Option Tr}(hL:Low D):∀(n:Nat)(T:Toks)(acc:List Tr),(∀t∈acc,t.dfull)->∀t∈(progD D n T acc).1,t.dfull:=by
 intro n
 induction n with
 |zero=>intro T acc h;exact h
 |succ n ih=>
  intro T acc h
  rw[progD]
  split
  ·exact h
  ·split
   ·intro t ht;cases ht
   ·split
    ·intro t ht;cases ht
    ·rename_i t1 hd
     refine ih _ _ fun t ht=>?_
     rcases mem_append.1 ht with ht|ht
     ·exact h t ht
     ·rw[mem_singleton.1 ht];obtain⟨_,hd⟩:=hL _ _ hd;exact decl_full hd
theorem progAD_len(D:Toks->Option Tr)(l:List UInt8):(progAD D l).1.length<=4000:=by
 unfold progAD
 split
 ·have:=progD_len D ((cutL l).1.length+1) (cutL l).1 []
  have h2:=cutL_len l
  simp only[length_nil,Nat.zero_add]at this
  omega
 ·exact zero_le _
theorem progAD_full{D:Toks->Option Tr}(hL:Low D)(l:List UInt8):∀t∈(progAD D l).1,t.dfull:=by
 unfold progAD
 split
 ·exact progD_full hL _ _ _ (by simp)
 ·intro t ht;cases ht
theorem low_L:Low (choice lf).decl:=fun ts t h=>((choice lf).decl_Lim ts).gets h
structure DOk(D:Toks->Option Tr):Prop where
 low:Low D
 prog:∀(txt:ByteArray)(w:World),txt.size<=maxLen->Calls prog 10 #[.string txt] w (AnsP w (progAD D txt.data.toList))
theorem dok:DOk (choice lf).decl:=⟨low_L,fun txt w hs=>p_ProgramL funOf_any txt w hs⟩
end
section
open Go.RowKit
theorem wt_append:∀(a b:Toks),wt (a++b)=wt a+wt b:=by
 intro a
 induction a with
 |nil=>intro b;rw[nil_append,wt,Nat.zero_add]
 |cons t r ih=>intro b;rw[cons_append,wt,wt,ih];omega
theorem cutF_wt(n:Nat):∀(l:List UInt8) (k:Nat) (acc:List (List UInt8)),wt (cutF n l k acc).1<=wt acc+21*l.length:=by
 induction n with
 |zero=>intro l k acc;simp[cutF]
 |succ n ih=>
  intro l k acc
  simp only[cutF]
  split
  ·simp
  ·split
   ·rw[wt];omega
   ·rename_i h1 h2
    have:=ih ((l.drop (gap false l)).drop (tokLen (l.drop (gap false l)))) (k+gap false l+tokLen (l.drop (gap false l))) (acc++[(l.drop (gap false l)).take (tokLen (l.drop (gap false l)))])
    have h3:=tokLen_le (l.drop (gap false l))
    rw[wt_append,wt,wt]at this
    simp only[List.length_drop,List.length_take]at this h3
    omega
theorem cutL_wt(l:List UInt8):wt (cutL l).1<=84000:=by
 unfold cutL
 split
 ·rw[wt];omega
 ·have:=cutF_wt (l.length+1) l 0 []
  rw[wt]at this
  omega
theorem progAD_mu{D:Toks->Option Tr}(hL:Low D)(l:List UInt8):∀t∈(progAD D l).1,mu t<=84000:=by
 intro t ht
 unfold progAD at ht
 split at ht
 ·rcases progD_w hL _ _ _ t ht with h|h
  ·cases h
  ·exact le_trans h (cutL_wt l)
 ·cases ht
def declsOf(D:Toks->Option Tr)(l:List UInt8):List Nd:=(progAD D l).1.map (ndOf 4)
section
variable {w w':World}
theorem Mems.nds{A:Nat->Prop}:∀{ts:List Tr}{ps:List Nat}{n:Nat},Mem.Mems A w (List.replicate n 4) ts ps->NMem.NMems w (ts.map (ndOf 4)) ps/\∀t∈ts,Sh 4 (ndOf 4 t)/\(ndOf 4 t).ms<=mu t:=by
 intro ts
 induction ts with
 |nil=>
  intro ps n h
  cases ps with
  |nil=>exact⟨by rw[List.map_nil,NMem.NMems];trivial,by simp⟩
  |cons b bs=>cases n<;>simp[Mem.Mems,List.replicate_succ]at h
 |cons t r ih=>
  intro ps n h
  cases n with
  |zero=>cases ps<;>simp[Mem.Mems]at h
  |succ n=>
   rw[List.replicate_succ]at h
   obtain⟨t',r',b0,br,e1,rfl,h1,h2⟩:=h.uncons
   cases e1
   obtain⟨q1,q2⟩:=ih h2
   obtain⟨n1,n2,n3⟩:=h1.nd
   refine⟨by rw[map_cons];exact NMem.joined n1 q1,fun x hx=>?_⟩
   rcases mem_cons.1 hx with rfl|hx
   ·exact⟨n2,n3⟩
   ·exact q2 x hx
def RdA(D:Toks->Option Tr)(l:List UInt8)(w:World)(e:Ending)(w':World):Prop:=
 Below w.heap.size w w' /\
 (((progAD D l).2.2≠0/\e=.returned (.tuple #[.pointer none,.int .i64 (progAD D l).2.1,.int .i64 (progAD D l).2.2])) \/
  ((progAD D l).2.2=0/\(∀nd∈declsOf D l,DeclFine nd) /\
   (((readD 0 ahead (declsOf D l)).1.2≠0/\e=.returned (.tuple #[.pointer none,.int .i64 (readD 0 ahead (declsOf D l)).1.1,.int .i64 (readD 0 ahead (declsOf D l)).1.2])) \/
   ((readD 0 ahead (declsOf D l)).1=(0,0)/\∃pb ad rk tb dv bv,e=.returned (.tuple #[ptrV pb,.int .i64 0,.int .i64 0])/\PsM (arOf (declsOf D l)) ad rk (readD 0 ahead (declsOf D l)).2 tb pb dv bv w'/\∀b∈ad,w.heap.size<=b))))
def AheadAt(w:World)(e:Ending)(w':World):Prop:=
 Kn (fun _=>False) w w'/\∃tb ad rk,e=.returned (.map (some tb))/\w.heap.size<=tb/\(∀b∈ad,w.heap.size<=b)/\Tab ad tb ahead.env w'/\∀ar,ArOk ar->StoM ar ad (fun _=>False) rk ahead.sto w'
theorem readD_cons(i:Nat)(p:PS)(nd:Nd)(r:List Nd):readD i p (nd::r)=if (declare p nd).1≠0 then((i,(declare p nd).1),(declare p nd).2)else readD (i+1) (declare p nd).2 r:=by rw[readD]
theorem readD_snoc:∀(a:List Nd)(i:Nat)(p:PS)(nd:Nd),(readD i p a).1=(0,0)->readD i p (a++[nd])=if (declare (readD i p a).2 nd).1≠0 then((i+a.length,(declare (readD i p a).2 nd).1),(declare (readD i p a).2 nd).2)else((0,0),(declare (readD i p a).2 nd).2):=by
 intro a
 induction a with
 |nil=>
  intro i p nd _
  rw[nil_append,readD_cons,show readD i p []=((0,0),p)from rfl,length_nil,Nat.add_zero]
  rfl
 |cons x r ih=>
  intro i p nd h
  rw[readD_cons]at h
  rw[cons_append,readD_cons]
  split at h
  ·rename_i hx
   exact absurd (Prod.mk.inj h).2 hx
  ·rename_i hx
   rw[if_neg hx]
   rw[show readD i p (x::r)=readD (i+1) (declare p x).2 r by rw[readD_cons,if_neg hx]]
   rw[ih _ _ _ h,show i+1+r.length=i+(r.length+1) by omega,length_cons]
theorem readD_stop:∀(a b:List Nd)(i:Nat)(p:PS),(readD i p a).1.2≠0->readD i p (a++b)=readD i p a:=by
 intro a
 induction a with
 |nil=>intro b i p h;exact absurd rfl h
 |cons x r ih=>
  intro b i p h
  rw[readD_cons]at h
  rw[cons_append,readD_cons,readD_cons]
  split at h
  ·rename_i hx;rw[if_pos hx,if_pos hx]
  ·rename_i hx;rw[if_neg hx,if_neg hx];exact ih b _ _ h
structure RlD(ds:List Nd)(w:World)(pb tb:Nat)(dv:Value)(g:Value)(bl:List Nat)(i:Nat)(wr:World):Prop where
 ok:(readD 0 ahead (ds.take i)).1=(0,0)
 es:EsOk (arOf ds) (readD 0 ahead (ds.take i)).2.env (ds.take i)
 nb:(readD 0 ahead (ds.take i)).2.binds.length<=i
 ps:∃ad rk bv,PsM (arOf ds) ad rk (readD 0 ahead (ds.take i)).2 tb pb dv bv wr/\(∀b∈ad,w.heap.size<=b)/\∀b,bv.ownBlock=some b->w.heap.size<=b
 bw:Below w.heap.size w wr
 tr:NMem.NMems wr ds bl
 rw:wr.ownsRow w.heap.size tyTreeP 1 g bl.length (bl.map ptrV)
theorem declare_binds{p p':PS}{nd:Nd}{e:Nat}(h:declare p nd=(e,p')):p'.binds.length<=p.binds.length+1:=by
 unfold declare at h
 simp only at h
 split at h
 ·cases h;omega
 ·split at h
  ·cases h;dsimp only;omega
  ·split at h
   ·cases h;omega
   ·split at h
    ·cases h;dsimp only;omega
    ·cases h;dsimp only;rw[length_append];simp
theorem RlD.start{D:Toks->Option Tr}{l:List UInt8}{u u2 w:World}{g:Value}{bl:List Nat}{tb:Nat}{dv:Value}{ad:List Nat}{rk:Nat->Nat}(hf:∀nd∈declsOf D l,DeclFine nd)(hr:u.ownsRow w.heap.size tyTreeP 1 g bl.length (bl.map ptrV))(hm:NMem.NMems u (declsOf D l) bl)(hb:Below w.heap.size w u)
  (hk:Kn (fun _=>False) u u2) (ht:Tab ad tb ahead.env u2) (hs:∀ar,ArOk ar->StoM ar ad (fun _=>False) rk ahead.sto u2) (hlo:∀b∈ad,u.heap.size<=b) (hdv:dv=g) :
  RlD (declsOf D l) w u2.heap.size tb dv g bl 0 (u2.alloc (.cells #[dv,.slice none 0 0,.map (some tb)] tyProg)):=by
 have hk3:Kn (fun _=>False) u2 (u2.alloc (.cells #[dv,.slice none 0 0,.map (some tb)] tyProg)):=(Kn.refl _ u2).alloc _
 have hk4:=hk.trans hk3
 have hsz:=hb.size
 refine⟨rfl,ahead_es _,le_refl _,⟨ad,rk,.slice none 0 0,⟨(hs _ (arOf_ok hf)).stays hk3,rfl,ht.stays hk3,(MapKept.heap_alloc u2 _).1,World.ownsRow_nil _ _ _ _,by simp[List.take_zero,readD,ahead]⟩,fun b hb2=>?_,fun b hb2=>by simp[Value.ownBlock]at hb2⟩,?_,?_,?_⟩
 ·have:=hlo b hb2;omega
 ·refine⟨hk4.os.trans hb.os,hk4.tape.trans hb.tape,hk4.output.trans hb.output,le_trans hb.size hk4.size,fun k hk5=>?_⟩
  rw[hk4.block k (by omega) id];exact hb.block k hk5
 ·exact hm.kept (fun q c f hc=>hk4.block q (lt_of_heap hc) id) (fun q c f hc=>hk4.block q (lt_of_heap hc) id)
 ·exact ownsRow_kept hr fun q c f _ hc=>hk4.block q (lt_of_heap hc) id
end
end
end Go.Proofs.YtbkiipiocpnnnaaGreatDoor
