import Derived.Test.YtcbppnefeonmgaaGreatDoorC37
set_option linter.all false
set_option maxHeartbeats 40000000
set_option maxRecDepth 100000
open Go.Proofs.Tryz
open Or (inl inr)
open Option (map_eq_some_iff)
open Nat (le_refl le_trans zero_le)
open List (length_cons mem_append mem_singleton append_assoc cons_append length_nil map_cons nil_append)
namespace Go.Proofs.YtcbppnefeonmgaaGreatDoor
section
open Go.RowKit
def GoodTok(t:List UInt8):Prop:=t≠[]/\∀r,Stops r->tokLen (t++r)=t.length/\gap false (t++r)=0
theorem gap_head(c:UInt8)(t x:List UInt8)(h:gap false (c::t)=0):gap false (c::x)=0:=by
 cases hb:blankB c.toNat
 ·by_cases hc:c=35
  ·subst hc
   simp only[gap,hb,cond_false,if_true]at h
   omega
  ·simp[gap,hb,hc]
 ·simp only[gap,hb,cond_true]at h
  omega
theorem good_of(l:List UInt8)(ht:tokLen l≠0)(hg:gap false l=0):GoodTok (l.take (tokLen l)):=by
 have hle:=tokLen_le l
 have hlen:(l.take (tokLen l)).length=tokLen l:=by simp;omega
 refine⟨fun e=>?_,fun r hr=>⟨?_,?_⟩⟩
 ·rw[e]at hlen;simp at hlen;omega
 ·rw[hlen];exact(tok_stop hr l ht).1
 ·cases l with
  |nil=>simp[tokLen]at ht
  |cons c t=>
   obtain⟨m,hm⟩:∃m,tokLen (c::t)=m+1:=⟨tokLen (c::t)-1,by omega⟩
   rw[hm,List.take_succ_cons,cons_append]
   exact gap_head c t _ hg
theorem cutF_good(n:Nat):∀(l:List UInt8) (k:Nat) (acc toks:List (List UInt8)),cutF n l k acc=(toks,0,0)->∀t∈toks,t∈acc\/(GoodTok t/\t.length<=l.length):=by
 induction n with
 |zero=>
  intro l k acc toks h t ht
  simp only[cutF,Prod.mk.injEq,and_true]at h
  subst h;exact inl ht
 |succ n ih=>
  intro l k acc toks h t ht
  simp only[cutF]at h
  split at h
  ·simp only[Prod.mk.injEq,and_true]at h
   subst h;exact inl ht
  ·split at h
   ·simp at h
   ·rename_i h1 h2
    rcases ih _ _ _ _ h t ht with h3|h3
    ·rcases mem_append.1 h3 with h4|h4
     ·exact inl h4
     ·rw[mem_singleton]at h4
      subst h4
      refine inr ⟨good_of _ h2 (gap_gap l false),?_⟩
      simp;omega
    ·refine inr ⟨h3.1,le_trans h3.2 ?_⟩
     simp
theorem cutL_good(l:List UInt8)(toks:List (List UInt8))(h:cutL l=(toks,0,0)):∀t∈toks,GoodTok t/\t.length<=4000:=by
 unfold cutL at h
 split at h
 ·simp at h
 ·intro t ht
  rcases cutF_good _ _ _ _ _ h t ht with h1|h1
  ·cases h1
  ·exact⟨h1.1,by omega⟩
theorem cutF_err(n:Nat):∀(l:List UInt8) (k:Nat) (acc:List (List UInt8)),((cutF n l k acc).2.2=0/\(cutF n l k acc).2.1=0)\/((cutF n l k acc).1=[]/\(cutF n l k acc).2.2=2/\(cutF n l k acc).2.1<k+l.length):=by
 induction n with
 |zero=>intro l k acc;exact inl ⟨rfl,rfl⟩
 |succ n ih=>
  intro l k acc
  simp only[cutF]
  split
  ·exact inl ⟨rfl,rfl⟩
  ·rename_i h0
   have hlt:gap false l<l.length:=by
    by_cases h:gap false l<l.length
    ·exact h
    ·rw[List.drop_of_length_le (by omega)]at h0;exact absurd rfl h0
   split
   ·exact inr ⟨rfl,rfl,by show k+gap false l < _;omega⟩
   ·have h3:=tokLen_le (l.drop (gap false l))
    rw[List.length_drop]at h3
    rcases ih ((l.drop (gap false l)).drop (tokLen (l.drop (gap false l)))) (k+gap false l+tokLen (l.drop (gap false l))) (acc++[(l.drop (gap false l)).take (tokLen (l.drop (gap false l)))])with h|⟨h4,h5,h6⟩
    ·exact inl h
    ·refine inr ⟨h4,h5,?_⟩
     rw[List.length_drop,List.length_drop]at h6
     omega
theorem cutL_err(l:List UInt8):((cutL l).2.2=0/\(cutL l).2.1=0)\/((cutL l).1=[]/\((cutL l).2.2=1/\(cutL l).2.1=0\/(cutL l).2.2=2/\(cutL l).2.1<l.length)):=by
 unfold cutL
 split
 ·exact inr ⟨rfl,inl ⟨rfl,rfl⟩⟩
 ·rcases cutF_err (l.length+1) l 0 []with h|⟨h1,h2,h3⟩
  ·exact inl h
  ·exact inr ⟨h1,inr ⟨h2,by omega⟩⟩
end
section
open Go.RowKit
theorem idx_stop:∀(ts:Toks)(i:Nat),Lib.idxFromS (ts.map bs) (bs K.dot_) i=if stopAt ts=ts.length then -1 else((i+stopAt ts:Nat):Int):=by
 intro ts
 induction ts with
 |nil=>intro i;rfl
 |cons t r ih=>
  intro i
  rw[map_cons,Lib.idxFromS,stopAt]
  by_cases h:t=K.dot_
  ·rw[if_pos h,if_pos (by rw[h]),if_neg (by simp)];rfl
  ·rw[if_neg h,if_neg (fun e=>h (bs_inj e)),ih,length_cons]
   by_cases h2:stopAt r=r.length
   ·rw[if_pos h2,if_pos (by omega)]
   ·rw[if_neg h2,if_neg (by omega)];congr 1;omega
theorem TokAt.take{tb o cap:Nat}{ts:Toks}{w:World}(h:TokAt tb o cap ts w)(k:Nat)(hk:k<=ts.length):TokAt tb o cap (ts.take k) w:=by
 obtain⟨cs,h1,h2,h3,h4⟩:=h.own
 refine⟨by have:=h.len;simp;omega,fun t ht=>h.toks t (List.mem_of_mem_take ht),cs,h1,by simp;omega,h3,fun i t hi=>h4 i t ?_⟩
 rw[List.getElem?_take]at hi
 split at hi
 ·exact hi
 ·cases hi
theorem TokAt.drop{tb o cap:Nat}{ts:Toks}{w:World}(h:TokAt tb o cap ts w)(k:Nat)(hk:k<=ts.length)(o2:Nat)(ho:cap=k\/o2=o+k):TokAt tb o2 (cap-k) (ts.drop k) w:=by
 obtain⟨cs,h1,h2,h3,h4⟩:=h.own
 refine⟨by have:=h.len;simp;omega,fun t ht=>h.toks t (List.mem_of_mem_drop ht),cs,h1,by simp;omega,by omega,fun i t hi=>?_⟩
 rw[List.getElem?_drop]at hi
 rcases ho with ho|rfl
 ·exfalso
  rw[List.getElem?_eq_none (by omega)]at hi;cases hi
 ·have:=h4 (k+i) t hi
  rw[<- this];congr 1;omega
theorem TokAt.kept{tb o cap:Nat}{ts:Toks}{w w':World}(h:TokAt tb o cap ts w)(hk:∀(k:Nat)(c:Array Value)(f:Nat×Nat),w.heap[k]?=some (.cells c tyStr f)->w'.heap[k]?=w.heap[k]?):TokAt tb o cap ts w':=by
 obtain⟨cs,h1,h2⟩:=h.own
 exact⟨h.len,h.toks,cs,by rw[hk _ _ _ h1];exact h1,h2⟩
theorem cutL_zero(l:List UInt8)(h:(cutL l).2.2=0):(cutL l).2.1=0:=by
 rcases cutL_err l with h1|⟨_,⟨h1,_⟩|⟨h1,_⟩⟩
 ·exact h1.2
 ·omega
 ·omega
theorem row_put{A:World->Value->Nat->Prop}{w wr w2:World}{v v':Value}{cs:List Nat}{acc:List Tr}{ps:List Nat}{c:Nat}{t:Tr}{b:Nat}{o:Obj}(hA:A=fun w v g=>w.heap.size<=g/\v.ownBlock≠some g)(hown:wr.ownsRow w.heap.size tyTreeP 1 v ps.length (ps.map ptrV))(hms:Mem.Mems (A w v) wr cs acc ps)(hm:Mem (A w v) wr c t b)
  (hg:(wr.alloc o).grownBy w2 v.ownBlock) (hl:∀g,v'.ownBlock=some g->v.ownBlock=some g\/wr.heap.size<g):Mem.Mems (A w v') w2 (cs++[c]) (acc++[t]) (ps++[b]):=by
 subst hA
 have hA2:=((hms.append (.cons hm .nil)).wide (A':=fun g=>w.heap.size<=g/\v.ownBlock≠some g/\g<wr.heap.size) (fun k hk hlt=>⟨hk.1,hk.2,hlt⟩)).alloc o
 have hA3:=Mem.Mems.grown (hown.alloc o) hg (fun g hA=>hA.2.1) hA2
 refine hA3.wide (fun k hk _=>⟨hk.1,fun e=>?_⟩)
 rcases hl k e with h|h
 ·exact hk.2.1 h
 ·have:=hk.2.2;omega
def AnsP(w:World)(o:List Tr×Nat×Nat)(e:Ending)(w':World):Prop:=
 ∃v ps,e=.returned (.tuple #[v,.int .i64 o.2.1,.int .i64 o.2.2])/\w'.ownsRow w.heap.size tyTreeP 1 v ps.length (ps.map ptrV)/\Mem.Mems (From w) w' (List.replicate ps.length 4) o.1 ps/\Below w.heap.size w w'
end
section
open Go.RowKit Go.Shelf
attribute [local go_sem] Oper.semAt_some
def backAt(l:Toks)(j:Nat):Int×List UInt8:=((l.length:Int)-1-j,l[l.length-1-j]?.getD [])
def backTo(l:Toks)(k:Nat):List (Int×List UInt8):=(List.range k).map (backAt l)
theorem backTo_succ(l:Toks)(k:Nat):backTo l (k+1)=backTo l k++[backAt l k]:=by simp[backTo,List.range_succ]
theorem backTo_length(l:Toks)(k:Nat):(backTo l k).length=k:=by simp[backTo]
def encB(x:Int×List UInt8):Array Value:=#[.int .i64 x.1,.string (bs x.2)]
def KeepB(B N:Nat)(W W':World):Prop:=W.heap.size<=W'.heap.size/\∀k,k<N->k≠B->W'.heap[k]?=W.heap[k]?
theorem KeepB.trans{B N:Nat}{a b c:World}(h:KeepB B N a b)(k:KeepB B N b c):KeepB B N a c:=⟨le_trans h.1 k.1,fun i hi hB=>(k.2 i hi hB).trans (h.2 i hi hB)⟩
theorem back1_in(F:Fence)(n:Nat)(hf:F.fn 149)(hro:F.round=none)(hn:1<=n)(lr Bs B N g cap:Nat)(l:Toks)(hl:l.length<=4001)(hg:g<N)(hgB:g≠B)(hBs:Bs<N)(hBsB:Bs≠B)(J Jx:List (Int×List UInt8)->World->Prop)
  (hY:∀pre x W,J pre W->pre.length<l.length->YieldAt F (n-1) prog lr (encB x) W fun e W'=>
   (e=.returned (.bool true)/\J (pre++[x]) W'/\KeepB B N W W')\/(e=.returned (.bool false)/\Jx (pre++[x]) W'))
  (W:World) (cur:Array Value) (hBs1:W.heap[Bs]?=some (.cells #[.slice (some ⟨g,0,none⟩) l.length cap] 22 (0,0))) (hg1:W.heap[g]?=some (.cells cur tyStr (0,0))) (hc:∀(j:Nat)(t:List UInt8),l[j]?=some t->cur[j]?=some (strV t)) (h0:J [] W) :
  CallsIn F n prog 149 #[.func (.yield lr) #[] #[],.pointer (some ⟨Bs,0,none⟩)] W fun e W'=>(∃v,e=.returned v) /\
   ((∃ys,ys=backTo l l.length/\J ys W')\/(∃pre,(∃k,k<=l.length/\pre=backTo l k)/\Jx pre W')):=by
 refine callsIn_of_wp func149 rfl hf ?_ hro
 simp only[ntmps149,List.size_toArray,length_cons,length_nil,Nat.reduceAdd,Nat.reduceSub,Array.replicate_succ,Array.replicate_zero,List.push_toArray,List.append_toArray,nil_append,cons_append]
 have cB:W.cell? ⟨Bs,0,none⟩=some (.slice (some ⟨g,0,none⟩) l.length cap):=by simp[World.cell?,hBs1]
 gi_wp2
 gi_loopw [3] (fun i wr=>∃k:Nat,k<=l.length/\i=.int .i64 ((l.length:Int)-1-k)/\J (backTo l k) wr/\KeepB B N W wr)
  (fun i _=>(intOf i+1).toNat)
 case atStart=>exact⟨0,zero_le _,by simp,h0,⟨le_refl _,fun _ _ _=>rfl⟩⟩
 case round=>
  obtain⟨k,hk,rfl,hJs,hnx⟩:=hrel
  have eB:wr.cell? ⟨Bs,0,none⟩=some (.slice (some ⟨g,0,none⟩) l.length cap):=by simp[World.cell?,hnx.2 Bs hBs hBsB,hBs1]
  by_cases hlt:k<l.length
  ·have hx:=hY _ (backAt l k) wr hJs (by rw[backTo_length];exact hlt)
   have hj:l.length-1-k<l.length:=by omega
   obtain⟨tk,htk⟩:∃tk,l[l.length-1-k]?=some tk:=⟨_,List.getElem?_eq_getElem hj⟩
   have hba:backAt l k=((l.length:Int)-1-k,tk):=by unfold backAt;rw[htk];rfl
   have hcell:wr.cell? ⟨g,l.length-1-k,none⟩=some (.string (bs tk)):=by
    have:=hc (l.length-1-k) tk htk
    simp[World.cell?,hnx.2 g hg hgB,hg1]
    simpa [strV]using this
   rw[hba]at hx
   have hbs:backTo l (k+1)=backTo l k++[((l.length:Int)-1-k,tk)]:=by rw[backTo_succ,hba]
   clear htk hba
   obtain⟨fn,tmps,assign,body,hy,hR⟩:=hx
   unfold encB at hy
   have hi1:(0:Int)<=(l.length:Int)-1-k:=by omega
   have hi2:((l.length:Int)-1-k).toNat=l.length-1-k:=by omega
   have hi3:(l.length:Int)-1-k<(l.length:Int):=by omega
   gi_wp2
   refine hR.mono ?_
   rintro e W3 (⟨rfl,hJ3,hk3⟩|⟨rfl,hJx3⟩)
   ·gi_wp2
    go_roundw
    case rel=>exact⟨k+1,by omega,by simp;omega,by rw[hbs];exact hJ3,hnx.trans hk3⟩
    case measure=>simp[intOf];omega
   ·gi_wp2
    refine bodyPost_ret (results_none rfl _ _ _) rfl ?_
    exact⟨⟨_,rfl⟩,.inr ⟨_,⟨k+1,by omega,hbs.symm⟩,hJx3⟩⟩
  ·obtain rfl:k=l.length:=by omega
   have hi1:¬(0:Int)<=(l.length:Int)-1-l.length:=by omega
   gi_wp2
   go_end0
   exact⟨⟨_,rfl⟩,.inl hJs⟩
theorem back1_nil(F:Fence)(n:Nat)(hf:F.fn 149)(hro:F.round=none)(lr Bs:Nat)(J:List (Int×List UInt8)->World->Prop)(W:World)(hBs:W.cell? ⟨Bs,0,none⟩=some (.slice none 0 0))(h0:J [] W) :
  CallsIn F n prog 149 #[.func (.yield lr) #[] #[],.pointer (some ⟨Bs,0,none⟩)] W fun e W'=>(∃v,e=.returned v)/\J [] W':=by
 refine callsIn_of_wp func149 rfl hf ?_ hro
 simp only[ntmps149,List.size_toArray,length_cons,length_nil,Nat.reduceAdd,Nat.reduceSub,Array.replicate_succ,Array.replicate_zero,List.push_toArray,List.append_toArray,nil_append,cons_append]
 gi_wp2
 gi_loopw [3] (fun i wr=>i=.int .i64 (-1)/\J [] wr) (fun _ _=>0)
 case atStart=>exact⟨rfl,h0⟩
 case round=>
  obtain⟨rfl,hJs⟩:=hrel
  gi_wp2
  go_end0
  exact⟨⟨_,rfl⟩,hJs⟩
theorem back_in(F:Fence)(n:Nat)(hf:F.fn 130)(hro:F.round=none)(a:Option Addr)(len cap:Nat)(w:World) :
  CallsIn F n prog 130 #[.slice a len cap] w fun e w'=>e=.returned (.func (.func 149) #[] #[.pointer (some ⟨w.heap.size,0,none⟩)])/\w'=w.alloc (.cells #[.slice a len cap] 22):=by
 refine callsIn_of_wp func130 rfl hf ?_ hro
 simp only[ntmps130,List.size_toArray,length_cons,length_nil,Nat.reduceAdd,Nat.reduceSub,Array.replicate_succ,Array.replicate_zero,List.push_toArray,List.append_toArray,nil_append,cons_append]
 gi_wp2
 go_ret
 exact⟨rfl,rfl⟩
def TextsAt(B N:Nat)(W:World)(sv:Value)(l:Toks):Prop:=
 (sv=.slice none 0 0/\l=[])\/∃g cap cur,sv=.slice (some ⟨g,0,none⟩) l.length cap/\g<N/\g≠B/\W.heap[g]?=some (.cells cur tyStr (0,0))/\∀(j:Nat)(t:List UInt8),l[j]?=some t->cur[j]?=some (strV t)
theorem back_stops(F:Fence)(n:Nat)(hf:F.fn 149)(hro:F.round=none)(hn:1<=n)(Bs B:Nat)(sv:Value)(l:Toks)(hl:l.length<=4001)(w:World)(hBs:Bs<w.heap.size)(hBsB:Bs≠B)
  (hc:w.heap[Bs]?=some (.cells #[sv] 22 (0,0))) (hT:TextsAt B w.heap.size w sv l) :
  SeqStopsK F n prog 149 #[.pointer (some ⟨Bs,0,none⟩)] encB (KeepB B w.heap.size) (fun ys=>ys=backTo l l.length) (fun pre=>∃k,pre=backTo l k) l.length w:=fun lr J Jx W hW _ _ hY h0=>by
 have hc':=(hW.block Bs hBs).trans hc
 rcases hT with⟨rfl,rfl⟩|⟨g,cap,cur,rfl,hg,hgB,hgg,hcs⟩
 ·exact(back1_nil F n hf hro lr Bs J W (by simp[World.cell?,hc']) h0).mono fun e W' ⟨he,hj⟩=>⟨he,.inl ⟨_,rfl,hj⟩⟩
 ·refine(back1_in F n hf hro hn lr Bs B w.heap.size g cap l hl hg hgB hBs hBsB J Jx hY W cur hc' ((hW.block g hg).trans hgg) hcs h0).mono ?_
  rintro e W'⟨he,⟨ys,rfl,hj⟩|⟨pre,⟨k,hk,rfl⟩,hj⟩⟩
  ·exact⟨he,.inl ⟨_,rfl,hj⟩⟩
  ·exact⟨he,.inr ⟨_,⟨k,rfl⟩,hj⟩⟩
def funsOf(t:Tr)(pre:List (Int×List UInt8)):Tr:=pre.foldl (fun z x=>.mk K.fun_ x.2 [z]) t
theorem funsOf_snoc(t:Tr)(pre:List (Int×List UInt8))(x:Int×List UInt8):funsOf t (pre++[x])=.mk K.fun_ x.2 [funsOf t pre]:=by simp[funsOf]
theorem curried_back:∀(l:Toks)(t:Tr),G.curried l t=l.reverse.foldl (fun z a=>.mk K.fun_ a [z]) t:=by
 intro l
 induction l with
 |nil=>intro t;rfl
 |cons a r ih=>intro t;rw[G.curried,ih,List.reverse_cons,List.foldl_append];rfl
theorem backTo_all(l:Toks):(backTo l l.length).map (·.2)=l.reverse:=by
 apply List.ext_getElem
 ·simp[backTo]
 ·intro i h1 h2
  have hi:i<l.length:=by simpa [backTo]using h1
  simp[backTo,backAt,List.getElem_reverse]
  rw[List.getElem?_eq_getElem (by omega)]
  rfl
theorem funsOf_all(l:Toks)(t:Tr):funsOf t (backTo l l.length)=G.curried l t:=by
 rw[curried_back,<- backTo_all,List.foldl_map]
 rfl
def FunAt(w0 w:World)(t:Tr)(pre:List (Int×List UInt8))(W:World):Prop:=
 ∃b',W.heap[w.heap.size]?=some (.cells #[ptrV b'] tyTreeP (0,0))/\Mem (fun g=>w0.heap.size<=g/\g≠w.heap.size) W 0 (funsOf t pre) b'/\Below w.heap.size w W/\w.heap.size+2<=W.heap.size
theorem funAt_own(w0 w:World)(t:Tr)(B:Nat)(hB:w.heap.size<=B):OwnFrom B (FunAt w0 w t):=by
 rintro s W W' row⟨b',h1,h2,h3,h4⟩ hg hr
 have hk:∀(k:Nat)(c:Array Value)(T:TypeId)(f:Nat×Nat),W.heap[k]?=some (.cells c T f)->W'.heap[k]?=W.heap[k]?:=by
  intro k c T f he
  refine hg.block k (lt_of_heap he) (fun e=>?_)
  obtain⟨_,o,ho,hc⟩:=hr k e.symm
  rw[he]at ho
  obtain rfl:=Option.some.inj ho
  simp[Obj.isCells]at hc
 refine⟨b',by rw[hk _ _ _ _ h1];exact h1,h2.kept (fun k c f he=>hk k c _ f he) (fun k c f hA he=>⟨hk k c _ f he,hA⟩),h3.grown hg h3.size (fun k e=>le_trans hB (hr k e).1),le_trans h4 hg.size⟩
theorem funOf_any:FunOf:=by
 intro w0 w v l t b hw hv hl hm
 have hT:TextsAt w.heap.size (w.heap.size+2) ((w.alloc (.cells #[ptrV b] tyTreeP)).alloc (.cells #[v] 22)) v l:=by
  rcases hv.2 with⟨rfl,hn0⟩|⟨g,cap,cur,rfl,hbg,hgg,hnc,hcm,hcs,htake⟩
  ·exact inl ⟨rfl,List.length_eq_zero_iff.1 hn0⟩
  ·have hgl:=lt_of_heap hgg
   refine inr ⟨g,cap,cur,rfl,by omega,by omega,by rw[Below.heap_alloc _ _ _ (by simp;omega),Below.heap_alloc _ _ _ hgl];exact hgg,fun j tk hj=>?_⟩
   have hil:j<l.length:=by
    by_cases hil:j<l.length
    ·exact hil
    ·rw[List.getElem?_eq_none (by omega)]at hj;cases hj
   have h1:(l.map strV)[j]?=some (strV tk):=by rw[List.getElem?_map,hj];rfl
   rw[<- htake,List.getElem?_take,if_pos (by omega)]at h1
   rw[<- Array.getElem?_toList];exact h1
 have hFA:FunAt w0 w t [] ((w.alloc (.cells #[ptrV b] tyTreeP)).alloc (.cells #[v] 22)):=by
  refine⟨b,?_,((hm.wide (A':=fun g=>w0.heap.size<=g/\g≠w.heap.size) fun k hf hlt=>⟨hf,by omega⟩).alloc _).alloc _,((Below.refl _ w).alloc (le_refl _) _).alloc (by simp) _,by simp⟩
  rw[Below.heap_alloc _ _ _ (by simp)]
  simp only[World.alloc,Array.getElem?_push_size]
 obtain⟨va,vn,vc,rfl⟩:∃a n c,v=.slice a n c:=by
  rcases ownsRow_forms hv with⟨rfl,_⟩|⟨g,cap,rfl⟩
  ·exact⟨_,_,_,rfl⟩
  ·exact⟨_,_,_,rfl⟩
 have HT:=hide hT
 have HFA:=hide hFA
 clear hT hFA hv hm
 unfold ptrV at *
 refine(callsIn_wide (n:=3)).1 ?_
 refine callsIn_of_wp_marks func102 rfl trivial ?_ rfl
 simp only[ntmps102,List.size_toArray,length_cons,length_nil,Nat.reduceAdd,Nat.reduceSub,Array.replicate_succ,Array.replicate_zero,List.push_toArray,List.append_toArray,nil_append,cons_append]
 gi_wp2_with (refine⟨trivial,?_⟩;gi_at_call 130;refine(back_in Fence.wide _ trivial rfl _ _ _ _).mono ?_;rintro e w'⟨rfl,rfl⟩)
 have hsz:((w.alloc (.cells #[.pointer (some ⟨b,0,none⟩)] tyTreeP)).alloc (.cells #[.slice va vn vc] 22)).heap.size=w.heap.size+2:=by simp
 have hst:=back_stops Fence.wide (3-1) trivial rfl (by omega) (w.heap.size+1) w.heap.size (.slice va vn vc) l hl ((w.alloc (.cells #[.pointer (some ⟨b,0,none⟩)] tyTreeP)).alloc (.cells #[.slice va vn vc] 22)) (by simp) (by omega)
  (by rw[show w.heap.size+1=(w.alloc (.cells #[.pointer (some ⟨b,0,none⟩)] tyTreeP)).heap.size by simp];simp only[World.alloc,Array.getElem?_push_size]) (by rw[hsz];exact HT.out)
 refine wpIn_rangeFunc_ownF rfl (by omega) (gf:=149) (lb:=#[.pointer (some ⟨w.heap.size+1,0,none⟩)]) ?hg trivial (enters_of func149 (by kernel_rfl) rfl)
  hst (fun h k=>h.trans k) ?hkb (Below.refl _ _) (fun _=>rfl) (FunAt w0 w t) (fun _ _ _=>False) (funAt_own w0 w t _ (by simp;omega)) (fun _ _ _ _ _ hs _ _=>hs) HFA.out
  (fun x=>{ tmps:=#[.slice va vn vc,.pointer (some ⟨b,0,none⟩),undef,.pointer (some ⟨w.heap.size,0,none⟩),.pointer none,undef,.string (bs x.2),.slice va vn vc,.func (.func 149) #[] #[.pointer (some ⟨w.heap.size+1,0,none⟩)],.int .i64 x.1,.string (bs x.2),undef,undef,undef,undef,undef],defers:=[] }) ?assign ?body ?done ?stop
 case hg=>rfl
 case hkb=>
  intro W k o o' hk ho _ _
  have hk2:w.heap.size+2<=k:=by simpa using hk
  refine⟨by simp,fun i hi _=>World.putObj_heap_other ?_⟩
  rw[hsz]at hi
  omega
 case assign=>
  intro lr x W K hK
  unfold encB
  gi_wp2
  exact hK
 case body=>
  rintro lr pre x W⟨b',h1,h2,h3,h4⟩ _
  have c0:W.cell? ⟨w.heap.size,0,none⟩=some (.pointer (some ⟨b',0,none⟩)):=by simp[World.cell?,h1,ptrV]
  have f0:W.frozen? ⟨w.heap.size,0,none⟩=false:=by simp[World.frozen?,h1]
  have HN:=hide (New1 W b' 5 (bs x.2))
  have hb1:(w1P W b' 5 (bs x.2)).heap[w.heap.size]?=some (.cells #[ptrV b'] tyTreeP (0,0)):=by
   unfold w1P
   rw[Below.heap_alloc _ _ _ (by simp;omega),Below.heap_alloc _ _ _ (by omega)];exact h1
  have hnext:FunAt w0 w t (pre++[x]) ((w1P W b' 5 (bs x.2)).setCell ⟨w.heap.size,0,none⟩ (.pointer (some ⟨W.heap.size+1,0,none⟩))):=by
   have hrow:=ptr1 W b'
   have hmk:=Mem.made (A:=fun g=>w0.heap.size<=g/\g≠w.heap.size) (c:=0) (is:=K.fun_) (name:=x.2) (ts:=[funsOf t pre]) (KindOf.fun_ x.2) (ownsRow_base hrow (zero_le _)) (fun g hg=>by
    have:W.heap.size=g:=by simpa [Value.ownBlock]using hg
    omega) (.cons (h2.alloc _) .nil)
   have hz:(W.alloc (.cells #[.pointer (some ⟨b',0,none⟩)] tyTreeP)).heap.size=W.heap.size+1:=by simp
   rw[hz]at hmk
   refine⟨W.heap.size+1,?_,?_,?_,?_⟩
   ·simp only[World.setCell,Array.getElem?_modify,if_pos,hb1,Option.map_some,Option.isSome_none,Bool.false_eq_true,if_false]
    simp[ptrV]
   ·rw[funsOf_snoc]
    refine Mem.kept (fun k c f he=>Below.heap_setCell _ _ _ _ (fun e=>?_)) (fun k c f hA he=>⟨Below.heap_setCell _ _ _ _ hA.2,hA⟩) hmk
    subst e
    have he2:(w1P W b' 5 (bs x.2)).heap[w.heap.size]?=some (.cells c tyTree f):=he
    rw[hb1]at he2;simp at he2
    exact absurd he2.2.1 (by decide)
   ·unfold w1P
    exact((h3.alloc h3.size _).alloc (by simp;omega) _).setCell (le_refl _) _
   ·unfold w1P
    simp[World.setCell];omega
  have HNX:=hide hnext
  have HKO:=hide (show KeepsOthers W ((w1P W b' 5 (bs x.2)).setCell ⟨w.heap.size,0,none⟩ (.pointer (some ⟨W.heap.size+1,0,none⟩)))from((KeepsOthers.alloc _ _).trans (KeepsOthers.alloc _ _)).trans (KeepsOthers.setCell _ _ _))
  have HKB:=hide (show KeepB w.heap.size ((w.alloc (.cells #[.pointer (some ⟨b,0,none⟩)] tyTreeP)).alloc (.cells #[.slice va vn vc] 22)).heap.size W ((w1P W b' 5 (bs x.2)).setCell ⟨w.heap.size,0,none⟩ (.pointer (some ⟨W.heap.size+1,0,none⟩)))from by
   refine⟨by unfold w1P;simp[World.setCell];omega,fun k hk hne=>?_⟩
   rw[hsz]at hk
   rw[Below.heap_setCell _ _ _ _ hne]
   unfold w1P
   rw[Below.heap_alloc _ _ _ (by simp;omega),Below.heap_alloc _ _ _ (by omega)])
  have c1:(w1P W b' 5 (bs x.2)).cell? ⟨w.heap.size,0,none⟩=some (.pointer (some ⟨b',0,none⟩)):=by simp[World.cell?,hb1,ptrV]
  have f1:(w1P W b' 5 (bs x.2)).frozen? ⟨w.heap.size,0,none⟩=false:=by simp[World.frozen?,hb1]
  unfold ptrV at HN
  clear hb1
  clear h1 h2 h3 h4 hnext
  gi_wp2_with (refine⟨trivial,?_⟩;gi_at_call 66;refine(CallsIn.inRound lr (callsIn_wide.2 HN.out)).mono ?_;rintro e w'⟨rfl,rfl⟩)
  exact⟨HKO.out,HKB.out,HNX.out⟩
 case done=>
  rintro D xs W hD rfl⟨b',h1,h2,h3,h4⟩ hK
  have c0:W.cell? ⟨w.heap.size,0,none⟩=some (.pointer (some ⟨b',0,none⟩)):=by simp[World.cell?,h1,ptrV]
  rw[funsOf_all]at h2
  have hDn:∀(k:Nat)(c:Array Value)(T:TypeId)(f:Nat×Nat),W.heap[k]?=some (.cells c T f)->(W.putObj D (.deferred none)).heap[k]?=W.heap[k]?:=by
   intro k c T f he
   refine World.putObj_heap_other (fun e=>?_)
   subst e
   rw[he]at hK;cases hK
  have HM:=hide (show Mem (From w0) (W.putObj D (.deferred none)) 0 (G.curried l t) b' from h2.kept (fun k c f he=>hDn k c _ f he) (fun k c f hA he=>⟨hDn k c _ f he,hA.1⟩))
  have HB:=hide (show Below w.heap.size w (W.putObj D (.deferred none))from h3.trans (belowK_b (w:=w) (le_refl _) W D _ _ (by simp at hD;omega) hK rfl rfl))
  clear h1 h2 h3 h4 hDn
  gi_wp2
  refine⟨by simp,.inl ⟨_,_,rfl,run_takeDeferred hK,?_⟩⟩
  exact⟨_,results_tmp rfl _ _ _,b',rfl,HM.out,HB.out⟩
 case stop=>
  rintro D c pre W _ _ h _
  exact h.elim
end
section
open Go.RowKit Go.Shelf
abbrev tyBuild:TypeId:=55
abbrev tyByte:TypeId:=5
theorem Tryz.sizeBuild:(prog.info? tyBuild).map (·.size)=some 2:=by kernel_rfl
theorem Tryz.infoByteB:(prog.info? tyByte).map (fun i=>(i.zero,i.size,i.bytes))=some (some (.int .u8 0),1,1):=by kernel_rfl
theorem check_used(b:Nat)(w:World)(h0:w.cell? ⟨b,0,none⟩=some (.pointer (some ⟨b,0,none⟩))) :
  Calls prog 68 #[.pointer (some ⟨b,0,none⟩)] w fun e w'=>e=.returned (.tuple #[])/\w'=w:=by
 obtain⟨j,hj,_⟩:=map_eq_some_iff.1 Tryz.sizeBuild
 go_enter func68,ntmps68
 go_wp2
 rw[Lib.run_neq_ptr_same w _ underlying52 hj]
 go_wp2
 go_end0
 exact⟨rfl,rfl⟩
end
section
open Go.RowKit
theorem byteCells_app(a b:List UInt8):Lib.byteCells a++Lib.byteCells b=Lib.byteCells (a++b):=by simp[Lib.byteCells]
theorem strCells_bs(x:List UInt8):Lib.strCells (bs x)=Lib.byteCells x:=by rw[Lib.strCells_eq,bs_data]
end
section
theorem cntB_stop(p:Int->Bool)(hp:p 10=false)(m:List UInt8):∀l,cnt p (l++10::m)=cnt p l:=by
 intro l
 induction l with
 |nil=>simp[cnt,hp]
 |cons c r ih=>rw[cons_append,cnt,cnt,ih]
theorem take_left{l m:List UInt8}{n:Nat}(h:n<=l.length):(l++m).take n=l.take n:=by rw[List.take_append_of_le_length h]
theorem nameLenB_stop(m:List UInt8)(l:List UInt8):nameLen (l++10::m)=nameLen l:=by
 cases l with
 |nil=>simp[nameLen,smallB]
 |cons c r=>
  have:=cntB_stop nameB (by decide) m (c::r)
  rw[cons_append]at this ⊢
  unfold nameLen
  simp only
  rw[this]
theorem letterLen_stop(m:List UInt8)(c:UInt8)(r:List UInt8):letterLen (c::r++10::m)=letterLen (c::r):=by
 unfold letterLen
 rw[cons_append,List.tail_cons,List.tail_cons,nameLenB_stop,take_left (nameLen_le r)]
theorem signLen_stop(m:List UInt8)(c:UInt8)(r:List UInt8):signLen (c::r++10::m)=signLen (c::r):=by
 have h1:Lib.hasPrefix (c::r++10::m) [58,61]=Lib.hasPrefix (c::r) [58,61]:=by
  cases r with
  |nil=>simp[Lib.hasPrefix,List.isPrefixOf]
  |cons a b=>simp[Lib.hasPrefix,List.isPrefixOf]
 have h2:Lib.hasPrefix (c::r++10::m) [45,62]=Lib.hasPrefix (c::r) [45,62]:=by
  cases r with
  |nil=>simp[Lib.hasPrefix,List.isPrefixOf]
  |cons a b=>simp[Lib.hasPrefix,List.isPrefixOf]
 unfold signLen
 rw[h1,h2]
 rfl
theorem tokLen_stop(m:List UInt8)(c:UInt8)(r:List UInt8):tokLen (c::r++10::m)=tokLen (c::r):=by
 have h1:=nameLenB_stop m (c::r)
 have h2:=cntB_stop conB (by decide) m (c::r)
 have h3:=cntB_stop digitB (by decide) m (c::r)
 have h4:=letterLen_stop m c r
 have h5:=signLen_stop m c r
 unfold tokLen numLen
 rw[cons_append]at *
 simp only
 rw[h1,h2,h3,h4,h5]
theorem gap_stop(m:List UInt8):∀(l:List UInt8)(b:Bool),(gap b l<l.length->gap b (l++10::m)=gap b l)/\(gap b l=l.length->gap b (l++10::m)=l.length+1+gap false m):=by
 intro l
 induction l with
 |nil=>
  intro b
  refine⟨fun h=>by simp[gap]at h,fun _=>?_⟩
  cases b<;>simp[gap,blankB]
 |cons c r ih=>
  intro b
  cases b with
  |false=>
   rw[cons_append,gap,gap]
   by_cases h1:blankB c.toNat=true
   ·rw[h1,cond_true,cond_true]
    refine⟨fun h=>?_,fun h=>?_⟩
    ·rw[(ih false).1 (by simp at h;omega)]
    ·rw[(ih false).2 (by simp at h;omega)];simp;omega
   ·rw[show blankB c.toNat=false by simpa using h1,cond_false,cond_false]
    by_cases h2:c=35
    ·rw[if_pos h2,if_pos h2]
     refine⟨fun h=>?_,fun h=>?_⟩
     ·rw[(ih true).1 (by simp at h;omega)]
     ·rw[(ih true).2 (by simp at h;omega)];simp;omega
    ·rw[if_neg h2,if_neg h2]
     exact⟨fun _=>rfl,fun h=>by simp at h⟩
  |true=>
   rw[cons_append,gap,gap]
   by_cases h2:c=10
   ·rw[if_pos h2,if_pos h2]
    refine⟨fun h=>?_,fun h=>?_⟩
    ·rw[(ih false).1 (by simp at h;omega)]
    ·rw[(ih false).2 (by simp at h;omega)];simp;omega
   ·rw[if_neg h2,if_neg h2]
    refine⟨fun h=>?_,fun h=>?_⟩
    ·rw[(ih true).1 (by simp at h;omega)]
    ·rw[(ih true).2 (by simp at h;omega)];simp;omega
theorem gap_len:∀(l:List UInt8)(b:Bool),gap b l<=l.length:=by
 intro l
 induction l with
 |nil=>intro b;cases b<;>simp[gap]
 |cons c r ih=>
  intro b
  have h1:=ih true
  have h2:=ih false
  cases b with
  |false=>
   rw[gap]
   cases blankB c.toNat
   ·rw[cond_false];split<;>simp;omega
   ·rw[cond_true];simp;omega
  |true=>rw[gap];split<;>simp<;>omega
theorem tokLen_len(l:List UInt8):tokLen l<=l.length:=by
 cases l with
 |nil=>simp[tokLen]
 |cons c r=>
  unfold tokLen
  simp only
  cases smallB c.toNat
  ·rw[cond_false]
   cases greatB c.toNat
   ·rw[cond_false]
    cases digitB c.toNat
    ·rw[cond_false]
     split
     ·unfold letterLen
      rw[List.tail_cons]
      have:=nameLen_le r
      cases (nameLen r==0 || wordL (r.take (nameLen r)))
      ·rw[cond_false,length_cons];omega
      ·rw[cond_true];omega
     ·unfold signLen
      split
      ·rename_i h
       cases r with
       |nil=>simp[Lib.hasPrefix]at h
       |cons a b=>simp
      ·simp only;split<;>simp
    ·rw[cond_true]
     unfold numLen
     have:=cnt_le digitB (c::r)
     split<;>omega
   ·rw[cond_true];exact cnt_le conB (c::r)
  ·rw[cond_true];exact nameLen_le (c::r)
theorem cut_more(m:List UInt8):∀(n:Nat) (l:List UInt8) (k:Nat) (acc T:List (List UInt8)),l.length<n->cutF n l k acc=(T,0,0)->∀n',l.length+1+m.length<n'->∃n'' k',m.length<n''/\cutF n' (l++10::m) k acc=cutF n'' m k' T:=by
 intro n
 induction n with
 |zero=>intro l k acc T h;omega
 |succ n ih=>
  intro l k acc T hl h n' hn'
  obtain⟨n1,rfl⟩:∃n1,n'=n1+1:=⟨n'-1,by omega⟩
  rw[cutF]at h
  have hg:=gap_len l false
  by_cases he:(l.drop (gap false l)).isEmpty=true
  ·rw[if_pos he]at h
   have hfull:gap false l=l.length:=by
    have:(l.drop (gap false l)).length=0:=by rw[List.isEmpty_iff.1 he];rfl
    rw[List.length_drop]at this
    omega
   have hgm:=(gap_stop m l false).2 hfull
   have hdrop:(l++10::m).drop (gap false (l++10::m))=m.drop (gap false m):=by
    rw[hgm,show l.length+1+gap false m=(l.length+1)+gap false m from rfl,<- List.drop_drop]
    congr 1
    rw[<- List.drop_drop,List.drop_left];rfl
   have hT:acc=T:=congrArg Prod.fst h
   subst hT
   refine⟨n1+1,k+l.length+1,by omega,?_⟩
   rw[cutF,cutF,hdrop,hgm]
   simp only[show k+(l.length+1+gap false m)=k+l.length+1+gap false m by omega]
  ·rw[if_neg he]at h
   have hlt:gap false l<l.length:=by
    rcases Nat.lt_or_ge (gap false l) l.length with h1|h1
    ·exact h1
    ·exfalso;apply he;rw[List.drop_of_length_le h1];rfl
   have hgm:=(gap_stop m l false).1 hlt
   have hdrop:(l++10::m).drop (gap false (l++10::m))=l.drop (gap false l)++10::m:=by
    rw[hgm,List.drop_append_of_le_length (by omega)]
   generalize hx:l.drop (gap false l)=x at *
   have hxl:x.length=l.length-gap false l:=by rw[<- hx,List.length_drop]
   cases x with
   |nil=>simp at he
   |cons c r=>
    by_cases ht:tokLen (c::r)=0
    ·rw[if_pos ht]at h
     have:=congrArg (fun q=>q.2.2) h
     simp at this
    ·rw[if_neg ht]at h
     have htl:=tokLen_len (c::r)
     have hts:=tokLen_stop m c r
     rw[cutF,hdrop,hts,if_neg (by simp),if_neg ht,hgm]
     have hd2:(c::r++10::m).drop (tokLen (c::r))=(c::r).drop (tokLen (c::r))++10::m:=List.drop_append_of_le_length htl
     have ht2:(c::r++10::m).take (tokLen (c::r))=(c::r).take (tokLen (c::r)):=take_left htl
     rw[hd2,ht2]
     refine ih _ _ _ _ ?_ h _ ?_
     ·rw[List.length_drop];omega
     ·rw[List.length_drop];omega
end
section
theorem cutF_at(n:Nat):∀(l:List UInt8) (k k2:Nat) (acc T:List (List UInt8)),cutF n l k acc=(T,0,0)->cutF n l k2 acc=(T,0,0):=by
 induction n with
 |zero=>intro l k k2 acc T h;exact h
 |succ n ih=>
  intro l k k2 acc T h
  rw[cutF]at h ⊢
  split at h
  ·rename_i he;rw[if_pos he];exact h
  ·rename_i he
   rw[if_neg he]
   split at h
   ·have:=congrArg (fun q=>q.2.2) h;simp at this
   ·rename_i ht;rw[if_neg ht];exact ih _ _ _ _ _ h
theorem cutF_acc(n:Nat):∀(l:List UInt8) (k:Nat) (acc:List (List UInt8)),(cutF n l k acc).2.2=0->∃T2,(cutF n l k acc).1=acc++T2:=by
 induction n with
 |zero=>intro l k acc _;exact⟨[],by simp[cutF]⟩
 |succ n ih=>
  intro l k acc h
  rw[cutF]at h ⊢
  split at h
  ·rename_i he;rw[if_pos he];exact⟨[],by simp⟩
  ·rename_i he
   rw[if_neg he]
   split at h
   ·simp at h
   ·rename_i ht
    rw[if_neg ht]
    obtain⟨T2,h2⟩:=ih _ _ _ h
    exact⟨_,by rw[h2,append_assoc]⟩
theorem cutF_two(n:Nat):∀(l:List UInt8) (k:Nat) (acc:List (List UInt8)),(cutF n l k acc).2.2=0\/(cutF n l k acc).2.2=2:=by
 induction n with
 |zero=>intro l k acc;exact inl rfl
 |succ n ih=>
  intro l k acc
  rw[cutF]
  split
  ·exact inl rfl
  ·split
   ·exact inr rfl
   ·exact ih _ _ _
theorem cut_behind{l m:List UInt8}{T:List (List UInt8)}(h:cutL l=(T,0,0))(hl:l.length<=1500)(hm:m.length<=1500) :
  (cutL (35::120::10::(l++10::m))).2.2≠1/\((cutL (35::120::10::(l++10::m))).2.2=0->∃T2,(cutL (35::120::10::(l++10::m))).1=T++T2):=by
 have hlen:(35::120::10::(l++10::m)).length=l.length+m.length+4:=by simp;omega
 have h0:cutL (35::120::10::(l++10::m))=cutF ((35::120::10::(l++10::m)).length+1) ([35,120]++10::(l++10::m)) 0 []:=by
  unfold cutL;rw[if_neg (by omega)];rfl
 have h1:cutF 3 [35,120] 0 []=([],0,0):=by decide
 have hmm:(l++10::m).length=l.length+1+m.length:=by simp;omega
 obtain⟨n1,k1,hn1,e1⟩:=cut_more (l++10::m) 3 [35,120] 0 [] [] (by decide) h1 ((35::120::10::(l++10::m)).length+1) (by rw[hlen,hmm];show 2+1+(l.length+1+m.length) < _;omega)
 have h2:cutF (l.length+1) l k1 []=(T,0,0):=by
  unfold cutL at h
  rw[if_neg (by omega)]at h
  exact cutF_at _ _ _ _ _ _ h
 obtain⟨n2,k2,hn2,e2⟩:=cut_more m (l.length+1) l k1 [] T (by omega) h2 n1 (by rw[hmm]at hn1;omega)
 rw[h0,e1,e2]
 refine⟨?_,fun he=>cutF_acc _ _ _ _ he⟩
 rcases cutF_two n2 m k2 T with h|h<;>rw[h]<;>decide
theorem stopAt_append:∀(T T2:Toks),stopAt T<T.length->stopAt (T++T2)=stopAt T:=by
 intro T
 induction T with
 |nil=>intro T2 h;simp[stopAt]at h
 |cons t r ih=>
  intro T2 h
  rw[cons_append,stopAt,stopAt]
  rw[stopAt]at h
  split
  ·rfl
  ·rename_i hne
   rw[if_neg hne]at h
   rw[ih T2 (by simp at h;omega)]
end
end Go.Proofs.YtcbppnefeonmgaaGreatDoor
