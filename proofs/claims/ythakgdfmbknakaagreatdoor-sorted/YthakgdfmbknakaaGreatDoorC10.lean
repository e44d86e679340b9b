import Derived.Test.YthakgdfmbknakaaGreatDoorC9
import Derived.RangeFuncBox
import Derived.RangeFuncFrom
import Derived.Maps.AppendAt
import Derived.Sort.OwnSorted
set_option linter.all false
set_option maxHeartbeats 40000000
set_option maxRecDepth 100000
open Go.Proofs.Tryz
open Or (inl inr)
open Option (map_eq_some_iff)
open Nat (le_refl le_trans zero_le lt_succ_self)
open List (append_nil length_append length_cons mem_cons_self mem_singleton append_assoc cons_append mem_cons length_nil map_append length_map map_cons nil_append)
namespace Go.Proofs.YthakgdfmbknakaaGreatDoor
open List (append_toArray filter_append getElem?_eq_getElem map_nil push_toArray range size_toArray)
open _root_.Array (replicate_succ replicate_zero)
open World (cell? ownsRow_nil)
open Lib (compact keeps)
open MapKept (heap_alloc)
open Builtin (append_)
open Value (ownBlock)
open Kn (AH)
section
open Go.RowKit Go.Shelf
section
attribute [local go_sem] Oper.semAt_some
variable {w w':World}
def Bq(x:Nm):Array Value:=#[.string (bs x)]
def tK(N:Nat)(sv:Value)(l:List Nm)(W:World):Prop:=
 (sv=.slice none 0 0/\l=[])\/∃g cap cur,sv=.slice (some ⟨g,0,none⟩) l.length cap/\g<N/\W.heap[g]?=some (.cells cur aI (0,0))/\∀(j:Nat)(t:Nm),l[j]?=some t->cur[j]?=some (bM t)
def tK.DG{sv:Value}{l:List Nm}(h:w.ownsRow 0 aI 1 sv l.length (l.map bM)):tK w.heap.size sv l w:=by
 rcases h.2 with⟨rfl,Ou⟩|⟨g,cap,cur,rfl,Wo,Ng,Wk,Xo,Rh,Oz⟩
 ·exact inl ⟨rfl,List.length_eq_zero_iff.1 Ou⟩
 ·refine inr ⟨g,cap,cur,rfl,aB Ng,Ng,fun j tk hj=>?_⟩;have Lc:j<l.length:=(List.getElem?_eq_some_iff.1 hj).1;have h1:(l.map bM)[j]?=some (bM tk):=by rw[List.getElem?_map,hj];rfl
  rw[<- Oz,List.getElem?_take,if_pos (by omega)]at h1;rw[<- Array.getElem?_toList];exact h1
def tK.kept{N:Nat}{sv:Value}{l:List Nm}{W W':World}(h:tK N sv l W)(hb:Below N W W'):tK N sv l W':=by
 rcases h with h|⟨g,cap,cur,h1,h2,h3,h4⟩
 ·exact inl h
 ·exact inr ⟨g,cap,cur,h1,h2,(hb.block g h2).trans h3,h4⟩
def FX(F:Fence)(n:Nat)(hf:F.fn 258)(Oj:F.round=none)(hn:1<=n)(lr Bs N:Nat)(sv:Value)(l:List Nm)(hl:l.length<=100000000)(J Jx:List Nm->World->Prop)
  (hY:∀pre x W,J pre W->pre.length<l.length->YieldAt F (n-1) prog lr (Bq x) W fun e W'=>
   (e=.returned (.bool true)/\J (pre++[x]) W'/\Below N W W')\/(e=.returned (.bool false)/\Jx (pre++[x]) W'))
  (W:World) (Su:W.cell? ⟨Bs,0,none⟩=some sv) (hv:tK N sv l W) (h0:J [] W) :
  CallsIn F n prog 258 #[.func (.yield lr) #[] #[],.pointer (some ⟨Bs,0,none⟩)] W fun e W'=>(∃v,e=.returned v) /\
   ((∃ys,ys=l/\J ys W')\/(∃pre,True/\Jx pre W')):=by
 obtain⟨a,c,rfl,Qk⟩:∃a c,sv=.slice a l.length c/\(0<l.length->∃g',a=some ⟨g',0,none⟩):=by
  rcases hv with⟨rfl,rfl⟩|⟨g,cap,cur,rfl,_⟩
  ·exact⟨none,0,rfl,fun h=>by simp at h⟩
  ·exact⟨_,cap,rfl,fun _=>⟨g,rfl⟩⟩
 refine callsIn_of_wp func258 rfl hf ?_ Oj;simp only[ntmps258,size_toArray,length_cons,length_nil,Nat.reduceAdd,Nat.reduceSub,replicate_succ,replicate_zero,push_toArray,append_toArray,nil_append,cons_append]
 gi_wp2
 gi_loopw [7] (fun i wr=>∃k:Nat,k<=l.length/\i=.int .i64 (k:Nat)/\J (l.take k) wr/\Below N W wr) (fun i _=>(l.length-intOf i).toNat)
 case atStart=>exact⟨0,zero_le _,rfl,by simpa using h0,Below.refl _ _⟩
 case round=>
  obtain⟨k,hk,rfl,Wf,Ml⟩:=hrel
  by_cases Js:k<l.length
  ·have o4:l[k]?=some l[k]:=getElem?_eq_getElem Js;have Lo:l.take (k+1)=l.take k++[l[k]]:=by rw[List.take_add_one,o4];rfl
   generalize l[k]=tk at o4 Lo;have hx:=hY _ tk wr Wf (by rw[List.length_take];omega);obtain⟨g,rfl⟩:=Qk (by omega);have hvr:=hv.kept Ml
   have Kh:wr.cell? ⟨g,k,none⟩=some (.string (bs tk))/\g<wr.heap.size:=by
    rcases hvr with⟨h1,_⟩|⟨g2,cap2,cur,h1,h2,h3,h4⟩
    ·cases h1
    ·cases h1;have:=h4 k tk o4;refine⟨?_,aB h3⟩;simp[cell?,h3]
     simpa [bM]using this
   obtain⟨Kh,Qo⟩:=Kh;obtain⟨fn,tmps,assign,body,hy,hR⟩:=hx;unfold Bq at hy;have S2:(k:Int)<(l.length:Int):=by omega
   clear hvr Qk hY
   gi_wp2
   refine hR.mono ?_;rintro e W3 (⟨rfl,V3,Le⟩|⟨rfl,Xx⟩)
   ·gi_wp2
    go_roundw
    case rel=>exact⟨k+1,by omega,by simp,by rw[Lo];exact V3,Ml.trans Le⟩
    case measure=>simp[intOf];omega
   ·gi_wp2
    refine bodyPost_ret (results_none rfl _ _ _) rfl ?_;exact⟨⟨_,rfl⟩,.inr ⟨_,trivial,Xx⟩⟩
  ·obtain rfl:k=l.length:=by omega
   have S4:¬(l.length:Int)<(l.length:Int):=by omega
   gi_wp2
   go_end0;rw[List.take_length]at Wf;exact⟨⟨_,rfl⟩,.inl Wf⟩
def MX(F:Fence)(n:Nat)(hf:F.fn 201)(Oj:F.round=none)(a:Option Addr)(len cap:Nat)(w:World) :
  CallsIn F n prog 201 #[.slice a len cap] w fun e w'=>e=.returned (.func (.func 258) #[] #[.pointer (some ⟨w.heap.size,0,none⟩)])/\w'=w.alloc (.cells #[.slice a len cap] 22):=by
 refine callsIn_of_wp func201 rfl hf ?_ Oj;simp only[ntmps201,size_toArray,length_cons,length_nil,Nat.reduceAdd,Nat.reduceSub,replicate_succ,replicate_zero,push_toArray,append_toArray,nil_append,cons_append]
 gi_wp2
 go_ret;exact⟨rfl,rfl⟩
def vZ(F:Fence)(n:Nat)(hf:F.fn 258)(Oj:F.round=none)(hn:1<=n)(Bs:Nat)(sv:Value)(l:List Nm)(hl:l.length<=100000000)(w:World)
  (hc:w.heap[Bs]?=some (.cells #[sv] 22 (0,0))) (hT:tK w.heap.size sv l w) :
  SeqStopsK F n prog 258 #[.pointer (some ⟨Bs,0,none⟩)] Bq (Below w.heap.size) (fun ys=>ys=l) (fun _=>True) l.length w:=fun lr J Jx W hW _ _ hY h0=>
 FX F n hf Oj hn lr Bs w.heap.size sv l hl J Jx hY W (by simp[cell?,hW.block Bs (aB hc),hc]) (hT.kept hW) h0
end
end
section
open Go.RowKit Go.Shelf
section
attribute [local go_sem] Oper.semAt_some
variable {w w':World}
def uR{Bs:Nat}{sv:Value}{l:List Nm}(hl:l.length<=100000000)(hc:w.heap[Bs]?=some (.cells #[sv] cM (0,0)))(hT:tK w.heap.size sv l w) :
  Calls prog 283 #[.slice none 0 0,.func (.func 258) #[] #[.pointer (some ⟨Bs,0,none⟩)]] w fun e w'=>∃v,e=.returned v/\w'.ownsRow w.heap.size aI 1 v l.length (l.map bM)/\Below w.heap.size w w':=by
 obtain⟨wl,Nx⟩:∃wl,wl=w.alloc (.cells #[.slice none 0 0] cM):=⟨_,rfl⟩;have Kx:Below w.heap.size w wl:=by rw[Nx];exact(Below.refl _ w).alloc (le_refl _) _
 have Ke:wl.heap.size=w.heap.size+1:=by rw[Nx];simp
 have Lw:Boxed wl w.heap.size cM (.slice none 0 0):=by rw[Nx];exact Boxed.new w cM _
 have Jz:=vZ Fence.wide (4-1) trivial rfl (by omega) Bs sv l hl w hc hT;have Ss:(fun(pre:List Nm) (W:World)=>(∃v,Boxed W w.heap.size cM v/\W.ownsRow w.heap.size aI 1 v pre.length (pre.map bM)/\True)/\Below w.heap.size w W/\wl.heap.size<=W.heap.size) [] wl:=⟨⟨_,Lw,ownsRow_nil _ _ _ _,trivial⟩,Kx,le_refl _⟩
 have Jr:OwnFrom wl.heap.size (fun(pre:List Nm) (W:World)=>(∃v,Boxed W w.heap.size cM v/\W.ownsRow w.heap.size aI 1 v pre.length (pre.map bM)/\True)/\Below w.heap.size w W/\wl.heap.size<=W.heap.size):=by
  refine OwnFrom.and (Own.from (holdsRow_own w.heap.size w.heap.size cM aI 1 (fun pre:List Nm=>pre.length) (fun pre=>pre.map bM) (fun _ _=>True)) _) ?_;rintro s W W' row⟨h1,h2⟩ hg hr;exact⟨h1.grown hg h1.size fun k e=>by have:=(hr k e).1;omega,le_trans h2 hg.size⟩
 have Km:=aC Jz;have Wi:=aC Ss;have Mk:=aC Jr;have HBL:=aC Kx;clear Jz Ss Jr hT hc Lw Kx;refine(callsIn_wide (n:=4)).1 ?_;refine callsIn_of_wp_marks func283 rfl trivial ?_ rfl;simp only[ntmps283,size_toArray,length_cons,length_nil,Nat.reduceAdd,Nat.reduceSub,replicate_succ,replicate_zero,push_toArray,append_toArray,nil_append,cons_append]
 gi_wp2
 rw[<- Nx];have Q8:∀(W:World)(k:Nat)(o o':Obj),wl.heap.size<=k->W.heap[k]?=some o->o.isCells=false->o.isWalk=false->Below w.heap.size W (W.putObj k o'):=fun W k o o' h1 h2 h3 h4=>belowK_b (w:=wl) (by omega) W k o o' h1 h2 h3 h4
 refine wpIn_rangeFunc_ownF rfl (by omega) (gf:=258) (lb:=#[.pointer (some ⟨Bs,0,none⟩)]) ?hg trivial (enters_of func258 (by kernel_rfl) rfl)
  Km.out (fun h k=>h.trans k) Q8 HBL.out (fun _=>rfl) (fun(pre:List Nm) (W:World)=>(∃v,Boxed W w.heap.size cM v/\W.ownsRow w.heap.size aI 1 v pre.length (pre.map bM)/\True)/\Below w.heap.size w W/\wl.heap.size<=W.heap.size) (fun _ _ _=>False) Mk.out (fun _ _ _ _ _ hs _ _=>hs) Wi.out
  (fun x=>{ tmps:=#[.slice none 0 0,.func (.func 258) #[] #[.pointer (some ⟨Bs,0,none⟩)],.pointer (some ⟨w.heap.size,0,none⟩),undef,.slice none 0 0,.string (bs x),.func (.func 258) #[] #[.pointer (some ⟨Bs,0,none⟩)],.string (bs x),undef,undef,undef,undef,undef],defers:=[] }) ?assign ?body ?done ?stop
 case hg=>rfl
 case assign=>
  intro lr x W K hK;unfold Bq
  gi_wp2
  exact hK
 case body=>
  rintro lr pre x W⟨⟨v,hv,Jn,_⟩,hB,hW⟩ Jm;obtain⟨i0,hi,Og,Lz,Nj⟩:=info_parts vI;have Nh:=hv.cell;have C3:=hv.frozen
  obtain⟨va,vn,vc,rfl⟩:∃a n c,v=.slice a n c:=by
   rcases aD Jn with⟨rfl,_⟩|⟨g,cap,rfl⟩
   ·exact⟨_,_,_,rfl⟩
   ·exact⟨_,_,_,rfl⟩
  have hte:cM≠aI:=by decide
  gi_wp2_with (gi_at_builtin;refine wpListIn_append_own _ rfl _ _ cM rfl w.heap.size aI i0 _ 1 16 underlying22 hi Og Lz Nj rfl (by decide) _ _ _ rfl (Jn.alloc _) ⟨W.heap.size,0,none⟩ 1 1 [.string (bs x)] rfl rfl (cell_one_new _ _ _) (by simp[Value.oneCell']) (by have:maxLen=9223372036854775807:=rfl;omega) (by omega) (by simp;omega) ?_;intro v' w1 La Lf _;obtain⟨g',cap',rfl⟩:=ownsRow_succ La;obtain⟨Sm,Mx,Nc,Jy,Mf⟩:=hv.appended hte Jn hB.size (le_refl _) La Lf;have Ny:=Sm.cell;have Wc:=Sm.frozen)
  refine⟨Jy,Mf,⟨_,Mx,?_,trivial⟩,hB.trans Mf,by have:=Mf.size;omega⟩
  simpa [bM]using Nc
 case done=>
  rintro D xs W hD rfl⟨⟨v,hv,Jn,_⟩,hB,hW⟩ hK;have Nh:=hv.cell
  obtain⟨va,vn,vc,rfl⟩:∃a n c,v=.slice a n c:=by
   rcases aD Jn with⟨rfl,_⟩|⟨g,cap,rfl⟩
   ·exact⟨_,_,_,rfl⟩
   ·exact⟨_,_,_,rfl⟩
  gi_wp2
  refine⟨by simp,.inl ⟨_,_,rfl,run_takeDeferred hK,?_⟩⟩;exact⟨_,results_tmp rfl _ _ _,_,rfl,ownsRow_putObj Jn _ hK rfl,hB.trans (belowK_b (w:=w) (le_refl _) W D _ _ (by omega) hK rfl rfl)⟩
 case stop=>
  rintro D c pre W _ _ h _;exact h.elim
def EN{Bs:Nat}{sv:Value}{l:List Nm}(hl:l.length<=100000000)(hc:w.heap[Bs]?=some (.cells #[sv] cM (0,0)))(hT:tK w.heap.size sv l w) :
  Calls prog 256 #[.func (.func 258) #[] #[.pointer (some ⟨Bs,0,none⟩)]] w fun e w'=>∃v,e=.returned v/\w'.ownsRow w.heap.size aI 1 v l.length (l.map bM)/\Below w.heap.size w w':=by
 have HA:=aC (uR hl hc hT);clear hc hT;go_enter func256,ntmps256;go_wp2_with fail;refine(HA.out).mono ?_;rintro e u⟨v,rfl,h1,h2⟩;go_wp2;refine bodyPost_ret (results_tmp rfl _ _ _) rfl ?_;exact⟨_,rfl,h1,h2⟩
def srt(l:List Nm):List Nm:=l.mergeSort fun x y=>decide (x<=y)
def GD{Bs:Nat}{sv:Value}{l:List Nm}(hl:l.length<=100000000)(hc:w.heap[Bs]?=some (.cells #[sv] cM (0,0)))(hT:tK w.heap.size sv l w) :
  Calls prog 200 #[.func (.func 258) #[] #[.pointer (some ⟨Bs,0,none⟩)]] w fun e w'=>∃a c,e=.returned (.slice a l.length c)/\w'.ownsRow w.heap.size aI 1 (.slice a l.length c) l.length ((srt l).map bM)/\Below w.heap.size w w':=by
 have hA:=(EN hl hc hT).mono (R':=fun e u=>∃a c,e=.returned (.slice a l.length c)/\Calls prog 257 #[.slice a l.length c] u fun e u2=>e=.returned (.tuple #[])/\u2.ownsRow w.heap.size aI 1 (.slice a l.length c) l.length ((srt l).map bM)/\Below w.heap.size w u2) fun e u ha=>by
  obtain⟨v,rfl,Jn,hb⟩:=ha;rcases Jn.2 with⟨rfl,hz⟩|⟨gb,cap,cur,rfl,Ra,Sj,r1,r2,r3,r4⟩
  ·have Pk:l=[]:=List.length_eq_zero_iff.1 hz;subst Pk;refine⟨none,0,rfl,(Tryz.slices_Sort_string_none none 0 u).mono ?_⟩;rintro e u2⟨rfl,rfl⟩;exact⟨rfl,by simpa [srt]using Jn,hb⟩
  ·have hH:Go.Sort.Holds encStr u gb 0 l.toArray:=holds_of_block Sj (by rw[Nat.mul_one]at r4;exact r4);refine⟨_,cap,rfl,(Tryz.slices_Sort_string gb 0 cap l u hH (aB Sj) (by omega)).mono ?_⟩;rintro e u2⟨rfl,nn,os,rfl⟩;refine⟨rfl,?_,hb.grown (grownBy_sorted _) hb.size (fun j hj=>by cases hj;exact Ra)⟩;have:=ownsRow_sorted (ss:=l) (ts:=srt l) (n:=nn) (os:=os) (by simp[srt]) Ra Sj r1 r2 r3;exact this
 have HA:=aC hA;clear hc hT hA;go_enter func200,ntmps200;go_wp2_with fail;refine(HA.out).mono ?_;rintro e u⟨a,c,rfl,hs⟩;have HS:=aC hs;clear hs HA;go_wp2_with fail;refine(HS.out).mono ?_;rintro e u2⟨rfl,Yg,Ki⟩;go_wp2;refine bodyPost_ret (results_tmp rfl _ _ _) rfl ?_;exact⟨a,c,rfl,Yg,Ki⟩
end
end
section
open Go.RowKit Go.Shelf
def TZ(a b c:Nm)(h1:decide (a<=b)=true)(h2:decide (b<=c)=true):decide (a<=c)=true:=by
 rw[decide_eq_true_eq]at *;exact List.le_trans h1 h2
def UA(a b:Nm):(decide (a<=b) || decide (b<=a))=true:=by
 rw[Bool.or_eq_true,decide_eq_true_eq,decide_eq_true_eq];exact List.le_total a b
def nZ(l:List Nm):(srt l).Perm l:=List.mergeSort_perm l _
def GC(l:List Nm):(srt l).Pairwise (·<=·):=by
 have:=List.pairwise_mergeSort (le:=fun x y:Nm=>decide (x<=y)) TZ UA l;exact this.imp fun h=>by simpa using h
def mR:∀(s:List Nm),s.Pairwise (·<=·)->(∀j x,s[j]?=some x->s[j+1]?≠some x)->s.Nodup:=by
 intro s
 induction s with
 |nil=>intro _ _;exact List.nodup_nil
 |cons x r ih=>
  intro hs hn;rw[List.pairwise_cons]at hs;refine List.nodup_cons.2 ⟨fun hx=>?_,ih hs.2 fun j y hj=>hn (j+1) y (by simpa using hj)⟩
  cases r with
  |nil=>cases hx
  |cons y t=>
   have h0:=hn 0 x (by simp);have hxy:x<=y:=hs.1 y mem_cons_self
   have Nz:y<=x:=by
    rcases mem_cons.1 hx with rfl|h
    ·exact hxy
    ·exact(List.pairwise_cons.1 hs.2).1 x h
   have:x=y:=List.le_antisymm hxy Nz;subst this;exact h0 (by simp)
def mS{s:List Nm}(h:s.Nodup)(j:Nat)(x:Nm)(hj:s[j]?=some x):s[j+1]?≠some x:=fun h2=>by
 obtain⟨i1,e1⟩:=List.getElem?_eq_some_iff.1 hj;obtain⟨i2,e2⟩:=List.getElem?_eq_some_iff.1 h2;exact(List.pairwise_iff_getElem.1 h j (j+1) i1 i2 (lt_succ_self j)) (by rw[e1,e2])
def nG(s:List Nm):(∀j,j<s.length->keeps s.toArray j=true)↔∀j x,s[j]?=some x->s[j+1]?≠some x:=by
 constructor
 ·intro h j x hj h2;obtain⟨i2,e2⟩:=List.getElem?_eq_some_iff.1 h2;obtain⟨i1,e1⟩:=List.getElem?_eq_some_iff.1 hj;have:=h (j+1) i2;unfold keeps at this;rw[decide_eq_true_eq]at this;rcases this with h|h
  ·omega
  ·apply h;rw[getElem!_pos _ _ (by simpa using i2),getElem!_pos _ _ (by simpa using i1)];simp[e1,e2]
 ·intro h j hj;unfold keeps;rw[decide_eq_true_eq]
  cases j with
  |zero=>exact inl rfl
  |succ j=>
   refine inr fun e=>?_;have i1:j<s.length:=by omega
   rw[getElem!_pos _ _ (by simpa using hj),getElem!_pos _ _ (by simpa using i1)]at e;simp at e;exact h j s[j] (getElem?_eq_getElem i1) (by rw[getElem?_eq_getElem hj,e])
def oM(s:List Nm):(compact s).length=s.length↔∀j,j<s.length->keeps s.toArray j=true:=by
 constructor
 ·intro h j hj;unfold compact Lib.compactUpTo at h;rw[length_map]at h;have h2:((range s.length).filter (keeps s.toArray)).length=(range s.length).length:=by rw[h,List.length_range]
  exact List.filter_eq_self.1 (List.Sublist.eq_of_length List.filter_sublist h2) j (List.mem_range.2 hj)
 ·intro h;rw[Lib.compact_all s h]
def NH(l:List Nm):decide ((compact (srt l)).length<l.length)=bZ l:=by
 have Jm:(srt l).length=l.length:=(nZ l).length_eq;have hle:=Lib.compact_length_le (srt l);unfold bZ
 by_cases hn:l.Nodup
 ·have hs:(srt l).Nodup:=(nZ l).nodup_iff.2 hn;have:(compact (srt l)).length=(srt l).length:=(oM _).2 ((nG _).2 (mS hs));simp[hn];omega
 ·have hs:¬(srt l).Nodup:=fun h=>hn ((nZ l).nodup_iff.1 h);have:(compact (srt l)).length≠(srt l).length:=fun h=>hs (mR _ (GC l) ((nG _).1 ((oM _).1 h)));simp[hn];omega
section
variable {w w':World}
def yL{l:List Nm}{a:Option Addr}{n c:Nat}(hl:l.length<=100000000)(hr:w.ownsRow 0 aI 1 (.slice a n c) l.length (l.map bM)) :
  n=l.length/\Calls prog 201 #[.slice a n c] w fun e u=>e=.returned (.func (.func 258) #[] #[.pointer (some ⟨w.heap.size,0,none⟩)]) /\
   Calls prog 200 #[.func (.func 258) #[] #[.pointer (some ⟨w.heap.size,0,none⟩)]] u fun e u2=>∃a2 c2,e=.returned (.slice a2 l.length c2) /\
    Calls prog 202 #[.slice a2 l.length c2] u2 fun e u3=>∃a3 n3 c3,e=.returned (.slice a3 n3 c3)/\n3<=100000000/\decide (n3<l.length)=bZ l/\Kn (fun _=>False) w u3:=by
 have hn:n=l.length:=by
  rcases aD hr with⟨h,h0⟩|⟨g,cap,h⟩
  ·cases h;exact h0.symm
  ·cases h;rfl
 refine⟨hn,(callsIn_wide.1 (MX Fence.wide 0 trivial rfl a n c w)).mono ?_⟩;rintro e u⟨rfl,rfl⟩;have E0:=hr.alloc (.cells #[.slice a n c] 22);refine⟨rfl,(GD (Bs:=w.heap.size) hl (heap_alloc w _).1 (tK.DG E0)).mono ?_⟩;rintro e u2⟨a2,c2,rfl,Jn,hb⟩;have Jm:(srt l).length=l.length:=(nZ l).length_eq;have Jy:Kn (fun _=>False) w u2:=((Kn.refl _ w).alloc _).trans (Kn.AP hb);refine⟨a2,c2,rfl,?_⟩;have htw:=NH l;have hle:=Lib.compact_length_le (srt l);rcases Jn.2 with⟨h1,hz⟩|⟨gb,cap,cur,h1,Ra,Sj,r1,r2,r3,r4⟩
 ·have Pk:l=[]:=List.length_eq_zero_iff.1 hz;subst Pk;cases h1;refine(Tryz.slices_Compact_string_empty none 0 u2).mono ?_;rintro e u3⟨rfl,rfl⟩;exact⟨none,0,0,rfl,by omega,by simp[bZ],Jy⟩
 ·cases h1;rw[Nat.mul_one]at r4;have hH:Go.Sort.Holds encStr u2 gb 0 (srt l).toArray:=holds_of_block Sj (by rw[Jm];exact r4);have hC:=Tryz.slices_Compact_string gb 0 c2 (srt l) u2 hH (by omega) (by omega);rw[Jm]at hC;refine hC.mono ?_;rintro e u3⟨rfl,q,rfl⟩;refine⟨_,_,_,rfl,by omega,htw,Jy.trans' (D':=fun k=>k=gb) ⟨rfl,rfl,rfl,by simp,fun k hk Ju=>?_⟩ fun k hk he=>?_⟩
  ·have Ju:gb≠k:=fun e=>Ju e.symm;simp[Go.Sort.putRow,Go.Sort.mapBlock,Go.Sort.ahead,Array.getElem?_modify,Ju]
  ·have:=(heap_alloc w (.cells #[.slice a l.length c] 22)).1;simp at Ra;omega
def kT{l:List Nm}{a:Option Addr}{n c:Nat}(hl:l.length<=100000000)(hr:w.ownsRow 0 aI 1 (.slice a n c) l.length (l.map bM)) :
  Calls prog 155 #[.slice a n c] w fun e w'=>e=.returned (.bool (bZ l))/\Kn (fun _=>False) w w':=by
 obtain⟨rfl,Lh⟩:=yL hl hr;generalize hQ:(fun(e:Ending) (w':World)=>e=.returned (.bool (bZ l))/\Kn (fun _=>False) w w')=Q;have hq:∀u,Kn (fun _=>False) w u->Q (.returned (.bool (bZ l))) u:=fun u hu=>by rw[<- hQ];exact⟨rfl,hu⟩
 have HQ:=aC hq;have Lt:=aC Lh;clear Lh hr hq hQ;generalize Kn (fun _=>False) w=V at *;generalize bZ l=b at *;generalize l.length=n at *;go_enter func155,ntmps155;go_wp2_with fail;refine(Lt.out).mono ?_;rintro e u⟨rfl,hs⟩;have HS:=aC hs;clear hs Lt;go_wp2_with fail;refine(HS.out).mono ?_;rintro e u2⟨a2,c2,rfl,hc⟩;have HC:=aC hc;clear hc HS;go_wp2_with fail;refine(HC.out).mono ?_;rintro e u3⟨a3,n3,c3,rfl,Va,hb,hk⟩;have HK:=aC (HQ.out _ hk);clear hk HC HQ;go_wp2;subst hb;exact HK.out
end
end
section
open Go.RowKit Go.Shelf
section
attribute [local go_sem] Oper.semAt_some
variable {ad:List Nat}{A:Env}{tb lb:Nat}{s s':Lk}{w w':World}{nb:Nat}{txt:Nm}
def oL(A:Env)(l:List Nd)(s:Lk):Lk:=(l.filter (fun n=>n.k==14)).foldl (fun s n=>jT A n s) s
def gC(l:List Nd):List Nm:=(l.filter (fun n=>n.k==3)).map Nd.txt
structure oU(A:Env)(tb lb:Nat)(s:Lk)(w wl:World){w0:World}(pre:List (eN w0))(W:World):Prop where
 fl:W.heap[lb]?=some (.cells #[.map (some tb),.bool (oL A (pre.map (·.1.1)) s).wn,.bool (oL A (pre.map (·.1.1)) s).wc] gV (0,0))
 kn:Kn (fun k=>k=lb) w W
 tr:fD wl W
 b0:Boxed W w.heap.size fQ (aA lb)
 bx:∃v,Boxed W (w.heap.size+1) cM v/\W.ownsRow (w.heap.size+1) aI 1 v (gC (pre.map (·.1.1))).length ((gC (pre.map (·.1.1))).map bM)
 sz:wl.heap.size<=W.heap.size
def oU.own{wl w0:World}{B:Nat}(hlb:lb<w.heap.size)(hB:w.heap.size+3<=B):OwnFrom B (oU A tb lb s w wl (w0:=w0)):=by
 rintro pre W W' row⟨h1,h2,h3,h4,⟨v,h5,h6⟩,h7⟩ hg hr
 have hc:∀(k:Nat)(c:Array Value)(t:TypeId)(f:Nat×Nat),W.heap[k]?=some (.cells c t f)->W'.heap[k]?=W.heap[k]?:=fun k c t f hk=>by
  refine hg.block k (aB hk) fun e=>?_;obtain⟨_,o,ho,hn⟩:=hr k e.symm;rw[hk]at ho;cases ho;cases hn
 refine⟨(hc _ _ _ _ h1).trans h1,h2.grown hg fun k e=>inr (by have:=(hr k e).1;omega),h3.trans ⟨hg.size,fun k c t f _ hk=>hc k c t f hk⟩,(hc _ _ _ _ h4).trans h4,⟨v,(hc _ _ _ _ h5).trans h5,aE h6 fun q c f _ hk=>hc q c _ f hk⟩,le_trans h7 hg.size⟩
def nP(l:List Nd)(x:Nd):oL A (l++[x]) s=if x.k=14 then jT A x (oL A l s)else oL A l s:=by
 unfold oL;rw[filter_append,List.foldl_append]
 by_cases h:x.k=14<;>simp[h]
def iV(l:List Nd)(x:Nd):gC (l++[x])=if x.k=3 then gC l++[x.txt]else gC l:=by
 unfold gC;rw[filter_append,map_append]
 by_cases h:x.k=3<;>simp[h]
def TA{wl W:World}{pre:List (eN wl)}(x:eN wl)(h:bR ad A tb lb s w)(Ke:wl.heap.size=w.heap.size+3)(hI:oU A tb lb s w wl pre W)(Jm:pre.length<=100000000) :
  ∃va vn vc,W.cell? ⟨w.heap.size,0,none⟩=some (aA lb)/\W.cell? ⟨w.heap.size+1,0,none⟩=some (.slice va vn vc)/\W.frozen? ⟨w.heap.size+1,0,none⟩=false/\W.cell? ⟨x.1.2,0,none⟩=some (.int .i64 x.1.1.k)/\W.cell? ⟨x.1.2,1,none⟩=some (.string (bs x.1.1.txt)) /\
  (x.1.1.k=3->∃g' n' c' w1,(append_ #[22,22] 22 #[.slice va vn vc,.slice (some ⟨W.heap.size,0,none⟩) 1 1]).run prog (W.alloc (.cells #[.string (bs x.1.1.txt)] aI)).drew=.ok (.slice (some ⟨g',0,none⟩) n' c') w1/\w1.cell? ⟨w.heap.size+1,0,none⟩=some (.slice va vn vc)/\w1.frozen? ⟨w.heap.size+1,0,none⟩=false /\
   Hid (KeepsFrom wl.heap.size W (w1.setCell ⟨w.heap.size+1,0,none⟩ (.slice (some ⟨g',0,none⟩) n' c'))/\fD W (w1.setCell ⟨w.heap.size+1,0,none⟩ (.slice (some ⟨g',0,none⟩) n' c'))/\oU A tb lb s w wl (pre++[x]) (w1.setCell ⟨w.heap.size+1,0,none⟩ (.slice (some ⟨g',0,none⟩) n' c')))) /\
  (x.1.1.k=14->Calls prog 159 #[aA lb,aA x.1.2] W fun e u'=>e=.returned (.tuple #[])/\KeepsFrom wl.heap.size W u'/\fD W u'/\oU A tb lb s w wl (pre++[x]) u') /\
  (x.1.1.k≠3->x.1.1.k≠14->KeepsFrom wl.heap.size W W/\fD W W/\oU A tb lb s w wl (pre++[x]) W):=by
 have hm:=x.2.1;have Ru:x.1.1=.mk x.1.1.k x.1.1.txt x.1.1.ps:=by cases x.1.1;rfl
 have hx:=x.2.2;obtain⟨C1,Mj,So,Ps,⟨v,Lw,Jn⟩,hs⟩:=hI
 have E7:AB W (.mk x.1.1.k x.1.1.txt x.1.1.ps) x.1.2:=by
  have:=So.tree hm;rw[Ru]at this;exact this
 obtain⟨pv,bl,n1,_,_⟩:=E7.inv;have Tf:lb<w.heap.size:=aB h.lk;have Mq:=h.CU Mj C1
 obtain⟨va,vn,vc,rfl⟩:∃a n c,v=.slice a n c:=by
  rcases aD Jn with⟨rfl,_⟩|⟨g,cap,rfl⟩
  ·exact⟨_,_,_,rfl⟩
  ·exact⟨_,_,_,rfl⟩
 refine⟨va,vn,vc,Ps.cell,Lw.cell,Lw.frozen,by simp[cell?,n1],by simp[cell?,n1],?_,?_,?_⟩
 ·intro hk
  have Qs:(gC (pre.map (·.1.1))).length<=100000000:=by
   unfold gC;rw[length_map];exact le_trans (List.length_filter_le _ _) (by rw[length_map];exact Jm)
  have A4:W.drew.ownsRow (w.heap.size+1) aI 1 (.slice va vn vc) (gC (pre.map (·.1.1))).length ((gC (pre.map (·.1.1))).map bM):=Jn;have o6:Boxed W.drew (w.heap.size+1) cM (.slice va vn vc):=Lw;have N1:w.heap.size+1<=W.drew.heap.size:=by have:W.drew.heap.size=W.heap.size:=rfl;omega
  obtain⟨v',w1,Jo,La,Lf⟩:=iA (ty:=22) x.1.1.txt A4 Qs N1;rw[length_append]at La;obtain⟨g',c',rfl⟩:=ownsRow_succ La;obtain⟨Sm,Mx,Nc,Jy,Mf⟩:=o6.appended (by decide) A4 N1 (le_refl _) La Lf
  have Wy:fD W (w1.setCell ⟨w.heap.size+1,0,none⟩ (.slice (some ⟨g',0,none⟩) ((gC (pre.map (·.1.1))).length+[x.1.1.txt].length) c')):=by
   refine⟨Jy.size,fun k c t f ht hc=>?_⟩
   rw[Below.heap_setCell _ _ _ _ (fun e=>by
    have Mv:=hc;rw[e,show W.heap[w.heap.size+1]?=_ from Lw]at Mv
    rcases ht with rfl|rfl<;>exact absurd (aN Mv) (by decide))]
   have hk:k<(W.drew.alloc (.cells #[.string (bs x.1.1.txt)] aI)).heap.size:=by
    have:=aB hc;have:W.drew.heap.size=W.heap.size:=rfl;simp;omega
   rw[Lf.block k hk fun e=>?_]
   ·exact Below.heap_alloc W.drew _ k (aB hc)
   ·rcases Jn.2 with⟨h1,_⟩|⟨g,cap,cur,h1,_,Sj,_⟩
    ·cases h1;simp[ownBlock]at e
    ·cases h1;obtain rfl:k=g:=by simpa [ownBlock]using e
     rw[hc]at Sj;rcases ht with rfl|rfl<;>exact absurd (aN Sj) (by decide)
  have Lv:∀k,k<w.heap.size+1->(w1.setCell ⟨w.heap.size+1,0,none⟩ (.slice (some ⟨g',0,none⟩) ((gC (pre.map (·.1.1))).length+[x.1.1.txt].length) c')).heap[k]?=W.heap[k]?:=fun k hk=>Mf.block k hk;refine⟨g',_,c',w1,Jo,Sm.cell,Sm.frozen,aC ⟨⟨Jy.size,fun k o hB hk ho=>Jy.same k o hk ho⟩,Wy,?_,⟨Mf.os.trans Mj.os,Mf.tape.trans Mj.tape,Mf.output.trans Mj.output,le_trans Mj.size Jy.size,fun k hk Ju=>(Lv k (by omega)).trans (Mj.block k hk Ju)⟩,So.trans Wy,(Lv _ (by omega)).trans Ps,⟨_,Mx,?_⟩,le_trans hs Jy.size⟩⟩
  ·rw[map_append,map_cons,map_nil,nP,if_neg (by omega)];exact(Lv lb (by omega)).trans C1
  ·rw[map_append,map_cons,map_nil,iV,if_pos hk,length_append];exact Nc
 ·intro hk;refine(sV hx Mq E7).mono ?_;rintro e u2⟨rfl,q1,q2⟩;have hc:∀(k:Nat)(c:Array Value)(t:TypeId)(f:Nat×Nat),t≠gV->W.heap[k]?=some (.cells c t f)->u2.heap[k]?=W.heap[k]?:=fun k c t f ht hc=>q2.block k (aB hc) fun e=>Mq.not hc ht (inr e);have Oq:fD W u2:=⟨q2.size,fun k c t f ht hk=>hc k c t f (by rcases ht with rfl|rfl<;>decide) hk⟩;refine⟨rfl,⟨q2.size,fun k o hB hk _=>by rw[q2.block k (Array.getElem?_eq_some_iff.1 hk).1 (by omega)];exact hk⟩,Oq,?_,Mj.trans q2,So.trans Oq,(hc _ _ _ _ (by decide) Ps).trans Ps,⟨_,(hc _ _ _ _ (by decide) Lw).trans Lw,?_⟩,le_trans hs q2.size⟩
  ·have:=q1.lk;rw[map_append,map_cons,map_nil,nP,if_pos hk];rw[<- Ru]at this;exact this
  ·rw[map_append,map_cons,map_nil,iV,if_neg (by omega)];exact aE Jn fun q c f _ hk=>hc q c _ f (by decide) hk
 ·intro h1 h2;refine⟨KeepsFrom.refl _ _,fD.refl _,?_,Mj,So,Ps,⟨_,Lw,?_⟩,hs⟩
  ·rw[map_append,map_cons,map_nil,nP,if_neg h2];exact C1
  ·rw[map_append,map_cons,map_nil,iV,if_neg h1];exact Jn
def TB{p:Nd}{wl W:World}{xs:List (eN wl)}{g cap ba bb D:Nat}(h:bR ad A tb lb s w)(hp:dH nb 16 txt g cap [ba,bb] w)(Ke:wl.heap.size=w.heap.size+3)(Uv:xs.map (·.1.1)=p.all)(hx:∀x∈p.all,x.txt.length<=100000000)(Nb:p.all.length<=100000000)
  (hE:∀u,Kn (fun k=>k=tb\/k=lb) w u->bR ad (cE A (bK p) Mg.zero) tb lb ((oL A p.all s).name (bZ (bK p))) u->Calls prog 112 #[aA lb,aA bb] u (fG ad (cE A (bK p) Mg.zero) tb lb s' u))
  (hI:oU A tb lb s w wl xs W) (hD:wl.heap.size<=D) (hK:W.heap[D]?=some (.deferred (some []))) :
  ∃va vn vc,(∀u,Kn (fun _=>False) W u->u.cell? ⟨w.heap.size,0,none⟩=some (aA lb)/\u.cell? ⟨w.heap.size+1,0,none⟩=some (.slice va vn vc) /\
   Calls prog 155 #[.slice va vn vc] u fun e u2=>∃b,e=.returned (.bool b)/\(u2.cell? ⟨w.heap.size,0,none⟩=some (aA lb)/\u2.cell? ⟨w.heap.size+1,0,none⟩=some (.slice va vn vc)) /\
    Calls prog 153 #[aA lb,.bool b] u2 fun e u3=>e=.returned (.tuple #[])/\(u3.cell? ⟨w.heap.size,0,none⟩=some (aA lb)/\u3.cell? ⟨w.heap.size+1,0,none⟩=some (.slice va vn vc)) /\
     ∀u4,Kn (fun _=>False) u3 u4->(u4.cell? ⟨w.heap.size,0,none⟩=some (aA lb)/\u4.cell? ⟨w.heap.size+1,0,none⟩=some (.slice va vn vc)/\u4.cell? ⟨nb,2,none⟩=some (.slice (some ⟨g,0,none⟩) 2 cap)/\u4.cell? ⟨g,1,none⟩=some (aA bb)) /\
      Calls prog 111 #[aA lb,aA bb,.slice va vn vc] u4 fun e u5=>e=.returned (.tuple #[])/\(u5.cell? ⟨w.heap.size,0,none⟩=some (aA lb)/\u5.cell? ⟨w.heap.size+1,0,none⟩=some (.slice va vn vc)/\u5.cell? ⟨nb,2,none⟩=some (.slice (some ⟨g,0,none⟩) 2 cap)/\u5.cell? ⟨g,1,none⟩=some (aA bb))/\u5.heap[D]?=some (.deferred (some []))/\fG ad A tb lb s' w (.returned (.tuple #[])) (u5.putObj D (.deferred none))):=by
 obtain⟨C1,Mj,So,Ps,⟨v,Lw,Jn⟩,hs⟩:=hI;rw[Uv]at C1 Jn;have Yq:gC p.all=bK p:=rfl;rw[Yq]at Jn;have Mq:=h.CU Mj C1;have Tf:lb<w.heap.size:=aB h.lk;obtain⟨_,_,Rt,_⟩:=id h.tab;have Vo:tb<w.heap.size:=Rt.lt
 obtain⟨va,vn,vc,rfl⟩:∃a n c,v=.slice a n c:=by
  rcases aD Jn with⟨rfl,_⟩|⟨g,cap,rfl⟩
  ·exact⟨_,_,_,rfl⟩
  ·exact⟨_,_,_,rfl⟩
 have Qs:(bK p).length<=100000000:=by
  unfold bK;rw[length_map];exact le_trans (List.length_filter_le _ _) Nb
 have Lb:∀x∈bK p,cL (0,x):=fun x hm=>by
  obtain⟨y,hy,rfl⟩:=List.mem_map.1 hm;exact⟨show 0<3 by decide,hx y (List.mem_filter.1 hy).1⟩
 have A5:W.ownsRow 0 aI 1 (.slice va vn vc) (bK p).length ((bK p).map bM):=bN Jn (zero_le _);have Jw:∀u,Kn (fun k=>k=tb\/k=lb) W u->(u.cell? ⟨w.heap.size,0,none⟩=some (aA lb)/\u.cell? ⟨w.heap.size+1,0,none⟩=some (.slice va vn vc)):=fun u hu=>⟨hu.cell (Mq.not Ps (by decide)) Ps.cell,hu.cell (Mq.not Lw (by decide)) Lw.cell⟩
 have Zl:∀u,Kn (fun k=>k=tb\/k=lb) W u->(u.cell? ⟨w.heap.size,0,none⟩=some (aA lb)/\u.cell? ⟨w.heap.size+1,0,none⟩=some (.slice va vn vc)/\u.cell? ⟨nb,2,none⟩=some (.slice (some ⟨g,0,none⟩) 2 cap)/\u.cell? ⟨g,1,none⟩=some (aA bb)):=fun u hu=>by
  obtain⟨_,_,c2,c3⟩:=(h.pt ((Mj.wide fun _ _ e=>inr e).trans hu) hp).cells;exact⟨(Jw u hu).1,(Jw u hu).2,c2,c3 1 bb rfl⟩
 refine⟨va,vn,vc,fun u hu=>⟨(Jw u (hu.wide fun _ _ h=>h.elim)).1,(Jw u (hu.wide fun _ _ h=>h.elim)).2,?_⟩⟩;have hru:u.ownsRow 0 aI 1 (.slice va vn vc) (bK p).length ((bK p).map bM):=aE A5 fun q c f _ hc=>hu.block q (aB hc) id;refine(kT Qs hru).mono ?_;rintro e u2⟨rfl,Jy⟩;have Ry:Kn (fun k=>k=tb\/k=lb) W u2:=(hu.trans Jy).wide fun _ _ h=>h.elim;refine⟨_,rfl,Jw u2 Ry,(eU _ ((Mq.stays hu).stays Jy)).mono ?_⟩;rintro e u3⟨rfl,q1,q2⟩;have hW3:=Ry.trans q2;refine⟨rfl,Jw u3 hW3,fun u4 r9=>⟨Zl u4 (hW3.trans (r9.wide fun _ _ h=>h.elim)),?_⟩⟩;have hW4:Kn (fun k=>k=tb\/k=lb) W u4:=hW3.trans (r9.wide fun _ _ h=>h.elim);have Uw:Kn (fun k=>k=tb\/k=lb) w u4:=(Mj.wide fun _ _ e=>inr e).trans hW4;have hr4:u4.ownsRow 0 aI 1 (.slice va vn vc) (bK p).length ((bK p).map bM):=aE A5 fun q c f _ hc=>hW4.block q (aB hc) (Mq.not hc (by decide));refine(mY (s':=s') hr4 Lb (q1.stays r9) fun u hk hl=>hE u (Uw.trans hk) hl).mono ?_;rintro e u5⟨rfl,r1,r2⟩;have hW5:=hW4.trans r2
 have hD5:u5.heap[D]?=some (.deferred (some [])):=by
  rw[hW5.block D (Array.getElem?_eq_some_iff.1 hK).1 (by rintro (e|e)<;>omega)];exact hK
 refine⟨rfl,Zl u5 hW5,hD5,rfl,r1.grown (grownBy_putObj' u5 D _) fun r e=>?_,(Uw.trans r2).grown (grownBy_putObj' u5 D _) fun k e=>inr ?_⟩
 ·cases e;exact⟨by omega,_,hD5,rfl⟩
 ·cases e;omega
def Ip(ts:Array TypeId)(ty:TypeId)(args:Array Value):Sem Value:=append_ ts ty args
def mO(ts:Array TypeId)(ty:TypeId)(args:Array Value):append_ ts ty args=Ip ts ty args:=rfl
attribute [local go_sem ↓] mO
def GL{p:Nd}{g cap ba bb:Nat}(h:bR ad A tb lb s w)(hp:dH nb 16 txt g cap [ba,bb] w)(hm:AB w p ba)(hx:∀x∈p.all,x.txt.length<=100000000)(Nb:p.all.length<=100000000)
  (hE:∀u,Kn (fun k=>k=tb\/k=lb) w u->bR ad (cE A (bK p) Mg.zero) tb lb ((oL A p.all s).name (bZ (bK p))) u->Calls prog 112 #[aA lb,aA bb] u (fG ad (cE A (bK p) Mg.zero) tb lb s' u)) :
  Calls prog 158 #[aA lb,aA nb] w (fG ad A tb lb s' w):=by
 obtain⟨wl,Nx⟩:∃wl,wl=((w.alloc (.cells #[aA lb] fQ)).alloc (.cells #[.slice none 0 0] cM)).alloc (.cells #[aA ba] aH):=⟨_,rfl⟩;have Lv:Kn (fun _=>False) w wl:=by rw[Nx];exact(((Kn.refl _ w).alloc _).alloc _).alloc _
 have Ke:wl.heap.size=w.heap.size+3:=by rw[Nx];simp
 have Tf:lb<w.heap.size:=aB h.lk
 have b0:wl.heap[w.heap.size]?=some (.cells #[aA lb] fQ (0,0)):=by
  rw[Nx,Below.heap_alloc _ _ _ (by simp;omega),Below.heap_alloc _ _ _ (by simp)];exact(heap_alloc w _).1
 have b1:wl.heap[w.heap.size+1]?=some (.cells #[.slice none 0 0] cM (0,0)):=by
  rw[Nx,Below.heap_alloc _ _ _ (by simp)];have:=(heap_alloc (w.alloc (.cells #[aA lb] fQ)) (.cells #[.slice none 0 0] cM)).1
  simpa using this
 have b2:wl.heap[w.heap.size+2]?=some (.cells #[aA ba] aH (0,0)):=by
  rw[Nx];have:=(heap_alloc ((w.alloc (.cells #[aA lb] fQ)).alloc (.cells #[.slice none 0 0] cM)) (.cells #[aA ba] aH)).1
  simpa using this
 have Ol:AB wl p ba:=AB.kept (fun k c f hc=>Lv.block k (aB hc) id) (fun k c f hc=>Lv.block k (aB hc) id) _ ba hm;have Jz:=mP Fence.wide rfl (5-1) trivial trivial rfl (w.heap.size+2) p ba wl Ol hx b2;have Ss:oU A tb lb s w wl (w0:=wl) [] wl:=⟨(h.stays Lv).lk,Lv.wide fun _ _ h=>h.elim,fD.refl _,b0,⟨_,b1,ownsRow_nil _ _ _ _⟩,le_refl _⟩;have Jr:OwnFrom wl.heap.size (oU A tb lb s w wl (w0:=wl)):=oU.own Tf (by omega)
 have Mn:∀o1 o2,((w.alloc o1).alloc o2).cell? ⟨nb,2,none⟩=some (.slice (some ⟨g,0,none⟩) 2 cap)/\((w.alloc o1).alloc o2).cell? ⟨g,0,none⟩=some (aA ba):=fun o1 o2=>by
  obtain⟨_,_,c2,c3⟩:=hp.cells;exact⟨(((Kn.refl (fun _=>False) w).alloc o1).alloc o2).cell id c2,(((Kn.refl (fun _=>False) w).alloc o1).alloc o2).cell id (c3 0 ba rfl)⟩
 obtain⟨c2,c3⟩:=Mn (.cells #[aA lb] fQ) (.cells #[.slice none 0 0] cM);have Us:=aC (fun(pre:List (eN wl)) (x:eN wl) (W:World) (hI:oU A tb lb s w wl pre W) (Jm:pre.length<=100000000)=>TA x h Ke hI Jm);have Lx:=aC (fun(xs:List (eN wl)) (W:World) (D:Nat) (Uv:xs.map (·.1.1)=p.all) (hI:oU A tb lb s w wl xs W) (hD:wl.heap.size<=D) (hK:W.heap[D]?=some (.deferred (some [])))=>TB (s':=s') h hp Ke Uv hx Nb hE hI hD hK);have Km:=aC Jz;have Wi:=aC Ss;have Mk:=aC Jr;clear Jz Ss Jr hE b0 b1 b2 hx hm hp h Mn Lv Ol;generalize fG ad A tb lb s' w=Q at *;refine(callsIn_wide (n:=5)).1 ?_;refine callsIn_of_wp_marks func158 rfl trivial ?_ rfl;simp only[ntmps158,size_toArray,length_cons,length_nil,Nat.reduceAdd,Nat.reduceSub,replicate_succ,replicate_zero,push_toArray,append_toArray,nil_append,cons_append];unfold aA at *
 gi_wp2_with (refine⟨trivial,?_⟩;gi_at_call 10;refine(xI Fence.wide _ trivial rfl _ _).mono ?_;rintro e w'⟨rfl,rfl⟩)
 unfold aA;rw[<- Nx];have Ol:∀(W:World)(l:Nat)(o o':Obj),wl.heap.size<=l->W.heap[l]?=some o->o.isCells=false->o.isWalk=false->fD W (W.putObj l o'):=fun W l o o' _ hl hc _=>fD.putObj o' hl hc
 refine wpIn_rangeFunc_ownG rfl (by omega) (gf:=19) (lb:=#[.pointer (some ⟨w.heap.size+2,0,none⟩)]) ?hg trivial (enters_of func19 (by kernel_rfl) rfl)
  Km.out fD.trans Ol (Below.refl _ _) (fun _=>rfl) (oU A tb lb s w wl) (fun _ _ _=>False) Mk.out (fun _ _ _ _ _ hs _ _=>hs) Wi.out
  (fun x=>{ tmps:=#[.pointer (some ⟨lb,0,none⟩),.pointer (some ⟨nb,0,none⟩),.pointer (some ⟨w.heap.size,0,none⟩),undef,.pointer (some ⟨w.heap.size+1,0,none⟩),.pointer (some ⟨x.1.2,0,none⟩),.pointer (some ⟨nb,0,none⟩),.pointer (some ⟨nb,0,none⟩),.pointer (some ⟨nb,2,none⟩),.slice (some ⟨g,0,none⟩) 2 cap,.pointer (some ⟨g,0,none⟩),.pointer (some ⟨ba,0,none⟩),.func (.func 19) #[] #[.pointer (some ⟨w.heap.size+2,0,none⟩)],.pointer (some ⟨x.1.2,0,none⟩),undef,undef,undef,undef,undef,undef,undef,undef,undef,undef,undef,undef,undef,undef,undef,undef,undef,undef,undef,undef,undef,undef,undef,undef,undef,undef,undef,undef,undef,undef,undef],defers:=[] }) ?assign ?body ?done ?stop
 case hg=>simp[go_sem,Act.eval]
 case assign=>
  intro lr x W K hK;unfold ED aA
  gi_wp2
  exact hK
 case body=>
  intro lr pre x W hI Jm;obtain⟨va,vn,vc,d1,d2,d3,d4,d5,h3,Zq,Lg⟩:=Us.out pre x W hI (by omega);have H3:=aC h3;have l5:=aC Zq;have Me:=aC Lg;clear h3 Zq Lg hI Km Wi Mk Us Lx Ol;generalize oU A tb lb s w wl (w0:=wl)=I at *;generalize bs x.1.1.txt=tx at *;generalize x.1.1.k=k at *
  by_cases hk:k=3
  ·subst hk;obtain⟨g',n',c',w1,Jo,f1,f2,HG⟩:=H3.out rfl;rw[mO]at Jo;clear H3 l5 Me;have e2:W.drew.cell? ⟨w.heap.size+1,0,none⟩=some (.slice va vn vc):=d2;have e5:W.drew.cell? ⟨x.1.2,1,none⟩=some (.string tx):=d5;have e6:(W.alloc (.cells #[.string tx] aI)).cell? ⟨w.heap.size+1,0,none⟩=some (.slice va vn vc):=((Kn.refl (fun _=>False) W).alloc _).cell id d2
   gi_wp2_with fail
   gi_region_with fail
   all_goals
    gi_wp2
    exact HG.out
  ·by_cases Jy:k=14
   ·subst Jy;have HS:=aC (l5.out rfl);have e1:((14:Int)==3)=false:=by decide
    clear H3 l5 Me;unfold aA at *
    gi_wp2_with (refine⟨trivial,?_⟩;gi_at_call 159;refine(CallsIn.inRound lr (callsIn_wide.2 HS.out)).mono ?_;clear HS;rintro e u3⟨rfl,hq⟩;have HQ:=aC hq;clear hq)
    exact HQ.out
   ·have e1:((k:Int)==3)=false:=by simp only[beq_eq_false_iff_ne,ne_eq];omega
    have e2:((k:Int)==14)=false:=by simp only[beq_eq_false_iff_ne,ne_eq];omega
    have HG:=aC (Me.out hk Jy);clear Me H3 l5
    gi_wp2
    exact HG.out
 case done=>
  intro D xs W hD Uv hI hK;obtain⟨va,vn,vc,hc⟩:=Lx.out xs W D Uv hI hD hK;have HC:=aC hc;clear hI hc Lx Km Wi Mk Us;have Yp:=aC AH
  have Jp:∀(tmps:Array Value)(u5:World),u5.heap[D]?=some (.deferred (some []))->Q (.returned (.tuple #[])) (u5.putObj D (.deferred none))->bodyPostM Fence.wide 5 prog f158 Q .normal { tmps:=tmps,defers:=[{ target:=.collected D,args:=#[] }] } u5:=fun tmps u5 hK hq=>by
   refine⟨by simp,.inl ⟨_,_,rfl,run_takeDeferred hK,?_⟩⟩;exact⟨.tuple #[],by simp[results,results158,go_sem],hq⟩
  have Kk:=aC Jp;clear Jp;generalize bodyPostM Fence.wide 5 prog f158 Q=Q2 at *;unfold aA at *;obtain⟨d1,d2,hh⟩:=HC.out _ (Yp.out W);have HH:=aC hh;clear hh HC hK
  gi_wp2_with fail
  gi_region_with (first|(refine⟨trivial,?_⟩;gi_at_call 155;refine(callsIn_wide.2 HH.out).mono ?_;clear HH;rintro e u2⟨b,rfl,⟨d1,d2⟩,N5⟩;have W6:=aC N5;clear N5)|(refine⟨trivial,?_⟩;gi_at_call 153;refine(callsIn_wide.2 W6.out).mono ?_;clear W6;rintro e u3⟨rfl,⟨d1,d2⟩,hq⟩;have HQ:=aC hq;clear hq))
  all_goals
   have hz:=HQ.out _ (Yp.out u3);clear HQ;obtain⟨⟨d1,d2,d3,d4⟩,hw⟩:=hz;have HW:=aC hw;clear hw
   gi_wp2_with fail
   refine wpIn_mono (Q:=Exit.then (Q2 .normal) (fun _ _ _=>False)) ?_ (fun e a u h=>by cases e<;>first|exact h|exact h.elim)
   gi_region_with (first|(refine⟨trivial,?_⟩;gi_at_call 111;refine(callsIn_wide.2 HW.out).mono ?_;clear HW;rintro e u5⟨rfl,⟨d1,d2,d3,d4⟩,hK,hq⟩;have HQ:=aC hq;clear hq))
   all_goals
    first
    |exact Kk.out _ _ hK HQ.out
    |(gi_wp2;exact Kk.out _ _ hK HQ.out)
 case stop=>
  intro D c pre W _ _ h _;exact h.elim
end
end
section
open Go.RowKit Go.Shelf
section
attribute [local go_sem] Oper.semAt_some
variable {w:World}{nb:Nat}
structure tJ(w wl:World){w0:World}(pre:List (eN w0))(W:World):Prop where
 kn:Kn (fun _=>False) w W
 tr:fD wl W
 bx:∃v,Boxed W w.heap.size cM v/\W.ownsRow w.heap.size aI 1 v (gC (pre.map (·.1.1))).length ((gC (pre.map (·.1.1))).map bM)
 sz:wl.heap.size<=W.heap.size
def tJ.own{wl w0:World}{B:Nat}(hB:w.heap.size+2<=B):OwnFrom B (tJ w wl (w0:=w0)):=by
 rintro pre W W' row⟨h2,h3,⟨v,h5,h6⟩,h7⟩ hg hr
 have hc:∀(k:Nat)(c:Array Value)(t:TypeId)(f:Nat×Nat),W.heap[k]?=some (.cells c t f)->W'.heap[k]?=W.heap[k]?:=fun k c t f hk=>by
  refine hg.block k (aB hk) fun e=>?_;obtain⟨_,o,ho,hn⟩:=hr k e.symm;rw[hk]at ho;cases ho;cases hn
 exact⟨h2.grown hg fun k e=>inr (by have:=(hr k e).1;omega),h3.trans ⟨hg.size,fun k c t f _ hk=>hc k c t f hk⟩,⟨v,(hc _ _ _ _ h5).trans h5,aE h6 fun q c f _ hk=>hc q c _ f hk⟩,le_trans h7 hg.size⟩
def SB{wl W:World}{pre:List (eN wl)}(x:eN wl)(Ke:wl.heap.size=w.heap.size+2)(hI:tJ w wl pre W)(Jm:pre.length<=100000000) :
  ∃va vn vc,W.cell? ⟨w.heap.size,0,none⟩=some (.slice va vn vc)/\W.frozen? ⟨w.heap.size,0,none⟩=false/\W.cell? ⟨x.1.2,0,none⟩=some (.int .i64 x.1.1.k)/\W.cell? ⟨x.1.2,1,none⟩=some (.string (bs x.1.1.txt)) /\
  (x.1.1.k=3->∃g' n' c' w1,(append_ #[22,22] 22 #[.slice va vn vc,.slice (some ⟨W.heap.size,0,none⟩) 1 1]).run prog (W.alloc (.cells #[.string (bs x.1.1.txt)] aI)).drew=.ok (.slice (some ⟨g',0,none⟩) n' c') w1/\w1.cell? ⟨w.heap.size,0,none⟩=some (.slice va vn vc)/\w1.frozen? ⟨w.heap.size,0,none⟩=false /\
   Hid (KeepsFrom wl.heap.size W (w1.setCell ⟨w.heap.size,0,none⟩ (.slice (some ⟨g',0,none⟩) n' c'))/\fD W (w1.setCell ⟨w.heap.size,0,none⟩ (.slice (some ⟨g',0,none⟩) n' c'))/\tJ w wl (pre++[x]) (w1.setCell ⟨w.heap.size,0,none⟩ (.slice (some ⟨g',0,none⟩) n' c')))) /\
  (x.1.1.k≠3->KeepsFrom wl.heap.size W W/\fD W W/\tJ w wl (pre++[x]) W):=by
 have hm:=x.2.1;have Ru:x.1.1=.mk x.1.1.k x.1.1.txt x.1.1.ps:=by cases x.1.1;rfl
 obtain⟨Mj,So,⟨v,Lw,Jn⟩,hs⟩:=hI
 have E7:AB W (.mk x.1.1.k x.1.1.txt x.1.1.ps) x.1.2:=by
  have:=So.tree hm;rw[Ru]at this;exact this
 obtain⟨pv,bl,n1,_,_⟩:=E7.inv
 obtain⟨va,vn,vc,rfl⟩:∃a n c,v=.slice a n c:=by
  rcases aD Jn with⟨rfl,_⟩|⟨g,cap,rfl⟩
  ·exact⟨_,_,_,rfl⟩
  ·exact⟨_,_,_,rfl⟩
 refine⟨va,vn,vc,Lw.cell,Lw.frozen,by simp[cell?,n1],by simp[cell?,n1],?_,?_⟩
 ·intro hk
  have Qs:(gC (pre.map (·.1.1))).length<=100000000:=by
   unfold gC;rw[length_map];exact le_trans (List.length_filter_le _ _) (by rw[length_map];exact Jm)
  have A4:W.drew.ownsRow w.heap.size aI 1 (.slice va vn vc) (gC (pre.map (·.1.1))).length ((gC (pre.map (·.1.1))).map bM):=Jn;have o6:Boxed W.drew w.heap.size cM (.slice va vn vc):=Lw;have N1:w.heap.size<=W.drew.heap.size:=by have:W.drew.heap.size=W.heap.size:=rfl;omega
  obtain⟨v',w1,Jo,La,Lf⟩:=iA (ty:=22) x.1.1.txt A4 Qs N1;rw[length_append]at La;obtain⟨g',c',rfl⟩:=ownsRow_succ La;obtain⟨Sm,Mx,Nc,Jy,Mf⟩:=o6.appended (by decide) A4 N1 (le_refl _) La Lf
  have Wy:fD W (w1.setCell ⟨w.heap.size,0,none⟩ (.slice (some ⟨g',0,none⟩) ((gC (pre.map (·.1.1))).length+[x.1.1.txt].length) c')):=by
   refine⟨Jy.size,fun k c t f ht hc=>?_⟩
   rw[Below.heap_setCell _ _ _ _ (fun e=>by
    have Mv:=hc;rw[e,show W.heap[w.heap.size]?=_ from Lw]at Mv
    rcases ht with rfl|rfl<;>exact absurd (aN Mv) (by decide))]
   have hk:k<(W.drew.alloc (.cells #[.string (bs x.1.1.txt)] aI)).heap.size:=by
    have:=aB hc;have:W.drew.heap.size=W.heap.size:=rfl;simp;omega
   rw[Lf.block k hk fun e=>?_]
   ·exact Below.heap_alloc W.drew _ k (aB hc)
   ·rcases Jn.2 with⟨h1,_⟩|⟨g,cap,cur,h1,_,Sj,_⟩
    ·cases h1;simp[ownBlock]at e
    ·cases h1;obtain rfl:k=g:=by simpa [ownBlock]using e
     rw[hc]at Sj;rcases ht with rfl|rfl<;>exact absurd (aN Sj) (by decide)
  refine⟨g',_,c',w1,Jo,Sm.cell,Sm.frozen,aC ⟨⟨Jy.size,fun k o hB hk ho=>Jy.same k o hk ho⟩,Wy,⟨Mf.os.trans Mj.os,Mf.tape.trans Mj.tape,Mf.output.trans Mj.output,le_trans Mj.size Jy.size,fun k hk Ju=>(Mf.block k (by omega)).trans (Mj.block k hk Ju)⟩,So.trans Wy,⟨_,Mx,?_⟩,le_trans hs Jy.size⟩⟩;rw[map_append,map_cons,map_nil,iV,if_pos hk,length_append];exact Nc
 ·intro h1;refine⟨KeepsFrom.refl _ _,fD.refl _,Mj,So,⟨_,Lw,?_⟩,hs⟩;rw[map_append,map_cons,map_nil,iV,if_neg h1];exact Jn
attribute [local go_sem ↓] mO
def FW{p:Nd}(hm:AB w p nb)(hx:∀x∈p.all,x.txt.length<=100000000)(Nb:p.all.length<=100000000) :
  Calls prog 179 #[aA nb] w fun e u=>∃a n c,e=.returned (.slice a n c)/\Kn (fun _=>False) w u/\u.ownsRow w.heap.size aI 1 (.slice a n c) (bK p).length ((bK p).map bM):=by
 obtain⟨wl,Nx⟩:∃wl,wl=(w.alloc (.cells #[.slice none 0 0] cM)).alloc (.cells #[aA nb] aH):=⟨_,rfl⟩;have Lv:Kn (fun _=>False) w wl:=by rw[Nx];exact((Kn.refl _ w).alloc _).alloc _
 have Ke:wl.heap.size=w.heap.size+2:=by rw[Nx];simp
 have b1:wl.heap[w.heap.size]?=some (.cells #[.slice none 0 0] cM (0,0)):=by
  rw[Nx,Below.heap_alloc _ _ _ (by simp)];exact(heap_alloc w _).1
 have b2:wl.heap[w.heap.size+1]?=some (.cells #[aA nb] aH (0,0)):=by
  rw[Nx];have:=(heap_alloc (w.alloc (.cells #[.slice none 0 0] cM)) (.cells #[aA nb] aH)).1
  simpa using this
 have Ol:AB wl p nb:=AB.kept (fun k c f hc=>Lv.block k (aB hc) id) (fun k c f hc=>Lv.block k (aB hc) id) _ nb hm;have Jz:=mP Fence.wide rfl (5-1) trivial trivial rfl (w.heap.size+1) p nb wl Ol hx b2;have Ss:tJ w wl (w0:=wl) [] wl:=⟨Lv,fD.refl _,⟨_,b1,ownsRow_nil _ _ _ _⟩,le_refl _⟩;have Jr:OwnFrom wl.heap.size (tJ w wl (w0:=wl)):=tJ.own (by omega);have Us:=aC (fun(pre:List (eN wl)) (x:eN wl) (W:World) (hI:tJ w wl pre W) (Jm:pre.length<=100000000)=>SB x Ke hI Jm);have Km:=aC Jz;have Wi:=aC Ss;have Mk:=aC Jr;clear Jz Ss Jr b1 b2 hx hm Lv Ol;refine(callsIn_wide (n:=5)).1 ?_;refine callsIn_of_wp_marks func179 rfl trivial ?_ rfl;simp only[ntmps179,size_toArray,length_cons,length_nil,Nat.reduceAdd,Nat.reduceSub,replicate_succ,replicate_zero,push_toArray,append_toArray,nil_append,cons_append];unfold aA at *
 gi_wp2_with (refine⟨trivial,?_⟩;gi_at_call 10;refine(xI Fence.wide _ trivial rfl _ _).mono ?_;rintro e w'⟨rfl,rfl⟩)
 unfold aA;rw[<- Nx];have Ol:∀(W:World)(l:Nat)(o o':Obj),wl.heap.size<=l->W.heap[l]?=some o->o.isCells=false->o.isWalk=false->fD W (W.putObj l o'):=fun W l o o' _ hl hc _=>fD.putObj o' hl hc
 refine wpIn_rangeFunc_ownG rfl (by omega) (gf:=19) (lb:=#[.pointer (some ⟨w.heap.size+1,0,none⟩)]) ?hg trivial (enters_of func19 (by kernel_rfl) rfl)
  Km.out fD.trans Ol (Below.refl _ _) (fun _=>rfl) (tJ w wl) (fun _ _ _=>False) Mk.out (fun _ _ _ _ _ hs _ _=>hs) Wi.out
  (fun x=>{ tmps:=#[.pointer (some ⟨nb,0,none⟩),undef,.slice none 0 0,.pointer (some ⟨w.heap.size,0,none⟩),.pointer (some ⟨x.1.2,0,none⟩),.pointer (some ⟨nb,0,none⟩),.func (.func 19) #[] #[.pointer (some ⟨w.heap.size+1,0,none⟩)],.pointer (some ⟨x.1.2,0,none⟩),undef,undef,undef,undef,undef,undef,undef,undef,undef,undef,undef,undef,undef],defers:=[] }) ?assign ?body ?done ?stop
 case hg=>simp[go_sem,Act.eval]
 case assign=>
  intro lr x W K hK;unfold ED aA
  gi_wp2
  exact hK
 case body=>
  intro lr pre x W hI Jm;obtain⟨va,vn,vc,d2,d3,d4,d5,h3,Lg⟩:=Us.out pre x W hI (by omega);have H3:=aC h3;have Me:=aC Lg;clear h3 Lg hI Km Wi Mk Us Ol;generalize tJ w wl (w0:=wl)=I at *;generalize bs x.1.1.txt=tx at *;generalize x.1.1.k=k at *
  by_cases hk:k=3
  ·subst hk;obtain⟨g',n',c',w1,Jo,f1,f2,HG⟩:=H3.out rfl;rw[mO]at Jo;clear H3 Me;have e2:W.drew.cell? ⟨w.heap.size,0,none⟩=some (.slice va vn vc):=d2;have e5:W.drew.cell? ⟨x.1.2,1,none⟩=some (.string tx):=d5;have e6:(W.alloc (.cells #[.string tx] aI)).cell? ⟨w.heap.size,0,none⟩=some (.slice va vn vc):=((Kn.refl (fun _=>False) W).alloc _).cell id d2
   gi_wp2_with fail
   gi_region_with fail
   all_goals
    gi_wp2
    exact HG.out
  ·have e1:((k:Int)==3)=false:=by simp only[beq_eq_false_iff_ne,ne_eq];omega
   have HG:=aC (Me.out hk);clear Me H3
   gi_wp2
   exact HG.out
 case done=>
  rintro D xs W hD Uv⟨Mj,So,⟨v,Lw,Jn⟩,hs⟩ hK;rw[Uv]at Jn;have Nh:=Lw.cell
  obtain⟨va,vn,vc,rfl⟩:∃a n c,v=.slice a n c:=by
   rcases aD Jn with⟨rfl,_⟩|⟨g,cap,rfl⟩
   ·exact⟨_,_,_,rfl⟩
   ·exact⟨_,_,_,rfl⟩
  have HQ:=aC (show Kn (fun _=>False) w (W.putObj D (.deferred none))/\(W.putObj D (.deferred none)).ownsRow w.heap.size aI 1 (.slice va vn vc) (bK p).length ((bK p).map bM)from⟨Mj.grown (grownBy_putObj' W D _) fun k e=>inr (by cases e;omega),ownsRow_putObj Jn _ hK rfl⟩);clear Mj So Jn hs Lw
  gi_wp2
  refine⟨by simp,.inl ⟨_,_,rfl,run_takeDeferred hK,?_⟩⟩;exact⟨_,results_tmp rfl _ _ _,_,_,_,rfl,HQ.out⟩
 case stop=>
  intro D c pre W _ _ h _;exact h.elim
end
end
section
open Go.RowKit
section
variable {mb tb bb:Nat}{A:List Nm}{w:World}
def aF.xr1:aF 177:=enters func177 (by kernel_rfl) rfl
def Fv{nb s1 s2 k g cap b:Nat}{txt:Nm}{bl:List Nat}{c:Cd}(hx:RA bb nb s1 s2 w)(hp:dH nb k txt g cap bl w)(hb:bl[1]?=some b)(hl:bl.length<=1000)(hE:∀u,Kn (fun _=>False) w u->Calls prog 91 #[aA bb,aA b] u (BA mb tb bb A c u)) :
  Calls prog 177 #[aA s1,aA s2] w (BA mb tb bb A c w):=by
 have Jw:=hp.cells;obtain⟨c0,c1,c2,c3⟩:=Jw;have c3:=c3 1 b hb;have d1:w.cell? ⟨s1,0,none⟩=some (aA bb):=cell_of' hx.b;have d2:w.cell? ⟨s2,0,none⟩=some (aA nb):=cell_of' hx.n;have Js:(1:Nat)<bl.length:=(List.getElem?_eq_some_iff.1 hb).1;obtain⟨m,hm⟩:∃m,bl.length=m+1+1:=⟨bl.length-1-1,by omega⟩;rw[hm]at c2 hl;have HE:=aC (show ∀u,Kn (fun _=>False) w u->Calls prog 91 #[aA bb,aA b] u (BA mb tb bb A c w)from fun u hu=>(hE u hu).mono fun e u2 ha=>ha.behind (hu.wide fun _ _ h=>h.elim));have HV:=aC (AH w);clear hE hp hx hb Js hm;unfold aA at *;go_enter func177,ntmps177;go_wp2_with fail
 go_region_with ((refine(HE.out _ HV.out).mono ?_);intro e u hq;obtain⟨Kr,csr,rfl,Ki⟩:=hq;have HQ:=aC (show BA mb tb bb A c w _ u from⟨Kr,csr,rfl,Ki⟩);clear Ki)
 all_goals
  go_wp2;refine bodyPost_ret (v:=.func (.func Kr) #[] csr) (by simp[results,results177,go_sem]) rfl HQ.out
structure XL(mb tb bb:Nat)(A:List Nm)(r:Nd)(pt:Pt)(c:Cd):Prop where
 ex:∃tx nm ps bd,r=.mk 16 tx [.mk 14 nm ps,bd]/\pt=⟨nm,ps.length⟩/\ps.length<=1000/\(∀p∈ps,p.k=3)/\(∀x∈(Nd.mk 14 nm ps).all,x.txt.length<=100000000)/\(Nd.mk 14 nm ps).all.length<=100000000/\A.length+(bK (.mk 14 nm ps)).length<=1000000 /\
  ∀u b,BM mb tb bb (binds A (bK (.mk 14 nm ps))) (binds A (bK (.mk 14 nm ps))).length u->AB u bd b->Calls prog 91 #[aA bb,aA b] u (BA mb tb bb (binds A (bK (.mk 14 nm ps))) c u)
structure oS(mb tb bb:Nat)(A:List Nm)(w:World)(pts:List Pt)(cds:List Cd)(i:Nat)(v:Value)(wr:World):Prop where
 bm:BM mb tb bb A A.length wr
 kn:Kn (fun k=>k=tb\/k=bb) w wr
 bx:wr.heap[w.heap.size]?=some (.cells #[aA bb] 164 (0,0))
 row:∃l:List (Value×Value),l.length=i/\FF (w.heap.size+1) wr i (l.flatMap fun a=>[a.1,a.2]) v/\∀(j:Nat)(p:Pt)(c:Cd)(a:Value×Value),pts[j]?=some p->cds[j]?=some c->l[j]?=some a->QV wr p a.1/\fP mb wr c a.2
def PQ(l:List (Value×Value))(p x:Value):(l++[(p,x)]).flatMap (fun a=>[a.1,a.2])=l.flatMap (fun a=>[a.1,a.2])++[p,x]:=by
 rw[List.flatMap_append];rfl
def FF.kn{B n:Nat}{ys:List Value}{v:Value}{u:World}(h:FF B w n ys v)(hB:BM mb tb bb A A.length w)(hk:Kn (fun k=>k=tb\/k=bb) w u):FF B u n ys v:=by
 obtain⟨h0,h1|⟨g,cap,cs,h1,h2,h3,h4⟩⟩:=h
 ·exact⟨h0,inl h1⟩
 ·exact⟨h0,inr ⟨g,cap,cs,h1,h2,(hk.block g (aB h3) fun e=>by rcases e with e|e;exact hB.AF h3 e;exact hB.AI h3 (by decide) e).trans h3,h4⟩⟩
def mT.cells{u:World}(h:mT w u){k:Nat}{c:Array Value}{t:TypeId}{f:Nat×Nat}(ht:t≠cW)(hc:w.heap[k]?=some (.cells c t f)):u.heap[k]?=some (.cells c t f):=
 (h.oth k _ hc fun c' f' e=>ht (by cases e;rfl)).trans hc
def mT.bm{u:World}(h:mT w u)(hB:BM mb tb bb A A.length w):BM mb tb bb A A.length u:=by
 obtain⟨n,f,t1,t2⟩:=hB.tab;refine⟨h.cells (by decide) hB.bld,⟨n,f,t1.kept ?_,t2⟩,hB.len⟩;obtain⟨o,ho⟩:∃o,w.heap[tb]?=some o:=⟨_,Array.getElem?_eq_getElem t1.lt⟩;exact h.oth tb o ho fun c f e=>by subst e;exact hB.AF ho rfl
def MK(bb s1 s2 b g cap ba:Nat)(u:World):Prop:=u.cell? ⟨s1,0,none⟩=some (aA bb)/\u.cell? ⟨s2,0,none⟩=some (aA b)/\u.cell? ⟨b,2,none⟩=some (.slice (some ⟨g,0,none⟩) 2 cap)/\u.cell? ⟨g,0,none⟩=some (aA ba)
def YQ{pts:List Pt}{cds:List Cd}{i b:Nat}{v:Value}{wr:World}{r:Nd}{pt:Pt}{c:Cd}(h:oS mb tb bb A w pts cds i v wr)(hp:pts[i]?=some pt)(hc:cds[i]?=some c)(hR:XL mb tb bb A r pt c)(hm:AB wr r b)(hi:i<=1000) :
  ∃g cap ba,MK bb w.heap.size wr.heap.size b g cap ba (wr.alloc (.cells #[aA b] 51)).drew/\Calls prog 178 #[aA ba] (wr.alloc (.cells #[aA b] 51)).drew fun e u1=>∃Kpp csp,e=.returned (.func (.func Kpp) #[] csp)/\MK bb w.heap.size wr.heap.size b g cap ba u1 /\
   Hid (Calls prog 179 #[aA ba] u1 fun e u2=>∃a n c,e=.returned (.slice a n c)/\MK bb w.heap.size wr.heap.size b g cap ba u2 /\
    Hid (Calls prog 56 #[aA bb,.func (.func 177) #[] #[aA w.heap.size,aA wr.heap.size],.slice a n c] u2 fun e u3=>∃K cs,e=.returned (.func (.func K) #[] cs)/\MK bb w.heap.size wr.heap.size b g cap ba u3/\Hid (MK bb w.heap.size wr.heap.size b g cap ba (u3.alloc (.cells #[.func (.func Kpp) #[] csp,.func (.func K) #[] cs] cW))) /\
     ∃v' w2,(append_ #[dU,dU] dU #[v,.slice (some ⟨u3.heap.size,0,none⟩) 1 1]).run prog (u3.alloc (.cells #[.func (.func Kpp) #[] csp,.func (.func K) #[] cs] cW))=.ok v' w2/\Hid (MK bb w.heap.size wr.heap.size b g cap ba w2)/\Hid (oS mb tb bb A w pts cds (i+1) v' w2))):=by
 obtain⟨tx,nm,ps,bd,rfl,rfl,r1,r2,r3,r4,r5,hE⟩:=hR.ex;obtain⟨g,cap,bl,E2,Pq,Kx⟩:=hm.pt (by simp);have U0:bl.length=2:=Kx;obtain⟨ba,Od,Yy⟩:=Pq.at (i:=0) (p:=.mk 14 nm ps) rfl;obtain⟨bq,hbq,hnq⟩:=Pq.at (i:=1) (p:=bd) rfl;have Kj:Kn (fun _=>False) wr (wr.alloc (.cells #[aA b] 51)).drew:=((Kn.refl _ wr).alloc _).trans (AH _);have Ld:(wr.alloc (.cells #[aA b] 51)).drew.heap[wr.heap.size]?=some (.cells #[aA b] 51 (0,0)):=JZ _ _;generalize (wr.alloc (.cells #[aA b] 51)).drew=w1 at *;have Tg:Kn (fun k=>k=tb\/k=bb) wr w1:=Kj.wide fun _ _ h=>h.elim;have Kf:=h.bm.stays Kj;have Xs:RA bb b w.heap.size wr.heap.size w1:=⟨(Kj.block _ (aB h.bx) id).trans h.bx,Ld⟩;have E1:=h.bm.pt Tg E2;have O5:=h.bm.tree Tg Yy;have hnq1:=h.bm.tree Tg hnq
 have Jw:∀u,Kn (fun k=>k=tb\/k=bb) w1 u->MK bb w.heap.size wr.heap.size b g cap ba u:=fun u hu=>by
  have hc:=(Kf.pt hu E1).cells;have h2:=hc.2.2.1;rw[U0]at h2;exact⟨cell_of' (Xs.kept Kf hu).b,cell_of' (Xs.kept Kf hu).n,h2,hc.2.2.2 0 ba Od⟩
 refine⟨g,cap,ba,Jw w1 (Kn.refl _ _),(IC O5 r1 r2).mono ?_⟩;rintro e u1⟨pv,rfl,Jy,Xe⟩
 obtain⟨Kpp,csp,rfl⟩:∃Kpp csp,pv=.func (.func Kpp) #[] csp:=by
  obtain⟨_,_,⟨_,l,rfl,_⟩,_⟩:=Xe;exact⟨_,_,rfl⟩
 have Pd:Kn (fun k=>k=tb\/k=bb) w1 u1:=Jy.wide fun _ _ h=>h.elim;have g7:=Kf.stays Jy;refine⟨Kpp,csp,rfl,Jw u1 Pd,(FW (Kf.tree Pd O5) r3 r4).mono ?_⟩;rintro e u2⟨a,n,c',rfl,Le,Jn⟩;have R4:Kn (fun k=>k=tb\/k=bb) u1 u2:=Le.wide fun _ _ h=>h.elim;have hB3:=g7.stays Le;have F8:=Pd.trans R4;refine⟨a,n,c',rfl,Jw u2 F8,(kO (c:=c) aF.xr1 (bN Jn (zero_le _)) (fun x hx=>?_) r5 hB3 (fun u hu K9=>?_)).mono ?_⟩
 ·obtain⟨y,hy,rfl⟩:=List.mem_map.1 hx;exact⟨show 0<3 by decide,r3 y (List.mem_filter.1 hy).1⟩
 ·have Sf:=F8.trans hu;refine Fv (Xs.kept Kf Sf) (Kf.pt Sf E1) hbq (by omega) (fun v2 Mx=>?_);rw[<- pT]at K9;exact hE v2 bq (K9.stays Mx) (Kf.tree (Sf.trans (Mx.wide fun _ _ h=>h.elim)) hnq1)
 ·rintro e u3⟨K,cs,rfl,hB4,Mr,T6⟩;have Qx:=F8.trans Mr;have Th:Kn (fun k=>k=tb\/k=bb) wr u3:=Tg.trans Qx;obtain⟨l,hl,Jr,Mh⟩:=h.row
  have Ke:w.heap.size+1<=u3.heap.size:=by
   have:=aB h.bx;have:=Th.size;omega
  obtain⟨v',w2,Jo,Nf,Re,y0,ho5⟩:=JX (p:=.func (.func Kpp) #[] csp) (x:=.func (.func K) #[] cs) (Jr.kn h.bm Th) hi Ke rfl rfl;refine⟨K,cs,rfl,Jw u3 Qx,aC (Jw _ (Qx.alloc _)),v',w2,Jo,aC ?_,aC ⟨Re.bm hB4,⟨?_,?_,?_,?_,?_⟩,?_,l++[(.func (.func Kpp) #[] csp,.func (.func K) #[] cs)],by simp[hl],by rw[PQ];exact Nf,fun j p c2 a' h1 h2 h3=>?_⟩⟩
  ·have On:=Xs.kept Kf Qx;have Xf:=Kf.pt Qx E1;obtain⟨cs3,q1,q2⟩:=Xf.row;have Va:=Re.cells (by decide) Xf.node;have hg3:=Re.cells (by decide) q1;have q2:=q2 0 ba Od;refine⟨cell_of' ((Re.one _ _ _ On.b).trans On.b),cell_of' ((Re.one _ _ _ On.n).trans On.n),?_,?_⟩
   ·rw[U0]at Va;simp[cell?,Va]
   ·simp[cell?,hg3,q2]
  ·exact y0.os.trans (h.kn.trans Th).os
  ·exact y0.tape.trans (h.kn.trans Th).tape
  ·exact y0.output.trans (h.kn.trans Th).output
  ·exact le_trans (h.kn.trans Th).size Re.size
  ·exact fun k hk hd=>(ho5 k (by omega)).trans ((h.kn.trans Th).block k hk hd)
  ·have On:=(Xs.kept Kf Qx).b;exact(Re.one _ _ _ On).trans On
  ·have Qw:=h.bm.kr Th
   by_cases hj:j=i
   ·subst hj;rw[hp]at h1;rw[hc]at h2;cases h1;cases h2;rw[List.getElem?_append_right (by omega),hl,Nat.sub_self]at h3;cases h3;exact⟨(Xe.kept (g7.kr (R4.trans Mr))).AS Re,fP.AS Re _ _ T6⟩
   ·have Mc:j<l.length:=by
     have:=(List.getElem?_eq_some_iff.1 h3).1;simp at this;omega
    rw[List.getElem?_append_left Mc]at h3;obtain⟨q1,q2⟩:=Mh j p c2 a' h1 h2 h3;exact⟨(q1.kept Qw).AS Re,fP.AS Re _ _ (fP.kept Qw _ _ q2)⟩
end
end
section
open Go.RowKit
section
variable {ar:Nm->Nat}{ad:List Nat}{Y:Nat->Prop}{rk:Nat->Nat}{U:TS}{A:Env}{tb yb d:Nat}{gv:Value}{w w':World}{nb:Nat}{txt:Nm}
def rR(op:Option (TS×List (Nm×Nat)))(oe:List (Nm×Nat)->TS->Option TS):Option TS:=op.bind fun r=>oe r.2 r.1
def NN{k g cap bp be subj ans:Nat}{op:Option (TS×List (Nm×Nat))}{oe:List (Nm×Nat)->TS->Option TS}(h:YM ar ad Y rk U A tb yb d gv w)(hp:dH nb k txt g cap [bp,be] w)(hs:subj<U.nodes.length)(hn:ans<U.nodes.length)
  (Lb:∀U' vs,op=some (U',vs)->∀x∈vs,cL (0,x.1))
  (hP:Calls prog 309 #[aA w.heap.size,aA bp,aM ad subj] (w.alloc (.cells #[aA yb,.slice none 0 0] nJ)) (RC Prod.fst (EP 0 w.heap.size yb) w.heap.size ar ad Y A tb yb d gv (.slice none 0 0) op (w.alloc (.cells #[aA yb,.slice none 0 0] nJ))))
  (hE:∀u l U' vs rk' gv',Kn (Dm ad tb yb gv) w u->op=some (U',vs)->YM ar (ad++l) Y rk' U' (eD A vs) tb yb d gv' u->Calls prog 113 #[aA yb,aA be,aM (ad++l) ans] u (cR ar (ad++l) Y (eD A vs) tb yb d gv' (oe vs U') u)) :
  Calls prog 309 #[aA w.heap.size,aA bp,aM ad subj] (w.alloc (.cells #[aA yb,.slice none 0 0] nJ)) fun e u2=>(e=bE/\cR ar ad Y A tb yb d gv (rR op oe) w bE u2)\/(e=.returned (.tuple #[])/\∃(av:Option Addr) (vn cv:Nat) (RW:Nat->List Deferred->World->Prop),vn<=9223372036854775807/\u2.cell? ⟨w.heap.size,1,none⟩=some (.slice av vn cv)/\RW 0 [] u2 /\
   (∀i D wr,RW i D wr->i<vn->∃g' tx bt,av=some ⟨g',0,none⟩/\wr.cell? ⟨g',i*2,none⟩=some (.string tx)/\wr.cell? ⟨g',i*2+1,none⟩=some (aA bt)/\g'<wr.heap.size/\w.heap.size<=wr.heap.size/\∀u,Kn (fun _=>False) wr u->u.cell? ⟨yb,0,none⟩=some (.map (some tb)) /\
    Calls prog 156 #[.map (some tb),.agg #[.int .i64 0,.string tx],.agg #[aA bt,.string ⟨#[]⟩,.slice none 0 0,.slice none 0 0,.int .i64 0,.int .i64 0]] u fun e u'=>e=.returned (lK u.heap.size)/\u'.cell? ⟨yb,0,none⟩=some (.map (some tb))/\(∀mb,u.heap.size>mb->mb≠tb->u'.heap[mb]?=u.heap[mb]?)/\Hid (RW (i+1) (mQ u.heap.size::D) u')) /\
   (∀D wr,RW vn D wr->Two nb g cap bp be wr/\Calls prog 113 #[aA yb,aA be,aM ad ans] wr fun e w7=>(e=bE/\∀tmps,Leaves prog f289 tmps (cR ar ad Y A tb yb d gv (rR op oe) w) D (.panicking [{ v:=bQ,recovered:=false }]) w7)\/(e=.returned (.tuple #[])/\∀tmps,Leaves prog f289 tmps (cR ar ad Y A tb yb d gv (rR op oe) w) D .returning w7))):=by
 refine hP.mono fun e u2 ha=>?_;obtain⟨Jy,ha⟩:=ha;have Ti:Kn (Dm ad tb yb gv) w (w.alloc (.cells #[aA yb,.slice none 0 0] nJ)):=(Kn.refl _ w).alloc _
 have Nq:Kn (Dm ad tb yb gv) w u2:=Ti.trans' Jy fun k hk hd=>by
  rcases hd with hd|hd|hd
  ·exact hd
  ·omega
  ·simp[ownBlock]at hd
 have Ke:w.heap.size<=(w.alloc (.cells #[aA yb,.slice none 0 0] nJ)).heap.size:=by rw[aK];omega
 rcases ha with⟨a1,a2,a3⟩|⟨⟨U',vs⟩,l,rk',gv',vv',a1,a2,a4,a5,a6,a7,a8⟩
 ·exact inl ⟨a2,cR.panic (by rw[a1];rfl) Nq a3⟩
 have Xt:Bt ad tb yb gv w l gv' u2:=⟨Nq,fun b hb=>le_trans Ke (a6 b hb),fun b hb=>(a7 b hb).imp id (le_trans Ke)⟩;have Jn:=a5.2.1;have Qs:=a5.2.2.1
 obtain⟨av,cv,rfl⟩:∃a c,vv'=.slice a vs.length c:=by
  rcases aD Jn with⟨h,h0⟩|⟨g,cap,h⟩
  ·exact⟨none,0,by rw[h];show _=Value.slice none vs.length 0;rw[show vs.length=0 from h0]⟩
  ·exact⟨_,cap,h⟩
 have hoe:rR op oe=oe vs U':=by rw[a1];rfl
 refine inr ⟨a2,av,vs.length,cv,fun i D wr=>KE ar (ad++l) Y rk' U' A tb yb d gv' (fun o e w'=>cR ar ad Y A tb yb d gv o w e w') u2 vs i D wr,bI Jn,a5.AL,KE.start a4 (fun o e w' hq=>cR.behind Xt hq),?_,?_⟩
 ·intro i D wr Sg hi;have hv:vs[i]?=some vs[i]:=getElem?_eq_getElem hi;have Jv:=List.mem_of_getElem? hv;generalize vs[i]=x at hv Jv;obtain⟨x,t⟩:=x;have Qt:wr.ownsRow 0 cF 2 (.slice av vs.length cv) vs.length (cK (ad++l) vs):=aE Jn fun q c f _ hc=>Sg.kn.block q (aB hc) (a4.AU hc (by decide) (by decide) (by decide))
  obtain⟨g',Pe⟩:∃g',av=some ⟨g',0,none⟩:=by
   rcases aD Qt with⟨h,h0⟩|⟨g,cap,h⟩
   ·have h0:vs.length=0:=h0;omega
   ·cases h;exact⟨g,rfl⟩
  subst Pe;obtain⟨b1,b2⟩:=tE (ad:=ad++l) hv;have Oh:t<U'.nodes.length:=by rw[<- a4.len];exact Qs _ Jv
  refine⟨g',bs x,bH (ad++l) t,rfl,?_,?_,(Qt.lt g' rfl).2,le_trans Nq.size Sg.kn.size,fun u hu=>⟨by simp[cell?,(Sg.ym.stays hu).typ],(Sg.bind hv (Lb _ _ a1 _ Jv) Oh hu).mono ?_⟩⟩
  ·rw[Qt.cellAt (i*2) (by omega),b1]
  ·rw[Qt.cellAt (i*2+1) (by omega),b2];rfl
  ·rintro e u'⟨e1,e2,e3⟩;exact⟨e1,by simp[cell?,e3.ym.typ],fun mb Mp Ju=>e2.block mb Mp Ju,aC e3⟩
 ·intro D wr Sg;have Qw:Kn (Dm ad tb yb gv) w wr:=Nq.trans' Sg.kn fun k hk hd=>Xt.dm hk hd;have D3:=Sg.ym;have Rv:=Sg.lv;rw[List.take_length]at D3 Rv;refine⟨(h.pt Qw hp).two,?_⟩;have hc:=hE wr l U' vs rk' gv' Qw a1 D3;rw[eF l (by rw[h.len];exact hn)]at hc;refine hc.mono fun e w7 ha=>?_;rw[hoe];have hl:=fun tmps=>Rv _ e w7 tmps ha;rcases ha.cases with⟨_,q2,_⟩|⟨_,_,_,_,_,q2,_⟩
  ·subst q2;exact inl ⟨rfl,hl⟩
  ·subst q2;exact inr ⟨rfl,hl⟩
def Ek{k g cap bp be subj ans:Nat}{op:Option (TS×List (Nm×Nat))}{oe:List (Nm×Nat)->TS->Option TS}(h:YM ar ad Y rk U A tb yb d gv w)(hp:dH nb k txt g cap [bp,be] w)(hs:subj<U.nodes.length)(hn:ans<U.nodes.length)
  (Lb:∀U' vs,op=some (U',vs)->∀x∈vs,cL (0,x.1))
  (hP:Calls prog 309 #[aA w.heap.size,aA bp,aM ad subj] (w.alloc (.cells #[aA yb,.slice none 0 0] nJ)) (RC Prod.fst (EP 0 w.heap.size yb) w.heap.size ar ad Y A tb yb d gv (.slice none 0 0) op (w.alloc (.cells #[aA yb,.slice none 0 0] nJ))))
  (hE:∀u l U' vs rk' gv',Kn (Dm ad tb yb gv) w u->op=some (U',vs)->YM ar (ad++l) Y rk' U' (eD A vs) tb yb d gv' u->Calls prog 113 #[aA yb,aA be,aM (ad++l) ans] u (cR ar (ad++l) Y (eD A vs) tb yb d gv' (oe vs U') u)) :
  Calls prog 289 #[aA yb,aA nb,aM ad subj,aM ad ans] w (cR ar ad Y A tb yb d gv (rR op oe) w):=by
 have hf:=NN h hp hs hn Lb hP hE;obtain⟨c1,c2,c3⟩:=hp.two;have d1:(w.alloc (.cells #[aA yb,.slice none 0 0] nJ)).cell? ⟨nb,2,none⟩=some (.slice (some ⟨g,0,none⟩) 2 cap):=aL c1;have d2:(w.alloc (.cells #[aA yb,.slice none 0 0] nJ)).cell? ⟨g,0,none⟩=some (aA bp):=aL c2;have Pv:tb<w.heap.size:=h.BH;have HF:=aC hf;have hK:=fun(tx:ByteArray) (u:World)=>gL tx u;have HK:=aC hK;clear hf Lb hP hE h hp hK hs hn;generalize cR ar ad Y A tb yb d gv (rR op oe) w=Q at *;unfold bE bQ Two aM aA at *;generalize bH ad subj=sb at *;generalize bH ad ans=ab at *
 go_enter_defers func289,ntmps289
 go_wp2_with fail;refine(HF.out).mono ?_;rintro e u2 (⟨rfl,hq⟩|⟨rfl,av,vn,cv,RW,Zw,cr,A5,Yw,N7⟩)
 ·have HG:=aC hq;clear hq HF;go_wp2;exact HG.out
 have W7:=aC A5;have I7:=aC Yw;have I8:=aC N7;clear A5 Yw N7 HF d1 d2 c1 c2 c3;generalize Qm:w.heap.size=rb at *;go_wp2_with fail;refine wp_loop_ghost_k (fun gk a' w'=>∃(i:Nat) (D:List Deferred) (u10 u25 u26 u27 u28 u29 u30 u31 u32 u33 u34 u35 u36 u37 u38 u39:Value),i+gk=vn/\Hid (RW i D w')/\a'={ tmps:=#[.pointer (some ⟨yb,0,none⟩),.pointer (some ⟨nb,0,none⟩),.pointer (some ⟨sb,0,none⟩),.pointer (some ⟨ab,0,none⟩),undef,undef,undef,undef,.pointer (some ⟨rb,0,none⟩),undef,u10,.pointer (some ⟨yb,0,none⟩),.agg #[.pointer (some ⟨yb,0,none⟩),.slice none 0 0],.pointer (some ⟨nb,0,none⟩),.pointer (some ⟨nb,0,none⟩),.pointer (some ⟨nb,2,none⟩),.slice (some ⟨g,0,none⟩) 2 cap,.pointer (some ⟨g,0,none⟩),.pointer (some ⟨bp,0,none⟩),.pointer (some ⟨sb,0,none⟩),.tuple #[],.pointer (some ⟨rb,1,none⟩),.slice av vn cv,.int .i64 vn,.int .i64 (i:Nat),u25,u26,u27,u28,u29,u30,u31,u32,u33,u34,u35,u36,u37,u38,u39,undef,undef,undef,undef,undef,undef,undef,undef,undef],defers:=D }) vn ⟨0,[],undef,undef,undef,undef,undef,undef,undef,undef,undef,undef,undef,undef,undef,undef,undef,undef,by omega,W7,rfl⟩ ?_;rintro gk a' wr⟨i,D,u10,u25,u26,u27,u28,u29,u30,u31,u32,u33,u34,u35,u36,u37,u38,u39,hi,HR,rfl⟩ J KK hJ hKK;clear W7 cr
 by_cases Js:i<vn
 ·obtain⟨g',tx,bt,rfl,e1,e2,e3,e4,hu⟩:=I7.out i D wr HR.out Js;have Jt:(i:Int)<(vn:Int):=by omega
  have Ju:wr.heap.size≠tb:=by omega
  have U5:∀(o:Obj),(∃c t,o=.cells #[.string tx,.pointer (some ⟨bt,0,none⟩)] t/\c=t)->(fun u:World=>Kn (fun _=>False) wr u/\u.heap[wr.heap.size]?=some (.cells #[.string tx,.pointer (some ⟨bt,0,none⟩)] cF (0,0))) (World.drew (World.alloc wr (.cells #[.string tx,.pointer (some ⟨bt,0,none⟩)] cF))):=fun o _=>⟨((Kn.refl _ wr).alloc _).drew,(heap_alloc wr _).1⟩;have hV1:=U5 (.cells #[.string tx,.pointer (some ⟨bt,0,none⟩)] cF) ⟨cF,cF,rfl,rfl⟩
  have Kv:∀u o u',(fun u:World=>Kn (fun _=>False) wr u/\u.heap[wr.heap.size]?=some (.cells #[.string tx,.pointer (some ⟨bt,0,none⟩)] cF (0,0))) u->u'=World.alloc u o->(fun u:World=>Kn (fun _=>False) wr u/\u.heap[wr.heap.size]?=some (.cells #[.string tx,.pointer (some ⟨bt,0,none⟩)] cF (0,0))) u':=fun u o u' hu e=>by
   subst e;exact⟨hu.1.alloc o,by rw[Below.heap_alloc _ _ _ (aB hu.2)];exact hu.2⟩
  have Jw:∀u,(fun u:World=>Kn (fun _=>False) wr u/\u.heap[wr.heap.size]?=some (.cells #[.string tx,.pointer (some ⟨bt,0,none⟩)] cF (0,0))) u->u.cell? ⟨yb,0,none⟩=some (.map (some tb))/\u.cell? ⟨wr.heap.size,0,none⟩=some (.string tx)/\u.cell? ⟨wr.heap.size,1,none⟩=some (.pointer (some ⟨bt,0,none⟩)):=fun u hv=>⟨(hu u hv.1).1,by simp[cell?,hv.2],by simp[cell?,hv.2]⟩
  have Up:∀u,(fun u:World=>Kn (fun _=>False) wr u/\u.heap[wr.heap.size]?=some (.cells #[.string tx,.pointer (some ⟨bt,0,none⟩)] cF (0,0))) u->Calls prog 156 #[.map (some tb),.agg #[.int .i64 0,.string tx],.agg #[.pointer (some ⟨bt,0,none⟩),.string ⟨#[]⟩,.slice none 0 0,.slice none 0 0,.int .i64 0,.int .i64 0]] u fun e u'=>∃W,e=.returned (lK W)/\(u'.cell? ⟨yb,0,none⟩=some (.map (some tb))/\u'.cell? ⟨wr.heap.size,0,none⟩=some (.string tx)/\u'.cell? ⟨wr.heap.size,1,none⟩=some (.pointer (some ⟨bt,0,none⟩)))/\Hid (RW (i+1) (mQ W::D) u'):=fun u hv=>by
   refine((hu u hv.1).2).mono ?_;rintro e u'⟨q1,q2,q3,q4⟩;have hb:=q3 wr.heap.size (aB hv.2) Ju;exact⟨_,q1,⟨q2,by simp[cell?,hb,hv.2],by simp[cell?,hb,hv.2]⟩,q4⟩
  generalize (fun u:World=>Kn (fun _=>False) wr u/\u.heap[wr.heap.size]?=some (.cells #[.string tx,.pointer (some ⟨bt,0,none⟩)] cF (0,0)))=V at *;have HV:=aC hV1;have Ni:=aC Kv;have k6:=aC Jw;have k8:=aC Up;have HJ:=aC hJ;clear hu U5 hV1 Kv Jw Up I7 I8 HR;obtain⟨c1a,c2a,c3a⟩:=k6.out _ HV.out;unfold lK at *;go_wp2_with fail
  go_region_held3 (fun w'=>w'.cell? ⟨yb,0,none⟩=some (.map (some tb))/\w'.cell? ⟨wr.heap.size,0,none⟩=some (.string tx)/\w'.cell? ⟨wr.heap.size,1,none⟩=some (.pointer (some ⟨bt,0,none⟩))) (exact⟨c1a,c2a,c3a⟩)
   (first|(go_at_call 36;refine(HK.out _ _).mono ?_;rintro e u⟨rfl,hu⟩;have HV:=aC (Ni.out _ _ _ HV.out hu);obtain⟨c1a,c2a,c3a⟩:=k6.out _ HV.out;clear hu)|(go_at_call 156;refine(k8.out _ HV.out).mono ?_;rintro e u6⟨W,rfl,⟨c1a,c2a,c3a⟩,Zs⟩))
  all_goals
   go_wp2_with fail;rw[show (i:Int)+1=((i+1:Nat):Int) by omega];exact Handed.intro (vn-(i+1)) (by omega) (HJ.out _ _ _ ⟨i+1,mQ W::D,_,_,_,_,_,_,_,_,_,_,_,_,_,_,_,_,by omega,Zs,rfl⟩)
 ·have Kg:i=vn:=by omega
  subst Kg;have Jt:¬(i:Int)<(i:Int):=by omega
  obtain⟨⟨d1,d2,d3⟩,hc⟩:=I8.out D wr HR.out;have HC:=aC hc;clear hc I7 I8 HR;go_wp2_with fail;refine(HC.out).mono ?_;rintro e w7 (⟨rfl,hl⟩|⟨rfl,hl⟩)
  ·have HL:=aC hl;clear hl HC;go_wp2;exact HL.out _
  ·have HL:=aC hl;clear hl HC;go_wp2;exact HL.out _
end
end
section
open Go.RowKit
section
variable {ar:Nm->Nat}{ad:List Nat}{Y:Nat->Prop}{rk:Nat->Nat}{U:TS}{A:Env}{tb yb d:Nat}{gv:Value}{w w':World}{nb:Nat}{txt:Nm}
def qD(f:Nd->TS->Option TS):List Nd->TS->Option TS
 |[],U=>some U
 |x::r,U=>(f x U).bind (qD f r)
def iL(d:Nat)(oa:Option (Nat×TS))(oR:Nat->Nat->Nd->TS->Option TS)(rows:List Nd):Option (Nat×TS):=
 oa.bind fun r=>(qD (oR r.1 r.2.nodes.length) rows (r.2.letter d).2).map fun s=>(r.2.nodes.length,s)
def OE{a:Nd}{rows:List Nd}(ha:a.k≠16)(hr:∀x∈rows,x.k=16):only 16 (a::rows)=rows:=by
 unfold only;rw[List.filter_cons_of_neg (by simpa using ha)];exact List.filter_eq_self.2 fun x hx=>by simpa using hr x hx
def zF{k g cap ba:Nat}{bl:List Nat}{a:Nd}{rows:List Nd}{oa:Option (Nat×TS)}{oR:Nat->Nat->Nd->TS->Option TS}(h:YM ar ad Y rk U A tb yb d gv w)(hn:AB w (.mk k txt (a::rows)) nb)(hp:dH nb k txt g cap (ba::bl) w)(Nb:(a::rows).length<=1000000)(Qa:∀p∈a::rows,p.k<=1000)(d6:a.k≠16)(Uz:∀x∈rows,x.k=16)
  (hA:∀u,Kn (Dm ad tb yb gv) w u->YM ar ad Y rk U A tb yb d gv u->Calls prog 161 #[aA yb,aA ba] u (aJ ar ad Y A tb yb d gv oa u))
  {B:Nat->TS->Prop} (g8:∀t U1,oa=some (t,U1)->B 0 (U1.letter d).2) (Su:∀i row t ans U U',rows[i]?=some row->B i U->oR t ans row U=some U'->B (i+1) U')
  (hR:∀i row rb u l t ans U' rk' gv',rows[i]?=some row->AB u row rb->YM ar (ad++l) Y rk' U' A tb yb d gv' u->B i U'->t<U'.nodes.length->ans<U'.nodes.length->Calls prog 289 #[aA yb,aA rb,aM (ad++l) t,aM (ad++l) ans] u (cR ar (ad++l) Y A tb yb d gv' (oR t ans row U') u)) {u1:World} (Sf:Kn (fun _=>False) w u1) :
  Calls prog 161 #[aA yb,aA ba] u1 fun e u2=>(e=bE/\aJ ar ad Y A tb yb d gv (iL d oa oR rows) w bE u2)\/∃bt,e=.returned (aA bt)/\First nb k txt g cap bl.length ba u2/\Calls prog 211 #[aA yb] u2 fun e u3=>e=.returned (aA u2.heap.size)/\First nb k txt g cap bl.length ba u3 /\
   Calls prog 21 #[aA nb,.int .i64 (16:Nat)] u3 fun e u4=>∃av nv cv,e=.returned (.slice av nv cv)/\∃RM:Nat->World->Prop,nv<=9223372036854775807/\RM 0 u4 /\
    (∀i wr,RM i wr->i<nv->∃g' b,av=some ⟨g',0,none⟩/\wr.cell? ⟨g',i,none⟩=some (aA b)/\g'<wr.heap.size/\Calls prog 289 #[aA yb,aA b,aA bt,aA u2.heap.size] wr fun e wr2=>(e=bE/\aJ ar ad Y A tb yb d gv (iL d oa oR rows) w bE wr2)\/(e=.returned (.tuple #[])/\Hid (RM (i+1) wr2))) /\
    ∀wr,RM nv wr->aJ ar ad Y A tb yb d gv (iL d oa oR rows) w (.returned (aA u2.heap.size)) wr:=by
 have Kj:Kn (Dm ad tb yb gv) w u1:=Sf.wide fun _ _ h=>h.elim;have Kz:Bt ad tb yb gv w [] gv u1:=⟨Kj,by simp,fun _ hb=>inl hb⟩;refine(hA u1 Kj (h.stays Sf)).mono fun e u2 ha=>?_;rcases aJ.go Kz (show aJ ar (ad++[]) Y A tb yb d gv oa u1 e u2 by rw[append_nil];exact ha) (o:=iL d oa oR rows) (fun e=>by rw[e];rfl)with⟨q1,q2⟩|⟨t,U1,l1,rk1,gv1,q1,q2,q3,q4,q5,_,_⟩
 ·exact inl ⟨q1,q2⟩
 refine inr ⟨_,q2,(h.pt q5.kn hp).first,(gB q4).mono ?_⟩;rintro e u3⟨rfl,rfl⟩;have h3:=q4.letter d;have Mw:=q4.new1;have On:Bt ad tb yb gv w (l1++[u2.heap.size]) gv1 (u2.alloc (.cells #[.string (bs []),.slice none 0 0,.pointer none,.int .i64 d] aT)):=q5.trans ⟨(Kn.refl _ u2).alloc _,fun b hb=>by rw[mem_singleton.1 hb];exact le_refl _,fun _ hb=>inl hb⟩;refine⟨rfl,(h.pt On.kn hp).first,?_⟩;have Va:=h.tree On.kn hn;rw[append_assoc]at h3 Mw;generalize F4:l1++[u2.heap.size]=l3 at *;have htv:aM (ad++l3) t=aM (ad++l1) t:=by rw[<- F4,<- append_assoc,eF _ (by rw[q4.len];exact q3)]
 have hlen3:(U1.letter d).2.nodes.length=U1.nodes.length+1:=by simp[TS.letter,TS.new]
 refine(jK Va Nb Qa (by decide)).mono ?_;rintro e u4⟨av,nv,cv,e1,lr,o1,o2,o3⟩;rw[OE d6 Uz]at o2;have hlr:=o2.len
 obtain⟨rfl,Qk⟩:nv=lr.length/\(0<lr.length->∃g',av=some ⟨g',0,none⟩):=by
  rcases aD o1 with⟨h,h0⟩|⟨g,cap,h⟩
  ·cases h;exact⟨h0.symm,fun h=>by omega⟩
  ·cases h;exact⟨rfl,fun _=>⟨g,rfl⟩⟩
 have Y4:=h3.stays o3;have U3:Bt ad tb yb gv w l3 gv1 u4:=⟨On.kn.trans (o3.wide fun _ _ h=>h.elim),On.new,On.giv⟩;refine⟨av,lr.length,cv,e1,fun i wr=>∃l Ui rki gvi,YM ar (ad++l) Y rki Ui A tb yb d gvi wr/\Bt ad tb yb gv w l gvi wr/\qD (oR t U1.nodes.length) (rows.drop i) Ui=qD (oR t U1.nodes.length) rows (U1.letter d).2/\B i Ui/\U1.nodes.length<Ui.nodes.length/\t<Ui.nodes.length/\(∀j,j<(ad++l3).length->aM (ad++l) j=aM (ad++l3) j)/\wr.ownsRow 0 aH 1 (.slice av lr.length cv) lr.length (lr.map aA)/\AB.AD wr rows lr,bI o1,?_,?_,?_⟩
 ·exact⟨l3,_,rk1,gv1,Y4,U3,by simp,g8 t U1 q1,by omega,by omega,fun _ _=>rfl,bN o1 (zero_le _),o2⟩
 ·rintro i wr⟨l,Ui,rki,gvi,y1,y2,y3,y4,y5,y6,y7,y8,y9⟩ hi;have Z0:rows[i]?=some rows[i]:=getElem?_eq_getElem (by omega);have Zj:rows.drop i=rows[i]::rows.drop (i+1):=List.drop_eq_getElem_cons (by omega);generalize rows[i]=row at Z0 Zj;obtain⟨b,hb,hm⟩:=y9.at Z0;obtain⟨g',rfl⟩:=Qk (by omega);refine⟨g',b,rfl,?_,(y8.lt g' rfl).2,?_⟩
  ·rw[y8.cellAt i (by omega),List.getElem?_map,hb];rfl
  ·have hc:=hR i row b wr l t U1.nodes.length Ui rki gvi Z0 hm y1 y4 y6 y5;rw[y7 t (by rw[h3.len];omega),htv,y7 _ (by rw[h3.len];omega),Mw]at hc;refine hc.mono fun e wr2 ha=>?_;rw[Zj,qD]at y3;rcases cR.go y2 ha (o:=iL d oa oR rows) (fun e=>by unfold iL;rw[q1,Option.bind_some];simp only;rw[<- y3,e];rfl)with⟨r1,r2⟩|⟨U2,l2,rk2,gv2,r1,r2,r4,r5,r6,r7⟩
   ·exact inl ⟨r1,r2⟩
   ·rw[r1,Option.bind_some]at y3;have Mb:=r4.len;have P4:=y1.len;have Vb:Kn (Dm (ad++l) tb yb gvi) wr wr2:=ha.1;have F5:∀(q:Nat)(c:Array Value)(t:TypeId)(f:Nat×Nat),t=cS\/t=aH->wr.heap[q]?=some (.cells c t f)->wr2.heap[q]?=wr.heap[q]?:=fun q c t f ht hc=>Vb.block q (aB hc) (y1.AU hc (by rcases ht with rfl|rfl<;>decide) (by rcases ht with rfl|rfl<;>decide) (by rcases ht with rfl|rfl<;>decide));refine inr ⟨r2,aC ⟨l2,U2,rk2,gv2,r4,r5,y3,Su i row t _ Ui U2 Z0 y4 r1,by omega,by omega,fun j hj=>?_,aE y8 fun q c f _ hc=>F5 q c _ f (inr rfl) hc,y9.kept (fun q c f hc=>F5 q c _ f (inl rfl) hc) (fun q c f hc=>F5 q c _ f (inr rfl) hc)⟩⟩;rw[r6 j (by rw[P4];have:=h3.len;omega),y7 j hj]
 ·rintro wr⟨l,Ui,rki,gvi,y1,y2,y3,y4,y5,y6,y7,y8,y9⟩;rw[show lr.length=rows.length from hlr,List.drop_length,qD]at y3;have:=aJ.ok (o:=iL d oa oR rows) (t:=U1.nodes.length) (by unfold iL;rw[q1,Option.bind_some];simp only;rw[<- y3];rfl) y5 y1 y2;rw[y7 _ (by rw[h3.len];omega),Mw]at this;exact this
def UK{k g cap ba:Nat}{bl:List Nat}{a:Nd}{rows:List Nd}{oa:Option (Nat×TS)}{oR:Nat->Nat->Nd->TS->Option TS}(h:YM ar ad Y rk U A tb yb d gv w)(hn:AB w (.mk k txt (a::rows)) nb)(hp:dH nb k txt g cap (ba::bl) w)(Nb:(a::rows).length<=1000000)(Qa:∀p∈a::rows,p.k<=1000)(d6:a.k≠16)(Uz:∀x∈rows,x.k=16)
  (hA:∀u,Kn (Dm ad tb yb gv) w u->YM ar ad Y rk U A tb yb d gv u->Calls prog 161 #[aA yb,aA ba] u (aJ ar ad Y A tb yb d gv oa u))
  {B:Nat->TS->Prop} (g8:∀t U1,oa=some (t,U1)->B 0 (U1.letter d).2) (Su:∀i row t ans U U',rows[i]?=some row->B i U->oR t ans row U=some U'->B (i+1) U')
  (hR:∀i row rb u l t ans U' rk' gv',rows[i]?=some row->AB u row rb->YM ar (ad++l) Y rk' U' A tb yb d gv' u->B i U'->t<U'.nodes.length->ans<U'.nodes.length->Calls prog 289 #[aA yb,aA rb,aM (ad++l) t,aM (ad++l) ans] u (cR ar (ad++l) Y A tb yb d gv' (oR t ans row U') u)) :
  Calls prog 266 #[aA yb,aA nb] w (aJ ar ad Y A tb yb d gv (iL d oa oR rows) w):=by
 have hf:=zF h hn hp Nb Qa d6 Uz hA g8 Su hR (Kn.refl _ w);have Nh:First nb k txt g cap bl.length ba w:=hp.first;have HF:=aC hf;clear hf hA g8 Su hR h hn hp Nb Qa d6 Uz;generalize aJ ar ad Y A tb yb d gv (iL d oa oR rows) w=Q at *;generalize bl.length=pn at *;unfold bE bQ First aA at *;generalize bs txt=tx at *;obtain⟨_,_,c1a,c2a⟩:=Nh;go_enter func266,ntmps266;go_wp2_with fail;refine(HF.out).mono ?_;rintro e u2 (⟨rfl,hp⟩|⟨bt,rfl,⟨_,_,c1a,c2a⟩,hc⟩)
 ·exact⟨rfl,hp⟩
 have HC:=aC hc;clear hc HF;go_wp2_with fail;refine(HC.out).mono ?_;rintro e u3⟨rfl,⟨_,_,c1b,c2b⟩,hc⟩;have HO:=aC hc;clear hc HC;go_wp2_with fail;refine(HO.out).mono ?_;rintro e u4⟨av,nv,cv,rfl,RM,hnv,A5,Yw,N7⟩;have W7:=aC A5;have I7:=aC Yw;have I8:=aC N7;clear A5 Yw N7 HO c1a c2a c1b c2b;go_wp2_with fail
 go_loopg [22] nv (fun gk v22 wr=>∃i,v22=.int .i64 (i:Nat)/\i+gk=nv/\Hid (RM i wr))
 case atStart=>exact⟨0,rfl,by omega,W7⟩
 case round=>
  clear W7;obtain⟨i,rfl,hi,HR⟩:=hrel
  by_cases Js:i<nv
  ·obtain⟨g',b,rfl,e1,e2,hc⟩:=I7.out _ _ HR.out Js;have HC:=aC hc;have Jt:(i:Int)<(nv:Int):=by omega
   clear hc I7 I8 HR;go_wp2_with fail;refine(HC.out).mono ?_;rintro e wr2 (⟨rfl,hq⟩|⟨rfl,HR⟩)
   ·exact⟨rfl,hq⟩
   ·clear HC;go_wp2_with fail
    go_roundg (nv-(i+1))
    case rel=>exact⟨i+1,by simp,by omega,HR⟩
    case measure=>omega
  ·have Kg:i=nv:=by omega
   subst Kg;have Jt:¬(i:Int)<(i:Int):=by omega
   have HG:=aC (I8.out _ HR.out);clear I7 I8 HR;go_wp2;exact HG.out
end
end
section
def Ag{k:Nat}:∀(rows:List Nd),Nd.sz.szs (only k rows)<=Nd.sz.szs rows:=by
 intro rows
 induction rows with
 |nil=>simp[only]
 |cons x r ih=>
  unfold only at *;rw[List.filter_cons]
  split
  ·rw[Nd.sz.szs,Nd.sz.szs];omega
  ·rw[Nd.sz.szs];omega
section
variable {g:Env->Nat->Nd->TS->Option (Nat×TS)}
def dC(hg:∀A d a U t U',g A d a U=some (t,U')->U'.given.length<=U.given.length+a.sz){A:Env}{d:Nat}{p:Nd}{want:Nat}{U U':TS}(h:lI g A d p want U=some U'):U'.given.length<=U.given.length+p.sz:=by
 unfold lI at h;split at h
 ·rename_i t s1 hs;have:=hg _ _ _ _ _ _ hs;rw[iC h];exact this
 ·cases h
def kV(hg:∀A d a U t U',g A d a U=some (t,U')->U'.given.length<=U.given.length+a.sz){A:Env}{d:Nat}{isRec:Bool}{txt:Nm}{a:Nd}{U:TS}{t:Nat}{U':TS}(h:gY g A d isRec txt a U=some (t,U')):U'.given.length<=U.given.length+a.sz:=by
 unfold gY at h;dsimp only at h;split at h
 ·rename_i t1 s1 hs;split at h
  ·cases h;rw[nE];split at hs
   ·split at hs
    ·rename_i t2 s2 Rm;obtain⟨s3,h3,h4⟩:=map_eq_some_iff.1 hs;cases h4;rw[iC h3];have:=hg _ _ _ _ _ _ Rm;exact this
    ·cases hs
   ·exact hg _ _ _ _ _ _ hs
  ·cases h
 ·cases h
def yP(hg:∀A d a U t U',g A d a U=some (t,U')->U'.given.length<=U.given.length+a.sz){A:Env}{d subj ans:Nat}:∀(rows:List Nd)(U U':TS),qC g A d subj ans rows U=some U'->U'.given.length<=U.given.length+Nd.sz.szs rows:=by
 intro rows
 induction rows with
 |nil=>intro U U' h;rw[qC]at h;cases h;simp
 |cons r rest ih=>
  intro U U' h;obtain⟨k,txt,ps⟩:=r
  match ps,h with
  |[p,e],h=>
   rw[qC]at h;split at h
   ·rename_i U1 vs h1;have q1:U1.given.length<=U.given.length+p.sz:=iZ (fun s t s'=>jA _ p s t s') h1;split at h
    ·rename_i U2 h2;have q2:=dC hg h2;have q3:=ih _ _ h;rw[Nd.sz.szs,Nd.sz,Nd.sz.szs,Nd.sz.szs,Nd.sz.szs];omega
    ·cases h
   ·cases h
  |[],h=>cases h
  |[_],h=>cases h
  |_::_::_::_,h=>cases h
def qG(hg:∀A d a U t U',g A d a U=some (t,U')->U'.given.length<=U.given.length+a.sz){A:Env}{d:Nat}{nd:Nd}{U:TS}{t:Nat}{U':TS}(h:fF g A d nd U=some (t,U')):U'.given.length+1<=U.given.length+nd.sz:=by
 obtain⟨k,txt,ps⟩:=nd;rw[Nd.sz];unfold fF at h;dsimp only at h;split at h
 ·cases h;simp[TS.named,TS.new]
 ·cases h;simp[TS.named,TS.new]
 ·cases h;simp[TS.named,TS.new]
 ·split at h
  ·split at h
   ·unfold TS.inst at h;obtain⟨r,h1,h2⟩:=map_eq_some_iff.1 h;cases h2;rw[(oH h1).given];omega
   ·cases h
  ·cases h
 ·have h1:=sU (get:=id) (put:=fun _ τ=>τ) (fun _ _=>rfl) (fun p _ want s s' hx=>dC hg hx) h;have h1:U'.given.length<=U.given.length+Nd.sz.szs _:=h1;omega
 ·split at h
  ·rename_i a t1 s1 hs;cases h;have:=hg _ _ _ _ _ _ hs;simp only[TS.named,TS.letter,TS.new]at *;rw[Nd.sz.szs,Nd.sz.szs];omega
  ·cases h
 ·split at h
  ·rename_i a b f U1 h1;split at h
   ·rename_i x U2 h2;obtain⟨s,h3,h4⟩:=map_eq_some_iff.1 h;cases h4;have q1:=hg _ _ _ _ _ _ h1;have q2:=hg _ _ _ _ _ _ h2;have q3:=iC h3;simp only[TS.named,TS.letter,TS.new]at q3;rw[q3,Nd.sz.szs,Nd.sz.szs,Nd.sz.szs];omega
   ·cases h
  ·cases h
 ·split at h
  ·rename_i a b t1 U1 h1;have q1:=kV hg h1;have q2:=hg _ _ _ _ _ _ h;rw[Nd.sz.szs,Nd.sz.szs,Nd.sz.szs];omega
  ·cases h
 ·split at h
  ·rename_i a b t1 U1 h1;have q1:=kV hg h1;have q2:=hg _ _ _ _ _ _ h;rw[Nd.sz.szs,Nd.sz.szs,Nd.sz.szs];omega
  ·cases h
 ·split at h
  ·rename_i c a b U1 h1;split at h
   ·rename_i t2 U2 h2;obtain⟨s,h3,h4⟩:=map_eq_some_iff.1 h;cases h4;have q1:=dC hg h1;have q2:=hg _ _ _ _ _ _ h2;have q3:=dC hg h3;simp only[TS.named,TS.new]at q1;rw[Nd.sz.szs,Nd.sz.szs,Nd.sz.szs,Nd.sz.szs];omega
   ·cases h
  ·cases h
 ·split at h
  ·rename_i a b U1 h1;have q1:=dC hg h1;have q2:=hg _ _ _ _ _ _ h;simp only[TS.named,TS.new]at q1;rw[Nd.sz.szs,Nd.sz.szs,Nd.sz.szs];omega
  ·cases h
 ·split at h
  ·rename_i a b c U1 h1;split at h
   ·rename_i v U2 h2;split at h
    ·rename_i U3 h3;cases h;have q1:=hg _ _ _ _ _ _ h1;have q2:=hg _ _ _ _ _ _ h2;have q3:=iC h3;simp only[TS.named,TS.new]at q3 ⊢;rw[q3,Nd.sz.szs,Nd.sz.szs,Nd.sz.szs];omega
    ·cases h
   ·cases h
  ·cases h
 ·obtain⟨s,h3,h4⟩:=map_eq_some_iff.1 h;cases h4;have q1:=dC hg h3;simp only[TS.named,TS.letter,TS.new]at q1;rw[Nd.sz.szs,Nd.sz.szs];omega
 ·split at h
  ·rename_i t1 U1 h1;obtain⟨s,h3,h4⟩:=map_eq_some_iff.1 h;cases h4;have q1:=hg _ _ _ _ _ _ h1;have q2:=le_trans (yP hg _ _ _ h3) (Nat.add_le_add_left (Ag _) _);simp only[TS.letter,TS.new]at q2;rw[Nd.sz.szs];omega
  ·cases h
 ·split at h
  ·rename_i a b _ _ U1 h1;split at h
   ·rename_i U2 h2;cases h;have q1:=dC hg h1;have q2:=dC hg h2;simp only[TS.named,TS.new]at q1 q2 ⊢;rw[Nd.sz.szs,Nd.sz.szs,Nd.sz.szs];omega
   ·cases h
  ·cases h
 ·cases h
end
def vJ:∀(n:Nat)(A:Env)(d:Nat)(nd:Nd)(U:TS)(t:Nat)(U':TS),pQ n A d nd U=some (t,U')->U'.given.length<=U.given.length+nd.sz:=by
 intro n
 induction n with
 |zero=>intro A d nd U t U' h;cases h
 |succ n ih=>
  intro A d nd U t U' h;rw[pQ]at h;split at h
  ·rename_i t1 s1 hs;cases h;have:=qG ih hs;simp only[TS.give,length_append,length_cons,length_nil];omega
  ·cases h
end
section
open Go.RowKit
def KG(p:Nd):Prop:=∀x∈p.all,x.txt.length<=100000000/\x.ps.length<=1000000/\(x.k=3\/x.k=14)/\(x.k≠14->x.ps=[])
def XSh:Nat->Nd->Prop
 |0,_=>True
 |m+1,.mk k txt ps=>txt.length<=100000000/\ps.length<=1000000 /\
  match k,ps with
  |0,_=>True
  |2,_=>True
  |3,_=>True
  |14,ps=>∀p∈ps,XSh m p
  |5,[a]=>XSh m a
  |6,[a,b]=>XSh m a/\XSh m b
  |9,[a,b]=>XSh m a/\XSh m b
  |11,[a,b]=>XSh m a/\XSh m b
  |13,[a,b]=>XSh m a/\XSh m b
  |8,[c,a,b]=>XSh m c/\XSh m a/\XSh m b
  |15,a::rows=>XSh m a/\a.k<=15/\∀r∈rows,∃t p e,r=.mk 16 t [p,e]/\KG p/\XSh m e
  |_,_=>False
structure mE(ar:Nm->Nat)(A:Env):Prop where
 con:∀c m,A.get (1,c)=some m->FH ar m m.vr.parts.length
 var:∀x m,A.get (0,x)=some m->∃t,m.scheme=some t
def mE.bind{ar:Nm->Nat}{A:Env}(h:mE ar A)(x:Nm)(t:Nat):mE ar (((0,x),Mg.var t)::A):=by
 refine⟨fun c m hc=>?_,fun y m hy=>?_⟩
 ·rw[dN (by simp)]at hc;exact h.con c m hc
 ·rw[Env.get]at hy;split at hy
  ·cases hy;exact⟨t,rfl⟩
  ·exact h.var y m hy
def mE.binds{ar:Nm->Nat}:∀(vs:List (Nm×Nat)) {A:Env},mE ar A->mE ar (eD A vs):=by
 intro vs
 induction vs with
 |nil=>intro A h;exact h
 |cons v r ih=>intro A h;exact ih (h.bind v.1 v.2)
def KG.ptOk{ar:Nm->Nat}{A:Env}{p:Nd}(h:KG p)(he:mE ar A)(hc:∀x∈p.all,x.k=14->mF A x):KH ar A p:=fun x hx=>by
 obtain⟨h1,h2,h3,h4⟩:=h x hx;refine⟨h1,h2,h3,fun hk=>?_⟩;obtain⟨m,hm,hl⟩:=hc x hx hk;exact⟨m,hm,by rw[hl];exact he.con _ _ hm⟩
def QR:∀ps:List Nd,Nd.all.alls ps=ps.flatMap Nd.all:=by
 intro ps
 induction ps with
 |nil=>rfl
 |cons p r ih=>rw[Nd.all.alls,ih];rfl
def FV(txt:Nm)(ps:List Nd):bK (.mk 14 txt ps)=ps.flatMap bK:=by
 unfold bK;rw[Nd.all,List.filter_cons_of_neg (by simp[Nd.k]),QR]
 induction ps with
 |nil=>rfl
 |cons p r ih=>simp only[List.flatMap_cons,filter_append,map_append,ih]
def FT(txt:Nm):bK (.mk 3 txt [])=[txt]:=by
 unfold bK;rw[Nd.all,Nd.all.alls];rfl
def FU{p:Nd}{x:Nm}(h:x∈bK p):∃y∈p.all,y.txt=x:=by
 unfold bK at h;obtain⟨y,hy,rfl⟩:=List.mem_map.1 h;exact⟨y,(List.mem_filter.1 hy).1,rfl⟩
def JE{ex:Nd->Nat->TS×List (Nm×Nat)->Option (TS×List (Nm×Nat))}{ch:List (Nm×Nat)}:∀(l:List (Nd×Nd)) (s s':TS×List (Nm×Nat)),(∀p∈l.map Prod.fst,∀want s s',ex p want s=some s'->s'.2.map Prod.fst=s.2.map Prod.fst++bK p)->iN.go Prod.fst (fun s τ=>(τ,s.2)) ex ch l s=some s'->s'.2.map Prod.fst=s.2.map Prod.fst++(l.map Prod.fst).flatMap bK:=by
 intro l
 induction l with
 |nil=>intro s s' _ h;rw[iN.go]at h;cases h;simp
 |cons a r ih=>
  intro s s' hp h;obtain⟨p,q⟩:=a;rw[iN.go]at h;split at h
  ·rename_i s1 Li;have h1:=hp p (by simp) _ _ _ Li;have h2:=ih s1 s' (fun p Qu=>hp p (by simp only[map_cons,mem_cons];exact inr Qu)) h;rw[h2,h1];simp
  ·cases h
def vB{g:Nd->TS×List (Nm×Nat)->Option (Nat×(TS×List (Nm×Nat)))}{p:Nd}(hg:∀s t s',g p s=some (t,s')->s'.2.map Prod.fst=s.2.map Prod.fst++bK p){want:Nat}{s s':TS×List (Nm×Nat)}(h:kI.patX g p want s=some s'):s'.2.map Prod.fst=s.2.map Prod.fst++bK p:=by
 unfold kI.patX at h;split at h
 ·rename_i t s1 Li;obtain⟨U2,h2,rfl⟩:=map_eq_some_iff.1 h;have:=hg _ _ _ Li;exact this
 ·cases h
def OC{ar:Nm->Nat}{A:Env}{d:Nat}:∀(n:Nat)(p:Nd),KG p->KH ar A p->∀(s:TS×List (Nm×Nat)) (t:Nat) (s':TS×List (Nm×Nat)),kI A d n p s=some (t,s')->s'.2.map Prod.fst=s.2.map Prod.fst++bK p:=by
 intro n
 induction n with
 |zero=>intro p _ _ s t s' h;cases h
 |succ n ih=>
  intro p Yf Lb s t s' h;obtain⟨k,txt,ps⟩:=p;obtain⟨_,_,hk,hl⟩:=Yf _ (oP _);have hk:k=3\/k=14:=hk;have hl:k≠14->ps=[]:=hl;rw[kI]at h;split at h
  ·rename_i Mr;omega
  ·split at h
   ·rename_i _ Le;subst Le;rw[hl (by decide),FT];cases h;simp
   ·split at h
    ·rename_i _ _ Qx;subst Qx;rw[FV];obtain⟨m,hm,hci⟩:=(Lb _ (oP _)).2.2.2 rfl;have hm:A.get (1,txt)=some m:=hm;have hnp:ps.length=m.vr.parts.length:=hci.np;unfold iN at h;rw[hm]at h;dsimp only at h;split at h
     ·rename_i s1 Li;cases h;have S9:(ps.zip m.vr.parts).map Prod.fst=ps:=by rw[List.map_fst_zip];rw[hnp];exact le_refl _
      have h1:=JE _ _ _ (fun p hp want s s' hx=>vB (fun s t s'=>ih p (fun x hx=>Yf x (tH (by rw[S9]at hp;exact hp) hx)) (Lb.part (by rw[S9]at hp;exact hp)) s t s') hx) Li;rw[S9]at h1;exact h1
     ·cases h
    ·rename_i Mr Le Qx;omega
section
variable {ar:Nm->Nat}{ad:List Nat}{Y:Nat->Prop}{rk:Nat->Nat}{U:TS}{A:Env}{tb yb d:Nat}{gv:Value}{w w':World}{nb:Nat}{txt:Nm}
def gF.toTy{o:Option (Nat×TS)}{e:Ending}(ha:gF id (EX yb) yb ar ad Y A tb yb d gv (.slice none 0 0) o w e w'):aJ ar ad Y A tb yb d gv o w e w':=by
 refine⟨ha.1.wide fun k _ hd=>?_,?_⟩
 ·rcases hd with hd|hd|hd
  ·exact hd
  ·exact inr (inr (inl hd))
  ·simp[ownBlock]at hd
 ·rcases ha.2 with h|⟨t,s',l,rk',gv',vv',a1,a2,a3,a4,a5,a6,a7,a8⟩
  ·exact inl h
  ·exact inr ⟨t,s',l,rk',gv',a1,a2,a3,a4,a6,a7⟩
def cR.toC{o:Option TS}{e:Ending}(ha:cR ar ad Y A tb yb d gv o w e w'):RC id (EX yb) yb ar ad Y A tb yb d gv (.slice none 0 0) o w e w':=by
 refine⟨ha.1.wide fun k _ hd=>inl hd,?_⟩;rcases ha.2 with h|⟨s',l,rk',gv',a1,a2,a4,a6,a7⟩
 ·exact inl h
 ·exact inr ⟨s',l,rk',gv',.slice none 0 0,a1,a2,a4,⟨rfl,_,a4.typ⟩,a6,a7,fun b hb=>by simp[ownBlock]at hb⟩
def VQ{o:Option (Nat×TS)}(hk:w.cell? ⟨nb,0,none⟩=some (.int .i64 (14:Nat)))
  (hC:Calls prog 262 #[aA yb,aA nb,.func (.func 113) #[aA yb] #[]] w (aJ ar ad Y A tb yb d gv o w)) :
  Calls prog 210 #[aA yb,aA nb] w (aJ ar ad Y A tb yb d gv o w):=by
 have Lh:=hC.mono fun e u2 ha=>aJ.last (Bt.refl ad tb yb gv w) (show aJ ar (ad++[]) Y A tb yb d gv o w e u2 by rw[append_nil];exact ha) rfl;have HC:=aC Lh;clear Lh hC;generalize aJ ar ad Y A tb yb d gv o w=Q at *;unfold bE bQ aA at *;have Vs:∀(fn:Fn)(first cap:Array Value)(w:World),(Instr.makeFunc fn first cap).run prog w=.ok (.func fn first cap) w:=fun _ _ _ _=>rfl;go_enter func210,ntmps210;go_wp2_with fail;refine(HC.out).mono ?_;rintro e u3 (⟨rfl,hp⟩|⟨b,rfl,hq⟩)
 ·exact⟨rfl,hp⟩
 have HG:=aC hq;clear hq HC;go_wp2;exact HG.out
end
end
section
open Go.RowKit
section
variable {ar:Nm->Nat}{ad:List Nat}{Y:Nat->Prop}{rk:Nat->Nat}{U:TS}{A:Env}{tb yb d:Nat}{gv:Value}{w w':World}{nb:Nat}{txt:Nm}
def VO{g cap ba bb:Nat}{oa:Option TS}{ob:TS->Option (Nat×TS)}(h0:ar bY=0)(h:YM ar ad Y rk U A tb yb d gv w)(hp:dH nb 9 txt g cap [ba,bb] w)
  (hA:∀u,Kn (Dm ad tb yb gv) w u->YM ar (ad++[w.heap.size]) Y rk (U.named bY []).2 A tb yb d gv u->Calls prog 113 #[aA yb,aA ba,aM (ad++[w.heap.size]) U.nodes.length] u (cR ar (ad++[w.heap.size]) Y A tb yb d gv oa u))
  (hB:∀u U' l rk' gv',Kn (Dm ad tb yb gv) w u->oa=some U'->YM ar (ad++l) Y rk' U' A tb yb d gv' u->Calls prog 161 #[aA yb,aA bb] u (aJ ar (ad++l) Y A tb yb d gv' (ob U') u)) :
  Calls prog 210 #[aA yb,aA nb] w (aJ ar ad Y A tb yb d gv (oa.bind ob) w):=by
 have Nh:=NL h0 h hp hA hB w.drew (AH w) rfl;obtain⟨ck,_,_,_⟩:=hp.cells;have Lt:=aC Nh;clear Nh h0 h hp hA hB;generalize aJ ar ad Y A tb yb d gv (oa.bind ob) w=Q at *;unfold bE bQ Two aA at *;go_enter func210,ntmps210;go_wp2_with fail;obtain⟨⟨c1a,c2a,c3a⟩,hu⟩:=Lt.out;have HU:=aC hu;clear hu Lt
 go_region_held2 (fun w'=>w'.cell? ⟨nb,2,none⟩=some (.slice (some ⟨g,0,none⟩) 2 cap)/\w'.cell? ⟨g,0,none⟩=some (.pointer (some ⟨ba,0,none⟩))/\w'.cell? ⟨g,1,none⟩=some (.pointer (some ⟨bb,0,none⟩))) (exact⟨c1a,c2a,c3a⟩) (first|(go_at_call 39;refine(HU.out).mono ?_;rintro e u1⟨rfl,⟨c1a,c2a,c3a⟩,hc⟩;have HC:=aC hc;clear hc)|(go_at_call 113;refine(HC.out).mono ?_;rintro e u2 (⟨rfl,hp⟩|⟨rfl,⟨c1a,c2a,c3a⟩,hc⟩);(focus (exact⟨rfl,hp⟩));have HE:=aC hc;clear hc))
 all_goals
  go_wp2_with fail;refine(HE.out).mono ?_;rintro e u3 (⟨rfl,hp⟩|⟨b,rfl,hq⟩)
  ·exact⟨rfl,hp⟩
  ·have HG:=aC hq;clear hq HE;go_wp2;exact HG.out
end
end
section
open Go.RowKit
section
variable {ar:Nm->Nat}{ad:List Nat}{Y:Nat->Prop}{rk:Nat->Nat}{U:TS}{A:Env}{tb yb d:Nat}{gv:Value}{w w':World}{nb:Nat}{txt:Nm}
def Bi{g cap ba bb bc:Nat}{oa:Option TS}{ob:TS->Option (Nat×TS)}{oc:Nat->TS->Option TS}(h0:ar dZ=0)(h:YM ar ad Y rk U A tb yb d gv w)(hp:dH nb 8 txt g cap [ba,bb,bc] w)
  (hA:∀u,Kn (Dm ad tb yb gv) w u->YM ar (ad++[w.heap.size]) Y rk (U.named dZ []).2 A tb yb d gv u->Calls prog 113 #[aA yb,aA ba,aM (ad++[w.heap.size]) U.nodes.length] u (cR ar (ad++[w.heap.size]) Y A tb yb d gv oa u))
  (hB:∀u U' l rk' gv',Kn (Dm ad tb yb gv) w u->oa=some U'->YM ar (ad++l) Y rk' U' A tb yb d gv' u->Calls prog 161 #[aA yb,aA bb] u (aJ ar (ad++l) Y A tb yb d gv' (ob U') u))
  (hC:∀u t U0 U' l rk' gv',Kn (Dm ad tb yb gv) w u->oa=some U0->ob U0=some (t,U')->t<U'.nodes.length->YM ar (ad++l) Y rk' U' A tb yb d gv' u->Calls prog 113 #[aA yb,aA bc,aM (ad++l) t] u (cR ar (ad++l) Y A tb yb d gv' (oc t U') u)) :
  Calls prog 210 #[aA yb,aA nb] w (aJ ar ad Y A tb yb d gv (IS oa ob oc) w):=by
 have Nh:=VE h0 h hp hA hB hC w.drew (AH w) rfl;obtain⟨ck,_,_,_⟩:=hp.cells;have Lt:=aC Nh;clear Nh h0 h hp hA hB hC;generalize aJ ar ad Y A tb yb d gv (IS oa ob oc) w=Q at *;unfold bE bQ Three aA at *;go_enter func210,ntmps210;go_wp2_with fail;obtain⟨⟨c1a,c2a,c3a,c4a⟩,hu⟩:=Lt.out;have HU:=aC hu;clear hu Lt
 go_region_held2 (fun w'=>w'.cell? ⟨nb,2,none⟩=some (.slice (some ⟨g,0,none⟩) 3 cap)/\w'.cell? ⟨g,0,none⟩=some (.pointer (some ⟨ba,0,none⟩))/\w'.cell? ⟨g,1,none⟩=some (.pointer (some ⟨bb,0,none⟩))/\w'.cell? ⟨g,2,none⟩=some (.pointer (some ⟨bc,0,none⟩))) (exact⟨c1a,c2a,c3a,c4a⟩) (first|(go_at_call 265;refine(HU.out).mono ?_;rintro e u1⟨rfl,⟨c1a,c2a,c3a,c4a⟩,hc⟩;have HC:=aC hc;clear hc)|(go_at_call 113;refine(HC.out).mono ?_;rintro e u2 (⟨rfl,hp⟩|⟨rfl,⟨c1a,c2a,c3a,c4a⟩,hc⟩);(focus (exact⟨rfl,hp⟩));have HE:=aC hc;clear hc))
 all_goals
  go_wp2_with fail;refine(HE.out).mono ?_;rintro e u3 (⟨rfl,hp⟩|⟨b,rfl,⟨c1a,c2a,c3a,c4a⟩,hq⟩)
  ·exact⟨rfl,hp⟩
  ·have HX:=aC hq;clear hq HE;go_wp2_with fail;refine(HX.out).mono ?_;rintro e u4 (⟨rfl,hp⟩|⟨rfl,hq⟩)
   ·exact⟨rfl,hp⟩
   ·have HG:=aC hq;clear hq HX;go_wp2;exact HG.out
end
end
section
open Go.RowKit
section
variable {g:Env->Nat->Nd->TS->Option (Nat×TS)}{A:Env}{d:Nat}{txt:Nm}{U:TS}
def Bn{p:Nd}{want:Nat}:lI g A d p want U=FZ (g A d p U) want:=by
 unfold lI FZ
 cases g A d p U with
 |none=>rfl
 |some r=>rfl
def PO{a:Nd}:fF g A d (.mk 5 txt [a]) U=PH U.nodes.length (g (((0,txt),Mg.var U.nodes.length)::A) d a (U.letter d).2):=by
 rw[show fF g A d (.mk 5 txt [a]) U=(match g (((0,txt),Mg.var U.nodes.length)::A) d a (U.letter d).2 with|some (t,U')=>some (U'.named bA [U.nodes.length,t])|none=>none)from rfl];unfold PH
 cases g (((0,txt),Mg.var U.nodes.length)::A) d a (U.letter d).2 with
 |none=>rfl
 |some r=>rfl
def PP{a b:Nd}:fF g A d (.mk 13 txt [a,b]) U=gZ d (g A d a U) (fun s=>g A d b s):=by
 rw[show fF g A d (.mk 13 txt [a,b]) U=(match g A d a U with|some (f,U1)=>(match g A d b U1 with|some (x,U2)=>EZ d f x U2|none=>none)|none=>none)from rfl];unfold gZ
 cases g A d a U with
 |none=>rfl
 |some r=>
  rw[Option.bind_some];dsimp only
  cases g A d b r.2 with
  |none=>rfl
  |some q=>rfl
def nR{a:Nd}:gY g A d false txt a U=cX d (g A (if bB (a.ht+1) a then d+1 else d) a U):=by
 rw[show gY g A d false txt a U=(match g A (if bB (a.ht+1) a then d+1 else d) a U with|some (t,U')=>if U'.fits t then some (t,U'.AV d t)else none|none=>none)from rfl];unfold cX
 cases g A (if bB (a.ht+1) a then d+1 else d) a U with
 |none=>rfl
 |some r=>rfl
def JN{a:Nd}:gY g A d true txt a U=cX d (qQ U.nodes.length (g (((0,txt),Mg.var U.nodes.length)::A) (if bB (a.ht+1) a then d+1 else d) a (U.letter (if bB (a.ht+1) a then d+1 else d)).2)):=by
 rw[show gY g A d true txt a U=(match (match g (((0,txt),Mg.var U.nodes.length)::A) (if bB (a.ht+1) a then d+1 else d) a (U.letter (if bB (a.ht+1) a then d+1 else d)).2 with|some (t,U')=>(U'.AO U.nodes.length t).map fun s=>(U.nodes.length,s)|none=>none)with|some (t,U')=>if U'.fits t then some (t,U'.AV d t)else none|none=>none)from rfl];unfold cX qQ
 cases g (((0,txt),Mg.var U.nodes.length)::A) (if bB (a.ht+1) a then d+1 else d) a (U.letter (if bB (a.ht+1) a then d+1 else d)).2 with
 |none=>rfl
 |some r=>
  rw[Option.bind_some];dsimp only
  cases r.2.AO U.nodes.length r.1 with
  |none=>rfl
  |some s=>rfl
def PN{a b:Nd}:fF g A d (.mk 6 txt [a,b]) U=uF (cX d (g A (if bB (a.ht+1) a then d+1 else d) a U)) (fun t s=>g (((0,txt),Mg.var t)::A) d b s):=by
 rw[show fF g A d (.mk 6 txt [a,b]) U=(match gY g A d false txt a U with|some (t,U')=>g (((0,txt),Mg.var t)::A) d b U'|none=>none)from rfl,<- nR (txt:=txt)];unfold uF
 cases gY g A d false txt a U with
 |none=>rfl
 |some r=>rfl
def VS{c a b:Nd}:fF g A d (.mk 8 txt [c,a,b]) U=IS (lI g A d c U.nodes.length (U.named dZ []).2) (fun s=>g A d a s) (fun t s=>lI g A d b t s):=by
 rw[show fF g A d (.mk 8 txt [c,a,b]) U=(match lI g A d c U.nodes.length (U.named dZ []).2 with|some U1=>(match g A d a U1 with|some (t,U2)=>(lI g A d b t U2).map fun s=>(t,s)|none=>none)|none=>none)from rfl];unfold IS
 cases lI g A d c U.nodes.length (U.named dZ []).2 with
 |none=>rfl
 |some s=>
  rw[Option.bind_some];dsimp only
  cases g A d a s with
  |none=>rfl
  |some r=>rfl
def PL{a b:Nd}:fF g A d (.mk 9 txt [a,b]) U=(lI g A d a U.nodes.length (U.named bY []).2).bind (fun s=>g A d b s):=by
 rw[show fF g A d (.mk 9 txt [a,b]) U=(match lI g A d a U.nodes.length (U.named bY []).2 with|some U1=>g A d b U1|none=>none)from rfl]
 cases lI g A d a U.nodes.length (U.named bY []).2 with
 |none=>rfl
 |some s=>rfl
def IY{a b:Nd}:fF g A d (.mk 11 txt [a,b]) U=kL (decide (txt=[61]\/txt=[60])) (lI g A d a U.nodes.length (U.named eI []).2) (fun s=>lI g A d b s.nodes.length (s.named eI []).2):=by
 rw[show fF g A d (.mk 11 txt [a,b]) U=(match lI g A d a U.nodes.length (U.named eI []).2 with|some U1=>(match lI g A d b U1.nodes.length (U1.named eI []).2 with|some U2=>some (U2.named (if txt=[61]\/txt=[60]then dZ else eI) [])|none=>none)|none=>none)from rfl];unfold kL
 cases lI g A d a U.nodes.length (U.named eI []).2 with
 |none=>rfl
 |some s=>
  rw[Option.bind_some];dsimp only
  cases lI g A d b s.nodes.length (s.named eI []).2 with
  |none=>rfl
  |some q=>
   by_cases h:txt=[61]\/txt=[60]
   ·simp[h]
   ·simp[h]
def SY(g:Env->Nat->Nd->TS->Option (Nat×TS))(A:Env)(d t ans:Nat):Nd->TS->Option TS
 |.mk _ _ [p,e],s=>rR (IB A d p t (s,[])) (fun vs s'=>lI g (eD A vs) d e ans s')
 |_,_=>none
def GK{t ans:Nat}:∀(rows:List Nd)(s:TS),qC g A d t ans rows s=qD (SY g A d t ans) rows s:=by
 intro rows
 induction rows with
 |nil=>intro s;rfl
 |cons r rest ih=>
  intro s;obtain⟨k,tx,ps⟩:=r
  match ps with
  |[p,e]=>
   rw[qC,qD,SY];unfold rR
   cases IB A d p t (s,[])with
   |none=>rfl
   |some q=>
    obtain⟨s1,vs⟩:=q;dsimp only;rw[Option.bind_some];dsimp only
    cases lI g (eD A vs) d e ans s1 with
    |none=>rfl
    |some s2=>exact ih s2
  |[]=>rfl
  |[_]=>rfl
  |_::_::_::_=>rfl
def zW{a:Nd}{rows:List Nd}(hr:∀x∈rows,x.k=16):fF g A d (.mk 15 txt (a::rows)) U=iL d (g A d a U) (fun t ans row s=>SY g A d t ans row s) rows:=by
 have ho:only 16 rows=rows:=List.filter_eq_self.2 fun x hx=>by simpa using hr x hx
 rw[show fF g A d (.mk 15 txt (a::rows)) U=(match g A d a U with|some (t,U1)=>(qC g A d t U1.nodes.length (only 16 rows) (U1.letter d).2).map fun s=>(U1.nodes.length,s)|none=>none)from rfl];unfold iL
 cases g A d a U with
 |none=>rfl
 |some r=>
  rw[Option.bind_some];dsimp only;rw[ho,GK]
end
end
end Go.Proofs.YthakgdfmbknakaaGreatDoor
