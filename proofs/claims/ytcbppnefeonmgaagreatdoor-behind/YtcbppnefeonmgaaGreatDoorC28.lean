import Derived.Test.YtcbppnefeonmgaaGreatDoorC27
set_option linter.all false
set_option maxHeartbeats 40000000
set_option maxRecDepth 100000
open Go.Proofs.Tryz
open Or (inl inr)
open Nat (le_refl le_trans zero_le lt_succ_self)
open List (length_append length_cons mem_cons_self cons_append mem_cons length_nil map_append length_map map_cons nil_append)
namespace Go.Proofs.YtcbppnefeonmgaaGreatDoor
section
open Go.RowKit Go.Shelf
section
attribute [local go_sem] Oper.semAt_some
variable {w w':World}
theorem appendSeq_any{Bs:Nat}{sv:Value}{l:List Nm}(hl:l.length<=100000000)(hc:w.heap[Bs]?=some (.cells #[sv] tyStrs (0,0)))(hT:VaAt w.heap.size sv l w) :
  Calls prog 198 #[.slice none 0 0,.func (.func 176) #[] #[.pointer (some ⟨Bs,0,none⟩)]] w fun e w'=>∃v,e=.returned v/\w'.ownsRow w.heap.size tyStr 1 v l.length (l.map strV)/\Below w.heap.size w w':=by
 obtain⟨wl,hwl⟩:∃wl,wl=w.alloc (.cells #[.slice none 0 0] tyStrs):=⟨_,rfl⟩
 have hbl:Below w.heap.size w wl:=by rw[hwl];exact(Below.refl _ w).alloc (le_refl _) _
 have hsz:wl.heap.size=w.heap.size+1:=by rw[hwl];simp
 have hbx:Boxed wl w.heap.size tyStrs (.slice none 0 0):=by rw[hwl];exact Boxed.new w tyStrs _
 have hst:=values_stops Fence.wide (4-1) trivial rfl (by omega) Bs sv l hl w hc hT
 have hI0:(fun(pre:List Nm) (W:World)=>(∃v,Boxed W w.heap.size tyStrs v/\W.ownsRow w.heap.size tyStr 1 v pre.length (pre.map strV)/\True)/\Below w.heap.size w W/\wl.heap.size<=W.heap.size) [] wl:=⟨⟨_,hbx,World.ownsRow_nil _ _ _ _,trivial⟩,hbl,le_refl _⟩
 have hown:OwnFrom wl.heap.size (fun(pre:List Nm) (W:World)=>(∃v,Boxed W w.heap.size tyStrs v/\W.ownsRow w.heap.size tyStr 1 v pre.length (pre.map strV)/\True)/\Below w.heap.size w W/\wl.heap.size<=W.heap.size):=by
  refine OwnFrom.and (Own.from (holdsRow_own w.heap.size w.heap.size tyStrs tyStr 1 (fun pre:List Nm=>pre.length) (fun pre=>pre.map strV) (fun _ _=>True)) _) ?_
  rintro s W W' row⟨h1,h2⟩ hg hr
  exact⟨h1.grown hg h1.size fun k e=>by have:=(hr k e).1;omega,le_trans h2 hg.size⟩
 have HST:=hide hst
 have HI0:=hide hI0
 have HOWN:=hide hown
 have HBL:=hide hbl
 clear hst hI0 hown hT hc hbx hbl
 refine(callsIn_wide (n:=4)).1 ?_
 refine callsIn_of_wp_marks func198 rfl trivial ?_ rfl
 simp only[ntmps198,List.size_toArray,length_cons,length_nil,Nat.reduceAdd,Nat.reduceSub,Array.replicate_succ,Array.replicate_zero,List.push_toArray,List.append_toArray,nil_append,cons_append]
 gi_wp2
 rw[<- hwl]
 have hkb:∀(W:World)(k:Nat)(o o':Obj),wl.heap.size<=k->W.heap[k]?=some o->o.isCells=false->o.isWalk=false->Below w.heap.size W (W.putObj k o'):=fun W k o o' h1 h2 h3 h4=>belowK_b (w:=wl) (by omega) W k o o' h1 h2 h3 h4
 refine wpIn_rangeFunc_ownF rfl (by omega) (gf:=176) (lb:=#[.pointer (some ⟨Bs,0,none⟩)]) ?hg trivial (enters_of func176 (by kernel_rfl) rfl)
  HST.out (fun h k=>h.trans k) hkb HBL.out (fun _=>rfl) (fun(pre:List Nm) (W:World)=>(∃v,Boxed W w.heap.size tyStrs v/\W.ownsRow w.heap.size tyStr 1 v pre.length (pre.map strV)/\True)/\Below w.heap.size w W/\wl.heap.size<=W.heap.size) (fun _ _ _=>False) HOWN.out (fun _ _ _ _ _ hs _ _=>hs) HI0.out
  (fun x=>{ tmps:=#[.slice none 0 0,.func (.func 176) #[] #[.pointer (some ⟨Bs,0,none⟩)],.pointer (some ⟨w.heap.size,0,none⟩),undef,.slice none 0 0,.string (bs x),.func (.func 176) #[] #[.pointer (some ⟨Bs,0,none⟩)],.string (bs x),undef,undef,undef,undef,undef],defers:=[] }) ?assign ?body ?done ?stop
 case hg=>rfl
 case assign=>
  intro lr x W K hK
  unfold encN
  gi_wp2
  exact hK
 case body=>
  rintro lr pre x W⟨⟨v,hv,hrow,_⟩,hB,hW⟩ hlen
  obtain⟨i0,hi,hz0,hz1,hz2⟩:=info_parts info_strs
  have hc0:=hv.cell
  have hf0:=hv.frozen
  obtain⟨va,vn,vc,rfl⟩:∃a n c,v=.slice a n c:=by
   rcases ownsRow_forms hrow with⟨rfl,_⟩|⟨g,cap,rfl⟩
   ·exact⟨_,_,_,rfl⟩
   ·exact⟨_,_,_,rfl⟩
  have hte:tyStrs≠tyStr:=by decide
  gi_wp2_with (gi_at_builtin;refine wpListIn_append_own _ rfl _ _ tyStrs rfl w.heap.size tyStr i0 _ 1 16 underlying22 hi hz0 hz1 hz2 rfl (by decide) _ _ _ rfl (hrow.alloc _) ⟨W.heap.size,0,none⟩ 1 1 [.string (bs x)] rfl rfl (cell_one_new _ _ _) (by simp[Value.oneCell']) (by have:maxLen=9223372036854775807:=rfl;omega) (by omega) (by simp;omega) ?_;intro v' w1 hown' hgrow _;obtain⟨g',cap',rfl⟩:=ownsRow_succ hown';obtain⟨hv1,hv2,hr2,hk2,hb2⟩:=hv.appended hte hrow hB.size (le_refl _) hown' hgrow;have hc1:=hv1.cell;have hf1:=hv1.frozen)
  refine⟨hk2,hb2,⟨_,hv2,?_,trivial⟩,hB.trans hb2,by have:=hb2.size;omega⟩
  simpa [strV]using hr2
 case done=>
  rintro D xs W hD rfl⟨⟨v,hv,hrow,_⟩,hB,hW⟩ hK
  have hc0:=hv.cell
  obtain⟨va,vn,vc,rfl⟩:∃a n c,v=.slice a n c:=by
   rcases ownsRow_forms hrow with⟨rfl,_⟩|⟨g,cap,rfl⟩
   ·exact⟨_,_,_,rfl⟩
   ·exact⟨_,_,_,rfl⟩
  gi_wp2
  refine⟨by simp,.inl ⟨_,_,rfl,run_takeDeferred hK,?_⟩⟩
  exact⟨_,results_tmp rfl _ _ _,_,rfl,ownsRow_putObj hrow _ hK rfl,hB.trans (belowK_b (w:=w) (le_refl _) W D _ _ (by omega) hK rfl rfl)⟩
 case stop=>
  rintro D c pre W _ _ h _
  exact h.elim
theorem collect_any{Bs:Nat}{sv:Value}{l:List Nm}(hl:l.length<=100000000)(hc:w.heap[Bs]?=some (.cells #[sv] tyStrs (0,0)))(hT:VaAt w.heap.size sv l w) :
  Calls prog 174 #[.func (.func 176) #[] #[.pointer (some ⟨Bs,0,none⟩)]] w fun e w'=>∃v,e=.returned v/\w'.ownsRow w.heap.size tyStr 1 v l.length (l.map strV)/\Below w.heap.size w w':=by
 have HA:=hide (appendSeq_any hl hc hT)
 clear hc hT
 go_enter func174,ntmps174
 go_wp2_with fail
 refine(HA.out).mono ?_;rintro e u⟨v,rfl,h1,h2⟩
 go_wp2
 refine bodyPost_ret (results_tmp rfl _ _ _) rfl ?_
 exact⟨_,rfl,h1,h2⟩
def srt(l:List Nm):List Nm:=l.mergeSort fun x y=>decide (x<=y)
theorem sorted_any{Bs:Nat}{sv:Value}{l:List Nm}(hl:l.length<=100000000)(hc:w.heap[Bs]?=some (.cells #[sv] tyStrs (0,0)))(hT:VaAt w.heap.size sv l w) :
  Calls prog 152 #[.func (.func 176) #[] #[.pointer (some ⟨Bs,0,none⟩)]] w fun e w'=>∃a c,e=.returned (.slice a l.length c)/\w'.ownsRow w.heap.size tyStr 1 (.slice a l.length c) l.length ((srt l).map strV)/\Below w.heap.size w w':=by
 have hA:=(collect_any hl hc hT).mono (R':=fun e u=>∃a c,e=.returned (.slice a l.length c)/\Calls prog 175 #[.slice a l.length c] u fun e u2=>e=.returned (.tuple #[])/\u2.ownsRow w.heap.size tyStr 1 (.slice a l.length c) l.length ((srt l).map strV)/\Below w.heap.size w u2) fun e u ha=>by
  obtain⟨v,rfl,hrow,hb⟩:=ha
  rcases hrow.2 with⟨rfl,hz⟩|⟨gb,cap,cur,rfl,hbase,hgb,r1,r2,r3,r4⟩
  ·have hl0:l=[]:=List.length_eq_zero_iff.1 hz
   subst hl0
   refine⟨none,0,rfl,(Tryz.slices_Sort_string_none none 0 u).mono ?_⟩
   rintro e u2⟨rfl,rfl⟩
   exact⟨rfl,by simpa [srt]using hrow,hb⟩
  ·have hH:Go.Sort.Holds encStr u gb 0 l.toArray:=holds_of_block hgb (by rw[Nat.mul_one]at r4;exact r4)
   refine⟨_,cap,rfl,(Tryz.slices_Sort_string gb 0 cap l u hH (lt_of_heap hgb) (by omega)).mono ?_⟩
   rintro e u2⟨rfl,nn,os,rfl⟩
   refine⟨rfl,?_,hb.grown (grownBy_sorted _) hb.size (fun j hj=>by cases hj;exact hbase)⟩
   have:=ownsRow_sorted (ss:=l) (ts:=srt l) (n:=nn) (os:=os) (by simp[srt]) hbase hgb r1 r2 r3
   exact this
 have HA:=hide hA
 clear hc hT hA
 go_enter func152,ntmps152
 go_wp2_with fail
 refine(HA.out).mono ?_;rintro e u⟨a,c,rfl,hs⟩
 have HS:=hide hs
 clear hs HA
 go_wp2_with fail
 refine(HS.out).mono ?_;rintro e u2⟨rfl,hq1,hq2⟩
 go_wp2
 refine bodyPost_ret (results_tmp rfl _ _ _) rfl ?_
 exact⟨a,c,rfl,hq1,hq2⟩
end
end
section
open Go.RowKit Go.Shelf
theorem nm_trans(a b c:Nm)(h1:decide (a<=b)=true)(h2:decide (b<=c)=true):decide (a<=c)=true:=by
 rw[decide_eq_true_eq]at *;exact List.le_trans h1 h2
theorem nm_total(a b:Nm):(decide (a<=b) || decide (b<=a))=true:=by
 rw[Bool.or_eq_true,decide_eq_true_eq,decide_eq_true_eq];exact List.le_total a b
theorem srt_perm(l:List Nm):(srt l).Perm l:=List.mergeSort_perm l _
theorem srt_sorted(l:List Nm):(srt l).Pairwise (·<=·):=by
 have:=List.pairwise_mergeSort (le:=fun x y:Nm=>decide (x<=y)) nm_trans nm_total l
 exact this.imp fun h=>by simpa using h
theorem nodup_of_neighbours:∀(s:List Nm),s.Pairwise (·<=·)->(∀j x,s[j]?=some x->s[j+1]?≠some x)->s.Nodup:=by
 intro s
 induction s with
 |nil=>intro _ _;exact List.nodup_nil
 |cons x r ih=>
  intro hs hn
  rw[List.pairwise_cons]at hs
  refine List.nodup_cons.2 ⟨fun hx=>?_,ih hs.2 fun j y hj=>hn (j+1) y (by simpa using hj)⟩
  cases r with
  |nil=>cases hx
  |cons y t=>
   have h0:=hn 0 x (by simp)
   have hxy:x<=y:=hs.1 y mem_cons_self
   have hyx:y<=x:=by
    rcases mem_cons.1 hx with rfl|h
    ·exact hxy
    ·exact(List.pairwise_cons.1 hs.2).1 x h
   have:x=y:=List.le_antisymm hxy hyx
   subst this
   exact h0 (by simp)
theorem neighbours_of_nodup{s:List Nm}(h:s.Nodup)(j:Nat)(x:Nm)(hj:s[j]?=some x):s[j+1]?≠some x:=fun h2=>by
 obtain⟨i1,e1⟩:=List.getElem?_eq_some_iff.1 hj
 obtain⟨i2,e2⟩:=List.getElem?_eq_some_iff.1 h2
 exact(List.pairwise_iff_getElem.1 h j (j+1) i1 i2 (lt_succ_self j)) (by rw[e1,e2])
theorem keeps_all_iff(s:List Nm):(∀j,j<s.length->Lib.keeps s.toArray j=true)↔∀j x,s[j]?=some x->s[j+1]?≠some x:=by
 constructor
 ·intro h j x hj h2
  obtain⟨i2,e2⟩:=List.getElem?_eq_some_iff.1 h2
  obtain⟨i1,e1⟩:=List.getElem?_eq_some_iff.1 hj
  have:=h (j+1) i2
  unfold Lib.keeps at this
  rw[decide_eq_true_eq]at this
  rcases this with h|h
  ·omega
  ·apply h
   rw[getElem!_pos _ _ (by simpa using i2),getElem!_pos _ _ (by simpa using i1)]
   simp[e1,e2]
 ·intro h j hj
  unfold Lib.keeps
  rw[decide_eq_true_eq]
  cases j with
  |zero=>exact inl rfl
  |succ j=>
   refine inr fun e=>?_
   have i1:j<s.length:=by omega
   rw[getElem!_pos _ _ (by simpa using hj),getElem!_pos _ _ (by simpa using i1)]at e
   simp at e
   exact h j s[j] (List.getElem?_eq_getElem i1) (by rw[List.getElem?_eq_getElem hj,e])
theorem compact_full(s:List Nm):(Lib.compact s).length=s.length↔∀j,j<s.length->Lib.keeps s.toArray j=true:=by
 constructor
 ·intro h j hj
  unfold Lib.compact Lib.compactUpTo at h
  rw[length_map]at h
  have h2:((List.range s.length).filter (Lib.keeps s.toArray)).length=(List.range s.length).length:=by rw[h,List.length_range]
  exact List.filter_eq_self.1 (List.Sublist.eq_of_length List.filter_sublist h2) j (List.mem_range.2 hj)
 ·intro h;rw[Lib.compact_all s h]
theorem twice_iff(l:List Nm):decide ((Lib.compact (srt l)).length<l.length)=hasTwice l:=by
 have hlen:(srt l).length=l.length:=(srt_perm l).length_eq
 have hle:=Lib.compact_length_le (srt l)
 unfold hasTwice
 by_cases hn:l.Nodup
 ·have hs:(srt l).Nodup:=(srt_perm l).nodup_iff.2 hn
  have:(Lib.compact (srt l)).length=(srt l).length:=(compact_full _).2 ((keeps_all_iff _).2 (neighbours_of_nodup hs))
  simp[hn];omega
 ·have hs:¬(srt l).Nodup:=fun h=>hn ((srt_perm l).nodup_iff.1 h)
  have:(Lib.compact (srt l)).length≠(srt l).length:=fun h=>hs (nodup_of_neighbours _ (srt_sorted l) ((keeps_all_iff _).1 ((compact_full _).1 h)))
  simp[hn];omega
section
variable {w w':World}
theorem twice_chain{l:List Nm}{a:Option Addr}{n c:Nat}(hl:l.length<=100000000)(hr:w.ownsRow 0 tyStr 1 (.slice a n c) l.length (l.map strV)) :
  n=l.length/\Calls prog 153 #[.slice a n c] w fun e u=>e=.returned (.func (.func 176) #[] #[.pointer (some ⟨w.heap.size,0,none⟩)]) /\
   Calls prog 152 #[.func (.func 176) #[] #[.pointer (some ⟨w.heap.size,0,none⟩)]] u fun e u2=>∃a2 c2,e=.returned (.slice a2 l.length c2) /\
    Calls prog 154 #[.slice a2 l.length c2] u2 fun e u3=>∃a3 n3 c3,e=.returned (.slice a3 n3 c3)/\n3<=100000000/\decide (n3<l.length)=hasTwice l/\Kn (fun _=>False) w u3:=by
 have hn:n=l.length:=by
  rcases ownsRow_forms hr with⟨h,h0⟩|⟨g,cap,h⟩
  ·cases h;exact h0.symm
  ·cases h;rfl
 refine⟨hn,(callsIn_wide.1 (values_in Fence.wide 0 trivial rfl a n c w)).mono ?_⟩
 rintro e u⟨rfl,rfl⟩
 have hrl:=hr.alloc (.cells #[.slice a n c] 22)
 refine⟨rfl,(sorted_any (Bs:=w.heap.size) hl (MapKept.heap_alloc w _).1 (VaAt.of_row hrl)).mono ?_⟩
 rintro e u2⟨a2,c2,rfl,hrow,hb⟩
 have hlen:(srt l).length=l.length:=(srt_perm l).length_eq
 have hk2:Kn (fun _=>False) w u2:=((Kn.refl _ w).alloc _).trans (Kn.of_below hb)
 refine⟨a2,c2,rfl,?_⟩
 have htw:=twice_iff l
 have hle:=Lib.compact_length_le (srt l)
 rcases hrow.2 with⟨h1,hz⟩|⟨gb,cap,cur,h1,hbase,hgb,r1,r2,r3,r4⟩
 ·have hl0:l=[]:=List.length_eq_zero_iff.1 hz
  subst hl0
  cases h1
  refine(Tryz.slices_Compact_string_empty none 0 u2).mono ?_
  rintro e u3⟨rfl,rfl⟩
  exact⟨none,0,0,rfl,by omega,by simp[hasTwice],hk2⟩
 ·cases h1
  rw[Nat.mul_one]at r4
  have hH:Go.Sort.Holds encStr u2 gb 0 (srt l).toArray:=holds_of_block hgb (by rw[hlen];exact r4)
  have hC:=Tryz.slices_Compact_string gb 0 c2 (srt l) u2 hH (by omega) (by omega)
  rw[hlen]at hC
  refine hC.mono ?_
  rintro e u3⟨rfl,q,rfl⟩
  refine⟨_,_,_,rfl,by omega,htw,hk2.trans' (D':=fun k=>k=gb) ⟨rfl,rfl,rfl,by simp,fun k hk hne=>?_⟩ fun k hk he=>?_⟩
  ·have hne:gb≠k:=fun e=>hne e.symm
   simp[Go.Sort.putRow,Go.Sort.mapBlock,Go.Sort.ahead,Array.getElem?_modify,hne]
  ·have:=(MapKept.heap_alloc w (.cells #[.slice a l.length c] 22)).1
   simp at hbase
   omega
theorem hasTwice_any{l:List Nm}{a:Option Addr}{n c:Nat}(hl:l.length<=100000000)(hr:w.ownsRow 0 tyStr 1 (.slice a n c) l.length (l.map strV)) :
  Calls prog 135 #[.slice a n c] w fun e w'=>e=.returned (.bool (hasTwice l))/\Kn (fun _=>False) w w':=by
 obtain⟨rfl,hch⟩:=twice_chain hl hr
 generalize hQ:(fun(e:Ending) (w':World)=>e=.returned (.bool (hasTwice l))/\Kn (fun _=>False) w w')=Q
 have hq:∀u,Kn (fun _=>False) w u->Q (.returned (.bool (hasTwice l))) u:=fun u hu=>by rw[<- hQ];exact⟨rfl,hu⟩
 have HQ:=hide hq
 have HCH:=hide hch
 clear hch hr hq hQ
 generalize Kn (fun _=>False) w=V at *
 generalize hasTwice l=b at *
 generalize l.length=n at *
 go_enter func135,ntmps135
 go_wp2_with fail
 refine(HCH.out).mono ?_;rintro e u⟨rfl,hs⟩
 have HS:=hide hs
 clear hs HCH
 go_wp2_with fail
 refine(HS.out).mono ?_;rintro e u2⟨a2,c2,rfl,hc⟩
 have HC:=hide hc
 clear hc HS
 go_wp2_with fail
 refine(HC.out).mono ?_;rintro e u3⟨a3,n3,c3,rfl,hn3,hb,hk⟩
 have HK:=hide (HQ.out _ hk)
 clear hk HC HQ
 go_wp2
 subst hb
 exact HK.out
end
end
section
open Go.RowKit Go.Shelf
section
attribute [local go_sem] Oper.semAt_some
variable {ad:List Nat}{ρ:Env}{tb lb:Nat}{s s':Lk}{w w':World}{nb:Nat}{txt:Nm}
def consS(ρ:Env)(l:List Nd)(s:Lk):Lk:=(l.filter (fun n=>n.k==14)).foldl (fun s n=>lkCon ρ n s) s
def varsS(l:List Nd):List Nm:=(l.filter (fun n=>n.k==3)).map Nd.txt
structure RlAt(ρ:Env)(tb lb:Nat)(s:Lk)(w wl:World){w0:World}(pre:List (NdIn w0))(W:World):Prop where
 fl:W.heap[lb]?=some (.cells #[.map (some tb),.bool (consS ρ (pre.map (·.1.1)) s).wn,.bool (consS ρ (pre.map (·.1.1)) s).wc] tyLook (0,0))
 kn:Kn (fun k=>k=lb) w W
 tr:TrK wl W
 b0:Boxed W w.heap.size tyLookP (ptrV lb)
 bx:∃v,Boxed W (w.heap.size+1) tyStrs v/\W.ownsRow (w.heap.size+1) tyStr 1 v (varsS (pre.map (·.1.1))).length ((varsS (pre.map (·.1.1))).map strV)
 sz:wl.heap.size<=W.heap.size
theorem RlAt.own{wl w0:World}{B:Nat}(hlb:lb<w.heap.size)(hB:w.heap.size+3<=B):OwnFrom B (RlAt ρ tb lb s w wl (w0:=w0)):=by
 rintro pre W W' row⟨h1,h2,h3,h4,⟨v,h5,h6⟩,h7⟩ hg hr
 have hc:∀(k:Nat)(c:Array Value)(t:TypeId)(f:Nat×Nat),W.heap[k]?=some (.cells c t f)->W'.heap[k]?=W.heap[k]?:=fun k c t f hk=>by
  refine hg.block k (lt_of_heap hk) fun e=>?_
  obtain⟨_,o,ho,hn⟩:=hr k e.symm
  rw[hk]at ho;cases ho;cases hn
 refine⟨(hc _ _ _ _ h1).trans h1,h2.grown hg fun k e=>inr (by have:=(hr k e).1;omega),h3.trans ⟨hg.size,fun k c t f _ hk=>hc k c t f hk⟩,(hc _ _ _ _ h4).trans h4,⟨v,(hc _ _ _ _ h5).trans h5,ownsRow_kept h6 fun q c f _ hk=>hc q c _ f hk⟩,le_trans h7 hg.size⟩
theorem consS_snoc(l:List Nd)(x:Nd):consS ρ (l++[x]) s=if x.k=14 then lkCon ρ x (consS ρ l s)else consS ρ l s:=by
 unfold consS
 rw[List.filter_append,List.foldl_append]
 by_cases h:x.k=14<;>simp[h]
theorem varsS_snoc(l:List Nd)(x:Nd):varsS (l++[x])=if x.k=3 then varsS l++[x.txt]else varsS l:=by
 unfold varsS
 rw[List.filter_append,map_append]
 by_cases h:x.k=3<;>simp[h]
theorem rl_round{wl W:World}{pre:List (NdIn wl)}(x:NdIn wl)(h:LkAt ad ρ tb lb s w)(hsz:wl.heap.size=w.heap.size+3)(hI:RlAt ρ tb lb s w wl pre W)(hlen:pre.length<=100000000) :
  ∃va vn vc,W.cell? ⟨w.heap.size,0,none⟩=some (ptrV lb)/\W.cell? ⟨w.heap.size+1,0,none⟩=some (.slice va vn vc)/\W.frozen? ⟨w.heap.size+1,0,none⟩=false/\W.cell? ⟨x.1.2,0,none⟩=some (.int .i64 x.1.1.k)/\W.cell? ⟨x.1.2,1,none⟩=some (.string (bs x.1.1.txt)) /\
  (x.1.1.k=3->∃g' n' c' w1,(Builtin.append_ #[22,22] 22 #[.slice va vn vc,.slice (some ⟨W.heap.size,0,none⟩) 1 1]).run prog (W.alloc (.cells #[.string (bs x.1.1.txt)] tyStr)).drew=.ok (.slice (some ⟨g',0,none⟩) n' c') w1/\w1.cell? ⟨w.heap.size+1,0,none⟩=some (.slice va vn vc)/\w1.frozen? ⟨w.heap.size+1,0,none⟩=false /\
   Hid (KeepsFrom wl.heap.size W (w1.setCell ⟨w.heap.size+1,0,none⟩ (.slice (some ⟨g',0,none⟩) n' c'))/\TrK W (w1.setCell ⟨w.heap.size+1,0,none⟩ (.slice (some ⟨g',0,none⟩) n' c'))/\RlAt ρ tb lb s w wl (pre++[x]) (w1.setCell ⟨w.heap.size+1,0,none⟩ (.slice (some ⟨g',0,none⟩) n' c')))) /\
  (x.1.1.k=14->Calls prog 139 #[ptrV lb,ptrV x.1.2] W fun e u'=>e=.returned (.tuple #[])/\KeepsFrom wl.heap.size W u'/\TrK W u'/\RlAt ρ tb lb s w wl (pre++[x]) u') /\
  (x.1.1.k≠3->x.1.1.k≠14->KeepsFrom wl.heap.size W W/\TrK W W/\RlAt ρ tb lb s w wl (pre++[x]) W):=by
 have hm:=x.2.1
 have hmk:x.1.1=.mk x.1.1.k x.1.1.txt x.1.1.ps:=by cases x.1.1;rfl
 have hx:=x.2.2
 obtain⟨hfl,hkn,htr,hb0,⟨v,hbx,hrow⟩,hs⟩:=hI
 have hmW:NMem W (.mk x.1.1.k x.1.1.txt x.1.1.ps) x.1.2:=by
  have:=htr.tree hm
  rw[hmk]at this;exact this
 obtain⟨pv,bl,n1,_,_⟩:=hmW.inv
 have hlbl:lb<w.heap.size:=lt_of_heap h.lk
 have hlk:=h.of_lb hkn hfl
 obtain⟨va,vn,vc,rfl⟩:∃a n c,v=.slice a n c:=by
  rcases ownsRow_forms hrow with⟨rfl,_⟩|⟨g,cap,rfl⟩
  ·exact⟨_,_,_,rfl⟩
  ·exact⟨_,_,_,rfl⟩
 refine⟨va,vn,vc,hb0.cell,hbx.cell,hbx.frozen,by simp[World.cell?,n1],by simp[World.cell?,n1],?_,?_,?_⟩
 ·intro hk
  have hvl:(varsS (pre.map (·.1.1))).length<=100000000:=by
   unfold varsS
   rw[length_map]
   exact le_trans (List.length_filter_le _ _) (by rw[length_map];exact hlen)
  have hrd:W.drew.ownsRow (w.heap.size+1) tyStr 1 (.slice va vn vc) (varsS (pre.map (·.1.1))).length ((varsS (pre.map (·.1.1))).map strV):=hrow
  have hvd:Boxed W.drew (w.heap.size+1) tyStrs (.slice va vn vc):=hbx
  have hsW:w.heap.size+1<=W.drew.heap.size:=by have:W.drew.heap.size=W.heap.size:=rfl;omega
  obtain⟨v',w1,hrun,hown',hgrow⟩:=run_append_st (ty:=22) x.1.1.txt hrd hvl hsW
  rw[length_append]at hown'
  obtain⟨g',c',rfl⟩:=ownsRow_succ hown'
  obtain⟨hv1,hv2,hr2,hk2,hb2⟩:=hvd.appended (by decide) hrd hsW (le_refl _) hown' hgrow
  have htr2:TrK W (w1.setCell ⟨w.heap.size+1,0,none⟩ (.slice (some ⟨g',0,none⟩) ((varsS (pre.map (·.1.1))).length+[x.1.1.txt].length) c')):=by
   refine⟨hk2.size,fun k c t f ht hc=>?_⟩
   rw[Below.heap_setCell _ _ _ _ (fun e=>by
    have hc2:=hc
    rw[e,show W.heap[w.heap.size+1]?=_ from hbx]at hc2
    rcases ht with rfl|rfl<;>exact absurd (cells_ty hc2) (by decide))]
   have hk:k<(W.drew.alloc (.cells #[.string (bs x.1.1.txt)] tyStr)).heap.size:=by
    have:=lt_of_heap hc
    have:W.drew.heap.size=W.heap.size:=rfl
    simp;omega
   rw[hgrow.block k hk fun e=>?_]
   ·exact Below.heap_alloc W.drew _ k (lt_of_heap hc)
   ·rcases hrow.2 with⟨h1,_⟩|⟨g,cap,cur,h1,_,hgb,_⟩
    ·cases h1;simp[Value.ownBlock]at e
    ·cases h1
     obtain rfl:k=g:=by simpa [Value.ownBlock]using e
     rw[hc]at hgb
     rcases ht with rfl|rfl<;>exact absurd (cells_ty hgb) (by decide)
  have hkl:∀k,k<w.heap.size+1->(w1.setCell ⟨w.heap.size+1,0,none⟩ (.slice (some ⟨g',0,none⟩) ((varsS (pre.map (·.1.1))).length+[x.1.1.txt].length) c')).heap[k]?=W.heap[k]?:=fun k hk=>hb2.block k hk
  refine⟨g',_,c',w1,hrun,hv1.cell,hv1.frozen,hide ⟨⟨hk2.size,fun k o hB hk ho=>hk2.same k o hk ho⟩,htr2,?_,⟨hb2.os.trans hkn.os,hb2.tape.trans hkn.tape,hb2.output.trans hkn.output,le_trans hkn.size hk2.size,fun k hk hne=>(hkl k (by omega)).trans (hkn.block k hk hne)⟩,htr.trans htr2,(hkl _ (by omega)).trans hb0,⟨_,hv2,?_⟩,le_trans hs hk2.size⟩⟩
  ·rw[map_append,map_cons,List.map_nil,consS_snoc,if_neg (by omega)]
   exact(hkl lb (by omega)).trans hfl
  ·rw[map_append,map_cons,List.map_nil,varsS_snoc,if_pos hk,length_append]
   exact hr2
 ·intro hk
  refine(conLook_lb hx hlk hmW).mono ?_
  rintro e u2⟨rfl,q1,q2⟩
  have hc:∀(k:Nat)(c:Array Value)(t:TypeId)(f:Nat×Nat),t≠tyLook->W.heap[k]?=some (.cells c t f)->u2.heap[k]?=W.heap[k]?:=fun k c t f ht hc=>q2.block k (lt_of_heap hc) fun e=>hlk.not hc ht (inr e)
  have ht2:TrK W u2:=⟨q2.size,fun k c t f ht hk=>hc k c t f (by rcases ht with rfl|rfl<;>decide) hk⟩
  refine⟨rfl,⟨q2.size,fun k o hB hk _=>by rw[q2.block k (Array.getElem?_eq_some_iff.1 hk).1 (by omega)];exact hk⟩,ht2,?_,hkn.trans q2,htr.trans ht2,(hc _ _ _ _ (by decide) hb0).trans hb0,⟨_,(hc _ _ _ _ (by decide) hbx).trans hbx,?_⟩,le_trans hs q2.size⟩
  ·have:=q1.lk
   rw[map_append,map_cons,List.map_nil,consS_snoc,if_pos hk]
   rw[<- hmk]at this;exact this
  ·rw[map_append,map_cons,List.map_nil,varsS_snoc,if_neg (by omega)]
   exact ownsRow_kept hrow fun q c f _ hk=>hc q c _ f (by decide) hk
 ·intro h1 h2
  refine⟨KeepsFrom.refl _ _,TrK.refl _,?_,hkn,htr,hb0,⟨_,hbx,?_⟩,hs⟩
  ·rw[map_append,map_cons,List.map_nil,consS_snoc,if_neg h2];exact hfl
  ·rw[map_append,map_cons,List.map_nil,varsS_snoc,if_neg h1];exact hrow
theorem rl_chain{p:Nd}{wl W:World}{xs:List (NdIn wl)}{g cap ba bb D:Nat}(h:LkAt ad ρ tb lb s w)(hp:PtAt nb 16 txt g cap [ba,bb] w)(hsz:wl.heap.size=w.heap.size+3)(hxs:xs.map (·.1.1)=p.all)(hx:∀x∈p.all,x.txt.length<=100000000)(hpl:p.all.length<=100000000)
  (hE:∀u,Kn (fun k=>k=tb\/k=lb) w u->LkAt ad (bindAll ρ (varsOf p) Mg.zero) tb lb ((consS ρ p.all s).name (hasTwice (varsOf p))) u->Calls prog 115 #[ptrV lb,ptrV bb] u (LkA ad (bindAll ρ (varsOf p) Mg.zero) tb lb s' u))
  (hI:RlAt ρ tb lb s w wl xs W) (hD:wl.heap.size<=D) (hK:W.heap[D]?=some (.deferred (some []))) :
  ∃va vn vc,(∀u,Kn (fun _=>False) W u->u.cell? ⟨w.heap.size,0,none⟩=some (ptrV lb)/\u.cell? ⟨w.heap.size+1,0,none⟩=some (.slice va vn vc) /\
   Calls prog 135 #[.slice va vn vc] u fun e u2=>∃b,e=.returned (.bool b)/\(u2.cell? ⟨w.heap.size,0,none⟩=some (ptrV lb)/\u2.cell? ⟨w.heap.size+1,0,none⟩=some (.slice va vn vc)) /\
    Calls prog 133 #[ptrV lb,.bool b] u2 fun e u3=>e=.returned (.tuple #[])/\(u3.cell? ⟨w.heap.size,0,none⟩=some (ptrV lb)/\u3.cell? ⟨w.heap.size+1,0,none⟩=some (.slice va vn vc)) /\
     ∀u4,Kn (fun _=>False) u3 u4->(u4.cell? ⟨w.heap.size,0,none⟩=some (ptrV lb)/\u4.cell? ⟨w.heap.size+1,0,none⟩=some (.slice va vn vc)/\u4.cell? ⟨nb,2,none⟩=some (.slice (some ⟨g,0,none⟩) 2 cap)/\u4.cell? ⟨g,1,none⟩=some (ptrV bb)) /\
      Calls prog 114 #[ptrV lb,ptrV bb,.slice va vn vc] u4 fun e u5=>e=.returned (.tuple #[])/\(u5.cell? ⟨w.heap.size,0,none⟩=some (ptrV lb)/\u5.cell? ⟨w.heap.size+1,0,none⟩=some (.slice va vn vc)/\u5.cell? ⟨nb,2,none⟩=some (.slice (some ⟨g,0,none⟩) 2 cap)/\u5.cell? ⟨g,1,none⟩=some (ptrV bb))/\u5.heap[D]?=some (.deferred (some []))/\LkA ad ρ tb lb s' w (.returned (.tuple #[])) (u5.putObj D (.deferred none))):=by
 obtain⟨hfl,hkn,htr,hb0,⟨v,hbx,hrow⟩,hs⟩:=hI
 rw[hxs]at hfl hrow
 have hvs:varsS p.all=varsOf p:=rfl
 rw[hvs]at hrow
 have hlk:=h.of_lb hkn hfl
 have hlbl:lb<w.heap.size:=lt_of_heap h.lk
 obtain⟨_,_,hmp,_⟩:=id h.tab
 have htbl:tb<w.heap.size:=hmp.lt
 obtain⟨va,vn,vc,rfl⟩:∃a n c,v=.slice a n c:=by
  rcases ownsRow_forms hrow with⟨rfl,_⟩|⟨g,cap,rfl⟩
  ·exact⟨_,_,_,rfl⟩
  ·exact⟨_,_,_,rfl⟩
 have hvl:(varsOf p).length<=100000000:=by
  unfold varsOf
  rw[length_map]
  exact le_trans (List.length_filter_le _ _) hpl
 have hok:∀x∈varsOf p,okK (0,x):=fun x hm=>by
  obtain⟨y,hy,rfl⟩:=List.mem_map.1 hm
  exact⟨show 0<3 by decide,hx y (List.mem_filter.1 hy).1⟩
 have hr0:W.ownsRow 0 tyStr 1 (.slice va vn vc) (varsOf p).length ((varsOf p).map strV):=ownsRow_base hrow (zero_le _)
 have hcl:∀u,Kn (fun k=>k=tb\/k=lb) W u->(u.cell? ⟨w.heap.size,0,none⟩=some (ptrV lb)/\u.cell? ⟨w.heap.size+1,0,none⟩=some (.slice va vn vc)):=fun u hu=>⟨hu.cell (hlk.not hb0 (by decide)) hb0.cell,hu.cell (hlk.not hbx (by decide)) hbx.cell⟩
 have hcl2:∀u,Kn (fun k=>k=tb\/k=lb) W u->(u.cell? ⟨w.heap.size,0,none⟩=some (ptrV lb)/\u.cell? ⟨w.heap.size+1,0,none⟩=some (.slice va vn vc)/\u.cell? ⟨nb,2,none⟩=some (.slice (some ⟨g,0,none⟩) 2 cap)/\u.cell? ⟨g,1,none⟩=some (ptrV bb)):=fun u hu=>by
  obtain⟨_,_,c2,c3⟩:=(h.pt ((hkn.wide fun _ _ e=>inr e).trans hu) hp).cells
  exact⟨(hcl u hu).1,(hcl u hu).2,c2,c3 1 bb rfl⟩
 refine⟨va,vn,vc,fun u hu=>⟨(hcl u (hu.wide fun _ _ h=>h.elim)).1,(hcl u (hu.wide fun _ _ h=>h.elim)).2,?_⟩⟩
 have hru:u.ownsRow 0 tyStr 1 (.slice va vn vc) (varsOf p).length ((varsOf p).map strV):=ownsRow_kept hr0 fun q c f _ hc=>hu.block q (lt_of_heap hc) id
 refine(hasTwice_any hvl hru).mono ?_
 rintro e u2⟨rfl,hk2⟩
 have hW2:Kn (fun k=>k=tb\/k=lb) W u2:=(hu.trans hk2).wide fun _ _ h=>h.elim
 refine⟨_,rfl,hcl u2 hW2,(refuseName_any _ ((hlk.stays hu).stays hk2)).mono ?_⟩
 rintro e u3⟨rfl,q1,q2⟩
 have hW3:=hW2.trans q2
 refine⟨rfl,hcl u3 hW3,fun u4 hu4=>⟨hcl2 u4 (hW3.trans (hu4.wide fun _ _ h=>h.elim)),?_⟩⟩
 have hW4:Kn (fun k=>k=tb\/k=lb) W u4:=hW3.trans (hu4.wide fun _ _ h=>h.elim)
 have hw4:Kn (fun k=>k=tb\/k=lb) w u4:=(hkn.wide fun _ _ e=>inr e).trans hW4
 have hr4:u4.ownsRow 0 tyStr 1 (.slice va vn vc) (varsOf p).length ((varsOf p).map strV):=ownsRow_kept hr0 fun q c f _ hc=>hW4.block q (lt_of_heap hc) (hlk.not hc (by decide))
 refine(withinLook_of (s':=s') hr4 hok (q1.stays hu4) fun u hk hl=>hE u (hw4.trans hk) hl).mono ?_
 rintro e u5⟨rfl,r1,r2⟩
 have hW5:=hW4.trans r2
 have hD5:u5.heap[D]?=some (.deferred (some [])):=by
  rw[hW5.block D (Array.getElem?_eq_some_iff.1 hK).1 (by rintro (e|e)<;>omega)];exact hK
 refine⟨rfl,hcl2 u5 hW5,hD5,rfl,r1.grown (grownBy_putObj' u5 D _) fun r e=>?_,(hw4.trans r2).grown (grownBy_putObj' u5 D _) fun k e=>inr ?_⟩
 ·cases e;exact⟨by omega,_,hD5,rfl⟩
 ·cases e;omega
def appS(ts:Array TypeId)(ty:TypeId)(args:Array Value):Sem Value:=Builtin.append_ ts ty args
theorem appS_of(ts:Array TypeId)(ty:TypeId)(args:Array Value):Builtin.append_ ts ty args=appS ts ty args:=rfl
attribute [local go_sem ↓] appS_of
theorem rowLook_of{p:Nd}{g cap ba bb:Nat}(h:LkAt ad ρ tb lb s w)(hp:PtAt nb 16 txt g cap [ba,bb] w)(hm:NMem w p ba)(hx:∀x∈p.all,x.txt.length<=100000000)(hpl:p.all.length<=100000000)
  (hE:∀u,Kn (fun k=>k=tb\/k=lb) w u->LkAt ad (bindAll ρ (varsOf p) Mg.zero) tb lb ((consS ρ p.all s).name (hasTwice (varsOf p))) u->Calls prog 115 #[ptrV lb,ptrV bb] u (LkA ad (bindAll ρ (varsOf p) Mg.zero) tb lb s' u)) :
  Calls prog 138 #[ptrV lb,ptrV nb] w (LkA ad ρ tb lb s' w):=by
 obtain⟨wl,hwl⟩:∃wl,wl=((w.alloc (.cells #[ptrV lb] tyLookP)).alloc (.cells #[.slice none 0 0] tyStrs)).alloc (.cells #[ptrV ba] tyTreeP):=⟨_,rfl⟩
 have hkl:Kn (fun _=>False) w wl:=by rw[hwl];exact(((Kn.refl _ w).alloc _).alloc _).alloc _
 have hsz:wl.heap.size=w.heap.size+3:=by rw[hwl];simp
 have hlbl:lb<w.heap.size:=lt_of_heap h.lk
 have b0:wl.heap[w.heap.size]?=some (.cells #[ptrV lb] tyLookP (0,0)):=by
  rw[hwl,Below.heap_alloc _ _ _ (by simp;omega),Below.heap_alloc _ _ _ (by simp)];exact(MapKept.heap_alloc w _).1
 have b1:wl.heap[w.heap.size+1]?=some (.cells #[.slice none 0 0] tyStrs (0,0)):=by
  rw[hwl,Below.heap_alloc _ _ _ (by simp)]
  have:=(MapKept.heap_alloc (w.alloc (.cells #[ptrV lb] tyLookP)) (.cells #[.slice none 0 0] tyStrs)).1
  simpa using this
 have b2:wl.heap[w.heap.size+2]?=some (.cells #[ptrV ba] tyTreeP (0,0)):=by
  rw[hwl]
  have:=(MapKept.heap_alloc ((w.alloc (.cells #[ptrV lb] tyLookP)).alloc (.cells #[.slice none 0 0] tyStrs)) (.cells #[ptrV ba] tyTreeP)).1
  simpa using this
 have hnl:NMem wl p ba:=NMem.kept (fun k c f hc=>hkl.block k (lt_of_heap hc) id) (fun k c f hc=>hkl.block k (lt_of_heap hc) id) _ ba hm
 have hst:=all_stops Fence.wide rfl (5-1) trivial trivial rfl (w.heap.size+2) p ba wl hnl hx b2
 have hI0:RlAt ρ tb lb s w wl (w0:=wl) [] wl:=⟨(h.stays hkl).lk,hkl.wide fun _ _ h=>h.elim,TrK.refl _,b0,⟨_,b1,World.ownsRow_nil _ _ _ _⟩,le_refl _⟩
 have hown:OwnFrom wl.heap.size (RlAt ρ tb lb s w wl (w0:=wl)):=RlAt.own hlbl (by omega)
 have hcells:∀o1 o2,((w.alloc o1).alloc o2).cell? ⟨nb,2,none⟩=some (.slice (some ⟨g,0,none⟩) 2 cap)/\((w.alloc o1).alloc o2).cell? ⟨g,0,none⟩=some (ptrV ba):=fun o1 o2=>by
  obtain⟨_,_,c2,c3⟩:=hp.cells
  exact⟨(((Kn.refl (fun _=>False) w).alloc o1).alloc o2).cell id c2,(((Kn.refl (fun _=>False) w).alloc o1).alloc o2).cell id (c3 0 ba rfl)⟩
 obtain⟨c2,c3⟩:=hcells (.cells #[ptrV lb] tyLookP) (.cells #[.slice none 0 0] tyStrs)
 have HRD:=hide (fun(pre:List (NdIn wl)) (x:NdIn wl) (W:World) (hI:RlAt ρ tb lb s w wl pre W) (hlen:pre.length<=100000000)=>rl_round x h hsz hI hlen)
 have HEND:=hide (fun(xs:List (NdIn wl)) (W:World) (D:Nat) (hxs:xs.map (·.1.1)=p.all) (hI:RlAt ρ tb lb s w wl xs W) (hD:wl.heap.size<=D) (hK:W.heap[D]?=some (.deferred (some [])))=>rl_chain (s':=s') h hp hsz hxs hx hpl hE hI hD hK)
 have HST:=hide hst
 have HI0:=hide hI0
 have HOWN:=hide hown
 clear hst hI0 hown hE b0 b1 b2 hx hm hp h hcells hkl hnl
 generalize LkA ad ρ tb lb s' w=Q at *
 refine(callsIn_wide (n:=5)).1 ?_
 refine callsIn_of_wp_marks func138 rfl trivial ?_ rfl
 simp only[ntmps138,List.size_toArray,length_cons,length_nil,Nat.reduceAdd,Nat.reduceSub,Array.replicate_succ,Array.replicate_zero,List.push_toArray,List.append_toArray,nil_append,cons_append]
 unfold ptrV at *
 gi_wp2_with (refine⟨trivial,?_⟩;gi_at_call 156;refine(all_in Fence.wide _ trivial rfl _ _).mono ?_;rintro e w'⟨rfl,rfl⟩)
 unfold ptrV
 rw[<- hwl]
 have hnl:∀(W:World)(l:Nat)(o o':Obj),wl.heap.size<=l->W.heap[l]?=some o->o.isCells=false->o.isWalk=false->TrK W (W.putObj l o'):=fun W l o o' _ hl hc _=>TrK.putObj o' hl hc
 refine wpIn_rangeFunc_ownG rfl (by omega) (gf:=177) (lb:=#[.pointer (some ⟨w.heap.size+2,0,none⟩)]) ?hg trivial (enters_of func177 (by kernel_rfl) rfl)
  HST.out TrK.trans hnl (Below.refl _ _) (fun _=>rfl) (RlAt ρ tb lb s w wl) (fun _ _ _=>False) HOWN.out (fun _ _ _ _ _ hs _ _=>hs) HI0.out
  (fun x=>{ tmps:=#[.pointer (some ⟨lb,0,none⟩),.pointer (some ⟨nb,0,none⟩),.pointer (some ⟨w.heap.size,0,none⟩),undef,.pointer (some ⟨w.heap.size+1,0,none⟩),.pointer (some ⟨x.1.2,0,none⟩),.pointer (some ⟨nb,0,none⟩),.pointer (some ⟨nb,0,none⟩),.pointer (some ⟨nb,2,none⟩),.slice (some ⟨g,0,none⟩) 2 cap,.pointer (some ⟨g,0,none⟩),.pointer (some ⟨ba,0,none⟩),.func (.func 177) #[] #[.pointer (some ⟨w.heap.size+2,0,none⟩)],.pointer (some ⟨x.1.2,0,none⟩),undef,undef,undef,undef,undef,undef,undef,undef,undef,undef,undef,undef,undef,undef,undef,undef,undef,undef,undef,undef,undef,undef,undef,undef,undef,undef,undef,undef,undef,undef,undef],defers:=[] }) ?assign ?body ?done ?stop
 case hg=>simp[go_sem,Act.eval]
 case assign=>
  intro lr x W K hK
  unfold encT ptrV
  gi_wp2
  exact hK
 case body=>
  intro lr pre x W hI hlen
  obtain⟨va,vn,vc,d1,d2,d3,d4,d5,h3,h14,hno⟩:=HRD.out pre x W hI (by omega)
  have H3:=hide h3
  have H14:=hide h14
  have HNO:=hide hno
  clear h3 h14 hno hI HST HI0 HOWN HRD HEND hnl
  generalize RlAt ρ tb lb s w wl (w0:=wl)=I at *
  generalize bs x.1.1.txt=tx at *
  generalize x.1.1.k=k at *
  by_cases hk:k=3
  ·subst hk
   obtain⟨g',n',c',w1,hrun,f1,f2,HG⟩:=H3.out rfl
   rw[appS_of]at hrun
   clear H3 H14 HNO
   have e2:W.drew.cell? ⟨w.heap.size+1,0,none⟩=some (.slice va vn vc):=d2
   have e5:W.drew.cell? ⟨x.1.2,1,none⟩=some (.string tx):=d5
   have e6:(W.alloc (.cells #[.string tx] tyStr)).cell? ⟨w.heap.size+1,0,none⟩=some (.slice va vn vc):=((Kn.refl (fun _=>False) W).alloc _).cell id d2
   gi_wp2_with fail
   gi_region_with fail
   all_goals
    gi_wp2
    exact HG.out
  ·by_cases hk2:k=14
   ·subst hk2
    have HS:=hide (H14.out rfl)
    have e1:((14:Int)==3)=false:=by decide
    clear H3 H14 HNO
    unfold ptrV at *
    gi_wp2_with (refine⟨trivial,?_⟩;gi_at_call 139;refine(CallsIn.inRound lr (callsIn_wide.2 HS.out)).mono ?_;clear HS;rintro e u3⟨rfl,hq⟩;have HQ:=hide hq;clear hq)
    exact HQ.out
   ·have e1:((k:Int)==3)=false:=by simp only[beq_eq_false_iff_ne,ne_eq];omega
    have e2:((k:Int)==14)=false:=by simp only[beq_eq_false_iff_ne,ne_eq];omega
    have HG:=hide (HNO.out hk hk2)
    clear HNO H3 H14
    gi_wp2
    exact HG.out
 case done=>
  intro D xs W hD hxs hI hK
  obtain⟨va,vn,vc,hc⟩:=HEND.out xs W D hxs hI hD hK
  have HC:=hide hc
  clear hI hc HEND HST HI0 HOWN HRD
  have HDW:=hide Kn.drewF
  have hfin:∀(tmps:Array Value)(u5:World),u5.heap[D]?=some (.deferred (some []))->Q (.returned (.tuple #[])) (u5.putObj D (.deferred none))->bodyPostM Fence.wide 5 prog f138 Q .normal { tmps:=tmps,defers:=[{ target:=.collected D,args:=#[] }] } u5:=fun tmps u5 hK hq=>by
   refine⟨by simp,.inl ⟨_,_,rfl,run_takeDeferred hK,?_⟩⟩
   exact⟨.tuple #[],by simp[results,results138,go_sem],hq⟩
  have HFIN:=hide hfin
  clear hfin
  generalize bodyPostM Fence.wide 5 prog f138 Q=Q2 at *
  unfold ptrV at *
  obtain⟨d1,d2,hh⟩:=HC.out _ (HDW.out W)
  have HH:=hide hh
  clear hh HC hK
  gi_wp2_with fail
  gi_region_with (first|(refine⟨trivial,?_⟩;gi_at_call 135;refine(callsIn_wide.2 HH.out).mono ?_;clear HH;rintro e u2⟨b,rfl,⟨d1,d2⟩,hrf⟩;have HRF:=hide hrf;clear hrf)|(refine⟨trivial,?_⟩;gi_at_call 133;refine(callsIn_wide.2 HRF.out).mono ?_;clear HRF;rintro e u3⟨rfl,⟨d1,d2⟩,hq⟩;have HQ:=hide hq;clear hq))
  all_goals
   have hz:=HQ.out _ (HDW.out u3)
   clear HQ
   obtain⟨⟨d1,d2,d3,d4⟩,hw⟩:=hz
   have HW:=hide hw
   clear hw
   gi_wp2_with fail
   refine wpIn_mono (Q:=Exit.then (Q2 .normal) (fun _ _ _=>False)) ?_ (fun e a u h=>by cases e<;>first|exact h|exact h.elim)
   gi_region_with (first|(refine⟨trivial,?_⟩;gi_at_call 114;refine(callsIn_wide.2 HW.out).mono ?_;clear HW;rintro e u5⟨rfl,⟨d1,d2,d3,d4⟩,hK,hq⟩;have HQ:=hide hq;clear hq))
   all_goals
    first
    |exact HFIN.out _ _ hK HQ.out
    |(gi_wp2;exact HFIN.out _ _ hK HQ.out)
 case stop=>
  intro D c pre W _ _ h _
  exact h.elim
end
end
end Go.Proofs.YtcbppnefeonmgaaGreatDoor
