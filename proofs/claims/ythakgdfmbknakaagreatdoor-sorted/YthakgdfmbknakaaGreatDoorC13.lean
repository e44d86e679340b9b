import Derived.Test.YthakgdfmbknakaaGreatDoorC12
set_option linter.all false
set_option maxHeartbeats 40000000
set_option maxRecDepth 100000
open Go.Proofs.Tryz
open Or (inl inr)
open Option (map_eq_some_iff)
open Nat (le_refl le_trans zero_le lt_of_lt_of_le lt_succ_self)
open List (append_nil length_append length_cons mem_cons_self mem_cons_of_mem mem_append mem_singleton append_assoc cons_append length_nil map_append length_map map_cons nil_append)
namespace Go.Proofs.YthakgdfmbknakaaGreatDoor
open World (cell? setCell shape?)
open Value (ownBlock)
open _root_.Array (getElem?_modify replicate_succ replicate_zero)
open Result (andThen)
open Lib (cell_of_heap)
open List (append_toArray getElem?_eq_getElem getElem?_map idxOf?_cons length_take push_toArray size_toArray)
open IntKind (signed wrap)
section
open Go.RowKit Go.Shelf
abbrev cU:TypeId:=71
def Tryz.CF:liesAt prog prog.depth cU (3 / prog.cellsOf cU) 0 LC 1=true:=by kernel_rfl
def cC(B b:Nat)(p:Value)(mb:Nat)(l:List Value)(w:World):Prop:=
 B<=b/\∃v,w.heap[b]?=some (.cells #[p,v,.map (some mb)] cU (0,0))/\w.ownsRow B fU 1 v l.length l/\v.ownBlock≠some b
def qV(B b mb:Nat)(l:List Value)(w:World):Prop:=cC B b (.pointer none) mb l w\/cC B b (.pointer (some ⟨b,0,none⟩)) mb l w
structure Fw(B b:Nat)(w w':World):Prop where
 os:w'.os=w.os
 tape:w'.tape=w.tape
 output:w'.output=w.output
 size:w.heap.size<=w'.heap.size
 block:∀k,k<w.heap.size->k≠b->(k<B\/∀c f,w.heap[k]?≠some (.cells c fU f))->w'.heap[k]?=w.heap[k]?
def Fw.refl(B b:Nat)(w:World):Fw B b w w:=⟨rfl,rfl,rfl,le_refl _,fun _ _ _ _=>rfl⟩
def Fw.trans{B b:Nat}{u v w:World}(h:Fw B b u v)(k:Fw B b v w):Fw B b u w:=
 ⟨k.os.trans h.os,k.tape.trans h.tape,k.output.trans h.output,le_trans h.size k.size,fun i hi hb hc=>by
  have e1:=h.block i hi hb hc
  rw[k.block i (lt_of_lt_of_le hi h.size) hb (hc.imp id fun h c f=>by rw[e1];exact h c f),e1]⟩
def Fw.alloc{B b:Nat}{u w:World}(h:Fw B b u w)(o:Obj):Fw B b u (w.alloc o):=
 h.trans ⟨rfl,rfl,rfl,by simp,fun k hk _ _=>Below.heap_alloc _ _ _ hk⟩
def Fw.set{B b:Nat}{u w:World}(h:Fw B b u w)(o:Nat)(v:Value):Fw B b u (w.setCell ⟨b,o,none⟩ v):=
 h.trans ⟨rfl,rfl,rfl,by simp[setCell],fun k _ hb _=>Below.heap_setCell _ _ _ _ (fun e=>hb (by simp[e]))⟩
def Fw.drew{B b:Nat}{u w:World}(h:Fw B b u w):Fw B b u w.drew:=h.trans ⟨rfl,rfl,rfl,le_refl _,fun _ _ _ _=>rfl⟩
def Fw.grown{b B n:Nat}{u w w':World}{v:Value}{xs:List Value}(h:Fw B b u w)(Jr:w.ownsRow B fU 1 v n xs)(hg:w.grownBy w' v.ownBlock):Fw B b u w':=
 h.trans ⟨hg.os,hg.tape,hg.output,hg.size,fun k hk _ hc=>hg.block k hk (fun e=>by
  rcases Jr.2 with⟨rfl,_⟩|⟨g,cap,cur,rfl,Wo,K0,_⟩
  ·simp[ownBlock]at e
  ·simp only[ownBlock,Option.some.injEq]at e;subst e;rcases hc with hc|hc
   ·omega
   ·exact hc _ _ K0)⟩
def Fw.freeze{b B g:Nat}{u w:World}{cur:Array Value}{f:Nat×Nat}(h:Fw B b u w)(hB:B<=g)(hg:w.heap[g]?=some (.cells cur fU f))(n:Nat):Fw B b u (w.freeze ⟨g,0,none⟩ n):=by
 refine h.trans ?_;unfold World.freeze
 split
 ·exact Fw.refl B b w
 ·exact⟨rfl,rfl,rfl,by simp,fun k hk _ hc=>by
   simp only[getElem?_modify];rw[if_neg];rintro rfl;rcases hc with hc|hc
   ·omega
   ·exact hc _ _ hg⟩
section
variable {B b mb:Nat}{p:Value}{l:List Value}{w w':World}
def cC.cell0(h:cC B b p mb l w):w.cell? ⟨b,0,none⟩=some p:=by
 obtain⟨_,v,hb,_⟩:=h;simp[cell?,hb]
def cC.shape(h:cC B b p mb l w):w.shape? b=some (cU,3):=by
 obtain⟨_,v,hb,_⟩:=h;simp[shape?,hb]
def cC.frozen0(h:cC B b p mb l w):w.frozen? ⟨b,0,none⟩=false:=by
 obtain⟨_,v,hb,_⟩:=h;simp[World.frozen?,hb]
def cC.used(h:cC B b p mb l w)(q:Value):cC B b q mb l (w.setCell ⟨b,0,none⟩ q):=by
 obtain⟨hB,v,hb,Jr,Ju⟩:=h;refine⟨hB,v,?_,?_,Ju⟩
 ·simp[setCell,getElem?_modify,hb]
 ·refine Jr.kept (row:=some b) ⟨rfl,rfl,rfl,by simp[setCell],fun k _ hk=>Below.heap_setCell _ _ _ _ (fun e=>hk (by simp[e]))⟩ ?_;exact inr Ju
def cC.put{v v':Value}{l':List Value}(hB:B<=b)(hb:w.heap[b]?=some (.cells #[p,v,.map (some mb)] cU (0,0)))(Jr:w.ownsRow B fU 1 v' l'.length l') :
  cC B b p mb l' (w.setCell ⟨b,1,none⟩ v'):=by
 have Ju:=Lib.ownBlock_ne Jr hb (by decide);refine⟨hB,v',?_,?_,Ju⟩
 ·simp[setCell,getElem?_modify,hb]
 ·exact Jr.kept (row:=some b) ⟨rfl,rfl,rfl,by simp[setCell],fun k _ hk=>Below.heap_setCell _ _ _ _ (fun e=>hk (by simp[e]))⟩ (inr Ju)
def uO(h0:w.cell? ⟨b,0,none⟩=some (.pointer none))(Yf:w.shape? b=some (cU,3))(hfz:w.frozen? ⟨b,0,none⟩=false) :
  Calls prog 78 #[.pointer (some ⟨b,0,none⟩)] w fun e w'=>e=.returned (.tuple #[])/\w'=w.setCell ⟨b,0,none⟩ (.pointer (some ⟨b,0,none⟩)):=by
 obtain⟨j,hj,hjs⟩:=map_eq_some_iff.1 Tryz.BQ;go_enter func78,ntmps78;go_wp2;rw[Lib.run_to_unsafe w ⟨b,0,none⟩ underlying66 underlying193 hj (by rw[hjs];decide) Yf (Nat.zero_lt_succ 2)];simp only[andThen];rw[Oper.upon_value];go_wp2;rw[run_callFunc_extern func119 (by kernel_rfl) (by kernel_rfl) (by kernel_rfl) (e:=Extern.AbiNoEscape.same) (by kernel_rfl)];rw[Lib.run_noEscape];simp only[andThen];rw[Oper.upon_value];go_wp2;rw[Lib.run_from_unsafe w ⟨b,0,none⟩ underlying193 underlying66 hj Yf Tryz.CF];simp only[andThen];rw[Oper.upon_value];go_wp2;go_end0;exact⟨rfl,rfl⟩
def qI(h:qV B b mb l w) :
  Calls prog 78 #[.pointer (some ⟨b,0,none⟩)] w fun e w'=>e=.returned (.tuple #[])/\(cC B b (.pointer (some ⟨b,0,none⟩)) mb l w'/\Fw B b w w'):=by
 rcases h with h|h
 ·refine(uO h.cell0 h.shape h.frozen0).mono ?_;rintro e w'⟨rfl,rfl⟩;exact⟨rfl,h.used _,(Fw.refl B b w).set 0 _⟩
 ·refine(JI b w h.cell0).mono ?_;rintro e w'⟨rfl,rfl⟩;exact⟨rfl,h,Fw.refl B b _⟩
def yF(c:Int)(h:qV B b mb l w)(Jm:l.length+1<=140737488355328)(hBw:B<=w.heap.size) :
  Calls prog 50 #[.pointer (some ⟨b,0,none⟩),.int .u8 c] w fun e w'=>e=.returned .nilIface/\(cC B b (.pointer (some ⟨b,0,none⟩)) mb (l++[.int .u8 c]) w'/\Fw B b w w'):=by
 obtain⟨i0,hi,Og,Lz,Nj⟩:=info_parts Tryz.BP;have HC:=aC (qI h);clear h;go_enter func50,ntmps50;go_wp2_with fail;refine(HC.out).mono ?_;rintro e w1⟨rfl,h1,Kz⟩;obtain⟨hB,v,Vd,Jr,Ju⟩:=h1;have c0:w1.cell? ⟨b,0,none⟩=some (.pointer (some ⟨b,0,none⟩)):=by rw[cell_of_heap Vd];rfl
 have c1:w1.cell? ⟨b,1,none⟩=some v:=by rw[cell_of_heap Vd];rfl
 have M6:=Kz.size
 go_wp2_with (at_builtin;refine wpList_append_own _ rfl _ _ 67 rfl B fU i0 (.int .u8 0) 1 1 underlying67 hi Og Lz Nj rfl (by decide) _ _ _ rfl (Jr.alloc _) ⟨w1.heap.size,0,none⟩ 1 1 [.int .u8 c] rfl rfl ?c1 ?c2 ?c3 ?c4 ?c5 ?_)
 case c1=>
  intro j u hj;exact fK rfl (by simpa using hj)
 case c2=>intro u hu;simp at hu;subst hu;rfl
 case c3=>unfold maxLen;omega
 case c4=>omega
 case c5=>simp;omega
 intro v' w2 La Lf _;have Js:=aB Vd
 have Mf:w2.heap[b]?=some (.cells #[.pointer (some ⟨b,0,none⟩),v,.map (some mb)] cU (0,0)):=by
  rw[Lf.block b (by simp;omega) (fun e=>Ju e.symm),Below.heap_alloc _ _ _ Js];exact Vd
 have d0:w2.cell? ⟨b,0,none⟩=some (.pointer (some ⟨b,0,none⟩)):=by rw[cell_of_heap Mf];rfl
 have d1:w2.cell? ⟨b,1,none⟩=some v:=by rw[cell_of_heap Mf];rfl
 have f1:w2.frozen? ⟨b,1,none⟩=false:=Lib.frozen_of_heap Mf 1
 obtain⟨g,cap,rfl⟩:∃g cap,v'=.slice (some ⟨g,0,none⟩) (l.length+1) cap:=by
  rcases La.2 with⟨_,h0⟩|⟨g,cap,cur,hv,_⟩
  ·omega
  ·exact⟨g,cap,hv⟩
 go_wp2;go_ret;refine⟨rfl,?_,?_⟩
 ·exact cC.put hB Mf (l':=l++[.int .u8 c]) (by simpa using La)
 ·exact((Kz.alloc _).grown (Jr.alloc _) Lf).set 1 _
def tT(s:ByteArray)(h:qV B b mb l w)(Jm:l.length+s.size<=140737488355328)(hBw:B<=w.heap.size) :
  Calls prog 46 #[.pointer (some ⟨b,0,none⟩),.string s] w fun e w'=>e=.returned (.tuple #[.int .i64 s.size,.nilIface])/\(cC B b (.pointer (some ⟨b,0,none⟩)) mb (l++Lib.strCells s) w'/\Fw B b w w'):=by
 obtain⟨i0,hi,Og,Lz,Nj⟩:=info_parts Tryz.BP;have HC:=aC (qI h);clear h;go_enter func46,ntmps46;go_wp2_with fail;refine(HC.out).mono ?_;rintro e w1⟨rfl,h1,Kz⟩;obtain⟨hB,v,Vd,Jr,Ju⟩:=h1;have c0:w1.cell? ⟨b,0,none⟩=some (.pointer (some ⟨b,0,none⟩)):=by rw[cell_of_heap Vd];rfl
 have c1:w1.cell? ⟨b,1,none⟩=some v:=by rw[cell_of_heap Vd];rfl
 have M6:=Kz.size
 go_wp2_with (at_builtin;refine Lib.wpList_append_own_string _ rfl _ _ 67 9 rfl B fU i0 underlying67 underlying9 hi Og Lz Nj _ _ _ rfl Jr s rfl ?c3 ?c4 ?c5 ?_)
 case c3=>unfold maxLen;omega
 case c4=>omega
 case c5=>omega
 intro v' w2 La Lf _;have Js:=aB Vd
 have Mf:w2.heap[b]?=some (.cells #[.pointer (some ⟨b,0,none⟩),v,.map (some mb)] cU (0,0)):=by
  rw[Lf.block b Js (fun e=>Ju e.symm)];exact Vd
 have d0:w2.cell? ⟨b,0,none⟩=some (.pointer (some ⟨b,0,none⟩)):=by rw[cell_of_heap Mf];rfl
 have d1:w2.cell? ⟨b,1,none⟩=some v:=by rw[cell_of_heap Mf];rfl
 have f1:w2.frozen? ⟨b,1,none⟩=false:=Lib.frozen_of_heap Mf 1
 obtain⟨ao,n',cap,rfl⟩:∃ao n' cap,v'=.slice ao n' cap:=by
  rcases La.2 with⟨hv,_⟩|⟨g,cap,cur,hv,_⟩
  ·exact⟨_,_,_,hv⟩
  ·exact⟨_,_,_,hv⟩
 go_wp2
 go_ret2
 refine⟨rfl,?_,?_⟩
 ·exact cC.put hB Mf (l':=l++Lib.strCells s) (by simpa [Lib.strCells_length]using La)
 ·exact(Kz.grown Jr Lf).set 1 _
def SM(x:List UInt8)(h:qV B b mb (Lib.byteCells x) w)(h0:x≠[]) :
  Calls prog 18 #[.pointer (some ⟨b,0,none⟩)] w fun e w'=>e=.returned (.string ⟨x.toArray⟩)/\Fw B b w w':=by
 obtain⟨p,hB,v,Vd,Jr,Ju⟩:∃p,cC B b p mb (Lib.byteCells x) w:=by
  rcases h with h|h
  ·exact⟨_,h⟩
  ·exact⟨_,h⟩
 have Pk:x.length≠0:=by simpa using h0
 rw[Lib.byteCells_length]at Jr
 obtain⟨g,cap,cur,rfl,Wo,hg,Wk,Xo,Rh,Oz⟩:∃g cap cur,v=.slice (some ⟨g,0,none⟩) x.length cap/\B<=g/\w.heap[g]?=some (.cells cur fU (0,0))/\x.length<=cap/\cap<=maxLen/\cur.size=cap*1/\cur.toList.take (x.length*1)=Lib.byteCells x:=by
  rcases Jr.2 with⟨_,hz⟩|⟨g,cap,cur,hv,r⟩
  ·exact absurd hz Pk
  ·exact⟨g,cap,cur,hv,r⟩
 have c1:w.drew.cell? ⟨b,1,none⟩=some (.slice (some ⟨g,0,none⟩) x.length cap):=by
  have:w.drew.heap[b]?=some (.cells #[p,.slice (some ⟨g,0,none⟩) x.length cap,.map (some mb)] cU (0,0)):=Vd;rw[cell_of_heap this];rfl
 have hSD:(Builtin.unsafeSliceData_ #[67] 116 #[.slice (some ⟨g,0,none⟩) x.length cap]).run prog w.drew=.ok (.pointer (some ⟨g,0,none⟩)) w.drew:=
  Lib.run_unsafeSliceData_row _ _ _ _ _ _ (by omega)
 have hUS:(Builtin.unsafeString_ #[116,3] 9 #[.pointer (some ⟨g,0,none⟩),.int .i64 x.length]).run prog w.drew=.ok (.string ⟨x.toArray⟩) (w.drew.freeze ⟨g,0,none⟩ x.length):=by
  refine Lib.run_unsafeString_row w.drew 116 3 9 fU underlying116 (by kernel_rfl) g cur.size (by have Pe:w.drew.heap[g]?=some (.cells cur fU (0,0)):=hg;simp[shape?,Pe]) x h0 (by omega) (by unfold maxLen at Xo;omega) ?_;intro j u hu;have:=Jr.cells (g:=g) rfl j (.int .u8 u.toNat) (by simp[Lib.byteCells,hu]);exact this
 have mixed:prog.follows .mixedOrders=true:=by kernel_rfl
 go_enter func18,ntmps18;go_wp2
 go_region_o
 all_goals (go_wp2;go_ret;exact⟨rfl,((Fw.refl B b w).drew).freeze Wo (show w.drew.heap[g]?=_ from hg) _⟩)
end
end
section
def sS:∀(f n:Nat),(iI f n).length<=f:=by
 intro f
 induction f with
 |zero=>intro n;exact le_refl _
 |succ f ih=>
  intro n;rw[iI]
  split
  ·simp
  ·have:=ih (n / 10);rw[length_append];simp;omega
def sH(n:Nat):(dO n).length<=22:=by
 unfold dO
 split
 ·simp
 ·have:=sS 20 (n / 26);simp only[length_cons];omega
end
section
open Go.RowKit
abbrev Gw:TypeId:=65
def rD:prog.underlying Gw=some (.map aG 3):=by kernel_rfl
def Ah(w:World):(zeroValue 3).run prog w=.ok (.int .i64 0) w:=by
 have h:(prog.info? 3).map (fun i=>i.zero)=some (some (.int .i64 0)):=by kernel_rfl
 cases hi:prog.info? 3 with
 |none=>rw[hi]at h;cases h
 |some j=>
  rw[hi]at h;have hz:j.zero=some (.int .i64 0):=by simpa using h
  simp[zeroValue,typeInfo,hi,hz,andThen]
def NMf(ad:List Nat)(ls:List Nat)(f:Nat->Option Value):Prop:=
 (∀i,i<ad.length->f (bH ad i)=(ls.idxOf? i).map fun k=>.int .i64 (k:Nat))/\(∀b,(f b).isSome=true->b∈ad)/\∀p∈ls,p<ad.length
def QG(w:World)(b k o:Nat)(v:Value)(ho:o≠2):(w.setCell ⟨b,2,none⟩ v).cell? ⟨k,o,none⟩=w.cell? ⟨k,o,none⟩:=by
 simp only[cell?,setCell,getElem?_modify]
 by_cases h:b=k
 ·subst h;simp only[if_true]
  cases hb:w.heap[b]? with
  |none=>simp
  |some x=>
   cases x<;>simp[Array.getElem?_setIfInBounds_ne (Ne.symm ho)]
 ·simp[h]
def jN(ar:Nm->Nat)(ad:List Nat)(X:Nat->Prop)(rk:Nat->Nat)(U:TS)(i:Nat)(w:World)(e:Ending)(w':World):Prop:=
 bG ar ad X rk U i w e w'/\∀k o,o≠2->w'.cell? ⟨k,o,none⟩=w.cell? ⟨k,o,none⟩
section
variable {ar:Nm->Nat}{ad:List Nat}{X:Nat->Prop}{rk:Nat->Nat}{U:TS}{w w':World}{i:Nat}
def NP:∀(n:Nat)(i:Nat)(w:World),rk i<n->aO ar ad X rk U w->i<U.nodes.length->Calls prog 44 #[aM ad i] w (jN ar ad X rk U i w):=by
 intro n
 induction n with
 |zero=>intro i w hn;omega
 |succ n ih=>
  intro i w hn h hi;obtain⟨pv,fv,h1,h2,h3,h4,h5,h6,h7,h8⟩:=h.cell hi;rcases h8 with⟨hr,rfl⟩|⟨hr,j,hj,rfl,hjr,Uz⟩
  ·have hq:jN ar ad X rk U i w (.returned (aM ad i)) w:=⟨⟨by rw[hr],h,Kn.refl _ _,rfl⟩,fun _ _ _=>rfl⟩;have HQ:=aC hq;clear hq h h1 h2 h4 h5 h6 h7 ih;unfold aM aA at *;generalize jN ar ad X rk U i w=Q at *;generalize bH ad i=b at *;go_enter func44,ntmps44;go_wp2;exact HQ.out
  ·have hc:=ih j w (by omega) h hj;have Jv:bH ad i∈ad:=dE (by rw[h.len];exact hi)
   have hq:∀e w1,jN ar ad X rk U j w e w1->e=.returned (aM ad (U.root i))/\w1.frozen? ⟨bH ad i,2,none⟩=false/\(w1.cell? ⟨bH ad i,2,none⟩).isSome=true/\jN ar ad X rk U i w (.returned (aM ad (U.root i))) (w1.setCell ⟨bH ad i,2,none⟩ (aM ad (U.root i))):=by
    rintro e w1⟨⟨a1,a2,a3,a4⟩,a5⟩;obtain⟨_,fv2,_,_,c3,_,c5,_⟩:=a2.cell hi;refine⟨by rw[a1,hjr],c5,by rw[c3];rfl,⟨rfl,a2.CG hi hr,a3.set (inl Jv) _,by simp[a4]⟩,fun k o ho=>by rw[QG _ _ _ _ _ ho,a5 k o ho]⟩
   have HC:=aC hc;have HQ:=aC hq;clear hq hc h h1 h2 h4 h6 h7 ih Jv;unfold aM aA at *;generalize jN ar ad X rk U i w=Q at *;generalize jN ar ad X rk U j w=Q1 at *;generalize bH ad i=b at *;generalize bH ad j=b1 at *;generalize bH ad (U.root i)=b2 at *;go_enter func44,ntmps44;go_wp2_with fail;refine(HC.out).mono ?_;intro e w1 ha;obtain⟨rfl,hf,hs,hq⟩:=HQ.out e w1 ha;have HF:=aC hq;clear ha hq HQ HC;obtain⟨old,hold⟩:=Option.isSome_iff_exists.1 hs;go_wp2;exact HF.out
end
structure Ws(ar:Nm->Nat)(ad:List Nat)(X:Nat->Prop)(rk:Nat->Nat)(U:TS)(w0:World)(b mb:Nat)(l:Nm)(ls:List Nat)(w:World):Prop where
 kn:Kn (·∈ad) w0 w
 st:aO ar ad X rk U w
 bd:qV w0.heap.size b mb (Lib.byteCells l) w
 mp:∃f,aQ (fun _:Nat=>True) fY w mb ls.length f/\NMf ad ls f
 lo:w0.heap.size<=mb
 s0:aO ar ad X rk U w0
 k2:∀k∈ad,∀o,o≠2->w.cell? ⟨k,o,none⟩=w0.cell? ⟨k,o,none⟩
section
variable {ar:Nm->Nat}{ad:List Nat}{X:Nat->Prop}{rk:Nat->Nat}{U:TS}{w0 w w':World}{b mb:Nat}{l:Nm}{ls:List Nat}
def qV.block{B:Nat}{x:List Value}(h:qV B b mb x w):B<=b/\∃c,w.heap[b]?=some (.cells c cU (0,0)):=by
 rcases h with⟨hB,v,hb,_⟩|⟨hB,v,hb,_⟩<;>exact⟨hB,_,hb⟩
def qV.kept{B:Nat}{x:List Value}(h:qV B b mb x w)(h1:∀(k:Nat)(c:Array Value)(f:Nat×Nat),w.heap[k]?=some (.cells c cU f)->w'.heap[k]?=w.heap[k]?)(h2:∀(k:Nat)(c:Array Value)(f:Nat×Nat),w.heap[k]?=some (.cells c fU f)->w'.heap[k]?=w.heap[k]?):qV B b mb x w':=by
 have Jn:∀(v:Value)(n:Nat)(xs:List Value),w.ownsRow B fU 1 v n xs->w'.ownsRow B fU 1 v n xs:=by
  rintro v n xs⟨hn,hr⟩;refine⟨hn,?_⟩;rcases hr with hr|⟨g,cap,cur,q1,q2,q3,q4⟩
  ·exact inl hr
  ·exact inr ⟨g,cap,cur,q1,q2,by rw[h2 _ _ _ q3];exact q3,q4⟩
 rcases h with⟨hB,v,hb,ho,Ju⟩|⟨hB,v,hb,ho,Ju⟩
 ·exact inl ⟨hB,v,by rw[h1 _ _ _ hb];exact hb,Jn _ _ _ ho,Ju⟩
 ·exact inr ⟨hB,v,by rw[h1 _ _ _ hb];exact hb,Jn _ _ _ ho,Ju⟩
def aO.fw{B:Nat}(h:aO ar ad X rk U w)(hf:Fw B b w w')(hb:∃c f,w.heap[b]?=some (.cells c cU f)):aO ar ad X rk U w':=by
 obtain⟨cb,fb,hb⟩:=hb
 have Pi:∀(k:Nat)(c:Array Value)(t:TypeId)(f:Nat×Nat),t≠cU->t≠fU->w.heap[k]?=some (.cells c t f)->w'.heap[k]?=w.heap[k]?:=fun k c t f h1 h2 hk=>by
  refine hf.block k (aB hk) (fun e=>?_) (inr fun c' f' e=>?_)
  ·subst e;rw[hb]at hk;exact h1 (aN hk).symm
  ·rw[hk]at e;exact h2 (aN e)
 exact h.kept (fun k hk=>by
  obtain⟨c,f,e⟩:=h.isT hk
  exact Pi k c _ f (by decide) (by decide) e) (fun k c f _ e=>Pi k c _ f (by decide) (by decide) e)
def Kn.fw(h:Kn (·∈ad) w0 w)(hf:Fw w0.heap.size b w w')(hb:w0.heap.size<=b):Kn (·∈ad) w0 w':=
 ⟨hf.os.trans h.os,hf.tape.trans h.tape,hf.output.trans h.output,le_trans h.size hf.size,fun k hk Q9=>by
  rw[<- h.block k hk Q9]
  exact hf.block k (lt_of_lt_of_le hk h.size) (by omega) (inl hk)⟩
def Ws.wrote{l':Nm}(h:Ws ar ad X rk U w0 b mb l ls w)(hf:Fw w0.heap.size b w w')(hw:cC w0.heap.size b (.pointer (some ⟨b,0,none⟩)) mb (Lib.byteCells l') w'):Ws ar ad X rk U w0 b mb l' ls w':=by
 obtain⟨hB,c,hb⟩:=h.bd.block;obtain⟨f,h1,h2⟩:=h.mp
 have Mp:w'.heap[mb]?=w.heap[mb]?:=by
  obtain⟨es,clock,hm,_⟩:=h1;refine hf.block mb (aB hm) (fun e=>?_) (inr fun c f e=>?_)
  ·subst e;rw[hm]at hb;cases hb
  ·rw[hm]at e;cases e
 have Jz:=h.st.fw hf ⟨_,_,hb⟩;refine⟨h.kn.fw hf hB,Jz,inr hw,⟨f,h1.kept Mp,h2⟩,h.lo,h.s0,fun k hk o ho=>?_⟩;rw[<- h.k2 k hk o ho];obtain⟨c,f',hc⟩:=h.st.isT hk;have:w'.heap[k]?=w.heap[k]?:=hf.block k (aB hc) (fun e=>by subst e;rw[hc]at hb;cases hb) (inr fun c2 f2 e=>by rw[hc]at e;cases e);simp[cell?,this]
def Ws.DH(h:Ws ar ad X rk U w0 b mb l ls w)(hs:aO ar ad X rk U w')(hk:Kn (·∈ad) w w')(h2c:∀k o,o≠2->w'.cell? ⟨k,o,none⟩=w.cell? ⟨k,o,none⟩):Ws ar ad X rk U w0 b mb l ls w':=by
 obtain⟨f,h1,h2⟩:=h.mp;have Lg:∀(k:Nat)(o:Obj),w.heap[k]?=some o->(∀c f,o≠.cells c aT f)->w'.heap[k]?=w.heap[k]?:=fun k o Jy ho=>hk.block k (aB Jy) (h.st.BI Jy ho);refine⟨h.kn.trans hk,hs,h.bd.kept (fun k c f e=>Lg k _ e (fun c' f' e2=>?_)) (fun k c f e=>Lg k _ e (fun c' f' e2=>?_)),⟨f,h1.kept ?_,h2⟩,h.lo,h.s0,fun k hk o ho=>by rw[h2c k o ho];exact h.k2 k hk o ho⟩
 ·cases e2
 ·cases e2
 ·obtain⟨es,clock,hm,_⟩:=h1;exact Lg mb _ hm (fun c' f' e2=>by cases e2)
def cC.CK{B:Nat}{p:Value}{x:List Value}(h:cC B b p mb x w):w.cell? ⟨b,2,none⟩=some (.map (some mb)):=by
 obtain⟨_,v,hb,_⟩:=h;simp[cell?,hb]
def qV.CK{B:Nat}{x:List Value}(h:qV B b mb x w):w.cell? ⟨b,2,none⟩=some (.map (some mb)):=by
 rcases h with h|h<;>exact h.CK
def gQ(ls:List Nat)(r:Nat):Nat×List Nat:=match ls.idxOf? r with|some k=>(k,ls)|none=>(ls.length,ls++[r])
def VF(ls:List Nat)(r i:Nat):(ls++[r]).idxOf? i=(ls.idxOf? i).or (if i=r then some ls.length else none):=by
 induction ls with
 |nil=>
  simp only[nil_append,idxOf?_cons,List.idxOf?_nil]
  by_cases h:i=r
  ·subst h;simp
  ·rw[if_neg h];simp;exact fun e=>h e.symm
 |cons a t ih=>
  rw[cons_append,idxOf?_cons,idxOf?_cons,ih]
  by_cases h:a=i
  ·subst h;simp
  ·have:(a==i)=false:=by simpa using h
   rw[this];simp only[Bool.false_eq_true,if_false,length_cons];cases t.idxOf? i<;>by_cases Zf:i=r<;>simp[Zf]
def wL{r:Nat}(h:Ws ar ad X rk U w0 b mb l ls w)(hr:r<U.nodes.length)(Jm:ls.length<=1000000) :
  Calls prog 48 #[aA b,aM ad r] w fun e w'=>e=.returned (.int .i64 ((gQ ls r).1:Nat))/\Hid (Ws ar ad X rk U w0 b mb l (gQ ls r).2 w'):=by
 obtain⟨f,m1,m2,m3,m4⟩:=h.mp;have Lc:r<ad.length:=by rw[h.st.len];exact hr
 have c2:=h.bd.CK;have hS:∀y,(f y).isSome=true->fH w y:=fun y hy=>h.st.BE (m3 y hy);have Lm:=m1.look rG rD (Ah w) (x:=bH ad r) trivial (h.st.BE (dE Lc)) hS true;simp only[if_true]at Lm;rw[m2 r Lc]at Lm;unfold gQ
 cases hx:ls.idxOf? r with
 |some k=>
  rw[hx]at Lm;have HQ:=aC h;clear h m1 m2 m3 m4 hS hx;simp only[Option.map_some,Option.getD_some,Option.isSome_some]at Lm;generalize hQ:(fun(e:Ending) (w':World)=>e=.returned (.int .i64 (((k,ls):Nat×List Nat).1:Nat))/\Hid (Ws ar ad X rk U w0 b mb l ((k,ls):Nat×List Nat).2 w'))=Q;have hq:Q (.returned (.int .i64 (k:Nat))) w:=by rw[<- hQ];exact⟨rfl,HQ⟩
  clear hQ HQ;unfold aM aA fY at *;generalize bH ad r=br at *;go_enter func48,ntmps48;go_wp2;exact hq
 |none=>
  rw[hx]at Lm;obtain⟨w1,e1,e2,e3⟩:=m1.store rG rD (x:=bH ad r) (v:=.int .i64 (ls.length:Nat)) trivial (h.st.BE (dE Lc)) hS;have Vy:f (bH ad r)=none:=by rw[m2 r Lc,hx];rfl
  rw[Vy]at e2;have Pc:=m1.len (P:=prog) rD 3;have Tl:∀(k:Nat)(c:Array Value)(t:TypeId)(fz:Nat×Nat),w.heap[k]?=some (.cells c t fz)->w1.heap[k]?=w.heap[k]?:=fun k c t fz hk=>bJ e3 hk
  have M2:Ws ar ad X rk U w0 b mb l (ls++[r]) w1:=by
   refine⟨h.kn.AM e3 (inr h.lo),h.st.kept (fun k hk=>?_) (fun k c fz _ hk=>Tl _ _ _ _ hk),h.bd.kept (fun k c fz hk=>Tl _ _ _ _ hk) (fun k c fz hk=>Tl _ _ _ _ hk),⟨_,by simpa using e2,fun i hi=>?_,fun y hy=>?_,fun p hp=>?_⟩,h.lo,h.s0,fun k hk o ho=>?_⟩
   ·obtain⟨c,fz,hb⟩:=h.st.isT hk;exact Tl _ _ _ _ hb
   ·rw[VF]
    by_cases Zf:i=r
    ·subst Zf;rw[if_pos rfl,if_pos rfl,hx];rfl
    ·rw[if_neg (fun e=>Zf (kW h.st.lt hi Lc e)),if_neg Zf,m2 i hi,Option.or_none]
   ·split at hy
    ·next e=>subst e;exact dE Lc
    ·exact m3 y hy
   ·rcases mem_append.1 hp with hp|hp
    ·exact m4 p hp
    ·rw[mem_singleton.1 hp];exact Lc
   ·rw[<- h.k2 k hk o ho];obtain⟨c,fz,hb⟩:=h.st.isT hk;have:=Tl _ _ _ _ hb;simp[cell?,this]
  have HQ:=aC M2;clear M2 h m1 m2 m3 m4 hS hx Tl e2 e3 Vy;simp only[Option.map_none,Option.getD_none,Option.isSome_none]at Lm;generalize hQ:(fun(e:Ending) (w':World)=>e=.returned (.int .i64 (((ls.length,ls++[r]):Nat×List Nat).1:Nat))/\Hid (Ws ar ad X rk U w0 b mb l ((ls.length,ls++[r]):Nat×List Nat).2 w'))=Q;have hq:Q (.returned (.int .i64 (ls.length:Nat))) w1:=by rw[<- hQ];exact⟨rfl,HQ⟩
  clear hQ HQ;unfold aM aA fY at *;generalize bH ad r=br at *;generalize ls.length=n at *;go_enter func48,ntmps48;go_wp2;exact hq
end
end
section
open Go.RowKit
def EG(r:Nat)(hr:r<26)(w:World):(convert 21 9 (.int .i32 ((97+r:Nat):Int))).run prog w=.ok (.string ⟨#[UInt8.ofNat (97+r)]⟩) w:=by
 have h:r=0\/r=1\/r=2\/r=3\/r=4\/r=5\/r=6\/r=7\/r=8\/r=9\/r=10\/r=11\/r=12\/r=13\/r=14\/r=15\/r=16\/r=17\/r=18\/r=19\/r=20\/r=21\/r=22\/r=23\/r=24\/r=25:=by omega
 rcases h with rfl|rfl|rfl|rfl|rfl|rfl|rfl|rfl|rfl|rfl|rfl|rfl|rfl|rfl|rfl|rfl|rfl|rfl|rfl|rfl|rfl|rfl|rfl|rfl|rfl|rfl
 all_goals (simp[convert,go_sem];rfl)
def wV{q:Nat}(h:q<10):Lib.decDigits q=iI 20 q:=by
 rw[Lib.decDigits,dif_pos h,iI,if_pos h]
def sI(n:Nat)(hn:n<260)(w:World) :
  Calls prog 47 #[.int .i64 n] w fun e w'=>e=.returned (.string (bs (dO n)))/\w'=w:=by
 have hc:=EG (n % 26) (Nat.mod_lt _ (by decide)) w;have h1:(n:Int).tmod 26=((n % 26:Nat):Int):=by rw[Int.tmod_eq_emod_of_nonneg (by omega)];omega
 have h2:(n:Int).tdiv 26=((n / 26:Nat):Int):=by rw[Int.tdiv_eq_ediv_of_nonneg (by omega)];omega
 have hr:n % 26<26:=Nat.mod_lt _ (by decide);have hq:n / 26<10:=by omega
 have hI:=Tryz.strconv_Itoa_small (n / 26) (by omega) w;rw[wV hq]at hI;have hd:=sS 20 (n / 26);have hT:dO n=39::UInt8.ofNat (97+n % 26)::(if n / 26=0 then[]else iI 20 (n / 26)):=rfl;rw[hT];generalize iI 20 (n / 26)=ds at *;generalize n / 26=q at *;generalize n % 26=r at *;have h3:IntKind.i64.wrap (97+(r:Int))=97+(r:Int):=by unfold wrap;simp[IntKind.bits,signed];omega
 have h4:IntKind.i32.wrap (97+(r:Int))=97+(r:Int):=by unfold wrap;simp[IntKind.bits,signed];omega
 have h5:((97+r:Nat):Int)=97+(r:Int):=by omega
 rw[h5]at hc;generalize UInt8.ofNat (97+r)=c at *
 by_cases h0:q=0
 ·subst h0;have e0:(((0:Nat):Int)>0)=False:=by simp
  clear hI;generalize hQ:(fun(e:Ending) (w':World)=>e=.returned (.string (bs (39::c::(if (0:Nat)=0 then[]else ds))))/\w'=w)=Q;have hq:Q (.returned (.string (⟨#[39]⟩++⟨#[c]⟩))) w:=by rw[<- hQ];exact⟨rfl,rfl⟩
  clear hQ;go_enter func47,ntmps47;go_wp2;exact hq
 ·have e0:(0:Int)<(q:Int):=by omega
  have e1:decide ((0:Int)<(q:Int))=true:=by simpa using e0
  have hz:(⟨#[39]⟩++⟨#[c]⟩:ByteArray).size+(⟨ds.toArray⟩:ByteArray).size<=9223372036854775807:=by
   show 2+ds.toArray.size<=_;have:ds.toArray.size=ds.length:=by simp
   omega
  have HI:=aC hI;generalize hQ:(fun(e:Ending) (w':World)=>e=.returned (.string (bs (39::c::(if q=0 then[]else ds))))/\w'=w)=Q
  have hq:Q (.returned (.string ((⟨#[39]⟩++⟨#[c]⟩)++⟨ds.toArray⟩))) w:=by
   rw[<- hQ,if_neg h0];exact⟨by show Ending.returned (.string (bs [39]++bs [c]++bs ds))=_;rw[xB,xB];rfl,rfl⟩
  clear hQ hI;generalize (⟨ds.toArray⟩:ByteArray)=da at *;go_enter func47,ntmps47;go_wp2_with fail;refine(HI.out).mono ?_;rintro e w1⟨rfl,rfl⟩;go_wp2;exact hq
section
variable {ar:Nm->Nat}{ad:List Nat}{X:Nat->Prop}{rk:Nat->Nat}{U:TS}{w0 w w':World}{b mb:Nat}{l:Nm}{ls:List Nat}
def Ws.drew(h:Ws ar ad X rk U w0 b mb l ls w):Ws ar ad X rk U w0 b mb l ls w.drew:=⟨h.kn.drew,h.st.kept (fun _ _=>rfl) (fun _ _ _ _ _=>rfl),h.bd,h.mp,h.lo,h.s0,h.k2⟩
def Ws.text(x:Nm)(h:Ws ar ad X rk U w0 b mb l ls w)(Jm:l.length+x.length<=140737488355328) :
  Calls prog 46 #[aA b,.string (bs x)] w fun e w'=>(∃k,e=.returned (.tuple #[.int .i64 k,.nilIface]))/\Hid (Ws ar ad X rk U w0 b mb (l++x) ls w'):=by
 refine(tT (bs x) h.bd (by rw[Lib.byteCells_length,xA];exact Jm) h.kn.size).mono ?_;rintro e w'⟨rfl,h1,h2⟩;rw[yM,uP]at h1;exact⟨⟨_,rfl⟩,aC (h.wrote h2 h1)⟩
def Ws.byte(c:UInt8)(h:Ws ar ad X rk U w0 b mb l ls w)(Jm:l.length+1<=140737488355328) :
  Calls prog 50 #[aA b,.int .u8 c.toNat] w fun e w'=>e=.returned .nilIface/\Hid (Ws ar ad X rk U w0 b mb (l++[c]) ls w'):=by
 refine(yF c.toNat h.bd (by rw[Lib.byteCells_length];exact Jm) h.kn.size).mono ?_;rintro e w'⟨rfl,h1,h2⟩;have h3:Lib.byteCells l++[Value.int .u8 c.toNat]=Lib.byteCells (l++[c]):=by simp[Lib.byteCells]
 rw[h3]at h1;exact⟨rfl,aC (h.wrote h2 h1)⟩
def Cz(ar:Nm->Nat)(ad:List Nat)(X:Nat->Prop)(rk:Nat->Nat)(U:TS)(w0:World)(b mb:Nat)(f:Nat)(args:Array Value)(s:Nm)(ls ls':List Nat):Prop:=
 ∀(l:Nm)(w:World),Ws ar ad X rk U w0 b mb l ls w->l.length+s.length<=100000000000000->Calls prog f (#[aA b]++args) w fun e w'=>e=.returned (.tuple #[])/\Hid (Ws ar ad X rk U w0 b mb (l++s) ls' w')
def mX{i:Nat}{s:Nm}{ls':List Nat}(br:Bool)(hc:Cz ar ad X rk U w0 b mb 17 #[aM ad i] s ls ls') :
  Cz ar ad X rk U w0 b mb 49 #[aM ad i,.bool br] (cQ br s) ls ls':=by
 intro l w h Jm
 cases br with
 |false=>
  have Jm:l.length+s.length<=100000000000000:=Jm;have HC:=aC (hc l w h Jm);clear h hc
  show Calls _ _ _ _ fun e w'=>e=.returned (.tuple #[])/\Hid (Ws ar ad X rk U w0 b mb (l++s) ls' w');generalize hW:(fun w'=>Ws ar ad X rk U w0 b mb (l++s) ls' w')=W at *;have Ry:∀w',Ws ar ad X rk U w0 b mb (l++s) ls' w'=W w':=fun w'=>by rw[<- hW]
  simp only[Ry]at HC ⊢;clear hW Ry;unfold aM aA at *;simp only[cons_append,nil_append,append_toArray]at HC ⊢;generalize bH ad i=bi at *;go_enter func49,ntmps49;go_wp2_with fail;refine(HC.out).mono ?_;rintro e w1⟨rfl,HW⟩;go_wp2;exact⟨rfl,_,(by simp[results,results49,go_sem]),rfl,HW⟩
 |true=>
  have Jm:l.length+(s.length+2)<=100000000000000:=by
   have:(cQ true s).length=s.length+2:=by simp[cQ]
   omega
  have Lh:Calls prog 50 #[aA b,.int .u8 40] w fun e w1=>e=.returned .nilIface/\Calls prog 17 #[aA b,aM ad i] w1 fun e w2=>e=.returned (.tuple #[])/\Calls prog 50 #[aA b,.int .u8 41] w2 fun e w3=>e=.returned .nilIface/\Hid (Ws ar ad X rk U w0 b mb (l++cQ true s) ls' w3):=by
   refine(h.byte 40 (by omega)).mono ?_;rintro e w1⟨rfl,h1⟩;refine⟨rfl,(hc (l++[40]) w1 h1.out (by rw[length_append];simp;omega)).mono ?_⟩;rintro e w2⟨rfl,h2⟩;refine⟨rfl,(h2.out.byte 41 (by simp only[length_append,List.length_singleton];omega)).mono ?_⟩;rintro e w3⟨rfl,h3⟩;refine⟨rfl,?_⟩;have:l++[40]++s++[41]=l++cQ true s:=by simp[cQ]
   rw[<- this];exact h3
  have HC:=aC Lh;clear Lh h hc Jm
  show Calls _ _ _ _ fun e w'=>e=.returned (.tuple #[])/\Hid (Ws ar ad X rk U w0 b mb (l++cQ true s) ls' w');generalize hW:(fun w'=>Ws ar ad X rk U w0 b mb (l++cQ true s) ls' w')=W at *;have Ry:∀w',Ws ar ad X rk U w0 b mb (l++cQ true s) ls' w'=W w':=fun w'=>by rw[<- hW]
  simp only[Ry]at HC ⊢;clear hW Ry;unfold aM aA at *;simp only[cons_append,nil_append,append_toArray]at HC ⊢;generalize bH ad i=bi at *;go_enter func49,ntmps49;go_wp2_with fail;refine(HC.out).mono ?_;rintro e w1⟨rfl,h1⟩;have H1:=aC h1;clear HC h1;go_wp2_with fail;refine(H1.out).mono ?_;rintro e w2⟨rfl,h2⟩;have H2:=aC h2;clear H1 h2;go_wp2_with fail;refine(H2.out).mono ?_;rintro e w3⟨rfl,HW⟩;go_wp2;go_end0;exact⟨rfl,HW⟩
end
end
section
open Go.RowKit
section
variable {ar:Nm->Nat}{ad:List Nat}{X:Nat->Prop}{rk:Nat->Nat}{U:TS}{w0 w w':World}{b mb i n:Nat}{l s:Nm}{ls ls':List Nat}
def yG{n:Nat}(ih:∀(ls:List Nat)(i:Nat)(s:Nm)(ls':List Nat),wr U n ls i=some (s,ls')->ls.length<=ls'.length):∀(ps:List Nat)(ls:List Nat)(s:Nm)(ls':List Nat),wr.wrL U (wr U n) ls ps=some (s,ls')->ls.length<=ls'.length:=by
 intro ps
 induction ps with
 |nil=>intro ls s ls' h;rw[wr.wrL]at h;cases h;exact le_refl _
 |cons p r ihr=>
  intro ls s ls' h;rw[wr.wrL]at h
  cases hx:wr U n ls p with
  |none=>rw[hx]at h;cases h
  |some y=>
   obtain⟨s1,ls1⟩:=y;rw[hx]at h;simp only at h
   cases hy:wr.wrL U (wr U n) ls1 r with
   |none=>rw[hy]at h;cases h
   |some z=>
    obtain⟨s2,ls2⟩:=z;rw[hy]at h;cases h;exact le_trans (ih _ _ _ _ hx) (ihr _ _ _ hy)
def KU:∀(n:Nat)(ls:List Nat)(i:Nat)(s:Nm)(ls':List Nat),wr U n ls i=some (s,ls')->ls.length<=ls'.length:=by
 intro n
 induction n with
 |zero=>intro ls i s ls' h;cases h
 |succ n ih=>
  intro ls i s ls' h;rw[wr]at h;split at h
  ·split at h<;>cases h
   ·exact le_refl _
   ·simp
  ·split at h
   ·split at h
    ·rename_i a c _ _
     cases hx:wr U n ls a with
     |none=>rw[hx]at h;cases h
     |some y=>
      obtain⟨s1,ls1⟩:=y;rw[hx]at h;simp only at h
      cases hy:wr U n ls1 c with
      |none=>rw[hy]at h;cases h
      |some z=>
       obtain⟨s2,ls2⟩:=z;rw[hy]at h;cases h;exact le_trans (ih _ _ _ _ hx) (ih _ _ _ _ hy)
    ·cases h
   ·cases hx:wr.wrL U (wr U n) ls (U.node (U.root i)).parts with
    |none=>rw[hx]at h;cases h
    |some y=>
     obtain⟨s1,ls1⟩:=y;rw[hx]at h;cases h;exact yG ih _ _ _ _ hx
def Ws.root(h:Ws ar ad X rk U w0 b mb l ls w)(hi:i<U.nodes.length):Calls prog 44 #[aM ad i] w fun e w1=>e=.returned (aM ad (U.root i))/\Ws ar ad X rk U w0 b mb l ls w1:=by
 refine(NP (rk i+1) i w (lt_succ_self _) h.st hi).mono ?_;rintro e w1⟨⟨rfl,h1,h2,_⟩,h3⟩;exact⟨rfl,h.DH h1 h2 h3⟩
def Ws.isL(h:Ws ar ad X rk U w0 b mb l ls w)(hi:i<U.nodes.length){v:Bool}(hv:U.AC i=v):Calls prog 45 #[aM ad i] w fun e w1=>e=.returned (.bool v)/\w1=w:=by
 rw[<- hv];exact cH h.st hi
def wP(h:Ws ar ad X rk U w0 b mb l ls w)(hi:i<U.nodes.length)(hl:U.AC (U.root i)=true)(hn:(gQ ls (U.root i)).1<260)(Nl:ls.length<=1000000)(Jm:l.length+22<=140737488355328) :
  Calls prog 44 #[aM ad i] w fun e w1=>e=.returned (aM ad (U.root i))/\Calls prog 45 #[aM ad (U.root i)] w1 (fun e w'=>e=.returned (.bool true)/\w'=w1) /\
   Calls prog 48 #[aA b,aM ad (U.root i)] w1.drew fun e w2=>∃k:Nat,e=.returned (.int .i64 k)/\Calls prog 47 #[.int .i64 k] w2 fun e w3=>∃x,e=.returned (.string x)/\Calls prog 46 #[aA b,.string x] w3 fun e w4=>
    (∃k,e=.returned (.tuple #[.int .i64 k,.nilIface]))/\Hid (Ws ar ad X rk U w0 b mb (l++dO (gQ ls (U.root i)).1) (gQ ls (U.root i)).2 w4):=by
 have hr:=h.st.ok.rg.AK hi;refine(h.root hi).mono ?_;rintro e w1⟨rfl,h1⟩;refine⟨rfl,h1.isL hr hl,(wL h1.drew hr Nl).mono ?_⟩;rintro e w2⟨rfl,h2⟩;refine⟨_,rfl,(sI _ hn w2).mono ?_⟩;rintro e w3⟨rfl,rfl⟩;have:=sH (gQ ls (U.root i)).1;exact⟨_,rfl,h2.out.text _ (by omega)⟩
def Ws.node(h:Ws ar ad X rk U w0 b mb l ls w)(hi:i<U.nodes.length):∃a m c,m=(U.node i).parts.length/\m<=9223372036854775807/\(∀(l2:Nm)(ls2:List Nat)(u:World),Ws ar ad X rk U w0 b mb l2 ls2 u->u.cell? ⟨bH ad i,0,none⟩=some (.string (bs (U.node i).name))/\u.cell? ⟨bH ad i,1,none⟩=some (.slice a m c)) /\
  ∀k p,(U.node i).parts[k]?=some p->∃g,a=some ⟨g,0,none⟩/\∀(l2:Nm)(ls2:List Nat)(u:World),Ws ar ad X rk U w0 b mb l2 ls2 u->g<u.heap.size/\u.cell? ⟨g,k,none⟩=some (aM ad p):=by
 obtain⟨pv,fv,h1,h2,_⟩:=h.s0.node i hi;have Jv:bH ad i∈ad:=dE (by rw[h.s0.len];exact hi);have Ob:=bI h2;rcases aD h2 with⟨rfl,h0⟩|⟨g,cap,rfl⟩
 ·refine⟨none,0,0,h0.symm,by decide,fun l2 ls2 u hu=>⟨?_,?_⟩,fun k p hk=>?_⟩
  ·rw[hu.k2 _ Jv 0 (by decide)];simp[cell?,h1]
  ·rw[hu.k2 _ Jv 1 (by decide)];simp[cell?,h1]
  ·rw[List.eq_nil_of_length_eq_zero h0]at hk;simp at hk
 ·refine⟨_,_,cap,rfl,Ob,fun l2 ls2 u hu=>⟨?_,?_⟩,fun k p hk=>⟨g,rfl,fun l2 ls2 u hu=>?_⟩⟩
  ·rw[hu.k2 _ Jv 0 (by decide)];simp[cell?,h1]
  ·rw[hu.k2 _ Jv 1 (by decide)];simp[cell?,h1]
  ·have K0:∃cur,w0.heap[g]?=some (.cells cur aG (0,0)):=by
    rcases h2.2 with⟨e,_⟩|⟨g2,cap2,cur,e,_,hg,_⟩
    ·cases e
    ·cases e;exact⟨cur,hg⟩
   obtain⟨cur,K0⟩:=K0;have Js:=aB K0;have Lg:g∉ad:=h.s0.BI K0 (fun c f e=>by cases e);have N0:u.heap[g]?=w0.heap[g]?:=hu.kn.block g Js Lg;refine⟨lt_of_lt_of_le Js hu.kn.size,?_⟩;have:=h2.cells (g:=g) rfl k (aM ad p) (by simp[hk]);have ea:(⟨g,0,none⟩:Addr).add k=⟨g,k,none⟩:=by cases k<;>simp[Addr.add]
   rw[ea]at this;rw[<- this];simp[cell?,N0]
end
end
section
open Go.RowKit
section
variable {ar:Nm->Nat}{ad:List Nat}{X:Nat->Prop}{rk:Nat->Nat}{U:TS}{w0 w w':World}{b mb i n:Nat}{l s:Nm}{ls ls':List Nat}
def FM(h:Ws ar ad X rk U w0 b mb l ls w)(hi:i<U.nodes.length)(hl:U.AC (U.root i)=true)(hn:(gQ ls (U.root i)).1<260)(Nl:ls.length<=1000000)(Jm:l.length+22<=140737488355328) :
  Calls prog 17 #[aA b,aM ad i] w fun e w'=>e=.returned (.tuple #[])/\Hid (Ws ar ad X rk U w0 b mb (l++dO (gQ ls (U.root i)).1) (gQ ls (U.root i)).2 w'):=by
 have Lh:=wP h hi hl hn Nl Jm;generalize hW:(fun w'=>Ws ar ad X rk U w0 b mb (l++dO (gQ ls (U.root i)).1) (gQ ls (U.root i)).2 w')=W at *;have Ry:∀w',Ws ar ad X rk U w0 b mb (l++dO (gQ ls (U.root i)).1) (gQ ls (U.root i)).2 w'=W w':=fun w'=>by rw[<- hW]
 simp only[Ry]at Lh ⊢;have HC:=aC Lh;clear Lh hW Ry h hl hn;unfold aM aA at *;generalize bH ad i=bi at *;generalize bH ad (U.root i)=br at *;go_enter func17,ntmps17;go_wp2_with fail;refine(HC.out).mono ?_;rintro e w1⟨rfl,h1,h2⟩;have H1:=aC h1;have H2:=aC h2;clear HC h1 h2;go_wp2_with fail;refine(H1.out).mono ?_;rintro e w1'⟨rfl,rfl⟩;go_wp2_with fail
 go_region_held3 (fun _=>True) (trivial)
  (first|(go_at_call 48;refine(H2.out).mono ?_;rintro e u2⟨k,rfl,hl⟩;have HL:=aC hl;clear hl)|(go_at_call 47;refine(HL.out).mono ?_;rintro e u3⟨x,rfl,hs⟩;have HS:=aC hs;clear hs)|(go_at_call 46;refine(HS.out).mono ?_;rintro e u4⟨⟨kk,rfl⟩,HW⟩))
 all_goals
  go_wp2;go_end0;exact⟨rfl,HW⟩
def EY{a c:Nat}{s1 s2:Nm}{ls1 ls2:List Nat}(h:Ws ar ad X rk U w0 b mb l ls w)(hi:i<U.nodes.length)(hl:U.AC (U.root i)=false)(Lu:(U.node (U.root i)).parts=[a,c])
  (hA:Cz ar ad X rk U w0 b mb 17 #[aM ad a] s1 ls ls1) (hC:Cz ar ad X rk U w0 b mb 17 #[aM ad c] s2 ls1 ls2)
  (Jm:l.length+(cQ ((U.node (U.root a)).name==bA) s1++[32,45,62,32]++s2).length<=100000000000000) :
  ∃g cap,Calls prog 44 #[aM ad i] w fun e w1=>e=.returned (aM ad (U.root i))/\Calls prog 45 #[aM ad (U.root i)] w1 (fun e w'=>e=.returned (.bool false)/\w'=w1) /\
   (w1.cell? ⟨bH ad (U.root i),0,none⟩=some (.string (bs (U.node (U.root i)).name))/\w1.drew.cell? ⟨bH ad (U.root i),1,none⟩=some (.slice (some ⟨g,0,none⟩) 2 cap)/\w1.drew.cell? ⟨g,0,none⟩=some (aM ad a)/\w1.drew.cell? ⟨bH ad (U.root a),0,none⟩=some (.string (bs (U.node (U.root a)).name))) /\
   Calls prog 44 #[aM ad a] w1.drew fun e w2=>e=.returned (aM ad (U.root a))/\(w2.cell? ⟨bH ad (U.root i),1,none⟩=some (.slice (some ⟨g,0,none⟩) 2 cap)/\w2.cell? ⟨g,0,none⟩=some (aM ad a)/\w2.cell? ⟨bH ad (U.root a),0,none⟩=some (.string (bs (U.node (U.root a)).name))) /\
   Calls prog 49 #[aA b,aM ad a,.bool ((U.node (U.root a)).name==bA)] w2 fun e w3=>e=.returned (.tuple #[])/\(w3.cell? ⟨bH ad (U.root i),1,none⟩=some (.slice (some ⟨g,0,none⟩) 2 cap)/\w3.cell? ⟨g,0,none⟩=some (aM ad a)/\w3.cell? ⟨bH ad (U.root a),0,none⟩=some (.string (bs (U.node (U.root a)).name))) /\
   Calls prog 46 #[aA b,.string ⟨#[32,45,62,32]⟩] w3 fun e w4=>(∃k,e=.returned (.tuple #[.int .i64 k,.nilIface]))/\(w4.cell? ⟨bH ad (U.root i),1,none⟩=some (.slice (some ⟨g,0,none⟩) 2 cap)/\w4.cell? ⟨g,1,none⟩=some (aM ad c)) /\
   Calls prog 17 #[aA b,aM ad c] w4 fun e w5=>e=.returned (.tuple #[])/\Hid (Ws ar ad X rk U w0 b mb (l++(cQ ((U.node (U.root a)).name==bA) s1++[32,45,62,32]++s2)) ls2 w5):=by
 have hr:=h.st.ok.AK hi;have ha:a<U.nodes.length:=h.st.ok.AQ hr (by rw[Lu];exact mem_cons_self ..);have Qn:=h.st.ok.AK ha;obtain⟨a1,m,cap,hm,_,Kh,Jn⟩:=h.node hr;obtain⟨a2,m2,cap2,_,_,Uo,_⟩:=h.node Qn;rw[Lu]at hm Jn;have hm:m=2:=hm;subst hm;obtain⟨g,rfl,Ov⟩:=Jn 0 a rfl;obtain⟨g',e,C0⟩:=Jn 1 c rfl;cases e;simp only[length_append]at Jm;have Pc:([32,45,62,32]:Nm).length=4:=rfl;refine⟨g,cap,(h.root hi).mono ?_⟩;rintro e w1⟨rfl,h1⟩;refine⟨rfl,h1.isL hr hl,⟨(Kh _ _ _ h1).1,(Kh _ _ _ h1.drew).2,(Ov _ _ _ h1.drew).2,(Uo _ _ _ h1.drew).1⟩,(h1.drew.root ha).mono ?_⟩;rintro e w2⟨rfl,h2⟩;refine⟨rfl,⟨(Kh _ _ _ h2).2,(Ov _ _ _ h2).2,(Uo _ _ _ h2).1⟩,(mX _ hA l w2 h2 (by omega)).mono ?_⟩;rintro e w3⟨rfl,h3⟩;have h3:=h3.out;refine⟨rfl,⟨(Kh _ _ _ h3).2,(Ov _ _ _ h3).2,(Uo _ _ _ h3).1⟩,(h3.text [32,45,62,32] (by simp only[length_append];omega)).mono ?_⟩;rintro e w4⟨hk,h4⟩;have h4:=h4.out;refine⟨hk,⟨(Kh _ _ _ h4).2,(C0 _ _ _ h4).2⟩,(hC _ w4 h4 (by simp only[length_append];omega)).mono ?_⟩;rintro e w5⟨rfl,h5⟩;refine⟨rfl,?_⟩;rw[<- append_assoc,<- append_assoc];exact h5
def MP{a c:Nat}{s1 s2:Nm}{ls1 ls2:List Nat}(h:Ws ar ad X rk U w0 b mb l ls w)(hi:i<U.nodes.length)(hl:U.AC (U.root i)=false)(Lr:(U.node (U.root i)).name=bA)(Lu:(U.node (U.root i)).parts=[a,c])
  (hA:Cz ar ad X rk U w0 b mb 17 #[aM ad a] s1 ls ls1) (hC:Cz ar ad X rk U w0 b mb 17 #[aM ad c] s2 ls1 ls2)
  (Jm:l.length+(cQ ((U.node (U.root a)).name==bA) s1++[32,45,62,32]++s2).length<=100000000000000) :
  Calls prog 17 #[aA b,aM ad i] w fun e w'=>e=.returned (.tuple #[])/\Hid (Ws ar ad X rk U w0 b mb (l++(cQ ((U.node (U.root a)).name==bA) s1++[32,45,62,32]++s2)) ls2 w'):=by
 obtain⟨g,cap,Lh⟩:=EY h hi hl Lu hA hC Jm;generalize hW:(fun w'=>Ws ar ad X rk U w0 b mb (l++(cQ ((U.node (U.root a)).name==bA) s1++[32,45,62,32]++s2)) ls2 w')=W at *;have Ry:∀w',Ws ar ad X rk U w0 b mb (l++(cQ ((U.node (U.root a)).name==bA) s1++[32,45,62,32]++s2)) ls2 w'=W w':=fun w'=>by rw[<- hW]
 simp only[Ry]at Lh ⊢;have Kz:((bs (U.node (U.root i)).name).toList==[45,62])=true:=by rw[tC,Lr];rfl
 have Mf:((bs (U.node (U.root a)).name).toList==[45,62])=((U.node (U.root a)).name==bA):=tC _ _;have HC:=aC Lh;clear Lh hW Ry h hl hA hC Jm Lu Lr;unfold aM aA at *;generalize ((U.node (U.root a)).name==bA)=br at *;generalize bs (U.node (U.root i)).name=nm1 at *;generalize bs (U.node (U.root a)).name=nm2 at *;generalize bH ad i=bi at *;generalize bH ad a=ba at *;generalize bH ad c=bc at *;generalize bH ad (U.root i)=ri at *;generalize bH ad (U.root a)=ra at *;go_enter func17,ntmps17;go_wp2_with fail;refine(HC.out).mono ?_;rintro e w1⟨rfl,h1,⟨c0,c1,c2,c3⟩,h2⟩;have H1:=aC h1;have H2:=aC h2;clear HC h1 h2;go_wp2_with fail;refine(H1.out).mono ?_;rintro e w1'⟨rfl,rfl⟩;go_wp2_with fail
 go_region_held3 (fun w'=>w'.cell? ⟨ri,1,none⟩=some (.slice (some ⟨g,0,none⟩) 2 cap)/\w'.cell? ⟨g,0,none⟩=some (.pointer (some ⟨ba,0,none⟩))/\w'.cell? ⟨ra,0,none⟩=some (.string nm2)) (with_reducible exact⟨c1,c2,c3⟩)
  (first|(go_at_call 44;refine(H2.out).mono ?_;rintro e u2⟨rfl,⟨c1,c2,c3⟩,hp⟩;have HP:=aC hp;clear hp)|(go_at_call 49;refine(HP.out).mono ?_;rintro e u3⟨rfl,⟨c1,c2,c3⟩,hs⟩;have HS:=aC hs;clear hs))
 all_goals
  go_wp2_with fail;refine(HS.out).mono ?_;rintro e u4⟨⟨kk,rfl⟩,⟨c1,c2⟩,hw⟩;have HWR:=aC hw;clear hw;go_wp2_with fail;refine(HWR.out).mono ?_;rintro e u5⟨rfl,HW⟩;go_wp2;go_end0;exact⟨rfl,HW⟩
end
end
section
open Go.RowKit
section
variable {ar:Nm->Nat}{ad:List Nat}{X:Nat->Prop}{rk:Nat->Nat}{U:TS}{w0 w w':World}{b mb i n:Nat}{l s:Nm}{ls ls':List Nat}
def WLd(ar:Nm->Nat)(ad:List Nat)(X:Nat->Prop)(rk:Nat->Nat)(U:TS)(w0:World)(b mb:Nat)(g:List Nat->Nat->Option (Nm×List Nat))(ps:List Nat)(t:Nm)(ls':List Nat)(k:Nat)(u:World):Prop:=
 ∃lk lsk s2,wr.wrL U g lsk (ps.drop k)=some (s2,ls')/\lk++s2=t/\Ws ar ad X rk U w0 b mb lk lsk u
def PW{α:Type}{ps:List α}{k:Nat}(h:k<ps.length):∃p,ps[k]?=some p/\ps.drop k=p::ps.drop (k+1):=⟨ps[k],by simp[h],List.drop_eq_getElem_cons h⟩
def zD{nm t:Nm}(h:Ws ar ad X rk U w0 b mb l ls w)(hi:i<U.nodes.length)(hl:U.AC (U.root i)=false)(Lr:(U.node (U.root i)).name=nm)
  (hs:wr.wrL U (wr U n) ls (U.node (U.root i)).parts=some (s,ls')) (ht:l++(nm++s)=t) (Jm:t.length<=100000000000000)
  (hP:∀p∈(U.node (U.root i)).parts,∀(ls1:List Nat)(s1:Nm)(ls2:List Nat),wr U n ls1 p=some (s1,ls2)->ls2.length<=ls'.length->Cz ar ad X rk U w0 b mb 17 #[aM ad p] s1 ls1 ls2) :
  ∃a m c,m<=9223372036854775807/\Calls prog 44 #[aM ad i] w fun e w1=>e=.returned (aM ad (U.root i))/\Calls prog 45 #[aM ad (U.root i)] w1 (fun e w'=>e=.returned (.bool false)/\w'=w1) /\
   (w1.cell? ⟨bH ad (U.root i),0,none⟩=some (.string (bs nm))/\w1.drew.cell? ⟨bH ad (U.root i),0,none⟩=some (.string (bs nm))) /\
   Calls prog 46 #[aA b,.string (bs nm)] w1.drew fun e w2=>(∃k,e=.returned (.tuple #[.int .i64 k,.nilIface]))/\w2.cell? ⟨bH ad (U.root i),0,none⟩=some (.string (bs nm))/\w2.cell? ⟨bH ad (U.root i),1,none⟩=some (.slice a m c) /\
   ∃LD:Nat->World->Prop,Hid (LD 0 w2) /\
    (∀k u,LD k u->k<m->∃g bp,a=some ⟨g,0,none⟩/\g<u.heap.size/\u.cell? ⟨g,k,none⟩=some (aA bp)/\Calls prog 50 #[aA b,.int .u8 32] u fun e u1=>e=.returned .nilIface/\Calls prog 44 #[aA bp] u1 fun e u2=>∃rp a2 m2 c2,e=.returned (aA rp)/\u2.cell? ⟨rp,1,none⟩=some (.slice a2 m2 c2) /\
     ∃br,(decide ((0:Int)<(m2:Int))=br/\decide (0<m2)=br)/\Calls prog 49 #[aA b,aA bp,.bool br] u2 fun e u3=>e=.returned (.tuple #[])/\Hid (LD (k+1) u3)) /\
    ∀u,LD m u->Ws ar ad X rk U w0 b mb t ls' u:=by
 have hr:=h.st.ok.AK hi;obtain⟨a,m,c,hm,Ob,Kh,Jn⟩:=h.node hr;have Oh:l.length+(nm.length+s.length)=t.length:=by rw[<- ht];simp
 refine⟨a,m,c,Ob,(h.root hi).mono ?_⟩;rintro e w1⟨rfl,h1⟩;rw[Lr]at Kh;refine⟨rfl,h1.isL hr hl,⟨(Kh _ _ _ h1).1,(Kh _ _ _ h1.drew).1⟩,(h1.drew.text nm (by omega)).mono ?_⟩;rintro e w2⟨hk,h2⟩;have h2:=h2.out;refine⟨hk,(Kh _ _ _ h2).1,(Kh _ _ _ h2).2,WLd ar ad X rk U w0 b mb (wr U n) (U.node (U.root i)).parts t ls',aC ⟨l++nm,ls,s,hs,by rw[append_assoc];exact ht,h2⟩,?_,?_⟩
 ·rintro k u⟨lk,lsk,s2,e1,e2,hu⟩ Zb;obtain⟨p,hp,hd⟩:=PW (ps:=(U.node (U.root i)).parts) (k:=k) (by omega);have Xe:=List.mem_of_getElem? hp;have Nb:=h.st.ok.AQ hr Xe;have hrp:=h.st.ok.AK Nb;obtain⟨a2,m2,c2,Ly,_,H9,_⟩:=h.node hrp;obtain⟨g,rfl,hg⟩:=Jn k p hp;rw[hd,wr.wrL]at e1
  cases hx:wr U n lsk p with
  |none=>rw[hx]at e1;cases e1
  |some y=>
   obtain⟨s1,ls1⟩:=y;rw[hx]at e1;simp only at e1
   cases hy:wr.wrL U (wr U n) ls1 ((U.node (U.root i)).parts.drop (k+1))with
   |none=>rw[hy]at e1;cases e1
   |some z=>
    obtain⟨s3,ls3⟩:=z;rw[hy]at e1;obtain⟨rfl,rfl⟩:32::cQ (decide (0<(U.node (U.root p)).parts.length)) s1++s3=s2/\ls3=ls':=by simpa using e1
    have htl2:lk.length+(1+((cQ (decide (0<(U.node (U.root p)).parts.length)) s1).length+s3.length))=t.length:=by rw[<- e2];simp;omega
    have O7:=yG (KU n) _ _ _ _ hy;refine⟨g,bH ad p,rfl,(hg _ _ _ hu).1,(hg _ _ _ hu).2,(hu.byte 32 (by omega)).mono ?_⟩;rintro e u1⟨rfl,h3⟩;have h3:=h3.out;refine⟨rfl,(h3.root Nb).mono ?_⟩;rintro e u2⟨rfl,h4⟩;refine⟨_,a2,m2,c2,rfl,(H9 _ _ _ h4).2,decide (0<(U.node (U.root p)).parts.length),?_,(mX _ (hP p Xe lsk s1 ls1 hx O7) (lk++[32]) u2 h4 (by rw[length_append,List.length_singleton];omega)).mono ?_⟩
    ·rw[Ly];exact⟨by congr 1;exact propext ⟨fun h=>by omega,fun h=>by omega⟩,rfl⟩
    rintro e u3⟨rfl,h5⟩;refine⟨rfl,aC ⟨_,ls1,s3,hy,?_,h5.out⟩⟩;rw[<- e2];simp
 ·rintro u⟨lk,lsk,s2,e1,e2,hu⟩;rw[List.drop_eq_nil_of_le (by omega),wr.wrL]at e1;cases e1;rw[append_nil]at e2;subst e2;exact hu
def MO{nm t:Nm}(h:Ws ar ad X rk U w0 b mb l ls w)(hi:i<U.nodes.length)(hl:U.AC (U.root i)=false)(Lr:(U.node (U.root i)).name=nm)(Yy:nm≠bA)
  (hs:wr.wrL U (wr U n) ls (U.node (U.root i)).parts=some (s,ls')) (ht:l++(nm++s)=t) (Jm:t.length<=100000000000000)
  (hP:∀p∈(U.node (U.root i)).parts,∀(ls1:List Nat)(s1:Nm)(ls2:List Nat),wr U n ls1 p=some (s1,ls2)->ls2.length<=ls'.length->Cz ar ad X rk U w0 b mb 17 #[aM ad p] s1 ls1 ls2) :
  Calls prog 17 #[aA b,aM ad i] w fun e w'=>e=.returned (.tuple #[])/\Hid (Ws ar ad X rk U w0 b mb t ls' w'):=by
 obtain⟨a,m,c,Ob,Lh⟩:=zD h hi hl Lr hs ht Jm hP
 have Kz:((bs nm).toList==[45,62])=false:=by
  rw[tC]
  simpa [bA]using Yy
 generalize hW:(fun w'=>Ws ar ad X rk U w0 b mb t ls' w')=W at *;have Ry:∀w',Ws ar ad X rk U w0 b mb t ls' w'=W w':=fun w'=>by rw[<- hW]
 simp only[Ry]at Lh ⊢;have HC:=aC Lh;clear Lh hW Ry h hl hP Jm ht hs Lr Yy;unfold aM aA at *;generalize bs nm=nb at *;generalize bH ad i=bi at *;generalize bH ad (U.root i)=ri at *;go_enter func17,ntmps17;go_wp2_with fail;refine(HC.out).mono ?_;rintro e w1⟨rfl,h1,⟨c0,c0d⟩,h2⟩;have H1:=aC h1;have H2:=aC h2;clear HC h1 h2;go_wp2_with fail;refine(H1.out).mono ?_;rintro e w1'⟨rfl,rfl⟩;go_wp2_with fail
 go_region_held3 (fun w'=>w'.cell? ⟨ri,0,none⟩=some (.string nb)) (with_reducible exact c0d)
  (first|(go_at_call 46;refine(H2.out).mono ?_;rintro e u2⟨⟨kk,rfl⟩,c0d,c1,LD,HL,hs,he⟩;have HS:=aC hs;have HE:=aC he;clear hs he))
 all_goals
  go_wp2_with fail
  go_loopg [21] m (fun gk v wr=>∃k,v=.int .i64 (k:Nat)/\k+gk=m/\Hid (LD k wr))
  case atStart=>exact⟨0,rfl,by omega,HL⟩
  case round=>
   clear HL;obtain⟨k,rfl,hk,HL⟩:=hrel
   by_cases Js:k<m
   ·obtain⟨g,bp,rfl,f1,f2,hc⟩:=HS.out _ _ HL.out Js;have Jt:(k:Int)<(m:Int):=by omega
    have HC:=aC hc;clear hc HS HE HL;go_wp2_with fail;refine(HC.out).mono ?_;rintro e u3⟨rfl,hc⟩;have HC:=aC hc;clear hc;go_wp2_with fail;refine(HC.out).mono ?_;rintro e u4⟨rp,a2,m2,c2,rfl,f3,br,⟨hbr,hbr2⟩,hc⟩;have HC:=aC hc;clear hc;go_wp2_with fail;refine(HC.out).mono ?_;rintro e u5⟨rfl,HL⟩;clear HC;go_wp2_with fail
    go_roundg (m-(k+1))
    case rel=>exact⟨k+1,by simp,by omega,HL⟩
    case measure=>omega
   ·have Zb:k=m:=by omega
    subst Zb;have Jt:¬(k:Int)<(k:Int):=by omega
    have HW:=aC (HE.out _ HL.out);clear HS HE HL;go_wp2;go_end0;exact⟨rfl,HW⟩
def XR(Lb:U.Ok ar)(h2:ar bA=2):∀(n i:Nat)(ls:List Nat)(s:Nm)(ls':List Nat),wr U n ls i=some (s,ls')->i<U.nodes.length->ls'.length<=259->Cz ar ad X rk U w0 b mb 17 #[aM ad i] s ls ls':=by
 intro n
 induction n with
 |zero=>intro i ls s ls' h;cases h
 |succ n ih=>
  intro i ls s ls' h hi Nl l w hW Jm;have hr:=Lb.AK hi;rw[wr]at h
  by_cases hl:U.AC (U.root i)=true
  ·rw[if_pos hl]at h
   have z8:s=dO (gQ ls (U.root i)).1/\ls'=(gQ ls (U.root i)).2/\(gQ ls (U.root i)).1<260/\ls.length<=259:=by
    unfold gQ
    cases hx:ls.idxOf? (U.root i)with
    |some k=>
     rw[hx]at h;cases h
     have hk:k<ls.length:=by
      have:=List.idxOf?_eq_some_iff.1 hx;obtain⟨h1,_⟩:=this;exact h1
     exact⟨rfl,rfl,by show k<260;omega,Nl⟩
    |none=>
     rw[hx]at h;cases h;rw[length_append,List.length_singleton]at Nl;exact⟨rfl,rfl,by show ls.length<260;omega,by omega⟩
   obtain⟨rfl,rfl,h3,h4⟩:=z8;exact FM hW hi hl h3 (by omega) (by omega)
  ·have B7:U.AC (U.root i)=false:=by simpa using hl
   rw[if_neg hl]at h
   by_cases ha:(U.node (U.root i)).name=bA
   ·rw[if_pos ha]at h
    have t9:(U.node (U.root i)).parts.length=2:=by
     have:=(Lb.parts _ _ (TS.AR hr)).2.2 (by rw[ha];decide);rw[ha,h2]at this;exact this
    match Lu:(U.node (U.root i)).parts,t9 with
    |[a,c],_=>
     rw[Lu]at h;simp only at h;have Kv:a<U.nodes.length:=Lb.AQ hr (by rw[Lu];exact mem_cons_self ..);have Jw:c<U.nodes.length:=Lb.AQ hr (by rw[Lu];exact mem_cons_of_mem _ (mem_cons_self ..))
     cases hx:wr U n ls a with
     |none=>rw[hx]at h;cases h
     |some y=>
      obtain⟨s1,ls1⟩:=y;rw[hx]at h;simp only at h
      cases hy:wr U n ls1 c with
      |none=>rw[hy]at h;cases h
      |some z=>
       obtain⟨s2,ls2⟩:=z;rw[hy]at h;cases h;have hm:=KU _ _ _ _ _ hy;exact MP hW hi B7 ha Lu (ih a ls s1 ls1 hx Kv (by omega)) (ih c ls1 s2 _ hy Jw Nl) Jm
   ·rw[if_neg ha]at h
    cases hx:wr.wrL U (wr U n) ls (U.node (U.root i)).parts with
    |none=>rw[hx]at h;cases h
    |some y=>
     obtain⟨s1,ls1⟩:=y;rw[hx]at h;cases h;exact MO hW hi B7 rfl ha hx rfl (by rw[length_append];exact Jm) (fun p hp ls1 s1 ls2 hw hle=>ih p ls1 s1 ls2 hw (Lb.AQ hr hp) (by omega))
end
end
section
open Go.RowKit
section
variable {ar:Nm->Nat}{ad:List Nat}{X:Nat->Prop}{rk:Nat->Nat}{U:TS}{w0 w w':World}{i:Nat}{s:Nm}{ls':List Nat}
def Ws.start(h:aO ar ad X rk U w):Ws ar ad X rk U w (w.heap.size+1) w.heap.size [] [] ((w.alloc (.map #[] 0)).alloc (.cells #[.pointer none,.slice none 0 0,.map (some w.heap.size)] cU)):=by
 have Ke:(w.alloc (.map #[] 0)).heap.size=w.heap.size+1:=by simp
 have hb:((w.alloc (.map #[] 0)).alloc (.cells #[.pointer none,.slice none 0 0,.map (some w.heap.size)] cU)).heap[w.heap.size+1]?=some (.cells #[.pointer none,.slice none 0 0,.map (some w.heap.size)] cU (0,0)):=by
  rw[<- Ke];exact(MapKept.heap_alloc _ _).1
 have hold:∀k,k<w.heap.size->((w.alloc (.map #[] 0)).alloc (.cells #[.pointer none,.slice none 0 0,.map (some w.heap.size)] cU)).heap[k]?=w.heap[k]?:=fun k hk=>by
  rw[Below.heap_alloc _ _ _ (by omega),Below.heap_alloc _ _ _ hk]
 refine⟨((Kn.refl _ w).alloc _).alloc _,(h.alloc _).alloc _,inl ⟨by omega,_,hb,World.ownsRow_nil _ _ _ _,by simp[ownBlock]⟩,⟨_,(aQ.made _ _ w).kept ?_,fun i _=>rfl,fun b hb=>(by cases hb),by simp⟩,le_refl _,h,fun k hk o _=>?_⟩
 ·exact Below.heap_alloc _ _ _ (by omega)
 ·simp[cell?,hold k (h.BJ hk)]
def KT(ar:Nm->Nat)(ad:List Nat)(X:Nat->Prop)(rk:Nat->Nat)(U:TS)(s:Nm)(w:World)(e:Ending)(w':World):Prop:=
 e=.returned (.string (bs s))/\aO ar ad X rk U w'/\Kn (·∈ad) w w'
def KD(h:aO ar ad X rk U w)(h2:ar bA=2)(hi:i<U.nodes.length)(hw:wr U dF [] i=some (s,ls'))(Nl:ls'.length<=259)(Jm:s.length<=100000000000000)(Ju:s≠[]) :
  Calls prog 9 #[aM ad i] w (KT ar ad X rk U s w):=by
 have Lh:Calls prog 17 #[aA (w.heap.size+1),aM ad i] ((w.alloc (.map #[] 0)).alloc (.cells #[.pointer none,.slice none 0 0,.map (some w.heap.size)] cU)) fun e w1=>e=.returned (.tuple #[])/\Calls prog 18 #[aA (w.heap.size+1)] w1 fun e w2=>e=.returned (.string (bs s))/\KT ar ad X rk U s w e w2:=by
  refine(XR h.ok h2 _ _ _ _ _ hw hi Nl [] _ (Ws.start h) (by simpa using Jm)).mono ?_;rintro e w1⟨rfl,h1⟩;have h1:=h1.out;rw[nil_append]at h1;refine⟨rfl,(SM s h1.bd Ju).mono ?_⟩;rintro e w2⟨rfl,h3⟩;obtain⟨hB,c,hb⟩:=h1.bd.block;exact⟨rfl,rfl,h1.st.fw h3 ⟨_,_,hb⟩,h1.kn.fw h3 hB⟩
 have HC:=aC Lh;clear Lh h hw Jm Ju Nl hi h2;generalize KT ar ad X rk U s w=Q at *;unfold aM aA at *;generalize bH ad i=bi at *;generalize bs s=x at *;have O8:(Instr.makeMap Gw none).run prog w=.ok (.map (some w.heap.size)) (w.alloc (.map #[] 0)):=rfl;go_enter func9,ntmps9;go_wp2_with fail;refine(HC.out).mono ?_;rintro e w1⟨rfl,hc⟩;have HC:=aC hc;clear hc;go_wp2_with fail;refine(HC.out).mono ?_;rintro e w2⟨rfl,hq⟩;go_wp2;exact hq
end
end
section
open Go.RowKit
def lB{ops:Array Oper}{o:Oper}{a:Act}{w w':World}{K:Act->World->Prop}{Q:Exit->Act->World->Prop}{E:Prop}{v' vs vx:Value}(Vx:o.guard=none)(s x:Operand)(ts:Array TypeId)
  (ho:o.op=.call { callee:=.builtin .append,args:=#[s,x],argTypes:=ts }) (hs:a.eval s=vs) (hx:a.eval x=vx) (hr:(Builtin.append_ ts o.type #[vs,vx]).run prog w=.ok v' w') (h:K (a.put o.dst v') w') :
  if Region.wanted o (yielded ops a.tmps)=true then Oper.wp prog o a w K Q else E:=by
 have hw:Region.wanted o (yielded ops a.tmps)=true:=by simp[Region.wanted,Vx]
 rw[if_pos hw];unfold Oper.wp execOp;simp only[ho,resolve,invoke,builtin,Sem.run_bind,Sem.run_pure,Result.andThen_ok,List.map_toArray,map_cons,List.map_nil,hs,hx,hr];exact h
section
variable {w u u':World}{ad:List Nat}{rk:Nat->Nat}{p:PS}{bv v:Value}{k:Nat}{ar:Nm->Nat}
structure It(ar:Nm->Nat)(ad:List Nat)(rk:Nat->Nat)(p:PS)(bv:Value)(w:World)(k:Nat)(v:Value)(u:World):Prop where
 st:aO ar ad (fun _=>False) rk p.sto u
 bg:u.ownsRow 0 cF 2 bv p.binds.length (cK ad p.binds)
 ln:u.ownsRow w.heap.size aI 1 v k (((cZ p).take k).map bM)
 bw:Below w.heap.size w u
def XJ(p:PS):Prop:=∀b∈p.binds,b.2<p.sto.nodes.length/\b.1.length<=100000000/\∃ls,wr p.sto dF [] b.2=some (p.sto.text b.2,ls)/\ls.length<=200/\(p.sto.text b.2).length<=100000000000/\p.sto.text b.2≠[]
def IJ{p:PS}{k:Nat}{b:Nm×Nat}(hb:p.binds[k]?=some b):(cZ p).take (k+1)=(cZ p).take k++[b.1++[32,58,32]++p.sto.text b.2]:=by
 unfold cZ;rw[List.take_add_one,getElem?_map,hb];rfl
def yQ(h:It ar ad rk p bv w k v u)(Um:∀b∈ad,w.heap.size<=b)(hT:XJ p)(h2:ar bA=2)(hk:k<p.binds.length)(hn:p.binds.length<=100000){a:Option Addr}{m c:Nat}(Zm:bv=.slice a m c) :
  ∃g tx bt,a=some ⟨g,0,none⟩/\u.cell? ⟨g,k*2,none⟩=some (.string tx)/\u.cell? ⟨g,k*2+1,none⟩=some (aA bt)/\g<u.heap.size/\tx.size<=100000000 /\
   Calls prog 9 #[aA bt] (u.alloc (.cells #[.string tx,aA bt] cF)).drew fun e u1=>∃sx,e=.returned (.string sx)/\sx.size<=100000000000/\(u1.cell? ⟨u.heap.size,0,none⟩=some (.string tx)/\u1.cell? ⟨u.heap.size,1,none⟩=some (aA bt)) /\
    ((u1.alloc (.cells #[.string (tx++⟨#[32,58,32]⟩++sx)] aI)).cell? ⟨u.heap.size,0,none⟩=some (.string tx)/\(u1.alloc (.cells #[.string (tx++⟨#[32,58,32]⟩++sx)] aI)).cell? ⟨u.heap.size,1,none⟩=some (aA bt)) /\
    ∃v' u2,(Builtin.append_ #[22,22] 22 #[v,.slice (some ⟨u1.heap.size,0,none⟩) 1 1]).run prog (u1.alloc (.cells #[.string (tx++⟨#[32,58,32]⟩++sx)] aI))=.ok v' u2/\(u2.cell? ⟨u.heap.size,0,none⟩=some (.string tx)/\u2.cell? ⟨u.heap.size,1,none⟩=some (aA bt))/\Hid (It ar ad rk p bv w (k+1) v' u2):=by
 have hb:p.binds[k]?=some p.binds[k]:=getElem?_eq_getElem hk;have Jv:=List.mem_of_getElem? hb;generalize p.binds[k]=b at hb Jv;obtain⟨nm,t⟩:=b;obtain⟨ht,Lr,ls,hw,Nl,Oh,Ju⟩:=hT _ Jv;dsimp only at ht Lr hw Oh Ju;subst Zm
 obtain⟨g,hg⟩:∃g,a=some ⟨g,0,none⟩:=by
  rcases aD h.bg with⟨_,h0⟩|⟨g,cap,e⟩
  ·omega
  ·cases e;exact⟨g,rfl⟩
 subst hg;obtain⟨b1,b2⟩:=tE (ad:=ad) hb
 have hm:m=p.binds.length:=by
  rcases aD h.bg with⟨e,_⟩|⟨g,cap,e⟩
  ·cases e
  ·cases e;rfl
 subst hm;have Nh:u.cell? ⟨g,k*2,none⟩=some (.string (bs nm)):=by rw[h.bg.cellAt (k*2) (by omega),b1]
 have Ny:u.cell? ⟨g,k*2+1,none⟩=some (aM ad t):=by rw[h.bg.cellAt (k*2+1) (by omega),b2]
 refine⟨g,bs nm,bH ad t,rfl,Nh,Ny,(h.bg.lt g rfl).2,by rw[xA];exact Lr,?_⟩;have Jz:aO ar ad (fun _=>False) rk p.sto (u.alloc (.cells #[.string (bs nm),aA (bH ad t)] cF)).drew:=(h.st.alloc _).kept (fun _ _=>rfl) (fun _ _ _ _ _=>rfl);refine(KD Jz h2 ht hw (by omega) (by omega) Ju).mono ?_;rintro e u1⟨rfl,h3,h4⟩;have hsz0:=h.bw.size;have U4:(u.alloc (.cells #[.string (bs nm),aA (bH ad t)] cF)).heap[u.heap.size]?=some (.cells #[.string (bs nm),aA (bH ad t)] cF (0,0)):=(MapKept.heap_alloc _ _).1;have M6:u.heap.size+1<=u1.heap.size:=by have:=h4.size;simpa using this
 have Nu:∀(q:Nat)(cc:Array Value)(ty:TypeId)(f:Nat×Nat),ty≠aT->(u.alloc (.cells #[.string (bs nm),aA (bH ad t)] cF)).heap[q]?=some (.cells cc ty f)->u1.heap[q]?=some (.cells cc ty f):=fun q cc ty f Pi hq=>by
  rw[h4.block q (aB hq) (Jz.BI (show (u.alloc (.cells #[.string (bs nm),aA (bH ad t)] cF)).drew.heap[q]?=_ from hq) (fun c' f' e=>by cases e;exact Pi rfl))];exact hq
 have hold:∀(q:Nat)(cc:Array Value)(ty:TypeId)(f:Nat×Nat),ty≠aT->u.heap[q]?=some (.cells cc ty f)->u1.heap[q]?=some (.cells cc ty f):=fun q cc ty f Pi hq=>Nu q cc ty f Pi (by rw[Below.heap_alloc _ _ _ (aB hq)];exact hq);have Ql:=Nu _ _ _ _ (by decide) U4
 have hbw1:Below w.heap.size w u1:=by
  refine h.bw.trans ⟨?_,?_,?_,by omega,fun q hq=>?_⟩
  ·exact h4.os
  ·exact h4.tape
  ·exact h4.output
  ·rw[h4.block q (by simp;omega) (fun hm=>by have:=Um q hm;omega)];exact Below.heap_alloc _ _ _ (by omega)
 have E9:u1.ownsRow w.heap.size aI 1 v ((cZ p).take k).length (((cZ p).take k).map bM):=by
  have Lv:((cZ p).take k).length=k:=by rw[length_take];unfold cZ;rw[length_map];omega
  rw[Lv];exact aE h.ln fun q cc f _ hq=>by rw[hold q cc _ f (by decide) hq,hq]
 have hbg1:u1.ownsRow 0 cF 2 (.slice (some ⟨g,0,none⟩) p.binds.length c) p.binds.length (cK ad p.binds):=aE h.bg fun q cc f _ hq=>by rw[hold q cc _ f (by decide) hq,hq]
 have hx:bs nm++⟨#[32,58,32]⟩++bs (p.sto.text t)=bs (nm++[32,58,32]++p.sto.text t):=by
  show bs nm++bs [32,58,32]++bs (p.sto.text t)=_;rw[xB,xB]
 refine⟨bs (p.sto.text t),rfl,by rw[xA];exact Oh,⟨by simp[cell?,Ql],by simp[cell?,Ql]⟩,?_,?_⟩
 ·have:=Below.heap_alloc u1 (.cells #[.string (bs nm++⟨#[32,58,32]⟩++bs (p.sto.text t))] aI) u.heap.size (by omega);exact⟨by simp[cell?,this,Ql],by simp[cell?,this,Ql]⟩
 rw[hx];obtain⟨v',u2,Jo,La,Lf⟩:=iA (ty:=22) (nm++[32,58,32]++p.sto.text t) E9 (by rw[length_take];omega) (by omega);have Lv:((cZ p).take k).length=k:=by rw[length_take];unfold cZ;rw[length_map];omega
 have J9:∀(q:Nat)(cc:Array Value)(ty:TypeId)(f:Nat×Nat),ty≠aI->u1.heap[q]?=some (.cells cc ty f)->u2.heap[q]?=some (.cells cc ty f):=fun q cc ty f Pi hq=>by
  have Yg:(u1.alloc (.cells #[.string (bs (nm++[32,58,32]++p.sto.text t))] aI)).heap[q]?=some (.cells cc ty f):=by rw[Below.heap_alloc _ _ _ (aB hq)];exact hq
  rw[Lf.block q (aB Yg) (fun e=>?_)]
  ·exact Yg
  ·rcases E9.2 with⟨rfl,_⟩|⟨g2,cap2,cur2,rfl,_,Un,_⟩
   ·simp[ownBlock]at e
   ·simp only[ownBlock,Option.some.injEq]at e;subst e;rw[hq]at Un;cases Un;exact Pi rfl
 have Ry:=J9 _ _ _ _ (by decide) Ql;refine⟨v',u2,Jo,⟨by simp[cell?,Ry],by simp[cell?,Ry]⟩,aC ⟨?_,?_,?_,?_⟩⟩
 ·refine h3.kept (fun q hq=>?_) (fun q cc f _ hq=>?_)
  ·obtain⟨cc,f,hc⟩:=h3.isT hq;rw[hc];exact J9 _ _ _ _ (by decide) hc
  ·rw[hq];exact J9 _ _ _ _ (by decide) hq
 ·exact aE hbg1 fun q cc f _ hq=>by rw[J9 q cc _ f (by decide) hq,hq]
 ·rw[IJ hb];have:((cZ p).take k++[nm++[32,58,32]++p.sto.text t]).length=k+1:=by rw[length_append,Lv];rfl
  rw[this]at La;exact La
 ·exact(hbw1.alloc (by omega) _).grown Lf (by simp;omega) (fun q hq=>(E9.lt q hq).1)
end
end
section
open Go.RowKit
section
variable {mb tb bb:Nat}{A:List Nm}{w:World}
def Bj:∀(l:List (Value×Value)) (i:Nat) (a:Value×Value),l[i]?=some a->(l.flatMap fun a=>[a.1,a.2])[i*2]?=some a.1/\(l.flatMap fun a=>[a.1,a.2])[i*2+1]?=some a.2:=by
 intro l
 induction l with
 |nil=>intro i a h;simp at h
 |cons b r ih=>
  intro i a h
  cases i with
  |zero=>cases h;exact⟨rfl,rfl⟩
  |succ i=>
   have:=ih i a h;rw[show (i+1)*2=i*2+1+1 by omega];exact this
def Each.DK{α β:Type}{R:α->β->Prop}:∀{l:List α}{k:List β},l.length=k.length->(∀(j:Nat)(a:α)(b:β),l[j]?=some a->k[j]?=some b->R a b)->Each R l k:=by
 intro l
 induction l with
 |nil=>intro k h _;cases k with|nil=>trivial|cons=>cases h
 |cons a r ih=>
  intro k h hR
  cases k with
  |nil=>cases h
  |cons b k=>exact⟨hR 0 a b rfl rfl,ih (by simpa using h) fun j x y h1 h2=>hR (j+1) x y h1 h2⟩
def Iv(mb tb bb:Nat)(A:List Nm)(pts:List Pt)(cds:List Cd)(w:World)(e:Ending)(u:World):Prop:=
 ∃a n c,e=.returned (.slice a n c)/\BM mb tb bb A A.length u/\Kn (fun k=>k=tb\/k=bb) w u/\∃xs,Each (fP mb u) cds xs/\jV u pts xs (.slice a n c)
def oS.fin{pts:List Pt}{cds:List Cd}{v:Value}{wr:World}(h:oS mb tb bb A w pts cds pts.length v wr)(hl:cds.length=pts.length)(h0:0<pts.length)(h1:pts.length<=1000) :
  ∃a n c,v=.slice a n c/\Iv mb tb bb A pts cds w (.returned (.slice a n c)) wr:=by
 obtain⟨l,q1,⟨q2,⟨_,q3⟩|⟨g,cap,cs,rfl,_,q3,_,_,_,q4,_⟩⟩,q5⟩:=h.row
 ·omega
 ·refine⟨_,_,_,rfl,_,_,_,rfl,h.bm,h.kn,l.map (·.2),Each.DK (by rw[length_map];omega) fun j c x h2 h3=>?_,by rw[length_map];omega,by rw[length_map];omega,g,cap,cs,by rw[length_map,q1],q3,fun i p x h2 h3=>?_⟩
  ·rw[getElem?_map]at h3;obtain⟨a,ha,rfl⟩:=map_eq_some_iff.1 h3;have hj:=(List.getElem?_eq_some_iff.1 h2).1;exact(q5 j _ c a (getElem?_eq_getElem (by omega)) h2 ha).2
  ·rw[getElem?_map]at h3;obtain⟨a,ha,rfl⟩:=map_eq_some_iff.1 h3;have hj:=(List.getElem?_eq_some_iff.1 h2).1;obtain⟨f1,f2⟩:=Bj l i a ha;exact⟨a.1,q4 _ _ f1,q4 _ _ f2,(q5 i p _ a h2 (getElem?_eq_getElem (by omega)) ha).1⟩
def SX{rows:List Nd}{pts:List Pt}{cds:List Cd}{l:List Nat}{a:Option Addr}{n c:Nat}(hB:BM mb tb bb A A.length w)(Jr:w.ownsRow 0 aH 1 (.slice a n c) l.length (l.map aA))(hm:AB.AD w rows l)(Si:rows.length=pts.length)(Mb:cds.length=pts.length)(h0:0<pts.length)(h1:pts.length<=1000)
  (hR:∀(j:Nat)(r:Nd)(p:Pt)(c:Cd),rows[j]?=some r->pts[j]?=some p->cds[j]?=some c->XL mb tb bb A r p c) :
  Calls prog 134 #[aA bb,.slice a n c] w (Iv mb tb bb A pts cds w):=by
 have Jm:l.length=rows.length:=hm.len
 obtain⟨g,rfl,Uc⟩:∃g,a=some ⟨g,0,none⟩/\n=pts.length:=by
  rcases aD Jr with⟨h,h0'⟩|⟨g,cap,h⟩
  ·omega
  ·cases h;exact⟨g,rfl,by omega⟩
 subst Uc;have Jz:oS mb tb bb A w pts cds 0 (.slice none 0 0) (w.alloc (.cells #[aA bb] 164)):=⟨hB.stays ((Kn.refl _ w).alloc _),(Kn.refl _ w).alloc _,JZ _ _,[],rfl,⟨rfl,inl ⟨rfl,rfl⟩⟩,fun j p c a _ _ h=>by simp at h⟩
 have Kp:∀i v wr,oS mb tb bb A w pts cds i v wr->i<pts.length->∃b,wr.cell? ⟨g,i,none⟩=some (aA b)/\g<wr.heap.size/\∃gg cap ba,MK bb w.heap.size wr.heap.size b gg cap ba (wr.alloc (.cells #[aA b] 51)).drew/\Calls prog 178 #[aA ba] (wr.alloc (.cells #[aA b] 51)).drew fun e u1=>∃Kpp csp,e=.returned (.func (.func Kpp) #[] csp)/\MK bb w.heap.size wr.heap.size b gg cap ba u1 /\
   Hid (Calls prog 179 #[aA ba] u1 fun e u2=>∃a n c,e=.returned (.slice a n c)/\MK bb w.heap.size wr.heap.size b gg cap ba u2 /\
    Hid (Calls prog 56 #[aA bb,.func (.func 177) #[] #[aA w.heap.size,aA wr.heap.size],.slice a n c] u2 fun e u3=>∃K cs,e=.returned (.func (.func K) #[] cs)/\MK bb w.heap.size wr.heap.size b gg cap ba u3/\Hid (MK bb w.heap.size wr.heap.size b gg cap ba (u3.alloc (.cells #[.func (.func Kpp) #[] csp,.func (.func K) #[] cs] cW))) /\
     ∃v' w2,(Builtin.append_ #[dU,dU] dU #[v,.slice (some ⟨u3.heap.size,0,none⟩) 1 1]).run prog (u3.alloc (.cells #[.func (.func Kpp) #[] csp,.func (.func K) #[] cs] cW))=.ok v' w2/\Hid (MK bb w.heap.size wr.heap.size b gg cap ba w2)/\Hid (oS mb tb bb A w pts cds (i+1) v' w2))):=by
  intro i v wr Kl hi;have hr:rows[i]?=some rows[i]:=getElem?_eq_getElem (by omega);generalize rows[i]=r at hr;obtain⟨b,hb,Lr⟩:=hm.at hr;have hp:pts[i]?=some pts[i]:=getElem?_eq_getElem hi;have hc:cds[i]?=some cds[i]:=getElem?_eq_getElem (by omega);have Rf:pts.length=l.length:=by omega
  have Jr:=Jr;rw[Rf]at Jr;have Jn:wr.ownsRow 0 aH 1 (.slice (some ⟨g,0,none⟩) l.length c) l.length (l.map aA):=aE Jr fun q c f _ hc=>Kl.kn.block q (aB hc) fun e=>by rcases e with e|e;exact hB.AF hc e;exact hB.AI hc (by decide) e
  refine⟨b,?_,(Jn.lt g rfl).2,YQ Kl hp hc (hR i r _ _ hr hp hc) (hB.tree Kl.kn Lr) (by omega)⟩;rw[Jn.cellAt i (by omega),getElem?_map,hb];rfl
 have Jp:=fun(v:Value) (wr:World) (h:oS mb tb bb A w pts cds pts.length v wr)=>h.fin Mb h0 h1;have Ob:pts.length<=9223372036854775807:=by omega
 have Km:=aC Jz;have HS:=aC Kp;have HF:=aC Jp;clear Jz Kp Jp Jr hm Si Mb h0 hR Jm hB;generalize Iv mb tb bb A pts cds w=Q at *;generalize oS mb tb bb A w pts cds=OA at *;generalize pts.length=pn at *;unfold aA at *;go_enter func134,ntmps134;go_wp2_with fail
 go_loopg [5,11] pn (fun gk v5 v11 wr=>∃i:Nat,v11=.int .i64 (i:Nat)/\i+gk=pn/\Hid (OA i v5 wr))
 case atStart=>exact⟨0,rfl,by omega,Km⟩
 case round=>
  clear Km;obtain⟨i,rfl,hi,Kd⟩:=hrel
  by_cases Js:i<pn
  ·obtain⟨b,e1,e2,gg,cap,ba,N8,hc⟩:=HS.out _ _ _ Kd.out Js;have Jt:(i:Int)<(pn:Int):=by omega
   have HC:=aC hc;clear hc HS HF Kd;unfold MK aA at *;obtain⟨c1a,c2a,c3a,c4a⟩:=N8;go_wp2_with fail
   go_region_held_law (fun w'=>w'.cell? ⟨w.heap.size,0,none⟩=some (.pointer (some ⟨bb,0,none⟩))/\w'.cell? ⟨wr.heap.size,0,none⟩=some (.pointer (some ⟨b,0,none⟩))/\w'.cell? ⟨b,2,none⟩=some (.slice (some ⟨gg,0,none⟩) 2 cap)/\w'.cell? ⟨gg,0,none⟩=some (.pointer (some ⟨ba,0,none⟩))) (first|with_reducible exact⟨c1a,c2a,c3a,c4a⟩|with_reducible exact L9.out|with_reducible exact HD2.out)
    (first|(go_at_call 178;refine(HC.out).mono ?_;rintro e u1⟨Kpp,csp,rfl,⟨c1a,c2a,c3a,c4a⟩,HVA⟩;clear HC)|(go_at_call 179;refine(HVA.out).mono ?_;rintro e u2⟨va,vn,vc,rfl,⟨c1a,c2a,c3a,c4a⟩,HWI⟩;clear HVA)|(go_at_call 56;refine(HWI.out).mono ?_;rintro e u3⟨K,cs,rfl,⟨c1a,c2a,c3a,c4a⟩,L9,v2,w2,Jo,HD2,HL⟩;clear HWI)|(refine lB rfl _ _ _ rfl (by simp[Act.eval,Act.put]) (by simp[Act.eval,Act.put]) Jo ?_))
   all_goals
    go_wp2_with fail
    go_roundg (pn-(i+1))
    case rel=>exact⟨i+1,by simp,by omega,HL⟩
    case measure=>omega
  ·have Kg:i=pn:=by omega
   subst Kg;have Jt:¬(i:Int)<(i:Int):=by omega
   obtain⟨av,nv,cv,rfl,hq⟩:=HF.out _ _ Kd.out;have HQ:=aC hq;clear hq HS HF Kd;go_wp2;exact HQ.out
end
end
section
open Go.RowKit Go.Shelf
attribute [local go_sem] Oper.semAt_some
abbrev Cq:Type:=Nat×Array Value
def fV(x:Cq):Value:=.func (.func x.1) #[] x.2
def mN(l:List Cq)(j:Nat):Int×Cq:=((l.length:Int)-1-j,l[l.length-1-j]?.getD (0,#[]))
def dK(l:List Cq)(k:Nat):List (Int×Cq):=(List.range k).map (mN l)
def xE(l:List Cq)(k:Nat):dK l (k+1)=dK l k++[mN l k]:=by simp[dK,List.range_succ]
def tF(l:List Cq)(k:Nat):(dK l k).length=k:=by simp[dK]
def Br(x:Int×Cq):Array Value:=#[.int .i64 x.1,fV x.2]
def QJ(F:Fence)(n:Nat)(hf:F.fn 280)(Oj:F.round=none)(hn:1<=n)(lr Bs B N g cap:Nat)(l:List Cq)(hl:l.length<=1000)(hg:g<N)(G8:g≠B)(Su:Bs<N)(Ur:Bs≠B)(J Jx:List (Int×Cq)->World->Prop)
  (hY:∀pre x W,J pre W->pre.length<l.length->YieldAt F (n-1) prog lr (Br x) W fun e W'=>
   (e=.returned (.bool true)/\J (pre++[x]) W'/\lG B N W W')\/(e=.returned (.bool false)/\Jx (pre++[x]) W'))
  (W:World) (cur:Array Value) (Xy:W.heap[Bs]?=some (.cells #[.slice (some ⟨g,0,none⟩) l.length cap] 229 (0,0))) (C0:W.heap[g]?=some (.cells cur aW (0,0))) (hc:∀(j:Nat)(t:Cq),l[j]?=some t->cur[j]?=some (fV t)) (h0:J [] W) :
  CallsIn F n prog 280 #[.func (.yield lr) #[] #[],.pointer (some ⟨Bs,0,none⟩)] W fun e W'=>(∃v,e=.returned v) /\
   ((∃ys,ys=dK l l.length/\J ys W')\/(∃pre,(∃k,k<=l.length/\pre=dK l k)/\Jx pre W')):=by
 refine callsIn_of_wp func280 rfl hf ?_ Oj;simp only[ntmps280,size_toArray,length_cons,length_nil,Nat.reduceAdd,Nat.reduceSub,replicate_succ,replicate_zero,push_toArray,append_toArray,nil_append,cons_append];have cB:W.cell? ⟨Bs,0,none⟩=some (.slice (some ⟨g,0,none⟩) l.length cap):=by simp[cell?,Xy]
 gi_wp2
 gi_loopw [3] (fun i wr=>∃k:Nat,k<=l.length/\i=.int .i64 ((l.length:Int)-1-k)/\J (dK l k) wr/\lG B N W wr)
  (fun i _=>(intOf i+1).toNat)
 case atStart=>exact⟨0,zero_le _,by simp,h0,⟨le_refl _,fun _ _ _=>rfl⟩⟩
 case round=>
  obtain⟨k,hk,rfl,Wf,Ml⟩:=hrel;have eB:wr.cell? ⟨Bs,0,none⟩=some (.slice (some ⟨g,0,none⟩) l.length cap):=by simp[cell?,Ml.2 Bs Su Ur,Xy]
  by_cases Js:k<l.length
  ·have hx:=hY _ (mN l k) wr Wf (by rw[tF];exact Js);have hj:l.length-1-k<l.length:=by omega
   obtain⟨tk,Lo⟩:∃tk,l[l.length-1-k]?=some tk:=⟨_,getElem?_eq_getElem hj⟩;have Od:mN l k=((l.length:Int)-1-k,tk):=by unfold mN;rw[Lo];rfl
   have Kh:wr.cell? ⟨g,l.length-1-k,none⟩=some (fV tk):=by
    have:=hc (l.length-1-k) tk Lo;simp[cell?,Ml.2 g hg G8,C0,this]
   rw[Od]at hx;have C4:dK l (k+1)=dK l k++[((l.length:Int)-1-k,tk)]:=by rw[xE,Od]
   clear Lo Od;obtain⟨fn,tmps,assign,body,hy,hR⟩:=hx;unfold Br at hy;have S4:(0:Int)<=(l.length:Int)-1-k:=by omega
   have Yk:((l.length:Int)-1-k).toNat=l.length-1-k:=by omega
   have S2:(l.length:Int)-1-k<(l.length:Int):=by omega
   gi_wp2
   refine hR.mono ?_;rintro e W3 (⟨rfl,V3,Le⟩|⟨rfl,Xx⟩)
   ·gi_wp2
    go_roundw
    case rel=>exact⟨k+1,by omega,by simp;omega,by rw[C4];exact V3,Ml.trans Le⟩
    case measure=>simp[intOf];omega
   ·gi_wp2
    refine bodyPost_ret (results_none rfl _ _ _) rfl ?_;exact⟨⟨_,rfl⟩,.inr ⟨_,⟨k+1,by omega,C4.symm⟩,Xx⟩⟩
  ·obtain rfl:k=l.length:=by omega
   have S4:¬(0:Int)<=(l.length:Int)-1-l.length:=by omega
   gi_wp2
   go_end0;exact⟨⟨_,rfl⟩,.inl Wf⟩
def JS(F:Fence)(n:Nat)(hf:F.fn 280)(Oj:F.round=none)(lr Bs:Nat)(J:List (Int×Cq)->World->Prop)(W:World)(Su:W.cell? ⟨Bs,0,none⟩=some (.slice none 0 0))(h0:J [] W) :
  CallsIn F n prog 280 #[.func (.yield lr) #[] #[],.pointer (some ⟨Bs,0,none⟩)] W fun e W'=>(∃v,e=.returned v)/\J [] W':=by
 refine callsIn_of_wp func280 rfl hf ?_ Oj;simp only[ntmps280,size_toArray,length_cons,length_nil,Nat.reduceAdd,Nat.reduceSub,replicate_succ,replicate_zero,push_toArray,append_toArray,nil_append,cons_append]
 gi_wp2
 gi_loopw [3] (fun i wr=>i=.int .i64 (-1)/\J [] wr) (fun _ _=>0)
 case atStart=>exact⟨rfl,h0⟩
 case round=>
  obtain⟨rfl,Wf⟩:=hrel
  gi_wp2
  go_end0;exact⟨⟨_,rfl⟩,Wf⟩
def WU(F:Fence)(n:Nat)(hf:F.fn 227)(Oj:F.round=none)(a:Option Addr)(len cap:Nat)(w:World) :
  CallsIn F n prog 227 #[.slice a len cap] w fun e w'=>e=.returned (.func (.func 280) #[] #[.pointer (some ⟨w.heap.size,0,none⟩)])/\w'=w.alloc (.cells #[.slice a len cap] 229):=by
 refine callsIn_of_wp func227 rfl hf ?_ Oj;simp only[ntmps227,size_toArray,length_cons,length_nil,Nat.reduceAdd,Nat.reduceSub,replicate_succ,replicate_zero,push_toArray,append_toArray,nil_append,cons_append]
 gi_wp2
 go_ret;exact⟨rfl,rfl⟩
def xZ(B N:Nat)(W:World)(sv:Value)(l:List Cq):Prop:=
 (sv=.slice none 0 0/\l=[])\/∃g cap cur,sv=.slice (some ⟨g,0,none⟩) l.length cap/\g<N/\g≠B/\W.heap[g]?=some (.cells cur aW (0,0))/\∀(j:Nat)(t:Cq),l[j]?=some t->cur[j]?=some (fV t)
def EV(F:Fence)(n:Nat)(hf:F.fn 280)(Oj:F.round=none)(hn:1<=n)(Bs B:Nat)(sv:Value)(l:List Cq)(hl:l.length<=1000)(w:World)(Su:Bs<w.heap.size)(Ur:Bs≠B)
  (hc:w.heap[Bs]?=some (.cells #[sv] 229 (0,0))) (hT:xZ B w.heap.size w sv l) :
  SeqStopsK F n prog 280 #[.pointer (some ⟨Bs,0,none⟩)] Br (lG B w.heap.size) (fun ys=>ys=dK l l.length) (fun pre=>∃k,pre=dK l k) l.length w:=fun lr J Jx W hW _ _ hY h0=>by
 have T8:=(hW.block Bs Su).trans hc;rcases hT with⟨rfl,rfl⟩|⟨g,cap,cur,rfl,hg,G8,Ng,Rh⟩
 ·exact(JS F n hf Oj lr Bs J W (by simp[cell?,T8]) h0).mono fun e W' ⟨he,hj⟩=>⟨he,.inl ⟨_,rfl,hj⟩⟩
 ·refine(QJ F n hf Oj hn lr Bs B w.heap.size g cap l hl hg G8 Su Ur J Jx hY W cur T8 ((hW.block g hg).trans Ng) Rh h0).mono ?_;rintro e W'⟨he,⟨ys,rfl,hj⟩|⟨pre,⟨k,hk,rfl⟩,hj⟩⟩
  ·exact⟨he,.inl ⟨_,rfl,hj⟩⟩
  ·exact⟨he,.inr ⟨_,⟨k,rfl⟩,hj⟩⟩
def EU(l:List Cq):(dK l l.length).map (·.2)=l.reverse:=by
 apply List.ext_getElem
 ·simp[dK]
 ·intro i h1 h2;have hi:i<l.length:=by simpa [dK]using h1
  simp[dK,mN,List.getElem_reverse];rw[getElem?_eq_getElem (by omega)];rfl
end
section
open Go.RowKit Go.Shelf
attribute [local go_sem] Oper.semAt_some
def QS(w:World)(x y:Value)(t:TypeId):(w.alloc (.cells #[x] t)).setCell ⟨w.heap.size,0,none⟩ y=w.alloc (.cells #[y] t):=by
 have h:((w.alloc (.cells #[x] t)).setCell ⟨w.heap.size,0,none⟩ y).heap=(w.alloc (.cells #[y] t)).heap:=by
  apply Array.ext_getElem?;intro i
  by_cases hi:i=w.heap.size
  ·subst hi;rw[(Upd.set (JZ w (.cells #[x] t)) 0 y).here,JZ];rfl
  ·rw[Below.heap_setCell _ _ _ _ hi,bC,bC,if_neg hi,if_neg hi]
 show World.mk _ _ _ _ _=World.mk _ _ _ _ _;congr 1
def pF(w:World)(K:Nat)(cs:Array Value)(t:TypeId)(x:Value):(store ⟨w.heap.size,0,none⟩ (.func (.func K) #[] cs)).run prog (w.alloc (.cells #[x] t))=.ok () (w.alloc (.cells #[.func (.func K) #[] cs] t)):=by
 have h0:(w.alloc (.cells #[x] t)).heap[w.heap.size]?=some (.cells #[x] t (0,0)):=by simp only[bC,if_pos]
 rw[run_store prog _ _ _ _ rfl,show (w.alloc (.cells #[x] t)).cell? ⟨w.heap.size,0,none⟩=some x from(aP h0 0).trans rfl];simp only[cP h0 0,QS];rfl
def Da(q:Nat)(w:World)(nm:Nm):List Value->Value->Prop
 |[],v=>∃l,v=tQ 226 l/\Bxs w [(aI,.string (bs nm))] l/\q∉l
 |x::r,v=>∃u l,Da q w nm r u/\v=tQ 228 l/\Bxs w [(aW,x),(iD,u)] l/\q∉l
def Bxs.keptq{w u:World}{q:Nat}(hk:∀(b:Nat)(c:Array Value)(t:TypeId)(f:Nat×Nat),b≠q->w.heap[b]?=some (.cells c t f)->u.heap[b]?=w.heap[b]?):∀{r:List (TypeId×Value)}{l:List Nat},q∉l->Bxs w r l->Bxs u r l:=by
 intro r
 induction r with
 |nil=>intro l _ h;cases l with|nil=>trivial|cons=>exact h.elim
 |cons x r ih=>
  intro l hq h;obtain⟨t,v⟩:=x
  cases l with
  |nil=>exact h.elim
  |cons b l=>exact⟨(hk b _ _ _ (fun e=>hq (by rw[e];exact mem_cons_self ..)) h.1).trans h.1,h.2.1,ih (fun e=>hq (mem_cons_of_mem _ e)) h.2.2⟩
def Da.kept{w u:World}{q:Nat}{nm:Nm}(hk:∀(b:Nat)(c:Array Value)(t:TypeId)(f:Nat×Nat),b≠q->w.heap[b]?=some (.cells c t f)->u.heap[b]?=w.heap[b]?):∀{xs:List Value}{v:Value},Da q w nm xs v->Da q u nm xs v:=by
 intro xs
 induction xs with
 |nil=>intro v h;obtain⟨l,h1,h2,h3⟩:=h;exact⟨l,h1,h2.keptq hk h3,h3⟩
 |cons x r ih=>intro v h;obtain⟨z,l,h0,h1,h2,h3⟩:=h;exact⟨z,l,ih h0,h1,h2.keptq hk h3,h3⟩
def Da.to{w:World}{q:Nat}{nm:Nm}:∀{xs:List Value}{v:Value},Da q w nm xs v->FA w nm xs v:=by
 intro xs
 induction xs with
 |nil=>intro v h;obtain⟨l,h1,h2,h3⟩:=h;exact⟨aF.con0,l,h1,h2⟩
 |cons x r ih=>intro v h;obtain⟨z,l,h0,h1,h2,h3⟩:=h;exact⟨z,ih h0,aF.con2,l,h1,h2⟩
def MM(w:World)(nm:Nm)(pre:List (Int×Cq))(W:World):Prop:=
 ∃wv,W.heap[w.heap.size+1]?=some (.cells #[wv] iD (0,0))/\Da (w.heap.size+1) W nm (pre.map fun x=>fV x.2).reverse wv/\Below w.heap.size w W/\w.heap.size+3<=W.heap.size
def nQ{W W':World}{B:Nat}{row:Option Nat}(hg:W.grownBy W' row)(hr:∀r,row=some r->B<=r/\∃o:Obj,W.heap[r]?=some o/\o.isCells=false)(k:Nat)(c:Array Value)(T:TypeId)(f:Nat×Nat)(he:W.heap[k]?=some (.cells c T f)):W'.heap[k]?=W.heap[k]?:=by
 refine hg.block k (aB he) (fun e=>?_);obtain⟨_,o,ho,hc⟩:=hr k e.symm;rw[he]at ho;obtain rfl:=Option.some.inj ho;simp[Obj.isCells]at hc
def vL(w:World)(nm:Nm)(B:Nat)(hB:w.heap.size<=B):OwnFrom B (MM w nm):=by
 rintro s W W' row⟨wv,h1,h2,h3,h4⟩ hg hr;exact⟨wv,(nQ hg hr _ _ _ _ h1).trans h1,h2.kept (fun b c t f _ he=>nQ hg hr b c t f he),h3.grown hg h3.size (fun k e=>le_trans hB (hr k e).1),le_trans h4 hg.size⟩
def Da.form{w:World}{q:Nat}{nm:Nm}{xs:List Value}{v:Value}(h:Da q w nm xs v):∃K cs,v=.func (.func K) #[] cs:=by
 cases xs with
 |nil=>obtain⟨l,rfl,_⟩:=h;exact⟨_,_,rfl⟩
 |cons x r=>obtain⟨_,l,_,rfl,_⟩:=h;exact⟨_,_,rfl⟩
def Cc{nm:Nm}{l:List Cq}{a:Option Addr}{n c:Nat}(w:World)(hl:l.length<=1000)(hT:xZ (w.heap.size+1) (w.heap.size+3) (((w.alloc (.cells #[.string (bs nm)] aI)).alloc (.cells #[.func (.func 226) #[] #[aA w.heap.size]] iD)).alloc (.cells #[.slice a n c] 229)) (.slice a n c) l) :
  Calls prog 180 #[.string (bs nm),.slice a n c] w fun e u=>e=.returned (tQ 230 [w.heap.size+1])/\Below w.heap.size w u/\∃wv,u.heap[w.heap.size+1]?=some (.cells #[wv] iD (0,0))/\FA u nm (l.map fV) wv:=by
 have HT:=aC hT;have J4:=pF (w.alloc (.cells #[.string (bs nm)] aI)) 226 #[.pointer (some ⟨w.heap.size,0,none⟩)] iD .nilFunc;rw[aK]at J4;have a3:=Gk w (.cells #[.string (bs nm)] aI) (.cells #[.func (.func 226) #[] #[aA w.heap.size]] iD) (.cells #[.slice a n c] 229);have Ke:(((w.alloc (.cells #[.string (bs nm)] aI)).alloc (.cells #[.func (.func 226) #[] #[aA w.heap.size]] iD)).alloc (.cells #[.slice a n c] 229)).heap.size=w.heap.size+3:=by simp
 have Ss:MM w nm [] (((w.alloc (.cells #[.string (bs nm)] aI)).alloc (.cells #[.func (.func 226) #[] #[aA w.heap.size]] iD)).alloc (.cells #[.slice a n c] 229)):=
  ⟨_,a3.2.1,⟨[w.heap.size],rfl,⟨a3.1,inl (by unfold Fixed;decide),trivial⟩,by simp⟩,(((Below.refl _ w).alloc (le_refl _) _).alloc (by simp) _).alloc (by simp;omega) _,by rw[Ke];omega⟩
 have Wi:=aC Ss;have hS:=a3.2.2;clear hT Ss a3;unfold aA at *;refine(callsIn_wide (n:=3)).1 ?_;refine callsIn_of_wp_marks func180 rfl trivial ?_ rfl;simp only[ntmps180,size_toArray,length_cons,length_nil,Nat.reduceAdd,Nat.reduceSub,replicate_succ,replicate_zero,push_toArray,append_toArray,nil_append,cons_append]
 gi_wp2_with (refine⟨trivial,?_⟩;gi_at_call 227;refine(WU Fence.wide _ trivial rfl _ _ _ _).mono ?_;rintro e w'⟨rfl,rfl⟩)
 have Jz:=EV Fence.wide (3-1) trivial rfl (by omega) (w.heap.size+1+1) (w.heap.size+1) (.slice a n c) l hl (((w.alloc (.cells #[.string (bs nm)] aI)).alloc (.cells #[.func (.func 226) #[] #[.pointer (some ⟨w.heap.size,0,none⟩)]] iD)).alloc (.cells #[.slice a n c] 229)) (by rw[Ke];omega) (by omega) hS (by rw[Ke];exact HT.out)
 refine wpIn_rangeFunc_ownH rfl (by omega) (gf:=280) (lb:=#[.pointer (some ⟨w.heap.size+1+1,0,none⟩)]) ?hg trivial (enters_of func280 (by kernel_rfl) rfl)
  Jz (fun h k=>h.trans k) ?Q8 (Below.refl _ _) (fun _=>rfl) (MM w nm) (fun _ _ _=>False) (vL w nm _ (by rw[Ke];omega)) (fun _ _ _ _ _ hs _ _=>hs) Wi.out
  (fun x a' W=>∃pb,a'={ tmps:=#[.string (bs nm),.slice a n c,.pointer (some ⟨w.heap.size,0,none⟩),undef,.nilFunc,.pointer (some ⟨w.heap.size+1,0,none⟩),undef,.pointer (some ⟨pb,0,none⟩),undef,.func (.func 226) #[] #[.pointer (some ⟨w.heap.size,0,none⟩)],.slice a n c,.func (.func 280) #[] #[.pointer (some ⟨w.heap.size+1+1,0,none⟩)],.int .i64 x.1,fV x.2,undef,undef,undef],defers:=[] }/\W.heap[pb]?=some (.cells #[fV x.2] aW (0,0))/\pb≠w.heap.size+1) ?hax ?assign ?body ?done ?stop
 case hg=>rfl
 case Q8=>
  intro W k o o' hk ho _ _;rw[Ke]at hk;refine⟨by simp,fun i hi _=>World.putObj_heap_other ?_⟩;rw[Ke]at hi;omega
 case hax=>
  rintro x a' _ W W' row⟨pb,h1,h2,h3⟩ hg hr;exact⟨pb,h1,(nQ hg hr _ _ _ _ h2).trans h2,h3⟩
 case assign=>
  intro lr pre x W K hI hK;have Li:=pF W x.2.1 x.2.2 aW .nilFunc;have Js:=hI.elim fun _ h=>h.2.2.2;have HK:=aC (hK _ (W.alloc (.cells #[fV x.2] aW)) ((KeepsOthers.alloc _ _).from _) ⟨by simp,fun k hk _=>by rw[Ke]at hk;exact Below.heap_alloc _ _ _ (by omega)⟩ ((vL w nm _ (le_refl _)).alloc _ hI) ⟨W.heap.size,rfl,by simp only[bC,if_pos],by omega⟩);clear hK hI;unfold Br fV at *
  gi_wp2
  exact HK.out
 case body=>
  rintro lr pre x a' W Pk _⟨wv,h1,h2,h3,h4⟩ ⟨pb,rfl,h5,h6⟩ _;obtain⟨Kw,csw,rfl⟩:=h2.form;have c0:W.cell? ⟨w.heap.size+1,0,none⟩=some (.func (.func Kw) #[] csw):=(aP h1 0).trans rfl;have Li:=pF W Kw csw iD .nilFunc;have e2:PEq (W.alloc (.cells #[.func (.func Kw) #[] csw] iD)) W (.cells #[.func (.func Kw) #[] csw] iD (0,0)):=PEq.alloc _ _;have Wh:=(aS e2 (aB h1)).trans h1
  have Rm:(store ⟨w.heap.size+1,0,none⟩ (.func (.func 228) #[] #[.pointer (some ⟨pb,0,none⟩),.pointer (some ⟨W.heap.size,0,none⟩)])).run prog (W.alloc (.cells #[.func (.func Kw) #[] csw] iD))=.ok () ((W.alloc (.cells #[.func (.func Kw) #[] csw] iD)).setCell ⟨w.heap.size+1,0,none⟩ (.func (.func 228) #[] #[.pointer (some ⟨pb,0,none⟩),.pointer (some ⟨W.heap.size,0,none⟩)])):=by
   rw[run_store prog _ _ _ _ rfl,show (W.alloc (.cells #[.func (.func Kw) #[] csw] iD)).cell? ⟨w.heap.size+1,0,none⟩=some (.func (.func Kw) #[] csw)from(aP Wh 0).trans rfl];simp only[cP Wh 0];rfl
  have Qd:=Upd.set Wh 0 (.func (.func 228) #[] #[.pointer (some ⟨pb,0,none⟩),.pointer (some ⟨W.heap.size,0,none⟩)]);have hk:∀(b:Nat),b≠w.heap.size+1->b<W.heap.size->((W.alloc (.cells #[.func (.func Kw) #[] csw] iD)).setCell ⟨w.heap.size+1,0,none⟩ (.func (.func 228) #[] #[.pointer (some ⟨pb,0,none⟩),.pointer (some ⟨W.heap.size,0,none⟩)])).heap[b]?=W.heap[b]?:=fun b hb Mb=>(Qd.rest b hb).trans (aS e2 Mb)
  have Ov:∀W2,W2=((W.alloc (.cells #[.func (.func Kw) #[] csw] iD)).setCell ⟨w.heap.size+1,0,none⟩ (.func (.func 228) #[] #[.pointer (some ⟨pb,0,none⟩),.pointer (some ⟨W.heap.size,0,none⟩)]))->KeepsFrom (((w.alloc (.cells #[.string (bs nm)] aI)).alloc (.cells #[.func (.func 226) #[] #[.pointer (some ⟨w.heap.size,0,none⟩)]] iD)).alloc (.cells #[.slice a n c] 229)).heap.size W W2/\lG (w.heap.size+1) (((w.alloc (.cells #[.string (bs nm)] aI)).alloc (.cells #[.func (.func 226) #[] #[.pointer (some ⟨w.heap.size,0,none⟩)]] iD)).alloc (.cells #[.slice a n c] 229)).heap.size W W2/\MM w nm (pre++[x]) W2:=by
   rintro _ rfl;refine⟨((KeepsOthers.alloc _ _).trans (KeepsOthers.setCell _ _ _)).from _,⟨by simp[setCell],fun k Jy Ju=>by rw[Ke]at Jy;exact hk k Ju (by omega)⟩,_,Qd.here,?_,?_,by simp[setCell];omega⟩
   ·rw[map_append,List.reverse_append];refine⟨.func (.func Kw) #[] csw,[pb,W.heap.size],h2.kept (fun b c t f hb hc=>hk b hb (aB hc)),rfl,⟨(hk pb h6 (aB h5)).trans h5,cO,(Qd.rest _ (by omega)).trans (bT e2),PG,trivial⟩,?_⟩;simp;omega
   ·exact(h3.alloc h3.size _).setCell (by show w.heap.size<=w.heap.size+1;omega) _
  have HG:=aC (Ov _ rfl);clear Ov;clear h1 h2 h3 h4 h5 h6 Qd hk e2 Wh
  gi_wp2
  exact HG.out
 case done=>
  rintro D xs W hD rfl⟨wv,h1,h2,h3,h4⟩ hK;rw[Ke]at hD
  have K8:∀(k:Nat)(c:Array Value)(T:TypeId)(f:Nat×Nat),W.heap[k]?=some (.cells c T f)->(W.putObj D (.deferred none)).heap[k]?=W.heap[k]?:=by
   intro k c T f he;refine World.putObj_heap_other (fun e=>?_);subst e;rw[he]at hK;cases hK
  have N6:((dK l l.length).map fun x=>fV x.2).reverse=l.map fV:=by
   have:=EU l;rw[show ((dK l l.length).map fun x=>fV x.2)=((dK l l.length).map (·.2)).map fV by rw[List.map_map];rfl,this,List.map_reverse,List.reverse_reverse]
  rw[N6]at h2;have HQ:=aC (show Below w.heap.size w (W.putObj D (.deferred none))/\∃wv,(W.putObj D (.deferred none)).heap[w.heap.size+1]?=some (.cells #[wv] iD (0,0))/\FA (W.putObj D (.deferred none)) nm (l.map fV) wv from⟨h3.trans (belowK_b (w:=w) (le_refl _) W D _ _ (by omega) hK rfl rfl),wv,(K8 _ _ _ _ h1).trans h1,(h2.kept fun b c t f _ he=>K8 b c t f he).to⟩);clear h1 h2 h3 h4 K8 N6
  gi_wp2
  refine⟨by simp,.inl ⟨_,_,rfl,run_takeDeferred hK,?_⟩⟩;exact⟨_,results_tmp rfl _ _ _,rfl,HQ.out⟩
 case stop=>
  rintro D c pre W _ _ h _;exact h.elim
end
section
open Go.RowKit
def KR.ofKn{w u:World}(hk:Kn (fun _=>False) w u):KR 0 w u:=.same hk.size (fun k _ _ _ _ hc=>hk.block k (aB hc) id) (fun k _ hl=>hk.block k hl id) ⟨hk.os,hk.tape,hk.output⟩
def Each.cls{mb:Nat}{w:World}:∀{cds:List Cd}{xs:List Value},Each (fP mb w) cds xs->∃l:List Cq,xs=l.map fV:=by
 intro cds
 induction cds with
 |nil=>intro xs h;cases xs with|nil=>exact⟨[],rfl⟩|cons=>exact h.elim
 |cons c r ih=>
  intro xs h
  cases xs with
  |nil=>exact h.elim
  |cons x xs=>
   obtain⟨l,rfl⟩:=ih h.2;obtain⟨K,cs,rfl,_⟩:=h.1.elim fun n h=>h.form;exact⟨(K,cs)::l,rfl⟩
section
variable {mb tb bb:Nat}{A:List Nm}{w:World}
def Dv{txt:Nm}{cds:List Cd}{v:Value}{wr u:World}(Ms:qW mb tb bb A w cds cds.length v wr)(hl:cds.length<=1000)(hu:Kn (fun _=>False) wr u):Calls prog 180 #[.string (bs txt),v] u (BA mb tb bb A ⟨14,0,txt,cds,[]⟩ w):=by
 obtain⟨xs,h1,h2⟩:=Ms.row;rw[List.take_length]at h2;obtain⟨l,rfl⟩:=h2.cls;have Rf:l.length=cds.length:=by have:=h2.len;rw[length_map]at this;exact this.symm
 have Le:Kn (fun _=>False) wr (((u.alloc (.cells #[.string (bs txt)] aI)).alloc (.cells #[.func (.func 226) #[] #[aA u.heap.size]] iD)).alloc (.cells #[v] 229)):=((hu.alloc _).alloc _).alloc _
 have hT:∃a n c,v=.slice a n c/\xZ (u.heap.size+1) (u.heap.size+3) (((u.alloc (.cells #[.string (bs txt)] aI)).alloc (.cells #[.func (.func 226) #[] #[aA u.heap.size]] iD)).alloc (.cells #[v] 229)) v l:=by
  rcases h1.2 with⟨rfl,h0⟩|⟨g,cap,cur,rfl,_,hg,_,_,Rh,Lo⟩
  ·exact⟨_,_,_,rfl,inl ⟨rfl,List.length_eq_zero_iff.1 (by omega)⟩⟩
  ·have Qo:=aB hg;have:=hu.size;refine⟨_,_,_,rfl,inr ⟨g,cap,cur,by rw[Rf],by omega,by omega,(Le.block g Qo id).trans hg,fun j t hj=>?_⟩⟩;have h3:(l.map fV)[j]?=some (fV t):=by rw[getElem?_map,hj];rfl
   have Mc:=(List.getElem?_eq_some_iff.1 hj).1;rw[<- Lo,List.getElem?_take_of_lt (by omega),Array.getElem?_toList]at h3;exact h3
 obtain⟨a,n,c,rfl,hT⟩:=hT;refine(Cc u (by omega) hT).mono ?_;rintro e u2⟨rfl,hb,wv,e1,e2⟩;have Nn:Kn (fun _=>False) wr u2:=hu.trans (Kn.AP hb);obtain⟨d,hd⟩:=(h2.imp (fP.kept (KR.ofKn Nn))).max;exact⟨_,_,rfl,Ms.bm.stays Nn,Ms.kn.trans (Nn.wide fun _ _ h=>h.elim),d+1,⟨VD,fun h=>by cases h⟩,_,hd,inr (inl ⟨rfl,by rw[length_map,Rf];exact hl,wv,e2,aF.con3,[u.heap.size+1],rfl,e1,PG,trivial⟩)⟩
def JF{nb:Nat}{txt:Nm}{n1 n2:Nd}{c1 c2:Cd}(hB:BM mb tb bb A A.length w)(hn:AB w (.mk 14 txt [n1,n2]) nb)
  (hE:∀(i:Nat)(nd:Nd)(b:Nat)(c:Cd)(u:World),[n1,n2][i]?=some nd->[c1,c2][i]?=some c->BM mb tb bb A A.length u->AB u nd b->Calls prog 91 #[aA bb,aA b] u (BA mb tb bb A c u)) :
  Calls prog 135 #[aA bb,aA nb] w (BA mb tb bb A ⟨14,0,txt,[c1,c2],[]⟩ w):=by
 obtain⟨g,cap,bl,hp,hm,Kx⟩:=hn.pt (by simp);obtain⟨LI,Wn,h0,hs,he⟩:=mC (cds:=[c1,c2]) hB hp hm rfl (by simp) (fun i nd b c u h1 _ h3 h4 h5=>hE i nd b c u h1 h3 h4 h5);have Kx:bl.length=2:=Kx
 have Jp:∀v wr,LI 2 v wr->∃g2 cap2,v=.slice (some ⟨g2,0,none⟩) 2 cap2/\(wr.cell? ⟨nb,0,none⟩=some (.int .i64 14)/\wr.cell? ⟨nb,1,none⟩=some (.string (bs txt)))/\Hid (∀u,Kn (fun _=>False) wr u->Calls prog 180 #[.string (bs txt),v] u (BA mb tb bb A ⟨14,0,txt,[c1,c2],[]⟩ w)):=fun v wr hh=>by
  have Ms:=he v wr (by rw[Kx];exact hh);obtain⟨g2,cap2,_,_,_,_,rfl,_⟩:=Ms.end2;have hc:=(hB.pt Ms.kn hp).cells;exact⟨_,_,rfl,⟨hc.1,hc.2.1⟩,fun u hu=>Dv Ms (by simp) hu⟩
 have hc:=hp.cells;obtain⟨z0,z1,z2,_⟩:=hc;rw[Kx]at z2 hs;have H0:=aC h0;have HS:=aC hs;have HF:=aC Jp;clear h0 hs he hp hm hE hB hn Jp Wn;generalize bs txt=tx at *;unfold aA at *;go_enter func135,ntmps135;go_wp2_with fail
 go_loopg [5,13] 2 (fun gk v5 v13 wr=>∃i:Nat,v13=.int .i64 (i:Nat)/\i+gk=2/\Hid (LI i v5 wr))
 case atStart=>exact⟨0,rfl,rfl,H0⟩
 case round=>
  clear H0;obtain⟨i,rfl,hi,HL⟩:=hrel
  by_cases Js:i<2
  ·obtain⟨b,e1,e2,hc⟩:=HS.out _ _ _ HL.out Js;have Jt:(i:Int)<2:=by omega
   have HC:=aC hc;clear hc HS HF HL;go_wp2_with fail;refine(HC.out).mono ?_;rintro e u⟨K,cs,v',w2,rfl,Jo,HL⟩;have HR:=aC Jo;clear HC Jo
   go_wp2_with (at_builtin;refine aU rfl _ _ _ rfl (by simp[Act.eval,Act.put]) (by simp[Act.eval,Act.put]) HR.out ?_)
   go_roundg (2-(i+1))
   case rel=>exact⟨i+1,by simp,by omega,HL⟩
   case measure=>omega
  ·have Kg:i=2:=by omega
   subst Kg;have Jt:¬((2:Nat):Int)<2:=by omega
   have hz:=HF.out _ _ HL.out;obtain⟨g2,cap2,rfl,⟨d0,d1⟩,HC⟩:=hz;clear HS HF HL;have HV:=aC (Kn.AH wr);go_wp2_with fail;refine(HC.out _ (Kn.refl _ _)).mono ?_;intro e u hq;obtain⟨Kr,csr,rfl,Ki⟩:=hq;have HQ:=aC (show BA mb tb bb A _ w _ u from⟨Kr,csr,rfl,Ki⟩);clear Ki
   all_goals
    go_wp2;refine bodyPost_ret (v:=.func (.func Kr) #[] csr) (by simp[results,results135,go_sem]) rfl HQ.out
def EM{nb:Nat}{txt:Nm}(hB:BM mb tb bb A A.length w)(hn:AB w (.mk 14 txt []) nb):Calls prog 135 #[aA bb,aA nb] w (BA mb tb bb A ⟨14,0,txt,[],[]⟩ w):=by
 obtain⟨pv,bl,h1,h2⟩:=hn.inv;have Jp:∀u,Kn (fun _=>False) w u->Calls prog 180 #[.string (bs txt),.slice none 0 0] u (BA mb tb bb A ⟨14,0,txt,[],[]⟩ w):=fun u hu=>Dv (wr:=w) (cds:=[]) ⟨hB,Kn.refl _ _,⟨[],World.ownsRow_nil _ _ _ _,trivial⟩,fun _=>rfl⟩ (by decide) hu
 obtain⟨pa,pc,rfl⟩:∃a c,pv=.slice a 0 c:=by
  have hl:bl.length=0:=h2.2.len;rcases aD h2.1 with⟨rfl,_⟩|⟨g,cap,rfl⟩
  ·exact⟨_,_,rfl⟩
  ·rw[hl];exact⟨_,_,rfl⟩
 have z0:w.cell? ⟨nb,0,none⟩=some (.int .i64 14):=(aP h1 0).trans rfl;have z1:w.cell? ⟨nb,1,none⟩=some (.string (bs txt)):=(aP h1 1).trans rfl;have z2:w.cell? ⟨nb,2,none⟩=some (.slice pa 0 pc):=(aP h1 2).trans rfl;have HC:=aC Jp;have HV:=aC (Kn.AH w);clear Jp hB hn h1 h2;generalize bs txt=tx at *;unfold aA at *;go_enter func135,ntmps135;go_wp2_with fail;refine wp_loop_rounds 1 ?_;rw[rounds_succ];go_wp2_with fail;refine(HC.out _ (Kn.refl _ _)).mono ?_;intro e u hq;obtain⟨Kr,csr,rfl,Ki⟩:=hq;have HQ:=aC (show BA mb tb bb A _ w _ u from⟨Kr,csr,rfl,Ki⟩);clear Ki
 all_goals
  go_wp2;refine bodyPost_ret (v:=.func (.func Kr) #[] csr) (by simp[results,results135,go_sem]) rfl HQ.out
end
end
section
open Go.RowKit
section
variable {mb tb bb:Nat}{A:List Nm}{w:World}
def UI{K1:Nat}{cs1:Array Value}{a:Option Addr}{n c:Nat}:Calls prog 133 #[.func (.func K1) #[] cs1,.slice a n c] w fun e u=>e=.returned (.func (.func 175) #[] #[aA (w.heap.size),aA (w.heap.size+1)])/\u=((w.alloc (.cells #[.func (.func K1) #[] cs1] aW)).alloc (.cells #[.slice a n c] dU)):=by
 unfold aA;go_enter func133,ntmps133;go_wp2;refine bodyPost_ret (v:=.func (.func 175) #[] #[.pointer (some ⟨w.heap.size,0,none⟩),.pointer (some ⟨w.heap.size+1,0,none⟩)]) (by simp[results,results133,go_sem]) rfl ⟨rfl,rfl⟩
def Ct{K1:Nat}{cs1:Array Value}{a:Option Addr}{n c:Nat}{c0:Cd}{cds:List Cd}{pts:List Pt}{xs:List Value}(hB:BM mb tb bb A A.length w)(h1:fP mb w c0 (.func (.func K1) #[] cs1))(h2:Each (fP mb w) cds xs)(h3:jV w pts xs (.slice a n c)):Calls prog 133 #[.func (.func K1) #[] cs1,.slice a n c] w (BA mb tb bb A ⟨15,0,[],c0::cds,pts⟩ w):=by
 refine(UI).mono ?_;rintro e u⟨rfl,rfl⟩;have hk:Kn (fun _=>False) w ((w.alloc (.cells #[.func (.func K1) #[] cs1] aW)).alloc (.cells #[.slice a n c] dU)):=((Kn.refl _ w).alloc _).alloc _;have h:=qU w (.cells #[.func (.func K1) #[] cs1] aW) (.cells #[.slice a n c] dU);have Qw:=KR.ofKn hk;have Mh:Each (fP mb w) (c0::cds) (.func (.func K1) #[] cs1::xs):=⟨h1,h2⟩;obtain⟨d,hd⟩:=(Mh.imp (fP.kept Qw)).max;exact⟨_,_,rfl,hB.stays hk,hk.wide fun _ _ h=>h.elim,d+1,⟨VD,fun h=>by cases h⟩,_,hd,inr (inr ⟨rfl,_,_,_,rfl,h3.kept Qw,enters func175 (by kernel_rfl) rfl,[w.heap.size,w.heap.size+1],rfl,h.1,cO,h.2,VL,trivial⟩)⟩
def Io{nb:Nat}{txt:Nm}{a:Nd}{rest:List Nd}{c0:Cd}{pts:List Pt}{cds:List Cd}(hB:BM mb tb bb A A.length w)(hn:AB w (.mk 15 txt (a::rest)) nb)(Jm:(a::rest).length<=1000000)(Qa:∀p∈a::rest,p.k<=1000)
  (hE:∀u q,BM mb tb bb A A.length u->AB u a q->Calls prog 91 #[aA bb,aA q] u (BA mb tb bb A c0 u))
  (Si:(only 16 (a::rest)).length=pts.length) (Mb:cds.length=pts.length) (h0:0<pts.length) (C8:pts.length<=1000)
  (hR:∀(j:Nat)(r:Nd)(p:Pt)(c:Cd),(only 16 (a::rest))[j]?=some r->pts[j]?=some p->cds[j]?=some c->XL mb tb bb A r p c) :
  Calls prog 91 #[aA bb,aA nb] w (BA mb tb bb A ⟨15,0,[],c0::cds,pts⟩ w):=by
 have hF:Fresh w ((w.alloc (.cells #[aA bb] 164)).alloc (.cells #[aA nb] 51)):=((Fresh.refl w).alloc _).alloc _;have d12:=qU w (.cells #[aA bb] 164) (.cells #[aA nb] 51);have Ld:=hB.tree (hF.kn.wide fun _ _ h=>h.elim) hn;have z2:=cell_of' d12.2;have z3:=cell_of' d12.1;generalize My:(w.alloc (.cells #[aA bb] 164)).alloc (.cells #[aA nb] 51)=w1 at *;have Kf:=hB.stays hF.kn;have Lw:RA bb nb w.heap.size (w.heap.size+1) w1:=⟨d12.1,d12.2⟩;obtain⟨g,cap,bl,hp,hm,Kx⟩:=Ld.pt (by simp);obtain⟨ba,Od,Yy⟩:=hm.at (i:=0) (p:=a) rfl;have z0:w1.cell? ⟨nb,0,none⟩=some (.int .i64 15):=hp.cells.1;obtain⟨m,Ly⟩:∃m,bl.length=m+1:=⟨bl.length-1,by rw[Kx];rfl⟩;have hm3:m<=1000000:=by omega
 have Jw:∀v,Kn (fun k=>k=tb\/k=bb) w1 v->v.cell? ⟨w.heap.size,0,none⟩=some (aA bb)/\v.cell? ⟨w.heap.size+1,0,none⟩=some (aA nb)/\v.cell? ⟨nb,2,none⟩=some (.slice (some ⟨g,0,none⟩) (m+1) cap)/\v.cell? ⟨g,0,none⟩=some (aA ba):=fun v hv=>by
  have hc:=(Kf.pt hv hp).cells;have h2:=hc.2.2.1;rw[Ly]at h2;exact⟨cell_of' (Lw.kept Kf hv).b,cell_of' (Lw.kept Kf hv).n,h2,hc.2.2.2 0 ba Od⟩
 have hF1:=hF.kn
 have Xp:Calls prog 91 #[aA bb,aA ba] w1.drew fun e u1=>∃K cs,e=.returned (.func (.func K) #[] cs)/\(u1.cell? ⟨w.heap.size,0,none⟩=some (aA bb)/\u1.cell? ⟨w.heap.size+1,0,none⟩=some (aA nb)/\u1.cell? ⟨nb,2,none⟩=some (.slice (some ⟨g,0,none⟩) (m+1) cap)/\u1.cell? ⟨g,0,none⟩=some (aA ba)) /\
   Hid (Calls prog 21 #[aA nb,.int .i64 16] u1 fun e u2=>∃a2 n2 c2,e=.returned (.slice a2 n2 c2)/\(u2.cell? ⟨w.heap.size,0,none⟩=some (aA bb)/\u2.cell? ⟨w.heap.size+1,0,none⟩=some (aA nb)/\u2.cell? ⟨nb,2,none⟩=some (.slice (some ⟨g,0,none⟩) (m+1) cap)/\u2.cell? ⟨g,0,none⟩=some (aA ba)) /\
    Hid (Calls prog 134 #[aA bb,.slice a2 n2 c2] u2 fun e u3=>∃a3 n3 c3,e=.returned (.slice a3 n3 c3)/\(u3.cell? ⟨w.heap.size,0,none⟩=some (aA bb)/\u3.cell? ⟨w.heap.size+1,0,none⟩=some (aA nb)/\u3.cell? ⟨nb,2,none⟩=some (.slice (some ⟨g,0,none⟩) (m+1) cap)/\u3.cell? ⟨g,0,none⟩=some (aA ba)) /\
     Hid (Calls prog 133 #[.func (.func K) #[] cs,.slice a3 n3 c3] u3 fun e u4=>∃K cs,e=.returned (.func (.func K) #[] cs)/\(u4.cell? ⟨w.heap.size,0,none⟩=some (aA bb)/\u4.cell? ⟨w.heap.size+1,0,none⟩=some (aA nb)/\u4.cell? ⟨nb,2,none⟩=some (.slice (some ⟨g,0,none⟩) (m+1) cap)/\u4.cell? ⟨g,0,none⟩=some (aA ba))/\Hid (BA mb tb bb A ⟨15,0,[],c0::cds,pts⟩ w e u4)))):=by
  have hkd:=Kn.AH w1;have Q4:Kn (fun k=>k=tb\/k=bb) w1 w1.drew:=hkd.wide fun _ _ h=>h.elim;refine(hE _ ba (Kf.stays hkd) (Kf.tree Q4 Yy)).mono ?_;rintro e u1⟨K,cs,rfl,q1,q2,q3⟩;have k1:=Q4.trans q2;refine⟨K,cs,rfl,Jw u1 k1,(jK (kk:=16) (Kf.tree k1 Ld) Jm Qa (by decide)).mono ?_⟩;rintro e u2⟨a2,n2,c2,rfl,l,Jr,Pq,Jy⟩;have Pd:Kn (fun k=>k=tb\/k=bb) u1 u2:=Jy.wide fun _ _ h=>h.elim;have k2:=k1.trans Pd;have g7:=q1.stays Jy;refine⟨a2,n2,c2,rfl,Jw u2 k2,(SX g7 (bN Jr (zero_le _)) Pq Si Mb h0 C8 hR).mono ?_⟩;rintro e u3⟨a3,n3,c3,rfl,hB3,Le,xs,r1,r2⟩;have k3:=k2.trans Le;refine⟨a3,n3,c3,rfl,Jw u3 k3,(Ct hB3 (fP.kept (q1.kr (Pd.trans Le)) _ _ q3) r1 r2).mono ?_⟩;rintro e u4 ha;have Qp:=ha;obtain⟨K4,cs4,rfl,_,Mr,_⟩:=ha;exact⟨K4,cs4,rfl,Jw u4 (k3.trans Mr),aC (Qp.behind ((hF1.wide fun _ _ h=>h.elim).trans k3))⟩
 have HC:=aC Xp;obtain⟨c1a,c2a,c3a,c4a⟩:=Jw _ ((Kn.AH w1).wide fun _ _ h=>h.elim);clear Xp Jw hE hR hn Ld hp hm Od Yy Kx Ly hB Kf Lw hF hF1 d12 Qa Si Mb h0 C8 Jm;unfold aA at *;go_enter func91,ntmps91;go_wp2_with fail
 go_region_held_law (fun w'=>w'.cell? ⟨w.heap.size,0,none⟩=some (.pointer (some ⟨bb,0,none⟩))/\w'.cell? ⟨w.heap.size+1,0,none⟩=some (.pointer (some ⟨nb,0,none⟩))/\w'.cell? ⟨nb,2,none⟩=some (.slice (some ⟨g,0,none⟩) (m+1) cap)/\w'.cell? ⟨g,0,none⟩=some (.pointer (some ⟨ba,0,none⟩))) (with_reducible exact⟨c1a,c2a,c3a,c4a⟩)
  (first|(go_at_call 91;refine(HC.out).mono ?_;rintro e u1⟨K,cs,rfl,⟨c1a,c2a,c3a,c4a⟩,HO⟩;clear HC)|(go_at_call 21;refine(HO.out).mono ?_;rintro e u2⟨a2,n2,c2,rfl,⟨c1a,c2a,c3a,c4a⟩,HR⟩;clear HO)|(go_at_call 134;refine(HR.out).mono ?_;rintro e u3⟨a3,n3,c3,rfl,⟨c1a,c2a,c3a,c4a⟩,HM⟩;clear HR)|(go_at_call 133;refine(HM.out).mono ?_;rintro e u4⟨Kr,csr,rfl,⟨c1a,c2a,c3a,c4a⟩,HQ⟩;clear HM))
 all_goals
  go_wp2;refine bodyPost_ret (v:=.func (.func Kr) #[] csr) (by simp[results,results91,go_sem]) rfl HQ.out
end
end
end Go.Proofs.YthakgdfmbknakaaGreatDoor
