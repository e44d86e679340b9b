import Derived.Test.YthakgdfmbknakaaGreatDoorC16
set_option linter.all false
set_option maxHeartbeats 40000000
set_option maxRecDepth 100000
open Go.Proofs.Tryz
open Nat (le_refl le_trans zero_le)
namespace Go.Proofs.YthakgdfmbknakaaGreatDoor
open UInt8 (ofNat)
open Go.RowKit
def wQ(toks:List (List UInt8))(v1 v2:Value)(b1 b2:Nat)(w:World)(hn:toks.length<=100000)
  (h1:w.ownsRow b1 9 1 v1 toks.length (toks.map bM)) (h2:w.ownsRow b2 9 1 v2 toks.length (toks.map bM)) :
  Calls prog 5 #[v1,v2] w fun e w'=>e=.returned (.bool true)/\∃nq,w'=w.drewN nq:=by
 by_cases h0:toks.length=0
 ·have hv:∀{v:Value}{b:Nat},w.ownsRow b 9 1 v toks.length (toks.map bM)->∃a c,v=.slice a 0 c:=by
   intro v b h;rcases aD h with⟨rfl,_⟩|⟨g,cap,rfl⟩
   ·exact⟨_,_,rfl⟩
   ·rw[h0];exact⟨_,_,rfl⟩
  obtain⟨a1,c1,rfl⟩:=hv h1;obtain⟨a2,c2,rfl⟩:=hv h2;clear h1 h2 hv;go_enter func5,ntmps5;go_wp2;refine wp_loop_rounds 1 ?_;rw[rounds_succ];go_wp2;go_ret;exact⟨rfl,0,rfl⟩
 ·obtain⟨g1,c1,rfl⟩:∃g cap,v1=.slice (some ⟨g,0,none⟩) toks.length cap:=by
   rcases aD h1 with⟨_,h⟩|h
   ·exact absurd h h0
   ·exact h
  obtain⟨g2,c2,rfl⟩:∃g cap,v2=.slice (some ⟨g,0,none⟩) toks.length cap:=by
   rcases aD h2 with⟨_,h⟩|h
   ·exact absurd h h0
   ·exact h
  have Yg:∀k,k<toks.length->w.cell? ⟨g1,k,none⟩=some (bM (toks.getD k [])):=fun k hk=>by
   rw[h1.cellAt k (by omega),List.getElem?_map,List.getElem?_eq_getElem hk,List.getD_eq_getElem?_getD,List.getElem?_eq_getElem hk];rfl
  have Ki:∀k,k<toks.length->w.cell? ⟨g2,k,none⟩=some (bM (toks.getD k [])):=fun k hk=>by
   rw[h2.cellAt k (by omega),List.getElem?_map,List.getElem?_eq_getElem hk,List.getD_eq_getElem?_getD,List.getElem?_eq_getElem hk];rfl
  have i6:=aC Yg;have HQ2:=aC Ki;clear Yg Ki h1 h2;generalize toks.length=n at *;have Ju:((n:Int) != (n:Int))=false:=by simp
  go_enter func5,ntmps5;go_wp2
  go_loopw [5] (fun i wr=>∃k:Nat,k<=n/\i=.int .i64 k/\∃nq,wr=w.drewN nq) (fun i _=>n-(intOf i).toNat)
  case atStart=>exact⟨0,zero_le _,rfl,0,rfl⟩
  case round=>
   obtain⟨k,hk,rfl,nq,rfl⟩:=hrel
   by_cases Js:k<n
   ·have e1:=i6.out k Js;have e2:=HQ2.out k Js;unfold bM at e1 e2;generalize bs (toks.getD k [])=bk at *;have Sh:(k:Int)<(n:Int):=by omega
    have We:(bk.toList != bk.toList)=false:=by simp
    go_wp2_with fail
    go_quiet (fail)
    go_wp2;exact⟨⟨k+1,by omega,by go_num,_,rfl⟩,by simp[intOf];omega⟩
   ·go_wp2;go_ret;exact⟨rfl,nq,rfl⟩
def ct(c:Nat)(l:List UInt8):Nat:=l.countP fun b=>b.toNat==c
def MB{c k:Nat}{l:List UInt8}(hk:k<l.length):ct c (l.take (k+1))=ct c (l.take k)+if l[k].toNat=c then 1 else 0:=by
 unfold ct;rw[List.take_add_one,List.getElem?_eq_getElem hk,List.countP_append]
 by_cases h:l[k].toNat=c<;>simp[Option.toList,List.countP_cons,h]
def Ca(c:Nat)(hc:c<256)(l:List UInt8):ct c (Sorter.sortL l)=ct c l:=by
 have h:∀l:List UInt8,ct c l=l.count (ofNat c):=fun l=>by
  unfold ct List.count;congr 1
  funext b
  have:(ofNat c).toNat=c:=by rw[UInt8.toNat_ofNat'];omega
  by_cases hb:b.toNat=c
  ·have e:b=ofNat c:=UInt8.toNat_inj.1 (by omega);rw[show (b.toNat==c)=true by simp[hb],show (b==ofNat c)=true by simp[e]]
  ·have e:b≠ofNat c:=fun e=>hb (by rw[e];assumption);rw[show (b.toNat==c)=false by simp[hb],show (b==ofNat c)=false by simp[e]]
 rw[h,h,Sorter.sortL_count]
def NJ{l:List UInt8}{k:Nat}(hk:k+1<(Sorter.sortL l).length):((Sorter.sortL l)[k]'(by omega)).toNat<=(Sorter.sortL l)[k+1].toNat:=
 List.pairwise_iff_getElem.1 (Sorter.sortL_sorted l) k (k+1) (by omega) hk (by omega)
def LN{k:Nat}(h:k<3):(mrow 3)[k*2]?=some (.bool false)/\(mrow 3)[k*2+1]?=some (.slice none 0 0):=by
 match k,h with
 |0,_=>exact⟨rfl,rfl⟩
 |1,_=>exact⟨rfl,rfl⟩
 |2,_=>exact⟨rfl,rfl⟩
def FN:∀k:Nat,k<25->IntKind.i64.wrap (k:Int)=(k:Int):=by decide
structure De(w:World)(rb:Nat)(so:ByteArray)(g:Nat)(wr:World):Prop where
 bl:Below w.heap.size w wr
 lt:rb<wr.heap.size/\g<wr.heap.size
 c0:wr.cell? ⟨rb,0,none⟩=some (.string so)
 c1:wr.cell? ⟨rb,1,none⟩=some (.int .i64 0)
 cm:∀k,k<3->wr.cell? ⟨g,k*2,none⟩=some (.bool false)/\wr.cell? ⟨g,k*2+1,none⟩=some (.slice none 0 0)
def De.drew{w wr:World}{rb g:Nat}{so:ByteArray}(h:De w rb so g wr):De w rb so g wr.drew:=⟨⟨h.bl.os,h.bl.tape,h.bl.output,h.bl.size,h.bl.block⟩,h.lt,h.c0,h.c1,h.cm⟩
def tV(hT:∀S,S=bs iF->∀wx,Calls prog 4 #[.string S] wx fun e w1=>∃v,e=.returned (.tuple #[v,.int .i64 0,.int .i64 0])/\Hid (Below wx.heap.size wx w1/\w1.ownsRow wx.heap.size aI 1 v iX.length (iX.map bM)))
  (hM:∀S,S=bs iF->∀wx,Calls prog 6 #[.string S] wx fun e u=>∃g c,e=.returned (.tuple #[.slice (some ⟨g,0,none⟩) 3 c,.int .i64 0,.int .i64 0])/\Hid (Below wx.heap.size wx u/\g<u.heap.size/\∀k,k<3->u.cell? ⟨g,k*2,none⟩=some (.bool false)/\u.cell? ⟨g,k*2+1,none⟩=some (.slice none 0 0)))
  (hR:∀S,S=bs iF->∀(I:Nm),I.length<=24->∀wx,∃dn:Int,Calls prog 7 #[.string S,.string (bs I),.int .i64 4000] wx fun e w'=>e=.returned (.tuple #[.agg #[.string (bs (Sorter.sortL I)),.int .i64 0,.int .i64 dn],.int .i64 0,.int .i64 0])/\Below wx.heap.size wx w')
  (inp:ByteArray) (hs:inp.size<=maxLen) (w:World) :
  Calls prog 3 #[.string inp] w fun e w'=>e=.returned (.bool true)/\Below w.heap.size w w':=by
 have HT:=aC hT;have HM:=aC hM;have HR:=aC hR;clear hT hR hM;unfold maxLen at hs;have H8:∀S:ByteArray,S.size<=24->∃I:Nm,S=bs I/\I.length<=24/\S.size=I.length:=fun S h=>⟨S.data.toList,by simp[bs],by simpa using h,by simp⟩;go_enter func3,ntmps3
 by_cases hb:24<inp.size
 case' pos=>
  have Kz:(24:Int)<(inp.size:Int):=by omega
  have Mf:(24:Int)<=(inp.size:Int):=by omega
  have On:(inp.extract 0 24).size<=24:=by simp[ByteArray.size_extract];omega
  go_wp2_with fail;generalize inp.extract 0 24=S at *;obtain⟨I,rfl,hIl,hIs⟩:=H8 S On
 case' neg=>
  have Kz:¬(24:Int)<(inp.size:Int):=by omega
  go_wp2_with fail;obtain⟨I,rfl,hIl,hIs⟩:=H8 inp (by omega)
 all_goals
  refine(HT.out _ (by rfl) _).mono ?_;rintro e w1⟨v1,rfl,i9⟩;clear H8;go_wp2_with fail;have A8:=i9.out.2.alloc (.cells (iX.map bM).toArray aI);have A7:=World.ownsRow_lit (base:=w1.heap.size) (e:=aI) (size:=1) w1 (iX.map bM).toArray 4 (le_refl _) (by decide) rfl;have Vg:Below w.heap.size w (w1.alloc (.cells (iX.map bM).toArray aI)):=i9.out.1.alloc i9.out.1.size _;refine(wQ iX _ _ _ _ _ (by decide) A8 A7).mono ?_;rintro e w3⟨rfl,nq,D7⟩;have HB3:Hid (Below w.heap.size w w3):=by rw[D7];exact aC (ES Vg nq)
  clear D7 i9 A8 A7 Vg HT;go_wp2_with fail;refine(HM.out _ (by rfl) _).mono ?_;rintro e w4⟨g,cp,rfl,X0⟩;have HB4:Hid (Below w.heap.size w w4):=aC (HB3.out.trans (X0.out.1.mono HB3.out.size));clear HM HB3;go_wp2_with fail;obtain⟨dn,Jo⟩:=HR.out _ (show _=bs iF by rfl) I hIl w4;refine(Jo).mono ?_;rintro e w5⟨rfl,Vf⟩
  have hLp:De w w5.heap.size (bs (Sorter.sortL I)) g (w5.alloc (.cells #[.string (bs (Sorter.sortL I)),.int .i64 0,.int .i64 dn] 31)):=by
   have U2:=HB4.out.trans (Vf.mono HB4.out.size);have hn:=(MapKept.heap_alloc w5 (.cells #[.string (bs (Sorter.sortL I)),.int .i64 0,.int .i64 dn] 31)).1;have hg:=X0.out.2.1;have hs5:=Vf.size
   have Qd:∀{q o:Nat}{v:Value},q<w4.heap.size->w4.cell? ⟨q,o,none⟩=some v->(w5.alloc (.cells #[.string (bs (Sorter.sortL I)),.int .i64 0,.int .i64 dn] 31)).cell? ⟨q,o,none⟩=some v:=fun {q o v} hq h=>by
    unfold World.cell? at h ⊢;rw[Below.heap_alloc _ _ _ (by show q<w5.heap.size;omega),Vf.block _ hq];exact h
   exact⟨U2.alloc U2.size _,⟨aB hn,by simp;omega⟩,(aP hn 0).trans rfl,(aP hn 1).trans rfl,fun k hk=>⟨Qd hg (X0.out.2.2 k hk).1,Qd hg (X0.out.2.2 k hk).2⟩⟩
  obtain⟨so,sv,J2,Ye,hOs,hIz,hSt,hSo,hSr⟩:∃so sv:ByteArray,bs (Sorter.sortL I)=so/\bs I=sv/\so.size=sv.size/\sv.size=I.length/\(∀(c k:Nat)(h:k<sv.size),ct c (I.take (k+1))=ct c (I.take k)+if sv[k].toNat=c then 1 else 0) /\
    (∀(c k:Nat)(h:k<so.size),ct c ((Sorter.sortL I).take (k+1))=ct c ((Sorter.sortL I).take k)+if so[k].toNat=c then 1 else 0)/\∀(k:Nat)(h:k+1<so.size),(so[k]'(by omega)).toNat<=so[k+1].toNat:=
   ⟨_,_,rfl,rfl,by simp[bs,ByteArray.size,Sorter.sortL_len],by simp[bs,ByteArray.size],fun c k h=>MB (by simpa [bs,ByteArray.size]using h),fun c k h=>MB (by simpa [bs,ByteArray.size]using h),fun k h=>NJ (by simpa [bs,ByteArray.size]using h)⟩
  have Sb:∀c k,c<256->k=sv.size->ct c (I.take k)=ct c ((Sorter.sortL I).take k):=fun c k hc hk=>by
   rw[List.take_of_length_le (by omega),List.take_of_length_le (by rw[Sorter.sortL_len];omega),Ca c hc]
  rw[J2]at hLp ⊢;rw[Ye];have Ut:=aC hLp;have Km:=aC hSt;have i5:=aC hSo;have Rj:=aC Sb;have W4:=aC hSr;clear hLp hSt hSo Sb hSr Jo HR X0 HB4 Vf J2 hs hb Kz;have Lz:((so.size:Int) != (sv.size:Int))=false:=by rw[hOs];simp
  have Ke:sv.size<=24:=by omega
  obtain⟨_,P3,k0,k1,_⟩:=Ut.out;go_wp2_with fail;clear k0 k1 P3;generalize w5.heap.size=rb at *
  go_loopg [13] 3 (fun gk v13 wr=>∃k:Nat,v13=.int .i64 (k:Nat)/\k+gk=3/\Hid (De w rb so g wr))
  case atStart=>exact⟨0,rfl,rfl,Ut⟩
  case round=>
   clear Ut;obtain⟨k,rfl,hk,HL⟩:=hrel
   by_cases Js:k<3
   ·obtain⟨m0,m1⟩:=HL.out.cm k Js;have C0:=HL.out.lt.2;have Te:(k:Int)<3:=by omega
    have Sh:k<3:=Js;clear Km i5 Rj W4;go_wp2_with fail
    go_roundg (3-(k+1))
    case rel=>exact⟨k+1,by go_num,by omega,HL⟩
    case measure=>omega
   ·have Te:¬(k:Int)<3:=by omega
    go_wp2_with fail
    go_loopg [14] 256 (fun gk v14 wr=>∃c:Nat,v14=.int .i64 (c:Nat)/\c+gk=256/\Hid (De w rb so g wr))
    case atStart=>exact⟨0,rfl,rfl,HL⟩
    case round=>
     clear HL Js Te hk;obtain⟨c,rfl,hc,HL⟩:=hrel
     by_cases Js:c<256
     ·have Te:(c:Int)<256:=by omega
      clear W4;go_wp2_with fail
      go_loopg [15,16] sv.size (fun gk v15 v16 wr=>∃(k:Nat) (d:Int),v16=.int .i64 (k:Nat)/\k+gk=sv.size/\v15=.int .i64 d/\(-24<=d/\d<=24)/\Hid (d=(ct c (I.take k):Int)-ct c ((Sorter.sortL I).take k)/\De w rb so g wr))
      case atStart=>exact⟨0,0,rfl,by omega,rfl,⟨by decide,by decide⟩,aC ⟨by simp[ct],HL.out⟩⟩
      case round=>
       clear HL;obtain⟨k,d,rfl,hk,rfl,hd,HL⟩:=hrel
       by_cases Mq:k<sv.size
       ·have F1:(k:Int)<(sv.size:Int):=by omega
        have hlk2:(k:Int)<(so.size:Int):=by omega
        have F0:k<so.size:=by omega
        have HX:Hid ((ct c (I.take (k+1))=ct c (I.take k)+if sv[k].toNat=c then 1 else 0)/\(ct c ((Sorter.sortL I).take (k+1))=ct c ((Sorter.sortL I).take k)+if so[k].toNat=c then 1 else 0)/\ct c (I.take (k+1))<=24/\ct c ((Sorter.sortL I).take (k+1))<=24/\d=(ct c (I.take k):Int)-ct c ((Sorter.sortL I).take k)):=
         aC ⟨Km.out c k Mq,i5.out c k F0,le_trans List.countP_le_length (by rw[List.length_take];omega),le_trans List.countP_le_length (by rw[List.length_take];omega),HL.out.1⟩
        have HZ:=aC HL.out.2;have q0:=HL.out.2.c0;have q1:=HL.out.2.lt.1;clear Km i5 Rj HL;obtain⟨h1,h2⟩:=hd
        have Jp:∀d':Int,(d'=d+(if sv[k].toNat=c then 1 else 0)-(if so[k].toNat=c then 1 else 0))->(-24<=d'/\d'<=24)/\Hid (d'=(ct c (I.take (k+1)):Int)-ct c ((Sorter.sortL I).take (k+1))/\De w rb so g wr):=fun d' hd'=>by
         obtain⟨x1,x2,x3,x4,x5⟩:=HX.out
         have e:d'=(ct c (I.take (k+1)):Int)-ct c ((Sorter.sortL I).take (k+1)):=by
          rw[hd',x5,x1,x2]
          split<;>split<;>omega
         exact⟨by omega,aC ⟨e,HZ.out⟩⟩
        have D0:=aC Jp;have Ny:=(sv[k]).toNat_lt;have Mv:=(so[k]).toNat_lt;clear Jp HX HZ
        by_cases t1:sv[k].toNat=c<;>by_cases t2:so[k].toNat=c
        ·have z1:(sv[k].toNat:Int)=(c:Int):=by omega
         have z2:(so[k].toNat:Int)=(c:Int):=by omega
         have HF:=aC (D0.out d (by rw[if_pos t1,if_pos t2];omega));clear D0;go_wp2_with fail
         go_roundg (sv.size-(k+1))
         case rel=>exact⟨k+1,d,by go_num,by omega,rfl,HF.out⟩
         case measure=>omega
        ·have z1:(sv[k].toNat:Int)=(c:Int):=by omega
         have z2:¬(so[k].toNat:Int)=(c:Int):=by omega
         have HF:=aC (D0.out (d+1) (by rw[if_pos t1,if_neg t2];omega));clear D0;go_wp2_with fail
         go_roundg (sv.size-(k+1))
         case rel=>exact⟨k+1,d+1,by go_num,by omega,rfl,HF.out⟩
         case measure=>omega
        ·have z1:¬(sv[k].toNat:Int)=(c:Int):=by omega
         have z2:(so[k].toNat:Int)=(c:Int):=by omega
         have HF:=aC (D0.out (d-1) (by rw[if_neg t1,if_pos t2];omega));clear D0;go_wp2_with fail
         go_roundg (sv.size-(k+1))
         case rel=>exact⟨k+1,d-1,by go_num,by omega,rfl,HF.out⟩
         case measure=>omega
        ·have z1:¬(sv[k].toNat:Int)=(c:Int):=by omega
         have z2:¬(so[k].toNat:Int)=(c:Int):=by omega
         have HF:=aC (D0.out d (by rw[if_neg t1,if_neg t2];omega));clear D0;go_wp2_with fail
         go_roundg (sv.size-(k+1))
         case rel=>exact⟨k+1,d,by go_num,by omega,rfl,HF.out⟩
         case measure=>omega
       ·have F1:¬(k:Int)<(sv.size:Int):=by omega
        have hd0:d=0:=by rw[HL.out.1,Rj.out c k Js (by omega)];omega
        have HZ:=aC HL.out.2;subst hd0;clear HL;go_wp2_with fail
        go_roundg (256-(c+1))
        case rel=>exact⟨c+1,by go_num,by omega,HZ⟩
        case measure=>omega
     ·have Te:¬(c:Int)<256:=by omega
      clear Km i5 Rj;go_wp2_with fail
      go_loopg [17] so.size (fun gk v17 wr=>∃k:Nat,v17=.int .i64 ((k:Int)+1)/\k+gk=so.size/\Hid (De w rb so g wr))
      case atStart=>exact⟨0,rfl,by omega,HL⟩
      case round=>
       clear HL Js Te hc;obtain⟨k,rfl,hk,HL⟩:=hrel;have q0:=HL.out.c0;have q1:=HL.out.lt.1;have hso24:so.size<=24:=by omega
       clear hOs hIz Lz Ke hIs Ye hIl
       by_cases Mq:k+1<so.size
       ·have F1:(k:Int)+1<(so.size:Int):=by omega
        have hle:=W4.out k Mq;have hlk2:k<so.size:=by omega
        have y1:(0:Int)<=(k:Int):=by omega
        have y2:(k:Int)<(so.size:Int):=by omega
        have y3:(0:Int)<=(k:Int)+1:=by omega
        have y4:((k:Int)+1).toNat=k+1:=by omega
        have y5:=FN k (by omega);have p0:wr.drew.cell? ⟨rb,0,none⟩=some (.string so):=q0;have HZ:=aC HL.out.drew;clear W4 HL;go_wp2_with fail
        go_region
        all_goals
         go_wp2_with fail
         go_roundg (so.size-(k+1))
         case rel=>exact⟨k+1,by go_num,by omega,HZ⟩
         case measure=>omega
       ·have F1:¬(k:Int)+1<(so.size:Int):=by omega
        have HB:=aC HL.out.bl;clear W4 HL;go_wp2_with fail;exact⟨rfl,_,(by simp[results,results3,go_sem]),rfl,HB.out⟩
def FR(inp:ByteArray)(hs:inp.size<=maxLen)(w:World) :
  Calls prog 3 #[.string inp] w fun e w'=>e=.returned (.bool true)/\Below w.heap.size w w':=by
 refine tV (fun S hS wx=>by rw[hS];exact KB wx) (fun S hS wx=>?_) (fun S hS I hI wx=>by rw[hS];exact GI I hI wx) inp hs w;rw[hS];refine(xS wx).mono ?_;rintro e u⟨a,n,c,rfl,H⟩;obtain⟨h1,h2⟩:=H.out;rcases aD h2 with⟨_,h0⟩|⟨g,cap,e⟩
 ·cases h0
 ·cases e;have hc:=h2.cells (g:=g) rfl;have ha:∀j:Nat,(⟨g,0,none⟩:Addr).add j=⟨g,j,none⟩:=fun j=>by unfold Addr.add;split<;>simp_all
  refine⟨g,c,rfl,aC ⟨h1,(h2.lt g rfl).2,fun k hk=>?_⟩⟩;exact⟨by rw[<- ha];exact hc _ _ (LN hk).1,by rw[<- ha];exact hc _ _ (LN hk).2⟩
end Go.Proofs.YthakgdfmbknakaaGreatDoor
