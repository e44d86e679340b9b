import Derived.Test.YthakgdfmbknakaaGreatDoorC10
import Derived.Deep.RegionHeldLaw
import Derived.Recover
set_option linter.all false
set_option maxHeartbeats 40000000
set_option maxRecDepth 100000
open Go.Proofs.Tryz
open Or (inl inr)
open Option (bind_eq_some_iff)
open Nat (le_refl le_trans zero_le lt_succ_self)
open List (append_nil length_append length_cons mem_cons_self mem_cons_of_mem mem_append mem_singleton mem_cons length_map)
namespace Go.Proofs.YthakgdfmbknakaaGreatDoor
open World (cell?)
open Nd (BG all_eq)
open List (foldl_append foldl_nil getElem?_eq_getElem getElem?_map mem_of_getElem? take_add_one take_length take_zero)
open Go.RowKit
section
variable {ar:Nm->Nat}{tb yb:Nat}
def qA(ar:Nm->Nat)(tb yb n:Nat)(p:Nd):Prop:=
 ∀(m m2:Nat),p.ht<m->p.ht<m2->∀(A:Env)(d b:Nat)(Y:Nat->Prop)(ad:List Nat)(rk:Nat->Nat)(U:TS)(gv:Value)(u:World),eM m A p->XSh m2 p->mE ar A->d+n<=1000000->AB u p b->YM ar ad Y rk U A tb yb d gv u->U.given.length+p.sz<=100000000 ->
  Calls prog 161 #[aA yb,aA b] u (aJ ar ad Y A tb yb d gv (pQ n A d p U) u)
variable {n m m2:Nat}{p:Nd}{A:Env}{d b:Nat}{Y:Nat->Prop}{ad:List Nat}{rk:Nat->Nat}{U:TS}{gv:Value}{u w:World}{txt:Nm}{nb:Nat}
def qA.want(hI:qA ar tb yb n p)(ha:mU ar)(q1:p.ht<m)(q2:p.ht<m2){want:Nat}(h1:eM m A p)(h2:XSh m2 p)(h3:mE ar A)(h4:d+n<=1000000)(h5:AB u p b)(h:YM ar ad Y rk U A tb yb d gv u)(h7:U.given.length+p.sz<=100000000)(hw:want<U.nodes.length) :
  Calls prog 113 #[aA yb,aA b,aM ad want] u (cR ar ad Y A tb yb d gv (lI (pQ n) A d p want U) u):=by
 rw[Bn];exact PU ha.le h hw (hI m m2 q1 q2 A d b Y ad rk U gv u h1 h2 h3 h4 h5 h h7)
def qA.inside(hI:qA ar tb yb n p)(q1:p.ht<m)(q2:p.ht<m2){x:Nm}{t:Nat}(h1:eM m (((0,x),Mg.zero)::A) p)(h2:XSh m2 p)(h3:mE ar A)(h4:d+n<=1000000)(h5:AB u p b)(h:YM ar ad Y rk U A tb yb d gv u)(h7:U.given.length+p.sz<=100000000)(ht:t<U.nodes.length)(hx:cL (0,x)) :
  Calls prog 212 #[aA yb,.string (bs x),aM ad t,aA b] u (aJ ar ad Y A tb yb d gv (pQ n (((0,x),Mg.var t)::A) d p U) u):=
 FQ h ht hx fun u' hk hy=>hI m m2 q1 q2 _ d b Y ad rk U gv u' (eM.knows _ _ _ _ ((Knows.refl A).bind x _ _) h1) h2 (h3.bind x t) h4 (h.tree hk h5) hy h7
def AD.AN{w:World}{p:Nd}{ps:List Nd}{bl:List Nat}(h:AB.AD w (p::ps) bl):∃b bl',bl=b::bl'/\AB w p b/\AB.AD w ps bl':=by
 cases bl with
 |nil=>simp[AB.AD]at h
 |cons b bl'=>rw[AB.AD]at h;exact⟨b,bl',rfl,h.1,h.2⟩
def AD.BS{w:World}{bl:List Nat}(h:AB.AD w [] bl):bl=[]:=by
 cases bl with
 |nil=>rfl
 |cons b bl'=>simp[AB.AD]at h
def Je{k:Nat}{a:Nd}(h:AB w (.mk k txt [a]) nb):∃g cap ba,dH nb k txt g cap [ba] w/\AB w a ba:=by
 obtain⟨g,cap,bl,h1,h2,_⟩:=h.pt (by simp);obtain⟨ba,l1,rfl,m1,h3⟩:=AD.AN h2;obtain rfl:=AD.BS h3;exact⟨g,cap,ba,h1,m1⟩
def Hd{k:Nat}{a b:Nd}(h:AB w (.mk k txt [a,b]) nb):∃g cap ba bb,dH nb k txt g cap [ba,bb] w/\AB w a ba/\AB w b bb:=by
 obtain⟨g,cap,bl,h1,h2,_⟩:=h.pt (by simp);obtain⟨ba,l1,rfl,m1,h3⟩:=AD.AN h2;obtain⟨bb,l2,rfl,m2,h4⟩:=AD.AN h3;obtain rfl:=AD.BS h4;exact⟨g,cap,ba,bb,h1,m1,m2⟩
def Jd{k:Nat}{a b c:Nd}(h:AB w (.mk k txt [a,b,c]) nb):∃g cap ba bb bc,dH nb k txt g cap [ba,bb,bc] w/\AB w a ba/\AB w b bb/\AB w c bc:=by
 obtain⟨g,cap,bl,h1,h2,_⟩:=h.pt (by simp);obtain⟨ba,l1,rfl,m1,h3⟩:=AD.AN h2;obtain⟨bb,l2,rfl,m2,h4⟩:=AD.AN h3;obtain⟨bc,l3,rfl,m3,h5⟩:=AD.AN h4;obtain rfl:=AD.BS h5;exact⟨g,cap,ba,bb,bc,h1,m1,m2,m3⟩
def nK(U:TS)(t:TN):U.nodes.length<(U.new t).2.nodes.length:=by rw[TS.BD];omega
def vO{g cap ba:Nat}{bl:List Nat}{a:Nd}(hI:qA ar tb yb n a)(q1:a.ht<m)(q2:a.ht<m2)(h1:eM m A a)(h2:XSh m2 a)(h3:mE ar A)(h4:d+(n+1)<=1000000)(hp:dH nb 6 txt g cap (ba::bl) w)(h5:AB w a ba)(h:YM ar ad Y rk U A tb yb d gv w)(h7:U.given.length+a.sz<=100000000) :
  Calls prog 114 #[aA yb,aA nb] w (aJ ar ad Y A tb yb d gv (cX d (pQ n A (if bB (a.ht+1) a then d+1 else d) a U)) w):=by
 refine EQ h hp (by omega) (lt_succ_self a.ht) h5 fun u hk hy=>?_;refine MZ hy (h.pt hk hp) fun u' Ze l8=>?_;exact hI m m2 q1 q2 A _ ba Y ad rk U gv u' h1 h2 h3 (by split<;>omega) (hy.tree Ze (h.tree hk h5)) l8 h7
def QI{g cap ba:Nat}{bl:List Nat}{a:Nd}(ha:mU ar)(hI:qA ar tb yb n a)(q1:a.ht<m)(q2:a.ht<m2)(h1:eM m (((0,txt),Mg.zero)::A) a)(h2:XSh m2 a)(h3:mE ar A)(h4:d+(n+1)<=1000000)(hx:cL (0,txt))(hp:dH nb 7 txt g cap (ba::bl) w)(h5:AB w a ba)(h:YM ar ad Y rk U A tb yb d gv w)(h7:U.given.length+a.sz<=100000000) :
  Calls prog 114 #[aA yb,aA nb] w (aJ ar ad Y A tb yb d gv (cX d (qQ U.nodes.length (pQ n (((0,txt),Mg.var U.nodes.length)::A) (if bB (a.ht+1) a then d+1 else d) a (U.letter (if bB (a.ht+1) a then d+1 else d)).2))) w):=by
 refine EQ h hp (by omega) (lt_succ_self a.ht) h5 fun u hk hy=>?_;refine MY ha.le hy (h.pt hk hp) fun u' Ze l8=>?_;exact hI.inside q1 q2 h1 h2 h3 (by split<;>omega) (hy.tree Ze (h.tree hk h5)) l8 h7 (nK _ _) hx
def YU(ha:mU ar){t:Nm}{p e:Nd}{rb subj ans:Nat}(hI:qA ar tb yb n e)(q1:e.ht<m)(q2:e.ht<m2)(hn:∀x∈p.all,x.k=14->mF A x)(h1:eM m (cE A (bK p) Mg.zero) e)(Lu:KG p)(h2:XSh m2 e)(h3:mE ar A)(h4:d+n<=1000000)(h5:AB u (.mk 16 t [p,e]) rb)(h:YM ar ad Y rk U A tb yb d gv u)(h7:U.given.length+(Nd.mk 16 t [p,e]).sz<=100000000)(hs:subj<U.nodes.length)(I4:ans<U.nodes.length) :
  Calls prog 289 #[aA yb,aA rb,aM ad subj,aM ad ans] u (cR ar ad Y A tb yb d gv (SY (pQ n) A d subj ans (.mk 16 t [p,e]) U) u):=by
 obtain⟨g,cap,bp,be,hp,mp,me⟩:=Hd h5;have Ke:(Nd.mk 16 t [p,e]).sz=p.sz+(e.sz+0)+1:=rfl;have Lb:=Lu.ptOk h3 hn
 have Zx:∀U' vs,IB A d p subj (U,[])=some (U',vs)->vs.map Prod.fst=bK p:=fun U' vs hq=>by
  have:=vB (fun s t s'=>OC (ar:=ar) _ p Lu Lb s t s') hq
  simpa using this
 have Zg:∀U' vs,IB A d p subj (U,[])=some (U',vs)->U'.given.length<=U.given.length+p.sz:=fun U' vs hq=>iZ (fun s t s'=>jA _ p s t s') hq;have Kv:=h.alloc (.cells #[aA yb,.slice none 0 0] nJ);have Ti:Kn (Dm ad tb yb gv) u (u.alloc (.cells #[aA yb,.slice none 0 0] nJ)):=(Kn.refl _ u).alloc _;rw[show SY (pQ n) A d subj ans (.mk 16 t [p,e]) U=rR (IB A d p subj (U,[])) (fun vs s'=>lI (pQ n) (eD A vs) d e ans s')from rfl];refine Ek h hp hs I4 (fun U' vs hq x hx=>?_) ?_ fun u' l U' vs rk' gv' hk hq hy=>?_
 ·have hm:x.1∈bK p:=by rw[<- Zx _ _ hq];exact List.mem_map_of_mem hx
  obtain⟨y,hy,e1⟩:=FU hm;exact⟨show 0<3 by decide,by rw[<- e1];exact(Lu y hy).1⟩
 ·exact yT ha (lt_succ_self p.ht) Lb (h.tree Ti mp) Kv ⟨(MapKept.heap_alloc u _).1,⟨rfl,inl ⟨rfl,rfl⟩⟩,by simp,zero_le _⟩ (by show U.given.length+p.sz<=_;omega) hs
 ·have hg:=Zg _ _ hq
  have hl:ans<U'.nodes.length:=by
   have h1:=hy.len;have h2:=h.len;rw[length_append]at h1;omega
  exact hI.want ha q1 q2 (eM.knows _ _ _ _ (by rw[<- Zx _ _ hq];exact(Knows.refl A).DJ _ vs) h1) h2 (mE.binds vs h3) h4 (h.tree hk me) hy (by omega) hl
def eM.sub{k:Nat}{ps:List Nd}(h:eM (m+1) A (.mk k txt ps))(hk:k=8\/k=9\/k=10\/k=11\/k=12\/k=13\/k=15):∀p∈ps,eM m A p:=by
 rcases hk with rfl|rfl|rfl|rfl|rfl|rfl|rfl<;>exact h
def VR(ha:mU ar){nd:Nd}(hI:∀p∈nd.ps,qA ar tb yb n p)(hR:∀r∈nd.ps,∀p∈r.ps,qA ar tb yb n p)(hm:nd.ht<m+1)(Ly:nd.ht<m2+1)(h1:eM (m+1) A nd)(h2:XSh (m2+1) nd)(h3:mE ar A)(h4:d+(n+1)<=1000000)(h5:AB w nd nb)(h:YM ar ad Y rk U A tb yb d gv w)(h7:U.given.length+nd.sz<=100000000) :
  Calls prog 210 #[aA yb,aA nb] w (aJ ar ad Y A tb yb d gv (fF (pQ n) A d nd U) w):=by
 obtain⟨k,txt,ps⟩:=nd;obtain⟨pv,bl,n1,n2,n3⟩:=h5.inv;have c0:w.cell? ⟨nb,0,none⟩=some (.int .i64 k):=by simp[cell?,n1]
 have c1:w.cell? ⟨nb,1,none⟩=some (.string (bs txt)):=by simp[cell?,n1]
 obtain⟨Rk,Pl,Rr⟩:=h2
 replace hI:∀p∈ps,qA ar tb yb n p:=hI
 replace hR:∀r∈ps,∀p∈r.ps,qA ar tb yb n p:=hR
 have hl:∀p∈ps,p.ht<m:=fun p hp=>BG hp hm;have Mb:∀p∈ps,p.ht<m2:=fun p hp=>BG hp Ly
 replace h7:U.given.length+(Nd.sz.szs ps+1)<=100000000:=h7
 have E5:cL (0,txt):=⟨show 0<3 by decide,Rk⟩;have hd:d+n<=1000000:=by omega
 have Oy:=vJ n;split at Rr
 ·exact zV ha.int h c0
 ·exact zU ha.unit h c0
 ·
  have h1:(A.get (0,txt)).isSome=true:=h1;obtain⟨m',hg⟩:=Option.isSome_iff_exists.1 h1;obtain⟨t,ht⟩:=h3.var _ _ hg
  have hf:fF (pQ n) A d (.mk 3 txt ps) U=(if U.fits t then U.inst d t else none):=by
   rw[show fF (pQ n) A d (.mk 3 txt ps) U=(match ((A.get (0,txt)).getD Mg.zero).scheme with|some t=>if U.fits t then U.inst d t else none|none=>none)from rfl,hg]
   show (match m'.scheme with|some t=>if U.fits t then U.inst d t else none|none=>none)=_;rw[ht]
  rw[hf];exact uH c0 (vY ha.le h c1 E5 hg ht)
 ·
  obtain⟨⟨mm,hg,Wl⟩,h1⟩:=(show mF A (.mk 14 txt ps)/\∀p∈ps,eM m A p from h1);have hg:A.get (1,txt)=some mm:=hg;have Wl:ps.length=mm.vr.parts.length:=Wl;refine VQ c0 ?_;refine(WF (EX.bes yb) ha.le ha.arrow (M:=100000000) aF.expect (s0:=U) h ⟨rfl,_,h.typ⟩ h5 ⟨show 1<3 by decide,Rk⟩ hg (by rw[Wl];exact h3.con _ _ hg) Pl (ex:=lI (pQ n) A d) ?_ ?_ ?_).mono fun e u ha=>ha.toTy
  ·intro p hp bp Y' ad' rk' s gv' vv' u want Rt hy he hb hw;obtain⟨rfl,_⟩:=he;exact((hI p hp).want ha (hl p hp) (Mb p hp) (h1 p hp) (Rr p hp) h3 hd Rt hy hb hw).mono fun e u2 hq=>hq.toC
  ·intro p hp want s s' hs;exact dC Oy hs
  ·show U.given.length+_<=_;omega
 ·
  rename_i a;obtain⟨g,cap,ba,hp,ma⟩:=Je h5;rw[PO];refine uI c0 (zT ha.arrow h hp fun u hk hy=>?_);exact(hI a (by simp)).inside (hl a (by simp)) (Mb a (by simp)) h1 Rr h3 hd (h.tree hk ma) hy (by show U.given.length+_<=_;simp only[Nd.sz.szs]at h7;omega) (nK _ _) E5
 ·
  rename_i a b;obtain⟨g,cap,ba,bb,hp,ma,mb⟩:=Hd h5;obtain⟨h1a,h1b⟩:=(show eM m A a/\eM m (((0,txt),Mg.zero)::A) b from h1);simp only[Nd.sz.szs]at h7;rw[PN];refine VP h hp (vO (hI a (by simp)) (hl a (by simp)) (Mb a (by simp)) h1a Rr.1 h3 h4 hp ma h (by omega)) fun u t U' l rk' gv' hk ho ht hy=>?_;have hq:U'.given.length<=U.given.length+a.sz:=by rw[<- nR (txt:=txt)]at ho;exact kV Oy ho
  exact(hI b (by simp)).inside (hl b (by simp)) (Mb b (by simp)) h1b Rr.2 h3 hd (h.tree hk mb) hy (by omega) ht E5
 ·
  rename_i a b;obtain⟨g,cap,ba,bb,hp,ma,mb⟩:=Hd h5;have h1:=eM.sub h1 (by simp);simp only[Nd.sz.szs]at h7;rw[PL];refine VO ha.unit h hp (fun u hk hy=>?_) fun u U' l rk' gv' hk ho hy=>?_
  ·exact(hI a (by simp)).want ha (hl a (by simp)) (Mb a (by simp)) (h1 a (by simp)) Rr.1 h3 hd (h.tree hk ma) hy (by show U.given.length+_<=_;omega) (nK _ _)
  ·have hq:=dC Oy ho;have hq:U'.given.length<=U.given.length+a.sz:=hq;exact hI b (by simp) m m2 (hl b (by simp)) (Mb b (by simp)) A d bb Y (ad++l) rk' U' gv' u (h1 b (by simp)) Rr.2 h3 hd (h.tree hk mb) hy (by omega)
 ·
  rename_i a b;obtain⟨g,cap,ba,bb,hp,ma,mb⟩:=Hd h5;have h1:=eM.sub h1 (by simp);simp only[Nd.sz.szs]at h7;rw[IY];refine PK (inr (inl rfl)) c0 (tB ha.int ha.bool h hp (fun u hk hy=>?_) fun u U' l rk' gv' hk ho hy=>?_)
  ·exact(hI a (by simp)).want ha (hl a (by simp)) (Mb a (by simp)) (h1 a (by simp)) Rr.1 h3 hd (h.tree hk ma) hy (by show U.given.length+_<=_;omega) (nK _ _)
  ·have hq:=dC Oy ho;have hq:U'.given.length<=U.given.length+a.sz:=hq;exact(hI b (by simp)).want ha (hl b (by simp)) (Mb b (by simp)) (h1 b (by simp)) Rr.2 h3 hd (h.tree hk mb) hy (by show U'.given.length+_<=_;omega) (nK _ _)
 ·
  rename_i a b;obtain⟨g,cap,ba,bb,hp,ma,mb⟩:=Hd h5;have h1:=eM.sub h1 (by simp);simp only[Nd.sz.szs]at h7;rw[PP];refine pP c0 (tG ha.le ha.arrow h hp (fun u hk hy=>?_) fun u t U' l rk' gv' hk ho hy=>?_)
  ·exact hI a (by simp) m m2 (hl a (by simp)) (Mb a (by simp)) A d ba Y ad rk U gv u (h1 a (by simp)) Rr.1 h3 hd (h.tree hk ma) hy (by omega)
  ·have hq:=Oy _ _ _ _ _ _ ho;exact hI b (by simp) m m2 (hl b (by simp)) (Mb b (by simp)) A d bb Y (ad++l) rk' U' gv' u (h1 b (by simp)) Rr.2 h3 hd (h.tree hk mb) hy (by omega)
 ·
  rename_i c a b;obtain⟨g,cap,bc,ba,bb,hp,mc,ma,mb⟩:=Jd h5;have h1:=eM.sub h1 (by simp);simp only[Nd.sz.szs]at h7;rw[VS];refine Bi ha.bool h hp (fun u hk hy=>?_) (fun u U' l rk' gv' hk ho hy=>?_) fun u t U0 U' l rk' gv' hk ho Nf ht hy=>?_
  ·exact(hI c (by simp)).want ha (hl c (by simp)) (Mb c (by simp)) (h1 c (by simp)) Rr.1 h3 hd (h.tree hk mc) hy (by show U.given.length+_<=_;omega) (nK _ _)
  ·have hq:=dC Oy ho;have hq:U'.given.length<=U.given.length+c.sz:=hq;exact hI a (by simp) m m2 (hl a (by simp)) (Mb a (by simp)) A d ba Y (ad++l) rk' U' gv' u (h1 a (by simp)) Rr.2.1 h3 hd (h.tree hk ma) hy (by omega)
  ·have hq:=dC Oy ho;have hq:U0.given.length<=U.given.length+c.sz:=hq;have Ki:=Oy _ _ _ _ _ _ Nf;exact(hI b (by simp)).want ha (hl b (by simp)) (Mb b (by simp)) (h1 b (by simp)) Rr.2.2 h3 hd (h.tree hk mb) hy (by omega) ht
 ·
  rename_i a rows;obtain⟨g,cap,bl',hp,Tc,_⟩:=h5.pt (by simp);obtain⟨ba,bl2,rfl,ma,Ly⟩:=AD.AN Tc;have h1:=eM.sub h1 (by simp);obtain⟨m8,hxk,l9⟩:=Rr
  have Uz:∀x∈rows,x.k=16:=fun x hx=>by
   obtain⟨t,p,e,rfl,_⟩:=l9 x hx;rfl
  simp only[Nd.sz.szs]at h7;rw[zW Uz];refine IX c0 (UK h h5 hp Pl (fun p hp=>?_) (by omega) Uz (fun u hk hy=>?_) (B:=fun i s=>s.given.length+Nd.sz.szs (rows.drop i)<=100000000) (fun t U1 ho=>?_) (fun i row t ans s s' hr hb ho=>?_) fun i row rb u l t ans U' rk' gv' hr hmr hy hb ht I4=>?_)
  ·rcases mem_cons.1 hp with rfl|hp
   ·omega
   ·have:=Uz p hp;omega
  ·exact hI a (by simp) m m2 (hl a (by simp)) (Mb a (by simp)) A d ba Y ad rk U gv u (h1 a (by simp)) m8 h3 hd (h.tree hk ma) hy (by omega)
  ·have hq:=Oy _ _ _ _ _ _ ho
   show U1.given.length+Nd.sz.szs (rows.drop 0)<=_;rw[List.drop_zero];omega
  ·obtain⟨tt,p,e,rfl,_⟩:=l9 row (mem_of_getElem? hr);have Lc:=(List.getElem?_eq_some_iff.1 hr).1
   have Zj:rows.drop i=.mk 16 tt [p,e]::rows.drop (i+1):=by
    rw[List.drop_eq_getElem_cons Lc];rw[getElem?_eq_getElem Lc]at hr;rw[Option.some.inj hr]
   rw[Zj]at hb;have hb:s.given.length+((p.sz+(e.sz+0)+1)+Nd.sz.szs (rows.drop (i+1)))<=100000000:=hb
   have hq:s'.given.length<=s.given.length+(p.sz+e.sz):=by
    have ho:rR (IB A d p t (s,[])) (fun vs s'=>lI (pQ n) (eD A vs) d e ans s')=some s':=ho;unfold rR at ho;obtain⟨⟨s1,vs⟩,q1,q2⟩:=bind_eq_some_iff.1 ho;have w1:s1.given.length<=s.given.length+p.sz:=iZ (fun s t s'=>jA _ p s t s') q1;have w2:=dC Oy q2;have w2:s'.given.length<=s1.given.length+e.sz:=w2;omega
   show s'.given.length+Nd.sz.szs (rows.drop (i+1))<=_;omega
  ·have N4:=mem_of_getElem? hr;obtain⟨tt,p,e,rfl,Lu,hxe⟩:=l9 row N4;have Lc:=(List.getElem?_eq_some_iff.1 hr).1
   have Zj:rows.drop i=.mk 16 tt [p,e]::rows.drop (i+1):=by
    rw[List.drop_eq_getElem_cons Lc];rw[getElem?_eq_getElem Lc]at hr;rw[Option.some.inj hr]
   rw[Zj]at hb;have hb:U'.given.length+((Nd.mk 16 tt [p,e]).sz+Nd.sz.szs (rows.drop (i+1)))<=100000000:=hb;have hnr:=h1 _ (mem_cons_of_mem _ N4);have hht:(Nd.mk 16 tt [p,e]).ht<m:=hl _ (mem_cons_of_mem _ N4);have hht2:(Nd.mk 16 tt [p,e]).ht<m2:=Mb _ (mem_cons_of_mem _ N4);obtain⟨m3,rfl⟩:∃m3,m=m3+1:=⟨m-1,by omega⟩;obtain⟨m4,rfl⟩:∃m4,m2=m4+1:=⟨m2-1,by omega⟩;obtain⟨Ld,Pj⟩:=(show (∀x∈p.all,x.k=14->mF A x)/\eM m3 (cE A (bK p) Mg.zero) e from hnr);have hle:e.ht<m4:=BG (ps:=[p,e]) (by simp) hht2;exact YU ha (hR _ (mem_cons_of_mem _ N4) e (by simp[Nd.ps])) (BG (ps:=[p,e]) (by simp) hht) (Nat.lt_succ_of_lt hle) Ld Pj Lu hxe h3 hd hmr hy (by omega) ht I4
 ·exact Rr.elim
def sP(ha:mU ar):∀(n:Nat)(nd:Nd),nd.ht<n->qA ar tb yb n nd:=by
 intro n
 induction n with
 |zero=>intro nd h;omega
 |succ n ih=>
  intro nd hn m m2 q1 q2 A d b Y ad rk U gv u h1 h2 h3 h4 h5 h h7;obtain⟨m',rfl⟩:∃m',m=m'+1:=⟨m-1,by omega⟩;obtain⟨m2',rfl⟩:∃m2',m2=m2'+1:=⟨m2-1,by omega⟩
  have Js:∀p∈nd.ps,p.ht<n:=fun p hp=>by
   obtain⟨k,txt,ps⟩:=nd;exact BG hp hn
  have hF:=VR (n:=n) ha (fun p hp=>ih p (Js p hp)) (fun r hr p hp=>ih p (by
   have h1:=Js r hr;obtain⟨k,txt,ps⟩:=r
   have h2:p.ht<(Nd.mk k txt ps).ht:=by
    have:=BG (k:=k) (txt:=txt) hp (lt_succ_self (Nd.mk k txt ps).ht);exact this
   omega)) q1 q2 h1 h2 h3 h4 h5 h h7
  have hx:=uJ hF (fun t U' e=>by have:=qG (vJ n) e;omega)
  have Z7:zR (fF (pQ n) A d nd U)=pQ (n+1) A d nd U:=by
   rw[pQ]
   cases fF (pQ n) A d nd U with
   |none=>rfl
   |some r=>rfl
  rw[<- Z7];exact hx
end
section
variable {ad:List Nat}{tb lb:Nat}
def Ge.own{k:Nat}{txt:Nm}{ps:List Nd}(h:Ge (.mk k txt ps)):oA k ps/\txt.length<=100000000/\ps.length<=1000000:=h (.mk k txt ps) (by rw[all_eq];exact mem_cons_self)
def Ge.sub{k:Nat}{txt:Nm}{ps:List Nd}{p:Nd}(h:Ge (.mk k txt ps))(hp:p∈ps):Ge p:=fun x hx=>h x (by rw[all_eq];exact mem_cons_of_mem _ (kM hp x hx))
def XC{p:Nd}:∀{ps:List Nd},p∈ps->p.all.length<=(Nd.all.alls ps).length:=by
 intro ps
 induction ps with
 |nil=>intro h;cases h
 |cons q r ih=>
  intro h;rw[Nd.all.alls,length_append];rcases mem_cons.1 h with rfl|h
  ·omega
  ·have:=ih h;omega
def xH{k:Nat}{txt:Nm}{ps:List Nd}{p:Nd}(hp:p∈ps){N:Nat}(h:(Nd.mk k txt ps).all.length<=N):p.all.length<=N:=by
 rw[all_eq,length_cons]at h;have:=XC hp;omega
def An(n:Nat)(A:Env)(txt:Nm)(ps:List Nd)(s:Lk):lH (n+1) A (.mk 3 txt ps) s=s.name (A.get (0,txt)).isNone:=by rw[lH]
def Aq(n:Nat)(A:Env)(txt:Nm)(a:Nd)(s:Lk):lH (n+1) A (.mk 5 txt [a]) s=lH n (((0,txt),Mg.zero)::A) a s:=by rw[lH]
def Ap(n:Nat)(A:Env)(txt:Nm)(a b:Nd)(s:Lk):lH (n+1) A (.mk 6 txt [a,b]) s=lH n (((0,txt),Mg.zero)::A) b (lH n A a s):=by rw[lH]
def Ao(n:Nat)(A:Env)(txt:Nm)(p e:Nd)(s:Lk):lH (n+1) A (.mk 16 txt [p,e]) s=lH n (cE A (bK p) Mg.zero) e ((oL A p.all s).name (bZ (bK p))):=by rw[lH];rfl
def Ar(n:Nat)(A:Env)(txt:Nm)(ps:List Nd)(s:Lk):lH (n+1) A (.mk 14 txt ps) s=ps.foldl (fun s p=>lH n A p s) (jT A (.mk 14 txt ps) s):=by rw[lH]
def OU(n:Nat)(A:Env)(k:Nat)(txt:Nm)(ps:List Nd)(s:Lk)(h3:k≠3)(h5:k≠5)(h6:k≠6)(h7:k≠7)(Zq:k≠14)(L0:k≠16):lH (n+1) A (.mk k txt ps) s=ps.foldl (fun s p=>lH n A p s) s:=by
 rw[lH]
 all_goals (intros;simp_all)
def UN{ps:List Nd}(h:ps.length=1):∃a,ps=[a]:=List.length_eq_one_iff.1 h
def zL{ps:List Nd}(h:ps.length=2):∃a b,ps=[a,b]:=by
 match ps,h with
 |[a,b],_=>exact⟨a,b,rfl⟩
def vG:∀(n:Nat)(nd:Nd)(A:Env)(s:Lk)(w:World)(nb:Nat),nd.ht<n->Ge nd->nd.all.length<=100000000->AB w nd nb->bR ad A tb lb s w ->
  Calls prog 112 #[aA lb,aA nb] w (fG ad A tb lb (lH n A nd s) w):=by
 intro n
 induction n with
 |zero=>intro nd A s w nb h;omega
 |succ n ih=>
  intro nd A s w nb hh hw hl hm h;obtain⟨k,txt,ps⟩:=nd;obtain⟨Yf,J1,Nb⟩:=hw.own;have hE:∀p∈ps,∀(b:Nat)(s:Lk)(u:World),AB u p b->bR ad A tb lb s u->Calls prog 112 #[aA lb,aA b] u (fG ad A tb lb (lH n A p s) u):=fun p hp b s u Rt Wl=>ih p A s u b (BG hp hh) (hw.sub hp) (xH hp hl) Rt Wl;have hG:∀p∈ps,∀(b:Nat),AB w p b->∀(A2:Env)(s2:Lk)(u:World),Kn (fun k=>k=tb\/k=lb) w u->bR ad A2 tb lb s2 u->Calls prog 112 #[aA lb,aA b] u (fG ad A2 tb lb (lH n A2 p s2) u):=fun p hp b Rt A2 s2 u hk Wl=>ih p A2 s2 u b (BG hp hh) (hw.sub hp) (xH hp hl) (h.tree hk Rt) Wl
  by_cases h3:k=3
  ·subst h3;rw[An];exact OK J1 h hm
  by_cases h5:k=5
  ·subst h5;obtain⟨a,rfl⟩:=UN Yf;obtain⟨g,cap,bl,hp,Pq,_⟩:=hm.pt (by simp);obtain⟨ba,bl',rfl,ma,h0⟩:=AD.AN Pq;obtain rfl:bl'=[]:=List.length_eq_zero_iff.1 h0.len;rw[Aq];exact ON J1 h hp fun u hk hl=>hG a (by simp) ba ma _ _ u hk hl
  by_cases h6:k=6
  ·subst h6;obtain⟨a,b,rfl⟩:=zL Yf;obtain⟨g,cap,bl,hp,Pq,_⟩:=hm.pt (by simp);obtain⟨ba,bl',rfl,ma,Pq⟩:=AD.AN Pq;obtain⟨bb,bl',rfl,mb,h0⟩:=AD.AN Pq;obtain rfl:bl'=[]:=List.length_eq_zero_iff.1 h0.len;rw[Ap];exact OM J1 h hp (fun u hk hl=>hG a (by simp) ba ma _ _ u hk hl) fun u hk hl=>hG b (by simp) bb mb _ _ u hk hl
  by_cases h7:k=7
  ·subst h7;exact False.elim Yf
  by_cases L0:k=16
  ·subst L0;obtain⟨a,b,rfl⟩:=zL Yf;obtain⟨g,cap,bl,hp,Pq,_⟩:=hm.pt (by simp);obtain⟨ba,bl',rfl,ma,Pq⟩:=AD.AN Pq;obtain⟨bb,bl',rfl,mb,h0⟩:=AD.AN Pq;obtain rfl:bl'=[]:=List.length_eq_zero_iff.1 h0.len;rw[Ao];exact OL hm (GL h hp ma (fun x hx=>(hw.sub (p:=a) (by simp) x hx).2.1) (xH (p:=a) (by simp) hl) fun u hk hl=>hG b (by simp) bb mb _ _ u hk hl)
  by_cases Zq:k=14
  ·subst Zq;rw[Ar];exact OO (f:=fun p s=>lH n A p s) J1 h hm hE
  rw[OU _ _ _ _ _ _ h3 h5 h6 h7 Zq L0];exact zH (f:=fun p s=>lH n A p s) h3 h5 h6 h7 Zq L0 h hm hE
end
section
variable {ad:List Nat}{A:Env}{tb lb:Nat}{s s':Lk}{w w':World}{nb:Nat}{txt:Nm}
def WT{Fn:Func}{x:Ky}{m:Mg}{n:Nat}(h:bR ad A tb lb s w)(hx:cL x)(hv:∀u,fE ad u m (.agg #[.pointer none,.string ⟨#[]⟩,.slice none 0 0,.slice none 0 0,.int .i64 0,.int .i64 n])){u:World}(hu:Kn (fun _=>False) w u) :
  Calls prog 156 #[.map (some tb),.agg #[.int .i64 x.1,.string (bs x.2)],.agg #[.pointer none,.string ⟨#[]⟩,.slice none 0 0,.slice none 0 0,.int .i64 0,.int .i64 n]] u fun e u'=>e=.returned (lK u.heap.size)/\bR ad ((x,m)::A) tb lb s u'/\Kn (fun k=>k=tb\/k=lb) w u' /\
   ∀(Q:Ending->World->Prop)(D:List Deferred)(s':Lk)(w7:World)(tmps:Array Value),bR ad ((x,m)::A) tb lb s' w7->Kn (fun k=>k=tb\/k=lb) u' w7->(∀w8,bR ad A tb lb s' w8->Kn (fun k=>k=tb\/k=lb) w w8->Leaves prog Fn tmps Q D .returning w8)->Leaves prog Fn tmps Q (mQ u.heap.size::D) .returning w7:=by
 obtain⟨nn,f,hm,hf,Qe⟩:=h.tab.six;have Ru:aQ cL eL u tb nn f:=hm.kept (hu.block tb hm.lt id);have Ud:=h.stays hu
 have hfu:∀x,cL x->(A.get x=none/\f x=none)\/∃m v,A.get x=some m/\f x=some v/\fE ad u m v:=fun x Pl=>by
  rcases hf x Pl with h1|⟨m',v',h1,h2,h3⟩
  ·exact inl h1
  ·exact inr ⟨m',v',h1,h2,h3.kept (fun _ _=>rfl) (le_refl _) (fun k c f hc=>hu.block k (aB hc) id) (fun k c f hc=>hu.block k (aB hc) id) (fun k c f hc=>hu.block k (aB hc) id)⟩
 refine(pA Ru hx (fun v hv=>Qe _ hx v hv) (m:=.agg #[.pointer none,.string ⟨#[]⟩,.slice none 0 0,.slice none 0 0,.int .i64 0,.int .i64 n]) ⟨_,_,_,_,_,_,_,_,_,_,rfl⟩).mono ?_;rintro e u'⟨e1,⟨n',e2⟩,e3,e4,e5⟩;have Uj:∀(k:Nat)(c:Array Value)(t:TypeId)(f:Nat×Nat),u.heap[k]?=some (.cells c t f)->u'.heap[k]?=u.heap[k]?:=fun k c t f hc=>e5.block k (aB hc) (Ud.AF hc);have F3:u'.heap[lb]?=some (.cells #[.map (some tb),.bool s.wn,.bool s.wc] gV (0,0)):=(Uj _ _ _ _ Ud.lk).trans Ud.lk
 have B7:bR ad ((x,m)::A) tb lb s u':=by
  refine⟨⟨n',_,e2,fun y hy=>?_⟩,F3⟩;rw[Env.get]
  by_cases Nz:y=x
  ·rw[if_pos Nz];simp only[if_pos Nz];exact inr ⟨m,_,rfl,rfl,hv u'⟩
  ·rw[if_neg Nz];simp only[if_neg Nz];rcases hfu y hy with h1|⟨m',v',h1,h2,h3⟩
   ·exact inl h1
   ·exact inr ⟨m',v',h1,h2,h3.kept (fun _ _=>rfl) (le_refl _) (fun k c f hc=>Uj k c _ f hc) (fun k c f hc=>Uj k c _ f hc) (fun k c f hc=>Uj k c _ f hc)⟩
 have Kj:Kn (fun k=>k=tb\/k=lb) w u':=(hu.wide fun _ _ hh=>hh.elim).trans (e5.wide fun k _ hk=>inl hk);have Tf:lb<w.heap.size:=aB h.lk;have Vo:tb<w.heap.size:=hm.lt;refine⟨e1,B7,Kj,fun Q D s' w7 tmps a2 a3 Rv=>?_⟩;have Yj:Kn (fun k=>k=tb\/k=lb) w w7:=Kj.trans a3
 have Se:Unb tb x (f x) u.heap.size w7:=e3.kept fun k Kj Jy=>a3.block k (by omega) fun hd=>by
  have:=hu.size;rcases hd with hd|hd<;>omega
 obtain⟨n7,f7,Ta,Vz⟩:=a2.tab;unfold mQ;refine leaves_cons (f:=203) (by simp) (by simp[go_sem];rfl) ?_;refine(kN (u:=.returning) Ta hx Se).mono ?_;rintro e u8 w8⟨rfl,rfl,⟨n8,Qi⟩,Sp⟩;exact Rv w8 ⟨Tab.BK hx Vz hf (fun k c t f Oq hc=>Yj.block k (aB hc) (h.not hc (by rcases Oq with rfl|rfl|rfl<;>decide))) Qi Sp,(bJ Sp a2.lk).trans a2.lk⟩ (Yj.AM Sp (inl (inl rfl)))
def Ia(A:Env)(s:Lk)(c:Nm):Lk:=s.name (A.get (1,c)).isSome
def Ig(A:Env)(ls:List Nm)(s:Lk)(v:Nd):Lk:=v.ps.foldl (fun s p=>FJ A ls p.all s) s
def OT(ps:List Nd):jY A txt ps s=(only 20 ps).foldl (Ig (((2,txt),Mg.type ((only 19 ps).map Nd.txt).length)::A) ((only 19 ps).map Nd.txt)) ((((only 20 ps).map Nd.txt)).foldl (Ia A) (s.name ((A.get (2,txt)).isSome || bZ ((only 19 ps).map Nd.txt) || bZ ((only 20 ps).map Nd.txt)))):=rfl
structure T1At(ad:List Nat)(A:Env)(tb lb:Nat)(cs:List Nm)(s1:Lk)(w u4:World)(i:Nat)(wr:World):Prop where
 lk:bR ad A tb lb ((cs.take i).foldl (Ia A) s1) wr
 kw:Kn (fun k=>k=tb\/k=lb) w wr
 k4:Kn (fun k=>k=tb\/k=lb) u4 wr
def T1At.step{cs:List Nm}{s1:Lk}{u4:World}{a3:Option Addr}{n3 c3:Nat}(h4:bR ad A tb lb s u4)(hr:u4.ownsRow 0 aI 1 (.slice a3 n3 c3) cs.length (cs.map bM))(hcx:∀c∈cs,c.length<=100000000){i:Nat}{wr:World}(h:T1At ad A tb lb cs s1 w u4 i wr)(hi:i<n3) :
  ∃g tx,a3=some ⟨g,0,none⟩/\wr.cell? ⟨g,i,none⟩=some (.string tx)/\g<wr.heap.size/\∀u,Kn (fun _=>False) wr u->u.cell? ⟨lb,0,none⟩=some (.map (some tb)) /\
   Calls prog 154 #[.map (some tb),.agg #[.int .i64 (1:Nat),.string tx]] u fun e v=>∃b,e=.returned (.bool b)/\v.cell? ⟨lb,0,none⟩=some (.map (some tb)) /\
    Calls prog 153 #[aA lb,.bool b] v fun e v2=>e=.returned (.tuple #[])/\v2.cell? ⟨lb,0,none⟩=some (.map (some tb))/\Hid (T1At ad A tb lb cs s1 w u4 (i+1) v2):=by
 obtain⟨rfl,Qk⟩:n3=cs.length/\(0<cs.length->∃g',a3=some ⟨g',0,none⟩):=by
  rcases aD hr with⟨h,h0⟩|⟨g,cap,h⟩
  ·cases h;exact⟨h0.symm,fun h=>by omega⟩
  ·cases h;exact⟨rfl,fun _=>⟨g,rfl⟩⟩
 have hv:cs[i]?=some cs[i]:=getElem?_eq_getElem hi;have Jv:=mem_of_getElem? hv;have Lo:cs.take (i+1)=cs.take i++[cs[i]]:=by rw[take_add_one,hv];rfl
 generalize cs[i]=x at hv Jv Lo;obtain⟨g,rfl⟩:=Qk (by omega);have Jn:wr.ownsRow 0 aI 1 (.slice (some ⟨g,0,none⟩) cs.length c3) cs.length (cs.map bM):=aE hr fun q c f _ hc=>h.k4.block q (aB hc) (h4.not hc (by decide));refine⟨g,bs x,rfl,?_,(Jn.lt g rfl).2,fun u hu=>⟨by simp[cell?,(h.lk.stays hu).lk],?_⟩⟩
 ·rw[Jn.cellAt i (by omega),getElem?_map,hv];rfl
 ·refine((h.lk.stays hu).tab.has (x:=(1,x)) ⟨show 1<3 by decide,hcx x Jv⟩).mono ?_;rintro e v⟨rfl,hk⟩;have Rv:=(h.lk.stays hu).stays hk;refine⟨_,rfl,by simp[cell?,Rv.lk],(eU _ Rv).mono ?_⟩;rintro e v2⟨rfl,q1,q2⟩;have Jy:Kn (fun k=>k=tb\/k=lb) wr v2:=((hu.trans hk).wide fun _ _ h=>h.elim).trans q2;refine⟨rfl,by simp[cell?,q1.lk],aC ⟨?_,h.kw.trans Jy,h.k4.trans Jy⟩⟩;rw[Lo,foldl_append];exact q1
structure T2At(ad:List Nat)(A A':Env)(tb lb:Nat)(S:Lk)(w u4:World)(W:Nat)(wr:World):Prop where
 lk:bR ad A' tb lb S wr
 kw:Kn (fun k=>k=tb\/k=lb) w wr
 k4:Kn (fun k=>k=tb\/k=lb) u4 wr
 lv:∀s' w7 tmps,bR ad A' tb lb s' w7->Kn (fun k=>k=tb\/k=lb) wr w7->Leaves prog f110 tmps (fG ad A tb lb s' w) [mQ W] .returning w7
def T2At.part{A':Env}{S:Lk}{u4:World}{W:Nat}{wr:World}{ls:List Nm}{a1:Option Addr}{n1 c1:Nat}{p:Nd}{b:Nat}(h4:bR ad A tb lb s u4)(Nl:u4.ownsRow 0 aI 1 (.slice a1 n1 c1) ls.length (ls.map bM))(hx:∀x∈p.all,x.txt.length<=100000000)(hm:AB u4 p b)(h:T2At ad A A' tb lb S w u4 W wr) :
  Calls prog 157 #[aA lb,aA b,.slice a1 n1 c1] wr fun e v=>e=.returned (.tuple #[])/\T2At ad A A' tb lb (FJ A' ls p.all S) w u4 W v:=by
 have Jn:wr.ownsRow 0 aI 1 (.slice a1 n1 c1) ls.length (ls.map bM):=aE Nl fun q c f _ hc=>h.k4.block q (aB hc) (h4.not hc (by decide));refine(qN Jn hx h.lk (h4.tree h.k4 hm)).mono ?_;rintro e v⟨rfl,q1,q2⟩;exact⟨rfl,q1,h.kw.trans q2,h.k4.trans q2,fun s' w7 tmps hl hk=>h.lv s' w7 tmps hl (q2.trans hk)⟩
end
section
variable {ad:List Nat}{A:Env}{tb lb:Nat}{s s':Lk}{w w':World}{nb:Nat}{txt:Nm}
def RD(tb lb nb:Nat)(tx:ByteArray)(u:World):Prop:=u.cell? ⟨lb,0,none⟩=some (.map (some tb))/\u.cell? ⟨nb,1,none⟩=some (.string tx)
def Iu(tb lb nb:Nat)(tx:ByteArray)(b1 b2:Bool)(Q:Ending->World->Prop)(a1:Option Addr)(n1 c1:Nat)(a2:Option Addr)(n2:Nat)(a3:Option Addr)(n3 c3:Nat)(u4:World):Prop:=
 ∃(L1:Nat->World->Prop) (L2:Nat->Nat->World->Prop) (L3:Nat->Nat->Nat->World->Prop),
  (∀u,Kn (fun _=>False) u4 u->RD tb lb nb tx u/\Calls prog 154 #[.map (some tb),.agg #[.int .i64 (2:Nat),.string tx]] u fun e v=>e=.returned (.bool b1)/\RD tb lb nb tx v /\
   (b1=true->Calls prog 153 #[aA lb,.bool true] v fun e v2=>e=.returned (.tuple #[])/\RD tb lb nb tx v2/\Hid (L1 0 v2)) /\
   (b1=false->Calls prog 155 #[.slice a1 n1 c1] v fun e v=>e=.returned (.bool b2)/\RD tb lb nb tx v /\
    (b2=true->Calls prog 153 #[aA lb,.bool true] v fun e v2=>e=.returned (.tuple #[])/\RD tb lb nb tx v2/\Hid (L1 0 v2)) /\
    (b2=false->Calls prog 155 #[.slice a3 n3 c3] v fun e v=>∃b3,e=.returned (.bool b3)/\RD tb lb nb tx v/\Calls prog 153 #[aA lb,.bool b3] v fun e v2=>e=.returned (.tuple #[])/\RD tb lb nb tx v2/\Hid (L1 0 v2)))) /\
  (∀i wr,L1 i wr->i<n3->∃g ty,a3=some ⟨g,0,none⟩/\wr.cell? ⟨g,i,none⟩=some (.string ty)/\g<wr.heap.size/\∀u,Kn (fun _=>False) wr u->u.cell? ⟨lb,0,none⟩=some (.map (some tb)) /\
   Calls prog 154 #[.map (some tb),.agg #[.int .i64 (1:Nat),.string ty]] u fun e v=>∃b,e=.returned (.bool b)/\v.cell? ⟨lb,0,none⟩=some (.map (some tb)) /\
    Calls prog 153 #[aA lb,.bool b] v fun e v2=>e=.returned (.tuple #[])/\v2.cell? ⟨lb,0,none⟩=some (.map (some tb))/\Hid (L1 (i+1) v2)) /\
  (∀wr,L1 n3 wr->∀u,Kn (fun _=>False) wr u->RD tb lb nb tx u/\Calls prog 156 #[.map (some tb),.agg #[.int .i64 (2:Nat),.string tx],.agg #[.pointer none,.string ⟨#[]⟩,.slice none 0 0,.slice none 0 0,.int .i64 0,.int .i64 n1]] u fun e u'=>∃W,e=.returned (lK W)/\RD tb lb nb tx u'/\Hid (L2 W 0 u')) /\
  (∀W i wr,L2 W i wr->i<n2->∃g b a4 n4 c4,a2=some ⟨g,0,none⟩/\wr.cell? ⟨g,i,none⟩=some (aA b)/\g<wr.heap.size/\wr.cell? ⟨b,2,none⟩=some (.slice a4 n4 c4)/\n4<=9223372036854775807/\Hid (L3 W i 0 wr) /\
   (∀j wr,L3 W i j wr->j<n4->∃g b,a4=some ⟨g,0,none⟩/\wr.cell? ⟨g,j,none⟩=some (aA b)/\g<wr.heap.size/\Calls prog 157 #[aA lb,aA b,.slice a1 n1 c1] wr fun e v=>e=.returned (.tuple #[])/\Hid (L3 W i (j+1) v)) /\
   ∀wr,L3 W i n4 wr->L2 W (i+1) wr) /\
  ∀W wr,L2 W n2 wr->∀tmps,Leaves prog f110 tmps Q [mQ W] .returning wr
def YH{ps:List Nd}{u4:World}{a1:Option Addr}{n1 c1:Nat}{a2:Option Addr}{n2 c2:Nat}{a3:Option Addr}{n3 c3:Nat}{l2:List Nat}(h:bR ad A tb lb s w)(Mr:Kn (fun _=>False) w u4)(hn:AB u4 (.mk 18 txt ps) nb)(Mh:∀x∈(Nd.mk 18 txt ps).all,x.txt.length<=100000000)(hp:ps.length<=1000000)
  (r1:u4.ownsRow 0 aI 1 (.slice a1 n1 c1) ((only 19 ps).map Nd.txt).length (((only 19 ps).map Nd.txt).map bM)) (r2:u4.ownsRow 0 aH 1 (.slice a2 n2 c2) l2.length (l2.map aA)) (Ly:AB.AD u4 (only 20 ps) l2) (r3:u4.ownsRow 0 aI 1 (.slice a3 n3 c3) ((only 20 ps).map Nd.txt).length (((only 20 ps).map Nd.txt).map bM)) :
  Iu tb lb nb (bs txt) (A.get (2,txt)).isSome (bZ ((only 19 ps).map Nd.txt)) (fG ad A tb lb (jY A txt ps s) w) a1 n1 c1 a2 n2 a3 n3 c3 u4:=by
 have h4:=h.stays Mr;have Z3:∀{kk:Nat}{x:Nd},x∈only kk ps->x∈ps:=fun hx=>(List.mem_filter.1 hx).1
 have Xg:∀kk,((only kk ps).map Nd.txt).length<=100000000:=fun kk=>by
  rw[length_map];exact le_trans (List.length_filter_le _ _) (by omega)
 have Lu:∀p∈ps,∀x∈p.all,x.txt.length<=100000000:=fun p hp x hx=>Mh x (by rw[all_eq];exact mem_cons_of_mem _ (kM hp x hx));have J1:txt.length<=100000000:=Mh (.mk 18 txt ps) (by rw[all_eq];exact mem_cons_self);have Oi:∀x:Nd,x∈x.all:=fun x=>by cases x;rw[all_eq];exact mem_cons_self
 have hcx:∀c∈(only 20 ps).map Nd.txt,c.length<=100000000:=fun c hc=>by
  obtain⟨v,hv,rfl⟩:=List.mem_map.1 hc;exact Lu v (Z3 hv) v (Oi v)
 have Lb:cL (2,txt):=⟨show 2<3 by decide,J1⟩;obtain⟨pvn,bln,nn1,_,_⟩:=hn.inv
 have hC:∀{u:World}{s2:Lk}{A2:Env},Kn (fun k=>k=tb\/k=lb) u4 u->bR ad A2 tb lb s2 u->RD tb lb nb (bs txt) u:=fun hk hl=>⟨by simp[cell?,hl.lk],by
  rw[cell?,hk.block nb (aB nn1) (h4.not nn1 (by decide)),nn1];rfl⟩
 have Ld:n1=((only 19 ps).map Nd.txt).length:=by
  rcases aD r1 with⟨h,h0⟩|⟨g,cap,h⟩
  ·cases h;exact h0.symm
  ·cases h;rfl
 have Va:n3=((only 20 ps).map Nd.txt).length:=by
  rcases aD r3 with⟨h,h0⟩|⟨g,cap,h⟩
  ·cases h;exact h0.symm
  ·cases h;rfl
 have Mb:=Ly.len
 obtain⟨Pj,Qk⟩:n2=l2.length/\(0<l2.length->∃g',a2=some ⟨g',0,none⟩):=by
  rcases aD r2 with⟨h,h0⟩|⟨g,cap,h⟩
  ·cases h;exact⟨h0.symm,fun h=>by omega⟩
  ·cases h;exact⟨rfl,fun _=>⟨g,rfl⟩⟩
 have Mq:=OT (A:=A) (txt:=txt) (s:=s) ps;generalize Nl:(only 19 ps).map Nd.txt=ls at *;generalize Rh:(only 20 ps).map Nd.txt=cs at *;generalize Li:s.name ((A.get (2,txt)).isSome || bZ ls || bZ cs)=s1 at *;generalize hA':((((2,txt),Mg.type ls.length)::A:Env))=A' at *;have Uw:∀{u},Kn (fun k=>k=tb\/k=lb) u4 u->Kn (fun k=>k=tb\/k=lb) w u:=fun hk=>(Mr.wide fun _ _ h=>h.elim).trans hk
 have Po:∀{v:World}{b:Bool},Kn (fun _=>False) u4 v->s.name b=s1->Calls prog 153 #[aA lb,.bool b] v fun e v2=>e=.returned (.tuple #[])/\RD tb lb nb (bs txt) v2/\Hid (T1At ad A tb lb cs s1 w u4 0 v2):=fun hv hb=>by
  refine(eU _ (h4.stays hv)).mono ?_;rintro e v2⟨rfl,q1,q2⟩;have Jy:Kn (fun k=>k=tb\/k=lb) u4 v2:=(hv.wide fun _ _ h=>h.elim).trans q2;refine⟨rfl,hC Jy q1,aC ⟨?_,Uw Jy,Jy⟩⟩;rw[take_zero,foldl_nil,<- hb];exact q1
 refine⟨fun i wr=>T1At ad A tb lb cs s1 w u4 i wr,fun W i wr=>T2At ad A A' tb lb (((only 20 ps).take i).foldl (Ig A' ls) (cs.foldl (Ia A) s1)) w u4 W wr,
  fun W i j wr=>∃v,(only 20 ps)[i]?=some v/\T2At ad A A' tb lb ((v.ps.take j).foldl (fun s p=>FJ A' ls p.all s) (((only 20 ps).take i).foldl (Ig A' ls) (cs.foldl (Ia A) s1))) w u4 W wr,?_,?_,?_,?_,?_⟩
 ·intro u hu;have Ud:=h4.stays hu;refine⟨hC (hu.wide fun _ _ h=>h.elim) Ud,(Ud.tab.has Lb).mono ?_⟩;rintro e v⟨rfl,hk⟩;have hv:=hu.trans hk;refine⟨rfl,hC (hv.wide fun _ _ h=>h.elim) (h4.stays hv),fun hb=>?_,fun hb=>?_⟩
  ·exact Po hv (by rw[<- Li,hb];rfl)
  ·refine(kT (Xg 19 |> fun h=>by rw[Nl]at h;exact h) (aE r1 fun q c f _ hc=>hv.block q (aB hc) id)).mono ?_;rintro e v2⟨rfl,Jy⟩;have Mx:=hv.trans Jy;refine⟨rfl,hC (Mx.wide fun _ _ h=>h.elim) (h4.stays Mx),fun Mf=>?_,fun Mf=>?_⟩
   ·exact Po Mx (by rw[<- Li,hb,Mf];rfl)
   ·refine(kT (Xg 20 |> fun h=>by rw[Rh]at h;exact h) (aE r3 fun q c f _ hc=>Mx.block q (aB hc) id)).mono ?_;rintro e v3⟨rfl,Le⟩;have Ua:=Mx.trans Le;exact⟨_,rfl,hC (Ua.wide fun _ _ h=>h.elim) (h4.stays Ua),Po Ua (by rw[<- Li,hb,Mf];rfl)⟩
 ·intro i wr h1 hi;exact T1At.step h4 r3 hcx h1 hi
 ·intro wr h1 u hu;have Ud:=h1.lk.stays hu;rw[Va,take_length]at Ud;have hlw:=h1.lk;rw[Va,take_length]at hlw;have hk4u:Kn (fun k=>k=tb\/k=lb) u4 u:=h1.k4.trans (hu.wide fun _ _ h=>h.elim);refine⟨hC hk4u Ud,(WT (Fn:=f110) (x:=(2,txt)) (m:=Mg.type n1) (n:=n1) hlw Lb (fun u=>pK n1 u) hu).mono ?_⟩;rintro e u'⟨rfl,q1,q2,q3⟩;rw[Ld,hA']at q1;have R2:=h1.k4.trans q2;refine⟨_,rfl,hC R2 q1,aC ⟨by rw[take_zero,foldl_nil];exact q1,h1.kw.trans q2,R2,fun s' w7 tmps hl hk=>q3 _ [] s' w7 tmps (by rw[Ld,hA'];exact hl) hk fun w8 hl8 Vv=>?_⟩⟩;simp only[Leaves];exact⟨.tuple #[],by simp[results,results110,go_sem],rfl,hl8,h1.kw.trans Vv⟩
 ·intro W i wr hT hi;have hv:(only 20 ps)[i]?=some (only 20 ps)[i]:=getElem?_eq_getElem (by omega);have Jv:=mem_of_getElem? hv;have Lo:(only 20 ps).take (i+1)=(only 20 ps).take i++[(only 20 ps)[i]]:=by rw[take_add_one,hv];rfl
  obtain⟨b,hb,Mp⟩:=Ly.at hv;generalize (only 20 ps)[i]=v at hv Jv Lo Mp;obtain⟨g,rfl⟩:=Qk (by omega);obtain⟨vk,vt,vps⟩:=v;obtain⟨pv,vbl,v1,v2,v3⟩:=Mp.inv;have Qs:=v3.len;have hvm:=bI v2
  obtain⟨a4,c4,rfl,hav4⟩:∃a c,pv=.slice a vps.length c/\(0<vps.length->∃g',a=some ⟨g',0,none⟩):=by
   rcases aD v2 with⟨h,h0⟩|⟨g,cap,h⟩
   ·exact⟨none,0,by rw[h,<- Qs,h0],fun h=>by omega⟩
   ·exact⟨_,cap,by rw[h,Qs],fun _=>⟨g,rfl⟩⟩
  have Zd:∀{wr:World},Kn (fun k=>k=tb\/k=lb) u4 wr->∀(q:Nat)(c:Array Value)(t:TypeId)(f:Nat×Nat),t≠gV->u4.heap[q]?=some (.cells c t f)->wr.heap[q]?=u4.heap[q]?:=fun hk q c t f ht hc=>hk.block q (aB hc) (h4.not hc ht);have Jn:wr.ownsRow 0 aH 1 (.slice (some ⟨g,0,none⟩) n2 c2) l2.length (l2.map aA):=aE r2 fun q c f _ hc=>Zd hT.k4 q c _ f (by decide) hc;rw[<- Pj]at Jn;refine⟨g,b,a4,vps.length,c4,rfl,?_,(Jn.lt g rfl).2,by simp[cell?,Zd hT.k4 b _ _ _ (by decide) v1,v1],by omega,aC ⟨_,hv,by rw[take_zero,foldl_nil];exact hT⟩,?_,?_⟩
  ·rw[Jn.cellAt i (by omega),getElem?_map,hb];rfl
  ·rintro j wr2⟨v',Uh,U6⟩ hj;rw[hv]at Uh;obtain rfl:=Option.some.inj Uh;have Z1:vps[j]?=some vps[j]:=getElem?_eq_getElem hj;have B2:=mem_of_getElem? Z1;have htj:vps.take (j+1)=vps.take j++[vps[j]]:=by rw[take_add_one,Z1];rfl
   generalize vps[j]=p at Z1 B2 htj;obtain⟨bp,hbp,Rt⟩:=v3.at Z1;obtain⟨g4,rfl⟩:=hav4 (by omega);have Xc:wr2.ownsRow 0 aH 1 (.slice (some ⟨g4,0,none⟩) vps.length c4) vbl.length (vbl.map aA):=aE v2 fun q c f _ hc=>Zd U6.k4 q c _ f (by decide) hc;rw[Qs]at Xc;refine⟨g4,bp,rfl,?_,(Xc.lt g4 rfl).2,?_⟩
   ·rw[Xc.cellAt j (by omega),getElem?_map,hbp];rfl
   ·have m5:∀x∈p.all,x.txt.length<=100000000:=fun x hx=>Lu _ (Z3 Jv) x (by rw[all_eq];exact mem_cons_of_mem _ (kM B2 x hx));refine(T2At.part h4 r1 m5 Rt U6).mono ?_;rintro e v⟨rfl,hT3⟩;refine⟨rfl,aC ⟨_,hv,?_⟩⟩;rw[htj,foldl_append];exact hT3
  ·rintro wr2⟨v',Uh,U6⟩;rw[hv]at Uh;obtain rfl:=Option.some.inj Uh;rw[Lo,foldl_append];rw[take_length]at U6;exact U6
 ·intro W wr hT tmps;have:=hT.lv _ wr tmps hT.lk (Kn.refl _ _);rw[Pj,Mb,take_length,<- Mq]at this;exact this
end
section
variable {ad:List Nat}{A:Env}{tb lb:Nat}{s s':Lk}{w w':World}{nb:Nat}{txt:Nm}
def SL{ps:List Nd}(h:bR ad A tb lb s w)(hn:AB w (.mk 18 txt ps) nb)(Mh:∀x∈(Nd.mk 18 txt ps).all,x.txt.length<=100000000)(hp:ps.length<=1000000)(Qa:∀p∈ps,p.k<=1000) :
  Calls prog 21 #[aA nb,.int .i64 (19:Nat)] w fun e u1=>∃a n c,e=.returned (.slice a n c)/\Calls prog 73 #[.slice a n c] u1 fun e u2=>∃a1 n1 c1,e=.returned (.slice a1 n1 c1)/\n1<=9223372036854775807 /\
   Calls prog 21 #[aA nb,.int .i64 (20:Nat)] u2 fun e u3=>∃a2 n2 c2,e=.returned (.slice a2 n2 c2)/\n2<=9223372036854775807/\Calls prog 73 #[.slice a2 n2 c2] u3 fun e u4=>∃a3 n3 c3,e=.returned (.slice a3 n3 c3)/\n3<=9223372036854775807 /\
    Iu tb lb nb (bs txt) (A.get (2,txt)).isSome (bZ ((only 19 ps).map Nd.txt)) (fG ad A tb lb (jY A txt ps s) w) a1 n1 c1 a2 n2 a3 n3 c3 u4:=by
 have Xg:∀kk,(only kk ps).length<=1000000:=fun kk=>le_trans (List.length_filter_le _ _) hp;refine(jK hn hp Qa (by decide)).mono ?_;rintro e u1⟨a,n,c,rfl,l,o1,o2,o3⟩;refine⟨a,n,c,rfl,(lO (bN o1 (zero_le _)) o2 (Xg 19)).mono ?_⟩;rintro e u2⟨a1,c1,rfl,t2,t3⟩;have Jy:Kn (fun _=>False) w u2:=o3.trans t3;have Pj:AB u2 (.mk 18 txt ps) nb:=AB.kept (fun k c f hc=>Jy.block k (aB hc) id) (fun k c f hc=>Jy.block k (aB hc) id) _ nb hn;refine⟨a1,_,c1,rfl,bI t2,(jK Pj hp Qa (by decide)).mono ?_⟩;rintro e u3⟨a2,n2,c2,rfl,l2,p1,p2,p3⟩
 have Ly:n2<=9223372036854775807:=by
  have:=bI p1;rcases aD p1 with⟨h,h0⟩|⟨g,cap,h⟩
  ·cases h;omega
  ·cases h;omega
 refine⟨a2,n2,c2,rfl,Ly,(lO (bN p1 (zero_le _)) p2 (Xg 20)).mono ?_⟩;rintro e u4⟨a3,c3,rfl,q2,q3⟩;have R5:Kn (fun _=>False) u2 u4:=p3.trans q3;have Mr:Kn (fun _=>False) w u4:=Jy.trans R5;have Z2:AB u4 (.mk 18 txt ps) nb:=AB.kept (fun k c f hc=>Mr.block k (aB hc) id) (fun k c f hc=>Mr.block k (aB hc) id) _ nb hn;refine⟨a3,_,c3,rfl,bI q2,YH h Mr Z2 Mh hp ?_ (aE (bN p1 (zero_le _)) fun q c f _ hc=>q3.block q (aB hc) id) (p2.kept (fun q c f hc=>q3.block q (aB hc) id) (fun q c f hc=>q3.block q (aB hc) id)) ?_⟩
 ·rw[length_map];exact aE (bN t2 (zero_le _)) fun q c f _ hc=>R5.block q (aB hc) id
 ·rw[length_map];exact bN q2 (zero_le _)
def wC{ps:List Nd}(h:bR ad A tb lb s w)(hn:AB w (.mk 18 txt ps) nb)(Mh:∀x∈(Nd.mk 18 txt ps).all,x.txt.length<=100000000)(hp:ps.length<=1000000)(Qa:∀p∈ps,p.k<=1000) :
  Calls prog 110 #[aA lb,aA nb] w (fG ad A tb lb (jY A txt ps s) w):=by
 have Lh:=SL h hn Mh hp Qa;have V1:=fun(tx:ByteArray) (u:World)=>lY tx u;have V0:=fun(tx:ByteArray) (u:World)=>jG tx u
 have Kv:∀(w u:World) o u',Kn (fun _=>False) w u->u'=World.alloc u o->Kn (fun _=>False) w u':=fun w u o u' hu e=>by
  subst e;exact hu.alloc o
 have Ni:=aC Kv;have Vl:=aC V1;have Yo:=aC V0;have Lt:=aC Lh;have Yp:=aC Kn.AH;clear h hn Mh hp Qa Lh V1 V0 Kv;generalize fG ad A tb lb (jY A txt ps s) w=Q at *;generalize (A.get (2,txt)).isSome=b1 at *;generalize bZ ((only 19 ps).map Nd.txt)=b2 at *;generalize bs txt=tx at *;unfold Iu RD aA at *
 go_enter_defers func110,ntmps110
 go_wp2_with fail;refine(Lt.out).mono ?_;rintro e u1⟨a,n,c,rfl,hc⟩;have HC:=aC hc;clear hc Lt;go_wp2_with fail;refine(HC.out).mono ?_;rintro e u2⟨a1,n1,c1,rfl,Ld,hc⟩;have Oe:=aC hc;clear hc HC;go_wp2_with fail;refine(Oe.out).mono ?_;rintro e u3⟨a2,n2,c2,rfl,Pj,hc⟩;have Wr:=aC hc;clear hc Oe;go_wp2_with fail;refine(Wr.out).mono ?_;rintro e u4⟨a3,n3,c3,rfl,Va,L1,L2,L3,hA,hB,hC,hD,hE⟩;have HA:=aC hA;have HB:=aC hB;have Tx:=aC hC;have HD:=aC hD;have HE:=aC hE;clear hA hB hC hD hE Wr;have HV:=aC (Yp.out u4);have hz:=HA.out _ HV.out;obtain⟨⟨c1a,c2a⟩,_⟩:=hz;go_wp2_with fail;have J0:=aC (Ni.out u4)
 cases b1 with
 |true=>
  refine wp_region_noPanic ?_
  first | (go_region_held_law (fun w' => w'.cell? ⟨lb, 0, none⟩ = some (.map (some tb)) ∧ w'.cell? ⟨nb, 1, none⟩ = some (.string tx)) (with_reducible exact ⟨c1a, c2a⟩) (first | (go_at_call 35; refine (Yo.out _ _).mono ?_; rintro e u ⟨rfl, hu⟩; have HV := aC (J0.out _ _ _ HV.out hu); have hz := HA.out _ HV.out; obtain ⟨⟨c1a, c2a⟩, hb⟩ := hz; have HH := aC hb; clear hu hb) | (go_at_call 154; refine (HH.out).mono ?_; rintro e u6 ⟨rfl, ⟨c1a, c2a⟩, HT, HF⟩; have HR := aC (HT (by trivial)); clear HH HT HF) | (go_at_call 153; refine (HR.out).mono ?_; rintro e u7 ⟨rfl, ⟨c1a, c2a⟩, Ow⟩; clear HR))) | (fail "region")
  all_goals refine NoPanic.normal ?_
  all_goals
   go_wp2_with fail;clear c1a c2a
   go_loopg [42] n3 (fun gk v wr=>∃i,v=.int .i64 (i:Nat)/\i+gk=n3/\Hid (L1 i wr))
   case atStart=>exact⟨0,rfl,by omega,Ow⟩
   case round=>
    clear Ow;obtain⟨i,rfl,hi,Ow⟩:=hrel
    by_cases Js:i<n3
    ·obtain⟨g,ty,rfl,e1,e2,hu⟩:=HB.out _ _ Ow.out Js;have Jt:(i:Int)<(n3:Int):=by omega
     have HV:=aC (Yp.out wr);have HX:=aC hu;have Rc:=aC (Ni.out wr);clear hu HA HB Tx HD HE Ow;obtain⟨c1a,_⟩:=HX.out _ HV.out;go_wp2_with fail
     go_region_held3 (fun w'=>w'.cell? ⟨lb,0,none⟩=some (.map (some tb))) (exact c1a) (first|(go_at_call 25;refine(Vl.out _ _).mono ?_;rintro e u⟨rfl,hu⟩;have HV:=aC (Rc.out _ _ _ HV.out hu);have hz:=HX.out _ HV.out;obtain⟨c1a,hb⟩:=hz;have HH:=aC hb;clear hu hb)|(go_at_call 154;refine(HH.out).mono ?_;rintro e u12⟨b,rfl,c1a,hb⟩;have HR:=aC hb;clear hb)|(go_at_call 153;refine(HR.out).mono ?_;rintro e u13⟨rfl,c1a,Ow⟩))
     all_goals
      go_wp2_with fail
      go_roundg (n3-(i+1))
      case rel=>exact⟨i+1,by simp,by omega,Ow⟩
      case measure=>omega
    ·have Kg:i=n3:=by omega
     subst Kg;have Jt:¬(i:Int)<(i:Int):=by omega
     have HX:=aC (Tx.out _ Ow.out);have HV:=aC (Yp.out wr);have Rc:=aC (Ni.out wr);clear HA HB Tx Ow;obtain⟨⟨c1a,c2a⟩,_⟩:=HX.out _ HV.out;unfold lK at *;go_wp2_with fail
     go_region_held3 (fun w'=>w'.cell? ⟨lb,0,none⟩=some (.map (some tb))/\w'.cell? ⟨nb,1,none⟩=some (.string tx)) (exact⟨c1a,c2a⟩) (first|(go_at_call 35;refine(Yo.out _ _).mono ?_;rintro e u⟨rfl,hu⟩;have HV:=aC (Rc.out _ _ _ HV.out hu);have hz:=HX.out _ HV.out;obtain⟨⟨c1a,c2a⟩,hb⟩:=hz;have HH:=aC hb;clear hu hb)|(go_at_call 156;refine(HH.out).mono ?_;rintro e u14⟨W,rfl,⟨c1a,c2a⟩,Nw⟩))
     all_goals
      clear HX HV HH;go_wp2_with fail;clear c1a c2a
      go_loopg [71] n2 (fun gk v wr=>∃i,v=.int .i64 (i:Nat)/\i+gk=n2/\Hid (L2 W i wr))
      case atStart=>exact⟨0,rfl,by omega,Nw⟩
      case round=>
       clear Nw;obtain⟨i,rfl,hi,Nw⟩:=hrel
       by_cases Js:i<n2
       ·obtain⟨g,b,a4,n4,c4,rfl,e1,e2,e3,Z2,Ph,hs,he⟩:=HD.out _ _ _ Nw.out Js;have Jt:(i:Int)<(n2:Int):=by omega
        have HS:=aC hs;have Yc:=aC he;clear hs he HD HE Nw;go_wp2_with fail;clear e1 e2 e3
        go_loopg [80] n4 (fun gk v wr=>∃j,v=.int .i64 (j:Nat)/\j+gk=n4/\Hid (L3 W i j wr))
        case atStart=>exact⟨0,rfl,by omega,Ph⟩
        case round=>
         clear Ph;obtain⟨j,rfl,hj,Ph⟩:=hrel
         by_cases Xl:j<n4
         ·obtain⟨g4,b4,rfl,f1,f2,hc⟩:=HS.out _ _ Ph.out Xl;have Td:(j:Int)<(n4:Int):=by omega
          have HC:=aC hc;clear hc HS Yc Ph;go_wp2_with fail;refine(HC.out).mono ?_;rintro e w2⟨rfl,Ph⟩;clear HC;go_wp2_with fail
          go_roundg (n4-(j+1))
          case rel=>exact⟨j+1,by simp,by omega,Ph⟩
          case measure=>omega
         ·have F9:j=n4:=by omega
          subst F9;have Td:¬(j:Int)<(j:Int):=by omega
          have Nw:=aC (Yc.out _ Ph.out);clear HS Yc Ph;go_wp2_with fail
          go_roundg (n2-(i+1))
          case rel=>exact⟨i+1,by simp,by omega,Nw⟩
          case measure=>omega
       ·have Kg:i=n2:=by omega
        subst Kg;have Jt:¬(i:Int)<(i:Int):=by omega
        have HL:=aC (HE.out _ _ Nw.out);clear HD HE Nw;unfold mQ at *;go_wp2;exact HL.out _
 |false=>
  cases b2 with
  |true=>
   refine wp_region_noPanic ?_
   first | (go_region_held_law (fun w' => w'.cell? ⟨lb, 0, none⟩ = some (.map (some tb)) ∧ w'.cell? ⟨nb, 1, none⟩ = some (.string tx)) (with_reducible exact ⟨c1a, c2a⟩) (first | (go_at_call 35; refine (Yo.out _ _).mono ?_; rintro e u ⟨rfl, hu⟩; have HV := aC (J0.out _ _ _ HV.out hu); have hz := HA.out _ HV.out; obtain ⟨⟨c1a, c2a⟩, hb⟩ := hz; have HH := aC hb; clear hu hb) | (go_at_call 154; refine (HH.out).mono ?_; rintro e u6 ⟨rfl, ⟨c1a, c2a⟩, HT, HF⟩; have H2 := aC (HF (by trivial)); clear HH HT HF) | (go_at_call 155; refine (H2.out).mono ?_; rintro e u8 ⟨rfl, ⟨c1a, c2a⟩, HT, HF⟩; have HR := aC (HT (by trivial)); clear H2 HT HF) | (go_at_call 153; refine (HR.out).mono ?_; rintro e u7 ⟨rfl, ⟨c1a, c2a⟩, Ow⟩; clear HR))) | (fail "region")
   all_goals refine NoPanic.normal ?_
   all_goals
    go_wp2_with fail;clear c1a c2a
    go_loopg [42] n3 (fun gk v wr=>∃i,v=.int .i64 (i:Nat)/\i+gk=n3/\Hid (L1 i wr))
    case atStart=>exact⟨0,rfl,by omega,Ow⟩
    case round=>
     clear Ow;obtain⟨i,rfl,hi,Ow⟩:=hrel
     by_cases Js:i<n3
     ·obtain⟨g,ty,rfl,e1,e2,hu⟩:=HB.out _ _ Ow.out Js;have Jt:(i:Int)<(n3:Int):=by omega
      have HV:=aC (Yp.out wr);have HX:=aC hu;have Rc:=aC (Ni.out wr);clear hu HA HB Tx HD HE Ow;obtain⟨c1a,_⟩:=HX.out _ HV.out;go_wp2_with fail
      go_region_held3 (fun w'=>w'.cell? ⟨lb,0,none⟩=some (.map (some tb))) (exact c1a) (first|(go_at_call 25;refine(Vl.out _ _).mono ?_;rintro e u⟨rfl,hu⟩;have HV:=aC (Rc.out _ _ _ HV.out hu);have hz:=HX.out _ HV.out;obtain⟨c1a,hb⟩:=hz;have HH:=aC hb;clear hu hb)|(go_at_call 154;refine(HH.out).mono ?_;rintro e u12⟨b,rfl,c1a,hb⟩;have HR:=aC hb;clear hb)|(go_at_call 153;refine(HR.out).mono ?_;rintro e u13⟨rfl,c1a,Ow⟩))
      all_goals
       go_wp2_with fail
       go_roundg (n3-(i+1))
       case rel=>exact⟨i+1,by simp,by omega,Ow⟩
       case measure=>omega
     ·have Kg:i=n3:=by omega
      subst Kg;have Jt:¬(i:Int)<(i:Int):=by omega
      have HX:=aC (Tx.out _ Ow.out);have HV:=aC (Yp.out wr);have Rc:=aC (Ni.out wr);clear HA HB Tx Ow;obtain⟨⟨c1a,c2a⟩,_⟩:=HX.out _ HV.out;unfold lK at *;go_wp2_with fail
      go_region_held3 (fun w'=>w'.cell? ⟨lb,0,none⟩=some (.map (some tb))/\w'.cell? ⟨nb,1,none⟩=some (.string tx)) (exact⟨c1a,c2a⟩) (first|(go_at_call 35;refine(Yo.out _ _).mono ?_;rintro e u⟨rfl,hu⟩;have HV:=aC (Rc.out _ _ _ HV.out hu);have hz:=HX.out _ HV.out;obtain⟨⟨c1a,c2a⟩,hb⟩:=hz;have HH:=aC hb;clear hu hb)|(go_at_call 156;refine(HH.out).mono ?_;rintro e u14⟨W,rfl,⟨c1a,c2a⟩,Nw⟩))
      all_goals
       clear HX HV HH;go_wp2_with fail;clear c1a c2a
       go_loopg [71] n2 (fun gk v wr=>∃i,v=.int .i64 (i:Nat)/\i+gk=n2/\Hid (L2 W i wr))
       case atStart=>exact⟨0,rfl,by omega,Nw⟩
       case round=>
        clear Nw;obtain⟨i,rfl,hi,Nw⟩:=hrel
        by_cases Js:i<n2
        ·obtain⟨g,b,a4,n4,c4,rfl,e1,e2,e3,Z2,Ph,hs,he⟩:=HD.out _ _ _ Nw.out Js;have Jt:(i:Int)<(n2:Int):=by omega
         have HS:=aC hs;have Yc:=aC he;clear hs he HD HE Nw;go_wp2_with fail;clear e1 e2 e3
         go_loopg [80] n4 (fun gk v wr=>∃j,v=.int .i64 (j:Nat)/\j+gk=n4/\Hid (L3 W i j wr))
         case atStart=>exact⟨0,rfl,by omega,Ph⟩
         case round=>
          clear Ph;obtain⟨j,rfl,hj,Ph⟩:=hrel
          by_cases Xl:j<n4
          ·obtain⟨g4,b4,rfl,f1,f2,hc⟩:=HS.out _ _ Ph.out Xl;have Td:(j:Int)<(n4:Int):=by omega
           have HC:=aC hc;clear hc HS Yc Ph;go_wp2_with fail;refine(HC.out).mono ?_;rintro e w2⟨rfl,Ph⟩;clear HC;go_wp2_with fail
           go_roundg (n4-(j+1))
           case rel=>exact⟨j+1,by simp,by omega,Ph⟩
           case measure=>omega
          ·have F9:j=n4:=by omega
           subst F9;have Td:¬(j:Int)<(j:Int):=by omega
           have Nw:=aC (Yc.out _ Ph.out);clear HS Yc Ph;go_wp2_with fail
           go_roundg (n2-(i+1))
           case rel=>exact⟨i+1,by simp,by omega,Nw⟩
           case measure=>omega
        ·have Kg:i=n2:=by omega
         subst Kg;have Jt:¬(i:Int)<(i:Int):=by omega
         have HL:=aC (HE.out _ _ Nw.out);clear HD HE Nw;unfold mQ at *;go_wp2;exact HL.out _
  |false=>
   first | (go_region_held3 (fun w' => w'.cell? ⟨lb, 0, none⟩ = some (.map (some tb)) ∧ w'.cell? ⟨nb, 1, none⟩ = some (.string tx)) (with_reducible exact ⟨c1a, c2a⟩) (first | (go_at_call 35; refine (Yo.out _ _).mono ?_; rintro e u ⟨rfl, hu⟩; have HV := aC (J0.out _ _ _ HV.out hu); have hz := HA.out _ HV.out; obtain ⟨⟨c1a, c2a⟩, hb⟩ := hz; have HH := aC hb; clear hu hb) | (go_at_call 154; refine (HH.out).mono ?_; rintro e u6 ⟨rfl, ⟨c1a, c2a⟩, HT, HF⟩; have H2 := aC (HF (by trivial)); clear HH HT HF) | (go_at_call 155; refine (H2.out).mono ?_; rintro e u8 ⟨rfl, ⟨c1a, c2a⟩, HT, HF⟩; have H3 := aC (HF (by trivial)); clear H2 HT HF) | (go_at_call 155; refine (H3.out).mono ?_; rintro e u9 ⟨b3, rfl, ⟨c1a, c2a⟩, hr⟩; have HR := aC hr; clear H3 hr) | (go_at_call 153; refine (HR.out).mono ?_; rintro e u7 ⟨rfl, ⟨c1a, c2a⟩, Ow⟩; clear HR))) | (fail "region")
   all_goals
    go_wp2_with fail;clear c1a c2a
    go_loopg [42] n3 (fun gk v wr=>∃i,v=.int .i64 (i:Nat)/\i+gk=n3/\Hid (L1 i wr))
    case atStart=>exact⟨0,rfl,by omega,Ow⟩
    case round=>
     clear Ow;obtain⟨i,rfl,hi,Ow⟩:=hrel
     by_cases Js:i<n3
     ·obtain⟨g,ty,rfl,e1,e2,hu⟩:=HB.out _ _ Ow.out Js;have Jt:(i:Int)<(n3:Int):=by omega
      have HV:=aC (Yp.out wr);have HX:=aC hu;have Rc:=aC (Ni.out wr);clear hu HA HB Tx HD HE Ow;obtain⟨c1a,_⟩:=HX.out _ HV.out;go_wp2_with fail
      go_region_held3 (fun w'=>w'.cell? ⟨lb,0,none⟩=some (.map (some tb))) (exact c1a) (first|(go_at_call 25;refine(Vl.out _ _).mono ?_;rintro e u⟨rfl,hu⟩;have HV:=aC (Rc.out _ _ _ HV.out hu);have hz:=HX.out _ HV.out;obtain⟨c1a,hb⟩:=hz;have HH:=aC hb;clear hu hb)|(go_at_call 154;refine(HH.out).mono ?_;rintro e u12⟨b,rfl,c1a,hb⟩;have HR:=aC hb;clear hb)|(go_at_call 153;refine(HR.out).mono ?_;rintro e u13⟨rfl,c1a,Ow⟩))
      all_goals
       go_wp2_with fail
       go_roundg (n3-(i+1))
       case rel=>exact⟨i+1,by simp,by omega,Ow⟩
       case measure=>omega
     ·have Kg:i=n3:=by omega
      subst Kg;have Jt:¬(i:Int)<(i:Int):=by omega
      have HX:=aC (Tx.out _ Ow.out);have HV:=aC (Yp.out wr);have Rc:=aC (Ni.out wr);clear HA HB Tx Ow;obtain⟨⟨c1a,c2a⟩,_⟩:=HX.out _ HV.out;unfold lK at *;go_wp2_with fail
      go_region_held3 (fun w'=>w'.cell? ⟨lb,0,none⟩=some (.map (some tb))/\w'.cell? ⟨nb,1,none⟩=some (.string tx)) (exact⟨c1a,c2a⟩) (first|(go_at_call 35;refine(Yo.out _ _).mono ?_;rintro e u⟨rfl,hu⟩;have HV:=aC (Rc.out _ _ _ HV.out hu);have hz:=HX.out _ HV.out;obtain⟨⟨c1a,c2a⟩,hb⟩:=hz;have HH:=aC hb;clear hu hb)|(go_at_call 156;refine(HH.out).mono ?_;rintro e u14⟨W,rfl,⟨c1a,c2a⟩,Nw⟩))
      all_goals
       clear HX HV HH;go_wp2_with fail;clear c1a c2a
       go_loopg [71] n2 (fun gk v wr=>∃i,v=.int .i64 (i:Nat)/\i+gk=n2/\Hid (L2 W i wr))
       case atStart=>exact⟨0,rfl,by omega,Nw⟩
       case round=>
        clear Nw;obtain⟨i,rfl,hi,Nw⟩:=hrel
        by_cases Js:i<n2
        ·obtain⟨g,b,a4,n4,c4,rfl,e1,e2,e3,Z2,Ph,hs,he⟩:=HD.out _ _ _ Nw.out Js;have Jt:(i:Int)<(n2:Int):=by omega
         have HS:=aC hs;have Yc:=aC he;clear hs he HD HE Nw;go_wp2_with fail;clear e1 e2 e3
         go_loopg [80] n4 (fun gk v wr=>∃j,v=.int .i64 (j:Nat)/\j+gk=n4/\Hid (L3 W i j wr))
         case atStart=>exact⟨0,rfl,by omega,Ph⟩
         case round=>
          clear Ph;obtain⟨j,rfl,hj,Ph⟩:=hrel
          by_cases Xl:j<n4
          ·obtain⟨g4,b4,rfl,f1,f2,hc⟩:=HS.out _ _ Ph.out Xl;have Td:(j:Int)<(n4:Int):=by omega
           have HC:=aC hc;clear hc HS Yc Ph;go_wp2_with fail;refine(HC.out).mono ?_;rintro e w2⟨rfl,Ph⟩;clear HC;go_wp2_with fail
           go_roundg (n4-(j+1))
           case rel=>exact⟨j+1,by simp,by omega,Ph⟩
           case measure=>omega
          ·have F9:j=n4:=by omega
           subst F9;have Td:¬(j:Int)<(j:Int):=by omega
           have Nw:=aC (Yc.out _ Ph.out);clear HS Yc Ph;go_wp2_with fail
           go_roundg (n2-(i+1))
           case rel=>exact⟨i+1,by simp,by omega,Nw⟩
           case measure=>omega
        ·have Kg:i=n2:=by omega
         subst Kg;have Jt:¬(i:Int)<(i:Int):=by omega
         have HL:=aC (HE.out _ _ Nw.out);clear HD HE Nw;unfold mQ at *;go_wp2;exact HL.out _
end
section
variable {ad:List Nat}{A:Env}{tb lb:Nat}{s s':Lk}{w w':World}{nb:Nat}{txt:Nm}
def IH{ps:List Nd}(hn:AB w (.mk 18 txt ps) nb)(hR:Calls prog 110 #[aA lb,aA nb] w (fG ad A tb lb s' w)) :
  Calls prog 72 #[aA lb,aA nb] w (fG ad A tb lb s' w):=by
 obtain⟨pv,bl,n1,_,_⟩:=hn.inv;have c0:w.cell? ⟨nb,0,none⟩=some (.int .i64 (18:Nat)):=by simp[cell?,n1]
 have hr:=hR.mono (R':=fun e u=>e=.returned (.tuple #[])/\fG ad A tb lb s' w (.returned (.tuple #[])) u) fun e u ha=>by
  obtain⟨rfl,a2,a3⟩:=ha;exact⟨rfl,rfl,a2,a3⟩
 have HR:=aC hr;clear hr hR hn n1;generalize fG ad A tb lb s' w=Q at *;unfold aA at *;go_enter func72,ntmps72;go_wp2_with fail;refine(HR.out).mono ?_;rintro e u6⟨rfl,hq⟩;have HG:=aC hq;clear hq;go_wp2;refine bodyPost_end (v:=.tuple #[]) (by simp[results,results72,go_sem]) rfl HG.out
def OP{k g cap ba:Nat}{bl:List Nat}(Kj:k≠18)(Jy:k≠7)(h:bR ad A tb lb s w)(hp:dH nb k txt g cap (ba::bl) w)
  (hE:Calls prog 112 #[aA lb,aA ba] w (fG ad A tb lb s' w)) :
  Calls prog 72 #[aA lb,aA nb] w (fG ad A tb lb s' w):=by
 obtain⟨c0,c1,c2,c3⟩:=hp.cells;have c3:=c3 0 ba rfl
 have hr:=hE.mono (R':=fun e u=>e=.returned (.tuple #[])/\fG ad A tb lb s' w (.returned (.tuple #[])) u) fun e u ha=>by
  obtain⟨rfl,a2,a3⟩:=ha;exact⟨rfl,rfl,a2,a3⟩
 have e1:¬(k:Int)=18:=by omega
 have e2:¬(k:Int)=7:=by omega
 have b1:((k:Int)==18)=false:=by simp only[beq_eq_false_iff_ne,ne_eq];exact e1
 have b2:((k:Int)==7)=false:=by simp only[beq_eq_false_iff_ne,ne_eq];exact e2
 have HR:=aC hr;rw[length_cons]at c2;clear hr hE hp h Kj Jy;generalize fG ad A tb lb s' w=Q at *;generalize bl.length=bn at *;have Kz:(0:Int)<((bn+1:Nat):Int):=by omega
 unfold aA at *;go_enter func72,ntmps72;go_wp2_with fail;refine(HR.out).mono ?_;rintro e u6⟨rfl,hq⟩;have HG:=aC hq;clear hq;go_wp2;refine bodyPost_end (v:=.tuple #[]) (by simp[results,results72,go_sem]) rfl HG.out
def OQ{g cap ba:Nat}{bl:List Nat}(hx:txt.length<=100000000)(h:bR ad A tb lb s w)(hp:dH nb 7 txt g cap (ba::bl) w)
  (hE:∀u,Kn (fun k=>k=tb\/k=lb) w u->bR ad (((0,txt),Mg.zero)::A) tb lb s u->Calls prog 112 #[aA lb,aA ba] u (fG ad (((0,txt),Mg.zero)::A) tb lb s' u)) :
  Calls prog 72 #[aA lb,aA nb] w (fG ad A tb lb s' w):=by
 obtain⟨c0,c1,c2,c3⟩:=hp.cells;have c3:=c3 0 ba rfl
 have Jw:∀u,Kn (fun k=>k=tb\/k=lb) w u->u.cell? ⟨nb,1,none⟩=some (.string (bs txt))/\u.cell? ⟨nb,2,none⟩=some (.slice (some ⟨g,0,none⟩) (bl.length+1) cap)/\u.cell? ⟨g,0,none⟩=some (aA ba):=fun u hu=>by
  obtain⟨_,c1,c2,c3⟩:=(h.pt hu hp).cells;exact⟨c1,c2,c3 0 ba rfl⟩
 have hw:Calls prog 111 #[aA lb,aA ba,.slice (some ⟨w.heap.size,0,none⟩) 1 1] (w.alloc (.cells #[.string (bs txt)] aI)).drew fun e u=>e=.returned (.tuple #[])/\(u.cell? ⟨nb,1,none⟩=some (.string (bs txt))/\u.cell? ⟨nb,2,none⟩=some (.slice (some ⟨g,0,none⟩) (bl.length+1) cap)/\u.cell? ⟨g,0,none⟩=some (aA ba))/\fG ad A tb lb s' w (.returned (.tuple #[])) u:=(vX hx h (Kn.refl _ w) hE).mono fun e u ha=>by
  obtain⟨rfl,a2,a3⟩:=ha;exact⟨rfl,Jw u a3,rfl,a2,a3⟩
 have Uq:∀o,(World.alloc w o).drew.cell? ⟨nb,1,none⟩=some (.string (bs txt))/\(World.alloc w o).drew.cell? ⟨nb,2,none⟩=some (.slice (some ⟨g,0,none⟩) (bl.length+1) cap)/\(World.alloc w o).drew.cell? ⟨g,0,none⟩=some (aA ba):=fun o=>Jw _ ((Kn.refl _ w).alloc o).drew;obtain⟨c1a,c2a,c3a⟩:=Jw _ (Kn.refl _ w).drew;have HW:=aC hw;have Oo:=aC Uq;clear hw Jw Uq h hE hp c3;generalize fG ad A tb lb s' w=Q at *;generalize bs txt=tx at *;generalize bl.length=bn at *;have Kz:(0:Int)<((bn+1:Nat):Int):=by omega
 unfold aA at *;go_enter func72,ntmps72;go_wp2_with fail
 go_region_held3 (fun w'=>w'.cell? ⟨nb,1,none⟩=some (.string tx)/\w'.cell? ⟨nb,2,none⟩=some (.slice (some ⟨g,0,none⟩) (bn+1) cap)/\w'.cell? ⟨g,0,none⟩=some (.pointer (some ⟨ba,0,none⟩)))
  (first|with_reducible exact⟨c1a,c2a,c3a⟩|with_reducible exact Oo.out _)
  (first|(go_at_call 111;refine(HW.out).mono ?_;rintro e u6⟨rfl,⟨c1a,c2a,c3a⟩,hq⟩;have HG:=aC hq;clear hq))
 all_goals
  go_wp2;refine bodyPost_end (v:=.tuple #[]) (by simp[results,results72,go_sem]) rfl HG.out
structure xY(k:Nat)(txt:Nm)(ps:List Nd):Prop where
 kind:k=17\/k=6\/k=7\/k=18
 text:txt.length<=100000000
 val:k≠18->∃a r,ps=a::r/\Ge a/\a.all.length<=100000000
 typ:k=18->(∀x∈(Nd.mk 18 txt ps).all,x.txt.length<=100000000)/\ps.length<=1000000/\∀p∈ps,p.k<=1000
def zK(ps:List Nd):uE A (.mk 18 txt ps) s=jY A txt ps s:=by rw[uE]
def LR(a:Nd)(r:List Nd):uE A (.mk 7 txt (a::r)) s=lH (a.ht+1) (((0,txt),Mg.zero)::A) a s:=by rw[uE]
def LQ{k:Nat}(h1:k≠18)(h2:k≠7)(a:Nd)(r:List Nd):uE A (.mk k txt (a::r)) s=lH (a.ht+1) A a s:=by
 rw[uE]
 all_goals (intros;simp_all)
def OR{k:Nat}{ps:List Nd}(hd:xY k txt ps)(h:bR ad A tb lb s w)(hn:AB w (.mk k txt ps) nb) :
  Calls prog 72 #[aA lb,aA nb] w (fG ad A tb lb (uE A (.mk k txt ps) s) w):=by
 by_cases Ri:k=18
 ·subst Ri;obtain⟨t1,t2,t3⟩:=hd.typ rfl;rw[zK];exact IH hn (wC h hn t1 t2 t3)
 ·obtain⟨a,r,rfl,hw,hl⟩:=hd.val Ri;obtain⟨g,cap,bl,hp,Pq,_⟩:=hn.pt (by simp);obtain⟨ba,bl',rfl,ma,_⟩:=AD.AN Pq
  by_cases h7:k=7
  ·subst h7;rw[LR];exact OQ hd.text h hp fun u hk Ud=>vG (a.ht+1) a _ _ u ba (lt_succ_self _) hw hl (h.tree hk ma) Ud
  ·rw[LQ Ri h7];exact OP Ri h7 h hp (vG (a.ht+1) a _ _ w ba (lt_succ_self _) hw hl ma h)
def uD{k:Nat}{ps:List Nd}(hd:xY k txt ps)(h:Tab ad tb A w)(hn:AB w (.mk k txt ps) nb) :
  Calls prog 41 #[.map (some tb),aA nb] w fun e u=>e=.returned (.int .i64 (jF (uE A (.mk k txt ps) ⟨false,false⟩)))/\Tab ad tb A u/\Kn (·=tb) w u:=by
 have Kj:Kn (fun _=>False) w (w.alloc (.cells #[.map (some tb),.bool false,.bool false] gV)):=(Kn.refl _ w).alloc _;have hl:bR ad A tb w.heap.size ⟨false,false⟩ (w.alloc (.cells #[.map (some tb),.bool false,.bool false] gV)):=⟨h.stays Kj,(MapKept.heap_alloc w _).1⟩;have Ld:AB (w.alloc (.cells #[.map (some tb),.bool false,.bool false] gV)) (.mk k txt ps) nb:=AB.kept (fun k c f hc=>Kj.block k (aB hc) id) (fun k c f hc=>Kj.block k (aB hc) id) _ nb hn
 have hD:=(OR hd hl Ld).mono (R':=fun e u=>e=.returned (.tuple #[])/\u.cell? ⟨w.heap.size,1,none⟩=some (.bool (uE A (.mk k txt ps) ⟨false,false⟩).wn)/\u.cell? ⟨w.heap.size,2,none⟩=some (.bool (uE A (.mk k txt ps) ⟨false,false⟩).wc)/\Tab ad tb A u/\Kn (·=tb) w u) fun e u ha=>by
  obtain⟨rfl,a2,a3⟩:=ha;refine⟨rfl,by simp[cell?,a2.lk],by simp[cell?,a2.lk],a2.tab,(Kj.wide fun _ _ h=>h.elim).trans' a3 fun i hi hd=>?_⟩;rcases hd with hd|hd
  ·exact hd
  ·omega
 have HD:=aC hD;generalize hQ:(fun(e:Ending) (u:World)=>e=.returned (.int .i64 (jF (uE A (.mk k txt ps) ⟨false,false⟩)))/\Tab ad tb A u/\Kn (·=tb) w u)=Q;unfold jF at hQ;generalize uE A (.mk k txt ps) ⟨false,false⟩=L at *;obtain⟨wn,wc⟩:=L;have hq:∀u,Tab ad tb A u/\Kn (·=tb) w u->Q (.returned (.int .i64 ((if wn=true then 4 else if wc=true then 5 else 0:Nat):Int))) u:=fun u hu=>by rw[<- hQ];exact⟨rfl,hu⟩
 have HQ:=aC hq;clear hq hQ hD Ld hl Kj hn h hd;dsimp only at HD;unfold aA at *
 cases wn with
 |true=>
  simp only[if_true]at HQ;go_enter func41,ntmps41;go_wp2_with fail;refine(HD.out).mono ?_;rintro e u⟨rfl,c1,c2,hu⟩;have HG:=aC (HQ.out u hu);clear hu HD HQ;go_wp2;exact HG.out
 |false=>
  cases wc with
  |true=>
   go_enter func41,ntmps41;go_wp2_with fail;refine(HD.out).mono ?_;rintro e u⟨rfl,c1,c2,hu⟩;have HG:=aC (HQ.out u hu);clear hu HD HQ;go_wp2;exact HG.out
  |false=>
   go_enter func41,ntmps41;go_wp2_with fail;refine(HD.out).mono ?_;rintro e u⟨rfl,c1,c2,hu⟩;have HG:=aC (HQ.out u hu);clear hu HD HQ;go_wp2;exact HG.out
end
structure jM(nd:Nd):Prop where
 ok:xY nd.k nd.txt nd.ps
 full:XP nd
 ne:nd.k=18->nd.txt≠bA
 val:nd.k≠18->∃a r,nd.ps=a::r/\(∀m,XSh m a)/\a.ht<=900000/\a.sz<=100000000
 typ:nd.k=18->(∀x∈only 19 nd.ps,LH x.txt)/\∀v∈only 20 nd.ps,∀q∈v.ps,∀x∈q.all,(x.k=21/\LH x.txt)\/(x.k=22/\x.txt≠[])\/(x.k=23/\x.ps.length=2)
structure KO(ar:Nm->Nat)(A:Env)(l:List Nd):Prop where
 a:Gj ar A
 b:mE ar A
 k:tM A l
def sF{s:Lk}(h:jF s=0):s.fine:=by
 obtain⟨a,b⟩:=s;unfold jF at h;cases a<;>cases b<;>simp at h;exact⟨rfl,rfl⟩
def xG{l:List Nd}(h:∀d∈l,jM d):mU (nS l):=by
 refine⟨fun nm=>?_,rfl,rfl,rfl,rfl,rfl⟩;unfold nS
 split
 ·omega
 ·split
  ·omega
  ·split
   ·omega
   ·split
    ·rename_i d hd;have hm:=List.mem_of_find?_eq_some hd;have hk:=List.find?_some hd;simp only[Bool.and_eq_true,beq_iff_eq]at hk;have:=((h d hm).ok.typ hk.1).2.1;exact le_trans (List.length_filter_le _ _) this
    ·omega
def KO.step{a b:List Nd}{nd:Nd}{p p':PS}(hf:jM nd)(h:KO (nS (a++nd::b)) p.env a)(hd:cI p nd=(0,p')):KO (nS (a++nd::b)) p'.env (a++[nd]):=by
 unfold cI at hd;simp only at hd;split at hd
 ·rename_i he;exact absurd (Prod.mk.inj hd).1 he
 ·rename_i he;have he:jF (uE p.env nd ⟨false,false⟩)=0:=by simpa using he
  have Vy:=sF he;split at hd
  ·rename_i hk;cases hd;obtain⟨k,txt,ps⟩:=nd;have hk:k=18:=hk;subst hk;rw[zK]at Vy;obtain⟨_,h1,h2,_,h4⟩:=qE Vy;have Ln:nS (a++.mk 18 txt ps::b) txt=(only 19 ps).length:=QN (d:=.mk 18 txt ps) rfl h1 h.k (hf.ne rfl);have hA:=pR (ps:=ps) h.a Vy Ln;obtain⟨t1,t2⟩:=hf.typ rfl;refine⟨hA,⟨fun c m hm=>?_,fun x m hm=>?_⟩,?_,?_⟩
   ·have Y7:=hA.con c m hm;unfold cA at hm;rcases lC _ _ m hm with⟨v,hv,rfl⟩|Ly
    ·refine⟨Y7,rfl,(hf.full rfl).1,fun x hx=>?_,fun q hq x hx=>?_⟩
     ·obtain⟨y,hy,rfl⟩:=List.mem_map.1 hx;exact t1 y hy
     ·obtain⟨h5,h6⟩:=h4 v hv q hq x hx;rcases t2 v hv q hq x hx with⟨g1,g2⟩|⟨g1,g2⟩|⟨g1,g2⟩
      ·exact inl ⟨g1,g2,h5 g1⟩
      ·refine inr (inl ⟨by omega,by omega,g2,?_,by omega⟩);exact(Y7.parts q hq x hx).2 g1
      ·exact inr (inr ⟨g1,g2⟩)
    ·rw[dN (by simp)]at Ly;exact h.b.con c m Ly
   ·unfold cA at hm;rw[qS,dN (by simp)]at hm;exact h.b.var x m hm
   ·intro nm Lr;unfold cA;rw[gX,Env.get]
    split
    ·rfl
    ·exact h.k.1 nm Lr
   ·intro d Tj Tk;unfold cA;rw[gX,Env.get]
    split
    ·rfl
    ·rename_i Ju;rcases mem_append.1 Tj with Tj|Tj
     ·exact h.k.2 d Tj Tk
     ·rw[mem_singleton.1 Tj]at Ju;exact absurd rfl Ju
  ·rename_i hk;split at hd
   ·cases hd
   ·rename_i t s hdt;have Xm:∀(x:Nm)(m:Mg)(q:Nm),Env.get (((0,x),m)::p.env) (2,q)=p.env.get (2,q):=fun x m q=>dN (by simp)
    have hT:∀d∈a++[nd],d.k=18->(p.env.get (2,d.txt)).isSome=true:=fun d Tj Tk=>by
     rcases mem_append.1 Tj with Tj|Tj
     ·exact h.k.2 d Tj Tk
     ·rw[mem_singleton.1 Tj]at Tk;exact absurd Tk hk
    split at hd
    ·cases hd;exact⟨h.a,h.b,h.k.1,hT⟩
    ·cases hd;refine⟨⟨fun nm m hm=>?_,fun c m hm=>?_⟩,h.b.bind _ _,fun nm Lr=>?_,fun d Tj Tk=>?_⟩
     ·rw[Xm]at hm;exact h.a.type nm m hm
     ·rw[dN (by simp)]at hm;exact h.a.con c m hm
     ·rw[Xm];exact h.k.1 nm Lr
     ·rw[Xm];exact hT d Tj Tk
def XD(l:List Nd):KO (nS l) ahead.env []:=by
 have Zh:∀x m,ahead.env.get x=some m->(x=(0,[112,117,116])/\m=Mg.var 3)\/(x=(0,[103,101,116])/\m=Mg.var 6)\/(x=(0,gP)/\m=Mg.var 8)\/(x=(2,eI)/\m=Mg.type 0)\/(x=(2,dZ)/\m=Mg.type 0)\/(x=(2,bY)/\m=Mg.type 0)\/(x=(2,gP)/\m=Mg.type 1):=by
  intro x m hx;simp only[ahead,Env.get]at hx
  repeat (split at hx;· rename_i e;cases hx;simp[e])
  cases hx
 refine⟨⟨fun nm m hm=>?_,fun c m hm=>?_⟩,⟨fun c m hm=>?_,fun x m hm=>?_⟩,fun nm Lr=>?_,fun d hd=>?_⟩
 ·rcases Zh _ _ hm with⟨e,rfl⟩|⟨e,rfl⟩|⟨e,rfl⟩|⟨e,rfl⟩|⟨e,rfl⟩|⟨e,rfl⟩|⟨e,rfl⟩
  ·cases e
  ·cases e
  ·cases e
  ·cases e;rfl
  ·cases e;rfl
  ·cases e;rfl
  ·cases e;rfl
 ·rcases Zh _ _ hm with⟨e,rfl⟩|⟨e,rfl⟩|⟨e,rfl⟩|⟨e,rfl⟩|⟨e,rfl⟩|⟨e,rfl⟩|⟨e,rfl⟩<;>cases e
 ·rcases Zh _ _ hm with⟨e,rfl⟩|⟨e,rfl⟩|⟨e,rfl⟩|⟨e,rfl⟩|⟨e,rfl⟩|⟨e,rfl⟩|⟨e,rfl⟩<;>cases e
 ·rcases Zh _ _ hm with⟨e,rfl⟩|⟨e,rfl⟩|⟨e,rfl⟩|⟨e,rfl⟩|⟨e,rfl⟩|⟨e,rfl⟩|⟨e,rfl⟩
  ·exact⟨_,rfl⟩
  ·exact⟨_,rfl⟩
  ·exact⟨_,rfl⟩
  ·cases e
  ·cases e
  ·cases e
  ·cases e
 ·rcases Lr with rfl|rfl|rfl|rfl<;>decide
 ·cases hd
section
variable {ar:Nm->Nat}{ad:List Nat}{Y:Nat->Prop}{rk:Nat->Nat}{U:TS}{A:Env}{tb yb d:Nat}{gv:Value}{w w':World}{nb:Nat}{txt:Nm}
def VZ{k g cap ba:Nat}{bl:List Nat}{oa:Option TS}(h0:ar bY=0)(h:YM ar ad Y rk U A tb yb d gv w)(hp:dH nb k txt g cap (ba::bl) w)
  (hA:∀u,Kn (Dm ad tb yb gv) w u->YM ar (ad++[w.heap.size]) Y rk (U.named bY []).2 A tb yb d gv u->Calls prog 113 #[aA yb,aA ba,aM (ad++[w.heap.size]) U.nodes.length] u (cR ar (ad++[w.heap.size]) Y A tb yb d gv oa u)) :
  ∀u,Kn (fun _=>False) w u->u.heap.size=w.heap.size->First nb k txt g cap bl.length ba u/\Calls prog 39 #[] u fun e u1=>e=.returned (aA w.heap.size)/\First nb k txt g cap bl.length ba u1/\Calls prog 113 #[aA yb,aA ba,aA w.heap.size] u1 fun e u2=>
   (e=bE/\aJ ar ad Y A tb yb d gv (oa.map fun s=>s.named bY []) w bE u2)\/(e=.returned (.tuple #[])/\First nb k txt g cap bl.length ba u2/\Calls prog 39 #[] u2 fun e u3=>∃b,e=.returned (aA b)/\aJ ar ad Y A tb yb d gv (oa.map fun s=>s.named bY []) w (.returned (aA b)) u3):=by
 have Jw:∀u,Kn (Dm ad tb yb gv) w u->First nb k txt g cap bl.length ba u:=fun u hu=>(h.pt hu hp).first;intro u hu hs;refine⟨Jw _ (hu.wide fun _ _ h=>h.elim),(iQ u).mono ?_⟩;rintro e u1⟨rfl,rfl⟩;obtain⟨h1,Kz⟩:=h.BC h0 hu hs;refine⟨by rw[hs],Jw _ Kz.kn,?_⟩;have hc:=hA _ Kz.kn h1;rw[h.new1]at hc;refine hc.mono fun e u2 ha=>?_;rcases cR.go Kz ha (o:=oa.map fun s=>s.named bY []) (fun e=>by rw[e];rfl)with⟨q1,q2⟩|⟨U1,l1,rk1,gv1,q1,q2,q4,q5,q6,q7⟩
 ·exact inl ⟨q1,q2⟩
 ·refine inr ⟨q2,Jw _ q5.kn,(iQ u2).mono ?_⟩;rintro e u3⟨rfl,rfl⟩;obtain⟨h7,Vh⟩:=q4.BC h0 (Kn.refl _ u2) rfl;refine⟨_,rfl,aJ.behind q5 ?_⟩;rw[q1];exact aJ.BN q4 h7 (by simp[TS.named,TS.new])
def sT{g cap ba:Nat}{bl:List Nat}{oa:Option TS}(h0:ar bY=0)(h:YM ar ad Y rk U A tb yb d gv w)(hp:dH nb 17 txt g cap (ba::bl) w)
  (hA:∀u,Kn (Dm ad tb yb gv) w u->YM ar (ad++[w.heap.size]) Y rk (U.named bY []).2 A tb yb d gv u->Calls prog 113 #[aA yb,aA ba,aM (ad++[w.heap.size]) U.nodes.length] u (cR ar (ad++[w.heap.size]) Y A tb yb d gv oa u)) :
  Calls prog 75 #[aA yb,aA nb] w (aJ ar ad Y A tb yb d gv (oa.map fun s=>s.named bY []) w):=by
 have Nh:=VZ h0 h hp hA w.drew (Kn.AH w) rfl;obtain⟨ck,_,_,_⟩:=hp.cells;have Lt:=aC Nh;clear Nh h0 h hp hA;generalize aJ ar ad Y A tb yb d gv (oa.map fun s=>s.named bY []) w=Q at *;generalize bl.length=pn at *;generalize bs txt=tx at *;unfold bE bQ First aA at *;go_enter func75,ntmps75;go_wp2_with fail;obtain⟨⟨_,_,c1a,c2a⟩,hu⟩:=Lt.out;have HU:=aC hu;clear hu Lt
 go_region_held2 (fun w'=>w'.cell? ⟨nb,2,none⟩=some (.slice (some ⟨g,0,none⟩) (pn+1) cap)/\w'.cell? ⟨g,0,none⟩=some (.pointer (some ⟨ba,0,none⟩))) (exact⟨c1a,c2a⟩) (first|(go_at_call 39;refine(HU.out).mono ?_;rintro e u1⟨rfl,⟨_,_,c1a,c2a⟩,hc⟩;have HC:=aC hc;clear hc)|(go_at_call 113;refine(HC.out).mono ?_;rintro e u2 (⟨rfl,hp⟩|⟨rfl,⟨_,_,c1a,c2a⟩,hc⟩);(focus (exact⟨rfl,hp⟩));have HE:=aC hc;clear hc))
 all_goals
  go_wp2_with fail;refine(HE.out).mono ?_;rintro e u3⟨b,rfl,hq⟩;have HG:=aC hq;clear hq HE;go_wp2;exact HG.out
def qO(iv:Bool)(ob:Option (Nat×TS)):Option (Nat×TS):=ob.bind fun r=>if iv || !r.2.AW r.1 then some r else none
def NA{k g cap ba n:Nat}{bl:List Nat}{a:Nd}{o:Option (Nat×TS)}(h:YM ar ad Y rk U A tb yb d gv w)(hp:dH nb k txt g cap (ba::bl) w)(hn:a.ht<n)(hN:AB w a ba)
  (hA:Calls prog 114 #[aA yb,aA nb] w (aJ ar ad Y A tb yb d gv (cX d o) w)) :
  Calls prog 114 #[aA yb,aA nb] w fun e u2=>(e=bE/\aJ ar ad Y A tb yb d gv (qO (bB n a) (cX d o)) w bE u2)\/∃b,e=.returned (aA b)/\∀u,Kn (fun _=>False) u2 u->First nb k txt g cap bl.length ba u/\Calls prog 115 #[aA ba] u (fun e u'=>e=.returned (.bool (bB n a))/\u'=u) /\
   Calls prog 116 #[aA b] u (fun e u3=>∃v,e=.returned (.bool v)/\First nb k txt g cap bl.length ba u3/\((bB n a || !v)=false->aJ ar ad Y A tb yb d gv (qO (bB n a) (cX d o)) w bE u3)/\((bB n a || !v)=true->aJ ar ad Y A tb yb d gv (qO (bB n a) (cX d o)) w (.returned (aA b)) u3)) /\
   (bB n a=true->aJ ar ad Y A tb yb d gv (qO (bB n a) (cX d o)) w (.returned (aA b)) u):=by
 have Jw:∀u,Kn (Dm ad tb yb gv) w u->First nb k txt g cap bl.length ba u:=fun u hu=>(h.pt hu hp).first;refine hA.mono fun e u2 ha=>?_;rcases aJ.go (Bt.refl ad tb yb gv w) (show aJ ar (ad++[]) Y A tb yb d gv (cX d o) w e u2 by rw[append_nil];exact ha) (o:=qO (bB n a) (cX d o)) (fun e=>by rw[e];rfl)with⟨q1,q2⟩|⟨t,U1,l1,rk1,gv1,q1,q2,q3,q4,q5,_,_⟩
 ·exact inl ⟨q1,q2⟩
 have Zi:U1.fits t=true:=by
  unfold cX at q1;obtain⟨r,hr,hq⟩:=bind_eq_some_iff.1 q1;split at hq
  ·rename_i hf;cases hq;have:=(gI (r.2.pre r.1) r.2 d).fits r.1;exact this.trans hf
  ·cases hq
 refine inr ⟨_,q2,fun u hu=>?_⟩;have q5u:Bt ad tb yb gv w l1 gv1 u:=⟨q5.kn.trans (hu.wide fun _ _ h=>h.elim),q5.new,q5.giv⟩;have Wt:=q4.stays hu;refine⟨Jw _ q5u.kn,qF n a ba hn (h.tree q5u.kn hN),(tO Wt.sto q3 Zi).mono ?_,fun hv=>?_⟩
 ·rintro e u3⟨rfl,r2,r3⟩;have On:=q5u.store r3 (l2:=[]) (by simp);rw[append_nil]at On;have Vn:=Wt.step (l:=[]) r3 (by rw[append_nil];exact r2) rfl;rw[append_nil]at Vn;refine⟨_,rfl,Jw _ On.kn,fun hv=>aJ.panic (by unfold qO;rw[q1,Option.bind_some];simp only[hv];rfl) On.kn Vn.raw,fun hv=>aJ.ok (by unfold qO;rw[q1,Option.bind_some];simp only[hv];rfl) q3 Vn On⟩
 ·exact aJ.ok (by unfold qO;rw[q1,Option.bind_some];simp only[hv,Bool.true_or];rfl) q3 Wt q5u
def lD{k g cap ba n:Nat}{bl:List Nat}{a:Nd}{o:Option (Nat×TS)}(hk:k≠17)(Jy:k<100)(h:YM ar ad Y rk U A tb yb d gv w)(hp:dH nb k txt g cap (ba::bl) w)(hn:a.ht<n)(hN:AB w a ba)
  (hA:Calls prog 114 #[aA yb,aA nb] w (aJ ar ad Y A tb yb d gv (cX d o) w)) :
  Calls prog 75 #[aA yb,aA nb] w (aJ ar ad Y A tb yb d gv (qO (bB n a) (cX d o)) w):=by
 have Nh:=NA h hp hn hN hA;obtain⟨ck,_,_,_⟩:=hp.cells;have Le:¬(k:Int)=17:=by omega
 have Lt:=aC Nh;have HN:=aC lS;have L7:=aC (fun u:World=>Kn.refl (fun _=>False) u);clear Nh h hp hA hN hn;generalize aJ ar ad Y A tb yb d gv (qO (bB n a) (cX d o)) w=Q at *;generalize bB n a=iv at *;generalize bl.length=pn at *;generalize bs txt=tx at *;unfold bE bQ First aA at *;go_enter func75,ntmps75;go_wp2_with fail;refine(Lt.out).mono ?_;rintro e u2 (⟨rfl,hp⟩|⟨b,rfl,hu⟩)
 ·exact⟨rfl,hp⟩
 obtain⟨⟨_,_,c1a,c2a⟩,hv,hl,hy⟩:=hu u2 (L7.out u2);have HV:=aC hv;have HL:=aC hl;have HY:=aC hy;clear hu hv hl hy Lt;go_wp2_with fail;refine(HV.out).mono ?_;rintro e u3⟨rfl,rfl⟩;clear HV
 cases iv with
 |true=>
  have HG:=aC (HY.out rfl);clear HL HY;go_wp2_with fail;refine(HN.out _ _).mono ?_;rintro e u6⟨rfl,⟨hv,rfl⟩|⟨hv,rfl⟩⟩
  ·cases hv
  ·go_wp2;exact HG.out
 |false=>
  go_wp2_with fail;refine(HL.out).mono ?_;rintro e u4⟨v,rfl,_,Lg,Lp⟩;have Me:=aC Lg;have Lq:=aC Lp;clear Lg Lp HL HY;go_wp2_with fail;refine(HN.out _ _).mono ?_;rintro e u6⟨rfl,⟨hv,rfl⟩|⟨hv,rfl⟩⟩
  ·exact⟨rfl,Me.out (by simpa using hv)⟩
  ·have HG:=aC (Lq.out (by simpa using hv));go_wp2;exact HG.out
end
def tA(w:World):CallsD prog 74 #[] (.panicking [{ v:=bQ,recovered:=false }]) w fun e u' w'=>
   e=.returned (.tuple #[])/\u'=.panicking [{ v:=bQ,recovered:=true }]/\w'=w:=by
 unfold bQ;refine callsD_of_wpS func74 rfl fun c₀ cs hu=>?_;apply wpS_seq;apply wpS_region;simp[wpOpsS,go_sem,recoverD,hu,ntmps74,Exit.thenS];have O4:∀w:World,(binOp BinOp.neq 20 (.iface 152 (.agg #[])) .nilIface).run prog w=.ok (.bool true) w:=fun _=>by kernel_rfl
 have Uk:∀w:World,(binOp BinOp.neq 20 (.iface 152 (.agg #[])) (.iface 152 (.agg #[]))).run prog w=.ok (.bool false) w:=fun _=>by kernel_rfl
 refine wpS_of_wp ?_;go_wp2;cases c₀
 simp_all [bodyPostS,results,results74]
def JJ(w:World):CallsD prog 74 #[] .returning w fun e u' w'=>e=.returned (.tuple #[])/\u'=.returning/\w'=w:=by
 refine callsD_of_wpS func74 rfl fun c₀ cs hu=>?_;apply wpS_seq;apply wpS_region;simp[wpOpsS,go_sem,recoverD,hu,ntmps74,Exit.thenS];have O4:∀w:World,(binOp BinOp.neq 20 .nilIface .nilIface).run prog w=.ok (.bool false) w:=fun _=>by kernel_rfl
 refine wpS_of_wp ?_;go_wp2;cases c₀
 simp_all [bodyPostS,results,results74]
section
variable {ar:Nm->Nat}{ad:List Nat}{X:Nat->Prop}{rk:Nat->Nat}{U:TS}{A:Env}{tb:Nat}{w w':World}{nb:Nat}
def Dw(ar:Nm->Nat)(ad:List Nat)(X:Nat->Prop)(A:Env)(tb:Nat)(o:Option (Nat×TS))(w:World)(e:Ending)(w':World):Prop:=
 Kn (fun k=>k∈ad\/k=tb) w w'/\((o=none/\∃p,e=.returned (.tuple #[.pointer p,.bool false])) \/
  ∃t U' l rk',o=some (t,U')/\e=.returned (.tuple #[aM (ad++l) t,.bool true])/\t<U'.nodes.length/\aO ar (ad++l) X rk' U' w'/\Tab (ad++l) tb A w'/\∀b∈l,w.heap.size<=b)
def sO(o:Option (Nat×TS)):Option (Nat×TS):=o.bind fun r=>if r.2.given.all r.2.fits then some (r.1,{ r.2 with given:=[] })else none
def zX{U:TS}{g:List Nat}:∀{l:List (Nat×Nat)},iJ U l->iJ { U with given:=g } l:=by
 intro l
 induction l with
 |nil=>intro _;trivial
 |cons x r ih=>intro h;exact⟨h.1,h.2.1,h.2.2.1,h.2.2.2.1,h.2.2.2.2.1,h.2.2.2.2.2.1,ih h.2.2.2.2.2.2⟩
def aO.CP(h:aO ar ad X rk U w):aO ar ad X rk { U with given:=[] } w:=by
 refine⟨⟨zX h.ok.fnd,h.ok.parts,by simp⟩,h.len,h.lt,fun i hi=>?_⟩;exact h.node i hi
def SK{oD:Option (Nat×TS)}(h:aO ar ad X rk U w)(ht:Tab ad tb A w)(hX:∀b,X b->b<w.heap.size)(hg:U.given=[])
  (hD:YM ar ad X rk U A tb w.heap.size 0 (.slice none 0 0) (w.alloc (.cells #[.map (some tb),.int .i64 (0:Nat),.slice none 0 0] cV))->Calls prog 75 #[aA w.heap.size,aA nb] (w.alloc (.cells #[.map (some tb),.int .i64 (0:Nat),.slice none 0 0] cV)) (aJ ar ad X A tb w.heap.size 0 (.slice none 0 0) oD (w.alloc (.cells #[.map (some tb),.int .i64 (0:Nat),.slice none 0 0] cV)))) :
  Calls prog 75 #[aA w.heap.size,aA nb] (w.alloc (.cells #[.map (some tb),.int .i64 (0:Nat),.slice none 0 0] cV)) fun e u2=>(e=bE/\Dw ar ad X A tb (sO oD) w (.returned (.tuple #[.pointer none,.bool false])) u2)\/∃b,e=.returned (aA b)/\∃(a:Option Addr) (n c:Nat) (GV:Nat->World->Prop),u2.cell? ⟨w.heap.size,2,none⟩=some (.slice a n c)/\n<=9223372036854775807/\GV 0 u2 /\
   (∀i wr,GV i wr->i<n->∃g bt,a=some ⟨g,0,none⟩/\wr.cell? ⟨g,i,none⟩=some (aA bt)/\g<wr.heap.size/\Calls prog 77 #[aA bt] wr fun e wr2=>∃v,e=.returned (.bool v)/\(v=false->Dw ar ad X A tb (sO oD) w (.returned (.tuple #[aA b,.bool false])) wr2)/\(v=true->Hid (GV (i+1) wr2))) /\
   ∀wr,GV n wr->Dw ar ad X A tb (sO oD) w (.returned (.tuple #[aA b,.bool true])) wr:=by
 have hns:∀b,XG X (.slice none 0 0) b->X b:=fun b hb=>by
  rcases hb with hb|hb
  ·exact hb
  ·simp[Value.ownBlock]at hb
 have Pv:=ht.raw.choose_spec.choose_spec.lt
 have hy:YM ar ad X rk U A tb w.heap.size 0 (.slice none 0 0) (w.alloc (.cells #[.map (some tb),.int .i64 (0:Nat),.slice none 0 0] cV)):=by
  refine⟨(h.alloc _).narrow hns,?_,(MapKept.heap_alloc w _).1,?_,fun b hb=>by rw[aK];have:=hX b hb;omega⟩
  ·have:=ht.kept (l:=[]) (w':=w.alloc (.cells #[.map (some tb),.int .i64 (0:Nat),.slice none 0 0] cV)) (Below.heap_alloc _ _ _ Pv) (fun k c f hc=>Below.heap_alloc _ _ _ (aB hc)) (fun k c f hc=>Below.heap_alloc _ _ _ (aB hc)) (fun k c f hc=>Below.heap_alloc _ _ _ (aB hc));rw[append_nil]at this;exact this
  ·rw[hg];exact⟨rfl,inl ⟨rfl,rfl⟩⟩
 have hkD:∀{u:World},Kn (Dm ad tb w.heap.size (.slice none 0 0)) (w.alloc (.cells #[.map (some tb),.int .i64 (0:Nat),.slice none 0 0] cV)) u->Kn (fun k=>k∈ad\/k=tb) w u:=fun hk=>((Kn.refl _ w).alloc _).trans' hk fun k Lv hd=>by
  rcases hd with hd|hd|hd|hd
  ·exact inl hd
  ·exact inr hd
  ·omega
  ·simp[Value.ownBlock]at hd
 refine(hD hy).mono fun e u2 ha=>?_;rcases ha.cases with⟨q1,q2,q3,_⟩|⟨t,U',l,rk',gv',q1,q2,q3,q4,q5⟩
 ·exact inl ⟨q2,hkD q3,inl ⟨by rw[q1];rfl,_,rfl⟩⟩
 have Kt:∃a c,gv'=.slice a U'.given.length c:=by
  rcases aD q4.giv with⟨h,h0⟩|⟨g,cap,h⟩
  ·exact⟨none,0,by rw[h,h0]⟩
  ·exact⟨_,cap,h⟩
 obtain⟨a,c,rfl⟩:=Kt;have Mw:∀b∈l,w.heap.size<=b:=fun b hb=>by have:=q5.new b hb;rw[aK]at this;omega
 refine inr ⟨bH (ad++l) t,q2,a,U'.given.length,c,fun i wr=>YM ar (ad++l) X rk' U' A tb w.heap.size 0 (.slice a U'.given.length c) wr/\Bt ad tb w.heap.size (.slice none 0 0) (w.alloc (.cells #[.map (some tb),.int .i64 (0:Nat),.slice none 0 0] cV)) l (.slice a U'.given.length c) wr/\(U'.given.take i).all U'.fits=true,by simp[cell?,q4.typ],bI q4.giv,⟨q4,q5,by simp⟩,?_,?_⟩
 ·rintro i wr⟨y1,y2,y3⟩ hi;have hgi:U'.given[i]?=some U'.given[i]:=getElem?_eq_getElem hi;have Jv:=mem_of_getElem? hgi
  have Lo:(U'.given.take (i+1)).all U'.fits=U'.fits U'.given[i]:=by
   rw[List.take_succ_eq_append_getElem hi,List.all_append,y3];simp
  generalize U'.given[i]=x at hgi Jv Lo;have hxl:x<U'.nodes.length:=y1.sto.ok.given x Jv
  obtain⟨g,rfl⟩:∃g,a=some ⟨g,0,none⟩:=by
   rcases aD y1.giv with⟨h,h0⟩|⟨g,cap,h⟩
   ·omega
   ·cases h;exact⟨g,rfl⟩
  refine⟨g,bH (ad++l) x,rfl,?_,(y1.giv.lt g rfl).2,(oZ y1.sto hxl).mono ?_⟩
  ·rw[y1.giv.cellAt i (by omega),getElem?_map,hgi];rfl
  ·rintro e wr2⟨rfl,r2,r3⟩;have On:=y2.store r3 (l2:=[]) (by simp);rw[append_nil]at On;have Vn:=y1.step (l:=[]) r3 (by rw[append_nil];exact r2) rfl;rw[append_nil]at Vn;refine⟨_,rfl,fun hv=>⟨hkD On.kn,inl ⟨?_,_,rfl⟩⟩,fun hv=>aC ⟨Vn,On,by rw[Lo];exact hv⟩⟩;unfold sO;rw[q1,Option.bind_some];have:U'.given.all U'.fits=false:=List.all_eq_false.2 ⟨x,Jv,by simp[hv]⟩;simp only[this];rfl
 ·rintro wr⟨y1,y2,y3⟩;rw[take_length]at y3;refine⟨hkD y2.kn,inr ⟨t,{ U' with given:=[] },l,rk',?_,rfl,q3,(y1.sto.narrow fun b hb=>inl hb).CP,y1.tab,Mw⟩⟩;unfold sO;rw[q1,Option.bind_some];simp only[y3];rfl
def fT{oD:Option (Nat×TS)}(h:aO ar ad X rk U w)(ht:Tab ad tb A w)(hX:∀b,X b->b<w.heap.size)(hg:U.given=[])
  (hD:YM ar ad X rk U A tb w.heap.size 0 (.slice none 0 0) (w.alloc (.cells #[.map (some tb),.int .i64 (0:Nat),.slice none 0 0] cV))->Calls prog 75 #[aA w.heap.size,aA nb] (w.alloc (.cells #[.map (some tb),.int .i64 (0:Nat),.slice none 0 0] cV)) (aJ ar ad X A tb w.heap.size 0 (.slice none 0 0) oD (w.alloc (.cells #[.map (some tb),.int .i64 (0:Nat),.slice none 0 0] cV)))) :
  Calls prog 43 #[.map (some tb),aA nb] w (Dw ar ad X A tb (sO oD) w):=by
 have hf:=SK h ht hX hg hD;have HF:=aC hf;have HN:=aC lS;clear hf h ht hX hg hD;generalize Dw ar ad X A tb (sO oD) w=Q at *;unfold bE aA at *
 go_enter_defers func43,ntmps43
 go_wp2_with fail;refine(HF.out).mono ?_;rintro e u2 (⟨rfl,hq⟩|⟨b,rfl,a,n,c,GV,hc,hn,h0,hs,he⟩)
 ·have HG:=aC hq;clear hq HF;go_wp2;refine leaves_cons (f:=74) (args:=#[]) (by simp) (by simp[go_sem]) ?_;refine(tA _).mono ?_;rintro e u' w''⟨rfl,rfl,rfl⟩;simp[Leaves,settle,results,results43,go_sem];exact HG.out
 ·have H0:=aC h0;have HS:=aC hs;have HE:=aC he;clear h0 hs he HF;generalize w.heap.size=yb at *;go_wp2_with fail
  go_loopg [16] n (fun gk v16 wr=>∃i,v16=.int .i64 (i:Nat)/\i+gk=n/\Hid (GV i wr))
  case atStart=>exact⟨0,rfl,by omega,H0⟩
  case round=>
   clear H0;obtain⟨i,rfl,hi,L5⟩:=hrel
   by_cases Js:i<n
   ·obtain⟨g,bt,rfl,e1,e2,Nr⟩:=HS.out _ _ L5.out Js;have HC:=aC Nr;have Jt:(i:Int)<(n:Int):=by omega
    clear Nr HS HE L5;go_wp2_with fail;refine(HC.out).mono ?_;rintro e wr2⟨v,rfl,Lg,Lp⟩;have Me:=aC Lg;have Lq:=aC Lp;clear Lg Lp HC;go_wp2_with fail;refine(HN.out _ _).mono ?_;rintro e u6⟨rfl,⟨hv,rfl⟩|⟨hv,rfl⟩⟩
    ·have HG:=aC (Me.out hv);clear Me Lq hv;go_wp2;refine leaves_cons (f:=74) (args:=#[]) (by simp) (by simp[go_sem]) ?_;refine(tA _).mono ?_;rintro e u' w''⟨rfl,rfl,rfl⟩;simp[Leaves,settle,results,results43,go_sem];exact HG.out
    ·have L5:=Lq.out hv;clear Me Lq;go_wp2_with fail
     go_roundg (n-(i+1))
     case rel=>exact⟨i+1,by simp,by omega,L5⟩
     case measure=>omega
   ·have Kg:i=n:=by omega
    subst Kg;have Jt:¬(i:Int)<(i:Int):=by omega
    have HG:=aC (HE.out _ L5.out);clear HS HE L5;go_wp2;refine leaves_cons (f:=74) (args:=#[]) (by simp) (by simp[go_sem]) ?_;refine(JJ _).mono ?_;rintro e u' w''⟨rfl,rfl,rfl⟩;simp[Leaves,settle,results,results43,go_sem];exact HG.out
end
section
variable {ar:Nm->Nat}{ad:List Nat}{X:Nat->Prop}{rk:Nat->Nat}{U:TS}{A:Env}{tb:Nat}{w w':World}{nb:Nat}{txt:Nm}
def WA{a:Nd}{r:List Nd}:mB A (.mk 17 txt (a::r)) U=sO ((lI (pQ (a.ht+1)) A 0 a U.nodes.length (U.named bY []).2).map fun s=>s.named bY []):=by
 rw[show mB A (.mk 17 txt (a::r)) U=(match (lI (pQ (a.ht+1)) A 0 a U.nodes.length (U.named bY []).2).map fun s=>(s.nodes.length,(s.named bY []).2)with|some (t,s)=>if s.given.all s.fits then some (t,{ s with given:=[] })else none|none=>none)from rfl];unfold sO
 cases lI (pQ (a.ht+1)) A 0 a U.nodes.length (U.named bY []).2 with
 |none=>rfl
 |some s=>rfl
def vK{k:Nat}{a:Nd}{r:List Nd}(hk:k≠17):mB A (.mk k txt (a::r)) U=sO (qO (bB (a.ht+1) a) (gY (pQ (a.ht+1)) A 0 (k==7) txt a U)):=by
 unfold mB;dsimp only;rw[if_neg hk];unfold sO qO
 cases gY (pQ (a.ht+1)) A 0 (k==7) txt a U with
 |none=>rfl
 |some r=>
  rw[Option.bind_some];dsimp only
  cases (bB (a.ht+1) a || !r.2.AW r.1)with
  |false=>rfl
  |true=>rfl
def wD(ha:mU ar){k m m2:Nat}{a:Nd}{r:List Nd}(hk:k=17\/k=6\/k=7)(h1:eM m (if k=7 then(((0,txt),Mg.zero)::A)else A) a)(q1:a.ht<m)(q2:a.ht<m2)(h2:XSh m2 a)(h3:mE ar A)(hd:a.ht<=900000)(Ke:a.sz<=100000000)(hx:cL (0,txt))
  (hm:AB w (.mk k txt (a::r)) nb) (h:aO ar ad X rk U w) (ht:Tab ad tb A w) (hX:∀b,X b->b<w.heap.size) (hg:U.given=[]) :
  Calls prog 43 #[.map (some tb),aA nb] w (Dw ar ad X A tb (mB A (.mk k txt (a::r)) U) w):=by
 have hI:∀yb,qA ar tb yb (a.ht+1) a:=fun yb=>sP ha (a.ht+1) a (lt_succ_self _);have Sr:AB (w.alloc (.cells #[.map (some tb),.int .i64 (0:Nat),.slice none 0 0] cV)) (.mk k txt (a::r)) nb:=AB.kept (fun k c f hc=>Below.heap_alloc _ _ _ (aB hc)) (fun k c f hc=>Below.heap_alloc _ _ _ (aB hc)) _ nb hm;obtain⟨g,cap,bl,hp,Pq,_⟩:=Sr.pt (by simp);obtain⟨ba,bl',rfl,ma,_⟩:=AD.AN Pq;have Ov:U.given.length+a.sz<=100000000:=by rw[hg];simpa using Ke
 rcases hk with rfl|rfl|rfl
 ·rw[WA];refine fT h ht hX hg fun hy=>?_;refine sT ha.unit hy hp fun u hk Wt=>?_;exact(hI _).want ha q1 q2 h1 h2 h3 (by omega) (hy.tree hk ma) Wt Ov (nK _ _)
 ·rw[vK (by decide),show ((6:Nat)==7)=false from rfl,nR];refine fT h ht hX hg fun hy=>?_;exact lD (by decide) (by decide) hy hp (lt_succ_self a.ht) ma (vO (hI _) q1 q2 h1 h2 h3 (by omega) hp ma hy Ov)
 ·rw[vK (by decide),show ((7:Nat)==7)=true from rfl,JN];refine fT h ht hX hg fun hy=>?_;exact lD (by decide) (by decide) hy hp (lt_succ_self a.ht) ma (QI ha (hI _) q1 q2 h1 h2 h3 (by omega) hx hp ma hy Ov)
end
abbrev jW:TypeId:=46
structure uT(ar:Nm->Nat)(ad:List Nat)(rk:Nat->Nat)(p:PS)(tb pb:Nat)(dv bv:Value)(w:World):Prop where
 sto:aO ar ad (fun _=>False) rk p.sto w
 giv:p.sto.given=[]
 tab:Tab ad tb p.env w
 prog:w.heap[pb]?=some (.cells #[dv,bv,.map (some tb)] jW (0,0))
 row:w.ownsRow 0 cF 2 bv p.binds.length (cK ad p.binds)
 lt:∀x∈p.binds,x.2<ad.length
def Id(ad:List Nat)(tb pb:Nat)(bv:Value)(k:Nat):Prop:=k∈ad\/k=tb\/k=pb\/bv.ownBlock=some k
def Hy(ar:Nm->Nat)(ad:List Nat)(tb pb:Nat)(dv bv:Value)(o:Nat×PS)(w:World)(e:Ending)(w':World):Prop:=
 Kn (Id ad tb pb bv) w w'/\e=.returned (.int .i64 o.1)/\(o.1=0->∃l rk' bv',uT ar (ad++l) rk' o.2 tb pb dv bv' w'/\(∀b∈l,w.heap.size<=b)/\∀b,bv'.ownBlock=some b->bv.ownBlock=some b\/w.heap.size<=b)
section
variable {ar:Nm->Nat}{ad:List Nat}{rk:Nat->Nat}{p:PS}{tb pb:Nat}{dv bv:Value}{w w':World}{nb:Nat}{txt:Nm}
def uT.AF(h:uT ar ad rk p tb pb dv bv w){k:Nat}{c:Array Value}{t:TypeId}{f:Nat×Nat}(hc:w.heap[k]?=some (.cells c t f)):k≠tb:=fun e=>by
 obtain⟨n,f,⟨es,cl,hb,_⟩,_⟩:=h.tab;subst e;rw[hc]at hb;cases hb
def uT.BZ(h:uT ar ad rk p tb pb dv bv w){k:Nat}{c:Array Value}{t:TypeId}{f:Nat×Nat}(hc:w.heap[k]?=some (.cells c t f))(ht:t≠aT):k∉ad:=h.sto.CB hc ht
def uT.turn(h:uT ar ad rk p tb pb dv bv w){l:List Nat}{rk':Nat->Nat}{s:TS}{A:Env}(hk:Kn (fun k=>k∈ad\/k=tb) w w')(hs:aO ar (ad++l) (fun _=>False) rk' s w')(hg:s.given=[])(ht:Tab (ad++l) tb A w'):uT ar (ad++l) rk' ⟨A,s,p.binds⟩ tb pb dv bv w':=by
 have hb:∀(k:Nat)(c:Array Value)(t:TypeId)(f:Nat×Nat),t≠aT->w.heap[k]?=some (.cells c t f)->w'.heap[k]?=w.heap[k]?:=fun k c t f htt hc=>hk.block k (aB hc) fun hd=>by
  rcases hd with hd|hd
  ·exact h.BZ hc htt hd
  ·exact h.AF hc hd
 refine⟨hs,hg,ht,(hb _ _ _ _ (by decide) h.prog).trans h.prog,?_,fun x hx=>by rw[length_append];have:=h.lt x hx;omega⟩;rw[mD l h.lt];exact aE h.row fun k c f _ hc=>hb k c _ f (by decide) hc
def Kn.dmp(hk:Kn (fun k=>k∈ad\/k=tb) w w'):Kn (Id ad tb pb bv) w w':=hk.wide fun k _ hd=>by
 rcases hd with hd|hd
 ·exact inl hd
 ·exact inr (inl hd)
def aO.AM{X:Nat->Prop}{U:TS}(h:aO ar ad X rk U w)(ht:w.mapTurned w' tb):aO ar ad X rk U w':=
 h.kept (fun k hk=>by
  obtain⟨c,f,hc⟩:=h.isT hk
  exact bJ ht hc) (fun k c f _ hc=>bJ ht hc)
def aO.stays{X:Nat->Prop}{U:TS}(h:aO ar ad X rk U w)(hk:Kn (fun _=>False) w w'):aO ar ad X rk U w':=
 h.kept (fun k Jy=>hk.block k (h.BJ Jy) id) (fun k c f _ hc=>hk.block k (aB hc) id)
def uT.stays(h:uT ar ad rk p tb pb dv bv w)(hk:Kn (fun _=>False) w w'):uT ar ad rk p tb pb dv bv w':=
 ⟨h.sto.stays hk,h.giv,h.tab.stays hk,(hk.block pb (aB h.prog) id).trans h.prog,aE h.row fun k c f _ hc=>hk.block k (aB hc) id,h.lt⟩
def JP{t:Nat}{u2:World}(h:uT ar ad rk p tb pb dv bv u2)(ht:t<p.sto.nodes.length)(hx:cL (0,txt))(hn:p.binds.length<=1000000)(Uj:∃c t f,u2.heap[nb]?=some (.cells c t f)/\c[1]?=some (.string (bs txt))/\t≠cF/\t≠jW) :
  ∀u,Kn (fun _=>False) u2 u->(u.cell? ⟨pb,2,none⟩=some (.map (some tb))/\u.cell? ⟨nb,1,none⟩=some (.string (bs txt)))/\∃u3,(Instr.mapUpdate dA (.map (some tb)) (.agg #[.int .i64 0,.string (bs txt)]) (.agg #[aM ad t,.string ⟨#[]⟩,.slice none 0 0,.slice none 0 0,.int .i64 0,.int .i64 0])).run prog u=.ok () u3/\(u3.cell? ⟨pb,2,none⟩=some (.map (some tb))/\u3.cell? ⟨nb,1,none⟩=some (.string (bs txt)))/\u3.cell? ⟨pb,1,none⟩=some bv /\
   ∃xs:List Value,u3.drew.ownsRow 0 cF 2 bv p.binds.length xs/\p.binds.length<=100000000/\∀v' w2,w2.ownsRow 0 cF 2 v' (p.binds.length+1) (xs++[.string (bs txt),aM ad t])->(u3.drew.alloc (.cells #[.string (bs txt),aM ad t] cF)).grownBy w2 bv.ownBlock->(∀g,v'.ownBlock=some g->bv.ownBlock=some g\/u3.heap.size<g) ->
    w2.frozen? ⟨pb,1,none⟩=false/\w2.cell? ⟨pb,1,none⟩=some bv/\uT ar ad rk ⟨((0,txt),Mg.var t)::p.env,p.sto,p.binds++[(txt,t)]⟩ tb pb dv v' (w2.setCell ⟨pb,1,none⟩ v')/\Kn (Id ad tb pb bv) u2 (w2.setCell ⟨pb,1,none⟩ v')/\∀b,v'.ownBlock=some b->bv.ownBlock=some b\/u2.heap.size<=b:=by
 intro u hu;have hp:=h.stays hu;obtain⟨cc,tt,ff,Ox,Wk,Ld,Pj⟩:=Uj;have z9:u.heap[nb]?=some (.cells cc tt ff):=(hu.block nb (aB Ox) id).trans Ox;have Oh:t<ad.length:=by rw[h.sto.len];exact ht
 refine⟨⟨by simp[cell?,hp.prog],by simp[cell?,z9,Wk]⟩,?_⟩;obtain⟨u3,r1,r2,r3⟩:=hp.tab.put (x:=(0,txt)) hx (sA Oh u);have Vq:u3.heap[pb]?=some (.cells #[dv,bv,.map (some tb)] jW (0,0)):=(bJ r3 hp.prog).trans hp.prog;have hnb3:u3.heap[nb]?=some (.cells cc tt ff):=(bJ r3 z9).trans z9;have Xd:u3.ownsRow 0 cF 2 bv p.binds.length (cK ad p.binds):=aE hp.row fun k c f _ hc=>bJ r3 hc;have Zz:=hp.sto.AM r3;have Le:Kn (fun k=>k∈ad\/k=tb) u2 u3:=(hu.wide fun _ _ h=>h.elim).AM r3 (inl (inr rfl));refine⟨u3,r1,⟨by simp[cell?,Vq],by simp[cell?,hnb3,Wk]⟩,by simp[cell?,Vq],cK ad p.binds,Xd,by omega,?_⟩;intro v' w2 ho hg hl
 have Ju:∀k,k<u3.heap.size->bv.ownBlock≠some k->w2.heap[k]?=u3.heap[k]?:=fun k hk hn=>by
  have Ze:k<u3.drew.heap.size:=hk;rw[hg.block k (by rw[aK];omega) (fun e=>hn e.symm),Below.heap_alloc _ _ _ Ze];rfl
 have Pi:∀(k:Nat)(c:Array Value)(t:TypeId)(f:Nat×Nat),u3.heap[k]?=some (.cells c t f)->t≠cF->w2.heap[k]?=u3.heap[k]?:=fun k c t f hc ht=>Ju k (aB hc) fun e=>by
  obtain⟨c2,h2⟩:=dV Xd e;rw[hc]at h2;exact ht (aN h2)
 have Nc:w2.heap[pb]?=some (.cells #[dv,bv,.map (some tb)] jW (0,0)):=(Pi pb _ _ _ Vq (by decide)).trans Vq;have Ma:∀k,k≠pb->(w2.setCell ⟨pb,1,none⟩ v').heap[k]?=w2.heap[k]?:=fun k hk=>Below.heap_setCell _ _ _ _ hk
 have Xq:∀(k:Nat)(c:Array Value)(t:TypeId)(f:Nat×Nat),t≠cF->t≠jW->u3.heap[k]?=some (.cells c t f)->(w2.setCell ⟨pb,1,none⟩ v').heap[k]?=u3.heap[k]?:=fun k c t f h1 h2 hc=>by
  rw[Ma k (fun e=>by subst e;rw[Vq]at hc;exact h2 (aN hc).symm)];exact Pi k c t f hc h1
 have Pv:(w2.setCell ⟨pb,1,none⟩ v').heap[tb]?=u3.heap[tb]?:=by
  obtain⟨n,f,⟨es,cl,hm,_⟩,_⟩:=r2
  rw[Ma tb (fun e=>by subst e;rw[Vq]at hm;cases hm),Ju tb (by cases hh:u3.heap[tb]? with|none=>rw[hh]at hm;cases hm|some o=>exact aB hh) (fun e=>by
   obtain⟨c2,h2⟩:=dV Xd e
   rw[hm]at h2;cases h2)]
 refine⟨frozen_of_row _ _ _ _ _ Nc,by simp[cell?,Nc],⟨?_,h.giv,?_,?_,?_,?_⟩,?_,fun b hb=>?_⟩
 ·refine Zz.kept (fun k hk=>?_) (fun k c f _ hc=>Xq k c _ f (by decide) (by decide) hc);obtain⟨c,f,hc⟩:=Zz.isT hk;exact Xq k c _ f (by decide) (by decide) hc
 ·have:=r2.kept (l:=[]) Pv (fun k c f hc=>Xq k c _ f (by decide) (by decide) hc) (fun k c f hc=>Xq k c _ f (by decide) (by decide) hc) (fun k c f hc=>Xq k c _ f (by decide) (by decide) hc);rw[append_nil]at this;exact this
 ·rw[heap_setCell_same _ _ _ _ _ _ Nc];rfl
 ·show (w2.setCell ⟨pb,1,none⟩ v').ownsRow 0 cF 2 v' (p.binds++[(txt,t)]).length (cK ad (p.binds++[(txt,t)]));rw[oO,length_append];exact aE ho fun q c f _ hc=>Ma q fun e=>by subst e;rw[Nc]at hc;exact absurd (aN hc) (by decide)
 ·intro x hx;rcases mem_append.1 hx with hx|hx
  ·exact h.lt x hx
  ·rw[mem_singleton.1 hx];exact Oh
 ·have k1:Kn (Id ad tb pb bv) u2 u3.drew:=(Kn.dmp Le).drew;exact((k1.alloc _).grown hg (fun k hk=>inl (inr (inr (inr hk))))).set (p:=⟨pb,1,none⟩) (inl (inr (inr (inl rfl)))) _
 ·rcases hl b hb with h1|h1
  ·exact inl h1
  ·have:=Le.size;exact inr (by omega)
end
end Go.Proofs.YthakgdfmbknakaaGreatDoor
