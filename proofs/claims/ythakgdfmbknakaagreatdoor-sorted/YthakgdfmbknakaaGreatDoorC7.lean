import Derived.Test.YthakgdfmbknakaaGreatDoorC6
import Derived.Lib.TrimByte
set_option linter.all false
set_option maxHeartbeats 40000000
set_option maxRecDepth 100000
open Go.Proofs.Tryz
open Or (inl inr)
open Option (map_eq_some_iff)
open Nat (le_refl le_trans zero_le lt_of_lt_of_le lt_succ_self)
open List (append_nil length_append length_cons mem_cons_self mem_cons_of_mem mem_append mem_singleton append_assoc mem_cons length_nil map_append length_map map_cons)
namespace Go.Proofs.YthakgdfmbknakaaGreatDoor
open World (cell?)
open Value (ownBlock pointer string)
open Go.RowKit
abbrev pC:TypeId:=82
structure Bes{S:Type}(get:S->TS)(put:S->TS->S)(E:S->Value->List Nat->World->Prop)(rb:Nat):Prop where
 gp:∀s τ,get (put s τ)=τ
 pg:∀s,put s (get s)=s
 keep:∀{s:S}{v:Value}{ad:List Nat}{w w':World} (l:List Nat) (τ:TS),E s v ad w->Kn (fun _=>False) w w'->τ.given=(get s).given->E (put s τ) v (ad++l) w'
 cel:∀{s:S}{v:Value}{ad:List Nat}{w:World}{k:Nat}{c:Array Value}{t:TypeId}{f:Nat×Nat},E s v ad w->w.heap[k]?=some (.cells c t f)->t=aI\/t=cS\/t=aH\/t=pC\/t=aG->k≠rb/\v.ownBlock≠some k
 mp:∀{s:S}{v:Value}{ad:List Nat}{w:World}{k:Nat}{es:Array MapEntry}{cl:Nat},E s v ad w->w.heap[k]?=some (.map es cl)->k≠rb/\v.ownBlock≠some k
def uU(ad:List Nat)(tb yb:Nat)(gv:Value)(rb:Nat)(vv:Value)(k:Nat):Prop:=Dm ad tb yb gv k\/k=rb\/vv.ownBlock=some k
section
variable {S:Type}{get:S->TS}{put:S->TS->S}{E:S->Value->List Nat->World->Prop}{rb:Nat}
def RC(get:S->TS)(E:S->Value->List Nat->World->Prop)(rb:Nat)(ar:Nm->Nat)(ad:List Nat)(Y:Nat->Prop)(A:Env)(tb yb d:Nat)(gv vv:Value)(o:Option S)(w:World)(e:Ending)(w':World):Prop:=
 Kn (uU ad tb yb gv rb vv) w w'/\((o=none/\e=bE/\∃n f,aQ cL eL w' tb n f) \/
  ∃s' l rk' gv' vv',o=some s'/\e=.returned (.tuple #[])/\YM ar (ad++l) Y rk' (get s') A tb yb d gv' w'/\E s' vv' (ad++l) w'/\(∀b∈l,w.heap.size<=b)/\(∀b,gv'.ownBlock=some b->gv.ownBlock=some b\/w.heap.size<=b)/\∀b,vv'.ownBlock=some b->vv.ownBlock=some b\/w.heap.size<=b)
def gF(get:S->TS)(E:S->Value->List Nat->World->Prop)(rb:Nat)(ar:Nm->Nat)(ad:List Nat)(Y:Nat->Prop)(A:Env)(tb yb d:Nat)(gv vv:Value)(o:Option (Nat×S))(w:World)(e:Ending)(w':World):Prop:=
 Kn (uU ad tb yb gv rb vv) w w'/\((o=none/\e=bE/\∃n f,aQ cL eL w' tb n f) \/
  ∃t s' l rk' gv' vv',o=some (t,s')/\e=.returned (aM (ad++l) t)/\t<(get s').nodes.length/\YM ar (ad++l) Y rk' (get s') A tb yb d gv' w'/\E s' vv' (ad++l) w'/\(∀b∈l,w.heap.size<=b)/\(∀b,gv'.ownBlock=some b->gv.ownBlock=some b\/w.heap.size<=b)/\∀b,vv'.ownBlock=some b->vv.ownBlock=some b\/w.heap.size<=b)
structure yA(get:S->TS)(put:S->TS->S)(E:S->Value->List Nat->World->Prop)(rb:Nat)(ar:Nm->Nat)(ad:List Nat)(Y:Nat->Prop)(A:Env)(tb yb d:Nat)(gv vv:Value)(w:World)(ex:Nd->Nat->S->Option S)(ch:List (Nm×Nat))(pairs:List (Nd×Nd))(oW:Option S)(M:Nat)(v:Value)(cb i:Nat)(wr:World)(l:List Nat)(rk':Nat->Nat)(s:S)(gv' vv':Value):Prop where
 rest:iN.go get put ex ch (pairs.drop i) s=oW
 ym:YM ar (ad++l) (XV Y v) rk' (get s) A tb yb d gv' wr
 ext:E s vv' (ad++l) wr
 chm:RE (ad++l) ch cb wr
 row:wr.ownsRow w.heap.size aG 1 v (ch.map fun p=>bH (ad++l) p.2).length ((ch.map fun p=>bH (ad++l) p.2).map aA)
 kn:Kn (uU ad tb yb gv rb vv) w wr
 new:∀b∈l,w.heap.size<=b
 giv:∀b,gv'.ownBlock=some b->gv.ownBlock=some b\/w.heap.size<=b
 viv:∀b,vv'.ownBlock=some b->vv.ownBlock=some b\/w.heap.size<=b
 ngv:∀b,v.ownBlock=some b->gv'.ownBlock≠some b
 cbn:w.heap.size<=cb
 tbo:tb<w.heap.size
 bud:(get s).given.length+Nd.sz.szs ((pairs.drop i).map Prod.fst)<=M
variable {ar:Nm->Nat}{ad:List Nat}{Y:Nat->Prop}{rk:Nat->Nat}{U:TS}{A:Env}{tb yb d:Nat}{gv vv:Value}{w w':World}{nb:Nat}{txt:Nm}
variable {ex:Nd->Nat->S->Option S}{ch:List (Nm×Nat)}{pairs:List (Nd×Nd)}{oW:Option S}{M:Nat}{v:Value}{cb i:Nat}{wr:World}{l:List Nat}{rk':Nat->Nat}{s:S}{gv' vv':Value}
def yA.dm(h:yA get put E rb ar ad Y A tb yb d gv vv w ex ch pairs oW M v cb i wr l rk' s gv' vv'){l2:List Nat}(Mb:∀b∈l2,wr.heap.size<=b){k:Nat}(hk:k<w.heap.size)(hd:uU (ad++l++l2) tb yb gv' rb vv' k):uU ad tb yb gv rb vv k:=by
 rcases hd with(hd|hd|hd|hd)|hd|hd
 ·rcases mem_append.1 hd with hd|hd
  ·rcases mem_append.1 hd with hd|hd
   ·exact inl (inl hd)
   ·have:=h.new k hd;omega
  ·have:=Mb k hd;have:=h.kn.size;omega
 ·exact inl (inr (inl hd))
 ·exact inl (inr (inr (inl hd)))
 ·rcases h.giv k hd with h1|h1
  ·exact inl (inr (inr (inr h1)))
  ·omega
 ·exact inr (inl hd)
 ·rcases h.viv k hd with h1|h1
  ·exact inr (inr h1)
  ·omega
def YM.CM(B:Bes get put E rb){U:TS}(h:YM ar ad Y rk U A tb yb d gv w)(he:E s vv ad w){k:Nat}{c:Array Value}{t:TypeId}{f:Nat×Nat}(hc:w.heap[k]?=some (.cells c t f))(ht:t=aI\/t=cS\/t=aH\/t=pC):¬uU ad tb yb gv rb vv k:=by
 have hb:=B.cel he hc (by rcases ht with h|h|h|h<;>simp[h]);rintro (hd|hd|hd)
 ·rcases ht with rfl|rfl|rfl|rfl
  ·exact h.AU hc (by decide) (by decide) (by decide) hd
  ·exact h.AU hc (by decide) (by decide) (by decide) hd
  ·exact h.AU hc (by decide) (by decide) (by decide) hd
  ·exact h.AU hc (by decide) (by decide) (by decide) hd
 ·exact hb.1 hd
 ·exact hb.2 hd
def yA.chain(B:Bes get put E rb)(Ln:∀nm,ar nm<=1000000)(h2:ar bA=2){K bp bq:Nat}{recv:Value}{p q:Nd}{oT:Option (Nat×S)}(h:yA get put E rb ar ad Y A tb yb d gv vv w ex ch pairs oW M v cb i wr l rk' s gv' vv')(hp:pairs[i]?=some (p,q))
  (hX:∀(Y:Nat->Prop) ad rk s gv vv u want,AB u p bp->YM ar ad Y rk (get s) A tb yb d gv u->E s vv ad u->(get s).given.length+p.sz<=M->want<(get s).nodes.length->Calls prog K #[recv,aA bp,aM ad want] u (RC get E rb ar ad Y A tb yb d gv vv (ex p want s) u))
  (Vw:∀want s s',ex p want s=some s'->(get s').given.length<=(get s).given.length+p.sz)
  (Xe:AB wr p bp) (hqm:AB wr q bq) (hW:Gl ar ch q) (ho:oW=none->oT=none) :
  Calls prog 288 #[aA bq,.map (some cb)] wr fun e wr2=>∃bt,e=.returned (aA bt)/\Calls prog K #[recv,aA bp,aA bt] wr2 fun e wr3=>
   (e=bE/\gF get E rb ar ad Y A tb yb d gv vv oT w bE wr3)\/(e=.returned (.tuple #[])/\(∃l rk' s gv' vv',yA get put E rb ar ad Y A tb yb d gv vv w ex ch pairs oW M v cb (i+1) wr3 l rk' s gv' vv')/\∀(k:Nat)(c:Array Value)(t:TypeId)(f:Nat×Nat),wr.heap[k]?=some (.cells c t f)->t=aI\/t=cS\/t=aH\/t=pC->wr3.heap[k]?=wr.heap[k]?):=by
 have Lc:=(List.getElem?_eq_some_iff.1 hp).1
 have hd:pairs.drop i=(p,q)::pairs.drop (i+1):=by
  rw[List.drop_eq_getElem_cons Lc];rw[List.getElem?_eq_getElem Lc]at hp;rw[Option.some.inj hp]
 have Na:=h.rest;rw[hd,iN.go]at Na;have Ro:=h.bud;rw[hd,map_cons,Nd.sz.szs]at Ro;have Ro:(get s).given.length+(p.sz+Nd.sz.szs ((pairs.drop (i+1)).map Prod.fst))<=M:=Ro;refine(qM Ln h2 (q.ht+1) (ad++l) (XG (XV Y v) gv') (get s) q bq wr (lt_succ_self _) hqm hW h.ym.sto h.chm (fun b hb=>?_)).mono ?_
 ·rcases hb with hb|hb
  ·exact h.ym.yok b hb
  ·exact h.ym.BY hb
 rintro e wr2⟨l2,e1,e2,e3,e4,e5⟩;have Wd:=lJ (q.ht+1) q (get s) (ch:=ch);generalize hx:written (q.ht+1) ch q (get s)=x at *;have Rd:=h.ym.step (e4.wide fun _ _ h=>h.elim) e3 Wd.given;have Mt:=B.keep l2 x.2 h.ext e4 Wd.given;have Qu:AB wr2 p bp:=AB.kept (fun k c f hc=>e4.block k (aB hc) fun h=>h) (fun k c f hc=>e4.block k (aB hc) fun h=>h) p bp Xe;have Un:(get (put s x.2)).given.length=(get s).given.length:=by rw[B.gp,Wd.given]
 have M1:YM ar (ad++l++l2) (XV Y v) rk' (get (put s x.2)) A tb yb d gv' wr2:=by rw[B.gp];exact Rd
 have hc:=hX (XV Y v) (ad++l++l2) rk' (put s x.2) gv' vv' wr2 x.1 Qu M1 Mt (by omega) (by rw[B.gp];exact e2);refine⟨bH (ad++l++l2) x.1,e1,hc.mono fun e wr3 ha=>?_⟩;have Yu:w.heap.size<=wr2.heap.size:=le_trans h.kn.size e4.size;have P8:Kn (uU ad tb yb gv rb vv) w wr3:=(h.kn.trans' e4 fun _ _ hf=>hf.elim).trans' ha.1 fun k hk hd=>h.dm e5 hk hd;obtain⟨Q9,ha⟩:=ha;rcases ha with⟨a1,a2,a3⟩|⟨s',l3,rk3,gv3,vv3,a1,a2,a3,a4,a5,a6,a7⟩
 ·rw[a1]at Na;exact inl ⟨a2,P8,inl ⟨ho Na.symm,rfl,a3⟩⟩
 ·rw[a1]at Na;refine inr ⟨a2,⟨l++l2++l3,rk3,s',gv3,vv3,?_⟩,?_⟩
  ·have Zo:ad++(l++l2++l3)=ad++l++l2++l3:=by simp
   have Ug:wr2.ownsRow w.heap.size aG 1 v (ch.map fun p=>bH (ad++l) p.2).length ((ch.map fun p=>bH (ad++l) p.2).map aA):=aE h.row fun q c f _ hc=>e4.block q (aB hc) fun h=>h;have hchl:∀p∈ch,p.2<(ad++l).length:=h.chm.2
   have Pb:(ch.map fun p=>bH (ad++(l++l2++l3)) p.2)=ch.map fun p=>bH (ad++l) p.2:=List.map_congr_left fun p hp=>by
    rw[Zo,append_assoc (ad++l),jU _ (hchl p hp)]
   have Zw:∀b,v.ownBlock=some b->¬uU (ad++l++l2) tb yb gv' rb vv' b:=fun b hb=>by
    obtain⟨c,Md⟩:=dV Ug hb;have We:=B.cel Mt Md (by simp);rintro ((hd|hd|hd|hd)|hd|hd)
    ·obtain⟨c2,f2,h2⟩:=Rd.sto.isT hd;rw[Md]at h2;exact absurd (aN h2) (by decide)
    ·subst hd;obtain⟨n,f,⟨es,cl,hm,_⟩,_⟩:=Rd.tab;rw[Md]at hm;cases hm
    ·subst hd;have:=Rd.typ;rw[Md]at this;exact absurd (aN this) (by decide)
    ·exact h.ngv b hb hd
    ·exact We.1 hd
    ·exact We.2 hd
   have hcbn:¬uU (ad++l++l2) tb yb gv' rb vv' cb:=by
    have I0:=h.chm.kept l2 (e4.block cb h.chm.lt fun h=>h);obtain⟨⟨n,f,⟨es,cl,hm,_⟩,_⟩,_⟩:=I0;have We:=B.mp Mt hm;rintro ((hd|hd|hd|hd)|hd|hd)
    ·obtain⟨c2,f2,h2⟩:=Rd.sto.isT hd;rw[hm]at h2;cases h2
    ·have:=h.tbo;have:=h.cbn;omega
    ·subst hd;have:=Rd.typ;rw[hm]at this;cases this
    ·obtain⟨c2,h2⟩:=dV Rd.giv hd;rw[hm]at h2;cases h2
    ·exact We.1 hd
    ·exact We.2 hd
   refine⟨?_,by rw[Zo];exact a3,by rw[Zo];exact a4,?_,?_,P8,?_,?_,?_,?_,h.cbn,h.tbo,?_⟩
   ·exact Na
   ·rw[Zo,append_assoc (ad++l)];have Sh:cb<wr2.heap.size:=lt_of_lt_of_le h.chm.lt e4.size;exact h.chm.kept _ ((Q9.block cb Sh hcbn).trans (e4.block cb h.chm.lt fun h=>h))
   ·rw[Pb];exact aE Ug fun q c f hq hc=>Q9.block q (aB hc) (Zw q hq)
   ·intro b hb;rcases mem_append.1 hb with hb|hb
    ·rcases mem_append.1 hb with hb|hb
     ·exact h.new b hb
     ·exact le_trans h.kn.size (e5 b hb)
    ·exact le_trans Yu (a5 b hb)
   ·intro b hb;rcases a6 b hb with h1|h1
    ·exact h.giv b h1
    ·exact inr (le_trans Yu h1)
   ·intro b hb;rcases a7 b hb with h1|h1
    ·exact h.viv b h1
    ·exact inr (le_trans Yu h1)
   ·intro b hb e;rcases a6 b e with h1|h1
    ·exact h.ngv b hb h1
    ·have:=(Ug.lt b hb).2;omega
   ·have:=Vw _ _ _ a1;omega
  ·intro k c t f hc ht;have Mv:wr2.heap[k]?=some (.cells c t f):=(e4.block k (aB hc) fun h=>h).trans hc;rw[Q9.block k (aB Mv) (YM.CM B M1 Mt Mv ht)];exact e4.block k (aB hc) fun h=>h
def tN.co(B:Bes get put E rb){s0:S}{ls:List Nm}{U' Uk:TS}(h:tN ar ad Y rk A tb yb d gv w ls ch U' cb ls.length v wr l Uk)(hE:E s0 vv ad w)(Oy:U'.given=(get s0).given)(Ro:U'.given.length+Nd.sz.szs (pairs.map Prod.fst)<=M) :
  yA get put E rb ar ad Y A tb yb d gv vv w ex ch pairs (iN.go get put ex ch pairs (put s0 U')) M v cb 0 wr l rk (put s0 U') gv vv:=by
 obtain⟨rfl,ht⟩:=h.done;have hc:=h.chm;have hr:=h.row;rw[ht]at hc hr;refine⟨by simp,by rw[B.gp];exact h.ym,B.keep l Uk hE h.kn Oy,hc,hr,h.kn.wide fun _ _ hf=>hf.elim,h.new,fun b hb=>inl hb,fun b hb=>inl hb,fun b hb e=>?_,h.cbn,h.tbo,by rw[B.gp];simpa using Ro⟩;have h1:=(h.row.lt b hb).1;have h2:=h.gvo b e;omega
def yA.fin(B:Bes get put E rb){data:Nm}(h:yA get put E rb ar ad Y A tb yb d gv vv w ex ch pairs oW M v cb pairs.length wr l rk' s gv' vv')(hY:∀b,Y b->b<w.heap.size)(hd:data≠[])(hl:ch.length=ar data) :
  oW=some s/\gF get E rb ar ad Y A tb yb d gv vv (some (((get s).named data (ch.map Prod.snd)).1,put s ((get s).named data (ch.map Prod.snd)).2)) w (.returned (aA wr.heap.size)) (wr.alloc (.cells #[.string (bs data),v,.pointer none,.int .i64 0] aT)):=by
 have h1:=h.rest;rw[List.drop_length,iN.go]at h1;refine⟨h1.symm,h.kn.alloc _,inr ⟨_,_,l++[wr.heap.size],rk',gv',vv',rfl,?_,?_,?_,?_,?_,h.giv,h.viv⟩⟩
 ·rw[<- append_assoc]
  show Ending.returned (aA wr.heap.size)=.returned (aM (ad++l++[wr.heap.size]) (get s).nodes.length);rw[h.ym.new1]
 ·rw[B.gp];simp[TS.named,TS.new]
 ·rw[B.gp,<- append_assoc]
  have hn:aO ar (ad++l) (XG Y gv') rk' (get s) wr:=h.ym.sto.narrow fun b hb=>by
   rcases hb with hb|hb
   ·exact inl (inl hb)
   ·exact inr hb
  have Y5:YM ar (ad++l) Y rk' (get s) A tb yb d gv' wr:=⟨hn,h.ym.tab,h.ym.typ,h.ym.giv,fun b hb=>h.ym.yok b (inl hb)⟩;refine Y5.step ((Kn.refl _ wr).alloc _) (hn.new (t:=⟨data,ch.map Prod.snd,0⟩) (pv:=v) (fun p hp=>?_) (fun e=>absurd e hd) (fun _=>by show (ch.map Prod.snd).length=ar data;rw[length_map,hl]) ?_ (fun g hg hx=>?_)) rfl
  ·obtain⟨q,hq,rfl⟩:=List.mem_map.1 hp;rw[<- h.ym.len];exact h.chm.2 q hq
  ·show wr.ownsRow 0 aG 1 v (ch.map Prod.snd).length ((ch.map Prod.snd).map (aM (ad++l)));have:=bN h.row (zero_le _);rw[length_map,List.map_map]at this;rw[length_map,List.map_map];exact this
  ·rcases hx with hx|hx
   ·have h1:=(h.row.lt g hg).1;have h2:=hY g hx;omega
   ·exact h.ngv g hg hx
 ·rw[<- append_assoc];exact B.keep _ _ h.ext ((Kn.refl _ wr).alloc _) rfl
 ·intro b hb;rcases mem_append.1 hb with hb|hb
  ·exact h.new b hb
  ·rw[mem_singleton.1 hb];exact h.kn.size
end
def Ir(ar:Nm->Nat)(ls:List Nm)(q:Nd):Prop:=
 ∀x∈q.all,(x.k=21/\LH x.txt/\x.txt∈ls)\/(x.k≠21/\x.k≠23/\x.txt≠[]/\x.ps.length=ar x.txt/\x.k<100)\/(x.k=23/\x.ps.length=2)
def Ir.wrn{ar:Nm->Nat}{ls:List Nm}{q:Nd}{ch:List (Nm×Nat)}(h:Ir ar ls q)(hc:ch.map Prod.fst=ls):Gl ar ch q:=fun x hx=>by
 rcases h x hx with⟨h1,h2,h3⟩|h|h
 ·exact inl ⟨h1,h2,sC (by rw[hc];exact h3)⟩
 ·exact inr (inl h)
 ·exact inr (inr h)
section
variable {S:Type}{get:S->TS}{put:S->TS->S}{E:S->Value->List Nat->World->Prop}{rb:Nat}
variable {ar:Nm->Nat}{ad:List Nat}{Y:Nat->Prop}{rk:Nat->Nat}{U:TS}{A:Env}{tb yb d:Nat}{gv vv:Value}{w w':World}{nb:Nat}{txt:Nm}
structure FH(ar:Nm->Nat)(m:Mg)(np:Nat):Prop where
 va:Iz ar m.vr
 np:np=m.vr.parts.length
 data:m.vr.data≠[]
 ok:∀x∈m.vr.AE,LH x
 wr:∀q∈m.vr.parts,Ir ar m.vr.AE q
def QB(B:Bes get put E rb)(Ln:∀nm,ar nm<=1000000)(h2:ar bA=2){K M:Nat}{recv:Value}{ex:Nd->Nat->S->Option S}{s0:S}{ps:List Nd}{m:Mg}(h:YM ar ad Y rk (get s0) A tb yb d gv w)(hE:E s0 vv ad w)
  {nbl pbl:List Nat}{a1 a2 a3:Option Addr}{k1 k2 k3:Nat} (n1:w.heap[nb]?=some (.cells #[.int .i64 (14:Nat),.string (bs txt),.slice a3 nbl.length k3] cS (0,0))) (n2:w.ownsRow 0 aH 1 (.slice a3 nbl.length k3) nbl.length (nbl.map aA)) (n3:AB.AD w ps nbl)
  (Sq:w.ownsRow 0 aI 1 (.slice a1 m.vr.AE.length k1) m.vr.AE.length (m.vr.AE.map bM)) (Nf:w.ownsRow 0 aH 1 (.slice a2 pbl.length k2) pbl.length (pbl.map aA)) (Re:AB.AD w m.vr.parts pbl)
  {mb:Nat} (Mp:w.heap[mb]?=some (.cells #[.string (bs m.vr.data),.slice a1 m.vr.AE.length k1,.slice a2 pbl.length k2,.int .i64 m.vr.sibs] pC (0,0)))
  (hg:A.get (1,txt)=some m) (hm:FH ar m ps.length)
  (hX:∀p∈ps,∀bp (Y:Nat->Prop) ad rk s gv vv u want,AB u p bp->YM ar ad Y rk (get s) A tb yb d gv u->E s vv ad u->(get s).given.length+p.sz<=M->want<(get s).nodes.length->Calls prog K #[recv,aA bp,aM ad want] u (RC get E rb ar ad Y A tb yb d gv vv (ex p want s) u))
  (Vw:∀p∈ps,∀want s s',ex p want s=some s'->(get s').given.length<=(get s).given.length+p.sz) (Ro:(get s0).given.length+Nd.sz.szs ps<=M)
  {Q:Ending->World->Prop} (hQ:∀e w',gF get E rb ar ad Y A tb yb d gv vv (iN get put A d txt ps ex s0) w e w'->Q e w') :
  ∃(LT:Nat->Nat->Value->World->Prop) (CO:Value->Nat->Nat->World->Prop),LT w.heap.size 0 (.slice none 0 0) (w.alloc (.map #[] 0)) /\
   (∀cb i v wr,LT cb i v wr->(∃a k c,v=.slice a k c)/\wr.cell? ⟨mb,0,none⟩=some (.string (bs m.vr.data))/\wr.cell? ⟨mb,1,none⟩=some (.slice a1 m.vr.AE.length k1)/\wr.cell? ⟨mb,2,none⟩=some (.slice a2 pbl.length k2)/\wr.cell? ⟨mb,3,none⟩=some (.int .i64 m.vr.sibs)) /\
   (∀cb i v wr own,LT cb i v wr->m.vr.AE[i]?=some own->∃g,a1=some ⟨g,0,none⟩/\wr.cell? ⟨g,i,none⟩=some (.string (bs own))/\g<wr.heap.size/\Calls prog 211 #[aA yb] wr fun e w'=>e=.returned (aA wr.heap.size)/\∃js:List Nat,js.length<=100000000/\w.heap.size<=w'.heap.size/\w'.ownsRow w.heap.size aG 1 v js.length (js.map aA) /\
    ∀v' u2,u2.ownsRow w.heap.size aG 1 v' (js++[wr.heap.size]).length ((js++[wr.heap.size]).map aA)->(w'.alloc (.cells #[.pointer (some ⟨wr.heap.size,0,none⟩)] aG)).grownBy u2 v.ownBlock->(∀g,v'.ownBlock=some g->v.ownBlock=some g\/w'.heap.size<g) ->
     ∃u3,(Instr.mapUpdate NF (.map (some cb)) (.string (bs own)) (aA wr.heap.size)).run prog u2=.ok () u3/\Hid (LT cb (i+1) v' u3)) /\
   (∀cb v wr,LT cb m.vr.AE.length v wr->Hid (CO v cb 0 wr)/\wr.cell? ⟨nb,2,none⟩=some (.slice a3 nbl.length k3)) /\
   (∀v cb i wr,CO v cb i wr->wr.cell? ⟨mb,0,none⟩=some (.string (bs m.vr.data))/\wr.cell? ⟨mb,1,none⟩=some (.slice a1 m.vr.AE.length k1)/\wr.cell? ⟨mb,2,none⟩=some (.slice a2 pbl.length k2)/\wr.cell? ⟨mb,3,none⟩=some (.int .i64 m.vr.sibs)) /\
   (∀v cb i wr,CO v cb i wr->i<ps.length->∃g3 g2 bp bq,a3=some ⟨g3,0,none⟩/\a2=some ⟨g2,0,none⟩/\wr.cell? ⟨g3,i,none⟩=some (aA bp)/\wr.cell? ⟨g2,i,none⟩=some (aA bq)/\g3<wr.heap.size/\g2<wr.heap.size /\
    Calls prog 288 #[aA bq,.map (some cb)] wr fun e wr2=>∃bt,e=.returned (aA bt)/\Calls prog K #[recv,aA bp,aA bt] wr2 fun e wr3=>(e=bE/\Q bE wr3)\/(e=.returned (.tuple #[])/\Hid (CO v cb (i+1) wr3))) /\
   (∀v cb wr,CO v cb ps.length wr->Q (.returned (aA wr.heap.size)) (wr.alloc (.cells #[.string (bs m.vr.data),v,.pointer none,.int .i64 0] aT))):=by
 obtain⟨ch,U',Nl⟩:∃ch U',dG d m.vr.AE (get s0)=(ch,U'):=⟨_,_,rfl⟩;have S8:ch.map Prod.fst=m.vr.AE:=by have:=lW d m.vr.AE (get s0);rw[Nl]at this;exact this
 have Zg:U'.given=(get s0).given:=by have:=(lX d m.vr.AE (get s0)).given;rw[Nl]at this;exact this
 have S9:(ps.zip m.vr.parts).map Prod.fst=ps:=by rw[List.map_fst_zip];rw[hm.np];exact le_refl _
 have hzl:(ps.zip m.vr.parts).length=ps.length:=by rw[List.length_zip,<- hm.np,Nat.min_self]
 have T9:U'.given.length+Nd.sz.szs ((ps.zip m.vr.parts).map Prod.fst)<=M:=by rw[Zg,S9];exact Ro
 have hoT:iN get put A d txt ps ex s0=(iN.go get put ex ch (ps.zip m.vr.parts) (put s0 U')).map fun s'=>(((get s').named m.vr.data (ch.map Prod.snd)).1,put s' ((get s').named m.vr.data (ch.map Prod.snd)).2):=by
  unfold iN;rw[hg];simp only[Nl];cases iN.go get put ex ch (ps.zip m.vr.parts) (put s0 U')<;>rfl
 have Ol:=n3.len;have E4:=Re.len;have P5:m.vr.AE.length<=1000000:=by rw[hm.va.len];exact Ln _
 have Xa:∀{t:TypeId}{a:Option Addr}{c k:Nat}{xs:List Value},w.ownsRow 0 t 1 (.slice a k c) k xs->0<k->∃g,a=some ⟨g,0,none⟩:=fun {t a c k xs} ho hk=>by
  rcases aD ho with⟨h,h0⟩|⟨g,cap,h⟩
  ·omega
  ·cases h;exact⟨g,rfl⟩
 have Xk:∀wr:World,wr.heap[mb]?=w.heap[mb]?->wr.cell? ⟨mb,0,none⟩=some (.string (bs m.vr.data))/\wr.cell? ⟨mb,1,none⟩=some (.slice a1 m.vr.AE.length k1)/\wr.cell? ⟨mb,2,none⟩=some (.slice a2 pbl.length k2)/\wr.cell? ⟨mb,3,none⟩=some (.int .i64 m.vr.sibs):=fun wr he=>by
  refine⟨?_,?_,?_,?_⟩<;>simp[cell?,he,Mp]
 refine⟨fun cb i v wr=>∃l Uk,tN ar ad Y rk A tb yb d gv w m.vr.AE ch U' cb i v wr l Uk,fun v cb i wr=>∃l rk' s gv' vv',yA get put E rb ar ad Y A tb yb d gv vv w ex ch (ps.zip m.vr.parts) (iN.go get put ex ch (ps.zip m.vr.parts) (put s0 U')) M v cb i wr l rk' s gv' vv'/\(∀(k:Nat)(c:Array Value)(t:TypeId)(f:Nat×Nat),w.heap[k]?=some (.cells c t f)->t=aI\/t=cS\/t=aH\/t=pC->wr.heap[k]?=w.heap[k]?),⟨_,_,tN.start h (Kn.refl _ w) Nl⟩,?_,?_,?_,?_,?_,?_⟩
 ·rintro cb i v wr⟨l,Uk,Kl⟩;refine⟨?_,Xk wr (Kl.kn.block mb (aB Mp) fun h=>h)⟩;rcases aD Kl.row with⟨h,_⟩|⟨g,cap,h⟩
  ·exact⟨_,_,_,h⟩
  ·exact⟨_,_,_,h⟩
 ·rintro cb i v wr own⟨l,Uk,Kl⟩ hi;have Lc:=(List.getElem?_eq_some_iff.1 hi).1;obtain⟨g,hg⟩:=Xa Sq (by omega);subst hg;have Jn:wr.ownsRow 0 aI 1 (.slice (some ⟨g,0,none⟩) m.vr.AE.length k1) m.vr.AE.length (m.vr.AE.map bM):=aE Sq fun q c f _ hc=>Kl.kn.block q (aB hc) fun h=>h;refine⟨g,rfl,?_,(Jn.lt g rfl).2,(gB Kl.ym).mono ?_⟩
  ·rw[Jn.cellAt i (by omega),List.getElem?_map,hi];rfl
  ·rintro e w'⟨rfl,rfl⟩;obtain⟨q1,q2,q3,q4⟩:=Kl.step hi (hm.ok own (List.mem_of_getElem? hi)) hm.va.nodup P5
   exact⟨rfl,_,q1,q2,q3,fun v' u2 z1 z2 z3=>by
    obtain⟨u3,y1,y2⟩:=q4 v' u2 z1 z2 z3
    exact⟨u3,y1,aC y2⟩⟩
 ·rintro cb v wr⟨l,Uk,Kl⟩;refine⟨aC ⟨_,_,_,_,_,Kl.co B hE Zg T9,fun k c t f hc _=>Kl.kn.block k (aB hc) fun h=>h⟩,?_⟩;have:wr.heap[nb]?=w.heap[nb]?:=Kl.kn.block nb (aB n1) fun h=>h;simp[cell?,this,n1]
 ·rintro v cb i wr⟨l,rk',s,gv',vv',hc,hb⟩;exact Xk wr (hb mb _ _ _ Mp (by simp))
 ·rintro v cb i wr⟨l,rk',s,gv',vv',hc,hb⟩ hi;have Yk:i<m.vr.parts.length:=by rw[<- hm.np];exact hi
  have Rs:ps[i]?=some ps[i]:=List.getElem?_eq_getElem hi;have Qu:m.vr.parts[i]?=some m.vr.parts[i]:=List.getElem?_eq_getElem Yk
  have hpz:(ps.zip m.vr.parts)[i]?=some (ps[i],m.vr.parts[i]):=by
   rw[List.getElem?_zip_eq_some];exact⟨Rs,Qu⟩
  obtain⟨bp,Kz,Sr⟩:=n3.at Rs;obtain⟨bq,Mf,Ly⟩:=Re.at Qu;obtain⟨g3,rfl⟩:=Xa n2 (by omega);obtain⟨g2,rfl⟩:=Xa Nf (by omega);have J5:wr.ownsRow 0 aH 1 (.slice (some ⟨g3,0,none⟩) nbl.length k3) nbl.length (nbl.map aA):=aE n2 fun q c f _ hc=>hb q c _ f hc (by simp);have Nc:wr.ownsRow 0 aH 1 (.slice (some ⟨g2,0,none⟩) pbl.length k2) pbl.length (pbl.map aA):=aE Nf fun q c f _ hc=>hb q c _ f hc (by simp);have Kj:AB wr ps[i] bp:=AB.kept (fun k c f hc=>hb k c _ f hc (by simp)) (fun k c f hc=>hb k c _ f hc (by simp)) _ _ Sr;have Jy:AB wr m.vr.parts[i] bq:=AB.kept (fun k c f hc=>hb k c _ f hc (by simp)) (fun k c f hc=>hb k c _ f hc (by simp)) _ _ Ly;have B3:=List.mem_of_getElem? Rs;have P1:=List.mem_of_getElem? Qu;refine⟨g3,g2,bp,bq,rfl,rfl,?_,?_,(J5.lt g3 rfl).2,(Nc.lt g2 rfl).2,(hc.chain B Ln h2 (K:=K) (recv:=recv) hpz (fun Y ad rk s gv vv u want=>hX _ B3 bp Y ad rk s gv vv u want) (Vw _ B3) Kj Jy ((hm.wr _ P1).wrn S8) (oT:=iN get put A d txt ps ex s0) (fun e=>by rw[hoT,e];rfl)).mono ?_⟩
  ·rw[J5.cellAt i (by omega),List.getElem?_map,Kz];rfl
  ·rw[Nc.cellAt i (by omega),List.getElem?_map,Mf];rfl
  ·rintro e wr2⟨bt,e1,Nr⟩;refine⟨bt,e1,Nr.mono fun e wr3 hq=>?_⟩;rcases hq with⟨q1,q2⟩|⟨q1,⟨l,rk',s,gv',vv',q2⟩,q3⟩
   ·exact inl ⟨q1,hQ _ _ q2⟩
   ·exact inr ⟨q1,aC ⟨l,rk',s,gv',vv',q2,fun k c t f hc ht=>(q3 k c t f ((hb k c t f hc ht).trans hc) ht).trans (hb k c t f hc ht)⟩⟩
 ·rintro v cb wr⟨l,rk',s,gv',vv',hc,hb⟩;rw[<- hzl]at hc;obtain⟨q1,q2⟩:=hc.fin B h.yok hm.data (by rw[<- hm.va.len,<- S8,length_map]);refine hQ _ _ ?_;rw[hoT,q1];exact q2
end
section
variable {S:Type}{get:S->TS}{put:S->TS->S}{E:S->Value->List Nat->World->Prop}{rb:Nat}
variable {ar:Nm->Nat}{ad:List Nat}{Y:Nat->Prop}{rk:Nat->Nat}{U:TS}{A:Env}{tb yb d:Nat}{gv vv:Value}{w w':World}{nb:Nat}{txt:Nm}
def gF.base(B:Bes get put E rb){o:Option (Nat×S)}{w1:World}{e:Ending}(hk:Kn (fun _=>False) w w1)(ha:gF get E rb ar ad Y A tb yb d gv vv o w1 e w'):gF get E rb ar ad Y A tb yb d gv vv o w e w':=by
 obtain⟨h1,h2⟩:=ha;refine⟨(hk.wide fun _ _ h=>h.elim).trans h1,?_⟩;rcases h2 with h2|⟨t,s',l,rk',gv',vv',a1,a2,a3,a4,a5,a6,a7,a8⟩
 ·exact inl h2
 ·refine inr ⟨t,s',l,rk',gv',vv',a1,a2,a3,a4,a5,fun b hb=>le_trans hk.size (a6 b hb),fun b hb=>?_,fun b hb=>?_⟩
  ·rcases a7 b hb with h|h
   ·exact inl h
   ·exact inr (le_trans hk.size h)
  ·rcases a8 b hb with h|h
   ·exact inl h
   ·exact inr (le_trans hk.size h)
def gF.forms{o:Option (Nat×S)}{e:Ending}(ha:gF get E rb ar ad Y A tb yb d gv vv o w e w'):e=bE\/∃b,e=.returned (aA b):=by
 rcases ha.2 with⟨_,h,_⟩|⟨_,_,_,_,_,_,_,h,_⟩
 ·exact inl h
 ·exact inr ⟨_,h⟩
def WF(B:Bes get put E rb)(Ln:∀nm,ar nm<=1000000)(h2:ar bA=2){K M:Nat}{recv:Value}(HE:aF K){ex:Nd->Nat->S->Option S}{s0:S}{ps:List Nd}{m:Mg}(h:YM ar ad Y rk (get s0) A tb yb d gv w)(hE:E s0 vv ad w)(hn:AB w (.mk 14 txt ps) nb)
  (hx:cL (1,txt)) (hg:A.get (1,txt)=some m) (hm:FH ar m ps.length) (Lu:ps.length<=1000000)
  (hX:∀p∈ps,∀bp (Y:Nat->Prop) ad rk s gv vv u want,AB u p bp->YM ar ad Y rk (get s) A tb yb d gv u->E s vv ad u->(get s).given.length+p.sz<=M->want<(get s).nodes.length->Calls prog K #[recv,aA bp,aM ad want] u (RC get E rb ar ad Y A tb yb d gv vv (ex p want s) u))
  (Vw:∀p∈ps,∀want s s',ex p want s=some s'->(get s').given.length<=(get s).given.length+p.sz) (Ro:(get s0).given.length+Nd.sz.szs ps<=M) :
  Calls prog 262 #[aA yb,aA nb,.func (.func K) #[recv] #[]] w (gF get E rb ar ad Y A tb yb d gv vv (iN get put A d txt ps ex s0) w):=by
 obtain⟨npv,nbl,n1,n2,n3⟩:=hn.inv;have cn1:w.cell? ⟨nb,1,none⟩=some (.string (bs txt)):=by simp[cell?,n1]
 obtain⟨n,f,v0,Ww,Yl,lv,pv,pbl,hv,_,Sq,Nf,Re⟩:=h.vb cn1 hx hg
 have Kt:∀{t:TypeId}{v:Value}{k:Nat}{xs:List Value},w.ownsRow 0 t 1 v k xs->∃a c,v=.slice a k c:=fun {t v k xs} ho=>by
  rcases aD ho with⟨h,h0⟩|⟨g,cap,h⟩
  ·exact⟨none,0,by rw[h,h0]⟩
  ·exact⟨_,cap,h⟩
 obtain⟨a1,k1,rfl⟩:=Kt Sq;obtain⟨a2,k2,rfl⟩:=Kt Nf;obtain⟨a3,k3,rfl⟩:=Kt n2;have hmax1:=bI Sq;have Ol:=n3.len;have E4:=Re.len
 obtain⟨sp,Sw⟩:∃sp,SW ad m.scheme=.pointer sp:=by
  cases m.scheme with
  |none=>exact⟨none,rfl⟩
  |some t=>exact⟨some _,rfl⟩
 rw[Sw]at hv;subst hv;have s9:∃sb:Int,sb=m.vr.sibs:=⟨_,rfl⟩;obtain⟨sb,Wj⟩:=s9;have F2:∃lt:Int,lt=m.AE:=⟨_,rfl⟩;obtain⟨lt,Js⟩:=F2;generalize hS:(fun(u:World)=>u.cell? ⟨yb,0,none⟩=some (.map (some tb))/\u.cell? ⟨nb,1,none⟩=some (.string (bs txt))/\(Instr.lookup dA (.map (some tb)) (.agg #[.int .i64 1,.string (bs txt)]) false).run prog u=.ok (.agg #[.pointer sp,.string (bs m.vr.data),.slice a1 m.vr.AE.length k1,.slice a2 pbl.length k2,.int .i64 sb,.int .i64 lt]) u/\Hid (Kn (fun _=>False) w u))=SS
 have Qg:∀(u:World),Kn (fun _=>False) w u->SS u:=fun u hu=>by
  rw[<- hS];have hnbu:u.heap[nb]?=w.heap[nb]?:=hu.block nb (aB n1) fun h=>h;have o8:VB ar ad Y rk (get s0) A tb yb d gv nb txt n f w u:=⟨hu.wide fun _ _ h=>h.elim,h.stays hu,by simp[cell?,hnbu,n1],Ww.mp.kept (hu.block tb Ww.mp.lt fun h=>h)⟩;obtain⟨q1,q2,q3⟩:=o8.out hx Yl;rw[Wj,Js];exact⟨q1,q2,q3,aC hu⟩
 have Kv:∀u o u',Kn (fun _=>False) w u->u'=World.alloc u o->Kn (fun _=>False) w u':=fun u o u' hu e=>by
  subst e;exact hu.alloc o
 have Mh:∀o2 u',u'=World.alloc (World.drew (World.alloc w (.cells #[.string ⟨#[]⟩,.slice none 0 0,.slice none 0 0,.int .i64 0] 82))) o2->Kn (fun _=>False) w u'/\u'.heap[w.heap.size]?=some (.cells #[.string ⟨#[]⟩,.slice none 0 0,.slice none 0 0,.int .i64 0] pC (0,0)):=fun o2 u' e=>by
  have h1:(World.drew (World.alloc w (.cells #[.string ⟨#[]⟩,.slice none 0 0,.slice none 0 0,.int .i64 0] 82))).heap[w.heap.size]?=some (.cells #[.string ⟨#[]⟩,.slice none 0 0,.slice none 0 0,.int .i64 0] pC (0,0)):=(MapKept.heap_alloc w _).1;refine⟨by subst e;exact(((Kn.refl _ w).alloc _).drew).alloc o2,?_⟩;subst e;rw[Below.heap_alloc _ _ _ (aB h1)];exact h1
 have Jn:∀(u:World)(p:Nat),u.heap[p]?=some (.cells #[.string ⟨#[]⟩,.slice none 0 0,.slice none 0 0,.int .i64 0] pC (0,0))->p<u.heap.size/\u.frozen? ⟨p,0,none⟩=false/\u.frozen? ⟨p,1,none⟩=false/\u.frozen? ⟨p,2,none⟩=false/\u.frozen? ⟨p,3,none⟩=false /\
   u.cell? ⟨p,0,none⟩=some (.string ⟨#[]⟩)/\u.cell? ⟨p,1,none⟩=some (.slice none 0 0)/\u.cell? ⟨p,2,none⟩=some (.slice none 0 0)/\u.cell? ⟨p,3,none⟩=some (.int .i64 0):=fun u p h2=>by
  refine⟨aB h2,frozen_of_row _ _ _ _ _ h2,frozen_of_row _ _ _ _ _ h2,frozen_of_row _ _ _ _ _ h2,frozen_of_row _ _ _ _ _ h2,?_,?_,?_,?_⟩<;>simp[cell?,h2]
 have Ma:∀(u:World)(p:Nat)(v0 v1 v2 v3:Value),Kn (fun _=>False) w u->w.heap.size<=p->Kn (fun _=>False) w ((((u.setCell ⟨p,0,none⟩ v0).setCell ⟨p,1,none⟩ v1).setCell ⟨p,2,none⟩ v2).setCell ⟨p,3,none⟩ v3):=fun u p v0 v1 v2 v3 hu hp=>
  (((hu.set (p:=⟨p,0,none⟩) (inr hp) _).set (p:=⟨p,1,none⟩) (inr hp) _).set (p:=⟨p,2,none⟩) (inr hp) _).set (p:=⟨p,3,none⟩) (inr hp) _
 have A1:∀(u:World)(p:Nat)(v0 v1 v2 v3:Value),u.heap[p]?=some (.cells #[.string ⟨#[]⟩,.slice none 0 0,.slice none 0 0,.int .i64 0] pC (0,0))->((((u.setCell ⟨p,0,none⟩ v0).setCell ⟨p,1,none⟩ v1).setCell ⟨p,2,none⟩ v2).setCell ⟨p,3,none⟩ v3).heap[p]?=some (.cells #[v0,v1,v2,v3] pC (0,0)):=fun u p v0 v1 v2 v3 hu=>by
  have e1:=heap_setCell_same _ p 0 _ _ v0 hu;have e2:=heap_setCell_same _ p 1 _ _ v1 e1;have e3:=heap_setCell_same _ p 2 _ _ v2 e2;have e4:=heap_setCell_same _ p 3 _ _ v3 e3;rw[e4];rfl
 have Uq:∀u o,Kn (fun _=>False) w u->Kn (fun _=>False) w (World.alloc u o):=fun u o hu=>hu.alloc o;have Qp:∀o,Kn (fun _=>False) w (World.drew (World.alloc w o)):=fun o=>((Kn.refl _ w).alloc o).drew;have P6:∀u,Kn (fun _=>False) w u->w.heap.size<=u.heap.size:=fun u hu=>hu.size;have hK:=fun(u:World)=>lY (bs txt) u
 have Pr:=fun(w1:World) (mb:Nat) (hk:Kn (fun _=>False) w w1) (Mp:w1.heap[mb]?=some (.cells #[.string (bs m.vr.data),.slice a1 m.vr.AE.length k1,.slice a2 pbl.length k2,.int .i64 m.vr.sibs] pC (0,0)))=>
  QB (w:=w1) B Ln h2 (K:=K) (recv:=recv) (h.stays hk) (by have:=B.keep [] (get s0) hE hk rfl;rw[B.pg,append_nil]at this;exact this) ((hk.block nb (aB n1) fun h=>h).trans n1) (aE n2 fun q c f _ hc=>hk.block q (aB hc) fun h=>h) (n3.kept (fun k c f hc=>hk.block k (aB hc) fun h=>h) (fun k c f hc=>hk.block k (aB hc) fun h=>h))
   (aE Sq fun q c f _ hc=>hk.block q (aB hc) fun h=>h) (aE Nf fun q c f _ hc=>hk.block q (aB hc) fun h=>h) (Re.kept (fun k c f hc=>hk.block k (aB hc) fun h=>h) (fun k c f hc=>hk.block k (aB hc) fun h=>h)) Mp hg hm hX Vw Ro (Q:=gF get E rb ar ad Y A tb yb d gv vv (iN get put A d txt ps ex s0) w) (fun e w' ha=>gF.base B hk ha)
 have Nt:=fun(s:ByteArray) (a:Option Addr) (n c:Nat) (w:World)=>gE s a n c w;have O8:∀u:World,(Instr.makeMap NF none).run prog u=.ok (.map (some u.heap.size)) (u.alloc (.map #[] 0)):=fun _=>rfl;have V5:=fun(args:Array Value) (w:World)=>HE args w;have N9:pbl.length=ps.length:=by rw[E4,hm.np]
 have U5:Kn (fun _=>False) w w.drew:=(Kn.refl _ _).drew;rw[<- Wj,Ol,N9]at Pr;rw[N9]at hS;have Mi:=aC U5;have HK:=aC hK;have Ni:=aC Kv;have Y2:=aC Mh;have Ya:=aC Jn;have Oo:=aC Uq;have Qq:=aC Qp;have X5:=aC P6;have HLE:=aC (le_refl w.heap.size);have Zr:=aC Ma;have C9:=aC A1;have HO:=aC Qg;have X8:=aC Pr;have Sv:=aC Nt;clear U5 hK Kv Mh Uq Qp P6 Jn Ma A1 Qg Pr Nt Ww Yl Sq Nf Re n1 n2 n3 hn hX Vw Ro HE hE h hm hx hg B Ln h2 Ol E4 N9 Wj Js Kt cn1;generalize gF get E rb ar ad Y A tb yb d gv vv (iN get put A d txt ps ex s0) w=Q at *;generalize Kn (fun _=>False) w=V at *;generalize bs txt=tx at *;generalize bs m.vr.data=dt at *;generalize hln:m.vr.AE.length=ln at *;generalize A6:ps.length=pn at *;unfold bE bQ aA at *;have T0:=fun u=>vE sp dt a1 ln k1 a2 pn k2 sb lt u;subst hS;obtain⟨c0a,c1a,lka,_⟩:=HO.out _ Mi.out;go_enter func262,ntmps262;go_wp2_with fail
 go_region_held3 (fun w'=>w'.cell? ⟨yb,0,none⟩=some (.map (some tb))/\w'.cell? ⟨nb,1,none⟩=some (.string tx)/\(Instr.lookup dA (.map (some tb)) (.agg #[.int .i64 1,.string tx]) false).run prog w'=.ok (.agg #[.pointer sp,.string dt,.slice a1 ln k1,.slice a2 pn k2,.int .i64 sb,.int .i64 lt]) w'/\Hid (V w'))
  (first|with_reducible exact⟨c0a,c1a,lka,Mi⟩|with_reducible exact HO.out _ (Oo.out _ _ Mi.out)|with_reducible exact HO.out _ (Qq.out _)|with_reducible exact HO.out _ (Zr.out _ _ _ _ _ _ Mi.out HLE.out)|with_reducible exact HO.out _ (Zr.out _ _ _ _ _ _ (Oo.out _ _ Mi.out) (X5.out _ Mi.out)))
  (first|(go_at_call 25;refine(HK.out _).mono ?_;rintro e u⟨rfl,hu⟩;(first|have Mi:=aC (Ni.out _ _ _ Mi.out hu)|(obtain⟨hvu,Sg⟩:=Y2.out _ _ hu;have Mi:=aC hvu;have HRW:=aC Sg;obtain⟨Ud,f0u,f1u,f2u,f3u,m0u,m1u,m2u,m3u⟩:=Ya.out _ _ Sg;clear hvu Sg));obtain⟨c0a,c1a,lka,_⟩:=HO.out _ Mi.out;clear hu))
 all_goals
  first
  |(obtain⟨w1,My⟩:∃w1,w1=World.alloc u (.cells #[.string dt,.slice a1 ln k1,.slice a2 pn k2,.int .i64 sb] 82):=⟨_,rfl⟩
    rw[<- My];have Sm:V w1:=by rw[My];exact Oo.out _ _ Mi.out
    have Mp:w1.heap[u.heap.size]?=some (.cells #[.string dt,.slice a1 ln k1,.slice a2 pn k2,.int .i64 sb] pC (0,0)):=by rw[My];exact(MapKept.heap_alloc u _).1
    generalize u.heap.size=mb at *)
  |(obtain⟨w1,My⟩:∃w1,w1=((((u.setCell ⟨w.heap.size,0,none⟩ (.string dt)).setCell ⟨w.heap.size,1,none⟩ (.slice a1 ln k1)).setCell ⟨w.heap.size,2,none⟩ (.slice a2 pn k2)).setCell ⟨w.heap.size,3,none⟩ (.int .i64 sb)):=⟨_,rfl⟩
    rw[<- My];have Sm:V w1:=by rw[My];exact Zr.out _ _ _ _ _ _ Mi.out HLE.out
    have Mp:w1.heap[w.heap.size]?=some (.cells #[.string dt,.slice a1 ln k1,.slice a2 pn k2,.int .i64 sb] pC (0,0)):=by rw[My];exact C9.out _ _ _ _ _ _ HRW.out
    generalize w.heap.size=mb at *)
  obtain⟨LT,CO,h0,Yi,Nl,hlc,Xo,Rh,hcf⟩:=X8.out w1 mb Sm Mp;have Ut:=aC h0;have j6:=aC Yi;have HLS:=aC Nl;have HLC:=aC hlc;have k5:=aC Xo;have j9:=aC Rh;have k7:=aC hcf;have hmbl:mb<w1.heap.size:=aB Mp;clear h0 Yi Nl hlc Xo Rh hcf My X8 HO Zr C9 X5 Oo Qq Ya Y2 Ni HK Mi c0a c1a lka HLE Sm Mp;obtain⟨_,d0,d1,d2,d3⟩:=j6.out _ _ _ _ Ut.out;go_wp2_with fail
  go_loopg [8,30] ln (fun gk v8 v30 wr=>∃i,v30=.int .i64 (i:Nat)/\i+gk=ln/\Hid (LT w1.heap.size i v8 wr))
  case atStart=>exact⟨0,rfl,by omega,Ut⟩
  case round=>
   clear Ut d0 d1 d2 d3;obtain⟨i,rfl,hi,Ut⟩:=hrel;obtain⟨⟨av,kv,cv,rfl⟩,d0,d1,d2,d3⟩:=j6.out _ _ _ _ Ut.out
   by_cases Js:i<ln
   ·have Lc:i<m.vr.AE.length:=by omega
    have hp:m.vr.AE[i]?=some m.vr.AE[i]:=List.getElem?_eq_getElem Lc;generalize m.vr.AE[i]=own at hp;obtain⟨g,rfl,Kh,Qo,hc⟩:=HLS.out _ _ _ _ own Ut.out hp;have HC:=aC hc;have Jt:(i:Int)<(ln:Int):=by omega
    clear hc hp Ut j6 HLS HLC k5 j9 k7 Sv d0 d1 d2 d3;generalize bs own=ow at *;go_wp2_with fail;refine(HC.out).mono ?_;rintro e wr2⟨rfl,js,Mc,Ke,Jr,Oa⟩;have Rq:=aC Oa;clear Oa HC
    go_wp2_with (at_builtin;refine pV rfl _ _ rfl wr.heap.size Jr Mc Ke rfl rfl ?_)
    intro v' u2 ho G7 HL;have ho:u2.ownsRow w1.heap.size aG 1 v' (js++[wr.heap.size]).length ((js++[wr.heap.size]).map aA):=by rw[length_append,map_append];exact ho
    obtain⟨u3,Qd,HF⟩:=Rq.out v' u2 ho G7 HL.out;clear G7 HL Rq Jr
    obtain⟨g',cap',rfl⟩:∃g' cap',v'=.slice (some ⟨g',0,none⟩) (js++[wr.heap.size]).length cap':=by
     rcases aD ho with⟨_,Ou⟩|h
     ·simp at Ou
     ·exact h
    clear ho;generalize (js++[wr.heap.size]).length=jn at *;go_wp2_with fail
    go_roundg (ln-(i+1))
    case rel=>exact⟨i+1,by simp,by omega,HF⟩
    case measure=>omega
   ·have Kg:i=ln:=by omega
    subst Kg;have Jt:¬(i:Int)<(i:Int):=by omega
    obtain⟨Uf,cnp⟩:=HLC.out _ _ _ Ut.out;clear Ut j6 HLS HLC;go_wp2_with fail
    go_loopg [49] pn (fun gk v49 wr=>∃i,v49=.int .i64 (i:Nat)/\i+gk=pn/\Hid (CO (.slice av kv cv) w1.heap.size i wr))
    case atStart=>exact⟨0,rfl,by omega,Uf⟩
    case round=>
     clear Uf d0 d1 d2 d3 cnp;obtain⟨j,rfl,hj,Uf⟩:=hrel;obtain⟨d0,d1,d2,d3⟩:=k5.out _ _ _ _ Uf.out
     by_cases hlj:j<pn
     ·obtain⟨g3,g2,bp,bq,rfl,rfl,c3,c2,l3,l2,hc⟩:=j9.out _ _ _ _ Uf.out hlj;have HC:=aC hc;have Jt:(j:Int)<(pn:Int):=by omega
      clear hc Uf k5 j9 k7 Sv;go_wp2_with fail;refine(HC.out).mono ?_;rintro e wr2⟨bt,rfl,Nr⟩;have Tx:=aC Nr;clear Nr HC;go_wp2_with fail;refine(Tx.out).mono ?_;rintro e wr3 (⟨rfl,hq⟩|⟨rfl,Ue⟩)
      ·exact⟨rfl,hq⟩
      ·clear Tx;go_wp2_with fail
       go_roundg (pn-(j+1))
       case rel=>exact⟨j+1,by simp,by omega,Ue⟩
       case measure=>omega
     ·have F9:j=pn:=by omega
      subst F9;have hlt4:¬(j:Int)<(j:Int):=by omega
      have HG:=aC (k7.out _ _ _ Uf.out);have Tw:=aC (Sv.out dt av kv cv wr);clear Uf k5 j9 k7 Sv;go_wp2_with fail;refine(Tw.out).mono ?_;rintro e w3⟨rfl,rfl⟩;clear Tw;go_wp2;exact HG.out
end
abbrev nJ:TypeId:=311
abbrev cF:TypeId:=49
def mH:prog.underlying 42=some (.slice cF):=by kernel_rfl
def Bb:(prog.info? cF).map (fun i=>(i.zero,i.size,i.bytes))=some (some (.agg #[.string ⟨#[]⟩,.pointer none]),2,24):=by kernel_rfl
def uA{w:World}{base:Nat}{v:Value}{n:Nat}{xs:List Value}{ty:TypeId}(s:ByteArray)(k:Nat)(Jr:w.ownsRow base cF 2 v n xs)(hn:n<=100000000)(hb:base<=w.heap.size) :
  ∃v' w',(Builtin.append_ #[42,42] ty #[v,.slice (some ⟨w.heap.size,0,none⟩) 1 1]).run prog (w.alloc (.cells #[.string s,.pointer (some ⟨k,0,none⟩)] cF))=.ok v' w' /\
   w'.ownsRow base cF 2 v' (n+1) (xs++[.string s,aA k])/\(w.alloc (.cells #[.string s,.pointer (some ⟨k,0,none⟩)] cF)).grownBy w' v.ownBlock/\(∀g,v'.ownBlock=some g->v.ownBlock=some g\/w.heap.size<g)/\∃g cap,v'=.slice (some ⟨g,0,none⟩) (n+1) cap:=by
 obtain⟨i0,hi,Og,Lz,Nj⟩:=info_parts Bb;have Ll:=Jr.alloc (.cells #[.string s,.pointer (some ⟨k,0,none⟩)] cF);have Ks:∀j u,[string s,pointer (some ⟨k,0,none⟩)][j]?=some u->(w.alloc (.cells #[.string s,.pointer (some ⟨k,0,none⟩)] cF)).cell? ((⟨w.heap.size,0,none⟩:Addr).add j)=some u:=fun j u hj=>fK rfl (by simpa using hj)
 have h1:∀u∈[string s,pointer (some ⟨k,0,none⟩)],u.oneCell'=true:=by
  intro u hu;simp at hu;rcases hu with rfl|rfl<;>rfl
 obtain⟨v',w',hr,Nf,Pe,_⟩:=run_append_own (P:=prog) (w.alloc (.cells #[.string s,.pointer (some ⟨k,0,none⟩)] cF)) base 42 ty cF i0 (.agg #[.string ⟨#[]⟩,.pointer none]) 2 24 mH hi Og Lz Nj rfl (by decide) v n xs Ll ⟨w.heap.size,0,none⟩ 1 1 [.string s,.pointer (some ⟨k,0,none⟩)] rfl Ks h1 (by unfold maxLen;omega) (by omega) (by simp;omega);refine⟨v',w',hr,Nf,Pe,?_,?_⟩
 ·intro g Oy;rcases Ll.2 with⟨rfl,Ou⟩|⟨g0,cap,cur,rfl,Wo,hg,Wk,Xo,Rh,Oz⟩
  ·have h:=run_append_nil (P:=prog) (w.alloc (.cells #[.string s,.pointer (some ⟨k,0,none⟩)] cF)) 42 ty cF i0 (.agg #[.string ⟨#[]⟩,.pointer none]) mH hi Og ⟨w.heap.size,0,none⟩ 1 1 [.string s,.pointer (some ⟨k,0,none⟩)] (by rw[Lz];rfl) Ks (by omega) (by omega) (by rw[Nj];omega);rw[hr]at h;simp only[Result.ok.injEq]at h;rw[h.1]at Oy;simp[ownBlock]at Oy;omega
  ·by_cases Pa:n+1<=cap
   ·have h:=run_append_room (P:=prog) (w.alloc (.cells #[.string s,.pointer (some ⟨k,0,none⟩)] cF)) 42 ty cF i0 mH hi g0 n cap cur hg ⟨w.heap.size,0,none⟩ 1 1 [.string s,.pointer (some ⟨k,0,none⟩)] (by rw[Lz];rfl) Ks h1 Pa (by rw[Rh,Lz];simp only[length_cons,length_nil];omega);rw[hr]at h;simp only[Result.ok.injEq]at h;rw[h.1]at Oy;exact inl Oy
   ·have h:=run_append_grow (P:=prog) (w.alloc (.cells #[.string s,.pointer (some ⟨k,0,none⟩)] cF)) 42 ty cF i0 (.agg #[.string ⟨#[]⟩,.pointer none]) mH hi Og ⟨g0,0,none⟩ n cap xs (by rw[Lz];exact Jr.1) (Ll.cells (g:=g0) rfl) ⟨w.heap.size,0,none⟩ 1 1 [.string s,.pointer (some ⟨k,0,none⟩)] (by rw[Lz];rfl) Ks (by omega) (by omega) (growslice_fits (by omega) (by rw[Nj];omega));rw[hr]at h;simp only[Result.ok.injEq]at h;rw[h.1]at Oy;simp[ownBlock]at Oy;omega
 ·rcases aD Nf with⟨_,Ou⟩|h
  ·simp at Ou
  ·exact h
def cK(ad:List Nat):List (Nm×Nat)->List Value
 |[]=>[]
 |x::r=>.string (bs x.1)::aM ad x.2::cK ad r
def oO(ad:List Nat)(x:Nm×Nat):∀vs,cK ad (vs++[x])=cK ad vs++[.string (bs x.1),aM ad x.2]:=by
 intro vs
 induction vs with
 |nil=>rfl
 |cons y r ih=>simp[cK,ih]
def mD{ad:List Nat}(l:List Nat):∀{vs:List (Nm×Nat)},(∀x∈vs,x.2<ad.length)->cK (ad++l) vs=cK ad vs:=by
 intro vs
 induction vs with
 |nil=>intro _;rfl
 |cons y r ih=>
  intro h;rw[cK,cK,ih fun x hx=>h x (mem_cons_of_mem _ hx),eF l (h y (mem_cons_self ..))]
def tE{ad:List Nat}:∀{vs:List (Nm×Nat)}{i:Nat}{x:Nm×Nat},vs[i]?=some x->(cK ad vs)[i*2]?=some (.string (bs x.1))/\(cK ad vs)[i*2+1]?=some (aM ad x.2):=by
 intro vs
 induction vs with
 |nil=>intro i x h;simp at h
 |cons y r ih=>
  intro i x h
  cases i with
  |zero=>simp at h;subst h;simp[cK]
  |succ i=>
   have:=ih (i:=i) (x:=x) (by simpa using h);rw[show (i+1)*2=i*2+1+1 by omega,cK]
   simpa using this
def EP(c rb yb:Nat)(s:TS×List (Nm×Nat))(v:Value)(ad:List Nat)(w:World):Prop:=
 w.heap[rb]?=some (.cells #[aA yb,v] nJ (0,0))/\w.ownsRow 0 cF 2 v s.2.length (cK ad s.2)/\(∀x∈s.2,x.2<ad.length)/\s.2.length<=s.1.given.length+c
def EP.stays{c rb yb:Nat}{s:TS×List (Nm×Nat)}{v:Value}{ad:List Nat}{w w':World}{D:Nat->Prop}(h:EP c rb yb s v ad w)(l:List Nat){τ:TS}{c':Nat}(hk:Kn D w w')(hD:∀k,D k->k≠rb/\v.ownBlock≠some k)(hg:s.1.given.length+c<=τ.given.length+c'):EP c' rb yb (τ,s.2) v (ad++l) w':=by
 obtain⟨h1,h2,h3,h4⟩:=h;refine⟨(hk.block rb (aB h1) fun hd=>(hD rb hd).1 rfl).trans h1,?_,fun x hx=>by rw[length_append];have:=h3 x hx;omega,by show s.2.length<=τ.given.length+c';omega⟩;rw[mD l h3];exact aE h2 fun q c f hq hc=>hk.block q (aB hc) fun hd=>(hD q hd).2 hq
def EP.bes(c rb yb:Nat):Bes (S:=TS×List (Nm×Nat)) Prod.fst (fun s τ=>(τ,s.2)) (EP c rb yb) rb where
 gp _ _:=rfl
 pg _:=rfl
 keep l τ h hk hg:=h.stays l hk (fun _ hf=>hf.elim) (by rw[hg];exact le_refl _)
 cel h hc ht:=by
  obtain⟨h1,h2,_,_⟩:=h;refine⟨fun e=>?_,fun e=>?_⟩
  ·subst e;rw[h1]at hc;have:=aN hc;rcases ht with rfl|rfl|rfl|rfl|rfl<;>exact absurd this (by decide)
  ·obtain⟨c2,h3⟩:=dV h2 e;rw[hc]at h3;have:=aN h3;rcases ht with rfl|rfl|rfl|rfl|rfl<;>exact absurd this (by decide)
 mp h hc:=by
  obtain⟨h1,h2,_,_⟩:=h;refine⟨fun e=>?_,fun e=>?_⟩
  ·subst e;rw[h1]at hc;cases hc
  ·obtain⟨c2,h3⟩:=dV h2 e;rw[hc]at h3;cases h3
def EX(yb:Nat)(_:TS)(v:Value)(_:List Nat)(w:World):Prop:=v=.slice none 0 0/\∃c,w.heap[yb]?=some (.cells c cV (0,0))
def EX.bes(yb:Nat):Bes (S:=TS) id (fun _ τ=>τ) (EX yb) yb where
 gp _ _:=rfl
 pg _:=rfl
 keep l τ h hk _:=by
  obtain⟨h1,c,h2⟩:=h;exact⟨h1,c,(hk.block yb (aB h2) fun hf=>hf).trans h2⟩
 cel h hc ht:=by
  obtain⟨rfl,c,h2⟩:=h;refine⟨fun e=>?_,by simp[ownBlock]⟩;subst e;rw[h2]at hc;have:=aN hc;rcases ht with rfl|rfl|rfl|rfl|rfl<;>exact absurd this (by decide)
 mp h hc:=by
  obtain⟨rfl,c,h2⟩:=h;refine⟨fun e=>?_,by simp[ownBlock]⟩;subst e;rw[h2]at hc;cases hc
section
variable {ar:Nm->Nat}{ad:List Nat}{Y:Nat->Prop}{rk:Nat->Nat}{s:TS×List (Nm×Nat)}{A:Env}{tb yb d:Nat}{gv vv:Value}{w w':World}{nb:Nat}{txt:Nm}{rb c:Nat}
def EP.CD(he:EP c rb yb s vv ad w){U:TS}(h:YM ar ad Y rk U A tb yb d gv w){k:Nat}(hd:Dm ad tb yb gv k):k≠rb/\vv.ownBlock≠some k:=by
 obtain⟨h1,h2,_,_⟩:=he;refine⟨fun e=>?_,fun e=>?_⟩
 ·subst e;exact h.AU h1 (by decide) (by decide) (by decide) hd
 ·obtain⟨c2,h3⟩:=dV h2 e;exact h.AU h3 (by decide) (by decide) (by decide) hd
def oC(o:Option (Nat×(TS×List (Nm×Nat))))(want:Nat):Option (TS×List (Nm×Nat)):=o.bind fun r=>((r.2.1.give r.1).AO r.1 want).map (·,r.2.2)
def EP.cell0(he:EP c rb yb s vv ad w):w.cell? ⟨rb,0,none⟩=some (aA yb):=by simp[cell?,he.1]
def EP.AL(he:EP c rb yb s vv ad w):w.cell? ⟨rb,1,none⟩=some vv:=by simp[cell?,he.1]
def uU.trans{l:List Nat}{gv' vv':Value}(hl:∀b∈l,w.heap.size<=b)(hg:∀b,gv'.ownBlock=some b->gv.ownBlock=some b\/w.heap.size<=b)(hv:∀b,vv'.ownBlock=some b->vv.ownBlock=some b\/w.heap.size<=b){k:Nat}(hk:k<w.heap.size)(hd:uU (ad++l) tb yb gv' rb vv' k):uU ad tb yb gv rb vv k:=by
 rcases hd with(hd|hd|hd|hd)|hd|hd
 ·rcases mem_append.1 hd with hd|hd
  ·exact inl (inl hd)
  ·have:=hl k hd;omega
 ·exact inl (inr (inl hd))
 ·exact inl (inr (inr (inl hd)))
 ·rcases hg k hd with h1|h1
  ·exact inl (inr (inr (inr h1)))
  ·omega
 ·exact inr (inl hd)
 ·rcases hv k hd with h1|h1
  ·exact inr (inr h1)
  ·omega
def uB(Ln:∀nm,ar nm<=1000000){o:Option (Nat×(TS×List (Nm×Nat)))}{want:Nat}(hb:∀t s',o=some (t,s')->s'.1.given.length<=100000000)(h:YM ar ad Y rk s.1 A tb yb d gv w)(hw:want<s.1.nodes.length){u:World}(hu:Kn (fun _=>False) w u)
  (hP:Calls prog 319 #[aA rb,aA nb] u (gF Prod.fst (EP 1 rb yb) rb ar ad Y A tb yb d gv vv o u)) :
  Calls prog 319 #[aA rb,aA nb] u fun e u2=>(e=bE/\RC Prod.fst (EP 0 rb yb) rb ar ad Y A tb yb d gv vv (oC o want) w bE u2)\/∃b,e=.returned (aA b)/\u2.cell? ⟨rb,0,none⟩=some (aA yb)/\Calls prog 209 #[aA yb,aA b] u2 fun e u3=>
   e=.returned (aA b)/\u3.cell? ⟨rb,0,none⟩=some (aA yb)/\Calls prog 160 #[aA b,aM ad want] u3 fun e u4=>∃v,e=.returned (.bool v)/\u4.cell? ⟨rb,0,none⟩=some (aA yb) /\
    (v=false->RC Prod.fst (EP 0 rb yb) rb ar ad Y A tb yb d gv vv (oC o want) w bE u4)/\(v=true->RC Prod.fst (EP 0 rb yb) rb ar ad Y A tb yb d gv vv (oC o want) w (.returned (.tuple #[])) u4):=by
 refine hP.mono fun e u2 ha=>?_;obtain⟨Jy,ha⟩:=ha;have F7:Kn (uU ad tb yb gv rb vv) w u2:=(hu.wide fun _ _ h=>h.elim).trans Jy;rcases ha with⟨a1,a2,a3⟩|⟨t,s',l,rk',gv',vv',a1,a2,a3,a4,a5,a6,a7,a8⟩
 ·exact inl ⟨a2,F7,inl ⟨by rw[a1];rfl,rfl,a3⟩⟩
 have q9:w.heap.size<=u.heap.size:=hu.size;have b6:∀b∈l,w.heap.size<=b:=fun b hb=>le_trans q9 (a6 b hb);have b7:∀b,gv'.ownBlock=some b->gv.ownBlock=some b\/w.heap.size<=b:=fun b hb=>(a7 b hb).imp id (le_trans q9);have b8:∀b,vv'.ownBlock=some b->vv.ownBlock=some b\/w.heap.size<=b:=fun b hb=>(a8 b hb).imp id (le_trans q9);have Tj:∀{k},k<w.heap.size->uU (ad++l) tb yb gv' rb vv' k->uU ad tb yb gv rb vv k:=fun hk hd=>uU.trans b6 b7 b8 hk hd;refine inr ⟨bH (ad++l) t,a2,a5.cell0,(zQ a4 a3 (hb t s' a1)).mono fun e u3 hg=>?_⟩;rcases hg.cases with⟨q1,_⟩|⟨t3,U3,l3,rk3,gv3,q1,q2,q3,q4,q5⟩
 ·cases q1
 obtain⟨rfl,rfl⟩:t=t3/\s'.1.give t=U3:=by
  have:=Option.some.inj q1;exact⟨congrArg Prod.fst this,congrArg Prod.snd this⟩
 have F4:l3=[]:=by
  have h1:=q4.len;have h2:=a4.len;have:(s'.1.give t).nodes.length=s'.1.nodes.length:=rfl;rw[length_append]at h1;exact List.length_eq_zero_iff.1 (by omega)
 subst F4;rw[append_nil]at q2 q4
 have V6:EP 0 rb yb (s'.1.give t,s'.2) vv' (ad++l) u3:=by
  have:=a5.stays [] (τ:=s'.1.give t) (c':=0) q5.kn (fun k hd=>a5.CD a4 hd) (by simp[TS.give]);rw[append_nil]at this;exact this
 have Le:Kn (uU ad tb yb gv rb vv) w u3:=F7.trans' (q5.kn.wide fun _ _ hd=>inl hd) fun k hk hd=>Tj hk hd
 have Nx:want<(s'.1.give t).nodes.length:=by
  have h1:=q4.len;have h2:=h.len;rw[length_append]at h1;omega
 have hU:=tL Ln q4 (a:=t) (b:=want) q3 Nx;rw[eF (i:=want) l (by rw[h.len];exact hw)]at hU;refine⟨q2,V6.cell0,hU.mono ?_⟩;rintro e u4 (⟨rfl,r1,r2,r3⟩|⟨U6,rk6,rfl,r1,r2,r3,r4⟩)
 ·have Mr:Kn (uU ad tb yb gv rb vv) w u4:=Le.trans' r2 fun k hk hd=>Tj hk (inl (inl hd));refine⟨false,rfl,?_,fun _=>⟨Mr,inl ⟨?_,rfl,r3⟩⟩,fun e=>by cases e⟩
  ·have:=V6.stays [] (τ:=s'.1.give t) (c':=0) r2 (fun k hd=>V6.CD q4 (inl hd)) (le_refl _);exact this.cell0
  ·unfold oC;rw[a1,Option.bind_some];simp only[r1];rfl
 ·have hgv6:U6.given=(s'.1.give t).given:=by
   have r1:=r1;unfold TS.AO at r1;obtain⟨r,hr,rfl⟩:=map_eq_some_iff.1 r1;exact(mI _ _ _ _ _ _ _ hr).1.given
  have hE4:=V6.stays [] (τ:=U6) (c':=0) r3 (fun k hd=>V6.CD q4 (inl hd)) (by rw[hgv6];exact le_refl _);rw[append_nil]at hE4;have Mr:Kn (uU ad tb yb gv rb vv) w u4:=Le.trans' r3 fun k hk hd=>Tj hk (inl (inl hd));refine⟨true,rfl,hE4.cell0,(fun e=>by cases e),fun _=>⟨Mr,inr ⟨(U6,s'.2),l,rk6,gv3,vv',?_,rfl,r4,hE4,b6,fun b hb=>?_,b8⟩⟩⟩
  ·unfold oC;rw[a1,Option.bind_some];simp only[r1];rfl
  ·rcases q5.giv b hb with h1|h1
   ·exact b7 b h1
   ·exact inr (le_trans F7.size h1)
def GO(Ln:∀nm,ar nm<=1000000){o:Option (Nat×(TS×List (Nm×Nat)))}{want:Nat}(hb:∀t s',o=some (t,s')->s'.1.given.length<=100000000)(h:YM ar ad Y rk s.1 A tb yb d gv w)(he:EP 0 rb yb s vv ad w)(hw:want<s.1.nodes.length)
  (hP:∀u,Kn (fun _=>False) w u->Calls prog 319 #[aA rb,aA nb] u (gF Prod.fst (EP 1 rb yb) rb ar ad Y A tb yb d gv vv o u)) :
  Calls prog 309 #[aA rb,aA nb,aM ad want] w (RC Prod.fst (EP 0 rb yb) rb ar ad Y A tb yb d gv vv (oC o want) w):=by
 have hc:=fun u hu=>uB (want:=want) Ln hb h hw hu (hP u hu);have Nh:=hc _ (Kn.AH w);have c0a:w.drew.cell? ⟨rb,0,none⟩=some (aA yb):=he.cell0;have Lt:=aC Nh;have HN:=aC lS;clear hc Nh hP h he hb hw Ln;generalize RC Prod.fst (EP 0 rb yb) rb ar ad Y A tb yb d gv vv (oC o want) w=Q at *;unfold bE bQ aM aA at *;generalize bH ad want=bw at *;go_enter func309,ntmps309;go_wp2_with fail
 go_region_held2 (fun w'=>w'.cell? ⟨rb,0,none⟩=some (.pointer (some ⟨yb,0,none⟩))) (exact c0a) (first|(go_at_call 319;refine(Lt.out).mono ?_;rintro e u2 (⟨rfl,hp⟩|⟨b,rfl,c0a,hc⟩);(focus (exact⟨rfl,hp⟩));have HC:=aC hc;clear hc)|(go_at_call 209;refine(HC.out).mono ?_;rintro e u3⟨rfl,c0a,hc⟩;have HU:=aC hc;clear hc)|(go_at_call 160;refine(HU.out).mono ?_;rintro e u4⟨v,rfl,c0a,Lg,Lp⟩;have Me:=aC Lg;have Lq:=aC Lp;clear Lg Lp)|(go_at_call 76;refine(HN.out _ _).mono ?_;rintro e u5⟨rfl,⟨hv,rfl⟩|⟨hv,rfl⟩⟩;(focus (exact⟨rfl,Me.out hv⟩));have HG:=aC (Lq.out hv);clear Me Lq))
 all_goals
  go_wp2;refine bodyPost_end (v:=.tuple #[]) (by simp[results,results309,go_sem]) rfl HG.out
end
def tC(t x:List UInt8):((bs t).toList==x)=(t==x):=by rw[ByteArray.toList_eq,dD]
section
variable {ar:Nm->Nat}{ad:List Nat}{Y:Nat->Prop}{rk:Nat->Nat}{U:TS}{A:Env}{tb yb d:Nat}{gv:Value}{w w':World}{nb:Nat}{txt:Nm}
def tB{k g cap ba bb:Nat}{oa:Option TS}{ob:TS->Option TS}(hi:ar eI=0)(I2:ar dZ=0)(h:YM ar ad Y rk U A tb yb d gv w)(hp:dH nb k txt g cap [ba,bb] w)
  (hA:∀u,Kn (Dm ad tb yb gv) w u->YM ar (ad++[w.heap.size]) Y rk (U.named eI []).2 A tb yb d gv u->Calls prog 113 #[aA yb,aA ba,aM (ad++[w.heap.size]) U.nodes.length] u (cR ar (ad++[w.heap.size]) Y A tb yb d gv oa u))
  (hB:∀u U' l rk' gv',Kn (Dm ad tb yb gv) w u->oa=some U'->YM ar (ad++l) Y rk' (U'.named eI []).2 A tb yb d gv' u->Calls prog 113 #[aA yb,aA bb,aM (ad++l) U'.nodes.length] u (cR ar (ad++l) Y A tb yb d gv' (ob U') u)) :
  Calls prog 267 #[aA yb,aA nb] w (aJ ar ad Y A tb yb d gv (kL (decide (txt=[61]\/txt=[60])) oa ob) w):=by
 have Nh:=JK hi I2 h hp (decide (txt=[61]\/txt=[60])) hA hB w.drew (Kn.AH w) rfl;have Lt:=aC Nh;have L7:=aC Kn.AH;have Yt:((bs txt).toList==[61])=(txt==[61]):=tC txt [61];have Oq:((bs txt).toList==[60])=(txt==[60]):=tC txt [60];clear Nh hi I2 h hp hA hB;generalize aJ ar ad Y A tb yb d gv (kL (decide (txt=[61]\/txt=[60])) oa ob) w=Q at *;unfold bE bQ Two aA at *;go_enter func267,ntmps267;go_wp2_with fail;obtain⟨⟨c1a,c2a,c3a⟩,hu⟩:=Lt.out;have HU:=aC hu;clear hu Lt
 go_region_held2 (fun w'=>w'.cell? ⟨nb,2,none⟩=some (.slice (some ⟨g,0,none⟩) 2 cap)/\w'.cell? ⟨g,0,none⟩=some (.pointer (some ⟨ba,0,none⟩))/\w'.cell? ⟨g,1,none⟩=some (.pointer (some ⟨bb,0,none⟩))) (exact⟨c1a,c2a,c3a⟩) (first|(go_at_call 38;refine(HU.out).mono ?_;rintro e u1⟨rfl,⟨c1a,c2a,c3a⟩,hc⟩;have HC:=aC hc;clear hc)|(go_at_call 113;refine(HC.out).mono ?_;rintro e u2 (⟨rfl,hp⟩|⟨rfl,hc⟩);(focus (exact⟨rfl,hp⟩));obtain⟨⟨c1a,c2a,c3a⟩,hd⟩:=hc _ (Kn.refl _ _) rfl;clear hd;have HE:=aC hc;clear hc))
 all_goals
  clear HU HC;obtain⟨⟨c1b,c2b,c3b⟩,hu⟩:=HE.out _ (L7.out _) rfl;have HU:=aC hu;clear hu HE;go_wp2_with fail
  go_region_held2 (fun w'=>w'.cell? ⟨nb,2,none⟩=some (.slice (some ⟨g,0,none⟩) 2 cap)/\w'.cell? ⟨g,0,none⟩=some (.pointer (some ⟨ba,0,none⟩))/\w'.cell? ⟨g,1,none⟩=some (.pointer (some ⟨bb,0,none⟩))) (first|exact⟨c1b,c2b,c3b⟩) (first|(go_at_call 38;refine(HU.out).mono ?_;rintro e u1⟨rfl,⟨c1b,c2b,c3b⟩,hc⟩;have HC:=aC hc;clear hc)|(go_at_call 113;refine(HC.out).mono ?_;rintro e u2 (⟨rfl,hp⟩|⟨rfl,⟨c1b,c2b,c3b⟩,c4,hc⟩);(focus (exact⟨rfl,hp⟩));have HE:=aC hc;clear hc))
  all_goals
   obtain⟨Lg,Lp⟩:=HE.out;have Me:=aC Lg;have Lq:=aC Lp;clear Lg Lp HE HU HC c1a c2a c3a c1b c2b c3b
   by_cases e1:txt=[61]
   ·rw[decide_eq_true (by exact inl e1)]at Lq;have HF:=aC (Lq.out rfl);clear Me Lq;rw[show (txt==[61])=true by simpa using e1]at Yt;clear e1 Oq;generalize bs txt=tx at *;go_wp2_with fail;refine(HF.out).mono ?_;rintro e u5⟨b,rfl,hq⟩;have HG:=aC hq;clear hq HF;go_wp2;exact HG.out
   ·by_cases e2:txt=[60]
    ·rw[decide_eq_true (by exact inr e2)]at Lq;have HF:=aC (Lq.out rfl);clear Me Lq;rw[show (txt==[61])=false by simpa using e1]at Yt;rw[show (txt==[60])=true by simpa using e2]at Oq;clear e1 e2;generalize bs txt=tx at *;go_wp2_with fail;refine(HF.out).mono ?_;rintro e u5⟨b,rfl,hq⟩;have HG:=aC hq;clear hq HF;go_wp2;exact HG.out
    ·rw[decide_eq_false (by rintro (h|h);exact e1 h;exact e2 h)]at Me;have HF:=aC (Me.out rfl);clear Me Lq;rw[show (txt==[61])=false by simpa using e1]at Yt;rw[show (txt==[60])=false by simpa using e2]at Oq;clear e1 e2;generalize bs txt=tx at *;go_wp2_with fail;refine(HF.out).mono ?_;rintro e u5⟨b,rfl,hq⟩;have HG:=aC hq;clear hq HF;go_wp2;exact HG.out
def uF(ob:Option (Nat×TS))(oc:Nat->TS->Option (Nat×TS)):Option (Nat×TS):=ob.bind fun r=>oc r.1 r.2
def VP{g cap ba bb:Nat}{ob:Option (Nat×TS)}{oc:Nat->TS->Option (Nat×TS)}(h:YM ar ad Y rk U A tb yb d gv w)(hp:dH nb 6 txt g cap [ba,bb] w)
  (hA:Calls prog 114 #[aA yb,aA nb] w (aJ ar ad Y A tb yb d gv ob w))
  (hB:∀u t U' l rk' gv',Kn (Dm ad tb yb gv) w u->ob=some (t,U')->t<U'.nodes.length->YM ar (ad++l) Y rk' U' A tb yb d gv' u->Calls prog 212 #[aA yb,.string (bs txt),aM (ad++l) t,aA bb] u (aJ ar (ad++l) Y A tb yb d gv' (oc t U') u)) :
  Calls prog 210 #[aA yb,aA nb] w (aJ ar ad Y A tb yb d gv (uF ob oc) w):=by
 have Lh:Calls prog 114 #[aA yb,aA nb] w fun e u2=>(e=bE/\aJ ar ad Y A tb yb d gv (uF ob oc) w bE u2)\/∃b,e=.returned (aA b)/\∀u,Kn (fun _=>False) u2 u->(u.cell? ⟨nb,1,none⟩=some (.string (bs txt))/\u.cell? ⟨nb,2,none⟩=some (.slice (some ⟨g,0,none⟩) 2 cap)/\u.cell? ⟨g,1,none⟩=some (aA bb))/\Calls prog 212 #[aA yb,.string (bs txt),aA b,aA bb] u fun e u3=>
   (e=bE/\aJ ar ad Y A tb yb d gv (uF ob oc) w bE u3)\/∃b,e=.returned (aA b)/\(u3.cell? ⟨nb,1,none⟩=some (.string (bs txt))/\u3.cell? ⟨nb,2,none⟩=some (.slice (some ⟨g,0,none⟩) 2 cap)/\u3.cell? ⟨g,1,none⟩=some (aA bb))/\aJ ar ad Y A tb yb d gv (uF ob oc) w (.returned (aA b)) u3:=by
  refine hA.mono fun e u2 ha=>?_;rcases aJ.go (Bt.refl ad tb yb gv w) (show aJ ar (ad++[]) Y A tb yb d gv ob w e u2 by rw[append_nil];exact ha) (o:=uF ob oc) (fun e=>by rw[e];rfl)with⟨q1,q2⟩|⟨f,U1,l1,rk1,gv1,q1,q2,q3,q4,q5,_,_⟩
  ·exact inl ⟨q1,q2⟩
  refine inr ⟨_,q2,fun u hu=>?_⟩;have q5u:Bt ad tb yb gv w l1 gv1 u:=⟨q5.kn.trans (hu.wide fun _ _ h=>h.elim),q5.new,q5.giv⟩;have hc:=(h.pt q5u.kn hp).cells;refine⟨⟨hc.2.1,hc.2.2.1,hc.2.2.2 1 bb rfl⟩,(hB u f U1 l1 rk1 gv1 q5u.kn q1 q3 (q4.stays hu)).mono fun e u3 hb=>?_⟩;rcases aJ.last q5u hb (o':=uF ob oc) (by unfold uF;rw[q1];rfl)with r|⟨b,r1,r2⟩
  ·exact inl r
  ·have hc:=(h.pt r2.1 hp).cells;exact inr ⟨b,r1,⟨hc.2.1,hc.2.2.1,hc.2.2.2 1 bb rfl⟩,r2⟩
 obtain⟨ck,_,_,_⟩:=hp.cells;have Lt:=aC Lh;have L7:=aC Kn.AH;clear Lh hA hB h hp;generalize aJ ar ad Y A tb yb d gv (uF ob oc) w=Q at *;generalize bs txt=tx at *;unfold bE bQ aA at *;go_enter func210,ntmps210;go_wp2_with fail;refine(Lt.out).mono ?_;rintro e u2 (⟨rfl,hp⟩|⟨b,rfl,hc⟩)
 ·exact⟨rfl,hp⟩
 obtain⟨⟨c1a,c2a,c3a⟩,hc⟩:=hc _ (L7.out u2);have HC:=aC hc;clear hc Lt;go_wp2_with fail
 go_region_held2 (fun w'=>w'.cell? ⟨nb,1,none⟩=some (.string tx)/\w'.cell? ⟨nb,2,none⟩=some (.slice (some ⟨g,0,none⟩) 2 cap)/\w'.cell? ⟨g,1,none⟩=some (.pointer (some ⟨bb,0,none⟩))) (exact⟨c1a,c2a,c3a⟩) (first|(go_at_call 212;refine(HC.out).mono ?_;rintro e u3 (⟨rfl,hp⟩|⟨b,rfl,⟨c1a,c2a,c3a⟩,hq⟩);(focus (exact⟨rfl,hp⟩));have HG:=aC hq;clear hq))
 all_goals
  go_wp2;exact HG.out
def uH{o:Option (Nat×TS)}(hk:w.cell? ⟨nb,0,none⟩=some (.int .i64 (3:Nat)))(hA:Calls prog 261 #[aA yb,aA nb] w (aJ ar ad Y A tb yb d gv o w)) :
  Calls prog 210 #[aA yb,aA nb] w (aJ ar ad Y A tb yb d gv o w):=by
 have Lh:=hA.mono fun e u2 ha=>aJ.last (Bt.refl ad tb yb gv w) (show aJ ar (ad++[]) Y A tb yb d gv o w e u2 by rw[append_nil];exact ha) rfl;have Lt:=aC Lh;clear Lh hA;generalize aJ ar ad Y A tb yb d gv o w=Q at *;unfold bE bQ aA at *;go_enter func210,ntmps210;go_wp2_with fail;refine(Lt.out).mono ?_;rintro e u3 (⟨rfl,hp⟩|⟨b,rfl,hq⟩)
 ·exact⟨rfl,hp⟩
 have HG:=aC hq;clear hq Lt;go_wp2;exact HG.out
def uI{o:Option (Nat×TS)}(hk:w.cell? ⟨nb,0,none⟩=some (.int .i64 (5:Nat)))(hA:Calls prog 263 #[aA yb,aA nb] w (aJ ar ad Y A tb yb d gv o w)) :
  Calls prog 210 #[aA yb,aA nb] w (aJ ar ad Y A tb yb d gv o w):=by
 have Lh:=hA.mono fun e u2 ha=>aJ.last (Bt.refl ad tb yb gv w) (show aJ ar (ad++[]) Y A tb yb d gv o w e u2 by rw[append_nil];exact ha) rfl;have Lt:=aC Lh;clear Lh hA;generalize aJ ar ad Y A tb yb d gv o w=Q at *;unfold bE bQ aA at *;go_enter func210,ntmps210;go_wp2_with fail;refine(Lt.out).mono ?_;rintro e u3 (⟨rfl,hp⟩|⟨b,rfl,hq⟩)
 ·exact⟨rfl,hp⟩
 have HG:=aC hq;clear hq Lt;go_wp2;exact HG.out
def pP{o:Option (Nat×TS)}(hk:w.cell? ⟨nb,0,none⟩=some (.int .i64 (13:Nat)))(hA:Calls prog 264 #[aA yb,aA nb] w (aJ ar ad Y A tb yb d gv o w)) :
  Calls prog 210 #[aA yb,aA nb] w (aJ ar ad Y A tb yb d gv o w):=by
 have Lh:=hA.mono fun e u2 ha=>aJ.last (Bt.refl ad tb yb gv w) (show aJ ar (ad++[]) Y A tb yb d gv o w e u2 by rw[append_nil];exact ha) rfl;have Lt:=aC Lh;clear Lh hA;generalize aJ ar ad Y A tb yb d gv o w=Q at *;unfold bE bQ aA at *;go_enter func210,ntmps210;go_wp2_with fail;refine(Lt.out).mono ?_;rintro e u3 (⟨rfl,hp⟩|⟨b,rfl,hq⟩)
 ·exact⟨rfl,hp⟩
 have HG:=aC hq;clear hq Lt;go_wp2;exact HG.out
def IX{o:Option (Nat×TS)}(hk:w.cell? ⟨nb,0,none⟩=some (.int .i64 (15:Nat)))(hA:Calls prog 266 #[aA yb,aA nb] w (aJ ar ad Y A tb yb d gv o w)) :
  Calls prog 210 #[aA yb,aA nb] w (aJ ar ad Y A tb yb d gv o w):=by
 have Lh:=hA.mono fun e u2 ha=>aJ.last (Bt.refl ad tb yb gv w) (show aJ ar (ad++[]) Y A tb yb d gv o w e u2 by rw[append_nil];exact ha) rfl;have Lt:=aC Lh;clear Lh hA;generalize aJ ar ad Y A tb yb d gv o w=Q at *;unfold bE bQ aA at *;go_enter func210,ntmps210;go_wp2_with fail;refine(Lt.out).mono ?_;rintro e u3 (⟨rfl,hp⟩|⟨b,rfl,hq⟩)
 ·exact⟨rfl,hp⟩
 have HG:=aC hq;clear hq Lt;go_wp2;exact HG.out
def PK{k:Nat}{o:Option (Nat×TS)}(hn:k=4\/k=11\/15<k)(hk:w.cell? ⟨nb,0,none⟩=some (.int .i64 (k:Nat)))(hA:Calls prog 267 #[aA yb,aA nb] w (aJ ar ad Y A tb yb d gv o w)) :
  Calls prog 210 #[aA yb,aA nb] w (aJ ar ad Y A tb yb d gv o w):=by
 have Lh:=hA.mono fun e u2 ha=>aJ.last (Bt.refl ad tb yb gv w) (show aJ ar (ad++[]) Y A tb yb d gv o w e u2 by rw[append_nil];exact ha) rfl;have Lt:=aC Lh;have e0:¬(k:Int)=0:=by omega
 have e1:¬(k:Int)=1:=by omega
 have e2:¬(k:Int)=2:=by omega
 have e3:¬(k:Int)=3:=by omega
 have e5:¬(k:Int)=5:=by omega
 have e6:¬(k:Int)=6:=by omega
 have e7:¬(k:Int)=7:=by omega
 have e8:¬(k:Int)=8:=by omega
 have e9:¬(k:Int)=9:=by omega
 have e10:¬(k:Int)=10:=by omega
 have e12:¬(k:Int)=12:=by omega
 have e13:¬(k:Int)=13:=by omega
 have e14:¬(k:Int)=14:=by omega
 have e15:¬(k:Int)=15:=by omega
 clear Lh hA hn;generalize aJ ar ad Y A tb yb d gv o w=Q at *;unfold bE bQ aA at *;go_enter func210,ntmps210;go_wp2_with fail;refine(Lt.out).mono ?_;rintro e u3 (⟨rfl,hp⟩|⟨b,rfl,hq⟩)
 ·exact⟨rfl,hp⟩
 have HG:=aC hq;clear hq Lt;go_wp2;exact HG.out
def GZ(hk:w.cell? ⟨nb,0,none⟩=some (.int .i64 (0:Nat))):Calls prog 260 #[aA nb] w fun e w'=>e=.returned (aA w.heap.size)/\w'=w.alloc (.cells #[.string (bs eI),.slice none 0 0,.pointer none,.int .i64 0] aT):=by
 have hc:=kJ w;have HC:=aC hc;clear hc;unfold aA at *;generalize hQ:(fun(e:Ending) (w':World)=>e=.returned (.pointer (some ⟨w.heap.size,0,none⟩))/\w'=w.alloc (.cells #[.string (bs eI),.slice none 0 0,.pointer none,.int .i64 0] aT))=Q at *;go_enter func260,ntmps260;go_wp2_with fail;refine(HC.out).mono ?_;intro e w1 x;rw[<- hQ]at x;obtain⟨rfl,rfl⟩:=x;go_wp2;rw[<- hQ];exact⟨rfl,rfl⟩
def zV(h0:ar eI=0)(h:YM ar ad Y rk U A tb yb d gv w)(hk:w.cell? ⟨nb,0,none⟩=some (.int .i64 (0:Nat))):Calls prog 210 #[aA yb,aA nb] w (aJ ar ad Y A tb yb d gv (some (U.named eI [])) w):=by
 have Lh:=(GZ hk).mono (R':=fun e w'=>e=.returned (aA w.heap.size)/\aJ ar ad Y A tb yb d gv (some (U.named eI [])) w (.returned (aA w.heap.size)) w') fun e u2 ha=>by
  obtain⟨rfl,rfl⟩:=ha;exact⟨rfl,aJ.BN h (h.plain h0) (by simp[TS.named,TS.new])⟩
 have Lt:=aC Lh;clear Lh h;generalize aJ ar ad Y A tb yb d gv (some (U.named eI [])) w=Q at *;unfold aA at *;go_enter func210,ntmps210;go_wp2_with fail;refine(Lt.out).mono ?_;rintro e u3⟨rfl,hq⟩;have HG:=aC hq;clear hq Lt;go_wp2;exact HG.out
def GY(hk:w.cell? ⟨nb,0,none⟩=some (.int .i64 (2:Nat))):Calls prog 260 #[aA nb] w fun e w'=>e=.returned (aA w.heap.size)/\w'=w.alloc (.cells #[.string (bs bY),.slice none 0 0,.pointer none,.int .i64 0] aT):=by
 have hc:=iQ w;have HC:=aC hc;clear hc;unfold aA at *;generalize hQ:(fun(e:Ending) (w':World)=>e=.returned (.pointer (some ⟨w.heap.size,0,none⟩))/\w'=w.alloc (.cells #[.string (bs bY),.slice none 0 0,.pointer none,.int .i64 0] aT))=Q at *;go_enter func260,ntmps260;go_wp2_with fail;refine(HC.out).mono ?_;intro e w1 x;rw[<- hQ]at x;obtain⟨rfl,rfl⟩:=x;go_wp2;rw[<- hQ];exact⟨rfl,rfl⟩
def zU(h0:ar bY=0)(h:YM ar ad Y rk U A tb yb d gv w)(hk:w.cell? ⟨nb,0,none⟩=some (.int .i64 (2:Nat))):Calls prog 210 #[aA yb,aA nb] w (aJ ar ad Y A tb yb d gv (some (U.named bY [])) w):=by
 have Lh:=(GY hk).mono (R':=fun e w'=>e=.returned (aA w.heap.size)/\aJ ar ad Y A tb yb d gv (some (U.named bY [])) w (.returned (aA w.heap.size)) w') fun e u2 ha=>by
  obtain⟨rfl,rfl⟩:=ha;exact⟨rfl,aJ.BN h (h.plain h0) (by simp[TS.named,TS.new])⟩
 have Lt:=aC Lh;clear Lh h;generalize aJ ar ad Y A tb yb d gv (some (U.named bY [])) w=Q at *;unfold aA at *;go_enter func210,ntmps210;go_wp2_with fail;refine(Lt.out).mono ?_;rintro e u3⟨rfl,hq⟩;have HG:=aC hq;clear hq Lt;go_wp2;exact HG.out
end
def lQ{ops:Array Oper}{o:Oper}{a:Act}{w:World}{K:Act->World->Prop}{Q:Exit->Act->World->Prop}{E:Prop}(Vx:o.guard=none)(s x:Operand)
  (ho:o.op=.call { callee:=.builtin .append,args:=#[s,x],argTypes:=#[42,42] }) {base:Nat}{v:Value}{n:Nat}{xs:List Value} (sn:ByteArray) (k:Nat)
  (Jr:w.ownsRow base cF 2 v n xs) (hn:n<=100000000) (hb:base<=w.heap.size) (hs:a.eval s=v) (hx:a.eval x=.slice (some ⟨w.heap.size,0,none⟩) 1 1)
  (h:∀v' w',w'.ownsRow base cF 2 v' (n+1) (xs++[.string sn,aA k])->(w.alloc (.cells #[.string sn,.pointer (some ⟨k,0,none⟩)] cF)).grownBy w' v.ownBlock->Hid (∀g,v'.ownBlock=some g->v.ownBlock=some g\/w.heap.size<g)->K (a.put o.dst v') w') :
  if Region.wanted o (yielded ops a.tmps)=true then Oper.wp prog o a (w.alloc (.cells #[.string sn,.pointer (some ⟨k,0,none⟩)] cF)) K Q else E:=by
 have hw:Region.wanted o (yielded ops a.tmps)=true:=by simp[Region.wanted,Vx]
 rw[if_pos hw];obtain⟨v',w',hr,h2,h3,h4,_⟩:=uA (ty:=o.type) sn k Jr hn hb;unfold Oper.wp execOp;simp only[ho,resolve,invoke,builtin,Sem.run_bind,Sem.run_pure,Result.andThen_ok,List.map_toArray,map_cons,List.map_nil,hs,hx,hr];exact h v' w' h2 h3 h4
section
variable {ar:Nm->Nat}{ad:List Nat}{Y:Nat->Prop}{rk:Nat->Nat}{U:TS}{vs:List (Nm×Nat)}{A:Env}{tb yb d:Nat}{gv vv:Value}{w w':World}{nb:Nat}{txt:Nm}{rb:Nat}
def YM.DZ(h:YM ar ad Y rk U A tb yb d gv w)(hc:∀(k:Nat)(c:Array Value)(t:TypeId)(f:Nat×Nat),w.heap[k]?=some (.cells c t f)->t≠cF->t≠nJ->w'.heap[k]?=w.heap[k]?)(ht:w'.heap[tb]?=w.heap[tb]?)(hs:w.heap.size<=w'.heap.size):YM ar ad Y rk U A tb yb d gv w':=by
 refine⟨h.sto.kept (fun k hk=>?_) (fun k c f _ hk=>hc k c _ f hk (by decide) (by decide)),?_,?_,aE h.giv fun k c f _ hk=>hc k c _ f hk (by decide) (by decide),fun b hb=>lt_of_lt_of_le (h.yok b hb) hs⟩
 ·obtain⟨c,f,Mv⟩:=h.sto.isT hk;exact hc k c _ f Mv (by decide) (by decide)
 ·have:=h.tab.kept (l:=[]) ht (fun k c f hk=>hc k c _ f hk (by decide) (by decide)) (fun k c f hk=>hc k c _ f hk (by decide) (by decide)) (fun k c f hk=>hc k c _ f hk (by decide) (by decide));rw[append_nil]at this;exact this
 ·rw[hc _ _ _ _ h.typ (by decide) (by decide)];exact h.typ
def gF.more{o:Option (Nat×(TS×List (Nm×Nat)))}{e:Ending}(ha:gF Prod.fst (EP 0 rb yb) rb ar ad Y A tb yb d gv vv o w e w'):gF Prod.fst (EP 1 rb yb) rb ar ad Y A tb yb d gv vv o w e w':=by
 refine⟨ha.1,?_⟩;rcases ha.2 with h|⟨t,s',l,rk',gv',vv',a1,a2,a3,a4,a5,a6⟩
 ·exact inl h
 ·exact inr ⟨t,s',l,rk',gv',vv',a1,a2,a3,a4,⟨a5.1,a5.2.1,a5.2.2.1,by have:=a5.2.2.2;omega⟩,a6⟩
def ZX(h:YM ar ad Y rk U A tb yb d gv w)(he:EP 0 rb yb (U,vs) vv ad w)(hk:w.cell? ⟨nb,0,none⟩=some (.int .i64 (3:Nat)))(ht:w.cell? ⟨nb,1,none⟩=some (.string (bs txt)))(hn:vs.length<=100000000) :
  Calls prog 319 #[aA rb,aA nb] w (gF Prod.fst (EP 1 rb yb) rb ar ad Y A tb yb d gv vv (some (U.nodes.length,((U.letter d).2,vs++[(txt,U.nodes.length)]))) w):=by
 obtain⟨e1,e2,e3,e4⟩:=he;have hL:=gB h;have h1:=h.letter d;have Mw:=h.new1;generalize n0:w.alloc (.cells #[.string (bs []),.slice none 0 0,.pointer none,.int .i64 d] aT)=w0 at *;have h1:=h1.drew;generalize My:w0.drew=w1 at *;have Kj:Kn (fun _=>False) w w1:=by rw[<- My,<- n0];exact((Kn.refl _ _).alloc _).drew
 have Qm:rb<w.heap.size:=aB e1;have e1':w1.heap[rb]?=some (.cells #[aA yb,vv] nJ (0,0)):=(Kj.block rb Qm fun h=>h).trans e1;have Jr:w1.ownsRow 0 cF 2 vv vs.length (cK ad vs):=aE e2 fun q c f _ hc=>Kj.block q (aB hc) fun h=>h;have c0:w.cell? ⟨rb,0,none⟩=some (aA yb):=by simp[cell?,e1]
 have c1:w1.cell? ⟨rb,1,none⟩=some vv:=by simp[cell?,e1']
 have ct:w1.cell? ⟨nb,1,none⟩=some (.string (bs txt)):=by
  have:w1.heap[nb]?=w.heap[nb]?:=Kj.block nb (by
   cases hh:w.heap[nb]? with
   |none=>simp[cell?,hh]at ht
   |some o=>exact aB hh) fun h=>h
  unfold cell? at ht ⊢;rw[this];exact ht
 have hrb1:rb<w1.heap.size:=aB e1'
 have Jp:∀v' w2,w2.ownsRow 0 cF 2 v' (vs.length+1) (cK ad vs++[.string (bs txt),aA w.heap.size])->(w1.alloc (.cells #[.string (bs txt),.pointer (some ⟨w.heap.size,0,none⟩)] cF)).grownBy w2 vv.ownBlock->(∀g,v'.ownBlock=some g->vv.ownBlock=some g\/w1.heap.size<g) ->
   w2.frozen? ⟨rb,1,none⟩=false/\w2.cell? ⟨rb,1,none⟩=some vv/\gF Prod.fst (EP 1 rb yb) rb ar ad Y A tb yb d gv vv (some (U.nodes.length,((U.letter d).2,vs++[(txt,U.nodes.length)]))) w (.returned (aA w.heap.size)) (w2.setCell ⟨rb,1,none⟩ v'):=by
  intro v' w2 ho hg hl;have Ke:w1.heap.size<=w2.heap.size:=le_trans (by rw[aK];omega) hg.size
  have Ju:∀k,k<w1.heap.size->vv.ownBlock≠some k->w2.heap[k]?=w1.heap[k]?:=fun k hk hn=>by
   rw[hg.block k (by rw[aK];omega) (fun e=>hn e.symm),Below.heap_alloc _ _ _ hk]
  have Pi:∀(k:Nat)(c:Array Value)(t:TypeId)(f:Nat×Nat),w1.heap[k]?=some (.cells c t f)->t≠cF->w2.heap[k]?=w1.heap[k]?:=fun k c t f hc ht=>Ju k (aB hc) fun e=>by
   obtain⟨c2,h2⟩:=dV Jr e;rw[hc]at h2;exact ht (aN h2)
  have Nc:w2.heap[rb]?=some (.cells #[aA yb,vv] nJ (0,0)):=(Pi rb _ _ _ e1' (by decide)).trans e1';have Ma:∀k,k≠rb->(w2.setCell ⟨rb,1,none⟩ v').heap[k]?=w2.heap[k]?:=fun k hk=>Below.heap_setCell _ _ _ _ hk
  have Pv:(w2.setCell ⟨rb,1,none⟩ v').heap[tb]?=w1.heap[tb]?:=by
   obtain⟨n,f,⟨es,cl,hm,_⟩,_⟩:=h1.tab
   rw[Ma tb (fun e=>by subst e;rw[e1']at hm;cases hm),Ju tb h1.BH (fun e=>by
    obtain⟨c2,h2⟩:=dV Jr e
    rw[hm]at h2;cases h2)]
  have hy:=h1.DZ (w':=w2.setCell ⟨rb,1,none⟩ v') (fun k c t f hc Yt Oq=>by
   rw[Ma k (fun e=>by subst e;rw[e1']at hc;exact Oq (aN hc).symm)];exact Pi k c t f hc Yt) Pv (by simpa [World.setCell]using Ke)
  have Mj:Kn (uU ad tb yb gv rb vv) w (w2.setCell ⟨rb,1,none⟩ v'):=by
   have k1:Kn (uU ad tb yb gv rb vv) w w1:=Kj.wide fun _ _ h=>h.elim;exact((k1.alloc _).grown hg (fun k hk=>inl (inr (inr hk)))).set (p:=⟨rb,1,none⟩) (inl (inr (inl rfl))) _
  refine⟨frozen_of_row _ _ _ _ _ Nc,by simp[cell?,Nc],Mj,inr ⟨_,_,[w.heap.size],rk,gv,v',rfl,by rw[Mw],by simp[TS.letter,TS.new],hy,⟨?_,?_,?_,?_⟩,fun b hb=>by rw[mem_singleton.1 hb];exact le_refl _,fun b hb=>inl hb,fun b hb=>?_⟩⟩
  ·rw[heap_setCell_same _ _ _ _ _ _ Nc];rfl
  ·show (w2.setCell ⟨rb,1,none⟩ v').ownsRow 0 cF 2 v' (vs++[(txt,U.nodes.length)]).length (cK (ad++[w.heap.size]) (vs++[(txt,U.nodes.length)]));rw[oO,mD _ e3,length_append]
   show (w2.setCell ⟨rb,1,none⟩ v').ownsRow 0 cF 2 v' (vs.length+1) (cK ad vs++[.string (bs txt),aM (ad++[w.heap.size]) U.nodes.length]);rw[Mw];exact aE ho fun q c f hq hc=>Ma q fun e=>by subst e;rw[Nc]at hc;exact absurd (aN hc) (by decide)
  ·intro x hx;rcases mem_append.1 hx with hx|hx
   ·have:=e3 x hx;rw[length_append];omega
   ·rw[mem_singleton.1 hx,length_append,h.len];simp
  ·show (vs++[(txt,U.nodes.length)]).length<=U.given.length+1;have e4:vs.length<=U.given.length+0:=e4;rw[length_append];simp only[length_cons,length_nil];omega
  ·rcases hl b hb with h2|h2
   ·exact inl h2
   ·have:=Kj.size;exact inr (by omega)
 have Kt:=aD Jr;have HL:=aC hL;have Kk:=aC Jp;clear hL Jp h h1 e1 e2 e3 e4 Mw Kj ht e1';generalize gF Prod.fst (EP 1 rb yb) rb ar ad Y A tb yb d gv vv (some (U.nodes.length,((U.letter d).2,vs++[(txt,U.nodes.length)]))) w=Q at *;generalize cK ad vs=cs at *;generalize vs.length=vn at *;generalize bs txt=tx at *
 obtain⟨av,kv,cv,rfl⟩:∃a k c,vv=.slice a k c:=by
  rcases Kt with⟨h,_⟩|⟨g,cap,h⟩
  ·exact⟨_,_,_,h⟩
  ·exact⟨_,_,_,h⟩
 clear Kt;unfold aA at *;go_enter func319,ntmps319;go_wp2_with fail;refine(HL.out).mono ?_;rintro e u⟨rfl,hu⟩;subst hu;clear HL n0;subst My;have c1u:u.cell? ⟨rb,1,none⟩=some (.slice av kv cv):=c1;have ctu:u.cell? ⟨nb,1,none⟩=some (.string tx):=ct;have c1b:(u.alloc (.cells #[.string tx,.pointer (some ⟨w.heap.size,0,none⟩)] 49)).cell? ⟨rb,1,none⟩=some (.slice av kv cv):=aL c1u;have ctb:(u.alloc (.cells #[.string tx,.pointer (some ⟨w.heap.size,0,none⟩)] 49)).cell? ⟨nb,1,none⟩=some (.string tx):=aL ctu;go_wp2_with fail
 go_region_law (refine lQ rfl _ _ rfl tx w.heap.size Jr hn (zero_le _) (by simp[Act.eval,Act.put]) (by simp[Act.eval,Act.put]) ?_;intro v' w2 ho hg HL;obtain⟨hfr,Ny,hq⟩:=Kk.out v' w2 ho hg HL.out;have HG:=aC hq;obtain⟨g',cap',rfl⟩:∃g' cap',v'=.slice (some ⟨g',0,none⟩) (vn+1) cap':=(by rcases aD ho with⟨_,Ou⟩|h;(focus (simp at Ou));exact h);clear hq ho hg HL)
 all_goals
  go_wp2;exact HG.out
end
structure mU(ar:Nm->Nat):Prop where
 le:∀nm,ar nm<=1000000
 arrow:ar bA=2
 int:ar eI=0
 bool:ar dZ=0
 unit:ar bY=0
 ref:ar gP=1
def aF.CS:aF 309:=enters func309 (by kernel_rfl) rfl
def aF.expect:aF 113:=enters func113 (by kernel_rfl) rfl
def KH(ar:Nm->Nat)(A:Env)(p:Nd):Prop:=
 ∀x∈p.all,x.txt.length<=100000000/\x.ps.length<=1000000/\(x.k=3\/x.k=14)/\(x.k=14->∃m,A.get (1,x.txt)=some m/\FH ar m x.ps.length)
section
variable {ar:Nm->Nat}{ad:List Nat}{Y:Nat->Prop}{rk:Nat->Nat}{U:TS}{vs:List (Nm×Nat)}{A:Env}{tb yb d:Nat}{gv vv:Value}{w w':World}{nb:Nat}{txt:Nm}{rb:Nat}
def KH.part{k:Nat}{ps:List Nd}{p:Nd}(h:KH ar A (.mk k txt ps))(hp:p∈ps):KH ar A p:=fun x hx=>h x (tH hp hx)
def iC{U U':TS}{a b:Nat}(h:U.AO a b=some U'):U'.given=U.given:=by
 unfold TS.AO at h;obtain⟨r,hr,rfl⟩:=map_eq_some_iff.1 h;exact(mI _ _ _ _ _ _ _ hr).1.given
def EK{S:Type}{get:S->TS}{put:S->TS->S}(S5:∀s τ,get (put s τ)=τ){ex:Nd->Nat->S->Option S}{ch:List (Nm×Nat)}:∀(l:List (Nd×Nd)) (s s':S),(∀p∈l.map Prod.fst,∀want s s',ex p want s=some s'->(get s').given.length<=(get s).given.length+p.sz)->iN.go get put ex ch l s=some s'->(get s').given.length<=(get s).given.length+Nd.sz.szs (l.map Prod.fst):=by
 intro l
 induction l with
 |nil=>intro s s' _ h;rw[iN.go]at h;cases h;simp
 |cons a r ih=>
  intro s s' hp h;obtain⟨p,q⟩:=a;rw[iN.go]at h;split at h
  ·rename_i s1 Li;have h1:=hp p (by simp) _ _ _ Li;rw[S5,(lJ _ q (get s) (ch:=ch)).given]at h1;have h2:=ih s1 s' (fun p Qu=>hp p (by simp only[map_cons,mem_cons];exact inr Qu)) h;rw[map_cons,Nd.sz.szs]
   show (get s').given.length<=(get s).given.length+(p.sz+_);omega
  ·cases h
def sU{S:Type}{get:S->TS}{put:S->TS->S}(S5:∀s τ,get (put s τ)=τ){A:Env}{ex:Nd->Nat->S->Option S}{ps:List Nd}{s:S}{t:Nat}{s':S}(hp:∀p∈ps,∀want s s',ex p want s=some s'->(get s').given.length<=(get s).given.length+p.sz)(h:iN get put A d txt ps ex s=some (t,s')):(get s').given.length<=(get s).given.length+Nd.sz.szs ps:=by
 unfold iN at h;split at h
 ·cases h
 ·rename_i m hm;simp only at h;split at h
  ·rename_i s1 Li;cases h
   have Yv:∀p∈(ps.zip m.vr.parts).map Prod.fst,p∈ps:=fun p hp=>by
    obtain⟨q,hq,rfl⟩:=List.mem_map.1 hp;exact(List.of_mem_zip hq).1
   have h1:=EK S5 _ _ _ (fun p Qu=>hp p (Yv p Qu)) Li;rw[S5,(lX d m.vr.AE (get s)).given]at h1
   have h2:Nd.sz.szs ((ps.zip m.vr.parts).map Prod.fst)<=Nd.sz.szs ps:=by
    have:∀(a:List Nd)(b:List Nd),Nd.sz.szs ((a.zip b).map Prod.fst)<=Nd.sz.szs a:=by
     intro a
     induction a with
     |nil=>intro b;simp
     |cons x r ih=>
      intro b
      cases b with
      |nil=>simp[Nd.sz.szs]
      |cons y b=>simp only[List.zip_cons_cons,map_cons,Nd.sz.szs];have:=ih b;omega
    exact this _ _
   rw[S5]
   show (get s1).given.length<=_;omega
  ·cases h
def iZ{g:Nd->TS×List (Nm×Nat)->Option (Nat×(TS×List (Nm×Nat)))}{p:Nd}(hg:∀s t s',g p s=some (t,s')->s'.1.given.length+1<=s.1.given.length+p.sz){want:Nat}{s s':TS×List (Nm×Nat)}(h:kI.patX g p want s=some s'):s'.1.given.length<=s.1.given.length+p.sz:=by
 unfold kI.patX at h;split at h
 ·rename_i t s1 Li;obtain⟨U2,h2,rfl⟩:=map_eq_some_iff.1 h;have:=hg _ _ _ Li
  show U2.given.length<=_;rw[iC h2];simp only[TS.give,length_append,length_cons,length_nil];omega
 ·cases h
def jA:∀(n:Nat) (p:Nd) (s:TS×List (Nm×Nat)) (t:Nat) (s':TS×List (Nm×Nat)),kI A d n p s=some (t,s')->s'.1.given.length+1<=s.1.given.length+p.sz:=by
 intro n
 induction n with
 |zero=>intro p s t s' h;cases h
 |succ n ih=>
  intro p s t s' h;obtain⟨k,txt,ps⟩:=p;rw[kI]at h;split at h
  ·cases h;simp[TS.letter,TS.new,Nd.sz]
  ·split at h
   ·cases h;simp[TS.letter,TS.new,Nd.sz]
   ·split at h
    ·have h1:=sU (get:=Prod.fst) (put:=fun s τ=>(τ,s.2)) (fun _ _=>rfl) (fun p _ want s s' hx=>iZ (fun s t s'=>ih p s t s') hx) h;rw[Nd.sz];omega
    ·cases h;simp[TS.named,TS.new,Nd.sz]
def ZY{o:Option (Nat×(TS×List (Nm×Nat)))}(he:EP 0 rb yb (U,vs) vv ad w)(hk:w.cell? ⟨nb,0,none⟩=some (.int .i64 (14:Nat)))
  (hC:∀u,Kn (fun _=>False) w u->Calls prog 262 #[aA yb,aA nb,.func (.func 309) #[aA rb] #[]] u (gF Prod.fst (EP 0 rb yb) rb ar ad Y A tb yb d gv vv o u)) :
  Calls prog 319 #[aA rb,aA nb] w (gF Prod.fst (EP 1 rb yb) rb ar ad Y A tb yb d gv vv o w):=by
 have Lh:∀u,Kn (fun _=>False) w u->Calls prog 262 #[aA yb,aA nb,.func (.func 309) #[aA rb] #[]] u fun e u2=>(e=bE/\gF Prod.fst (EP 1 rb yb) rb ar ad Y A tb yb d gv vv o w bE u2)\/∃b,e=.returned (aA b)/\gF Prod.fst (EP 1 rb yb) rb ar ad Y A tb yb d gv vv o w (.returned (aA b)) u2:=fun u hu=>(hC u hu).mono fun e u2 ha=>by
  have hq:=gF.base (EP.bes 1 rb yb) hu ha.more;rcases ha.forms with rfl|⟨b,rfl⟩
  ·exact inl ⟨rfl,hq⟩
  ·exact inr ⟨b,rfl,hq⟩
 have c0:=he.cell0;have HC:=aC (Lh w (Kn.refl _ _));clear Lh hC he;generalize gF Prod.fst (EP 1 rb yb) rb ar ad Y A tb yb d gv vv o w=Q at *;unfold bE bQ aA at *;have Vs:∀(fn:Fn)(first cap:Array Value)(w:World),(Instr.makeFunc fn first cap).run prog w=.ok (.func fn first cap) w:=fun _ _ _ _=>rfl;go_enter func319,ntmps319;go_wp2_with fail;refine(HC.out).mono ?_;rintro e u3 (⟨rfl,hp⟩|⟨b,rfl,hq⟩)
 ·exact⟨rfl,hp⟩
 have HG:=aC hq;clear hq HC;go_wp2;exact HG.out
end
section
variable {ar:Nm->Nat}{A:Env}{tb yb d:Nat}{rb:Nat}
def ZZ{g:Nd->TS×List (Nm×Nat)->Option (Nat×(TS×List (Nm×Nat)))}{p:Nd}{want:Nat}{s:TS×List (Nm×Nat)}:kI.patX g p want s=oC (g p s) want:=by
 unfold kI.patX oC
 cases g p s with
 |none=>rfl
 |some r=>rfl
def oB(ha:mU ar){n:Nat}{p:Nd}{bp want:Nat}{Y:Nat->Prop}{ad:List Nat}{rk:Nat->Nat}{s:TS×List (Nm×Nat)}{gv vv:Value}{u:World}(hm:AB u p bp)(h:YM ar ad Y rk s.1 A tb yb d gv u)(he:EP 0 rb yb s vv ad u)(hb:s.1.given.length+p.sz<=100000000)(hw:want<s.1.nodes.length)
  (hP:∀u',AB u' p bp->YM ar ad Y rk s.1 A tb yb d gv u'->EP 0 rb yb s vv ad u'->Calls prog 319 #[aA rb,aA bp] u' (gF Prod.fst (EP 1 rb yb) rb ar ad Y A tb yb d gv vv (kI A d n p s) u')) :
  Calls prog 309 #[aA rb,aA bp,aM ad want] u (RC Prod.fst (EP 0 rb yb) rb ar ad Y A tb yb d gv vv (kI.patX (kI A d n) p want s) u):=by
 rw[ZZ];refine GO ha.le (fun t s' hs=>?_) h he hw fun u' hu=>?_
 ·have:=jA n p s t s' hs;omega
 ·refine hP u' (AB.kept (fun k c f hc=>hu.block k (aB hc) fun h=>h) (fun k c f hc=>hu.block k (aB hc) fun h=>h) p bp hm) (h.stays hu) ?_;have:=he.stays [] (τ:=s.1) (c':=0) hu (fun _ hf=>hf.elim) (le_refl _);rw[append_nil]at this;exact this
def wJ(ha:mU ar):∀(n:Nat)(p:Nd),p.ht<n->KH ar A p->∀(bp:Nat) (Y:Nat->Prop) (ad:List Nat) (rk:Nat->Nat) (s:TS×List (Nm×Nat)) (gv vv:Value) (u:World),AB u p bp->YM ar ad Y rk s.1 A tb yb d gv u->EP 0 rb yb s vv ad u->s.1.given.length+p.sz<=100000000 ->
  Calls prog 319 #[aA rb,aA bp] u (gF Prod.fst (EP 1 rb yb) rb ar ad Y A tb yb d gv vv (kI A d n p s) u):=by
 intro n
 induction n with
 |zero=>intro p h;omega
 |succ n ih=>
  intro p hn hp bp Y ad rk s gv vv u hm h he hb;obtain⟨k,txt,ps⟩:=p;obtain⟨U,vs⟩:=s;obtain⟨pv,bl,n1,n2,n3⟩:=hm.inv;have c0:u.cell? ⟨bp,0,none⟩=some (.int .i64 k):=by simp[cell?,n1]
  have c1:u.cell? ⟨bp,1,none⟩=some (.string (bs txt)):=by simp[cell?,n1]
  obtain⟨Rs,Qu,Xf,x8⟩:=hp _ (oP _);have Rs:txt.length<=100000000:=Rs;have Qu:ps.length<=1000000:=Qu;have Xf:k=3\/k=14:=Xf;have x8:k=14->∃m,A.get (1,txt)=some m/\FH ar m ps.length:=x8;have hb:U.given.length+(Nd.sz.szs ps+1)<=100000000:=hb;rw[kI];rcases Xf with rfl|rfl
  ·have e4:vs.length<=U.given.length+0:=he.2.2.2;have Qs:vs.length<=100000000:=by omega
   exact ZX h he c0 c1 Qs
  ·obtain⟨m,hg,hci⟩:=x8 rfl;rw[if_neg (by decide),if_neg (by decide),if_pos rfl];refine ZY he c0 fun u' hu=>?_
   have T1:EP 0 rb yb (U,vs) vv ad u':=by
    have:=he.stays [] (τ:=U) (c':=0) hu (fun _ hf=>hf.elim) (le_refl _);rw[append_nil]at this;exact this
   refine WF (EP.bes 0 rb yb) ha.le ha.arrow (M:=100000000) aF.CS (s0:=(U,vs)) (h.stays hu) T1 (AB.kept (fun k c f hc=>hu.block k (aB hc) fun h=>h) (fun k c f hc=>hu.block k (aB hc) fun h=>h) _ bp hm) ⟨show 1<3 by decide,Rs⟩ hg hci Qu ?_ ?_ ?_
   ·intro p Xe bp Y ad rk s gv vv u want hm h he hb hw;exact oB ha hm h he hb hw fun u' Tc h' T1=>ih p (Nd.BG Xe hn) (hp.part Xe) bp Y ad rk s gv vv u' Tc h' T1 hb
   ·intro p Xe want s s' hs;exact iZ (fun s t s'=>jA n p s t s') hs
   ·show U.given.length+_<=_;omega
def yT(ha:mU ar){n:Nat}{p:Nd}(hn:p.ht<n)(hp:KH ar A p){bp want:Nat}{Y:Nat->Prop}{ad:List Nat}{rk:Nat->Nat}{s:TS×List (Nm×Nat)}{gv vv:Value}{u:World}(hm:AB u p bp)(h:YM ar ad Y rk s.1 A tb yb d gv u)(he:EP 0 rb yb s vv ad u)(hb:s.1.given.length+p.sz<=100000000)(hw:want<s.1.nodes.length) :
  Calls prog 309 #[aA rb,aA bp,aM ad want] u (RC Prod.fst (EP 0 rb yb) rb ar ad Y A tb yb d gv vv (kI.patX (kI A d n) p want s) u):=
 oB ha hm h he hb hw fun u' Tc h' T1=>wJ ha n p hn hp bp Y ad rk s gv vv u' Tc h' T1 hb
end
def nL:Ending->FrameMode
 |.returned _=>.returning
 |.panicked c=>.panicking c
 |.outgrown=>.run
def mQ(W:Nat):Deferred:={ target:=.fn (.func 203) #[.pointer (some ⟨W+4,0,none⟩),.pointer (some ⟨W+3,0,none⟩),.pointer (some ⟨W,0,none⟩),.pointer (some ⟨W+1,0,none⟩)],args:=#[] }
section
variable {ar:Nm->Nat}{ad:List Nat}{Y:Nat->Prop}{rk:Nat->Nat}{U:TS}{A A0:Env}{tb yb d:Nat}{gv:Value}{w w0 w':World}{nb:Nat}{txt:Nm}
def F6.finX{x:Ky}{m:Mg}{W:Nat}{f:Ky->Option Value}{u:World}(h:YM ar ad Y rk U A tb yb d gv w)(hx:cL x)(hf:∀x,cL x->(A.get x=none/\f x=none)\/∃m v,A.get x=some m/\f x=some v/\fE ad w m v)
  (h6:F6 ar ad Y rk U A tb yb d gv x m (f x) w W u) {o:Option TS}{e:Ending}{w7:World} (ha:cR ar ad Y ((x,m)::A) tb yb d gv o u e w7) :
  ∃n7 f7,(e=bE\/e=.returned (.tuple #[]))/\aQ cL eL w7 tb n7 f7/\Unb tb x (f x) W w7/\∀w8,(∃n',aQ cL eL w8 tb n' (fun y=>if y=x then f x else f7 y))->w7.mapTurned w8 tb->cR ar ad Y A tb yb d gv o w e w8:=by
 obtain⟨hk,ha⟩:=ha;have Nq:Kn (Dm ad tb yb gv) w w7:=h6.kn.trans hk
 have Se:Unb tb x (f x) W w7:=h6.unb.kept fun k Kj Jy=>hk.block k (by have:=h6.sz;omega) fun hd=>by
  have:=h.CW hd;have:=h6.w0;omega
 have Vv:∀w8,w7.mapTurned w8 tb->Kn (Dm ad tb yb gv) w w8:=fun w8 ht=>Nq.AM ht (inl (inr (inl rfl)));rcases ha with⟨h1,h2,n7,f7,h3⟩|⟨U',l,rk',gv',h1,h2,h4,h5,h7⟩
 ·refine⟨n7,f7,inl h2,h3,Se,fun w8 Qi ht=>⟨Vv w8 ht,inl ⟨h1,h2,?_⟩⟩⟩;obtain⟨n',Tc⟩:=Qi;exact⟨n',_,Tc⟩
 ·obtain⟨n7,f7,Ta,Vz⟩:=h4.tab;refine⟨n7,f7,inr h2,Ta,Se,fun w8 Qi ht=>⟨Vv w8 ht,inr ⟨U',l,rk',gv',h1,h2,?_,fun b hb=>le_trans h6.kn.size (h5 b hb),fun b hb=>?_⟩⟩⟩
  ·obtain⟨n',Tc⟩:=Qi;refine h4.BK hx Vz hf (fun k c t f Oq hc=>Nq.block k (aB hc) (h.AU hc ?_ ?_ ?_)) Tc ht
   ·rcases Oq with rfl|rfl|rfl<;>decide
   ·rcases Oq with rfl|rfl|rfl<;>decide
   ·rcases Oq with rfl|rfl|rfl<;>decide
  ·rcases h7 b hb with h8|h8
   ·exact inl h8
   ·exact inr (le_trans h6.kn.size h8)
structure KE(ar:Nm->Nat)(ad:List Nat)(Y:Nat->Prop)(rk:Nat->Nat)(U:TS)(A0:Env)(tb yb d:Nat)(gv:Value)(R:Option TS->Ending->World->Prop)(w0:World)(vs:List (Nm×Nat))(i:Nat)(D:List Deferred)(wr:World):Prop where
 ym:YM ar ad Y rk U (eD A0 (vs.take i)) tb yb d gv wr
 kn:Kn (Dm ad tb yb gv) w0 wr
 lv:∀o e w7 tmps,cR ar ad Y (eD A0 (vs.take i)) tb yb d gv o wr e w7->Leaves prog f289 tmps (R o) D (nL e) w7
def KE.start{vs:List (Nm×Nat)}{R:Option TS->Ending->World->Prop}(h:YM ar ad Y rk U A0 tb yb d gv w0)(hR:∀o e w',cR ar ad Y A0 tb yb d gv o w0 e w'->R o e w'):KE ar ad Y rk U A0 tb yb d gv R w0 vs 0 [] w0:=by
 refine⟨by simpa [eD]using h,Kn.refl _ _,fun o e w7 tmps ha=>?_⟩;have ha:cR ar ad Y A0 tb yb d gv o w0 e w7:=by simpa [eD]using ha
 rcases ha.cases with⟨_,q2,_⟩|⟨_,_,_,_,_,q2,_⟩
 ·subst q2;simp only[bE,nL,Leaves];exact hR _ _ _ ha
 ·subst q2;simp only[nL,Leaves];exact⟨.tuple #[],by simp[results,results289,go_sem],hR _ _ _ ha⟩
def ER(A:Env)(vs:List (Nm×Nat))(x:Nm×Nat):eD A (vs++[x])=((0,x.1),Mg.var x.2)::eD A vs:=by
 unfold eD;rw[List.foldl_append];rfl
def KE.bind{vs:List (Nm×Nat)}{R:Option TS->Ending->World->Prop}{i:Nat}{D:List Deferred}{wr:World}{x:Nm}{t:Nat}(h:KE ar ad Y rk U A0 tb yb d gv R w0 vs i D wr)(hi:vs[i]?=some (x,t))(hx:cL (0,x))(ht:t<U.nodes.length){u:World}(hu:Kn (fun _=>False) wr u) :
  Calls prog 156 #[.map (some tb),.agg #[.int .i64 0,.string (bs x)],.agg #[aM ad t,.string ⟨#[]⟩,.slice none 0 0,.slice none 0 0,.int .i64 0,.int .i64 0]] u fun e u'=>e=.returned (lK u.heap.size)/\Kn (·=tb) u u'/\KE ar ad Y rk U A0 tb yb d gv R w0 vs (i+1) (mQ u.heap.size::D) u':=by
 have D3:=h.ym;have Rv:=h.lv;have Lo:vs.take (i+1)=vs.take i++[(x,t)]:=by rw[List.take_add_one,hi];rfl
 have Xt:eD A0 (vs.take (i+1))=((0,x),Mg.var t)::eD A0 (vs.take i):=by rw[Lo,ER]
 generalize eD A0 (vs.take i)=A at *;obtain⟨n,f,hm,hf,Qe⟩:=D3.tab.six;have Oh:t<ad.length:=by rw[D3.len];exact ht
 have Ru:aQ cL eL u tb n f:=hm.kept (hu.block tb hm.lt id);refine(pA Ru hx (fun v hv=>Qe _ hx v hv) (m:=.agg #[aM ad t,.string ⟨#[]⟩,.slice none 0 0,.slice none 0 0,.int .i64 0,.int .i64 0]) ⟨_,_,_,_,_,_,_,_,_,_,rfl⟩).mono ?_;rintro e u'⟨e1,⟨n',e2⟩,e3,e4,e5⟩;have Wt:=D3.stays hu
 have h6:F6 ar ad Y rk U A tb yb d gv (0,x) (Mg.var t) (f (0,x)) wr u.heap.size u':=by
  refine⟨hu.size,(hu.wide fun _ _ hh=>hh.elim).trans (e5.wide fun k _ hk=>inr (inl hk)),Wt.bound Ru (fun x Pl=>?_) e2 e5 (sA Oh u),e3,by omega⟩;rcases hf x Pl with h1|⟨m',v',h1,h2,h3⟩
  ·exact inl h1
  ·exact inr ⟨m',v',h1,h2,h3.kept (fun _ _=>rfl) (le_refl _) (fun k c f hc=>hu.block k (aB hc) id) (fun k c f hc=>hu.block k (aB hc) id) (fun k c f hc=>hu.block k (aB hc) id)⟩
 refine⟨e1,e5,by rw[Xt];exact h6.ym,h.kn.trans h6.kn,fun o e w7 tmps ha=>?_⟩;rw[Xt]at ha;obtain⟨n7,f7,he,Ta,Se,hq⟩:=F6.finX D3 hx hf h6 ha;unfold mQ;rcases he with rfl|rfl
 ·refine leaves_cons (f:=203) (by simp[nL,bE]) (by simp[go_sem];rfl) ?_;refine(kN (u:=nL bE) Ta hx Se).mono ?_;rintro e u' w8⟨rfl,rfl,Qi,Sp⟩;exact Rv o bE w8 tmps (hq w8 Qi Sp)
 ·refine leaves_cons (f:=203) (by simp[nL]) (by simp[go_sem];rfl) ?_;refine(kN (u:=nL (.returned (.tuple #[]))) Ta hx Se).mono ?_;rintro e u' w8⟨rfl,rfl,Qi,Sp⟩;exact Rv o (.returned (.tuple #[])) w8 tmps (hq w8 Qi Sp)
end
def yX(A:List Nm)(v:Nm):Option Nat:=(A.idxOf? v).map fun i=>A.length-1-i
def OB(A:List Nm)(v:Nm):yX (v::A) v=some A.length:=by simp[yX,List.idxOf?_cons]
def rW{A:List Nm}{v x:Nm}(h:v≠x):yX (x::A) v=yX A v:=by
 unfold yX;have h':(x==v)=false:=by simpa using fun e=>h e.symm
 rw[List.idxOf?_cons,h']
 cases hi:A.idxOf? v with
 |none=>simp
 |some i=>simp;omega
def binds(A vs:List Nm):List Nm:=vs.foldl (fun A v=>v::A) A
def JO(A vs:List Nm)(x:Nm):binds A (vs++[x])=x::binds A vs:=by unfold binds;rw[List.foldl_append];rfl
def pT(A vs:List Nm):(binds A vs).length=A.length+vs.length:=by
 induction vs generalizing A with
 |nil=>rfl
 |cons v r ih=>show (binds (v::A) r).length=_;rw[ih];simp;omega
structure BM(mb tb bb:Nat)(A:List Nm)(a:Nat)(w:World):Prop where
 bld:w.heap[bb]?=some (.cells #[eT mb,.map (some tb),.int .i64 (a:Nat)] nA (0,0))
 tab:∃n f,aQ cL eL w tb n f/\∀v,cL (0,v)->f (0,v)=(yX A v).map fun i=>.int .i64 (i:Nat)
 len:a<=1000000
section
variable {mb tb bb:Nat}{A:List Nm}{a:Nat}{w w' u:World}
def BM.BH(h:BM mb tb bb A a w):tb<w.heap.size:=by obtain⟨n,f,h1,_⟩:=h.tab;exact h1.lt
def BM.AF(h:BM mb tb bb A a w){k:Nat}{c:Array Value}{t:TypeId}{f:Nat×Nat}(hc:w.heap[k]?=some (.cells c t f)):k≠tb:=fun e=>by
 subst e;obtain⟨n,f,⟨es,cl,hm,_⟩,_⟩:=h.tab;rw[hm]at hc;cases hc
def BM.AI(h:BM mb tb bb A a w){k:Nat}{c:Array Value}{t:TypeId}{f:Nat×Nat}(hc:w.heap[k]?=some (.cells c t f))(ht:t≠nA):k≠bb:=fun e=>by
 subst e;rw[h.bld]at hc;exact ht (aN hc).symm
def BM.kr(h:BM mb tb bb A a w)(hk:Kn (fun k=>k=tb\/k=bb) w w'):KR 0 w w':=
 .same hk.size (fun k c t f ht hc=>hk.block k (aB hc) fun e=>by
  rcases e with e|e
  ·exact h.AF hc e
  ·exact h.AI hc (by rcases ht with ht|rfl;exact ht.2.2.2.2;decide) e) (fun k h=>absurd h (Nat.not_lt_zero k)) ⟨hk.os,hk.tape,hk.output⟩
def BM.stays(h:BM mb tb bb A a w)(hk:Kn (fun _=>False) w w'):BM mb tb bb A a w':=by
 obtain⟨n,f,h1,h2⟩:=h.tab;exact⟨(hk.block _ (aB h.bld) id).trans h.bld,⟨n,f,h1.kept (hk.block tb h1.lt id),h2⟩,h.len⟩
def BA(mb tb bb:Nat)(A:List Nm)(c:Cd)(w:World)(e:Ending)(w':World):Prop:=
 ∃K cs,e=.returned (.func (.func K) #[] cs)/\BM mb tb bb A A.length w'/\Kn (fun k=>k=tb\/k=bb) w w'/\fP mb w' c (.func (.func K) #[] cs)
def LB(W:Nat):Deferred:={ target:=.fn (.func 124) #[.pointer (some ⟨W+3,0,none⟩),.pointer (some ⟨W+2,0,none⟩),.pointer (some ⟨W,0,none⟩),.pointer (some ⟨W+1,0,none⟩)],args:=#[] }
structure KP(mb tb bb:Nat)(A0:List Nm)(w0:World)(vs:List Nm)(i:Nat)(D:List Deferred)(wr:World):Prop where
 bm:BM mb tb bb (binds A0 (vs.take i)) (A0.length+i) wr
 kn:Kn (fun k=>k=tb\/k=bb) w0 wr
 lv:∀tmps c K cs w7,(∀(wx:World)(Q:Ending->World->Prop),Q (.returned (.func (.func K) #[] cs)) wx->Leaves prog f56 tmps Q [] .returning wx)->BM mb tb bb (binds A0 (vs.take i)) A0.length w7->Kn (fun k=>k=tb\/k=bb) wr w7->fP mb w7 c (.func (.func K) #[] cs)->Leaves prog f56 tmps (BA mb tb bb A0 c w0) D .returning w7
def KP.start{A0 vs:List Nm}{w0:World}(h:BM mb tb bb A0 A0.length w0):KP mb tb bb A0 w0 vs 0 [] w0:=
 ⟨by simpa [binds]using h,Kn.refl _ _,fun tmps c K cs w7 hl hb hk hc=>hl w7 _ ⟨K,cs,rfl,by simpa [binds]using hb,hk,hc⟩⟩
def KP.bind{A0 vs:List Nm}{w0 wr:World}{i:Nat}{D:List Deferred}{x:Nm}(h:KP mb tb bb A0 w0 vs i D wr)(hi:vs[i]?=some x)(hx:cL (0,x))(Jm:A0.length+i<1000000){u:World}(hu:Kn (fun _=>False) wr u) :
  Calls prog 86 #[.map (some tb),.agg #[.int .i64 0,.string (bs x)],.int .i64 ((A0.length+i:Nat):Int)] u fun e u'=>e=.returned (ND u.heap.size)/\u'.heap[bb]?=some (.cells #[eT mb,.map (some tb),.int .i64 ((A0.length+i:Nat):Int)] nA (0,0)) /\
   ∀u2,u2.heap.size=u'.heap.size->u2.os=u'.os->u2.tape=u'.tape->u2.output=u'.output->(∀k,k≠bb->u2.heap[k]?=u'.heap[k]?)->u2.heap[bb]?=some (.cells #[eT mb,.map (some tb),.int .i64 ((A0.length+(i+1):Nat):Int)] nA (0,0))->KP mb tb bb A0 w0 vs (i+1) (LB u.heap.size::D) u2:=by
 have Zn:=h.bm;have Rv:=h.lv;have Lo:vs.take (i+1)=vs.take i++[x]:=by rw[List.take_add_one,hi];rfl
 have Xt:binds A0 (vs.take (i+1))=x::binds A0 (vs.take i):=by rw[Lo,JO]
 have Lc:i<vs.length:=(List.getElem?_eq_some_iff.1 hi).1;have Pk:(binds A0 (vs.take i)).length=A0.length+i:=by rw[pT,List.length_take];omega
 generalize binds A0 (vs.take i)=A at *;have Qj:=Zn.stays hu;obtain⟨n,f,hm,hf⟩:=Qj.tab
 have hmi:∀v,f (0,x)=some v->∃i,v=.int .i64 i:=fun v hv=>by
  rw[hf x hx]at hv
  cases hp:yX A x with
  |none=>rw[hp]at hv;cases hv
  |some j=>rw[hp]at hv;cases hv;exact⟨_,rfl⟩
 refine(RB hm hx hmi (m:=.int .i64 ((A0.length+i:Nat):Int)) ⟨_,rfl⟩).mono ?_;rintro e u'⟨e1,⟨n',e2⟩,e3,e4,e5⟩;have Uj:∀(k:Nat)(c:Array Value)(t:TypeId)(f:Nat×Nat),u.heap[k]?=some (.cells c t f)->u'.heap[k]?=u.heap[k]?:=fun k c t f hc=>e5.block k (aB hc) (Qj.AF hc);refine⟨e1,(Uj _ _ _ _ Qj.bld).trans Qj.bld,fun u2 hs ho ht Qg hr hh=>?_⟩;have Pv:tb≠bb:=fun e=>Qj.AF Qj.bld e.symm
 have Kj:Kn (fun k=>k=tb\/k=bb) wr u2:=by
  have Ti:Kn (fun k=>k=tb\/k=bb) wr u':=(hu.wide fun _ _ hh=>hh.elim).trans (e5.wide fun k _ hk=>inl hk);refine⟨ho.trans Ti.os,ht.trans Ti.tape,Qg.trans Ti.output,by rw[hs];exact Ti.size,fun k hk hd=>?_⟩;rw[hr k (fun e=>hd (inr e))];exact Ti.block k hk hd
 have Ly:aQ cL eL u2 tb n' (fun y=>if y=(0,x)then some (.int .i64 ((A0.length+i:Nat):Int))else f y):=e2.kept (hr tb Pv)
 have hbm2:BM mb tb bb (x::A) (A0.length+(i+1)) u2:=by
  refine⟨hh,⟨n',_,Ly,fun v hv=>?_⟩,by omega⟩
  by_cases Ux:v=x
  ·subst Ux;rw[if_pos rfl,OB,Pk];rfl
  ·rw[if_neg (fun e=>Ux (by simpa using e)),rW Ux];exact hf v hv
 have hbbl:bb<wr.heap.size:=aB Zn.bld;have Vo:tb<wr.heap.size:=Zn.BH;refine⟨by rw[Xt];exact hbm2,h.kn.trans Kj,fun tmps c K cs w7 hl Vh Yj hc7=>?_⟩;rw[Xt]at Vh;have Nn:Kn (fun k=>k=tb\/k=bb) wr w7:=Kj.trans Yj
 have Se:FB tb (0,x) (f (0,x)) u.heap.size w7:=e3.kept fun k Kj Jy=>by
  have Ke:=hu.size;rw[Yj.block k (by rw[hs];omega) (fun hd=>by rcases hd with hd|hd<;>omega),hr k (by omega)]
 obtain⟨n7,f7,Ta,Vz⟩:=Vh.tab;unfold LB;refine leaves_cons (f:=124) (by simp) (by simp[go_sem];rfl) ?_;refine(KQ (u:=.returning) Ta hx Se).mono ?_;rintro e u8 w8⟨rfl,rfl,⟨n8,Qi⟩,Sp⟩;have Vv:Kn (fun k=>k=tb\/k=bb) w7 w8:=(Kn.refl _ w7).AM Sp (inl (inl rfl));refine Rv tmps c K cs w8 hl ⟨(bJ Sp Vh.bld).trans Vh.bld,⟨n8,_,Qi,fun v hv=>?_⟩,Vh.len⟩ (Nn.trans Vv) (hc7.kept (Vh.kr Vv))
 by_cases Ux:v=x
 ·subst Ux;rw[if_pos rfl];exact hf v hv
 ·rw[if_neg (fun e=>Ux (by simpa using e)),Vz v hv,rW Ux]
end
end Go.Proofs.YthakgdfmbknakaaGreatDoor
