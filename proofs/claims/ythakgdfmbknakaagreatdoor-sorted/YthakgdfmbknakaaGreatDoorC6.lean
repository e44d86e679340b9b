import Derived.Test.YthakgdfmbknakaaGreatDoorC5
set_option linter.all false
set_option maxHeartbeats 40000000
set_option maxRecDepth 100000
open Go.Proofs.Tryz
open Or (inl inr)
open Option (map_eq_some_iff)
open Nat (le_refl le_trans zero_le lt_of_lt_of_le)
open List (append_nil length_append mem_cons_self mem_cons_of_mem mem_append mem_singleton append_assoc cons_append mem_cons map_append length_map map_cons nil_append)
namespace Go.Proofs.YthakgdfmbknakaaGreatDoor
open List (getElem?_map lookup_cons map_map)
open World (cell?)
open Value (ownBlock pointer)
open Go.RowKit
section
variable {ar:Nm->Nat}{ad:List Nat}{Y:Nat->Prop}{rk:Nat->Nat}{U:TS}{A:Env}{tb yb d:Nat}{gv:Value}{w w':World}{nb:Nat}{txt:Nm}
structure Bt(ad:List Nat)(tb yb:Nat)(gv:Value)(w:World)(l:List Nat)(gv':Value)(w':World):Prop where
 kn:Kn (Dm ad tb yb gv) w w'
 new:∀b∈l,w.heap.size<=b
 giv:∀b,gv'.ownBlock=some b->gv.ownBlock=some b\/w.heap.size<=b
def Bt.refl(ad:List Nat)(tb yb:Nat)(gv:Value)(w:World):Bt ad tb yb gv w [] gv w:=⟨Kn.refl _ _,by simp,fun _ h=>inl h⟩
def Bt.dm{l:List Nat}{gv':Value}(h:Bt ad tb yb gv w l gv' w'){k:Nat}(hk:k<w.heap.size)(hd:Dm (ad++l) tb yb gv' k):Dm ad tb yb gv k:=by
 rcases hd with hd|hd|hd|hd
 ·rcases mem_append.1 hd with hd|hd
  ·exact inl hd
  ·have:=h.new k hd;omega
 ·exact inr (inl hd)
 ·exact inr (inr (inl hd))
 ·rcases h.giv k hd with h1|h1
  ·exact inr (inr (inr h1))
  ·omega
def Bt.trans{l l2:List Nat}{gv' gv2:Value}{w2:World}(h:Bt ad tb yb gv w l gv' w')(k:Bt (ad++l) tb yb gv' w' l2 gv2 w2):Bt ad tb yb gv w (l++l2) gv2 w2:=by
 refine⟨h.kn.trans' k.kn fun i hi hd=>h.dm hi hd,fun b hb=>?_,fun b hb=>?_⟩
 ·rcases mem_append.1 hb with hb|hb
  ·exact h.new b hb
  ·exact le_trans h.kn.size (k.new b hb)
 ·rcases k.giv b hb with h1|h1
  ·exact h.giv b h1
  ·exact inr (le_trans h.kn.size h1)
def Bt.store{l l2:List Nat}{gv':Value}{w2:World}(h:Bt ad tb yb gv w l gv' w')(k:Kn (·∈ad++l) w' w2)(hl:∀b∈l2,w'.heap.size<=b):Bt ad tb yb gv w (l++l2) gv' w2:=
 h.trans ⟨k.dm,hl,fun _ hb=>inl hb⟩
def aJ.behind{l:List Nat}{gv':Value}{o:Option (Nat×TS)}{e:Ending}{w2:World}(h:Bt ad tb yb gv w l gv' w')(ha:aJ ar (ad++l) Y A tb yb d gv' o w' e w2):aJ ar ad Y A tb yb d gv o w e w2:=by
 obtain⟨hk,ha⟩:=ha;refine⟨h.kn.trans' hk fun i hi hd=>h.dm hi hd,?_⟩;rcases ha with ha|⟨t,U',l2,rk',gv2,h1,h2,h3,h4,h5,h6⟩
 ·exact inl ha
 ·have hb:=h.trans ⟨hk,h5,h6⟩;rw[append_assoc]at h2 h4;exact inr ⟨t,U',l++l2,rk',gv2,h1,h2,h3,h4,hb.new,hb.giv⟩
def cR.behind{l:List Nat}{gv':Value}{o:Option TS}{e:Ending}{w2:World}(h:Bt ad tb yb gv w l gv' w')(ha:cR ar (ad++l) Y A tb yb d gv' o w' e w2):cR ar ad Y A tb yb d gv o w e w2:=by
 obtain⟨hk,ha⟩:=ha;refine⟨h.kn.trans' hk fun i hi hd=>h.dm hi hd,?_⟩;rcases ha with ha|⟨U',l2,rk',gv2,h1,h2,h4,h5,h6⟩
 ·exact inl ha
 ·have hb:=h.trans ⟨hk,h5,h6⟩;rw[append_assoc]at h4;exact inr ⟨U',l++l2,rk',gv2,h1,h2,h4,hb.new,hb.giv⟩
def aJ.cases{o:Option (Nat×TS)}{e:Ending}(ha:aJ ar ad Y A tb yb d gv o w e w'):(o=none/\e=bE/\Kn (Dm ad tb yb gv) w w'/\∃n f,aQ cL eL w' tb n f) \/
  ∃t U' l rk' gv',o=some (t,U')/\e=.returned (aM (ad++l) t)/\t<U'.nodes.length/\YM ar (ad++l) Y rk' U' A tb yb d gv' w'/\Bt ad tb yb gv w l gv' w':=by
 obtain⟨hk,⟨h1,h2,h3⟩|⟨t,U',l,rk',gv',h1,h2,h3,h4,h5,h6⟩⟩:=ha
 ·exact inl ⟨h1,h2,hk,h3⟩
 ·exact inr ⟨t,U',l,rk',gv',h1,h2,h3,h4,hk,h5,h6⟩
def cR.cases{o:Option TS}{e:Ending}(ha:cR ar ad Y A tb yb d gv o w e w'):(o=none/\e=bE/\Kn (Dm ad tb yb gv) w w'/\∃n f,aQ cL eL w' tb n f) \/
  ∃U' l rk' gv',o=some U'/\e=.returned (.tuple #[])/\YM ar (ad++l) Y rk' U' A tb yb d gv' w'/\Bt ad tb yb gv w l gv' w':=by
 obtain⟨hk,⟨h1,h2,h3⟩|⟨U',l,rk',gv',h1,h2,h4,h5,h6⟩⟩:=ha
 ·exact inl ⟨h1,h2,hk,h3⟩
 ·exact inr ⟨U',l,rk',gv',h1,h2,h4,hk,h5,h6⟩
def aJ.ok{o:Option (Nat×TS)}{t:Nat}{U':TS}{l:List Nat}{rk':Nat->Nat}{gv':Value}(ho:o=some (t,U'))(ht:t<U'.nodes.length)(h:YM ar (ad++l) Y rk' U' A tb yb d gv' w')(hb:Bt ad tb yb gv w l gv' w'):aJ ar ad Y A tb yb d gv o w (.returned (aM (ad++l) t)) w':=
 ⟨hb.kn,inr ⟨t,U',l,rk',gv',ho,rfl,ht,h,hb.new,hb.giv⟩⟩
def cR.ok{o:Option TS}{U':TS}{l:List Nat}{rk':Nat->Nat}{gv':Value}(ho:o=some U')(h:YM ar (ad++l) Y rk' U' A tb yb d gv' w')(hb:Bt ad tb yb gv w l gv' w'):cR ar ad Y A tb yb d gv o w (.returned (.tuple #[])) w':=
 ⟨hb.kn,inr ⟨U',l,rk',gv',ho,rfl,h,hb.new,hb.giv⟩⟩
def cR.panic{o:Option TS}(ho:o=none)(hk:Kn (Dm ad tb yb gv) w w')(hm:∃n f,aQ cL eL w' tb n f):cR ar ad Y A tb yb d gv o w bE w':=⟨hk,inl ⟨ho,rfl,hm⟩⟩
def YM.grown{l:List Nat}{rk':Nat->Nat}{U':TS}{gv':Value}(h:YM ar ad Y rk U A tb yb d gv w)(h':YM ar (ad++l) Y rk' U' A tb yb d gv' w'):U.nodes.length<=U'.nodes.length:=by
 rw[<- h.len,<- h'.len,length_append];omega
def zR(o:Option (Nat×TS)):Option (Nat×TS):=o.map fun r=>(r.1,r.2.give r.1)
def FZ(o:Option (Nat×TS))(want:Nat):Option TS:=o.bind fun r=>r.2.AO r.1 want
def uJ{o:Option (Nat×TS)}(hF:Calls prog 210 #[aA yb,aA nb] w (aJ ar ad Y A tb yb d gv o w))(hn:∀t U',o=some (t,U')->U'.given.length<=100000000) :
  Calls prog 161 #[aA yb,aA nb] w (aJ ar ad Y A tb yb d gv (zR o) w):=by
 have Jz:∀e w1,aJ ar ad Y A tb yb d gv o w e w1->(e=bE/\aJ ar ad Y A tb yb d gv (zR o) w bE w1) \/
   ∃b Q1,e=.returned (aA b)/\Calls prog 209 #[aA yb,aA b] w1 Q1/\∀e w2,Q1 e w2->∃b,e=.returned (aA b)/\aJ ar ad Y A tb yb d gv (zR o) w (.returned (aA b)) w2:=by
  intro e w1 ha;rcases ha.cases with⟨rfl,h2,h3,h4⟩|⟨t,U',l,rk',gv',rfl,h2,h3,h4,h5⟩
  ·exact inl ⟨h2,aJ.panic rfl h3 h4⟩
  ·refine inr ⟨_,_,h2,zQ h4 h3 (hn _ _ rfl),fun e w2 hq=>?_⟩;have:=aJ.behind h5 hq;rcases hq.cases with⟨h6,_⟩|⟨t2,U2,l2,rk2,gv2,h6,h7,_⟩
   ·cases h6
   ·exact⟨_,h7,by rw[h7]at this;exact this⟩
 have HF:=aC hF;have Km:=aC Jz;clear hF Jz hn;generalize aJ ar ad Y A tb yb d gv o w=Q0 at *;generalize aJ ar ad Y A tb yb d gv (zR o) w=Q at *;unfold aA at *;go_enter func161,ntmps161;go_wp2_with fail;refine(HF.out).mono ?_;intro e w1 ha;rcases Km.out e w1 ha with⟨rfl,hq⟩|⟨b,Q1,rfl,hc,hq⟩
 ·have HG:=aC hq;clear ha hq Km HF;unfold bE bQ at *;go_wp2;exact⟨rfl,HG.out⟩
 ·have HC:=aC hc;have HG:=aC hq;clear ha hc hq Km HF;go_wp2_with fail;refine(HC.out).mono ?_;intro e w2 ha;obtain⟨b2,rfl,hq⟩:=HG.out e w2 ha;have HF:=aC hq;clear ha hq HG HC;go_wp2;exact HF.out
def PU(Ln:∀nm,ar nm<=1000000){o:Option (Nat×TS)}{want:Nat}(h:YM ar ad Y rk U A tb yb d gv w)(hw:want<U.nodes.length)(hE:Calls prog 161 #[aA yb,aA nb] w (aJ ar ad Y A tb yb d gv o w)) :
  Calls prog 113 #[aA yb,aA nb,aM ad want] w (cR ar ad Y A tb yb d gv (FZ o want) w):=by
 have Jz:∀e w1,aJ ar ad Y A tb yb d gv o w e w1->(e=bE/\cR ar ad Y A tb yb d gv (FZ o want) w bE w1) \/
   ∃b Q1,e=.returned (aA b)/\Calls prog 160 #[aA b,aM ad want] w1 Q1/\∀e w2,Q1 e w2->(e=.returned (.bool false)/\cR ar ad Y A tb yb d gv (FZ o want) w bE w2)\/(e=.returned (.bool true)/\cR ar ad Y A tb yb d gv (FZ o want) w (.returned (.tuple #[])) w2):=by
  intro e w1 ha;rcases ha.cases with⟨rfl,h2,h3,h4⟩|⟨t,U',l,rk',gv',rfl,h2,h3,h4,h5⟩
  ·exact inl ⟨h2,cR.panic rfl h3 h4⟩
  ·have D8:want<U'.nodes.length:=lt_of_lt_of_le hw (h.grown h4);have hU:=vT Ln h4.sto h3 D8;rw[eF (i:=want) l (by rw[h.len];exact hw)]at hU;refine inr ⟨_,_,h2,hU,fun e w2 hq=>?_⟩;obtain⟨hk,⟨q1,q2⟩|⟨U2,rk2,q1,q2,q3⟩⟩:=hq
   ·have hb:=h5.store hk (l2:=[]) (by simp);exact inl ⟨q2,cR.panic q1 hb.kn ⟨_,_,(h4.raw.choose_spec.choose_spec).kept (hk.block tb h4.BH h4.CE)⟩⟩
   ·have hb:=h5.store hk (l2:=[]) (by simp)
    have hg:U2.given=U'.given:=by
     have q1:U'.AO t want=some U2:=q1;unfold TS.AO at q1;obtain⟨r,hr,rfl⟩:=map_eq_some_iff.1 q1;exact(mI _ _ _ _ _ _ _ hr).1.given
    have hy:=h4.step (l:=[]) hk (by rw[append_nil];exact q3) hg;rw[append_assoc]at hy;exact inr ⟨q2,cR.ok q1 hy hb⟩
 have HE:=aC hE;have Km:=aC Jz;have W8:=aC oE;have Tw:=aC qY;clear hE Jz h hw;generalize aJ ar ad Y A tb yb d gv o w=Q0 at *;generalize cR ar ad Y A tb yb d gv (FZ o want) w=Q at *;unfold aM aA at *;generalize bH ad want=bw at *;go_enter func113,ntmps113;go_wp2_with fail;refine(HE.out).mono ?_;intro e w1 ha;rcases Km.out e w1 ha with⟨rfl,hq⟩|⟨b,Q1,rfl,hc,hq⟩
 ·have HG:=aC hq;clear ha hq Km HE;unfold bE bQ at *;go_wp2;exact⟨rfl,HG.out⟩
 ·have HC:=aC hc;have HG:=aC hq;clear ha hc hq Km HE;go_wp2_with fail;refine(HC.out).mono ?_;intro e w2 ha;rcases HG.out e w2 ha with⟨rfl,hq⟩|⟨rfl,hq⟩
  ·have HF:=aC hq;clear ha hq HG HC;go_wp2_with fail;refine(Tw.out w2).mono ?_;rintro e w3⟨rfl,rfl⟩;unfold bE bQ at *;go_wp2;exact⟨rfl,HF.out⟩
  ·have HF:=aC hq;clear ha hq HG HC;go_wp2_with fail;refine(W8.out w2).mono ?_;rintro e w3⟨rfl,rfl⟩;go_wp2;refine bodyPost_end (v:=.tuple #[]) (by simp[results,results113,go_sem]) rfl HF.out
end
section
variable {ar:Nm->Nat}{ad:List Nat}{Y:Nat->Prop}{rk:Nat->Nat}{U:TS}{A:Env}{tb yb d:Nat}{gv:Value}{w w':World}{nb:Nat}{txt:Nm}
structure dH(nb k:Nat)(txt:Nm)(g cap:Nat)(bl:List Nat)(w:World):Prop where
 node:w.heap[nb]?=some (.cells #[.int .i64 k,.string (bs txt),.slice (some ⟨g,0,none⟩) bl.length cap] cS (0,0))
 row:∃cs:Array Value,w.heap[g]?=some (.cells cs aH (0,0))/\∀(i b:Nat),bl[i]?=some b->cs[i]?=some (aA b)
def AB.pt{k:Nat}{ps:List Nd}(h:AB w (.mk k txt ps) nb)(Ju:ps≠[]):∃g cap bl,dH nb k txt g cap bl w/\AB.AD w ps bl/\bl.length=ps.length:=by
 obtain⟨pv,bl,h1,h2,h3⟩:=h.inv;have hl:=h3.len;rcases h2.2 with⟨rfl,h0⟩|⟨g,cap,cur,rfl,_,hg,h4,h5,h6,h7⟩
 ·exact absurd (List.length_eq_zero_iff.1 (by rw[<- hl];exact h0)) Ju
 ·refine⟨g,cap,bl,⟨h1,cur,hg,fun i b hb=>?_⟩,h3,hl⟩;have hi:=(List.getElem?_eq_some_iff.1 hb).1;have h8:(bl.map aA)[i]?=some (aA b):=by rw[getElem?_map,hb];rfl
  rw[<- h7]at h8;rw[List.getElem?_take_of_lt (by omega)]at h8
  simpa using h8
def dH.cells{k g cap:Nat}{bl:List Nat}(h:dH nb k txt g cap bl w):w.cell? ⟨nb,0,none⟩=some (.int .i64 k)/\w.cell? ⟨nb,1,none⟩=some (.string (bs txt))/\w.cell? ⟨nb,2,none⟩=some (.slice (some ⟨g,0,none⟩) bl.length cap)/\∀(i b:Nat),bl[i]?=some b->w.cell? ⟨g,i,none⟩=some (aA b):=by
 obtain⟨cs,h1,h2⟩:=h.row;refine⟨by simp[cell?,h.node],by simp[cell?,h.node],by simp[cell?,h.node],fun i b hb=>?_⟩;simp[cell?,h1,h2 i b hb]
def YM.pt(h:YM ar ad Y rk U A tb yb d gv w)(hk:Kn (Dm ad tb yb gv) w w'){k g cap:Nat}{bl:List Nat}(hp:dH nb k txt g cap bl w):dH nb k txt g cap bl w':=by
 obtain⟨cs,h1,h2⟩:=hp.row;refine⟨?_,cs,?_,h2⟩
 ·rw[hk.block nb (aB hp.node) (h.AU hp.node (by decide) (by decide) (by decide))];exact hp.node
 ·rw[hk.block g (aB h1) (h.AU h1 (by decide) (by decide) (by decide))];exact h1
def YM.tree(h:YM ar ad Y rk U A tb yb d gv w)(hk:Kn (Dm ad tb yb gv) w w'){nd:Nd}(hn:AB w nd nb):AB w' nd nb:=
 AB.kept (fun k c f hc=>hk.block k (aB hc) (h.AU hc (by decide) (by decide) (by decide))) (fun k c f hc=>hk.block k (aB hc) (h.AU hc (by decide) (by decide) (by decide))) nd nb hn
def Nd.sz:Nd->Nat
 |.mk _ _ ps=>szs ps+1
 where
 szs:List Nd->Nat
  |[]=>0
  |p::r=>p.sz+szs r
def oA(k:Nat)(ps:List Nd):Prop:=
 match k with
 |5=>ps.length=1
 |6=>ps.length=2
 |7=>False
 |8=>ps.length=3
 |9=>ps.length=2
 |10=>ps.length=2
 |11=>ps.length=2
 |12=>ps.length=1
 |13=>ps.length=2
 |15=>∃a r,ps=a::r/\a.k≠16/\∀x∈r,x.k=16
 |16=>ps.length=2
 |_=>True
def Ge(nd:Nd):Prop:=∀x∈nd.all,oA x.k x.ps/\x.txt.length<=100000000/\x.ps.length<=1000000
end
def LH(x:Nm):Prop:=x.length<=100000000
def YJ(x:Nm)(h:LH x):∃l,keyOf prog aI (bM x)=some l:=by
 have Ke:(bs x).size<=maxLen:=by
  have:(bs x).size=x.length:=by simp[bs,ByteArray.size]
  rw[this];unfold maxLen;unfold LH at h;omega
 refine⟨.string x,?_⟩;unfold keyOf bM;simp[mapKey,LV,Ke,dD]
def SN{a b:Nm}(h:bM a=bM b):a=b:=by
 unfold bM at h;simp only[Value.string.injEq]at h;have:=congrArg (fun b=>b.data.toList) h
 simpa [bs]using this
def LF:jL prog aI LH (fun _ _=>True) bM:=jL.of_law (WideMaps.string_law LV) YJ (fun _ _ h=>SN h)
abbrev NF:TypeId:=292
def yK:prog.underlying NF=some (.map aI aG):=by kernel_rfl
section
variable {ar:Nm->Nat}{ad:List Nat}{X:Nat->Prop}{rk:Nat->Nat}{U:TS}{w w':World}{ch:List (Nm×Nat)}{cb:Nat}
def RE(ad:List Nat)(ch:List (Nm×Nat))(cb:Nat)(w:World):Prop:=
 (∃n f,aQ LH bM w cb n f/\∀x j,LH x->ch.lookup x=some j->f x=some (aM ad j))/\∀p∈ch,p.2<ad.length
def RE.kept(h:RE ad ch cb w)(l:List Nat)(hk:w'.heap[cb]?=w.heap[cb]?):RE (ad++l) ch cb w':=by
 obtain⟨⟨n,f,h1,h2⟩,h3⟩:=h;refine⟨⟨n,f,h1.kept hk,fun x j hx hj=>?_⟩,fun p hp=>by rw[length_append];have:=h3 p hp;omega⟩;rw[h2 x j hx hj,eF l (h3 (x,j) (lV hj))]
def RE.lt(h:RE ad ch cb w):cb<w.heap.size:=by
 obtain⟨⟨n,f,h1,_⟩,_⟩:=h;exact h1.lt
def RE.look(h:RE ad ch cb w){x:Nm}{j:Nat}(hx:LH x)(hj:ch.lookup x=some j):(Instr.lookup NF (.map (some cb)) (.string (bs x)) false).run prog w=.ok (aM ad j) w:=by
 obtain⟨⟨n,f,h1,h2⟩,h3⟩:=h;have:=h1.look LF yK (wE w) hx trivial (fun _ _=>trivial) false;rw[h2 x j hx hj]at this;exact this
def Gl(ar:Nm->Nat)(ch:List (Nm×Nat))(q:Nd):Prop:=
 ∀x∈q.all,(x.k=21/\LH x.txt/\(ch.lookup x.txt).isSome=true)\/(x.k≠21/\x.k≠23/\x.txt≠[]/\x.ps.length=ar x.txt/\x.k<100)\/(x.k=23/\x.ps.length=2)
def tH{k:Nat}{txt:Nm}{ps:List Nd}{p x:Nd}(hp:p∈ps)(hx:x∈p.all):x∈(Nd.mk k txt ps).all:=by
 rw[Nd.all];exact mem_cons_of_mem _ (kM hp x hx)
def oP(q:Nd):q∈q.all:=by cases q;rw[Nd.all];exact mem_cons_self ..
def Gl.part{k:Nat}{txt:Nm}{ps:List Nd}{p:Nd}(h:Gl ar ch (.mk k txt ps))(hp:p∈ps):Gl ar ch p:=fun x hx=>h x (tH hp hx)
def lJ{ch:List (Nm×Nat)}:∀(n:Nat)(q:Nd)(U:TS),dR U (written n ch q U).2:=by
 intro n
 induction n with
 |zero=>intro q U;rw[written];exact dR.new _ _
 |succ n ih=>
  intro q U;obtain⟨k,txt,ps⟩:=q
  have hL:∀(ps:List Nd)(U:TS),dR U (written.writtenL (written n ch) ps U).2:=by
   intro ps
   induction ps with
   |nil=>intro U;exact dR.refl _
   |cons p r ihr=>intro U;rw[written.writtenL];exact(ih p U).trans (ihr _)
  rw[written]
  split
  ·split
   ·exact dR.refl _
   ·exact dR.new _ _
  ·dsimp only
   split
   ·split
    ·exact(hL ps U).trans (dR.new _ _)
    ·exact(hL ps U).trans (dR.new _ _)
   ·exact(hL ps U).trans (dR.new _ _)
def vU{g:Nd->TS->Nat×TS}:∀(ps:List Nd)(U:TS),(written.writtenL g ps U).1.length=ps.length:=by
 intro ps
 induction ps with
 |nil=>intro U;rfl
 |cons p r ih=>intro U;rw[written.writtenL];simp[ih]
def nI(ar:Nm->Nat)(ad:List Nat)(X:Nat->Prop)(rk:Nat->Nat)(o:Nat×TS)(w:World)(e:Ending)(w':World):Prop:=
 ∃l,e=.returned (aM (ad++l) o.1)/\o.1<o.2.nodes.length/\aO ar (ad++l) X rk o.2 w'/\Kn (fun _=>False) w w'/\∀b∈l,w.heap.size<=b
def XV(X:Nat->Prop)(v:Value)(b:Nat):Prop:=X b\/v.ownBlock=some b
structure kX(ar:Nm->Nat)(ad:List Nat)(X:Nat->Prop)(rk:Nat->Nat)(n:Nat)(ch:List (Nm×Nat))(cb:Nat)(U:TS)(w:World)(ps:List Nd)(js':List Nat)(U':TS)(k:Nat)(v:Value)(wr:World)(l:List Nat)(jsk:List Nat)(Uk:TS):Prop where
 rest:written.writtenL (written n ch) (ps.drop k) Uk=(js'.drop k,U')
 js:js'.take k=jsk
 len:jsk.length=k
 lt:∀q∈jsk,q<Uk.nodes.length
 ext:dR U Uk
 sto:aO ar (ad++l) (XV X v) rk Uk wr
 chm:RE (ad++l) ch cb wr
 kn:Kn (fun _=>False) w wr
 row:wr.ownsRow w.heap.size aG 1 v jsk.length (jsk.map (aM (ad++l)))
 new:∀b∈l,w.heap.size<=b
variable {n k:Nat}{ps:List Nd}{js':List Nat}{U':TS}
def kX.start(h:aO ar ad X rk U w)(hc:RE ad ch cb w)(hw:written.writtenL (written n ch) ps U=(js',U')):kX ar ad X rk n ch cb U w ps js' U' 0 (.slice none 0 0) w [] [] U:=by
 refine⟨by simpa using hw,by simp,rfl,by simp,dR.refl _,?_,by rw[append_nil];exact hc,Kn.refl _ _,⟨rfl,inl ⟨rfl,rfl⟩⟩,by simp⟩;rw[append_nil]
 exact h.narrow fun b hb=>by
  rcases hb with hb|hb
  ·exact hb
  ·simp[ownBlock]at hb
def kX.step{v:Value}{wr:World}{l jsk:List Nat}{Uk:TS}{p:Nd}(h:kX ar ad X rk n ch cb U w ps js' U' k v wr l jsk Uk)(hX:∀b,X b->b<w.heap.size)(hp:ps[k]?=some p)(hn:k<=1000000) :
  (∀b,XV X v b->b<wr.heap.size)/\∀e wr2,nI ar (ad++l) (XV X v) rk (written n ch p Uk) wr e wr2->∃bj:Nat,e=.returned (aA bj)/\(jsk.map (bH (ad++l))).length<=100000000/\w.heap.size<=wr2.heap.size/\wr2.ownsRow w.heap.size aG 1 v (jsk.map (bH (ad++l))).length ((jsk.map (bH (ad++l))).map aA) /\
   ∀v' w',w'.ownsRow w.heap.size aG 1 v' (jsk.map (bH (ad++l))++[bj]).length ((jsk.map (bH (ad++l))++[bj]).map aA)->(wr2.alloc (.cells #[.pointer (some ⟨bj,0,none⟩)] aG)).grownBy w' v.ownBlock->(∀g,v'.ownBlock=some g->v.ownBlock=some g\/wr2.heap.size<g) ->
    ∃l' jsk' Uk',kX ar ad X rk n ch cb U w ps js' U' (k+1) v' w' l' jsk' Uk':=by
 have Lv:=(List.getElem?_eq_some_iff.1 hp).1
 have hd:ps.drop k=p::ps.drop (k+1):=by
  rw[List.drop_eq_getElem_cons Lv];rw[List.getElem?_eq_getElem Lv]at hp;rw[Option.some.inj hp]
 have Na:=h.rest;rw[hd,written.writtenL]at Na;simp only[Prod.mk.injEq]at Na;obtain⟨Nk,Nc⟩:=Na
 have Z6:js'.drop (k+1)=(written.writtenL (written n ch) (ps.drop (k+1)) (written n ch p Uk).2).1:=by
  rw[<- List.tail_drop,<- Nk];rfl
 have hjk:js'[k]?=some (written n ch p Uk).1:=by
  rw[<- List.head?_drop,<- Nk];rfl
 have Qs:∀b,v.ownBlock=some b->w.heap.size<=b/\b<wr.heap.size:=fun b hb=>h.row.lt b hb;refine⟨fun b hb=>?_,?_⟩
 ·rcases hb with hb|hb
  ·exact lt_of_lt_of_le (hX b hb) h.kn.size
  ·exact(Qs b hb).2
 rintro e wr2⟨l2,e1,e2,e3,e4,e5⟩;have hold:∀q,q<wr.heap.size->wr2.heap[q]?=wr.heap[q]?:=fun q hq=>e4.block q hq fun h=>h;have Qt:wr2.ownsRow w.heap.size aG 1 v jsk.length (jsk.map (aM (ad++l))):=aE h.row fun q c f _ hc=>hold q (aB hc);have Ke:w.heap.size<=wr2.heap.size:=le_trans h.kn.size e4.size;refine⟨bH (ad++l++l2) (written n ch p Uk).1,e1,by rw[length_map,h.len];omega,Ke,by rw[length_map,map_map];exact Qt,?_⟩;intro v' w2 ho hg hl
 have hX':∀q,q<wr2.heap.size->v.ownBlock≠some q->w2.heap[q]?=wr2.heap[q]?:=fun q hq Ju=>by
  rw[hg.block q (by rw[aK];omega) (fun e=>Ju e.symm),Below.heap_alloc _ _ _ hq]
 have Wd:=lJ n p Uk (ch:=ch);have Mc:∀q∈jsk,q<(ad++l).length:=fun q hq=>by rw[h.sto.len];exact h.lt q hq
 refine⟨l++l2,jsk++[(written n ch p Uk).1],(written n ch p Uk).2,?_,?_,by simp[h.len],?_,h.ext.trans Wd,?_,?_,?_,?_,?_⟩
 ·rw[Z6];exact Prod.ext rfl Nc
 ·rw[List.take_add_one,h.js,hjk];rfl
 ·intro q hq;rcases mem_append.1 hq with hq|hq
  ·exact lt_of_lt_of_le (h.lt q hq) Wd.len
  ·rw[mem_singleton.1 hq];exact e2
 ·rw[<- append_assoc];refine e3.reX (fun q hq=>?_) (fun q c f hx hc=>?_) (fun q hq hx=>?_)
  ·obtain⟨c,f,hc⟩:=e3.isT hq;refine hX' q (aB hc) fun e=>?_;rcases Qt.2 with⟨rfl,_⟩|⟨g,cap,cur,rfl,_,Ng,_⟩
   ·simp[ownBlock]at e
   ·have:g=q:=by simpa [ownBlock]using e
    subst this;rw[Ng]at hc;exact absurd (aN hc) (by decide)
  ·exact hX' q (aB hc) fun e=>hx (inr e)
  ·rcases hx with hx|hx
   ·exact inl hx
   ·rcases hl q hx with hl|hl
    ·exact inr hl
    ·omega
 ·rw[<- append_assoc];refine h.chm.kept l2 ?_;have Js:=h.chm.lt;rw[hX' cb (lt_of_lt_of_le Js e4.size) (fun e=>?_),hold cb Js];obtain⟨⟨n,f,⟨es,cl,hm,_⟩,_⟩,_⟩:=h.chm;rcases h.row.2 with⟨rfl,_⟩|⟨g,cap,cur,rfl,_,Ng,_⟩
  ·simp[ownBlock]at e
  ·have:g=cb:=by simpa [ownBlock]using e
   subst this;rw[Ng]at hm;cases hm
 ·exact((h.kn.trans e4).alloc _).grown hg fun q hq=>inr (Qs q hq).1
 ·rw[<- append_assoc,map_append,lT l2 jsk Mc];rw[map_append,length_append,length_map,map_map]at ho;rw[length_append];exact ho
 ·intro b hb;rcases mem_append.1 hb with hb|hb
  ·exact h.new b hb
  ·exact le_trans h.kn.size (e5 b hb)
def kX.done{v:Value}{wr:World}{l jsk:List Nat}{Uk:TS}(h:kX ar ad X rk n ch cb U w ps js' U' ps.length v wr l jsk Uk):Uk=U'/\jsk=js':=by
 have h1:=h.rest;rw[List.drop_length,written.writtenL]at h1;simp only[Prod.mk.injEq]at h1;refine⟨h1.2,?_⟩;rw[<- h.js];have:js'.length<=ps.length:=List.drop_eq_nil_iff.1 h1.1.symm;exact List.take_of_length_le this
def kX.named{v:Value}{wr:World}{l jsk:List Nat}{Uk:TS}{txt:Nm}(h:kX ar ad X rk n ch cb U w ps js' U' ps.length v wr l jsk Uk)(hX:∀b,X b->b<w.heap.size)(ht:txt≠[])(ha:ps.length=ar txt) :
  nI ar ad X rk (U'.named txt js') w (.returned (aA wr.heap.size)) (wr.alloc (.cells #[.string (bs txt),v,.pointer none,.int .i64 0] aT)):=by
 obtain⟨rfl,rfl⟩:=h.done;have hl:=h.len
 have hs:=(h.sto.narrow (Y:=X) fun b hb=>inl hb).new (t:=⟨txt,jsk,0⟩) (pv:=v) h.lt (fun e=>absurd e ht) (fun _=>by show jsk.length=ar txt;rw[hl,ha]) (by
  show wr.ownsRow 0 aG 1 v jsk.length (jsk.map (aM (ad++l)))
  exact bN h.row (zero_le _)) (fun g hg hx=>by
  have h1:=(h.row.lt g hg).1;have h2:=hX g hx
  omega)
 refine⟨l++[wr.heap.size],?_,?_,?_,h.kn.alloc _,?_⟩
 ·rw[<- append_assoc]
  show Ending.returned (aA wr.heap.size)=.returned (aM (ad++l++[wr.heap.size]) Uk.nodes.length);unfold aM;rw[<- h.sto.len,fC]
 ·simp[TS.named,TS.new]
 ·rw[<- append_assoc];exact hs
 ·intro b hb;rcases mem_append.1 hb with hb|hb
  ·exact h.new b hb
  ·rw[mem_singleton.1 hb];exact h.kn.size
def kX.arrow{v:Value}{wr:World}{l jsk:List Nat}{Uk:TS}{x y:Nat}(h:kX ar ad X rk n ch cb U w ps js' U' ps.length v wr l jsk Uk)(hX:∀b,X b->b<w.heap.size)(h2:ar bA=2)(hj:js'=[x,y]) :
  ∃g cap,v=.slice (some ⟨g,0,none⟩) 2 cap/\Calls prog 37 #[v] wr fun e w'=>∃b,e=.returned (aA b)/\nI ar ad X rk (U'.named bA [x,y]) w (.returned (aA b)) w':=by
 obtain⟨rfl,rfl⟩:=h.done;subst hj;have hx:=h.lt x (by simp);have hy:=h.lt y (by simp);rcases h.row.2 with⟨_,h0⟩|⟨g,cap,cur,rfl,Ov,hg,Ny,Mv,Xr,hc4⟩
 ·cases h0
 refine⟨g,cap,rfl,?_⟩
 have c0:cur[0]?=some (aM (ad++l) x):=by
  have:=congrArg (fun l=>l[0]?) hc4;simp only[List.getElem?_take]at this
  simpa using this
 have c1:cur[1]?=some (aM (ad++l) y):=by
  have:=congrArg (fun l=>l[1]?) hc4;simp only[List.getElem?_take]at this
  simpa using this
 refine(kZ (b1:=bH (ad++l) x) (b2:=bH (ad++l) y) (cap:=cap) hg c0 c1).mono ?_;rintro e w'⟨rfl,rfl⟩;have hs:=(h.sto.narrow (Y:=X) fun b hb=>inl hb).arrow hx hy h2 (fun b hb=>lt_of_lt_of_le (hX b hb) h.kn.size);refine⟨_,rfl,l++[wr.heap.size+1],?_,?_,?_,(h.kn.alloc _).alloc _,?_⟩
 ·rw[<- append_assoc]
  show Ending.returned (aA (wr.heap.size+1))=.returned (aM (ad++l++[wr.heap.size+1]) Uk.nodes.length);unfold aM;rw[<- h.sto.len,fC]
 ·simp[TS.named,TS.new]
 ·rw[<- append_assoc];exact hs
 ·intro b hb;rcases mem_append.1 hb with hb|hb
  ·exact h.new b hb
  ·rw[mem_singleton.1 hb];exact Nat.le_succ_of_le h.kn.size
end
section
variable {ar:Nm->Nat}{rk:Nat->Nat}{ch:List (Nm×Nat)}{cb:Nat}
def qM(Ln:∀nm,ar nm<=1000000)(h2:ar bA=2):∀(n:Nat)(ad:List Nat)(X:Nat->Prop)(U:TS)(q:Nd)(qb:Nat)(w:World),q.ht<n->AB w q qb->Gl ar ch q->aO ar ad X rk U w->RE ad ch cb w->(∀b,X b->b<w.heap.size) ->
  Calls prog 288 #[aA qb,.map (some cb)] w (nI ar ad X rk (written n ch q U) w):=by
 intro n
 induction n with
 |zero=>intro ad X U q qb w h;omega
 |succ n ih=>
  intro ad X U q qb w hn hm hW hS hC hX;obtain⟨k,txt,ps⟩:=q;obtain⟨pv,bl,n1,n2,n3⟩:=hm.inv;have c0:w.cell? ⟨qb,0,none⟩=some (.int .i64 k):=by simp[cell?,n1]
  have c1:w.cell? ⟨qb,1,none⟩=some (.string (bs txt)):=by simp[cell?,n1]
  have c2:w.cell? ⟨qb,2,none⟩=some pv:=by simp[cell?,n1]
  have Oi:=hW _ (oP _)
  by_cases hk:k=21
  ·subst hk;rcases Oi with⟨_,Lb,Mq⟩|⟨h,_⟩|⟨h,_⟩
   ·obtain⟨j,hj⟩:=Option.isSome_iff_exists.1 Mq;have Lm:=hC.look Lb hj;have Mc:=hC.2 (_,j) (lV hj)
    have Jp:nI ar ad X rk (written (n+1) ch (.mk 21 txt ps) U) w (.returned (aM ad j)) w:=by
     rw[written,if_pos rfl];have hj:ch.lookup txt=some j:=hj;rw[hj];exact⟨[],by simp,by rw[<- hS.len];exact Mc,by rw[append_nil];exact hS,Kn.refl _ _,by simp⟩
    have HF:=aC Jp;have Lm:(Instr.lookup NF (.map (some cb)) (.string (bs txt)) false).run prog w=.ok (aM ad j) w:=Lm;clear Jp ih hm hW hS hC hX n1 n2 n3 c2 Lb Mq;generalize nI ar ad X rk (written (n+1) ch (.mk 21 txt ps) U) w=Q at *;unfold aM aA at *;generalize bs txt=tx at *;go_enter func288,ntmps288;go_wp2;exact HF.out
   ·exact absurd rfl h
   ·cases h
  ·have Jm:=n3.len
   have Nb:ps.length<=1000000:=by
    rcases Oi with⟨h,_⟩|⟨_,_,_,h,_⟩|⟨_,h⟩
    ·exact absurd h hk
    ·have h:ps.length=ar txt:=h;rw[h];exact Ln _
    ·have h:ps.length=2:=h;omega
   have Mj:k<100:=by
    rcases Oi with⟨h,_⟩|⟨_,_,_,_,h⟩|⟨h,_⟩
    ·exact absurd h hk
    ·exact h
    ·have h:k=23:=h;omega
   obtain⟨js',U',D5⟩:∃js' U',written.writtenL (written n ch) ps U=(js',U'):=⟨_,_,rfl⟩;have Jz:=kX.start hS hC D5 (n:=n);have Kp:=fun(k:Nat) (v:Value) (wr:World) (l jsk:List Nat) (Uk:TS) (p:Nd) (h:kX ar ad X rk n ch cb U w ps js' U' k v wr l jsk Uk) (hp:ps[k]?=some p)=>h.step hX hp (by have:=(List.getElem?_eq_some_iff.1 hp).1;omega)
   have Jq:∀(i:Nat)(v:Value)(wr:World)(l jsk:List Nat)(Uk:TS)(p:Nd),kX ar ad X rk n ch cb U w ps js' U' i v wr l jsk Uk->ps[i]?=some p->∃b,(∀g cap,pv=.slice (some ⟨g,0,none⟩) bl.length cap->wr.cell? ⟨g,i,none⟩=some (aA b))/\Calls prog 288 #[aA b,.map (some cb)] wr (nI ar (ad++l) (XV X v) rk (written n ch p Uk) wr):=by
    intro i v wr l jsk Uk p Kl hp;obtain⟨b,hb,Mp⟩:=n3.at hp;have Jv:=List.mem_of_getElem? hp;refine⟨b,fun g cap Vp=>?_,ih (ad++l) (XV X v) Uk p b wr (Nd.BG Jv hn) (AB.kept (fun q c f hc=>Kl.kn.block q (aB hc) fun h=>h) (fun q c f hc=>Kl.kn.block q (aB hc) fun h=>h) p b Mp) (hW.part Jv) Kl.sto Kl.chm (Kp i v wr l jsk Uk p Kl hp).1⟩;subst Vp;have Jn:wr.ownsRow 0 aH 1 (.slice (some ⟨g,0,none⟩) bl.length cap) bl.length (bl.map aA):=aE n2 fun q c f _ hc=>Kl.kn.block q (aB hc) fun h=>h;have hi:=(List.getElem?_eq_some_iff.1 hb).1;rw[Jn.cellAt i (by omega),getElem?_map,hb];rfl
   have Mn:∀(i:Nat)(v:Value)(wr:World)(l jsk:List Nat)(Uk:TS),kX ar ad X rk n ch cb U w ps js' U' i v wr l jsk Uk->wr.cell? ⟨qb,0,none⟩=some (.int .i64 k)/\wr.cell? ⟨qb,1,none⟩=some (.string (bs txt))/\∃a c,v=.slice a i c:=by
    intro i v wr l jsk Uk Kl;have hb:wr.heap[qb]?=w.heap[qb]?:=Kl.kn.block qb (aB n1) fun h=>h;refine⟨by simp[cell?,hb,n1],by simp[cell?,hb,n1],?_⟩;have hl:=Kl.len;rcases aD Kl.row with⟨h,h0⟩|⟨g,cap,h⟩
    ·exact⟨none,0,by rw[h];congr 1;omega⟩
    ·exact⟨_,cap,by rw[h,hl]⟩
   have Jp:∀(v:Value)(wr:World)(l jsk:List Nat)(Uk:TS),kX ar ad X rk n ch cb U w ps js' U' ps.length v wr l jsk Uk->(k=23->∃g cap,v=.slice (some ⟨g,0,none⟩) 2 cap/\Calls prog 37 #[v] wr fun e w'=>∃b,e=.returned (aA b)/\nI ar ad X rk (written (n+1) ch (.mk k txt ps) U) w (.returned (aA b)) w') /\
     (k≠23->nI ar ad X rk (written (n+1) ch (.mk k txt ps) U) w (.returned (aA wr.heap.size)) (wr.alloc (.cells #[.string (bs txt),v,.pointer none,.int .i64 0] aT))):=by
    intro v wr l jsk Uk Kl;have Mc:js'.length=ps.length:=by have:=vU (g:=written n ch) ps U;rw[D5]at this;exact this
    rw[written,if_neg hk,D5];refine⟨fun e=>?_,fun e=>?_⟩
    ·subst e
     have Qu:ps.length=2:=by
      rcases Oi with⟨h,_⟩|⟨_,h,_⟩|⟨_,h⟩
      ·cases h
      ·exact absurd rfl h
      ·exact h
     rw[Qu]at Mc
     obtain⟨x,y,rfl⟩:∃x y,js'=[x,y]:=by
      match js',Mc with
      |[x,y],_=>exact⟨x,y,rfl⟩
     rw[if_pos rfl];exact Kl.arrow hX h2 rfl
    ·rw[if_neg e];rcases Oi with⟨h,_⟩|⟨_,_,h3,h4,_⟩|⟨h,_⟩
     ·exact absurd h hk
     ·exact Kl.named hX h3 h4
     ·exact absurd h e
   have Ob:=bI n2
   have Kt:∃a cap,pv=.slice a bl.length cap/\(0<bl.length->∃g,a=some ⟨g,0,none⟩/\g<w.heap.size):=by
    rcases aD n2 with⟨h,h0⟩|⟨g,cap,h⟩
    ·exact⟨none,0,by rw[h,h0],fun h=>by omega⟩
    ·exact⟨_,cap,h,fun _=>⟨g,rfl,(n2.lt g (by rw[h];rfl)).2⟩⟩
   obtain⟨a,cap,rfl,ha⟩:=Kt;have Nt:=fun(s:ByteArray) (a:Option Addr) (n c:Nat) (w:World)=>gE s a n c w;have Ke:∀(i:Nat)(v:Value)(wr:World)(l jsk:List Nat)(Uk:TS),kX ar ad X rk n ch cb U w ps js' U' i v wr l jsk Uk->w.heap.size<=wr.heap.size:=fun i v wr l jsk Uk Kl=>Kl.kn.size;have Ku:=aC Kp;have Yd:=aC Jq;have Uu:=aC Mn;have Kk:=aC Jp;have Sv:=aC Nt;have Kd:Hid (∃l jsk Uk,kX ar ad X rk n ch cb U w ps js' U' 0 (.slice none 0 0) w l jsk Uk):=aC ⟨[],[],U,Jz⟩;have HSZ:=aC Ke;clear Ke;have hq21:¬(k:Int)=21:=by omega
   clear Kp Jq Mn Jp Nt Jz ih hm hW hS hC hX n1 n2 n3 D5 Oi Ln h2 hn;rw[Jm]at *;generalize A6:ps.length=pn at *;generalize nI ar ad X rk (written (n+1) ch (.mk k txt ps) U) w=Q at *;unfold aA at *;generalize bs txt=tx at *;go_enter func288,ntmps288;go_wp2_with fail
   go_loopg [5,24] pn (fun gk v5 v24 wr=>∃i,v24=.int .i64 (i:Nat)/\i+gk=pn/\Hid (∃l jsk Uk,kX ar ad X rk n ch cb U w ps js' U' i v5 wr l jsk Uk))
   case atStart=>exact⟨0,rfl,by omega,Kd⟩
   case round=>
    clear Kd;obtain⟨i,rfl,hi,Kd⟩:=hrel;obtain⟨l,jsk,Uk,Kl⟩:=Kd.out;obtain⟨d0,d1,av,cv,rfl⟩:=Uu.out _ _ _ _ _ _ Kl;have hszw:=HSZ.out _ _ _ _ _ _ Kl
    by_cases Js:i<pn
    ·have Lc:i<ps.length:=by omega
     have hp:ps[i]?=some ps[i]:=List.getElem?_eq_getElem Lc;generalize ps[i]=p at hp;obtain⟨b,Kz,Mf⟩:=Yd.out _ _ _ _ _ _ p Kl hp;obtain⟨_,Ml⟩:=Ku.out _ _ _ _ _ _ p Kl hp;obtain⟨g,rfl,G7⟩:=ha (by omega);have Qo:g<wr.heap.size:=by omega
     have Kh:=Kz g cap rfl;have HC:=aC Mf;have Vk:=aC Ml;have Jt:(i:Int)<(pn:Int):=by omega
     clear Kz Mf Ml Kl Kd Yd Ku Uu Kk Sv HSZ hp d0 d1 c0 c1 c2;go_wp2_with fail;refine(HC.out).mono ?_;intro e wr2 hq;obtain⟨bj,rfl,Mc,Ke,Jr,Oa⟩:=Vk.out e wr2 hq;have Rq:=aC Oa;clear hq Oa HC Vk;generalize jsk.map (bH (ad++l))=js at *
     go_wp2_with (at_builtin;refine pV rfl _ _ rfl bj Jr Mc Ke rfl rfl ?_)
     intro v' w2 ho hg HL;have ho:w2.ownsRow w.heap.size aG 1 v' (js++[bj]).length ((js++[bj]).map aA):=by rw[length_append,map_append];exact ho
     have HF:=aC (Rq.out v' w2 ho hg HL.out);clear hg HL Rq Jr
     obtain⟨g',cap',rfl⟩:∃g' cap',v'=.slice (some ⟨g',0,none⟩) (js++[bj]).length cap':=by
      rcases aD ho with⟨_,Ou⟩|h
      ·simp at Ou
      ·exact h
     clear ho;generalize (js++[bj]).length=jn at *;go_wp2_with fail
     go_roundg (pn-(i+1))
     case rel=>exact⟨i+1,by simp,by omega,HF⟩
     case measure=>omega
    ·have Kg:i=pn:=by omega
     subst Kg;obtain⟨Wc,Wa⟩:=Kk.out _ _ _ _ _ Kl;have Zu:=aC Wc;have L6:=aC Wa;have Jt:¬(i:Int)<(i:Int):=by omega
     clear Wc Wa Kl Kd Yd Ku Uu Kk HSZ c0 c1 c2
     by_cases R6:k=23
     ·subst R6;obtain⟨g,cap2,hv,hc⟩:=Zu.out rfl;cases hv;have HC:=aC hc;clear hc Zu L6;go_wp2_with fail;refine(HC.out).mono ?_;rintro e w3⟨b,rfl,hq⟩;have HG:=aC hq;clear hq HC;go_wp2;exact HG.out
     ·have HG:=aC (L6.out R6);have hq23:¬(k:Int)=23:=by omega
      have Tw:=aC (Sv.out tx av i cv wr);clear Zu L6 Sv;go_wp2_with fail;refine(Tw.out).mono ?_;rintro e w3⟨rfl,rfl⟩;clear Tw;go_wp2;exact HG.out
end
section
variable {ar:Nm->Nat}{ad:List Nat}{Y:Nat->Prop}{rk:Nat->Nat}{U:TS}{A:Env}{tb yb d:Nat}{gv:Value}{w w':World}{nb:Nat}{txt:Nm}
def YM.arrow(h:YM ar ad Y rk U A tb yb d gv w){x y:Nat}(hx:x<U.nodes.length)(hy:y<U.nodes.length)(h2:ar bA=2) :
  YM ar (ad++[w.heap.size+1]) Y rk (U.named bA [x,y]).2 A tb yb d gv ((w.alloc (.cells #[aM ad x,aM ad y] aG)).alloc (.cells #[.string (bs bA),.slice (some ⟨w.heap.size,0,none⟩) 2 2,.pointer none,.int .i64 0] aT)):=
 h.step (((Kn.refl _ w).alloc _).alloc _) (h.sto.arrow hx hy h2 (fun g hg=>by
  rcases hg with hg|hg
  ·exact h.yok g hg
  ·exact h.BY hg)) rfl
def qL(h:YM ar ad Y rk U A tb yb d gv w){x y:Nat}(hx:x<U.nodes.length)(hy:y<U.nodes.length)(h2:ar bA=2) :
  Calls prog 37 #[.slice (some ⟨w.heap.size,0,none⟩) 2 2] (w.alloc (.cells #[aM ad x,aM ad y] aG)) fun e w'=>∃b,e=.returned (aA b)/\aJ ar ad Y A tb yb d gv (some (U.named bA [x,y])) w (.returned (aA b)) w':=by
 have Tz:=h.alloc (.cells #[aM ad x,aM ad y] aG);have hc:=kZ (b1:=bH ad x) (b2:=bH ad y) (cap:=2) (c:=#[aM ad x,aM ad y]) (w:=w.alloc (.cells #[aM ad x,aM ad y] aG)) (g:=w.heap.size) (MapKept.heap_alloc w _).1 rfl rfl;refine hc.mono ?_;rintro e w'⟨rfl,rfl⟩;have Rd:=Tz.arrow hx hy h2
 have hb:Bt ad tb yb gv w [w.heap.size+1+1] gv (((w.alloc (.cells #[aM ad x,aM ad y] aG)).alloc (.cells #[aM ad x,aM ad y] aG)).alloc (.cells #[.string (bs bA),.slice (some ⟨w.heap.size+1,0,none⟩) 2 2,.pointer none,.int .i64 0] aT)):=
  ⟨(((Kn.refl _ w).alloc _).alloc _).alloc _,fun b hb=>by rw[mem_singleton.1 hb];omega,fun b hb=>inl hb⟩
 rw[aK]at Rd;refine⟨_,rfl,?_⟩;have Lb:=aJ.ok (o:=some (U.named bA [x,y])) (t:=U.nodes.length) rfl (by simp[TS.named,TS.new]) Rd hb
 have:aM (ad++[w.heap.size+1+1]) U.nodes.length=aA (w.heap.size+1+1):=by
  unfold aM;rw[<- h.len,fC]
 rw[this]at Lb;rw[aK];exact Lb
def PH(a:Nat)(o:Option (Nat×TS)):Option (Nat×TS):=o.map fun r=>r.2.named bA [a,r.1]
def zT{k g cap ba:Nat}{o:Option (Nat×TS)}(h2:ar bA=2)(h:YM ar ad Y rk U A tb yb d gv w)(hp:dH nb k txt g cap [ba] w)
  (hW:∀u,Kn (Dm ad tb yb gv) w u->YM ar (ad++[w.heap.size]) Y rk (U.letter d).2 A tb yb d gv u->Calls prog 212 #[aA yb,.string (bs txt),aM (ad++[w.heap.size]) U.nodes.length,aA ba] u (aJ ar (ad++[w.heap.size]) Y A tb yb d gv o u)) :
  Calls prog 263 #[aA yb,aA nb] w (aJ ar ad Y A tb yb d gv (PH U.nodes.length o) w):=by
 have hL:=gB h;have h1:=h.letter d;have Kj:Kn (fun _=>False) w (w.alloc (.cells #[.string (bs []),.slice none 0 0,.pointer none,.int .i64 d] aT)):=(Kn.refl _ w).alloc _;have ha:aM (ad++[w.heap.size]) U.nodes.length=aA w.heap.size:=by unfold aM;rw[<- h.len,fC]
 rw[ha]at hW;generalize My:w.alloc (.cells #[.string (bs []),.slice none 0 0,.pointer none,.int .i64 d] aT)=w1 at *;have Kz:Bt ad tb yb gv w [w.heap.size] gv w1:=⟨Kj.wide fun _ _ h=>h.elim,fun b hb=>by rw[mem_singleton.1 hb];exact le_refl _,fun _ hb=>inl hb⟩;have Rs:=h.pt Kz.kn hp
 have Jw:∀u,Kn (fun _=>False) w1 u->u.cell? ⟨nb,1,none⟩=some (.string (bs txt))/\u.cell? ⟨nb,2,none⟩=some (.slice (some ⟨g,0,none⟩) 1 cap)/\u.cell? ⟨g,0,none⟩=some (aA ba):=fun u hu=>by
  have:=(h1.pt (hu.wide fun _ _ h=>h.elim) Rs).cells;exact⟨this.2.1,this.2.2.1,this.2.2.2 0 ba rfl⟩
 have Qc:∀u,Kn (fun _=>False) w1 u->Calls prog 212 #[aA yb,.string (bs txt),aA w.heap.size,aA ba] u (aJ ar (ad++[w.heap.size]) Y A tb yb d gv o u):=fun u hu=>
  hW u (Kz.kn.trans (hu.wide fun _ _ h=>h.elim)) (h1.stays hu)
 have Qj:∀u,Kn (fun _=>False) w1 u->Bt ad tb yb gv w [w.heap.size] gv u:=fun u hu=>⟨Kz.kn.trans (hu.wide fun _ _ h=>h.elim),Kz.new,Kz.giv⟩
 have Jp:∀u,Kn (fun _=>False) w1 u->∀e u2,aJ ar (ad++[w.heap.size]) Y A tb yb d gv o u e u2->(e=bE/\aJ ar ad Y A tb yb d gv (PH U.nodes.length o) w bE u2) \/
   ∃b,e=.returned (aA b)/\(u2.cell? ⟨nb,1,none⟩=some (.string (bs txt))/\u2.cell? ⟨nb,2,none⟩=some (.slice (some ⟨g,0,none⟩) 1 cap)/\u2.cell? ⟨g,0,none⟩=some (aA ba))/\Calls prog 37 #[.slice (some ⟨u2.heap.size,0,none⟩) 2 2] (u2.alloc (.cells #[aA w.heap.size,aA b] aG)) fun e w'=>∃b,e=.returned (aA b)/\aJ ar ad Y A tb yb d gv (PH U.nodes.length o) w (.returned (aA b)) w'/\(w'.cell? ⟨nb,1,none⟩=some (.string (bs txt))/\w'.cell? ⟨nb,2,none⟩=some (.slice (some ⟨g,0,none⟩) 1 cap)/\w'.cell? ⟨g,0,none⟩=some (aA ba)):=fun u hu e u2 hq=>by
  have Qj:=Qj u hu;rcases hq.cases with⟨rfl,q2,q3,q4⟩|⟨t,U',l,rk',gv',rfl,q2,q3,q4,q5⟩
  ·exact inl ⟨q2,aJ.panic rfl (Qj.kn.trans' q3 fun i hi hd=>Qj.dm hi hd) q4⟩
  ·have Nr:=(h.pt (Qj.kn.trans' q5.kn fun i hi hd=>Qj.dm hi hd) hp).cells;refine inr ⟨_,q2,⟨Nr.2.1,Nr.2.2.1,Nr.2.2.2 0 ba rfl⟩,?_⟩;have Jm:=h1.grown q4
   have Kv:U.nodes.length<U'.nodes.length:=by
    have:(U.letter d).2.nodes.length=U.nodes.length+1:=by simp[TS.letter,TS.new]
    omega
   have hF:=qL q4 Kv q3 h2
   have Qk:aM (ad++[w.heap.size]++l) U.nodes.length=aA w.heap.size:=by
    rw[eF l (by rw[length_append,h.len];simp)];exact ha
   rw[Qk]at hF;refine hF.mono ?_;rintro e w'⟨b,rfl,hf⟩;have hfa:=aJ.behind Qj (aJ.behind q5 hf);have Nr:=(h.pt hfa.1 hp).cells;exact⟨b,rfl,hfa,Nr.2.1,Nr.2.2.1,Nr.2.2.2 0 ba rfl⟩
 have HL:=aC hL;have Mi:=aC (show Kn (fun _=>False) w1 w1.drew from(Kn.refl _ _).drew);have k6:=aC Jw;have HW:=aC Qc;have Kk:=aC Jp;clear hL h1 Kj Kz Rs Jw Qc hW h hp ha Qj Jp;generalize aJ ar ad Y A tb yb d gv (PH U.nodes.length o) w=Q at *;generalize bs txt=tx at *;unfold bE bQ aA at *;generalize Kn (fun _=>False) w1=V at *;go_enter func263,ntmps263;go_wp2_with fail;refine(HL.out).mono ?_;rintro e w2⟨rfl,rfl⟩;clear HL;obtain⟨c1a,c2a,c3a⟩:=k6.out _ Mi.out;go_wp2_with fail
 go_region_held2 (fun w'=>w'.cell? ⟨nb,1,none⟩=some (.string tx)/\w'.cell? ⟨nb,2,none⟩=some (.slice (some ⟨g,0,none⟩) 1 cap)/\w'.cell? ⟨g,0,none⟩=some (.pointer (some ⟨ba,0,none⟩))) (first|exact⟨c1a,c2a,c3a⟩|exact⟨aL c1a,aL c2a,aL c3a⟩) (first|(go_at_call 212;refine(HW.out _ Mi.out).mono ?_;intro e u2 hq;rcases Kk.out _ Mi.out e u2 hq with⟨rfl,hp⟩|⟨b,rfl,⟨c1a,c2a,c3a⟩,hc⟩;(focus (exact⟨rfl,hp⟩));have HC:=aC hc;clear hq hc)|(go_at_call 37;refine(HC.out).mono ?_;rintro e u3⟨b2,rfl,hf,c1a,c2a,c3a⟩;have HF:=aC hf;clear hf))
 all_goals
  go_wp2;exact HF.out
end
section
variable {ar:Nm->Nat}{ad:List Nat}{Y:Nat->Prop}{rk:Nat->Nat}{U:TS}{A:Env}{tb yb d:Nat}{gv:Value}{w w':World}{nb:Nat}{txt:Nm}
def tL(Ln:∀nm,ar nm<=1000000){a b:Nat}(h:YM ar ad Y rk U A tb yb d gv w)(ha:a<U.nodes.length)(hb:b<U.nodes.length) :
  Calls prog 160 #[aM ad a,aM ad b] w fun e w'=>(e=.returned (.bool false)/\U.AO a b=none/\Kn (·∈ad) w w'/\∃n f,aQ cL eL w' tb n f)\/∃U' rk',e=.returned (.bool true)/\U.AO a b=some U'/\U'.nodes.length=U.nodes.length/\Kn (·∈ad) w w'/\YM ar ad Y rk' U' A tb yb d gv w':=by
 refine(vT Ln h.sto ha hb).mono ?_;rintro e w2⟨hk,⟨q1,q2⟩|⟨U2,rk2,q1,q2,q3⟩⟩
 ·exact inl ⟨q2,q1,hk,_,_,(h.raw.choose_spec.choose_spec).kept (hk.block tb h.BH h.CE)⟩
 ·have hs:gT U U2:=by
   have q1:=q1;unfold TS.AO at q1;obtain⟨r,hr,rfl⟩:=map_eq_some_iff.1 q1;exact(mI _ _ _ _ _ _ _ hr).1
  have hy:=h.step (l:=[]) hk (by rw[append_nil];exact q3) hs.given;rw[append_nil]at hy;exact inr ⟨U2,rk2,q2,q1,hs.len,hk,hy⟩
def EZ(d:Nat)(f x:Nat)(U2:TS):Option (Nat×TS):=
 (((U2.letter d).2.named bA [x,U2.nodes.length]).2.AO f ((U2.letter d).2.named bA [x,U2.nodes.length]).1).map fun s=>(U2.nodes.length,s)
def QP(Ln:∀nm,ar nm<=1000000)(h2:ar bA=2){f x:Nat}(h:YM ar ad Y rk U A tb yb d gv w)(hf:f<U.nodes.length)(hx:x<U.nodes.length){u:World}(hu:Kn (fun _=>False) (w.alloc (.cells #[.string (bs []),.slice none 0 0,.pointer none,.int .i64 d] aT)) u) :
  Calls prog 37 #[.slice (some ⟨u.heap.size,0,none⟩) 2 2] (u.alloc (.cells #[aM ad x,aA w.heap.size] aG)) fun e u5=>∃bf,e=.returned (aA bf)/\Calls prog 160 #[aM ad f,aA bf] u5 fun e u6=>
   (e=.returned (.bool false)/\aJ ar ad Y A tb yb d gv (EZ d f x U) w bE u6)\/(e=.returned (.bool true)/\aJ ar ad Y A tb yb d gv (EZ d f x U) w (.returned (aA w.heap.size)) u6):=by
 have h1:=h.letter d;have Wt:=h1.stays hu;have Jm:(U.letter d).2.nodes.length=U.nodes.length+1:=by simp[TS.letter,TS.new]
 have Qk:aM (ad++[w.heap.size]) U.nodes.length=aA w.heap.size:=by unfold aM;rw[<- h.len,fC]
 have Qj:Bt ad tb yb gv w [w.heap.size] gv u:=⟨((Kn.refl _ w).alloc _).trans (hu.wide fun _ _ h=>h.elim),fun b hb=>by rw[mem_singleton.1 hb];exact le_refl _,fun _ hb=>inl hb⟩;have hF:=qL Wt (x:=x) (y:=U.nodes.length) (by omega) (by omega) h2;rw[Qk,eF [w.heap.size] (by rw[h.len];exact hx)]at hF;refine hF.mono ?_;rintro e u5⟨b,rfl,ha⟩;refine⟨b,rfl,?_⟩;rcases ha.cases with⟨q1,_⟩|⟨t,U',l,rk',gv',q1,q2,q3,q4,q5⟩
 ·cases q1
 ·obtain⟨rfl,rfl⟩:((U.letter d).2.named bA [x,U.nodes.length]).1=t/\((U.letter d).2.named bA [x,U.nodes.length]).2=U':=by
   have:=Option.some.inj q1;exact⟨congrArg Prod.fst this,congrArg Prod.snd this⟩
  have U2:=Qj.trans q5;rw[append_assoc]at q4
  have Zm:aA b=aM (ad++([w.heap.size]++l)) ((U.letter d).2.named bA [x,U.nodes.length]).1:=by
   rw[append_assoc]at q2;simpa using q2
  have Mb:((U.letter d).2.named bA [x,U.nodes.length]).2.nodes.length=U.nodes.length+2:=by simp[TS.named,TS.letter,TS.new]
  have hU:=tL Ln q4 (a:=f) (b:=((U.letter d).2.named bA [x,U.nodes.length]).1) (by omega) q3;rw[<- Zm,eF _ (by rw[h.len];exact hf)]at hU;refine hU.mono ?_;rintro e u6 (⟨rfl,r1,r2,r3⟩|⟨U6,rk6,rfl,r1,r2,r3,r4⟩)
  ·have Xw:=U2.store r2 (l2:=[]) (by simp);exact inl ⟨rfl,aJ.panic (by unfold EZ;rw[r1];rfl) Xw.kn r3⟩
  ·have Xw:=U2.store r3 (l2:=[]) (by simp);rw[append_nil]at Xw;refine inr ⟨rfl,?_⟩;have:=aJ.ok (o:=EZ d f x U) (t:=U.nodes.length) (by unfold EZ;rw[r1];rfl) (by omega) r4 Xw;rw[show aM (ad++([w.heap.size]++l)) U.nodes.length=aA w.heap.size by rw[<- append_assoc,eF l (by simp[h.len])];exact Qk]at this;exact this
def gZ(d:Nat)(oa:Option (Nat×TS))(ob:TS->Option (Nat×TS)):Option (Nat×TS):=oa.bind fun r=>(ob r.2).bind fun q=>EZ d r.1 q.1 q.2
def Two(nb g cap ba bb:Nat)(u:World):Prop:=u.cell? ⟨nb,2,none⟩=some (.slice (some ⟨g,0,none⟩) 2 cap)/\u.cell? ⟨g,0,none⟩=some (aA ba)/\u.cell? ⟨g,1,none⟩=some (aA bb)
def dH.two{k g cap ba bb:Nat}(h:dH nb k txt g cap [ba,bb] w):Two nb g cap ba bb w:=by
 have:=h.cells;exact⟨this.2.2.1,this.2.2.2 0 ba rfl,this.2.2.2 1 bb rfl⟩
def Two.alloc{g cap ba bb:Nat}(h:Two nb g cap ba bb w)(o:Obj):Two nb g cap ba bb (w.alloc o):=⟨aL h.1,aL h.2.1,aL h.2.2⟩
def aJ.go{ad0:List Nat}{gv0:Value}{oa o:Option (Nat×TS)}{e:Ending}{w0 u u2:World}{l0:List Nat}(hb:Bt ad0 tb yb gv0 w0 l0 gv u)(ha:aJ ar (ad0++l0) Y A tb yb d gv oa u e u2)(ho:oa=none->o=none) :
  (e=bE/\aJ ar ad0 Y A tb yb d gv0 o w0 bE u2)\/∃t U' l rk' gv',oa=some (t,U')/\e=.returned (aM (ad0++l) t)/\t<U'.nodes.length/\YM ar (ad0++l) Y rk' U' A tb yb d gv' u2/\Bt ad0 tb yb gv0 w0 l gv' u2/\(∀i,i<(ad0++l0).length->aM (ad0++l) i=aM (ad0++l0) i)/\(ad0++l0).length<=(ad0++l).length:=by
 rcases ha.cases with⟨rfl,q2,q3,q4⟩|⟨t,U',l,rk',gv',rfl,q2,q3,q4,q5⟩
 ·exact inl ⟨q2,aJ.panic (ho rfl) (hb.kn.trans' q3 fun i hi hd=>hb.dm hi hd) q4⟩
 ·refine inr ⟨t,U',l0++l,rk',gv',rfl,?_,q3,?_,hb.trans q5,fun i hi=>?_,by simp⟩
  ·rw[q2,append_assoc]
  ·rw[<- append_assoc];exact q4
  ·rw[<- append_assoc,eF l hi]
def tG(Ln:∀nm,ar nm<=1000000)(h2:ar bA=2){k g cap ba bb:Nat}{oa:Option (Nat×TS)}{ob:TS->Option (Nat×TS)}(h:YM ar ad Y rk U A tb yb d gv w)(hp:dH nb k txt g cap [ba,bb] w)
  (hA:∀u,Kn (Dm ad tb yb gv) w u->YM ar ad Y rk U A tb yb d gv u->Calls prog 161 #[aA yb,aA ba] u (aJ ar ad Y A tb yb d gv oa u))
  (hB:∀u t U' l rk' gv',Kn (Dm ad tb yb gv) w u->oa=some (t,U')->YM ar (ad++l) Y rk' U' A tb yb d gv' u->Calls prog 161 #[aA yb,aA bb] u (aJ ar (ad++l) Y A tb yb d gv' (ob U') u)) :
  Calls prog 264 #[aA yb,aA nb] w (aJ ar ad Y A tb yb d gv (gZ d oa ob) w):=by
 have Ti:Kn (fun _=>False) w w.drew:=(Kn.refl _ _).drew;have hyd:=h.stays Ti;have c9:Bt ad tb yb gv w [] gv w.drew:=⟨Ti.wide fun _ _ h=>h.elim,by simp,fun _ hb=>inl hb⟩;have Jw:∀u,Kn (Dm ad tb yb gv) w u->Two nb g cap ba bb u:=fun u hu=>(h.pt hu hp).two;have h1:=hA _ c9.kn hyd;have Nh:=Jw _ c9.kn
 have Jp:∀e u2,aJ ar ad Y A tb yb d gv oa w.drew e u2->(e=bE/\aJ ar ad Y A tb yb d gv (gZ d oa ob) w bE u2)\/∃bf P2,e=.returned (aA bf)/\Two nb g cap ba bb u2/\Calls prog 161 #[aA yb,aA bb] u2 P2 /\
   ∀e u3,P2 e u3->(e=bE/\aJ ar ad Y A tb yb d gv (gZ d oa ob) w bE u3)\/∃bx,e=.returned (aA bx)/\Two nb g cap ba bb u3/\Calls prog 211 #[aA yb] u3 fun e u4=>e=.returned (aA u3.heap.size)/\Two nb g cap ba bb u4/\∀u,Kn (fun _=>False) u4 u ->
    Calls prog 37 #[.slice (some ⟨u.heap.size,0,none⟩) 2 2] (u.alloc (.cells #[aA bx,aA u3.heap.size] aG)) fun e u5=>∃bn,e=.returned (aA bn)/\Calls prog 160 #[aA bf,aA bn] u5 fun e u6=>
     (e=.returned (.bool false)/\aJ ar ad Y A tb yb d gv (gZ d oa ob) w bE u6)\/(e=.returned (.bool true)/\aJ ar ad Y A tb yb d gv (gZ d oa ob) w (.returned (aA u3.heap.size)) u6):=by
  intro e u2 ha;have Wp:aJ ar (ad++[]) Y A tb yb d gv oa w.drew e u2:=by rw[append_nil];exact ha
  rcases aJ.go c9 Wp (o:=gZ d oa ob) (fun e=>by rw[e];rfl)with⟨q1,q2⟩|⟨f,U1,l1,rk1,gv1,q1,q2,q3,q4,q5,_,_⟩
  ·exact inl ⟨q1,q2⟩
  ·refine inr ⟨_,_,q2,Jw _ q5.kn,hB u2 f U1 l1 rk1 gv1 q5.kn q1 q4,?_⟩;intro e u3 hb;rcases aJ.go q5 hb (o:=gZ d oa ob) (fun e=>by unfold gZ;rw[q1,Option.bind_some,e];rfl)with⟨r1,r2⟩|⟨x,U2,l2,rk2,gv2,r1,r2,r3,r4,r5,r6,r7⟩
   ·exact inl ⟨r1,r2⟩
   ·refine inr ⟨_,r2,Jw _ r5.kn,(gB r4).mono ?_⟩;rintro e u4⟨rfl,rfl⟩;refine⟨rfl,(Jw _ r5.kn).alloc _,fun u hu=>?_⟩;have C1:f<U2.nodes.length:=by rw[<- r4.len];rw[<- q4.len]at q3;omega
    have Mu:=QP Ln h2 r4 C1 r3 hu;have Yl:aM (ad++l2) f=aM (ad++l1) f:=r6 f (by rw[q4.len];exact q3);rw[Yl]at Mu;refine Mu.mono ?_;rintro e u5⟨bn,rfl,hU⟩;refine⟨bn,rfl,hU.mono ?_⟩;have Zo:gZ d oa ob=EZ d f x U2:=by unfold gZ;rw[q1,Option.bind_some,r1];rfl
    rw[Zo];rintro e u6 (⟨rfl,hq⟩|⟨rfl,hq⟩)
    ·exact inl ⟨rfl,aJ.behind r5 hq⟩
    ·exact inr ⟨rfl,aJ.behind r5 hq⟩
 have HA:=aC h1;have Kk:=aC Jp;have W8:=aC oE;have Tw:=aC qY;obtain⟨c1a,c2a,c3a⟩:=Nh;have Zj:∀u:World,Kn (fun _=>False) u u.drew:=fun u=>(Kn.refl _ u).drew;have L7:=aC Zj;clear h1 Jp Zj h hp hA hB hyd c9 Jw Ti Ln h2;generalize aJ ar ad Y A tb yb d gv (gZ d oa ob) w=Q at *;generalize aJ ar ad Y A tb yb d gv oa w.drew=Q1 at *;unfold bE bQ Two aA at *;go_enter func264,ntmps264;go_wp2_with fail
 go_region_held2 (fun w'=>w'.cell? ⟨nb,2,none⟩=some (.slice (some ⟨g,0,none⟩) 2 cap)/\w'.cell? ⟨g,0,none⟩=some (.pointer (some ⟨ba,0,none⟩))/\w'.cell? ⟨g,1,none⟩=some (.pointer (some ⟨bb,0,none⟩))) (first|exact⟨c1a,c2a,c3a⟩|exact⟨aL c1a,aL c2a,aL c3a⟩) (first|(go_at_call_of 161 (pointer (some ⟨ba,0,none⟩));refine(HA.out).mono ?_;intro e u2 hq;rcases Kk.out e u2 hq with⟨rfl,hp⟩|⟨bf,P2,rfl,⟨c1a,c2a,c3a⟩,hc,Wa⟩;(focus (exact⟨rfl,hp⟩));have HC:=aC hc;have L6:=aC Wa;clear hq hc Wa)|(go_at_call_of 161 (pointer (some ⟨bb,0,none⟩));refine(HC.out).mono ?_;intro e u3 hq;rcases L6.out e u3 hq with⟨rfl,hp⟩|⟨bx,rfl,⟨c1a,c2a,c3a⟩,hc⟩;(focus (exact⟨rfl,hp⟩));have HL:=aC hc;clear hq hc)|(go_at_call 211;refine(HL.out).mono ?_;rintro e u4⟨rfl,⟨c1a,c2a,c3a⟩,hc⟩;have HE:=aC hc;clear hc))
 all_goals
  have D1:=aC (HE.out _ (Kn.refl _ _));clear Kk HA L6 HC HL HE;go_wp2_with fail;refine(D1.out).mono ?_;rintro e u5⟨bn,rfl,hU⟩;have HU:=aC hU;clear D1 hU;go_wp2_with fail;refine(HU.out).mono ?_;rintro e u6 (⟨rfl,hq⟩|⟨rfl,hq⟩)
  ·have HG:=aC hq;clear hq HU;go_wp2_with fail;refine(Tw.out u6).mono ?_;rintro e u7⟨rfl,rfl⟩;go_wp2;exact⟨rfl,HG.out⟩
  ·have HG:=aC hq;clear hq HU;go_wp2_with fail;refine(W8.out u6).mono ?_;rintro e u7⟨rfl,rfl⟩;go_wp2;exact HG.out
end
section
variable {w:World}
def IP{n:Nat}{k:Nat}{txt:Nm}{ps:List Nd}(h:k<=3\/k=5):bB (n+1) (.mk k txt ps)=true:=by
 rw[bB];rcases h with h|h<;>simp[h]
def IN{n:Nat}{k:Nat}{txt:Nm}{ps:List Nd}(h:¬(k<=3\/k=5))(h2:k≠14):bB (n+1) (.mk k txt ps)=false:=by
 rw[bB];have h1:¬k<=3:=fun e=>h (inl e);have h3:¬k=5:=fun e=>h (inr e);simp[h1,h3,h2]
def zO{n:Nat}{txt:Nm}{ps:List Nd}:bB (n+1) (.mk 14 txt ps)=ps.all (bB n):=by
 rw[bB];simp
def qF:∀(n:Nat)(nd:Nd)(nb:Nat),nd.ht<n->AB w nd nb->Calls prog 115 #[aA nb] w fun e w'=>e=.returned (.bool (bB n nd))/\w'=w:=by
 intro n
 induction n with
 |zero=>intro nd nb h;omega
 |succ n ih=>
  intro nd nb hn hm;obtain⟨k,txt,ps⟩:=nd;obtain⟨pv,bl,h1,h2,h3⟩:=hm.inv;have c0:w.cell? ⟨nb,0,none⟩=some (.int .i64 k):=by simp[cell?,h1]
  have c2:w.cell? ⟨nb,2,none⟩=some pv:=by simp[cell?,h1]
  by_cases hk:k<=3\/k=5
  ·rw[IP hk];generalize hQ:(fun(e:Ending) (w':World)=>e=.returned (.bool true)/\w'=w)=Q;have hq:Q (.returned (.bool true)) w:=by rw[<- hQ];exact⟨rfl,rfl⟩
   have HQ:=aC hq;clear hq hQ ih h1 h2 h3 c2 hm;unfold aA;have Qa:k=0\/k=1\/k=2\/k=3\/k=5:=by omega
   rcases Qa with rfl|rfl|rfl|rfl|rfl <;>
   ·go_enter func115,ntmps115;go_wp2;exact HQ.out
  ·by_cases Jy:k=14
   ·subst Jy;rw[zO];have Jm:=h3.len
    have Kl:∀i p,ps[i]?=some p->∃b,bl[i]?=some b/\Calls prog 115 #[aA b] w fun e w'=>e=.returned (.bool (bB n p))/\w'=w:=fun i p hp=>by
     obtain⟨b,hb,Mp⟩:=h3.at hp;exact⟨b,hb,ih p b (Nd.BG (List.mem_of_getElem? hp) hn) Mp⟩
    have Kh:∀g cap i b,pv=.slice (some ⟨g,0,none⟩) bl.length cap->bl[i]?=some b->w.cell? ⟨g,i,none⟩=some (aA b):=fun g cap i b Vp hb=>by
     subst Vp;have hi:=(List.getElem?_eq_some_iff.1 hb).1;rw[h2.cellAt i (by omega),getElem?_map,hb];rfl
    have Ob:=bI h2;have Kt:=aD h2;have Qo:∀g,pv.ownBlock=some g->g<w.heap.size:=fun g hg=>(h2.lt g hg).2;have Kd:=aC Kl;have Vm:=aC Kh;generalize hQ:(fun(e:Ending) (w':World)=>e=.returned (.bool (ps.all (bB n)))/\w'=w)=Q;have hq:∀b,b=ps.all (bB n)->Q (.returned (.bool b)) w:=fun b hb=>by rw[<- hQ,hb];exact⟨rfl,rfl⟩
    have HQ:=aC hq;clear hq hQ ih h1 h2 h3 hm Kl Kh hk hn;rw[Jm]at Kt Ob;rcases Kt with⟨rfl,h0⟩|⟨g,cap,rfl⟩
    ·have Lu:ps=[]:=List.length_eq_zero_iff.1 h0;subst Lu;clear Kd Vm Qo;unfold aA;go_enter func115,ntmps115;go_wp2_with fail;refine wp_loop_rounds 1 ?_;rw[rounds_succ];go_wp2;exact HQ.out _ rfl
    ·have hgl2:=Qo g rfl;clear Qo;unfold aA at *;generalize A6:ps.length=pn at *;go_enter func115,ntmps115;go_wp2_with fail
     go_loopg [22] pn (fun gk v22 wr=>∃k,v22=.int .i64 (k:Nat)/\k+gk=pn/\wr=w/\(ps.take k).all (bB n)=true)
     case atStart=>exact⟨0,rfl,by omega,rfl,by simp⟩
     case round=>
      obtain⟨k,rfl,hk,rfl,Mh⟩:=hrel
      by_cases Js:k<pn
      ·have Lv:k<ps.length:=by omega
       have hp:ps[k]?=some ps[k]:=List.getElem?_eq_getElem Lv
       have Lo:(ps.take (k+1)).all (bB n)=bB n ps[k]:=by
        rw[List.take_succ_eq_append_getElem Lv,List.all_append,Mh];simp
       have Lg:bB n ps[k]=false->ps.all (bB n)=false:=fun hf=>by
        rw[List.all_eq_false];exact⟨ps[k],List.getElem_mem Lv,by simp[hf]⟩
       generalize ps[k]=p at hp Lo Lg;obtain⟨b,hb,hc⟩:=Kd.out k p hp;have Kh:=Vm.out g cap k b (by rw[Jm]) hb;have HC:=aC hc;have Me:=aC Lg;have Jt:(k:Int)<(pn:Int):=by omega
       clear hc hp hb Kd Vm Lg;go_wp2_with fail;refine(HC.out).mono ?_;rintro e w2⟨rfl,rfl⟩
       cases hv:bB n p with
       |false=>
        go_wp2;exact HQ.out _ (Me.out hv).symm
       |true=>
        go_wp2_with fail
        go_roundg (pn-(k+1))
        case rel=>exact⟨k+1,by simp,by omega,rfl,by rw[Lo,hv]⟩
        case measure=>omega
      ·have Mj:k=pn:=by omega
       subst Mj;have Jt:¬(k:Int)<(k:Int):=by omega
       rw[List.take_of_length_le (by omega)]at Mh;have HH:=aC Mh;clear Mh Kd Vm;go_wp2;exact HQ.out _ HH.out.symm
   ·rw[IN hk Jy];have e0:¬(k:Int)=0:=by omega
    have e1:¬(k:Int)=1:=by omega
    have e2:¬(k:Int)=2:=by omega
    have e3:¬(k:Int)=3:=by omega
    have e5:¬(k:Int)=5:=by omega
    have e14:¬(k:Int)=14:=by omega
    generalize hQ:(fun(e:Ending) (w':World)=>e=.returned (.bool false)/\w'=w)=Q;have hq:Q (.returned (.bool false)) w:=by rw[<- hQ];exact⟨rfl,rfl⟩
    have HQ:=aC hq;clear hq hQ ih h1 h2 h3 c2 hm hk Jy hn;unfold aA;go_enter func115,ntmps115;go_wp2;exact HQ.out
end
section
variable {ar:Nm->Nat}{ad:List Nat}{Y:Nat->Prop}{rk:Nat->Nat}{U:TS}{A:Env}{tb yb d:Nat}{gv:Value}{w w':World}{nb:Nat}{txt:Nm}
def First(nb k:Nat)(txt:Nm)(g cap n ba:Nat)(u:World):Prop:=u.cell? ⟨nb,0,none⟩=some (.int .i64 k)/\u.cell? ⟨nb,1,none⟩=some (.string (bs txt))/\u.cell? ⟨nb,2,none⟩=some (.slice (some ⟨g,0,none⟩) (n+1) cap)/\u.cell? ⟨g,0,none⟩=some (aA ba)
def dH.first{k g cap ba:Nat}{bl:List Nat}(h:dH nb k txt g cap (ba::bl) w):First nb k txt g cap bl.length ba w:=by
 have:=h.cells;exact⟨this.1,this.2.1,this.2.2.1,this.2.2.2 0 ba rfl⟩
def MZ{g cap ba:Nat}{bl:List Nat}{oa:Option (Nat×TS)}(h:YM ar ad Y rk U A tb yb d gv w)(hp:dH nb 6 txt g cap (ba::bl) w)
  (hA:∀u,Kn (Dm ad tb yb gv) w u->YM ar ad Y rk U A tb yb d gv u->Calls prog 161 #[aA yb,aA ba] u (aJ ar ad Y A tb yb d gv oa u)) :
  Calls prog 162 #[aA yb,aA nb] w (aJ ar ad Y A tb yb d gv oa w):=by
 have Jp:∀u,Kn (fun _=>False) w u->∀e u2,aJ ar ad Y A tb yb d gv oa u e u2->(e=bE/\aJ ar ad Y A tb yb d gv oa w bE u2)\/∃b,e=.returned (aA b)/\aJ ar ad Y A tb yb d gv oa w (.returned (aA b)) u2:=fun u hu e u2 ha=>by
  have hb:Bt ad tb yb gv w [] gv u:=⟨hu.wide fun _ _ h=>h.elim,by simp,fun _ hb=>inl hb⟩;have Wp:aJ ar (ad++[]) Y A tb yb d gv oa u e u2:=by rw[append_nil];exact ha
  have hq:=aJ.behind hb Wp;rcases ha.cases with⟨_,q2,_⟩|⟨t,U',l,rk',gv',_,q2,_⟩
  ·subst q2;exact inl ⟨rfl,hq⟩
  ·subst q2;exact inr ⟨_,rfl,hq⟩
 have Sc:=fun u (hu:Kn (fun _=>False) w u)=>hA u (hu.wide fun _ _ h=>h.elim) (h.stays hu);obtain⟨c0,c1,c2,c3⟩:=hp.first;have HA:=aC Sc;have Kk:=aC Jp;clear hA Sc Jp h hp;generalize aJ ar ad Y A tb yb d gv oa w=Q at *;generalize bl.length=pn at *;unfold bE bQ aA at *;go_enter func162,ntmps162;go_wp2_with fail;refine(HA.out _ (Kn.refl _ _)).mono ?_;intro e u2 hq;rcases Kk.out _ (Kn.refl _ _) e u2 hq with⟨rfl,hp⟩|⟨b,rfl,hp⟩
 ·exact⟨rfl,hp⟩
 ·have HG:=aC hp;clear hq hp HA Kk;go_wp2;exact HG.out
def lS(v:Bool)(w:World):Calls prog 76 #[.bool v] w fun e w'=>w'=w/\((v=false/\e=bE)\/(v=true/\e=.returned (.tuple #[]))):=by
 cases v with
 |false=>exact(qY w).mono fun e w' ⟨h1,h2⟩=>⟨h2,inl ⟨rfl,h1⟩⟩
 |true=>exact(oE w).mono fun e w' ⟨h1,h2⟩=>⟨h2,inr ⟨rfl,h1⟩⟩
def qQ(own:Nat)(o:Option (Nat×TS)):Option (Nat×TS):=o.bind fun r=>(r.2.AO own r.1).map fun s=>(own,s)
def MY(Ln:∀nm,ar nm<=1000000){g cap ba:Nat}{bl:List Nat}{o:Option (Nat×TS)}(h:YM ar ad Y rk U A tb yb d gv w)(hp:dH nb 7 txt g cap (ba::bl) w)
  (hW:∀u,Kn (Dm ad tb yb gv) w u->YM ar (ad++[w.heap.size]) Y rk (U.letter d).2 A tb yb d gv u->Calls prog 212 #[aA yb,.string (bs txt),aM (ad++[w.heap.size]) U.nodes.length,aA ba] u (aJ ar (ad++[w.heap.size]) Y A tb yb d gv o u)) :
  Calls prog 162 #[aA yb,aA nb] w (aJ ar ad Y A tb yb d gv (qQ U.nodes.length o) w):=by
 have hL:=gB h;have h1:=h.letter d;have Kj:Kn (fun _=>False) w (w.alloc (.cells #[.string (bs []),.slice none 0 0,.pointer none,.int .i64 d] aT)):=(Kn.refl _ w).alloc _;have ha:aM (ad++[w.heap.size]) U.nodes.length=aA w.heap.size:=by unfold aM;rw[<- h.len,fC]
 rw[ha]at hW;generalize My:w.alloc (.cells #[.string (bs []),.slice none 0 0,.pointer none,.int .i64 d] aT)=w1 at *;have Kz:Bt ad tb yb gv w [w.heap.size] gv w1:=⟨Kj.wide fun _ _ h=>h.elim,fun b hb=>by rw[mem_singleton.1 hb];exact le_refl _,fun _ hb=>inl hb⟩;have Jw:∀u,Kn (Dm ad tb yb gv) w u->First nb 7 txt g cap bl.length ba u:=fun u hu=>(h.pt hu hp).first;have Qj:∀u,Kn (fun _=>False) w1 u->Bt ad tb yb gv w [w.heap.size] gv u:=fun u hu=>⟨Kz.kn.trans (hu.wide fun _ _ h=>h.elim),Kz.new,Kz.giv⟩
 have Qc:∀u,Kn (fun _=>False) w1 u->Calls prog 212 #[aA yb,.string (bs txt),aA w.heap.size,aA ba] u (aJ ar (ad++[w.heap.size]) Y A tb yb d gv o u):=fun u hu=>
  hW u (Qj u hu).kn (h1.stays hu)
 have Jp:∀u,Kn (fun _=>False) w1 u->∀e u2,aJ ar (ad++[w.heap.size]) Y A tb yb d gv o u e u2->(e=bE/\aJ ar ad Y A tb yb d gv (qQ U.nodes.length o) w bE u2) \/
   ∃b,e=.returned (aA b)/\First nb 7 txt g cap bl.length ba u2/\Calls prog 160 #[aA w.heap.size,aA b] u2 fun e u3=>∃v,e=.returned (.bool v)/\First nb 7 txt g cap bl.length ba u3/\(v=false->aJ ar ad Y A tb yb d gv (qQ U.nodes.length o) w bE u3)/\(v=true->aJ ar ad Y A tb yb d gv (qQ U.nodes.length o) w (.returned (aA w.heap.size)) u3):=fun u hu e u2 hq=>by
  rcases aJ.go (Qj u hu) hq (o:=qQ U.nodes.length o) (fun e=>by rw[e];rfl)with⟨q1,q2⟩|⟨t,U1,l1,rk1,gv1,q1,q2,q3,q4,q5,q6,q7⟩
  ·exact inl ⟨q1,q2⟩
  ·have Jm:(ad++[w.heap.size]).length=U.nodes.length+1:=by rw[length_append,h.len];rfl
   have Xg:U.nodes.length<U1.nodes.length:=by rw[<- q4.len];omega
   have hU:=tL Ln q4 Xg q3;rw[q6 _ (by omega),ha]at hU;refine inr ⟨_,q2,Jw _ q5.kn,hU.mono ?_⟩;rintro e u3 (⟨rfl,r1,r2,r3⟩|⟨U6,rk6,rfl,r1,r2,r3,r4⟩)
   ·have Xw:=q5.store r2 (l2:=[]) (by simp);exact⟨false,rfl,Jw _ Xw.kn,fun _=>aJ.panic (by unfold qQ;rw[q1,Option.bind_some,r1];rfl) Xw.kn r3,fun e=>by cases e⟩
   ·have Xw:=q5.store r3 (l2:=[]) (by simp);rw[append_nil]at Xw;have:=aJ.ok (o:=qQ U.nodes.length o) (t:=U.nodes.length) (by unfold qQ;rw[q1,Option.bind_some,r1];rfl) (by omega) r4 Xw;rw[q6 _ (by omega),ha]at this;exact⟨true,rfl,Jw _ Xw.kn,fun e=>(by cases e),fun _=>this⟩
 have Mi:=aC (show Kn (fun _=>False) w1 w1.drew from(Kn.refl _ _).drew);have Nh:=Jw w (Kn.refl _ _);have Ny:=Jw _ (Qj _ Mi.out).kn;obtain⟨c0,_,_,_⟩:=Nh;have HL:=aC hL;have Ue:=aC Ny;have HW:=aC Qc;have Kk:=aC Jp;have HN:=aC lS;clear hL h1 Kj Kz Jw Qc hW h hp ha Qj Jp Ny;generalize aJ ar ad Y A tb yb d gv (qQ U.nodes.length o) w=Q at *;generalize bl.length=pn at *;unfold bE bQ First aA at *;generalize bs txt=tx at *;generalize Kn (fun _=>False) w1=V at *;go_enter func162,ntmps162;go_wp2_with fail;refine(HL.out).mono ?_;rintro e w2⟨rfl,rfl⟩;clear HL;obtain⟨c0a,c1a,c2a,c3a⟩:=Ue.out;go_wp2_with fail
 go_region_held2 (fun w'=>w'.cell? ⟨nb,1,none⟩=some (.string tx)/\w'.cell? ⟨nb,2,none⟩=some (.slice (some ⟨g,0,none⟩) (pn+1) cap)/\w'.cell? ⟨g,0,none⟩=some (.pointer (some ⟨ba,0,none⟩))) (exact⟨c1a,c2a,c3a⟩) (first|(go_at_call 212;refine(HW.out _ Mi.out).mono ?_;intro e u2 hq;rcases Kk.out _ Mi.out e u2 hq with⟨rfl,hp⟩|⟨b,rfl,⟨c0a,c1a,c2a,c3a⟩,hc⟩;(focus (exact⟨rfl,hp⟩));have HC:=aC hc;clear hq hc)|(go_at_call 160;refine(HC.out).mono ?_;rintro e u3⟨v,rfl,⟨c0a,c1a,c2a,c3a⟩,Lg,Lp⟩;have Me:=aC Lg;have Lq:=aC Lp;clear Lg Lp)|(go_at_call 76;refine(HN.out _ _).mono ?_;rintro e u4⟨rfl,⟨hv,rfl⟩|⟨hv,rfl⟩⟩;(focus (exact⟨rfl,Me.out hv⟩));have HG:=aC (Lq.out hv);clear Me Lq))
 all_goals
  go_wp2;exact HG.out
end
section
variable {ar:Nm->Nat}{ad:List Nat}{Y:Nat->Prop}{rk:Nat->Nat}{U:TS}{A:Env}{tb yb d:Nat}{gv:Value}{w w':World}{nb:Nat}{txt:Nm}
def YM.deep(h:YM ar ad Y rk U A tb yb d gv w)(d':Nat):YM ar ad Y rk U A tb yb d' gv (w.setCell ⟨yb,1,none⟩ (.int .i64 d')):=by
 have Ju:∀(k:Nat)(c:Array Value)(t:TypeId)(f:Nat×Nat),w.heap[k]?=some (.cells c t f)->t≠cV->(w.setCell ⟨yb,1,none⟩ (.int .i64 d')).heap[k]?=w.heap[k]?:=fun k c t f hc ht=>by
  refine Below.heap_setCell _ _ _ _ fun e=>?_;subst e;rw[h.typ]at hc;exact ht (aN hc).symm
 have Pb:(w.setCell ⟨yb,1,none⟩ (.int .i64 d')).heap[tb]?=w.heap[tb]?:=by
  refine Below.heap_setCell _ _ _ _ fun e=>?_;obtain⟨n,f,⟨es,cl,hm,_⟩,_⟩:=h.tab;rw[e,h.typ]at hm;cases hm
 refine⟨h.sto.kept (fun k hk=>?_) (fun k c f _ hc=>Ju k c _ f hc (by decide)),?_,?_,aE h.giv fun k c f _ hc=>Ju k c _ f hc (by decide),fun b hb=>?_⟩
 ·obtain⟨c,f,hc⟩:=h.sto.isT hk;exact Ju k c _ f hc (by decide)
 ·have:=h.tab.kept (l:=[]) Pb (fun k c f hc=>Ju k c _ f hc (by decide)) (fun k c f hc=>Ju k c _ f hc (by decide)) (fun k c f hc=>Ju k c _ f hc (by decide));rw[append_nil]at this;exact this
 ·rw[heap_setCell_same _ _ _ _ _ _ h.typ];rfl
 ·have e:(w.setCell ⟨yb,1,none⟩ (.int .i64 d')).heap.size=w.heap.size:=by simp[World.setCell]
  rw[e];exact h.yok b hb
def cX(d:Nat)(o:Option (Nat×TS)):Option (Nat×TS):=o.bind fun r=>if r.2.fits r.1 then some (r.1,r.2.AV d r.1)else none
def nE(U:TS)(d t:Nat):(U.AV d t).given=U.given:=by
 unfold TS.AV;exact(gI _ _ _).given
def vP{d0:Nat}{o:Option (Nat×TS)}{l0:List Nat}{e:Ending}{u u2:World}(hb:Bt ad tb yb gv w l0 gv u)(ha:aJ ar (ad++l0) Y A tb yb d0 gv o u e u2) :
  (e=bE/\aJ ar ad Y A tb yb d gv (cX d o) w bE u2)\/∃b,e=.returned (aA b)/\u2.cell? ⟨yb,1,none⟩=some (.int .i64 d0)/\u2.frozen? ⟨yb,1,none⟩=false/\Calls prog 77 #[aA b] (u2.setCell ⟨yb,1,none⟩ (.int .i64 d)) fun e u3=>∃v,e=.returned (.bool v) /\
   (v=false->aJ ar ad Y A tb yb d gv (cX d o) w bE u3)/\(v=true->Calls prog 163 #[aA b,.int .i64 d] u3 fun e u4=>e=.returned (.tuple #[])/\aJ ar ad Y A tb yb d gv (cX d o) w (.returned (aA b)) u4):=by
 rcases aJ.go hb ha (o:=cX d o) (fun e=>by rw[e];rfl)with⟨q1,q2⟩|⟨t,U1,l1,rk1,gv1,q1,q2,q3,q4,q5,q6,q7⟩
 ·rcases q2.cases with⟨r1,r2,r3,r4⟩|⟨_,_,_,_,_,_,r2,_⟩
  ·exact inl ⟨q1,aJ.panic r1 r3 r4⟩
  ·cases r2
 ·have hy:=q4.deep d;have Mf:Bt ad tb yb gv w l1 gv1 (u2.setCell ⟨yb,1,none⟩ (.int .i64 d)):=⟨q5.kn.set (p:=⟨yb,1,none⟩) (inl (inr (inr (inl rfl)))) _,q5.new,q5.giv⟩;refine inr ⟨_,q2,by simp[cell?,q4.typ],frozen_of_row _ _ _ _ _ q4.typ,(oZ hy.sto q3).mono ?_⟩;rintro e u3⟨rfl,r2,r3⟩;have On:=Mf.store r3 (l2:=[]) (by simp);rw[append_nil]at On;have Vn:=hy.step (l:=[]) r3 (by rw[append_nil];exact r2) rfl;rw[append_nil]at Vn;refine⟨_,rfl,fun hv=>aJ.panic (by unfold cX;rw[q1,Option.bind_some,hv];rfl) On.kn Vn.raw,fun hv=>(XN d Vn.sto q3 hv).mono ?_⟩;rintro e u4⟨rfl,s2,s3⟩;have U3:=On.store s3 (l2:=[]) (by simp);rw[append_nil]at U3;have Y4:=Vn.step (l:=[]) s3 (by rw[append_nil];exact s2) (nE _ _ _);rw[append_nil]at Y4;have Jm:(U1.AV d t).nodes.length=U1.nodes.length:=by unfold TS.AV;exact(gI _ _ _).len
  exact⟨rfl,aJ.ok (by unfold cX;rw[q1,Option.bind_some,hv];rfl) (by rw[Jm];exact q3) Y4 U3⟩
def EQ{k g cap ba n:Nat}{bl:List Nat}{a:Nd}{o:Option (Nat×TS)}(h:YM ar ad Y rk U A tb yb d gv w)(hp:dH nb k txt g cap (ba::bl) w)(hd:d<=1000000)(hn:a.ht<n)(hN:AB w a ba)
  (hV:∀u,Kn (Dm ad tb yb gv) w u->YM ar ad Y rk U A tb yb (if bB n a then d+1 else d) gv u->Calls prog 162 #[aA yb,aA nb] u (aJ ar ad Y A tb yb (if bB n a then d+1 else d) gv o u)) :
  Calls prog 114 #[aA yb,aA nb] w (aJ ar ad Y A tb yb d gv (cX d o) w):=by
 obtain⟨_,_,c2,c3⟩:=hp.first;have cy:w.cell? ⟨yb,1,none⟩=some (.int .i64 d):=by simp[cell?,h.typ]
 have cf:w.frozen? ⟨yb,1,none⟩=false:=frozen_of_row _ _ _ _ _ h.typ;have hI:=qF n a ba hn hN;have Ma:Kn (Dm ad tb yb gv) w (w.setCell ⟨yb,1,none⟩ (.int .i64 (d+1:Nat))):=(Kn.refl _ w).set (p:=⟨yb,1,none⟩) (inl (inr (inr (inl rfl)))) _;have d9:=lS
 cases hv:bB n a with
 |true=>
  rw[hv]at hV hI;simp only[if_true]at hV;have hc:=hV _ Ma (h.deep (d+1));have C4:Bt ad tb yb gv w [] gv (w.setCell ⟨yb,1,none⟩ (.int .i64 (d+1:Nat))):=⟨Ma,by simp,fun _ hb=>inl hb⟩;have Jp:=fun e u2 (hq:aJ ar ad Y A tb yb (d+1) gv o (w.setCell ⟨yb,1,none⟩ (.int .i64 (d+1:Nat))) e u2)=>vP (d:=d) C4 (show aJ ar (ad++[]) Y A tb yb (d+1) gv o _ e u2 by rw[append_nil];exact hq);have hint:((d+1:Nat):Int)=(d:Int)+1:=by omega
  rw[hint]at hc Jp
  have hwrap:IntKind.i64.wrap ((d:Int)+1)=(d:Int)+1:=by
   rw[<- hint];rw[IntKind.wrap_i64];omega
  have HI:=aC hI;have HC:=aC hc;have Kk:=aC Jp;have HN:=aC d9;clear hI hc Jp d9 hV h hp hN Ma C4 hint;generalize aJ ar ad Y A tb yb d gv (cX d o) w=Q at *;generalize aJ ar ad Y A tb yb (d+1) gv o (w.setCell ⟨yb,1,none⟩ (.int .i64 ((d:Int)+1)))=Q1 at *;generalize bl.length=pn at *;unfold bE bQ aA at *;go_enter func114,ntmps114;go_wp2_with fail;refine(HI.out).mono ?_;rintro e w1⟨rfl,rfl⟩;clear HI;go_wp2_with fail;refine(HC.out).mono ?_;intro e u2 hq;rcases Kk.out e u2 hq with⟨rfl,hp⟩|⟨b,rfl,cy2,cf2,hf⟩
  ·exact⟨rfl,hp⟩
  ·have HF:=aC hf;clear hf hq Kk HC;go_wp2_with fail;refine(HF.out).mono ?_;rintro e u3⟨v,rfl,Lg,Lp⟩;have Me:=aC Lg;have Lq:=aC Lp;clear Lg Lp HF;go_wp2_with fail;refine(HN.out v u3).mono ?_;rintro e u4⟨rfl,⟨Mx,rfl⟩|⟨Mx,rfl⟩⟩
   ·exact⟨rfl,Me.out Mx⟩
   ·have HO:=aC (Lq.out Mx);clear Me Lq;go_wp2_with fail;refine(HO.out).mono ?_;rintro e u5⟨rfl,hq⟩;have HG:=aC hq;clear hq HO;go_wp2;exact HG.out
 |false=>
  rw[hv]at hV hI;simp only[Bool.false_eq_true,if_false]at hV;have hc:=hV w (Kn.refl _ _) h;have Jp:=fun e u2 (hq:aJ ar ad Y A tb yb d gv o w e u2)=>vP (d:=d) (Bt.refl ad tb yb gv w) (show aJ ar (ad++[]) Y A tb yb d gv o _ e u2 by rw[append_nil];exact hq);have HI:=aC hI;have HC:=aC hc;have Kk:=aC Jp;have HN:=aC d9;clear hI hc Jp d9 hV h hp hN Ma;generalize aJ ar ad Y A tb yb d gv (cX d o) w=Q at *;generalize aJ ar ad Y A tb yb d gv o w=Q1 at *;generalize bl.length=pn at *;unfold bE bQ aA at *;go_enter func114,ntmps114;go_wp2_with fail;refine(HI.out).mono ?_;rintro e w1⟨rfl,rfl⟩;clear HI;go_wp2_with fail;refine(HC.out).mono ?_;intro e u2 hq;rcases Kk.out e u2 hq with⟨rfl,hp⟩|⟨b,rfl,cy2,cf2,hf⟩
  ·exact⟨rfl,hp⟩
  ·have HF:=aC hf;clear hf hq Kk HC;go_wp2_with fail;refine(HF.out).mono ?_;rintro e u3⟨v,rfl,Lg,Lp⟩;have Me:=aC Lg;have Lq:=aC Lp;clear Lg Lp HF;go_wp2_with fail;refine(HN.out v u3).mono ?_;rintro e u4⟨rfl,⟨Mx,rfl⟩|⟨Mx,rfl⟩⟩
   ·exact⟨rfl,Me.out Mx⟩
   ·have HO:=aC (Lq.out Mx);clear Me Lq;go_wp2_with fail;refine(HO.out).mono ?_;rintro e u5⟨rfl,hq⟩;have HG:=aC hq;clear hq HO;go_wp2;exact HG.out
end
section
variable {ar:Nm->Nat}{ad:List Nat}{Y:Nat->Prop}{rk:Nat->Nat}{U:TS}{A:Env}{tb yb d:Nat}{gv:Value}{w w':World}{nb:Nat}{txt:Nm}
def cR.go{ad0:List Nat}{gv0:Value}{ox:Option TS}{o:Option (Nat×TS)}{e:Ending}{w0 u u2:World}{l0:List Nat}(hb:Bt ad0 tb yb gv0 w0 l0 gv u)(ha:cR ar (ad0++l0) Y A tb yb d gv ox u e u2)(ho:ox=none->o=none) :
  (e=bE/\aJ ar ad0 Y A tb yb d gv0 o w0 bE u2)\/∃U' l rk' gv',ox=some U'/\e=.returned (.tuple #[])/\YM ar (ad0++l) Y rk' U' A tb yb d gv' u2/\Bt ad0 tb yb gv0 w0 l gv' u2/\(∀i,i<(ad0++l0).length->aM (ad0++l) i=aM (ad0++l0) i)/\(ad0++l0).length<=(ad0++l).length:=by
 rcases ha.cases with⟨rfl,q2,q3,q4⟩|⟨U',l,rk',gv',rfl,q2,q4,q5⟩
 ·exact inl ⟨q2,aJ.panic (ho rfl) (hb.kn.trans' q3 fun i hi hd=>hb.dm hi hd) q4⟩
 ·refine inr ⟨U',l0++l,rk',gv',rfl,q2,?_,hb.trans q5,fun i hi=>?_,by simp⟩
  ·rw[<- append_assoc];exact q4
  ·rw[<- append_assoc,eF l hi]
def aJ.last{l:List Nat}{gv':Value}{o o':Option (Nat×TS)}{e:Ending}{w2:World}(h:Bt ad tb yb gv w l gv' w')(ha:aJ ar (ad++l) Y A tb yb d gv' o w' e w2)(ho:o=o') :
  (e=bE/\aJ ar ad Y A tb yb d gv o' w bE w2)\/∃b,e=.returned (aA b)/\aJ ar ad Y A tb yb d gv o' w (.returned (aA b)) w2:=by
 subst ho;have hq:=aJ.behind h ha;rcases ha.cases with⟨_,q2,_⟩|⟨t,U',l,rk',gv',_,q2,_⟩
 ·subst q2;exact inl ⟨rfl,hq⟩
 ·subst q2;exact inr ⟨_,rfl,hq⟩
def YM.new1(h:YM ar ad Y rk U A tb yb d gv w):aM (ad++[w.heap.size]) U.nodes.length=aA w.heap.size:=by unfold aM;rw[<- h.len,fC]
def YM.BC(h:YM ar ad Y rk U A tb yb d gv w){nm:Nm}(ha:ar nm=0){u:World}(hu:Kn (fun _=>False) w u)(hs:u.heap.size=w.heap.size) :
  YM ar (ad++[w.heap.size]) Y rk (U.named nm []).2 A tb yb d gv (u.alloc (.cells #[.string (bs nm),.slice none 0 0,.pointer none,.int .i64 0] aT))/\Bt ad tb yb gv w [w.heap.size] gv (u.alloc (.cells #[.string (bs nm),.slice none 0 0,.pointer none,.int .i64 0] aT)):=by
 have h1:=(h.stays hu).plain ha;rw[hs]at h1;exact⟨h1,(hu.wide fun _ _ h=>h.elim).alloc _,fun b hb=>by rw[mem_singleton.1 hb];exact le_refl _,fun _ hb=>inl hb⟩
def Kn.AH(w:World):Kn (fun _=>False) w w.drew:=(Kn.refl _ _).drew
def Three(nb g cap ba bb bc:Nat)(u:World):Prop:=u.cell? ⟨nb,2,none⟩=some (.slice (some ⟨g,0,none⟩) 3 cap)/\u.cell? ⟨g,0,none⟩=some (aA ba)/\u.cell? ⟨g,1,none⟩=some (aA bb)/\u.cell? ⟨g,2,none⟩=some (aA bc)
def dH.three{k g cap ba bb bc:Nat}(h:dH nb k txt g cap [ba,bb,bc] w):Three nb g cap ba bb bc w:=by
 have:=h.cells;exact⟨this.2.2.1,this.2.2.2 0 ba rfl,this.2.2.2 1 bb rfl,this.2.2.2 2 bc rfl⟩
def NL{k g cap ba bb:Nat}{oa:Option TS}{ob:TS->Option (Nat×TS)}(h0:ar bY=0)(h:YM ar ad Y rk U A tb yb d gv w)(hp:dH nb k txt g cap [ba,bb] w)
  (hA:∀u,Kn (Dm ad tb yb gv) w u->YM ar (ad++[w.heap.size]) Y rk (U.named bY []).2 A tb yb d gv u->Calls prog 113 #[aA yb,aA ba,aM (ad++[w.heap.size]) U.nodes.length] u (cR ar (ad++[w.heap.size]) Y A tb yb d gv oa u))
  (hB:∀u U' l rk' gv',Kn (Dm ad tb yb gv) w u->oa=some U'->YM ar (ad++l) Y rk' U' A tb yb d gv' u->Calls prog 161 #[aA yb,aA bb] u (aJ ar (ad++l) Y A tb yb d gv' (ob U') u)) :
  ∀u,Kn (fun _=>False) w u->u.heap.size=w.heap.size->Two nb g cap ba bb u/\Calls prog 39 #[] u fun e u1=>e=.returned (aA w.heap.size)/\Two nb g cap ba bb u1/\Calls prog 113 #[aA yb,aA ba,aA w.heap.size] u1 fun e u2=>
   (e=bE/\aJ ar ad Y A tb yb d gv (oa.bind ob) w bE u2)\/(e=.returned (.tuple #[])/\Two nb g cap ba bb u2/\Calls prog 161 #[aA yb,aA bb] u2 fun e u3=>
    (e=bE/\aJ ar ad Y A tb yb d gv (oa.bind ob) w bE u3)\/∃b,e=.returned (aA b)/\aJ ar ad Y A tb yb d gv (oa.bind ob) w (.returned (aA b)) u3):=by
 have Jw:∀u,Kn (Dm ad tb yb gv) w u->Two nb g cap ba bb u:=fun u hu=>(h.pt hu hp).two;intro u hu hs;refine⟨Jw _ (hu.wide fun _ _ h=>h.elim),(iQ u).mono ?_⟩;rintro e u1⟨rfl,rfl⟩;obtain⟨h1,Kz⟩:=h.BC h0 hu hs;refine⟨by rw[hs],Jw _ Kz.kn,?_⟩;have hc:=hA _ Kz.kn h1;rw[h.new1]at hc;refine hc.mono fun e u2 ha=>?_;rcases cR.go Kz ha (o:=oa.bind ob) (fun e=>by rw[e];rfl)with⟨q1,q2⟩|⟨U1,l1,rk1,gv1,q1,q2,q4,q5,q6,q7⟩
 ·exact inl ⟨q1,q2⟩
 ·refine inr ⟨q2,Jw _ q5.kn,(hB u2 U1 l1 rk1 gv1 q5.kn q1 q4).mono fun e u3 hb=>?_⟩;exact aJ.last q5 hb (by rw[q1];rfl)
def IS(oa:Option TS)(ob:TS->Option (Nat×TS))(oc:Nat->TS->Option TS):Option (Nat×TS):=oa.bind fun s=>(ob s).bind fun r=>(oc r.1 r.2).map fun s=>(r.1,s)
def VE{k g cap ba bb bc:Nat}{oa:Option TS}{ob:TS->Option (Nat×TS)}{oc:Nat->TS->Option TS}(h0:ar dZ=0)(h:YM ar ad Y rk U A tb yb d gv w)(hp:dH nb k txt g cap [ba,bb,bc] w)
  (hA:∀u,Kn (Dm ad tb yb gv) w u->YM ar (ad++[w.heap.size]) Y rk (U.named dZ []).2 A tb yb d gv u->Calls prog 113 #[aA yb,aA ba,aM (ad++[w.heap.size]) U.nodes.length] u (cR ar (ad++[w.heap.size]) Y A tb yb d gv oa u))
  (hB:∀u U' l rk' gv',Kn (Dm ad tb yb gv) w u->oa=some U'->YM ar (ad++l) Y rk' U' A tb yb d gv' u->Calls prog 161 #[aA yb,aA bb] u (aJ ar (ad++l) Y A tb yb d gv' (ob U') u))
  (hC:∀u t U0 U' l rk' gv',Kn (Dm ad tb yb gv) w u->oa=some U0->ob U0=some (t,U')->t<U'.nodes.length->YM ar (ad++l) Y rk' U' A tb yb d gv' u->Calls prog 113 #[aA yb,aA bc,aM (ad++l) t] u (cR ar (ad++l) Y A tb yb d gv' (oc t U') u)) :
  ∀u,Kn (fun _=>False) w u->u.heap.size=w.heap.size->Three nb g cap ba bb bc u/\Calls prog 265 #[] u fun e u1=>e=.returned (aA w.heap.size)/\Three nb g cap ba bb bc u1/\Calls prog 113 #[aA yb,aA ba,aA w.heap.size] u1 fun e u2=>
   (e=bE/\aJ ar ad Y A tb yb d gv (IS oa ob oc) w bE u2)\/(e=.returned (.tuple #[])/\Three nb g cap ba bb bc u2/\Calls prog 161 #[aA yb,aA bb] u2 fun e u3=>
    (e=bE/\aJ ar ad Y A tb yb d gv (IS oa ob oc) w bE u3)\/∃b,e=.returned (aA b)/\Three nb g cap ba bb bc u3/\Calls prog 113 #[aA yb,aA bc,aA b] u3 fun e u4=>
     (e=bE/\aJ ar ad Y A tb yb d gv (IS oa ob oc) w bE u4)\/(e=.returned (.tuple #[])/\aJ ar ad Y A tb yb d gv (IS oa ob oc) w (.returned (aA b)) u4)):=by
 have Jw:∀u,Kn (Dm ad tb yb gv) w u->Three nb g cap ba bb bc u:=fun u hu=>(h.pt hu hp).three;intro u hu hs;refine⟨Jw _ (hu.wide fun _ _ h=>h.elim),(vQ u).mono ?_⟩;rintro e u1⟨rfl,rfl⟩;obtain⟨h1,Kz⟩:=h.BC h0 hu hs;refine⟨by rw[hs],Jw _ Kz.kn,?_⟩;have hc:=hA _ Kz.kn h1;rw[h.new1]at hc;refine hc.mono fun e u2 ha=>?_;rcases cR.go Kz ha (o:=IS oa ob oc) (fun e=>by rw[e];rfl)with⟨q1,q2⟩|⟨U1,l1,rk1,gv1,q1,q2,q4,q5,q6,q7⟩
 ·exact inl ⟨q1,q2⟩
 ·refine inr ⟨q2,Jw _ q5.kn,(hB u2 U1 l1 rk1 gv1 q5.kn q1 q4).mono fun e u3 hb=>?_⟩;rcases aJ.go q5 hb (o:=IS oa ob oc) (fun e=>by unfold IS;rw[q1,Option.bind_some,e];rfl)with⟨r1,r2⟩|⟨t,U2,l2,rk2,gv2,r1,r2,r3,r4,r5,r6,r7⟩
  ·exact inl ⟨r1,r2⟩
  ·refine inr ⟨_,r2,Jw _ r5.kn,(hC u3 t U1 U2 l2 rk2 gv2 r5.kn q1 r1 r3 r4).mono fun e u4 hc=>?_⟩;rcases cR.go r5 hc (o:=IS oa ob oc) (fun e=>by unfold IS;rw[q1,Option.bind_some,r1,Option.bind_some,e];rfl)with⟨s1,s2⟩|⟨U3,l3,rk3,gv3,s1,s2,s4,s5,s6,s7⟩
   ·exact inl ⟨s1,s2⟩
   ·refine inr ⟨s2,?_⟩;have hl:t<U3.nodes.length:=by have:=s4.len;have:=r4.len;omega
    have:=aJ.ok (o:=IS oa ob oc) (t:=t) (by unfold IS;rw[q1,Option.bind_some,r1,Option.bind_some,s1];rfl) hl s4 s5;rw[s6 t (by rw[r4.len];exact r3)]at this;exact this
def kL(cmp:Bool)(oa:Option TS)(ob:TS->Option TS):Option (Nat×TS):=oa.bind fun s=>(ob s).map fun s=>s.named (if cmp then dZ else eI) []
def JK{k g cap ba bb:Nat}{oa:Option TS}{ob:TS->Option TS}(hi:ar eI=0)(I2:ar dZ=0)(h:YM ar ad Y rk U A tb yb d gv w)(hp:dH nb k txt g cap [ba,bb] w)(cmp:Bool)
  (hA:∀u,Kn (Dm ad tb yb gv) w u->YM ar (ad++[w.heap.size]) Y rk (U.named eI []).2 A tb yb d gv u->Calls prog 113 #[aA yb,aA ba,aM (ad++[w.heap.size]) U.nodes.length] u (cR ar (ad++[w.heap.size]) Y A tb yb d gv oa u))
  (hB:∀u U' l rk' gv',Kn (Dm ad tb yb gv) w u->oa=some U'->YM ar (ad++l) Y rk' (U'.named eI []).2 A tb yb d gv' u->Calls prog 113 #[aA yb,aA bb,aM (ad++l) U'.nodes.length] u (cR ar (ad++l) Y A tb yb d gv' (ob U') u)) :
  ∀u,Kn (fun _=>False) w u->u.heap.size=w.heap.size->Two nb g cap ba bb u/\Calls prog 38 #[] u fun e u1=>e=.returned (aA w.heap.size)/\Two nb g cap ba bb u1/\Calls prog 113 #[aA yb,aA ba,aA w.heap.size] u1 fun e u2=>
   (e=bE/\aJ ar ad Y A tb yb d gv (kL cmp oa ob) w bE u2)\/(e=.returned (.tuple #[])/\∀v,Kn (fun _=>False) u2 v->v.heap.size=u2.heap.size->Two nb g cap ba bb v/\Calls prog 38 #[] v fun e u3=>e=.returned (aA u2.heap.size)/\Two nb g cap ba bb u3/\Calls prog 113 #[aA yb,aA bb,aA u2.heap.size] u3 fun e u4=>
    (e=bE/\aJ ar ad Y A tb yb d gv (kL cmp oa ob) w bE u4)\/(e=.returned (.tuple #[])/\Two nb g cap ba bb u4/\u4.cell? ⟨nb,1,none⟩=some (.string (bs txt))/\(cmp=false->Calls prog 38 #[] u4 fun e u5=>∃b,e=.returned (aA b)/\aJ ar ad Y A tb yb d gv (kL cmp oa ob) w (.returned (aA b)) u5) /\
     (cmp=true->Calls prog 265 #[] u4 fun e u5=>∃b,e=.returned (aA b)/\aJ ar ad Y A tb yb d gv (kL cmp oa ob) w (.returned (aA b)) u5))):=by
 have Jw:∀u,Kn (Dm ad tb yb gv) w u->Two nb g cap ba bb u:=fun u hu=>(h.pt hu hp).two;intro u hu hs;refine⟨Jw _ (hu.wide fun _ _ h=>h.elim),(kJ u).mono ?_⟩;rintro e u1⟨rfl,rfl⟩;obtain⟨h1,Kz⟩:=h.BC hi hu hs;refine⟨by rw[hs],Jw _ Kz.kn,?_⟩;have hc:=hA _ Kz.kn h1;rw[h.new1]at hc;refine hc.mono fun e u2 ha=>?_;rcases cR.go Kz ha (o:=kL cmp oa ob) (fun e=>by rw[e];rfl)with⟨q1,q2⟩|⟨U1,l1,rk1,gv1,q1,q2,q4,q5,q6,q7⟩
 ·exact inl ⟨q1,q2⟩
 refine inr ⟨q2,fun v hv Ye=>?_⟩;have q5v:Bt ad tb yb gv w l1 gv1 v:=⟨q5.kn.trans (hv.wide fun _ _ h=>h.elim),q5.new,q5.giv⟩;refine⟨Jw _ q5v.kn,(kJ v).mono ?_⟩;rintro e u3⟨rfl,rfl⟩;obtain⟨h3,On⟩:=q4.BC hi hv Ye;have I3:=q5.trans On;have Xr:=hB _ U1 (l1++[u2.heap.size]) rk1 gv1 I3.kn q1 (by rw[<- append_assoc];exact h3);rw[<- append_assoc,q4.new1]at Xr;refine⟨by rw[Ye],Jw _ I3.kn,Xr.mono fun e u4 hb=>?_⟩;rcases cR.go I3 (by rw[<- append_assoc];exact hb) (o:=kL cmp oa ob) (fun e=>by unfold kL;rw[q1,Option.bind_some,e];rfl)with⟨r1,r2⟩|⟨U2,l2,rk2,gv2,r1,r2,r4,r5,r6,r7⟩
 ·exact inl ⟨r1,r2⟩
 have Zo:kL cmp oa ob=some (U2.named (if cmp then dZ else eI) []):=by unfold kL;rw[q1,Option.bind_some,r1];rfl
 refine inr ⟨r2,Jw _ r5.kn,(h.pt r5.kn hp).cells.2.1,fun e=>(kJ u4).mono ?_,fun e=>(vQ u4).mono ?_⟩
 ·subst e;rintro e u5⟨rfl,rfl⟩;obtain⟨h7,Vh⟩:=r4.BC hi (Kn.refl _ u4) rfl;refine⟨_,rfl,aJ.behind r5 ?_⟩;rw[Zo];exact aJ.BN r4 h7 (by simp[TS.named,TS.new])
 ·subst e;rintro e u5⟨rfl,rfl⟩;obtain⟨h7,Vh⟩:=r4.BC I2 (Kn.refl _ u4) rfl;refine⟨_,rfl,aJ.behind r5 ?_⟩;rw[Zo];exact aJ.BN r4 h7 (by simp[TS.named,TS.new])
end
section
variable {ar:Nm->Nat}{ad:List Nat}{Y:Nat->Prop}{rk:Nat->Nat}{U:TS}{A:Env}{tb yb d:Nat}{gv:Value}{w w':World}{nb:Nat}{txt:Nm}
def YM.CN(h:YM ar ad Y rk U A tb yb d gv w)(hc:∀(k:Nat)(c:Array Value)(t:TypeId)(f:Nat×Nat),w.heap[k]?=some (.cells c t f)->w'.heap[k]?=w.heap[k]?)(ht:w'.heap[tb]?=w.heap[tb]?)(hs:w.heap.size<=w'.heap.size):YM ar ad Y rk U A tb yb d gv w':=by
 refine⟨h.sto.kept (fun k hk=>?_) (fun k c f _=>hc k c _ f),?_,?_,aE h.giv fun k c f _=>hc k c _ f,fun b hb=>lt_of_lt_of_le (h.yok b hb) hs⟩
 ·obtain⟨c,f,Mv⟩:=h.sto.isT hk;exact hc k c _ f Mv
 ·have:=h.tab.kept (l:=[]) ht (fun k c f=>hc k c _ f) (fun k c f=>hc k c _ f) (fun k c f=>hc k c _ f);rw[append_nil]at this;exact this
 ·rw[hc _ _ _ _ h.typ];exact h.typ
def dV{v:Value}{B n:Nat}{t:TypeId}{size:Nat}{xs:List Value}{u:World}(ho:u.ownsRow B t size v n xs){b:Nat}(hb:v.ownBlock=some b):∃c,u.heap[b]?=some (.cells c t (0,0)):=by
 rcases ho.2 with⟨rfl,_⟩|⟨g,cap,cur,rfl,_,Ng,_⟩
 ·simp[ownBlock]at hb
 ·have:g=b:=by simpa [ownBlock]using hb
  subst this;exact⟨_,Ng⟩
def YM.rerow{v v':Value}{B n:Nat}{xs:List Value}{o:Obj}{u u':World}(h:YM ar ad (XV Y v) rk U A tb yb d gv u)(ho:u.ownsRow B aG 1 v n xs)(hg:(u.alloc o).grownBy u' v.ownBlock)(hl:∀g,v'.ownBlock=some g->v.ownBlock=some g\/u.heap.size<g)
  (hv:∀g,v'.ownBlock=some g->g<u'.heap.size) (Oy:∀b,v.ownBlock=some b->gv.ownBlock≠some b):YM ar ad (XV Y v') rk U A tb yb d gv u':=by
 have Ke:u.heap.size<=u'.heap.size:=le_trans (by rw[aK];omega) hg.size
 have Ju:∀k,k<u.heap.size->v.ownBlock≠some k->u'.heap[k]?=u.heap[k]?:=fun k hk hn=>by
  rw[hg.block k (by rw[aK];omega) (fun e=>hn e.symm),Below.heap_alloc _ _ _ hk]
 have Pi:∀(k:Nat)(c:Array Value)(t:TypeId)(f:Nat×Nat),u.heap[k]?=some (.cells c t f)->t≠aG->u'.heap[k]?=u.heap[k]?:=fun k c t f hc ht=>Ju k (aB hc) fun e=>by
  obtain⟨c2,h2⟩:=dV ho e;rw[hc]at h2;exact ht (aN h2)
 refine⟨h.sto.reX (fun k hk=>?_) (fun k c f hx hc=>?_) (fun k hk hx=>?_),?_,?_,?_,fun b hb=>?_⟩
 ·obtain⟨c,f,Mv⟩:=h.sto.isT hk;exact Pi k c _ f Mv (by decide)
 ·exact Ju k (aB hc) fun e=>hx (inl (inr e))
 ·rcases hx with(hx|hx)|hx
  ·exact inl (inl hx)
  ·rcases hl k hx with h1|h1
   ·exact inl (inr h1)
   ·omega
  ·exact inr hx
 ·have:=h.tab.kept (l:=[]) (w':=u') (Ju tb h.BH fun e=>by
   obtain⟨c2,h2⟩:=dV ho e;obtain⟨n,f,⟨es,cl,hm,_⟩,_⟩:=h.tab
   rw[h2]at hm;cases hm) (fun k c f hc=>Pi k c _ f hc (by decide)) (fun k c f hc=>Pi k c _ f hc (by decide)) (fun k c f hc=>Pi k c _ f hc (by decide))
  rw[append_nil]at this;exact this
 ·rw[Pi _ _ _ _ h.typ (by decide)];exact h.typ
 ·exact aE h.giv fun k c f hk hc=>Ju k (aB hc) fun e=>Oy k e hk
 ·rcases hb with hb|hb
  ·exact lt_of_lt_of_le (h.yok b (inl hb)) Ke
  ·exact hv b hb
def lW(d:Nat):∀(ls:List Nm)(U:TS),(dG d ls U).1.map Prod.fst=ls:=by
 intro ls
 induction ls with
 |nil=>intro U;rfl
 |cons a r ih=>intro U;rw[dG];simp[ih]
def lX(d:Nat):∀(ls:List Nm)(U:TS),dR U (dG d ls U).2:=by
 intro ls
 induction ls with
 |nil=>intro U;exact dR.refl _
 |cons a r ih=>intro U;rw[dG];exact(dR.new _ _).trans (ih _)
def sC{x:Nm}:∀{m:List (Nm×Nat)},x∈m.map Prod.fst->(m.lookup x).isSome=true:=by
 intro m
 induction m with
 |nil=>intro h;cases h
 |cons p r ih=>
  intro h;obtain⟨a,b⟩:=p;rw[lookup_cons]
  by_cases he:x=a
  ·subst he;simp
  ·rw[beq_false_of_ne he];rcases mem_cons.1 h with h|h
   ·exact absurd h he
   ·exact ih h
def sD{x:Nm}:∀{m:List (Nm×Nat)},x∉m.map Prod.fst->m.lookup x=none:=by
 intro m
 induction m with
 |nil=>intro _;rfl
 |cons p r ih=>
  intro h;obtain⟨a,b⟩:=p;rw[lookup_cons];have he:x≠a:=fun e=>h (by subst e;exact mem_cons_self ..);rw[beq_false_of_ne he];exact ih fun e=>h (mem_cons_of_mem _ e)
def wO(m:List (Nm×Nat))(i:Nm)(j:Nat)(k:Nm):(m++[(i,j)]).lookup k=(m.lookup k).or (if k=i then some j else none):=by
 induction m with
 |nil=>
  rw[nil_append,lookup_cons]
  by_cases he:k=i
  ·subst he;simp
  ·rw[beq_false_of_ne he,if_neg he];rfl
 |cons p r ih=>
  obtain⟨a,b⟩:=p;rw[cons_append,lookup_cons,lookup_cons]
  by_cases he:k=a
  ·subst he;simp
  ·rw[beq_false_of_ne he];exact ih
structure tN(ar:Nm->Nat)(ad:List Nat)(Y:Nat->Prop)(rk:Nat->Nat)(A:Env)(tb yb d:Nat)(gv:Value)(w:World)(ls:List Nm)(ch:List (Nm×Nat))(U':TS)(cb k:Nat)(v:Value)(wr:World)(l:List Nat)(Uk:TS):Prop where
 rest:dG d (ls.drop k) Uk=(ch.drop k,U')
 fst:ch.map Prod.fst=ls
 ym:YM ar (ad++l) (XV Y v) rk Uk A tb yb d gv wr
 chm:RE (ad++l) (ch.take k) cb wr
 kn:Kn (fun _=>False) w wr
 row:wr.ownsRow w.heap.size aG 1 v ((ch.take k).map fun p=>bH (ad++l) p.2).length (((ch.take k).map fun p=>bH (ad++l) p.2).map aA)
 new:∀b∈l,w.heap.size<=b
 cbn:w.heap.size<=cb
 tbo:tb<w.heap.size
 gvo:∀b,gv.ownBlock=some b->b<w.heap.size
variable {ls:List Nm}{ch:List (Nm×Nat)}{U' Uk:TS}{cb k:Nat}{v:Value}{wr:World}{l:List Nat}
def tN.start(h:YM ar ad Y rk U A tb yb d gv w){u:World}(hu:Kn (fun _=>False) w u)(hl:dG d ls U=(ch,U')):tN ar ad Y rk A tb yb d gv w ls ch U' u.heap.size 0 (.slice none 0 0) (u.alloc (.map #[] 0)) [] U:=by
 have h1:=(h.stays hu).alloc (.map #[] 0);refine⟨by simpa using hl,?_,?_,⟨⟨0,_,aQ.made _ _ u,fun x j _ hj=>by simp at hj⟩,by simp⟩,hu.alloc _,⟨by simp,inl ⟨rfl,by simp⟩⟩,by simp,hu.size,h.BH,fun b hb=>h.BY hb⟩
 ·have:=lW d ls U;rw[hl]at this;exact this
 ·rw[append_nil]
  exact⟨h1.sto.narrow fun b hb=>by
   rcases hb with(hb|hb)|hb
   ·exact inl hb
   ·simp[ownBlock]at hb
   ·exact inr hb,h1.tab,h1.typ,h1.giv,fun b hb=>by
   rcases hb with hb|hb
   ·exact h1.yok b hb
   ·simp[ownBlock]at hb⟩
def tN.step{own:Nm}(h:tN ar ad Y rk A tb yb d gv w ls ch U' cb k v wr l Uk)(hp:ls[k]?=some own)(Lb:LH own)(Ul:ls.Nodup)(hn:ls.length<=1000000) :
  ((ch.take k).map fun p=>bH (ad++l) p.2).length<=100000000/\w.heap.size<=(wr.alloc (.cells #[.string (bs []),.slice none 0 0,.pointer none,.int .i64 d] aT)).heap.size /\
  (wr.alloc (.cells #[.string (bs []),.slice none 0 0,.pointer none,.int .i64 d] aT)).ownsRow w.heap.size aG 1 v ((ch.take k).map fun p=>bH (ad++l) p.2).length (((ch.take k).map fun p=>bH (ad++l) p.2).map aA) /\
  ∀v' u2,u2.ownsRow w.heap.size aG 1 v' (((ch.take k).map fun p=>bH (ad++l) p.2)++[wr.heap.size]).length ((((ch.take k).map fun p=>bH (ad++l) p.2)++[wr.heap.size]).map aA) ->
   ((wr.alloc (.cells #[.string (bs []),.slice none 0 0,.pointer none,.int .i64 d] aT)).alloc (.cells #[.pointer (some ⟨wr.heap.size,0,none⟩)] aG)).grownBy u2 v.ownBlock->(∀g,v'.ownBlock=some g->v.ownBlock=some g\/(wr.alloc (.cells #[.string (bs []),.slice none 0 0,.pointer none,.int .i64 d] aT)).heap.size<g) ->
   ∃u3,(Instr.mapUpdate NF (.map (some cb)) (.string (bs own)) (aA wr.heap.size)).run prog u2=.ok () u3/\∃l' Uk',tN ar ad Y rk A tb yb d gv w ls ch U' cb (k+1) v' u3 l' Uk':=by
 have Lv:=(List.getElem?_eq_some_iff.1 hp).1
 have hd:ls.drop k=own::ls.drop (k+1):=by
  rw[List.drop_eq_getElem_cons Lv];rw[List.getElem?_eq_getElem Lv]at hp;rw[Option.some.inj hp]
 have Jw:ch.length=ls.length:=by rw[<- h.fst,length_map]
 have Na:=h.rest;rw[hd,dG]at Na;simp only[Prod.mk.injEq]at Na;obtain⟨Nk,Nc⟩:=Na
 have T6:ch.drop (k+1)=(dG d (ls.drop (k+1)) (Uk.letter d).2).1:=by
  rw[<- List.tail_drop,<- Nk];rfl
 have Tl:ch[k]?=some (own,Uk.nodes.length):=by
  rw[<- List.head?_drop,<- Nk];rfl
 have hct:ch.take (k+1)=ch.take k++[(own,Uk.nodes.length)]:=by rw[List.take_add_one,Tl];rfl
 have Js:=h.ym.letter d;have Mw:=h.ym.new1;generalize Sf:wr.alloc (.cells #[.string (bs []),.slice none 0 0,.pointer none,.int .i64 d] aT)=u1 at *;have Kj:Kn (fun _=>False) wr u1:=by rw[<- Sf];exact(Kn.refl _ _).alloc _
 have A3:u1.ownsRow w.heap.size aG 1 v ((ch.take k).map fun p=>bH (ad++l) p.2).length (((ch.take k).map fun p=>bH (ad++l) p.2).map aA):=aE h.row fun q c f _ hc=>Kj.block q (aB hc) fun h=>h;have Jm:((ch.take k).map fun p=>bH (ad++l) p.2).length=k:=by rw[length_map,List.length_take];omega
 have Qs:∀b,v.ownBlock=some b->w.heap.size<=b/\b<wr.heap.size:=fun b hb=>h.row.lt b hb;refine⟨by omega,le_trans h.kn.size Kj.size,A3,?_⟩;intro v' u2 ho hg hl
 have Oy:∀b,v.ownBlock=some b->gv.ownBlock≠some b:=fun b hb e=>by
  have h1:=(Qs b hb).1;have h2:=h.gvo b e;omega
 have Rd:=Js.rerow A3 hg hl (fun g Sj=>(ho.lt g Sj).2) Oy;have hcb1:u1.heap[cb]?=wr.heap[cb]?:=Kj.block cb h.chm.lt fun h=>h
 have o7:v.ownBlock≠some cb:=fun e=>by
  obtain⟨c2,h2⟩:=dV h.row e;obtain⟨⟨n,f,⟨es,cl,hm,_⟩,_⟩,_⟩:=h.chm;rw[h2]at hm;cases hm
 have I0:u2.heap[cb]?=wr.heap[cb]?:=by
  have Js:cb<u1.heap.size:=lt_of_lt_of_le h.chm.lt Kj.size;rw[hg.block cb (by rw[aK];omega) (fun e=>o7 e.symm),Below.heap_alloc _ _ _ Js,hcb1]
 obtain⟨⟨n,f,hm,hf⟩,Lh⟩:=h.chm;obtain⟨u3,Jo,hm3,Y8⟩:=(hm.kept I0).store LF yK (v:=aA wr.heap.size) Lb trivial (fun _ _=>trivial);have Mn:∀(q:Nat)(c:Array Value)(t:TypeId)(f:Nat×Nat),u2.heap[q]?=some (.cells c t f)->u3.heap[q]?=u2.heap[q]?:=fun q c t f hc=>bJ Y8 hc;have Pv:u3.heap[tb]?=u2.heap[tb]?:=eZ Y8 (by have:=h.tbo;have:=h.cbn;omega);have Jy:Kn (fun _=>False) w u2:=((h.kn.trans Kj).alloc _).grown hg fun q hq=>inr (Qs q hq).1;have Le:Kn (fun _=>False) w u3:=Jy.AM Y8 (inr h.cbn);have Vn:=Rd.CN Mn Pv (by rw[jP Y8];exact le_refl _)
 have Ol:own∉(ch.take k).map Prod.fst:=by
  rw[List.map_take,h.fst];intro hm;have h1:ls=ls.take k++own::ls.drop (k+1):=by rw[<- hd,List.take_append_drop]
  rw[h1]at Ul;exact(List.nodup_append.1 Ul).2.2 own hm own (mem_cons_self ..) rfl
 have Mc:∀p∈ch.take k,p.2<(ad++l).length:=Lh;refine⟨u3,Jo,l++[wr.heap.size],(Uk.letter d).2,?_,h.fst,by rw[<- append_assoc];exact Vn,?_,Le,?_,?_,h.cbn,h.tbo,h.gvo⟩
 ·rw[T6];exact Prod.ext rfl Nc
 ·rw[<- append_assoc,hct];refine⟨⟨_,_,hm3,fun x j hx hj=>?_⟩,fun p hp=>?_⟩
  ·rw[wO]at hj
   by_cases m6:x=own
   ·subst m6;rw[sD Ol,if_pos rfl]at hj;simp only[Option.none_or,Option.some.injEq]at hj;subst hj;simp only[if_true];rw[Mw]
   ·rw[if_neg m6,Option.or_none]at hj;simp only[if_neg m6];rw[hf x j hx hj,eF _ (Lh (x,j) (lV hj))]
  ·rcases mem_append.1 hp with hp|hp
   ·have:=Lh p hp;rw[length_append];omega
   ·rw[mem_singleton.1 hp,length_append,h.ym.len];simp
 ·have Pb:(ch.take (k+1)).map (fun p=>bH (ad++(l++[wr.heap.size])) p.2)=((ch.take k).map fun p=>bH (ad++l) p.2)++[wr.heap.size]:=by
   have e1:((ch.take k).map fun p=>bH (ad++(l++[wr.heap.size])) p.2)=(ch.take k).map fun p=>bH (ad++l) p.2:=List.map_congr_left fun p hp=>by
    rw[<- append_assoc,jU _ (Mc p hp)]
   have e2:bH (ad++(l++[wr.heap.size])) Uk.nodes.length=wr.heap.size:=by rw[<- append_assoc,<- h.ym.len,fC]
   rw[hct,map_append,e1,map_cons,List.map_nil];simp only[e2]
  rw[Pb];exact aE ho fun q c f _ hc=>Mn q c _ f hc
 ·intro b hb;rcases mem_append.1 hb with hb|hb
  ·exact h.new b hb
  ·rw[mem_singleton.1 hb];exact h.kn.size
def tN.done(h:tN ar ad Y rk A tb yb d gv w ls ch U' cb ls.length v wr l Uk):Uk=U'/\ch.take ls.length=ch:=by
 have h1:=h.rest;rw[List.drop_length,dG]at h1;simp only[Prod.mk.injEq]at h1;refine⟨h1.2,List.take_of_length_le ?_⟩;rw[<- h.fst,length_map];exact le_refl _
end
end Go.Proofs.YthakgdfmbknakaaGreatDoor
