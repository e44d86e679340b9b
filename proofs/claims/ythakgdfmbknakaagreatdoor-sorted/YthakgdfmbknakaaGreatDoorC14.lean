import Derived.Test.YthakgdfmbknakaaGreatDoorC13
import Derived.Laws.CopyRow
set_option linter.all false
set_option maxHeartbeats 40000000
set_option maxRecDepth 100000
open Go.Proofs.Tryz
open Or (inl inr)
open Nat (le_refl le_trans zero_le lt_of_lt_of_le)
open List (append_nil length_append length_cons mem_cons_self mem_cons_of_mem cons_append mem_cons map_append length_map)
namespace Go.Proofs.YthakgdfmbknakaaGreatDoor
open Bool (and_eq_true)
open Kn (AH)
open World (cell? ownsRow_nil setCell setRow)
open Instr (makeFunc slice)
open Region (linearise schedule)
open Builtin (append_)
open Go.RowKit
section
variable {mb tb bb:Nat}{A:List Nm}{w:World}
def Jg{nb:Nat}{txt:Nm}{a b:Nd}{ca cb:Cd}(hx:cL (0,txt))(Jm:A.length+1<=1000000)(hB:BM mb tb bb A A.length w)(hn:AB w (.mk 6 txt [a,b]) nb)
  (hE:∀u q,BM mb tb bb A A.length u->AB u a q->Calls prog 91 #[aA bb,aA q] u (BA mb tb bb A ca u))
  (Mt:∀u q,BM mb tb bb (txt::A) (txt::A).length u->AB u b q->Calls prog 91 #[aA bb,aA q] u (BA mb tb bb (txt::A) cb u)) :
  Calls prog 91 #[aA bb,aA nb] w (BA mb tb bb A ⟨6,0,txt,[ca,cb],[]⟩ w):=by
 have hF:Fresh w ((w.alloc (.cells #[aA bb] 164)).alloc (.cells #[aA nb] 51)):=((Fresh.refl w).alloc _).alloc _;have d12:=qU w (.cells #[aA bb] 164) (.cells #[aA nb] 51);have Ld:=hB.tree (hF.kn.wide fun _ _ h=>h.elim) hn;have z2:=cell_of' d12.2;have z3:=cell_of' d12.1;generalize My:(w.alloc (.cells #[aA bb] 164)).alloc (.cells #[aA nb] 51)=w1 at *;have Kf:=hB.stays hF.kn;have Lw:RA bb nb w.heap.size (w.heap.size+1) w1:=⟨d12.1,d12.2⟩;obtain⟨g,cap,bl',hp,hm,Kx⟩:=Ld.pt (by simp);have Rp:bl'.length<=1000:=by rw[Kx];simp
 obtain⟨ba,Od,_⟩:=hm.at (i:=1) (p:=b) rfl;have z0:w1.cell? ⟨nb,0,none⟩=some (.int .i64 6):=hp.cells.1
 have Om:tP mb tb bb A w1 txt 132 #[aA w.heap.size,aA (w.heap.size+1)] cb:=by
  refine⟨aF.xe2,fun v hv h2=>?_⟩;refine Fx (Lw.kept Kf hv) (Kf.pt hv hp) Od Rp (fun v2 Mx=>?_);have Ua:Kn (fun k=>k=tb\/k=bb) w1 v2:=hv.trans (Mx.wide fun _ _ h=>h.elim);have Ly:AB.AD v2 [a,b] bl':=hm.kept (fun k c f hc=>Ua.block k (aB hc) fun e=>by rcases e with e|e;exact Kf.AF hc e;exact Kf.AI hc (by decide) e) (fun k c f hc=>Ua.block k (aB hc) fun e=>by rcases e with e|e;exact Kf.AF hc e;exact Kf.AI hc (by decide) e);obtain⟨bb',Pg,Lr⟩:=Ly.at (i:=1) (p:=b) rfl;rw[Od]at Pg;cases Pg;exact Mt v2 ba (h2.stays Mx) Lr
 have HP:=aC ((MG (r:=[b]) (by simp) hx Jm Kf Ld Om hE).mono fun e u2 ha=>ha.behind (hF.kn.wide fun _ _ h=>h.elim));clear hE Mt hn Ld d12 hF hB Kf Lw hp hm Od Kx Rp Om;unfold aA at *;go_enter func91,ntmps91;go_wp2_with fail;refine(HP.out).mono ?_;intro e u2 hq;obtain⟨Kr,csr,rfl,Ki⟩:=hq;have HQ:=aC (show BA mb tb bb A _ w _ u2 from⟨Kr,csr,rfl,Ki⟩);clear Ki;go_wp2;refine bodyPost_ret (v:=.func (.func Kr) #[] csr) (by simp[results,results91,go_sem]) rfl HQ.out
def LJ(f:List Nm->Nd->Bool)(A:List Nm)(r:Nd):Bool:=
 match r.ps with
 |[p,e]=>(p.k==14) && decide (p.ps.length<=1000) && p.ps.all (fun q=>q.k==3) && p.all.all (fun x=>decide (x.txt.length<=1000)) && decide (p.all.length<=1000) && f (binds A (bK p)) e
 |_=>false
def ID(f:List Nm->Nd->Bool)(A:List Nm)(txt:Nm)(k:Nat)(ps:List Nd):Bool:=
 match k,ps with
 |0,[]=>txt==[48]
 |2,[]=>true
 |3,[]=>(A.idxOf? txt).isSome
 |5,[a]=>f (txt::A) a
 |6,[a,b]=>f A a && f (txt::A) b
 |8,[a,b,c]=>f A a && f A b && f A c
 |9,[a,b]=>f A a && f A b
 |11,[a,b]=>(txt==[60]) && f A a && f A b
 |13,[a,b]=>f A a && f A b
 |14,[]=>true
 |14,[a,b]=>f A a && f A b
 |15,a::rest=>f A a && (a.k != 16) && decide (rest.length<=1000) && (a::rest).all (fun q=>decide (q.k<=1000)) && decide (0<(only 16 rest).length) && (only 16 rest).all (LJ f A)
 |_,_=>false
def Dn:Nat->List Nm->Nd->Bool
 |0,_,_=>false
 |n+1,A,nd=>decide (nd.txt.length<=1000) && decide (A.length<=1000) && ID (Dn n) A nd.txt nd.k nd.ps
def sQ:∀(n:Nat)(nd:Nd)(A:List Nm)(w:World)(nb:Nat),Dn n A nd=true->BM mb tb bb A A.length w->AB w nd nb->Calls prog 91 #[aA bb,aA nb] w (BA mb tb bb A (fL n A nd) w):=by
 intro n
 induction n with
 |zero=>intro nd A w nb h;cases h
 |succ n ih=>
  intro nd A w nb h hB hn;obtain⟨k,txt,ps⟩:=nd;rw[Dn]at h;simp only[and_eq_true,decide_eq_true_eq]at h;obtain⟨⟨ht,hl⟩,h⟩:=h
  replace ht:txt.length<=1000:=ht
  replace h:ID (Dn n) A txt k ps=true:=h
  unfold ID at h;have hx:cL (0,txt):=⟨show 0<3 by decide,show txt.length<=100000000 by omega⟩;have Jm:A.length+1<=1000000:=by omega
  split at h
  ·have:txt=[48]:=by simpa using h
   subst this;exact Jk hB hn
  ·exact Jj hB hn
  ·obtain⟨i,hi⟩:=Option.isSome_iff_exists.1 h;have:=Ji hx hi hB hn;rw[fL,hi];exact this
  ·rename_i a
   show Calls prog 91 #[aA bb,aA nb] w (BA mb tb bb A ⟨5,0,txt,[fL n (txt::A) a],[]⟩ w);exact Jh hx Jm hB hn fun u b hu hb=>ih _ _ u b h hu hb
  ·rename_i a b;simp only[and_eq_true]at h
   show Calls prog 91 #[aA bb,aA nb] w (BA mb tb bb A ⟨6,0,txt,[fL n A a,fL n (txt::A) b],[]⟩ w);exact Jg hx Jm hB hn (fun u q hu hq=>ih _ _ u q h.1 hu hq) (fun u q hu hq=>ih _ _ u q h.2 hu hq)
  ·rename_i a b d;simp only[and_eq_true]at h
   show Calls prog 91 #[aA bb,aA nb] w (BA mb tb bb A ⟨8,0,txt,[fL n A a,fL n A b,fL n A d],[]⟩ w);refine Im hB hn fun u hu=>QD (hB.stays hu) (hB.tree (hu.wide fun _ _ h=>h.elim) hn) (fun i nd b' c v h1 h2 h3 h4=>?_)
   match i,h1,h2 with
   |0,h1,h2=>cases h1;cases h2;exact ih _ _ v b' h.1.1 h3 h4
   |1,h1,h2=>cases h1;cases h2;exact ih _ _ v b' h.1.2 h3 h4
   |2,h1,h2=>cases h1;cases h2;exact ih _ _ v b' h.2 h3 h4
   |i+3,h1,_=>simp at h1
  ·rename_i a b;simp only[and_eq_true]at h
   show Calls prog 91 #[aA bb,aA nb] w (BA mb tb bb A ⟨9,0,txt,[fL n A a,fL n A b],[]⟩ w);refine Il hB hn fun u hu=>QC (hB.stays hu) (hB.tree (hu.wide fun _ _ h=>h.elim) hn) (fun i nd b' c v h1 h2 h3 h4=>?_)
   match i,h1,h2 with
   |0,h1,h2=>cases h1;cases h2;exact ih _ _ v b' h.1 h3 h4
   |1,h1,h2=>cases h1;cases h2;exact ih _ _ v b' h.2 h3 h4
   |i+2,h1,_=>simp at h1
  ·rename_i a b;simp only[and_eq_true]at h;have hop:txt=[60]:=by simpa using h.1.1
   show Calls prog 91 #[aA bb,aA nb] w (BA mb tb bb A ⟨11,0,txt,[fL n A a,fL n A b],[]⟩ w);refine Hn hB hn fun u hu=>JH (hB.stays hu) (hB.tree (hu.wide fun _ _ h=>h.elim) hn) hop (fun i nd b' c v h1 h2 h3 h4=>?_)
   match i,h1,h2 with
   |0,h1,h2=>cases h1;cases h2;exact ih _ _ v b' h.1.2 h3 h4
   |1,h1,h2=>cases h1;cases h2;exact ih _ _ v b' h.2 h3 h4
   |i+2,h1,_=>simp at h1
  ·rename_i a b;simp only[and_eq_true]at h
   show Calls prog 91 #[aA bb,aA nb] w (BA mb tb bb A ⟨13,0,txt,[fL n A a,fL n A b],[]⟩ w);refine Hm hB hn fun u hu=>JG (hB.stays hu) (hB.tree (hu.wide fun _ _ h=>h.elim) hn) (fun i nd b' c v h1 h2 h3 h4=>?_)
   match i,h1,h2 with
   |0,h1,h2=>cases h1;cases h2;exact ih _ _ v b' h.1 h3 h4
   |1,h1,h2=>cases h1;cases h2;exact ih _ _ v b' h.2 h3 h4
   |i+2,h1,_=>simp at h1
  ·show Calls prog 91 #[aA bb,aA nb] w (BA mb tb bb A ⟨14,0,txt,[],[]⟩ w);exact Ds hB hn fun u hu=>EM (hB.stays hu) (hB.tree (hu.wide fun _ _ h=>h.elim) hn)
  ·rename_i a b;simp only[and_eq_true]at h
   show Calls prog 91 #[aA bb,aA nb] w (BA mb tb bb A ⟨14,0,txt,[fL n A a,fL n A b],[]⟩ w);refine Ds hB hn fun u hu=>JF (hB.stays hu) (hB.tree (hu.wide fun _ _ h=>h.elim) hn) (fun i nd b' c v h1 h2 h3 h4=>?_)
   match i,h1,h2 with
   |0,h1,h2=>cases h1;cases h2;exact ih _ _ v b' h.1 h3 h4
   |1,h1,h2=>cases h1;cases h2;exact ih _ _ v b' h.2 h3 h4
   |i+2,h1,_=>simp at h1
  ·rename_i a rest;simp only[and_eq_true,decide_eq_true_eq,List.all_eq_true,bne_iff_ne,ne_eq]at h;obtain⟨⟨⟨⟨⟨h1,h2⟩,h3⟩,h4⟩,h5⟩,h6⟩:=h;have ho:only 16 (a::rest)=only 16 rest:=by unfold only;rw[List.filter_cons,if_neg (by simpa using h2)]
   have Um:(only 16 rest).length<=1000:=le_trans (List.length_filter_le _ _) h3
   show Calls prog 91 #[aA bb,aA nb] w (BA mb tb bb A ⟨15,0,[],fL n A a::(only 16 rest).map (fun r=>match r.ps with|[p,e]=>fL n ((bK p).foldl (fun A v=>v::A) A) e|_=>⟨2,0,[],[],[]⟩),(only 16 rest).map (fun r=>match r.ps with|p::_=>⟨p.txt,p.ps.length⟩|[]=>⟨[],0⟩)⟩ w);refine Io hB hn (by simp;omega) h4 (fun u q hu hq=>ih _ _ u q h1 hu hq) (by rw[ho,length_map]) (by rw[length_map,length_map]) (by rw[length_map];exact h5) (by rw[length_map];exact Um) (fun j r p c hr hp hc=>?_);rw[ho]at hr;rw[List.getElem?_map,hr]at hp hc;have Jv:=List.mem_of_getElem? hr;have Uz:r.k=16:=by simpa using (List.mem_filter.1 Jv).2
   have Lb:=h6 r Jv;obtain⟨rk,rt,rp⟩:=r;cases Uz;rcases rp with _|⟨p',_|⟨e,_|⟨_,_⟩⟩⟩
   ·simp[LJ]at Lb
   ·simp[LJ]at Lb
   ·replace Lb:((p'.k==14) && decide (p'.ps.length<=1000) && p'.ps.all (fun q=>q.k==3) && p'.all.all (fun x=>decide (x.txt.length<=1000)) && decide (p'.all.length<=1000) && Dn n (binds A (bK p')) e)=true:=Lb
    simp only[and_eq_true,decide_eq_true_eq,List.all_eq_true,beq_iff_eq]at Lb;obtain⟨⟨⟨⟨⟨g1,g2⟩,g3⟩,g4⟩,g5⟩,g6⟩:=Lb;obtain⟨pk,nm,ps'⟩:=p';cases g1;cases hp;cases hc;have hv:(bK (.mk 14 nm ps')).length<=(Nd.mk 14 nm ps').all.length:=by unfold bK;rw[length_map];exact List.length_filter_le _ _
    have Mx:=le_trans hv g5;exact⟨rt,nm,ps',e,rfl,rfl,g2,g3,fun x hx=>le_trans (g4 x hx) (by decide),le_trans g5 (by decide),by omega,fun u b hu hb=>ih _ _ u b g6 hu hb⟩
   ·simp[LJ]at Lb
  ·cases h
end
section
variable {mb tb bb:Nat}{A:List Nm}{w:World}
def Cr{nb Kb:Nat}{csb:Array Value}{txt:Nm}{a:Nd}{r:List Nd}{ca cb:Cd}(hr:r.length<=100)(hx:cL (0,txt))(Jm:A.length+1<=1000000)(hB:BM mb tb bb A A.length w)(hn:AB w (.mk 7 txt (a::r)) nb)(hb:tP mb tb bb A w txt Kb csb cb)
  (hE:∀u b,BM mb tb bb (txt::A) (txt::A).length u->AB u a b->Calls prog 91 #[aA bb,aA b] u (BA mb tb bb (txt::A) ca u)) :
  Calls prog 92 #[aA bb,aA nb,.func (.func Kb) #[] csb] w (BA mb tb bb A ⟨7,0,txt,[ca,cb],[]⟩ w):=by
 have hF:Fresh w ((w.alloc (.cells #[aA bb] 164)).alloc (.cells #[aA nb] 51)):=((Fresh.refl w).alloc _).alloc _;have d12:=qU w (.cells #[aA bb] 164) (.cells #[aA nb] 51);have Ld:=hB.tree (hF.kn.wide fun _ _ h=>h.elim) hn;have z2:=cell_of' d12.2;have z3:=cell_of' d12.1;generalize My:(w.alloc (.cells #[aA bb] 164)).alloc (.cells #[aA nb] 51)=w1 at *;have Kf:=hB.stays hF.kn;have Lw:RA bb nb w.heap.size (w.heap.size+1) w1:=⟨d12.1,d12.2⟩;obtain⟨g,cap,bl',hp,hm,Kx⟩:=Ld.pt (by simp);have Rp:bl'.length<=1000:=by rw[Kx,length_cons];omega
 obtain⟨ba,Od,_⟩:=hm.at (i:=0) (p:=a) rfl;have z0:w1.cell? ⟨nb,0,none⟩=some (.int .i64 7):=hp.cells.1;have Rb:Kn (fun k=>k=tb\/k=bb) w w1:=hF.kn.wide fun _ _ h=>h.elim;have Jw:∀v,Kn (fun k=>k=tb\/k=bb) w1 v->v.cell? ⟨w.heap.size,0,none⟩=some (aA bb)/\v.cell? ⟨w.heap.size+1,0,none⟩=some (aA nb)/\v.cell? ⟨nb,1,none⟩=some (.string (bs txt)):=fun v hv=>⟨cell_of' (Lw.kept Kf hv).b,cell_of' (Lw.kept Kf hv).n,(Kf.pt hv hp).cells.2.1⟩
 have hA:∀u g,Kn (fun _=>False) w1 u->Row txt g u->Calls prog 56 #[aA bb,.func (.func 136) #[] #[aA w.heap.size,aA (w.heap.size+1)],.slice (some ⟨g,0,none⟩) 1 1] u fun e u2=>∃K1 cs1,e=.returned (.func (.func K1) #[] cs1)/\(u2.cell? ⟨w.heap.size,0,none⟩=some (aA bb)/\u2.cell? ⟨w.heap.size+1,0,none⟩=some (aA nb)/\u2.cell? ⟨nb,1,none⟩=some (.string (bs txt)))/\Hid (∀g,Row txt g u->Row txt g u2)/\Hid (∀v g,Kn (fun _=>False) u2 v->Row txt g v->Calls prog 56 #[aA bb,.func (.func Kb) #[] csb,.slice (some ⟨g,0,none⟩) 1 1] v fun e u3=>∃K2 cs2,e=.returned (.func (.func K2) #[] cs2)/\(u3.cell? ⟨w.heap.size,0,none⟩=some (aA bb)/\u3.cell? ⟨w.heap.size+1,0,none⟩=some (aA nb)/\u3.cell? ⟨nb,1,none⟩=some (.string (bs txt)))/\Hid (Calls prog 137 #[.func (.func K1) #[] cs1,.func (.func K2) #[] cs2] u3 fun e u4=>BA mb tb bb A ⟨7,0,txt,[ca,cb],[]⟩ w e u4/\(u4.cell? ⟨w.heap.size,0,none⟩=some (aA bb)/\u4.cell? ⟨w.heap.size+1,0,none⟩=some (aA nb)/\u4.cell? ⟨nb,1,none⟩=some (.string (bs txt))))):=fun u g0 hu Ov=>by
  have Ns:Kn (fun k=>k=tb\/k=bb) w1 u:=hu.wide fun _ _ h=>h.elim;refine(vW (c:=ca) aF.xb1 hx Jm (Kf.stays hu) Ov (fun v h1 h2=>?_)).mono ?_
  ·have hv:=Ns.trans h1;refine WJ (Lw.kept Kf hv) (Kf.pt hv hp) Od Rp (fun v2 Mx=>?_);have Ua:Kn (fun k=>k=tb\/k=bb) w1 v2:=hv.trans (Mx.wide fun _ _ h=>h.elim);have Ly:AB.AD v2 (a::r) bl':=hm.kept (fun k c f hc=>Ua.block k (aB hc) fun e=>by rcases e with e|e;exact Kf.AF hc e;exact Kf.AI hc (by decide) e) (fun k c f hc=>Ua.block k (aB hc) fun e=>by rcases e with e|e;exact Kf.AF hc e;exact Kf.AI hc (by decide) e);obtain⟨bb',Pg,Lr⟩:=Ly.at (i:=0) (p:=a) rfl;rw[Od]at Pg;cases Pg;exact hE v2 ba (h2.stays Mx) Lr
  ·rintro e u2⟨K1,cs1,rfl,q1,q2,q3⟩;have k2:=Ns.trans q2;refine⟨K1,cs1,rfl,Jw u2 k2,fun g hg=>hg.kept (Kf.stays hu) q2,fun v g hv hg=>?_⟩;have Uh:Kn (fun k=>k=tb\/k=bb) u2 v:=hv.wide fun _ _ h=>h.elim;refine(vW (c:=cb) hb.1 hx Jm (q1.stays hv) hg (fun v2 h1 h2=>hb.2 v2 (((Rb.trans k2).trans Uh).trans h1) h2)).mono ?_;rintro e u3⟨K2,cs2,rfl,p1,p2,p3⟩;have k3:=(k2.trans Uh).trans p2;refine⟨K2,cs2,rfl,Jw u3 k3,(Hp (nm:=txt) p1 (q3.kept (q1.kr (Uh.trans p2))) p3).mono fun e u4 ha=>?_⟩;have Mr:Kn (fun k=>k=tb\/k=bb) u3 u4:=by obtain⟨_,_,_,_,h,_⟩:=ha;exact h
   exact⟨ha.behind (Rb.trans k3),Jw u4 (k3.trans Mr)⟩
 have HA:=aC hA;obtain⟨c1a,c2a,c3a⟩:=Jw w1.drew ((AH w1).wide fun _ _ h=>h.elim);clear hE hn Ld d12 hF hB hA Kf Lw hp hm Od Kx Rp Jw hb Rb;unfold aA Row at *;generalize bs txt=tx at *;have Ju:((7:Int)==7)=true:=by decide
 have k1:=Kn.a1 w1 (.cells #[.string tx] aI);have k2:=Kn.a2 w1 (.cells #[.string tx] aI) (.cells #[.string tx] aI);have r1:(w1.alloc (.cells #[.string tx] aI)).drew.heap[w1.heap.size]?=some (.cells #[.string tx] aI (0,0)):=JZ w1 _;have r2:((w1.alloc (.cells #[.string tx] aI)).alloc (.cells #[.string tx] aI)).drew.heap[w1.heap.size]?=some (.cells #[.string tx] aI (0,0)):=(qU w1 _ _).1;have r3:((w1.alloc (.cells #[.string tx] aI)).alloc (.cells #[.string tx] aI)).drew.heap[w1.heap.size+1]?=some (.cells #[.string tx] aI (0,0)):=(qU w1 _ _).2;have HKs:=aC (And.intro k1 k2);have W5:=aC (And.intro r1 (And.intro r2 r3));have hKn:∀u:World,Kn (fun _=>False) u u/\Kn (fun _=>False) u (u.alloc (.cells #[.string tx] aI))/\(u.alloc (.cells #[.string tx] aI)).heap[u.heap.size]?=some (.cells #[.string tx] aI (0,0)):=fun u=>⟨Kn.refl _ _,(Kn.refl _ _).alloc _,JZ _ _⟩;have HKn:=aC hKn;clear k1 k2 r1 r2 r3 hKn;go_enter func92,ntmps92;go_wp2_with fail
 go_region_held2 (fun w'=>w'.cell? ⟨w.heap.size,0,none⟩=some (.pointer (some ⟨bb,0,none⟩))/\w'.cell? ⟨w.heap.size+1,0,none⟩=some (.pointer (some ⟨nb,0,none⟩))/\w'.cell? ⟨nb,1,none⟩=some (.string tx)) (first|exact⟨c1a,c2a,c3a⟩|exact⟨aL c1a,aL c2a,aL c3a⟩|exact⟨aL (aL c1a),aL (aL c2a),aL (aL c3a)⟩)
  (first
   |(go_at_call 56;first
     |((with_reducible refine(HA.out _ w1.heap.size HKs.out.1 W5.out.1).mono ?_);rintro e u2⟨K1,cs1,rfl,⟨c1a,c2a,c3a⟩,H1,H2⟩)
     |((with_reducible refine(HA.out _ w1.heap.size HKs.out.2 W5.out.2.1).mono ?_);rintro e u2⟨K1,cs1,rfl,⟨c1a,c2a,c3a⟩,H1,H2⟩;have HR:=aC (H1.out _ W5.out.2.2))
     |((with_reducible refine(HA.out _ (w1.heap.size+1) HKs.out.2 W5.out.2.2).mono ?_);rintro e u2⟨K1,cs1,rfl,⟨c1a,c2a,c3a⟩,H1,H2⟩;have HR:=aC (H1.out _ W5.out.2.1))
     |((with_reducible refine(H2.out _ _ (HKn.out u2).1 HR.out).mono ?_);rintro e u3⟨K2,cs2,rfl,⟨c1a,c2a,c3a⟩,HC⟩)
     |((with_reducible refine(H2.out _ _ (HKn.out u2).2.1 (HKn.out u2).2.2).mono ?_);rintro e u3⟨K2,cs2,rfl,⟨c1a,c2a,c3a⟩,HC⟩))
   |(go_at_call 137;(refine(HC.out).mono ?_);rintro e u4⟨hq,c1a,c2a,c3a⟩;obtain⟨Kr,csr,rfl,Ki⟩:=hq;have HQ:=aC (show BA mb tb bb A _ w _ u4 from⟨Kr,csr,rfl,Ki⟩);clear Ki))
 all_goals
  go_wp2;refine bodyPost_ret (v:=.func (.func Kr) #[] csr) (by simp[results,results92,go_sem]) rfl HQ.out
end
section
variable {mb tb bb:Nat}{A:List Nm}{w:World}
structure lA(g off cp:Nat)(l:List Nd)(w:World):Prop where
 row:∃cs:Array Value,w.heap[g]?=some (.cells cs aH (0,0))/\∀(j:Nat)(nd:Nd),l[j]?=some nd->∃b,cs[off+j]?=some (aA b)/\AB w nd b
 cap:l.length<=cp
 len:l.length<=100000
def lA.kept{g off cp:Nat}{l:List Nd}{u:World}(h:lA g off cp l w)(hB:BM mb tb bb A A.length w)(hk:Kn (fun k=>k=tb\/k=bb) w u):lA g off cp l u:=by
 obtain⟨cs,h1,h2⟩:=h.row;refine⟨⟨cs,(hk.block g (aB h1) fun e=>by rcases e with e|e;exact hB.AF h1 e;exact hB.AI h1 (by decide) e).trans h1,fun j nd hj=>?_⟩,h.cap,h.len⟩;obtain⟨b,h3,h4⟩:=h2 j nd hj;exact⟨b,h3,hB.tree hk h4⟩
def lA.tail{g off cp:Nat}{d:Nd}{l:List Nd}(h:lA g off cp (d::l) w):lA g (off+1) (cp-1) l w:=by
 obtain⟨cs,h1,h2⟩:=h.row;have h3:=h.cap;have h4:=h.len;rw[length_cons]at h3 h4;refine⟨⟨cs,h1,fun j nd hj=>?_⟩,by omega,by omega⟩;obtain⟨b,h5,h6⟩:=h2 (j+1) nd (by simpa using hj);exact⟨b,by rw[show off+1+j=off+(j+1) by omega];exact h5,h6⟩
def lA.first{g off cp:Nat}{d:Nd}{l:List Nd}(h:lA g off cp (d::l) w):∃b,w.cell? ⟨g,off,none⟩=some (aA b)/\AB w d b:=by
 obtain⟨cs,h1,h2⟩:=h.row;obtain⟨b,h5,h6⟩:=h2 0 d rfl;exact⟨b,by simp[cell?,h1];simpa using h5,h6⟩
def aF.CL:aF 89:=enters func89 (by kernel_rfl) rfl
def QF{g off cp s1 s2 n:Nat}{c:Cd}(h1:w.heap[s1]?=some (.cells #[aA bb] 164 (0,0)))(h2:w.heap[s2]?=some (.cells #[.slice (some ⟨g,off,none⟩) 1 1] 41 (0,0)))
  (hE:∀u,Kn (fun _=>False) w u->Calls prog 58 #[aA bb,.slice (some ⟨g,off,none⟩) 0 0] u (BA mb tb bb A c u)) :
  Calls prog 89 #[aA s1,aA s2] w (BA mb tb bb A c w):=by
 have d1:w.cell? ⟨s1,0,none⟩=some (aA bb):=cell_of' h1;have d2:w.cell? ⟨s2,0,none⟩=some (.slice (some ⟨g,off,none⟩) 1 1):=cell_of' h2;have HE:=aC (show ∀u,Kn (fun _=>False) w u->Calls prog 58 #[aA bb,.slice (some ⟨g,off,none⟩) 0 0] u (BA mb tb bb A c w)from fun u hu=>(hE u hu).mono fun e u2 ha=>ha.behind (hu.wide fun _ _ h=>h.elim));have HV:=aC (AH w);clear hE h1 h2;unfold aA at *;go_enter func89,ntmps89;go_wp2_with fail
 go_region_with ((refine(HE.out _ HV.out).mono ?_);intro e u hq;obtain⟨Kr,csr,rfl,Ki⟩:=hq;have HQ:=aC (show BA mb tb bb A c w _ u from⟨Kr,csr,rfl,Ki⟩);clear Ki)
 all_goals
  go_wp2;refine bodyPost_ret (v:=.func (.func Kr) #[] csr) (by simp[results,results89,go_sem]) rfl HQ.out
def QE{g off cp s1 s2 n:Nat}{c:Cd}(h1:w.heap[s1]?=some (.cells #[aA bb] 164 (0,0)))(h2:w.heap[s2]?=some (.cells #[.slice (some ⟨g,off,none⟩) (n+1) (cp+1+1)] 41 (0,0)))(hsl:(slice 41 (.slice (some ⟨g,off,none⟩) (n+1) (cp+1+1)) (some (.int .i64 1)) none none).run prog w.drew=.ok (.slice (some ⟨g,off+1,none⟩) n (cp+1)) w.drew)
  (hE:∀u,Kn (fun _=>False) w u->Calls prog 58 #[aA bb,.slice (some ⟨g,off+1,none⟩) n (cp+1)] u (BA mb tb bb A c u)) :
  Calls prog 89 #[aA s1,aA s2] w (BA mb tb bb A c w):=by
 have d1:w.cell? ⟨s1,0,none⟩=some (aA bb):=cell_of' h1;have d2:w.cell? ⟨s2,0,none⟩=some (.slice (some ⟨g,off,none⟩) (n+1) (cp+1+1)):=cell_of' h2;have HE:=aC (show ∀u,Kn (fun _=>False) w u->Calls prog 58 #[aA bb,.slice (some ⟨g,off+1,none⟩) n (cp+1)] u (BA mb tb bb A c w)from fun u hu=>(hE u hu).mono fun e u2 ha=>ha.behind (hu.wide fun _ _ h=>h.elim));have HV:=aC (AH w);clear hE h1 h2;unfold aA at *;go_enter func89,ntmps89;go_wp2_with fail
 go_region_with ((refine(HE.out _ HV.out).mono ?_);intro e u hq;obtain⟨Kr,csr,rfl,Ki⟩:=hq;have HQ:=aC (show BA mb tb bb A c w _ u from⟨Kr,csr,rfl,Ki⟩);clear Ki)
 all_goals
  go_wp2;refine bodyPost_ret (v:=.func (.func Kr) #[] csr) (by simp[results,results89,go_sem]) rfl HQ.out
end
section
variable {mb tb bb:Nat}{A:List Nm}{w:World}
def GH(g off n cp:Nat)(w:World):(slice 41 (.slice (some ⟨g,off,none⟩) (n+1) (cp+1+1)) (some (.int .i64 1)) none none).run prog w=.ok (.slice (some ⟨g,off+1,none⟩) n (cp+1)) w:=by
 have hs:(prog.info? aH).map (fun i=>i.size)=some 1:=by kernel_rfl
 cases hi:prog.info? aH with
 |none=>rw[hi]at hs;cases hs
 |some j=>
  rw[hi]at hs;have hz:j.size=1:=by simpa using hs
  have h1:(1:Int)<=(n:Int)+1:=by omega
  simp[slice,run_underlying underlying41,Instr.sliceBounds,Instr.sliceBound,asIntOf,sizeOf,typeInfo,hi,hz,h1,Addr.add]
def mK{g off cp s1 s2:Nat}{d:Nd}{l:List Nd}{c:Cd}(hB:BM mb tb bb A A.length w)(h1:w.heap[s1]?=some (.cells #[aA bb] 164 (0,0)))(h2:w.heap[s2]?=some (.cells #[.slice (some ⟨g,off,none⟩) (d::l).length cp] 41 (0,0)))(hd:lA g off cp (d::l) w)
  (hE:∀u v,BM mb tb bb A A.length u->((l=[]/\∃a c,v=.slice a 0 c)\/∃g off cp,v=.slice (some ⟨g,off,none⟩) l.length cp/\l≠[]/\lA g off cp l u)->Calls prog 58 #[aA bb,v] u (BA mb tb bb A c u)) :
  Calls prog 89 #[aA s1,aA s2] w (BA mb tb bb A c w):=by
 have Oc:=hd.cap;rw[length_cons]at Oc h2;have ht:=hd.tail
 match cp,Oc with
 |1,Oc=>
  have hl:l=[]:=List.length_eq_zero_iff.1 (by omega);subst hl;exact QF (cp:=0) (n:=0) h1 h2 fun u hu=>hE u _ (hB.stays hu) (inl ⟨rfl,_,_,rfl⟩)
 |cp+2,Oc=>
  refine QE h1 h2 (GH _ _ _ _ _) fun u hu=>hE u _ (hB.stays hu) ?_
  by_cases hl:l=[]
  ·subst hl;exact inl ⟨rfl,_,_,rfl⟩
  ·exact inr ⟨_,_,_,rfl,hl,ht.kept hB (hu.wide fun _ _ h=>h.elim)⟩
def TO{a:Option Addr}{c:Nat}(hB:BM mb tb bb A A.length w):Calls prog 58 #[aA bb,.slice a 0 c] w (BA mb tb bb A ⟨2,0,[],[],[]⟩ w):=by
 have hF:Fresh w ((w.alloc (.cells #[aA bb] 164)).alloc (.cells #[.slice a 0 c] 41)):=((Fresh.refl w).alloc _).alloc _;have d12:=qU w (.cells #[aA bb] 164) (.cells #[.slice a 0 c] 41);have z2:=cell_of' d12.2;have z3:=cell_of' d12.1;generalize My:(w.alloc (.cells #[aA bb] 164)).alloc (.cells #[.slice a 0 c] 41)=w1 at *;have HP:=aC ((WW (nm:=[]) (hB.stays hF.kn)).mono fun e u2 ha=>ha.behind (hF.kn.wide fun _ _ h=>h.elim));clear d12 hF hB;unfold aA iW at *;go_enter func58,ntmps58;go_wp2_with fail;refine(HP.out).mono ?_;intro e u2 hq;obtain⟨Kr,csr,rfl,Ki⟩:=hq;have HQ:=aC (show BA mb tb bb A _ w _ u2 from⟨Kr,csr,rfl,Ki⟩);clear Ki;go_wp2;refine bodyPost_ret (v:=.func (.func Kr) #[] csr) (by simp[results,results58,go_sem]) rfl HQ.out
def Hf{g off cp:Nat}{txt:Nm}{ps:List Nd}{l:List Nd}{c:Cd}(hx:cL (0,txt))(Jm:A.length+1<=1000000)(hB:BM mb tb bb A A.length w)(hd:lA g off cp (.mk 6 txt ps::l) w){cb:Cd}
  (hE:∀u v,BM mb tb bb (txt::A) (txt::A).length u->((l=[]/\∃a c,v=.slice a 0 c)\/∃g off cp,v=.slice (some ⟨g,off,none⟩) l.length cp/\l≠[]/\lA g off cp l u)->Calls prog 58 #[aA bb,v] u (BA mb tb bb (txt::A) cb u))
  (Tm:∀u nb Kb csb,BM mb tb bb A A.length u->AB u (.mk 6 txt ps) nb->tP mb tb bb A u txt Kb csb cb->Calls prog 92 #[aA bb,aA nb,.func (.func Kb) #[] csb] u (BA mb tb bb A c u)) :
  Calls prog 58 #[aA bb,.slice (some ⟨g,off,none⟩) (l.length+1) cp] w (BA mb tb bb A c w):=by
 have hF:Fresh w ((w.alloc (.cells #[aA bb] 164)).alloc (.cells #[.slice (some ⟨g,off,none⟩) (l.length+1) cp] 41)):=((Fresh.refl w).alloc _).alloc _;have d12:=qU w (.cells #[aA bb] 164) (.cells #[.slice (some ⟨g,off,none⟩) (l.length+1) cp] 41);have Rb:Kn (fun k=>k=tb\/k=bb) w ((w.alloc (.cells #[aA bb] 164)).alloc (.cells #[.slice (some ⟨g,off,none⟩) (l.length+1) cp] 41)):=hF.kn.wide fun _ _ h=>h.elim;have Nv:=hd.kept hB Rb;have z2:=cell_of' d12.2;have z3:=cell_of' d12.1;have Pc:=hd.len;rw[length_cons]at Pc;generalize My:(w.alloc (.cells #[aA bb] 164)).alloc (.cells #[.slice (some ⟨g,off,none⟩) (l.length+1) cp] 41)=w1 at *;have Kf:=hB.stays hF.kn;obtain⟨nb,z4,Ox⟩:=Nv.first;have z0:w1.cell? ⟨nb,0,none⟩=some (.int .i64 6):=by obtain⟨pv,bl,h1,_⟩:=Ox.inv;simp[cell?,h1]
 have Om:tP mb tb bb A w1 txt 89 #[aA w.heap.size,aA (w.heap.size+1)] cb:=by
  refine⟨aF.CL,fun v hv h2=>?_⟩;have e1:=(hv.block _ (aB d12.1) fun e=>by rcases e with e|e;exact Kf.AF d12.1 e;exact Kf.AI d12.1 (by decide) e).trans d12.1;have e2:=(hv.block _ (aB d12.2) fun e=>by rcases e with e|e;exact Kf.AF d12.2 e;exact Kf.AI d12.2 (by decide) e).trans d12.2;exact mK (d:=.mk 6 txt ps) h2 e1 e2 (Nv.kept Kf hv) hE
 have HP:=aC (show ∀u,Kn (fun _=>False) w1 u->Calls prog 92 #[aA bb,aA nb,.func (.func 89) #[] #[aA w.heap.size,aA (w.heap.size+1)]] u (BA mb tb bb A c w)from fun u hu=>by
  have Ns:Kn (fun k=>k=tb\/k=bb) w1 u:=hu.wide fun _ _ h=>h.elim
  exact(Tm u nb _ _ (Kf.stays hu) (Kf.tree Ns Ox) ⟨Om.1,fun v hv h2=>Om.2 v (Ns.trans hv) h2⟩).mono fun e u2 ha=>ha.behind (Rb.trans Ns))
 clear hE Tm d12 hF hB Kf hd Nv Ox Om Rb;unfold aA at *;generalize l.length=n at *;have hz:((n:Int)+1==0)=false:=by simp;omega
 go_enter func58,ntmps58;go_wp2_with fail;refine(HP.out _ (Kn.refl _ _)).mono ?_;intro e u2 hq;obtain⟨Kr,csr,rfl,Ki⟩:=hq;have HQ:=aC (show BA mb tb bb A _ w _ u2 from⟨Kr,csr,rfl,Ki⟩);clear Ki;go_wp2;refine bodyPost_ret (v:=.func (.func Kr) #[] csr) (by simp[results,results58,go_sem]) rfl HQ.out
def He{g off cp:Nat}{txt:Nm}{ps:List Nd}{l:List Nd}{c:Cd}(hx:cL (0,txt))(Jm:A.length+1<=1000000)(hB:BM mb tb bb A A.length w)(hd:lA g off cp (.mk 7 txt ps::l) w){cb:Cd}
  (hE:∀u v,BM mb tb bb (txt::A) (txt::A).length u->((l=[]/\∃a c,v=.slice a 0 c)\/∃g off cp,v=.slice (some ⟨g,off,none⟩) l.length cp/\l≠[]/\lA g off cp l u)->Calls prog 58 #[aA bb,v] u (BA mb tb bb (txt::A) cb u))
  (Tm:∀u nb Kb csb,BM mb tb bb A A.length u->AB u (.mk 7 txt ps) nb->tP mb tb bb A u txt Kb csb cb->Calls prog 92 #[aA bb,aA nb,.func (.func Kb) #[] csb] u (BA mb tb bb A c u)) :
  Calls prog 58 #[aA bb,.slice (some ⟨g,off,none⟩) (l.length+1) cp] w (BA mb tb bb A c w):=by
 have hF:Fresh w ((w.alloc (.cells #[aA bb] 164)).alloc (.cells #[.slice (some ⟨g,off,none⟩) (l.length+1) cp] 41)):=((Fresh.refl w).alloc _).alloc _;have d12:=qU w (.cells #[aA bb] 164) (.cells #[.slice (some ⟨g,off,none⟩) (l.length+1) cp] 41);have Rb:Kn (fun k=>k=tb\/k=bb) w ((w.alloc (.cells #[aA bb] 164)).alloc (.cells #[.slice (some ⟨g,off,none⟩) (l.length+1) cp] 41)):=hF.kn.wide fun _ _ h=>h.elim;have Nv:=hd.kept hB Rb;have z2:=cell_of' d12.2;have z3:=cell_of' d12.1;have Pc:=hd.len;rw[length_cons]at Pc;generalize My:(w.alloc (.cells #[aA bb] 164)).alloc (.cells #[.slice (some ⟨g,off,none⟩) (l.length+1) cp] 41)=w1 at *;have Kf:=hB.stays hF.kn;obtain⟨nb,z4,Ox⟩:=Nv.first;have z0:w1.cell? ⟨nb,0,none⟩=some (.int .i64 7):=by obtain⟨pv,bl,h1,_⟩:=Ox.inv;simp[cell?,h1]
 have Om:tP mb tb bb A w1 txt 89 #[aA w.heap.size,aA (w.heap.size+1)] cb:=by
  refine⟨aF.CL,fun v hv h2=>?_⟩;have e1:=(hv.block _ (aB d12.1) fun e=>by rcases e with e|e;exact Kf.AF d12.1 e;exact Kf.AI d12.1 (by decide) e).trans d12.1;have e2:=(hv.block _ (aB d12.2) fun e=>by rcases e with e|e;exact Kf.AF d12.2 e;exact Kf.AI d12.2 (by decide) e).trans d12.2;exact mK (d:=.mk 7 txt ps) h2 e1 e2 (Nv.kept Kf hv) hE
 have HP:=aC (show ∀u,Kn (fun _=>False) w1 u->Calls prog 92 #[aA bb,aA nb,.func (.func 89) #[] #[aA w.heap.size,aA (w.heap.size+1)]] u (BA mb tb bb A c w)from fun u hu=>by
  have Ns:Kn (fun k=>k=tb\/k=bb) w1 u:=hu.wide fun _ _ h=>h.elim
  exact(Tm u nb _ _ (Kf.stays hu) (Kf.tree Ns Ox) ⟨Om.1,fun v hv h2=>Om.2 v (Ns.trans hv) h2⟩).mono fun e u2 ha=>ha.behind (Rb.trans Ns))
 clear hE Tm d12 hF hB Kf hd Nv Ox Om Rb;unfold aA at *;generalize l.length=n at *;have hz:((n:Int)+1==0)=false:=by simp;omega
 go_enter func58,ntmps58;go_wp2_with fail;refine(HP.out _ (Kn.refl _ _)).mono ?_;intro e u2 hq;obtain⟨Kr,csr,rfl,Ki⟩:=hq;have HQ:=aC (show BA mb tb bb A _ w _ u2 from⟨Kr,csr,rfl,Ki⟩);clear Ki;go_wp2;refine bodyPost_ret (v:=.func (.func Kr) #[] csr) (by simp[results,results58,go_sem]) rfl HQ.out
def Ez{g off cp:Nat}{txt:Nm}{a:Nd}{r:List Nd}{l:List Nd}{ca cb:Cd}(hr:r.length<=100)(hB:BM mb tb bb A A.length w)(hd:lA g off cp (.mk 17 txt (a::r)::l) w)
  (hE:∀u v,BM mb tb bb A A.length u->((l=[]/\∃a c,v=.slice a 0 c)\/∃g off cp,v=.slice (some ⟨g,off,none⟩) l.length cp/\l≠[]/\lA g off cp l u)->Calls prog 58 #[aA bb,v] u (BA mb tb bb A cb u))
  (hX:∀u b,BM mb tb bb A A.length u->AB u a b->Calls prog 91 #[aA bb,aA b] u (BA mb tb bb A ca u)) :
  Calls prog 58 #[aA bb,.slice (some ⟨g,off,none⟩) (l.length+1) cp] w (BA mb tb bb A ⟨9,0,[],[ca,cb],[]⟩ w):=by
 have hF:Fresh w ((w.alloc (.cells #[aA bb] 164)).alloc (.cells #[.slice (some ⟨g,off,none⟩) (l.length+1) cp] 41)):=((Fresh.refl w).alloc _).alloc _;have d12:=qU w (.cells #[aA bb] 164) (.cells #[.slice (some ⟨g,off,none⟩) (l.length+1) cp] 41);have Rb:Kn (fun k=>k=tb\/k=bb) w ((w.alloc (.cells #[aA bb] 164)).alloc (.cells #[.slice (some ⟨g,off,none⟩) (l.length+1) cp] 41)):=hF.kn.wide fun _ _ h=>h.elim;have Nv:=hd.kept hB Rb;have z2:=cell_of' d12.2;have z3:=cell_of' d12.1;have Pc:=hd.len;rw[length_cons]at Pc;generalize My:(w.alloc (.cells #[aA bb] 164)).alloc (.cells #[.slice (some ⟨g,off,none⟩) (l.length+1) cp] 41)=w1 at *;have Kf:=hB.stays hF.kn;obtain⟨nb,z4,Ox⟩:=Nv.first;obtain⟨g2,cap2,bl',hp,hm,Kx⟩:=Ox.pt (by simp);obtain⟨m,Zn⟩:∃m,bl'.length=m+1:=⟨r.length,by rw[Kx,length_cons]⟩;have Mp:m<=100:=by rw[length_cons]at Kx;omega
 obtain⟨ba,Od,_⟩:=hm.at (i:=0) (p:=a) rfl;have z0:w1.cell? ⟨nb,0,none⟩=some (.int .i64 17):=hp.cells.1
 have Jw:∀v,Kn (fun k=>k=tb\/k=bb) w1 v->v.cell? ⟨w.heap.size,0,none⟩=some (aA bb)/\v.cell? ⟨nb,2,none⟩=some (.slice (some ⟨g2,0,none⟩) (m+1) cap2)/\v.cell? ⟨g2,0,none⟩=some (aA ba):=fun v hv=>by
  have Vp:=(Kf.pt hv hp).cells;rw[Zn]at Vp;exact⟨cell_of' ((hv.block _ (aB d12.1) fun e=>by rcases e with e|e;exact Kf.AF d12.1 e;exact Kf.AI d12.1 (by decide) e).trans d12.1),Vp.2.2.1,Vp.2.2.2 0 ba Od⟩
 have hA:∀u,Kn (fun _=>False) w1 u->Calls prog 91 #[aA bb,aA ba] u fun e u2=>∃K1 cs1,e=.returned (.func (.func K1) #[] cs1)/\(u2.cell? ⟨w.heap.size,0,none⟩=some (aA bb)/\u2.cell? ⟨nb,2,none⟩=some (.slice (some ⟨g2,0,none⟩) (m+1) cap2)/\u2.cell? ⟨g2,0,none⟩=some (aA ba))/\Hid (Calls prog 89 #[aA w.heap.size,aA (w.heap.size+1)] u2 fun e u3=>∃K2 cs2,e=.returned (.func (.func K2) #[] cs2)/\(u3.cell? ⟨w.heap.size,0,none⟩=some (aA bb)/\u3.cell? ⟨nb,2,none⟩=some (.slice (some ⟨g2,0,none⟩) (m+1) cap2)/\u3.cell? ⟨g2,0,none⟩=some (aA ba))/\Hid (Calls prog 90 #[.func (.func K1) #[] cs1,.func (.func K2) #[] cs2] u3 fun e u4=>BA mb tb bb A ⟨9,0,[],[ca,cb],[]⟩ w e u4/\(u4.cell? ⟨w.heap.size,0,none⟩=some (aA bb)/\u4.cell? ⟨nb,2,none⟩=some (.slice (some ⟨g2,0,none⟩) (m+1) cap2)/\u4.cell? ⟨g2,0,none⟩=some (aA ba)))):=fun u hu=>by
  have Ns:Kn (fun k=>k=tb\/k=bb) w1 u:=hu.wide fun _ _ h=>h.elim;have Ly:AB.AD u (a::r) bl':=hm.kept (fun k c f hc=>Ns.block k (aB hc) fun e=>by rcases e with e|e;exact Kf.AF hc e;exact Kf.AI hc (by decide) e) (fun k c f hc=>Ns.block k (aB hc) fun e=>by rcases e with e|e;exact Kf.AF hc e;exact Kf.AI hc (by decide) e);obtain⟨bb',Pg,Lr⟩:=Ly.at (i:=0) (p:=a) rfl;rw[Od]at Pg;cases Pg;refine(hX u ba (Kf.stays hu) Lr).mono ?_;rintro e u2⟨K1,cs1,rfl,q1,q2,q3⟩;have k2:=Ns.trans q2;refine⟨K1,cs1,rfl,Jw u2 k2,?_⟩;have e1:=(k2.block _ (aB d12.1) fun e=>by rcases e with e|e;exact Kf.AF d12.1 e;exact Kf.AI d12.1 (by decide) e).trans d12.1;have e2:=(k2.block _ (aB d12.2) fun e=>by rcases e with e|e;exact Kf.AF d12.2 e;exact Kf.AI d12.2 (by decide) e).trans d12.2;refine(mK (d:=.mk 17 txt (a::r)) q1 e1 e2 (Nv.kept Kf k2) hE).mono ?_;rintro e u3⟨K2,cs2,rfl,p1,p2,p3⟩;have k3:=k2.trans p2;refine⟨K2,cs2,rfl,Jw u3 k3,(Du (nm:=[]) p1 (q3.kept (q1.kr p2)) p3).mono fun e u4 ha=>?_⟩;have Mr:Kn (fun k=>k=tb\/k=bb) u3 u4:=by obtain⟨_,_,_,_,h,_⟩:=ha;exact h
  exact⟨ha.behind (Rb.trans k3),Jw u4 (k3.trans Mr)⟩
 have HA:=aC hA;obtain⟨c1a,c2a,c3a⟩:=Jw w1.drew ((AH w1).wide fun _ _ h=>h.elim);have HV:=aC (AH w1);clear hE hX d12 hF hB Kf hd Nv Ox Rb hA Jw hp hm Od Kx Zn;unfold aA at *;generalize l.length=n at *;have hz:((n:Int)+1==0)=false:=by simp;omega
 go_enter func58,ntmps58;go_wp2_with fail
 go_region_held2 (fun w'=>w'.cell? ⟨w.heap.size,0,none⟩=some (.pointer (some ⟨bb,0,none⟩))/\w'.cell? ⟨nb,2,none⟩=some (.slice (some ⟨g2,0,none⟩) (m+1) cap2)/\w'.cell? ⟨g2,0,none⟩=some (.pointer (some ⟨ba,0,none⟩))) (exact⟨c1a,c2a,c3a⟩)
  (first
   |(go_at_call 91;(refine(HA.out _ HV.out).mono ?_);rintro e u2⟨K1,cs1,rfl,⟨c1a,c2a,c3a⟩,H2⟩)
   |(go_at_call 89;(refine(H2.out).mono ?_);rintro e u3⟨K2,cs2,rfl,⟨c1a,c2a,c3a⟩,HC⟩)
   |(go_at_call 90;(refine(HC.out).mono ?_);rintro e u4⟨hq,c1a,c2a,c3a⟩;obtain⟨Kr,csr,rfl,Ki⟩:=hq;have HQ:=aC (show BA mb tb bb A _ w _ u4 from⟨Kr,csr,rfl,Ki⟩);clear Ki))
 all_goals
  go_wp2;refine bodyPost_ret (v:=.func (.func Kr) #[] csr) (by simp[results,results58,go_sem]) rfl HQ.out
def Ey{g off cp:Nat}{txt:Nm}{ps:List Nd}{l:List Nd}{cb:Cd}(hB:BM mb tb bb A A.length w)(hd:lA g off cp (.mk 18 txt ps::l) w)
  (hE:∀u v,BM mb tb bb A A.length u->((l=[]/\∃a c,v=.slice a 0 c)\/∃g off cp,v=.slice (some ⟨g,off,none⟩) l.length cp/\l≠[]/\lA g off cp l u)->Calls prog 58 #[aA bb,v] u (BA mb tb bb A cb u)) :
  Calls prog 58 #[aA bb,.slice (some ⟨g,off,none⟩) (l.length+1) cp] w (BA mb tb bb A cb w):=by
 have hF:Fresh w ((w.alloc (.cells #[aA bb] 164)).alloc (.cells #[.slice (some ⟨g,off,none⟩) (l.length+1) cp] 41)):=((Fresh.refl w).alloc _).alloc _;have d12:=qU w (.cells #[aA bb] 164) (.cells #[.slice (some ⟨g,off,none⟩) (l.length+1) cp] 41);have Rb:Kn (fun k=>k=tb\/k=bb) w ((w.alloc (.cells #[aA bb] 164)).alloc (.cells #[.slice (some ⟨g,off,none⟩) (l.length+1) cp] 41)):=hF.kn.wide fun _ _ h=>h.elim;have Nv:=hd.kept hB Rb;have z2:=cell_of' d12.2;have z3:=cell_of' d12.1;have Pc:=hd.len;rw[length_cons]at Pc;generalize My:(w.alloc (.cells #[aA bb] 164)).alloc (.cells #[.slice (some ⟨g,off,none⟩) (l.length+1) cp] 41)=w1 at *;have Kf:=hB.stays hF.kn;obtain⟨nb,z4,Ox⟩:=Nv.first;have z0:w1.cell? ⟨nb,0,none⟩=some (.int .i64 18):=by obtain⟨pv,bl,h1,_⟩:=Ox.inv;simp[cell?,h1]
 have HP:=aC ((mK (d:=.mk 18 txt ps) Kf d12.1 d12.2 Nv hE).mono fun e u2 ha=>ha.behind Rb);have V5:=fun(args:Array Value) (w:World)=>aF.CL args w;clear hE d12 hF hB Kf hd Nv Ox Rb;unfold aA at *;generalize l.length=n at *;have hz:((n:Int)+1==0)=false:=by simp;omega
 go_enter func58,ntmps58;go_wp2_with fail;refine(HP.out).mono ?_;intro e u2 hq;obtain⟨Kr,csr,rfl,Ki⟩:=hq;have HQ:=aC (show BA mb tb bb A _ w _ u2 from⟨Kr,csr,rfl,Ki⟩);clear Ki;go_wp2;refine bodyPost_ret (v:=.func (.func Kr) #[] csr) (by simp[results,results58,go_sem]) rfl HQ.out
end
def Dl:List Nm->List Nd->Bool
 |_,[]=>true
 |A,d::l=>decide (d.ps.length<=100) && decide (d.txt.length<=1000) && decide (A.length<=1000) && (
  match d.k,d.ps with
  |17,a::_=>Dn (a.ht+1) A a && Dl A l
  |6,a::_=>Dn (a.ht+1) A a && Dl (d.txt::A) l
  |7,a::_=>Dn (a.ht+1) (d.txt::A) a && Dl (d.txt::A) l
  |18,_=>Dl A l
  |_,_=>false)
def Ja(l:List Nd)(v:Value)(u:World):Prop:=(l=[]/\∃a c,v=.slice a 0 c)\/∃g off cp,v=.slice (some ⟨g,off,none⟩) l.length cp/\l≠[]/\lA g off cp l u
section
variable {mb tb bb:Nat}{w:World}
def TP:∀(l:List Nd)(A:List Nm)(w:World)(v:Value),Dl A l=true->BM mb tb bb A A.length w->Ja l v w->Calls prog 58 #[aA bb,v] w (BA mb tb bb A (eX A l) w):=by
 intro l
 induction l with
 |nil=>
  intro A w v _ hB hv;rcases hv with⟨_,a,c,rfl⟩|⟨_,_,_,_,h,_⟩
  ·exact TO hB
  ·exact absurd rfl h
 |cons d l ih=>
  intro A w v h hB hv;rcases hv with⟨h0,_⟩|⟨g,off,cp,rfl,_,hd⟩
  ·cases h0
  obtain⟨k,txt,ps⟩:=d;rw[Dl]at h;simp only[and_eq_true,decide_eq_true_eq]at h;obtain⟨⟨⟨hp,ht⟩,hl⟩,h⟩:=h
  replace hp:ps.length<=100:=hp
  replace ht:txt.length<=1000:=ht
  have hx:cL (0,txt):=⟨show 0<3 by decide,show txt.length<=100000000 by omega⟩;have Jm:A.length+1<=1000000:=by omega
  split at h
  ·rename_i a r _;simp only[and_eq_true]at h;rw[length_cons]at hp
   show Calls prog 58 #[aA bb,.slice (some ⟨g,off,none⟩) (l.length+1) cp] w (BA mb tb bb A ⟨9,0,[],[fL (a.ht+1) A a,eX A l],[]⟩ w);exact Ez (by omega) hB hd (fun u v hu hv=>ih A u v h.2 hu hv) (fun u b hu hb=>sQ _ _ _ u b h.1 hu hb)
  ·rename_i a r _;simp only[and_eq_true]at h;rw[length_cons]at hp
   show Calls prog 58 #[aA bb,.slice (some ⟨g,off,none⟩) (l.length+1) cp] w (BA mb tb bb A ⟨6,0,txt,[fL (a.ht+1) A a,eX (txt::A) l],[]⟩ w);exact Hf hx Jm hB hd (fun u v hu hv=>ih _ u v h.2 hu hv) (fun u nb Kb csb hu hn hb=>MG (by omega) hx Jm hu hn hb (fun u b hu hb=>sQ _ _ _ u b h.1 hu hb))
  ·rename_i a r _;simp only[and_eq_true]at h;rw[length_cons]at hp
   show Calls prog 58 #[aA bb,.slice (some ⟨g,off,none⟩) (l.length+1) cp] w (BA mb tb bb A ⟨7,0,txt,[fL (a.ht+1) (txt::A) a,eX (txt::A) l],[]⟩ w);exact He hx Jm hB hd (fun u v hu hv=>ih _ u v h.2 hu hv) (fun u nb Kb csb hu hn hb=>Cr (by omega) hx Jm hu hn hb (fun u b hu hb=>sQ _ _ _ u b h.1 hu hb))
  ·have hc18:eX A (.mk 18 txt ps::l)=eX A l:=by simp[eX]
   show Calls prog 58 #[aA bb,.slice (some ⟨g,off,none⟩) (l.length+1) cp] w (BA mb tb bb A (eX A (.mk 18 txt ps::l)) w);rw[hc18];exact Ey hB hd (fun u v hu hv=>ih _ u v h hu hv)
  ·cases h
structure xO(mb:Nat)(v:Value)(w u:World):Prop where
 kn:Kn (fun _=>False) w u
 dec:u.heap[w.heap.size]?=some (.cells #[v] 41 (0,0))
 tab:u.heap[w.heap.size+1]?=some (.map #[] 0)
 bld:u.heap[w.heap.size+1+1]?=some (.cells #[eT mb,.map (some (w.heap.size+1)),.int .i64 0] nA (0,0))
 row:u.heap[w.heap.size+1+1+1]?=some (.cells #[.string ⟨#[112,117,116]⟩,.string ⟨#[103,101,116]⟩,.string ⟨#[114,101,102]⟩] aI (0,0))
def xO.bm{v:Value}{u:World}(h:xO mb v w u):BM mb (w.heap.size+1) (w.heap.size+1+1) [] 0 u:=
 ⟨h.bld,⟨0,fun _=>none,⟨#[],0,h.tab,by simp,by simp,rfl,by simp⟩,fun v _=>rfl⟩,by omega⟩
def XT{a:Option Addr}{n c:Nat}{Q:Ending->World->Prop}
  (hW:∀u,xO mb (.slice a n c) w u->Calls prog 56 #[aA (w.heap.size+1+1),.func (.func 57) #[] #[aA (w.heap.size+1+1),aA w.heap.size],.slice (some ⟨w.heap.size+1+1+1,0,none⟩) 3 3] u fun e u2=>∃K cs,e=.returned (.func (.func K) #[] cs)/\Hid (Calls prog 59 #[.func (.func K) #[] cs,aA (u2.heap.size+1+1)] (((u2.alloc (.cells #[.iface iE (.func (.func 61) #[aA mb] #[]),.pointer none] bD)).alloc (.cells #[.iface iE (.func (.func 62) #[aA mb] #[]),aA u2.heap.size] bD)).alloc (.cells #[.iface iE (.func (.func 63) #[] #[]),aA (u2.heap.size+1)] bD)) fun e u3=>e=.returned (.tuple #[])/\Hid (Q (.returned (.tuple #[])) u3))) :
  Calls prog 30 #[aA mb,.slice a n c] w Q:=by
 have O8:∀u:World,(Instr.makeMap lL none).run prog u=.ok (.map (some u.heap.size)) (u.alloc (.map #[] 0)):=fun _=>rfl;have h3:=Gk w (.cells #[.slice a n c] 41) (.map #[] 0) (.cells #[.nilFunc,.map none,.int .i64 0] nA);have Le:Kn (fun _=>False) w (((w.alloc (.cells #[.slice a n c] 41)).alloc (.map #[] 0)).alloc (.cells #[.nilFunc,.map none,.int .i64 0] nA)):=(((Kn.refl _ w).alloc _).alloc _).alloc _;have J3:(((w.alloc (.cells #[.slice a n c] 41)).alloc (.map #[] 0)).alloc (.cells #[.nilFunc,.map none,.int .i64 0] nA)).heap.size=w.heap.size+1+1+1:=by rw[aK,aK,aK]
 generalize D7:((w.alloc (.cells #[.slice a n c] 41)).alloc (.map #[] 0)).alloc (.cells #[.nilFunc,.map none,.int .i64 0] nA)=w3 at *;have b0:w3.cell? ⟨w.heap.size+1+1,0,none⟩=some .nilFunc:=(aP h3.2.2 0).trans rfl;have b1:w3.cell? ⟨w.heap.size+1+1,1,none⟩=some (.map none):=(aP h3.2.2 1).trans rfl;have b2:w3.cell? ⟨w.heap.size+1+1,2,none⟩=some (.int .i64 0):=(aP h3.2.2 2).trans rfl;have f0:w3.frozen? ⟨w.heap.size+1+1,0,none⟩=false:=cP h3.2.2 0;have f1:w3.frozen? ⟨w.heap.size+1+1,1,none⟩=false:=cP h3.2.2 1;have f2:w3.frozen? ⟨w.heap.size+1+1,2,none⟩=false:=cP h3.2.2 2;have u1:=Upd.set h3.2.2 0 (eT mb);have u2:=Upd.set u1.here 1 (.map (some (w.heap.size+1)));have u3:=Upd.set u2.here 2 (.int .i64 0);have Mr:Kn (fun _=>False) w (((w3.setCell ⟨w.heap.size+1+1,0,none⟩ (eT mb)).setCell ⟨w.heap.size+1+1,1,none⟩ (.map (some (w.heap.size+1)))).setCell ⟨w.heap.size+1+1,2,none⟩ (.int .i64 0)):=((Le.set (p:=⟨w.heap.size+1+1,0,none⟩) (inr (by show w.heap.size<=w.heap.size+1+1;omega)) _).set (p:=⟨w.heap.size+1+1,1,none⟩) (inr (by show w.heap.size<=w.heap.size+1+1;omega)) _).set (p:=⟨w.heap.size+1+1,2,none⟩) (inr (by show w.heap.size<=w.heap.size+1+1;omega)) _
 have Jz:xO mb (.slice a n c) w ((((w3.setCell ⟨w.heap.size+1+1,0,none⟩ (eT mb)).setCell ⟨w.heap.size+1+1,1,none⟩ (.map (some (w.heap.size+1)))).setCell ⟨w.heap.size+1+1,2,none⟩ (.int .i64 0)).alloc (.cells #[.string ⟨#[112,117,116]⟩,.string ⟨#[103,101,116]⟩,.string ⟨#[114,101,102]⟩] aI)):=by
  have Ke:(((w3.setCell ⟨w.heap.size+1+1,0,none⟩ (eT mb)).setCell ⟨w.heap.size+1+1,1,none⟩ (.map (some (w.heap.size+1)))).setCell ⟨w.heap.size+1+1,2,none⟩ (.int .i64 0)).heap.size=w.heap.size+1+1+1:=by rw[u3.size,u2.size,u1.size,J3]
  refine⟨Mr.alloc _,?_,?_,?_,?_⟩
  ·rw[bC,if_neg (by omega),u3.rest _ (by omega),u2.rest _ (by omega),u1.rest _ (by omega)];exact h3.1
  ·rw[bC,if_neg (by omega),u3.rest _ (by omega),u2.rest _ (by omega),u1.rest _ (by omega)];exact h3.2.1
  ·rw[bC,if_neg (by omega),u3.here];rfl
  ·rw[bC,if_pos Ke.symm]
 have HW:=aC (hW _ Jz);have hs6:(((w3.setCell ⟨w.heap.size+1+1,0,none⟩ (eT mb)).setCell ⟨w.heap.size+1+1,1,none⟩ (.map (some (w.heap.size+1)))).setCell ⟨w.heap.size+1+1,2,none⟩ (.int .i64 0)).heap.size=w.heap.size+1+1+1:=by rw[u3.size,u2.size,u1.size,J3]
 have hwa:=fun(p:Option Addr) (K:Nat) (fs:Array Value) (u:World)=>kE (v:=.iface iE (.func (.func K) fs #[])) p (inl ⟨_,_,rfl⟩) u;have HWA:=aC hwa;clear hW hwa h3 Le Mr u1 u2 u3 Jz;unfold aA eT at *;have hsf:∀(u:World),(store ⟨w.heap.size+1+1,0,none⟩ (.func (.func 55) #[.pointer (some ⟨mb,0,none⟩)] #[])).run prog u=stored prog u ⟨w.heap.size+1+1,0,none⟩ (.func (.func 55) #[.pointer (some ⟨mb,0,none⟩)] #[]) .plain:=fun u=>run_store prog u _ _ _ rfl;go_enter func30,ntmps30;go_wp2_with fail;refine(HW.out).mono ?_;rintro e u2⟨K,cs,rfl,HC⟩;go_wp2_with fail;refine(HWA.out _ _ _ _).mono ?_;rintro e v1⟨rfl,rfl⟩;go_wp2_with fail;refine(HWA.out _ _ _ _).mono ?_;rintro e v2⟨rfl,rfl⟩;go_wp2_with fail;refine(HWA.out _ _ _ _).mono ?_;rintro e v3⟨rfl,rfl⟩;go_wp2_with fail;refine(HC.out).mono ?_;rintro e v4⟨rfl,HQ⟩;go_wp2;refine bodyPost_end (v:=.tuple #[]) (by simp[results,results30,go_sem]) rfl HQ.out
end
section
variable {mb:Nat}{w:World}
def aF.DL:aF 57:=enters func57 (by kernel_rfl) rfl
def XH{tb bb s2:Nat}{v:Value}{A:List Nm}{c:Cd}(h2:w.heap[s2]?=some (.cells #[v] 41 (0,0)))(hE:Calls prog 58 #[aA bb,v] w (BA mb tb bb A c w)):Calls prog 57 #[aA bb,aA s2] w (BA mb tb bb A c w):=by
 have d2:w.cell? ⟨s2,0,none⟩=some v:=cell_of' h2;have HE:=aC hE;clear hE h2;unfold aA at *;go_enter func57,ntmps57;go_wp2_with fail;refine(HE.out).mono ?_;intro e u2 hq;obtain⟨Kr,csr,rfl,Ki⟩:=hq;have HQ:=aC (show BA mb tb bb A _ w _ u2 from⟨Kr,csr,rfl,Ki⟩);clear Ki;go_wp2;refine bodyPost_ret (v:=.func (.func Kr) #[] csr) (by simp[results,results57,go_sem]) rfl HQ.out
def XF{B:Nat}(hBm:B<=mb){l:List Nd}{N steps:Nat}{I:Nm}{out:Mach}{a:Option Addr}{n c:Nat}(hm:w.heap[mb]?=some (.cells #[.string (bs I),.slice none 0 0,.int .i64 steps,.int .i64 0] dJ (0,0)))(hI:I.length<=1000000)(Jz:steps<=4000)
  (hv:Ja l (.slice a n c) w) (Lb:Dl [gP,sN,rV] l=true) (hr:jX N (rI I steps) (Ei l)=some (0,out)) :
  Calls prog 30 #[aA mb,.slice a n c] w fun e w'=>e=.returned (.tuple #[])/\KR B w w'/\∃sa,RM B mb sa out w':=by
 refine XT fun u hu=>?_;have hBM:=hu.bm;have Qw:KR B w u:=.same hu.kn.size (fun k c t f _ hc=>hu.kn.block k (aB hc) id) (fun k _ hl=>hu.kn.block k hl id) ⟨hu.kn.os,hu.kn.tape,hu.kn.output⟩
 have Jn:u.ownsRow 0 aI 1 (.slice (some ⟨w.heap.size+1+1+1,0,none⟩) 3 3) [rV,sN,gP].length ([rV,sN,gP].map bM):=
  ⟨rfl,inr ⟨_,3,_,rfl,zero_le _,hu.row,le_refl _,by decide,rfl,rfl⟩⟩
 have Mp:mb<w.heap.size:=aB hm;refine(kO (c:=eX [gP,sN,rV] l) (vs:=[rV,sN,gP]) aF.DL Jn (fun x hx=>?_) (by decide) hBM (fun v Sm Mx=>?_)).mono ?_
 ·simp only[mem_cons,List.not_mem_nil,or_false]at hx;rcases hx with rfl|rfl|rfl<;>exact⟨by decide,by decide⟩
 ·have hk:Kn (fun k=>k=w.heap.size+1\/k=w.heap.size+1+1) w v:=(hu.kn.wide fun _ _ h=>h.elim).trans Sm;have e2:=(Sm.block _ (aB hu.dec) fun e=>by rcases e with e|e<;>omega).trans hu.dec;refine XH e2 (TP l _ v _ Lb Mx ?_);rcases hv with h0|⟨g,off,cp,h1,h2,h3⟩
  ·exact inl h0
  ·refine inr ⟨g,off,cp,h1,h2,?_⟩;obtain⟨cs,q1,q2⟩:=h3.row;have Nu:∀(k:Nat)(c:Array Value)(t:TypeId)(f:Nat×Nat),w.heap[k]?=some (.cells c t f)->v.heap[k]?=w.heap[k]?:=fun k c t f hc=>hk.block k (aB hc) fun e=>by have:=aB hc;rcases e with e|e<;>omega
   refine⟨⟨cs,(Nu _ _ _ _ q1).trans q1,fun j nd hj=>?_⟩,h3.cap,h3.len⟩;obtain⟨b,q3,q4⟩:=q2 j nd hj;exact⟨b,q3,AB.kept (fun k c f hc=>Nu k c _ f hc) (fun k c f hc=>Nu k c _ f hc) nd b q4⟩
 ·rintro e u2⟨K,cs,rfl,p1,p2,p3⟩;refine⟨K,cs,rfl,?_⟩;have hkr1:KR B u u2:=⟨p2.size,(hBM.kr p2).block,(hBM.kr p2).vals,fun k hkB hl=>p2.block k hl (fun e=>by rcases e with e|e<;>omega),p2.os,p2.tape,p2.output⟩;have P7:=Qw.trans hkr1
  have Ly:u2.heap[mb]?=some (.cells #[.string (bs I),.slice none 0 0,.int .i64 steps,.int .i64 0] dJ (0,0)):=by
   rw[p2.block mb (lt_of_lt_of_le Mp hu.kn.size) (fun e=>by rcases e with e|e<;>omega),hu.kn.block mb Mp id];exact hm
  have K9:B<=u2.heap.size:=by have:=P7.size;omega
  have r0:RM B mb [] ⟨I,[],steps,0,[]⟩ u2:=⟨⟨_,Ly,ownsRow_nil _ _ _ _⟩,rfl,List.nodup_nil,fun i v o h=>by simp at h,hI,zero_le _,zero_le _,Jz,hBm,fun b hb=>by simp at hb,K9⟩;have q1:PEq (u2.alloc (.cells #[.iface iE (.func (.func 61) #[aA mb] #[]),.pointer none] bD)) u2 (.cells #[.iface iE (.func (.func 61) #[aA mb] #[]),.pointer none] bD (0,0)):=PEq.alloc _ _;have r1:=r0.with (v:=RV.put) (sc:=0) (inl ⟨1,inr (inr (inr (inr (inl ⟨rfl,rfl⟩))))⟩) (inl ⟨rfl,rfl⟩) q1;have s1:=bP q1;generalize Sm:u2.alloc (.cells #[.iface iE (.func (.func 61) #[aA mb] #[]),.pointer none] bD)=v1 at *;have q2:PEq (v1.alloc (.cells #[.iface iE (.func (.func 62) #[aA mb] #[]),aA u2.heap.size] bD)) v1 (.cells #[.iface iE (.func (.func 62) #[aA mb] #[]),aA u2.heap.size] bD (0,0)):=PEq.alloc _ _;have r2:=r1.with (v:=RV.get) (sc:=1) (inl ⟨1,inr (inr (inr (inr (inr (inl ⟨rfl,rfl⟩)))))⟩) (inr ⟨u2.heap.size,by decide,rfl,rfl⟩) q2;have s2:=bP q2;generalize Mx:v1.alloc (.cells #[.iface iE (.func (.func 62) #[aA mb] #[]),aA u2.heap.size] bD)=v2 at *;have q3:PEq (v2.alloc (.cells #[.iface iE (.func (.func 63) #[] #[]),aA (u2.heap.size+1)] bD)) v2 (.cells #[.iface iE (.func (.func 63) #[] #[]),aA (u2.heap.size+1)] bD (0,0)):=PEq.alloc _ _;rw[s1]at r2;have r3:=r2.with (v:=RV.ref) (sc:=2) (inl ⟨1,inr (inr (inr (inr (inr (inr (inl ⟨rfl,rfl⟩))))))⟩) (inr ⟨u2.heap.size+1,by decide,rfl,rfl⟩) q3;rw[s2,s1]at r3;generalize Ua:v2.alloc (.cells #[.iface iE (.func (.func 63) #[] #[]),aA (u2.heap.size+1)] bD)=v3 at *;have k3:KR B u2 v3:=(((KR.refl B u2).push q1).push q2).push q3;refine(yI (m:=rI I steps) (c:=eX [gP,sN,rV] l) (sc:=3) r3 (p3.kept k3) (inr ⟨u2.heap.size+1+1,by decide,rfl,rfl⟩) hr).mono ?_;rintro e w'⟨rfl,t1,t2⟩;exact⟨rfl,rfl,P7.trans (k3.trans t1),t2⟩
end
def UP(md:Region.Mode)(ops:Array Oper)(fuel t:Nat)(listed:Array Bool)(acc:List Nat):Region.linearise.go md ops (fuel+1) t listed acc=(match (Region.ready md ops listed)[t % (Region.ready md ops listed).length]? with
  |some i=>Region.linearise.go md ops fuel (t / (Region.ready md ops listed).length) (listed.setIfInBounds i true) (i::acc)
  |none=>acc.reverse):=by
 simp only[Region.linearise.go];rfl
def UO(md:Region.Mode)(ops:Array Oper)(t:Nat)(listed:Array Bool)(acc:List Nat):Region.linearise.go md ops 0 t listed acc=acc.reverse:=by simp[Region.linearise.go]
def Ae{ops:Array Oper}(h0:Region.ready .any ops #[false,false,false,false,false]=[0,1])(h1:Region.ready .any ops #[true,false,false,false,false]=[1])(h2:Region.ready .any ops #[false,true,false,false,false]=[0,2])(h3:Region.ready .any ops #[true,true,false,false,false]=[2])
  (h4:Region.ready .any ops #[false,true,true,false,false]=[0]) (h5:Region.ready .any ops #[true,true,true,false,false]=[3]) (h6:Region.ready .any ops #[true,true,true,true,false]=[4]) (t:Nat) :
  Region.linearise.go .any ops 5 t #[false,false,false,false,false] []=[0,1,2,3,4]\/Region.linearise.go .any ops 5 t #[false,false,false,false,false] []=[1,0,2,3,4]\/Region.linearise.go .any ops 5 t #[false,false,false,false,false] []=[1,2,0,3,4]:=by
 have e2:t % 2=0\/t % 2=1:=by omega
 have e4:t / 2 % 2=0\/t / 2 % 2=1:=by omega
 rcases e2 with e2|e2<;>rcases e4 with e4|e4<;>simp[UP,UO,h0,h1,h2,h3,h4,h5,h6,e2,e4,Nat.mod_one]
def yH{P:Program}{Q:Exit->Act->List Frame->World->Prop}{a:Act}{cs:List Frame}{w:World}{id:Nat}{ops:Array Oper}{l1 l2 l3:List Nat}(hm:P.follows .mixedOrders=true)
  (x9:∀t,linearise .any ops t=l1\/linearise .any ops t=l2\/linearise .any ops t=l3)
  (h1:wpOpsS P ops Q l1 a cs w.drew) (h2:wpOpsS P ops Q l2 a cs w.drew) (h3:wpOpsS P ops Q l3 a cs w.drew):(Code.region id ops true).wpS P Q a cs w:=by
 intro b k hb hr
 have hl:wpOpsS P ops Q (schedule (P.follows .mixedOrders) ops (w.tape w.drawn (.order b.fn id))) a cs w.drew:=by
  simp only[schedule,hm,Bool.true_or,if_true];rcases x9 (w.tape w.drawn (.order b.fn id))with h|h|h<;>rw[h]<;>assumption
 obtain⟨e,a',cs',w',q,r⟩:=wp_opsS _ a cs w.drew hl b k hb hr;exact⟨e,a',cs',w',q,.of_steps (.one step_region_draw) r⟩
structure Hu(u w:World):Prop where
 so:eS u w
 size:w.heap.size<=u.heap.size
section
variable {B mb:Nat}{w:World}
def yV{s1 s2:Nat}{sa:List Nat}{m:Mach}(h:RM B mb sa m w)(h1:w.heap[s1]?=some (.cells #[aA mb] 89 (0,0)))(h2:w.heap[s2]?=some (.cells #[.string ⟨#[]⟩,.int .i64 0,.int .i64 0] 31 (0,0))) :
  CallsD prog 27 #[aA s1,aA s2] .returning w fun e u' w'=>e=.returned (.tuple #[])/\u'=.returning/\w'.heap[s2]?=some (.cells #[.string (bs m.output),.int .i64 0,.int .i64 m.done] 31 (0,0))/\(∀k:Nat,k≠s2->k<w.heap.size->w'.heap[k]?=w.heap[k]?)/\Hu w' w:=by
 have d1:w.drew.cell? ⟨s1,0,none⟩=some (aA mb):=cell_of' (w:=w.drew) h1;have hE:=QY w.drew;have hR:=KF (w:=w.drew) (h.heap (HEq.drew w));unfold aA at *;refine callsD_of_wpS func27 rfl fun c₀ cs hu=>?_;refine yH (l1:=[0,1,2,3,4]) (l2:=[1,0,2,3,4]) (l3:=[1,2,0,3,4]) (by kernel_rfl) (fun t=>Ae (by kernel_rfl) (by kernel_rfl) (by kernel_rfl) (by kernel_rfl) (by kernel_rfl) (by kernel_rfl) (by kernel_rfl) t) ?_ ?_ ?_
 all_goals
  simp[wpOpsS,go_sem,recoverD,hu,ntmps27,d1];refine hE.mono ?_;rintro e w1⟨rfl,rfl⟩;simp[d1,Act.put];refine hR.mono ?_;rintro e w2⟨rfl,hk⟩;have Rm:w2.heap[s2]?=some (.cells #[.string ⟨#[]⟩,.int .i64 0,.int .i64 0] 31 (0,0)):=(hk.block s2 (aB h2) id).trans h2;have Jz:=run_storeCells_at (P:=prog) s2 0 31 [.string (bs m.output),.int .i64 0,.int .i64 m.done] 0 _ w2 Rm (by simp) (by intro v hv;simp at hv;rcases hv with rfl|rfl|rfl<;>rfl);simp[Jz,Oper.upon,bodyPostS,Act.put];refine⟨.returning,?_,.tuple #[],?_,rfl,rfl,?_,fun k Qa Lv=>?_,⟨hk.os,hk.tape,hk.output⟩,by simpa [setRow]using hk.size⟩
  ·cases c₀;simp_all
  ·simp[results,results27]
  ·simp[setRow,Array.getElem?_modify,Rm]
  ·have:=hk.block k Lv id;simp only[setRow,Array.getElem?_modify];rw[if_neg (fun e=>Qa e.symm)];exact this
def Gy{u:World}{b:Nat}{x y z:Value}{t:TypeId}(h:u.heap[b]?=some (.cells #[x,y,z] t (0,0))):∀k:Nat,(((u.setCell ⟨b,0,none⟩ x).setCell ⟨b,1,none⟩ y).setCell ⟨b,2,none⟩ z).heap[k]?=u.heap[k]?:=fun k=>by
 have u1:=Upd.set h 0 x;have u2:=Upd.set u1.here 1 y;have u3:=Upd.set u2.here 2 z
 by_cases hk:k=b
 ·subst hk;rw[u3.here,h];rfl
 ·rw[u3.rest k hk,u2.rest k hk,u1.rest k hk]
def yU{pb:Nat}{s:ByteArray}{n:Int}{dv bv tv:Value}{tp:TypeId}{out:Mach}(ftp:Fixed tp)(hp:w.heap[pb]?=some (.cells #[dv,bv,tv] tp (0,0)))
  (hW:∀u mb,Kn (fun _=>False) w u->w.heap.size<=mb->u.heap[mb]?=some (.cells #[.string s,.slice none 0 0,.int .i64 n,.int .i64 0] dJ (0,0))->Calls prog 30 #[aA mb,dv] u fun e w'=>e=.returned (.tuple #[])/\KR w.heap.size u w'/\∃sa,RM w.heap.size mb sa out w') :
  Calls prog 13 #[aA pb,.string s,.int .i64 n] w fun e w'=>e=.returned (.agg #[.string (bs out.output),.int .i64 0,.int .i64 out.done])/\Below w.heap.size w w':=by
 have hN:=fun u=>UC s n u;have HN:=aC hN;have a3:=Gk w (.cells #[.string ⟨#[]⟩,.int .i64 0,.int .i64 0] 31) (.cells #[.string s,.slice none 0 0,.int .i64 n,.int .i64 0] dJ) (.cells #[aA (w.heap.size+1)] 89);have Le:Kn (fun _=>False) w (((w.alloc (.cells #[.string ⟨#[]⟩,.int .i64 0,.int .i64 0] 31)).alloc (.cells #[.string s,.slice none 0 0,.int .i64 n,.int .i64 0] dJ)).alloc (.cells #[aA (w.heap.size+1)] 89)):=(((Kn.refl _ w).alloc _).alloc _).alloc _;generalize D7:((w.alloc (.cells #[.string ⟨#[]⟩,.int .i64 0,.int .i64 0] 31)).alloc (.cells #[.string s,.slice none 0 0,.int .i64 n,.int .i64 0] dJ)).alloc (.cells #[aA (w.heap.size+1)] 89)=w3 at *;have z1:w3.cell? ⟨w.heap.size+1+1,0,none⟩=some (aA (w.heap.size+1)):=cell_of' a3.2.2;have Xf:=(Le.block pb (aB hp) id).trans hp;have z2:w3.cell? ⟨pb,0,none⟩=some dv:=(aP Xf 0).trans rfl;have fR:Fixed 31:=by unfold Fixed;decide
 have fB:Fixed 89:=by unfold Fixed;decide
 have Ql:Calls prog 30 #[aA (w.heap.size+1),dv] w3.drew fun e u=>e=.returned (.tuple #[])/\(u.cell? ⟨w.heap.size+1+1,0,none⟩=some (aA (w.heap.size+1))/\u.cell? ⟨pb,0,none⟩=some dv)/\((u.cell? ⟨w.heap.size,0,none⟩=some (.string ⟨#[]⟩)/\u.cell? ⟨w.heap.size,1,none⟩=some (.int .i64 0)/\u.cell? ⟨w.heap.size,2,none⟩=some (.int .i64 0))/\(u.frozen? ⟨w.heap.size,0,none⟩=false/\u.frozen? ⟨w.heap.size,1,none⟩=false/\u.frozen? ⟨w.heap.size,2,none⟩=false))/\Hid (CallsD prog 27 #[aA (w.heap.size+1+1),aA w.heap.size] .returning (((u.setCell ⟨w.heap.size,0,none⟩ (.string ⟨#[]⟩)).setCell ⟨w.heap.size,1,none⟩ (.int .i64 0)).setCell ⟨w.heap.size,2,none⟩ (.int .i64 0)) fun e u' w'=>e=.returned (.tuple #[])/\u'=.returning/\(w'.cell? ⟨w.heap.size,0,none⟩=some (.string (bs out.output))/\w'.cell? ⟨w.heap.size,1,none⟩=some (.int .i64 0)/\w'.cell? ⟨w.heap.size,2,none⟩=some (.int .i64 out.done))/\Hid (Below w.heap.size w w')):=by
  refine(hW w3.drew (w.heap.size+1) Le.drew (Nat.le_succ _) a3.2.1).mono ?_;rintro e u⟨rfl,hk,sa,hM⟩;have hR:u.heap[w.heap.size]?=some (.cells #[.string ⟨#[]⟩,.int .i64 0,.int .i64 0] 31 (0,0)):=(hk.block _ _ _ _ fR a3.1).trans a3.1;have hB:u.heap[w.heap.size+1+1]?=some (.cells #[aA (w.heap.size+1)] 89 (0,0)):=(hk.block _ _ _ _ fB a3.2.2).trans a3.2.2;have hs:=Gy hR;have hM2:RM w.heap.size (w.heap.size+1) sa out (((u.setCell ⟨w.heap.size,0,none⟩ (.string ⟨#[]⟩)).setCell ⟨w.heap.size,1,none⟩ (.int .i64 0)).setCell ⟨w.heap.size,2,none⟩ (.int .i64 0)):=hM.more (by simp[setCell]) (fun k _=>hs k) ⟨rfl,rfl,rfl⟩;have hP:u.heap[pb]?=some (.cells #[dv,bv,tv] tp (0,0)):=(hk.block _ _ _ _ ftp Xf).trans Xf;refine⟨rfl,⟨cell_of' hB,(aP hP 0).trans rfl⟩,⟨⟨(aP hR 0).trans rfl,(aP hR 1).trans rfl,(aP hR 2).trans rfl⟩,cP hR 0,cP hR 1,cP hR 2⟩,(yV hM2 ((hs _).trans hB) ((hs _).trans hR)).mono ?_⟩;rintro e u' w'⟨rfl,rfl,h1,h1k,Y9⟩;refine⟨rfl,rfl,⟨(aP h1 0).trans rfl,(aP h1 1).trans rfl,(aP h1 2).trans rfl⟩,aC ⟨Y9.so.os.trans (hk.so.os.trans Le.os),Y9.so.tape.trans (hk.so.tape.trans Le.tape),Y9.so.output.trans (hk.so.output.trans Le.output),le_trans Le.size (le_trans hk.size (le_trans (by simp[setCell]) Y9.size)),fun k Js=>?_⟩⟩;have e4:u.heap[k]?=w.heap[k]?:=(hk.low k Js (lt_of_lt_of_le Js Le.size)).trans (Le.block k Js id);rw[h1k k (by omega) (by simp only[setCell,Array.size_modify];exact lt_of_lt_of_le Js (le_trans Le.size hk.size)),hs k,e4]
 have HW:=aC Ql;clear hN hW hp Xf Ql a3 Le fR fB ftp;have c1a:w3.drew.cell? ⟨w.heap.size+1+1,0,none⟩=some (aA (w.heap.size+1)):=z1;have c2a:w3.drew.cell? ⟨pb,0,none⟩=some dv:=z2;unfold aA at *;generalize bs out.output=so at *;generalize (out.done:Int)=dn at *
 go_enter_defers func13,ntmps13
 go_wp2_with fail;refine(HN.out _).mono ?_;rintro e w1⟨rfl,rfl⟩;go_wp2_with fail
 go_region_held3 (fun w'=>w'.cell? ⟨w.heap.size+1+1,0,none⟩=some (.pointer (some ⟨w.heap.size+1,0,none⟩))/\w'.cell? ⟨pb,0,none⟩=some dv) (exact⟨c1a,c2a⟩)
  (first|(go_at_call 30;(refine(HW.out).mono ?_);rintro e u⟨rfl,⟨c1a,c2a⟩,⟨⟨r0,r1,r2⟩,f0,f1,f2⟩,HD⟩))
 all_goals
  go_wp2;refine leaves_cons (f:=27) (by simp) (by simp[go_sem];rfl) ?_;refine(HD.out).mono ?_;rintro e u' w8⟨rfl,rfl,⟨q0,q1,q2⟩,HF⟩;simp[Leaves,settle,results,results13,go_sem,q0,q1,q2];exact HF.out
end
def Gi{txt s so:ByteArray}{n:Nat}{a b:Int}{w:World}(hn:n<=4000)
  (hR:∀v,Calls prog 8 #[.string txt] v fun e u=>∃pb,e=.returned (.tuple #[aA pb,.int .i64 0,.int .i64 0])/\Below v.heap.size v u/\∀u2,Kn (fun _=>False) u u2->Calls prog 13 #[aA pb,.string s,.int .i64 (n:Nat)] u2 fun e u3=>e=.returned (.agg #[.string so,.int .i64 a,.int .i64 b])/\Below u2.heap.size u2 u3) :
  Calls prog 7 #[.string txt,.string s,.int .i64 (n:Nat)] w fun e w'=>e=.returned (.tuple #[.agg #[.string so,.int .i64 a,.int .i64 b],.int .i64 0,.int .i64 0])/\Below w.heap.size w w':=by
 have a1:=JZ w (.cells #[.string ⟨#[]⟩,.int .i64 0,.int .i64 0] 31);have Ps:Below w.heap.size w (w.alloc (.cells #[.string ⟨#[]⟩,.int .i64 0,.int .i64 0] 31)):=(Below.refl _ _).alloc (le_refl _) _;generalize My:w.alloc (.cells #[.string ⟨#[]⟩,.int .i64 0,.int .i64 0] 31)=w1 at *
 have Sa:Calls prog 8 #[.string txt] w1 fun e u=>∃pb,e=.returned (.tuple #[aA pb,.int .i64 0,.int .i64 0])/\Hid (∀u2,Kn (fun _=>False) u u2->Calls prog 13 #[aA pb,.string s,.int .i64 (n:Nat)] u2 fun e u3=>e=.returned (.agg #[.string so,.int .i64 a,.int .i64 b])/\((u3.cell? ⟨w.heap.size,0,none⟩=some (.string ⟨#[]⟩)/\u3.cell? ⟨w.heap.size,1,none⟩=some (.int .i64 0)/\u3.cell? ⟨w.heap.size,2,none⟩=some (.int .i64 0))/\(u3.frozen? ⟨w.heap.size,0,none⟩=false/\u3.frozen? ⟨w.heap.size,1,none⟩=false/\u3.frozen? ⟨w.heap.size,2,none⟩=false))/\Hid (Below w.heap.size w u3)):=(hR w1).mono (by
  rintro e u⟨pb,rfl,hb,hc⟩;refine⟨pb,rfl,fun u2 Rl=>(hc u2 Rl).mono ?_⟩;rintro e u3⟨rfl,hk⟩;have h1:u.heap[w.heap.size]?=some (.cells #[.string ⟨#[]⟩,.int .i64 0,.int .i64 0] 31 (0,0)):=(hb.block _ (aB a1)).trans a1;have h2:u2.heap[w.heap.size]?=some (.cells #[.string ⟨#[]⟩,.int .i64 0,.int .i64 0] 31 (0,0)):=(Rl.block _ (aB h1) id).trans h1;have h3:=(hk.block _ (aB h2)).trans h2;have Kz:Below w.heap.size w u:=Ps.trans (hb.mono Ps.size);have Mf:Below w.heap.size w u2:=Kz.trans ⟨Rl.os,Rl.tape,Rl.output,Rl.size,fun k hk=>Rl.block k (lt_of_lt_of_le hk Kz.size) id⟩;have On:Below w.heap.size w u3:=Mf.trans (hk.mono Mf.size)
  exact⟨rfl,⟨⟨(aP h3 0).trans rfl,(aP h3 1).trans rfl,(aP h3 2).trans rfl⟩,cP h3 0,cP h3 1,cP h3 2⟩,aC On⟩)
 have HR:=aC Sa;have e0:((0:Int) != 0)=false:=by decide
 have h1:¬((n:Int)<0):=by omega
 have h2:¬((4000:Int)<(n:Int)):=by omega
 have h3:decide ((n:Int)<0)=false:=by simp
 have h4:decide ((n:Int)>4000)=false:=by simp;omega
 clear hR Sa a1 Ps;unfold aA at *;go_enter func7,ntmps7;go_wp2_with fail;refine(HR.out).mono ?_;rintro e u⟨pb,rfl,HC⟩;clear HR;go_wp2_with fail;refine(HC.out _ (Kn.refl _ _)).mono ?_;rintro e u3⟨rfl,⟨⟨r0,r1,r2⟩,f0,f1,f2⟩,HB⟩;clear HC;go_wp2;refine bodyPost_ret (v:=.tuple #[.agg #[.string so,.int .i64 a,.int .i64 b],.int .i64 0,.int .i64 0]) (by simp[results,results7,go_sem,r0,r1,r2]) rfl ⟨rfl,?_⟩;exact(((HB.out).setCell (le_refl _) _).setCell (le_refl _) _).setCell (le_refl _) _
def Sn(g:Option Nat)(B:Nat)(u:World)(P:World->Prop):Prop:=∀z:World,(∀(k:Nat)(c:Array Value)(T:TypeId)(f:Nat×Nat),B<=k->g≠some k->u.heap[k]?=some (.cells c T f)->z.heap[k]?=u.heap[k]?)->P z
section
variable {B:Nat}{g g':Option Nat}{u u':World}{P Q:World->Prop}
def Sn.now(h:Sn g B u P):P u:=h u fun _ _ _ _ _ _ _=>rfl
def Sn.appC(h:Sn g B u P)(hk:∀(k:Nat)(c:Array Value)(T:TypeId)(f:Nat×Nat),B<=k->g≠some k->u.heap[k]?=some (.cells c T f)->u'.heap[k]?=u.heap[k]?)(hg:∀q,g'=some q->g=some q\/u.heap.size<=q):Sn g' B u' P:=fun z hz=>h z fun k c T f h1 h3 h2=>by
 have e:=hk k c T f h1 h3 h2;rw[<- e];exact hz k c T f h1 (fun e=>(hg k e).elim h3 fun h=>by have:=aB h2;omega) (e.trans h2)
def Sn.app(h:Sn g B u P)(hk:∀k,B<=k->k<u.heap.size->g≠some k->u'.heap[k]?=u.heap[k]?)(hg:∀q,g'=some q->g=some q\/u.heap.size<=q):Sn g' B u' P:=h.appC (fun k _ _ _ h1 h3 h2=>hk k h1 (aB h2) h3) hg
def Sn.onto(h:Sn g B u P)(hk:∀k,B<=k->k<u.heap.size->u'.heap[k]?=u.heap[k]?):Sn g B u' P:=h.app (fun k h1 h2 _=>hk k h1 h2) fun _=>.inl
def Sn.low{B':Nat}(h:Sn none B u P)(hB:B'<=B)(hg:∀q,g=some q->q<B):Sn g B' u P:=fun z hz=>h z fun k c T f h1 _ h2=>hz k c T f (by omega) (fun e=>by have:=hg k e;omega) h2
def Sn.wide(h:Sn g B u P):Sn none B u P:=fun z hz=>h z fun k c T f h1 _ h2=>hz k c T f h1 (by simp) h2
def Sn.and(h:Sn g B u P)(h':Sn g B u Q):Sn g B u fun z=>P z/\Q z:=fun z hz=>⟨h z hz,h' z hz⟩
def Sn.imp(h:Sn g B u P)(hi:∀z,P z->Q z):Sn g B u Q:=fun z hz=>hi z (h z hz)
end
structure Rz(N rb:Nat)(ts:dL)(w:World):Prop where
 low:rb<N/\N<=w.heap.size
 len:ts.length<=4000
 toks:∀t∈ts,Tok t/\t≠[]
 own:∃(tb o cap:Nat) (cs:Array Value),tb<N/\w.heap[rb]?=some (.cells #[.slice (some ⟨tb,o,none⟩) ts.length cap] SH (0,0))/\w.heap[tb]?=some (.cells cs aI (0,0))/\ts.length<=cap/\cap<=9223372036854775807/\∀i t,ts[i]?=some t->cs[o+i]?=some (bM t)
section
variable {N rb:Nat}{ts r:dL}{t x:List UInt8}{s:ByteArray}{w u:World}
def Rz.onto(h:Rz N rb ts w)(hs:w.heap.size<=u.heap.size)(hk:∀k,k<N->u.heap[k]?=w.heap[k]?):Rz N rb ts u:=by
 obtain⟨tb,o,cap,cs,h0,h1,h2,h3⟩:=h.own;exact⟨⟨h.low.1,le_trans h.low.2 hs⟩,h.len,h.toks,tb,o,cap,cs,h0,(hk _ h.low.1).trans h1,(hk _ h0).trans h2,h3⟩
def Rz.alloc(h:Rz N rb ts w)(o:Obj):Rz N rb ts (w.alloc o):=h.onto (by simp) fun k hk=>Below.heap_alloc _ _ _ (by have:=h.low;omega)
def Rz.head(h:Rz N rb ts w):Tok (ts.headD []):=by
 cases ts with
 |nil=>exact Tok.nil
 |cons t r=>exact(h.toks t (mem_cons_self ..)).1
def eG(h:Rz N rb ts w):Calls prog 194 #[aA rb] w fun e w'=>e=.returned (.string (bs (ts.headD [])))/\w'=w:=by
 obtain⟨tb,o,cap,cs,h0,h1,h2,h3,h4,h5⟩:=h.own;have Js:=aB h1;have c0:w.cell? ⟨rb,0,none⟩=some (.slice (some ⟨tb,o,none⟩) ts.length cap):=by simp[cell?,h1]
 cases ts with
 |nil=>
  clear h h0 h1 h2 h3 h4 h5;unfold aA;go_enter func194,ntmps194;go_wp2;go_ret;exact⟨rfl,rfl⟩
 |cons t r=>
  have Jm:=h.len;rw[length_cons]at Jm c0 h3;have c1:w.cell? ⟨tb,o,none⟩=some (.string (bs t)):=by have:=h5 0 t rfl;simp[cell?,h2];simpa [bM]using this
  have Mb:=aB h2
  show Calls _ _ _ _ fun e w'=>e=.returned (.string (bs t))/\w'=w;clear h h1 h2 h5;unfold aA;generalize bs t=tx at *;generalize r.length=n at *;have hd:((n:Int)+1==0)=false:=by simp;omega
  have Ym:¬((n:Int)+1=0):=by omega
  go_enter func194,ntmps194;go_wp2;go_ret;exact⟨rfl,rfl⟩
def fW(h:Rz N rb (t::r) w):Calls prog 105 #[aA rb] w fun e u=>e=.returned (.string (bs t))/\Hid (Kq rb w u/\Rz N rb r u):=by
 obtain⟨tb,o,cap,cs,h0,h1,h2,h3,h4,h5⟩:=h.own;have Js:=aB h1;have Mb:=aB h2;have Jm:=h.len;rw[length_cons]at Jm h1 h3;have c0:w.cell? ⟨rb,0,none⟩=some (.slice (some ⟨tb,o,none⟩) (r.length+1) cap):=by simp[cell?,h1]
 have c1:w.cell? ⟨tb,o,none⟩=some (.string (bs t)):=by have:=h5 0 t rfl;simp[cell?,h2];simpa [bM]using this
 have hf:w.frozen? ⟨rb,0,none⟩=false:=by simp[World.frozen?,h1]
 have Ju:tb≠rb:=by
  intro e;subst e;rw[h1]at h2;simp at h2;exact absurd h2.2 (by decide)
 have hR:∀o2,(cap=1\/o2=o+1)->Kq rb w (w.setCell ⟨rb,0,none⟩ (.slice (some ⟨tb,o2,none⟩) r.length (cap-1)))/\Rz N rb r (w.setCell ⟨rb,0,none⟩ (.slice (some ⟨tb,o2,none⟩) r.length (cap-1))):=fun o2 ho=>by
  refine⟨(Kq.refl _ _).setR _ _,⟨h.low.1,by have:=h.low.2;simpa [setCell]using this⟩,by omega,fun x hx=>h.toks x (mem_cons_of_mem _ hx),tb,o2,cap-1,cs,h0,?_,?_,by omega,by omega,?_⟩
  ·simp only[setCell,Array.getElem?_modify,if_pos,h1,Option.map_some,Option.isSome_none,Bool.false_eq_true,if_false];simp
  ·rw[Below.heap_setCell _ _ _ _ Ju];exact h2
  ·intro i x hi;rcases ho with ho|rfl
   ·have:r=[]:=List.length_eq_zero_iff.1 (by omega);subst this;simp at hi
   ·have:=h5 (i+1) x (by simpa using hi);rw[<- this];congr 1;omega
 have HR:=aC hR;generalize hQ:(fun u=>Kq rb w u/\Rz N rb r u)=Q at HR;have HF:Hid (∀o2,(cap=1\/o2=o+1)->Q (w.setCell ⟨rb,0,none⟩ (.slice (some ⟨tb,o2,none⟩) r.length (cap-1)))):=by rw[<- hQ];exact HR
 have hq:∀u,Q u->Hid (Kq rb w u/\Rz N rb r u):=fun u h=>by rw[<- hQ]at h;exact h
 have HG:=aC hq;clear h h1 h2 h5 hR HR hq hQ;unfold aA;generalize bs t=tx at *;generalize r.length=n at *;have hd:((n:Int)+1==0)=false:=by simp;omega
 have Ym:¬((n:Int)+1=0):=by omega
 by_cases Ny:cap=1
 ·subst Ny;obtain rfl:n=0:=by omega
  go_enter func105,ntmps105;go_wp2;exact⟨rfl,_,(by simp[results,results105,go_sem]),rfl,HG.out _ (HF.out _ (inl trivial))⟩
 ·go_enter func105,ntmps105;go_wp2;exact⟨rfl,_,(by simp[results,results105,go_sem]),rfl,HG.out _ (HF.out _ (inr rfl))⟩
def Ga{a b:List UInt8}(h:(a==b)=false):((bs a).toList==(bs b).toList)=false:=by rw[MD];exact h
def cY(hs:bs x=s)(hn:(ts.headD []==x)=false)(h:Rz N rb ts w):Calls prog 148 #[aA rb,.string s] w fun e u=>e=.returned (.bool false)/\u=w:=by
 subst hs;have hb:=Ga hn;have Mf:((bs (ts.headD [])).toList != (bs x).toList)=true:=by unfold bne;rw[hb];rfl
 have HP:=aC (eG h);clear h hn;generalize bs x=bx at *;generalize bs (ts.headD [])=bh at *;go_enter func148,ntmps148;go_wp2_with fail;refine(HP.out).mono ?_;rintro e w1⟨rfl,rfl⟩;go_wp2_with fail;exact⟨rfl,_,(by simp[results,results148,go_sem]),rfl,rfl⟩
def fS(hs:bs x=s)(h:Rz N rb (x::r) w):Calls prog 148 #[aA rb,.string s] w fun e u=>e=.returned (.bool true)/\Hid (Kq rb w u/\Rz N rb r u):=by
 subst hs;have HP:=aC (show Calls prog 194 #[aA rb] w fun e w'=>e=.returned (.string (bs x))/\w'=w from eG h);have HT:=aC (fW h);have hb:((bs x).toList==(bs x).toList)=true:=by simp
 have Mf:((bs x).toList != (bs x).toList)=false:=by simp
 clear h;generalize bs x=bx at *;go_enter func148,ntmps148;go_wp2_with fail;refine(HP.out).mono ?_;rintro e w1⟨rfl,rfl⟩;go_wp2_with fail;refine(HT.out).mono ?_;rintro e w1⟨rfl,HQ⟩;go_wp2;exact⟨rfl,_,(by simp[results,results148,go_sem]),rfl,HQ⟩
def mA(hs:bs x=s)(h:Rz N rb (x::r) w):Calls prog 146 #[aA rb,.string s] w fun e u=>e=.returned (.tuple #[])/\Hid (Kq rb w u/\Rz N rb r u):=by
 have HA:=aC (fS hs h);clear h hs;go_enter func146,ntmps146;go_wp2_with fail;refine(HA.out).mono ?_;rintro e w1⟨rfl,HQ⟩;go_wp2;go_end0;exact⟨rfl,HQ⟩
def Ho(h:Rz N rb [] w):Calls prog 69 #[aA rb] w fun e u=>e=.returned (.tuple #[])/\u=w:=by
 obtain⟨tb,o,cap,cs,h0,h1,h2,h3⟩:=h.own;have Js:=aB h1;have c0:w.cell? ⟨rb,0,none⟩=some (.slice (some ⟨tb,o,none⟩) 0 cap):=by simp[cell?,h1]
 clear h h1 h2 h3;unfold aA;go_enter func69,ntmps69;go_wp2;go_end0;exact⟨rfl,rfl⟩
def Tok.size'(h:Tok t):(bs t).size<=maxLen:=by rw[show (bs t).size=t.length by simp[bs,ByteArray.size]];have:=h.2;unfold maxLen;omega
def gM(h:Tok t)(w:World):Calls prog 193 #[.string (bs t)] w fun e w'=>e=.returned (.bool (aR t==110))/\w'=w:=by
 have:=KN (bs t) w h.size';rw[dD,OF h]at this;exact this
def IE(hk:(aR t==110)=true)(h:Rz N rb (t::r) w):Calls prog 143 #[aA rb] w fun e u=>e=.returned (.string (bs t))/\Hid (Kq rb w u/\Rz N rb r u):=by
 have HP:=aC (show Calls prog 194 #[aA rb] w fun e w'=>e=.returned (.string (bs t))/\w'=w from eG h);have HI:=aC (gM (show Tok t from h.head) w);have HT:=aC (fW h);rw[hk]at HI;clear h hk;generalize bs t=tx at *;go_enter func143,ntmps143;go_wp2_with fail;refine(HP.out).mono ?_;rintro e w1⟨rfl,rfl⟩;go_wp2_with fail;refine(HI.out).mono ?_;rintro e w1⟨rfl,rfl⟩;go_wp2_with fail;refine(HT.out).mono ?_;rintro e w1⟨rfl,HQ⟩;go_wp2;exact⟨rfl,_,(by simp[results,results143,go_sem]),rfl,HQ⟩
end
structure Got(N rb:Nat)(w:World)(nd:Nd)(r:dL)(b:Nat)(u:World):Prop where
 kq:Kq rb w u
 sn:Sn none w.heap.size u fun z=>AB z nd b
 rz:Rz N rb r u
def Rdz(N rb K:Nat)(ts:dL)(nd:Nd)(r:dL):Prop:=∀w,Rz N rb ts w->Calls prog K #[aA rb] w fun e u=>∃b,e=.returned (aA b)/\Hid (Got N rb w nd r b u)
def Rnz(N rb K:Nat)(ts:dL):Prop:=∀w,Rz N rb ts w->Calls prog K #[aA rb] w fun e u=>e=.returned (.pointer none)/\u=w
section
variable {N rb:Nat}{ts r:dL}{t x txt:List UInt8}{s:ByteArray}{w u v:World}{nd nd1 nd2 nd3:Nd}{a b c k:Nat}{P:World->Prop}
def Kq.sn{g:Option Nat}(hk:Kq rb u v)(hr:rb<w.heap.size)(h:Sn g w.heap.size u P):Sn g w.heap.size v P:=h.onto fun k h1 h2=>hk.block k h2 (by omega)
def Rz.lt(h:Rz N rb ts w):rb<w.heap.size:=by have:=h.low;omega
def Got.on(h:Got N rb w nd r b u)(h0:Rz N rb ts w)(hk:Kq rb u v):Sn none w.heap.size v fun z=>AB z nd b:=hk.sn h0.lt h.sn
def Got.since(h:Got N rb w nd r b u)(h0:Kq rb v w):Sn none v.heap.size u fun z=>AB z nd b:=h.sn.low h0.size (by simp)
def Got.late(h:Got N rb w nd r b u)(h0:Kq rb v w):Got N rb v nd r b u:=⟨h0.trans h.kq,h.since h0,h.rz⟩
def Sn.row{B n:Nat}{y:TypeId}{pv:Value}{xs:List Value}(h:u.ownsRow B y 1 pv n xs):Sn none B u fun z=>z.ownsRow 0 y 1 pv n xs:=fun z hz=>
 bN (aE h fun q c f hq hc=>hz q _ _ _ (h.lt q hq).1 (by simp) hc) (zero_le _)
def Fm{pv:Value}{ps:List Nd}{bl:List Nat}(hk:Kq rb w u)(hz:Rz N rb r u)(hp:Sn none w.heap.size u fun z=>z.ownsRow 0 aH 1 pv bl.length (bl.map aA)/\AB.AD z ps bl) :
  Got N rb w (.mk k txt ps) r u.heap.size (u.alloc (.cells #[.int .i64 k,.string (bs txt),pv] cS)):=by
 have hs:=hk.size;refine⟨hk.alloc _,fun z h=>?_,hz.alloc _⟩
 obtain⟨h1,h2⟩:=hp z fun q c T f h1 _ h2=>by
  have e:=Below.heap_alloc u (.cells #[.int .i64 k,.string (bs txt),pv] cS) q (aB h2);rw[h q c T f h1 (by simp) (e.trans h2),e]
 have hn:=(MapKept.heap_alloc u (.cells #[.int .i64 k,.string (bs txt),pv] cS)).1;exact AB.mk ((h _ _ _ _ hs (by simp) hn).trans hn) h1 h2
def UB{q:Option Addr}{n m:Nat}{ps:List Nd}{bl:List Nat}(hs:bs txt=s)(hk:Kq rb w u)(hz:Rz N rb r u)(hp:Sn none w.heap.size u fun z=>z.ownsRow 0 aH 1 (.slice q n m) bl.length (bl.map aA)/\AB.AD z ps bl)(hP:Sn none w.heap.size u P) :
  Calls prog 108 #[.int .i64 k,.string s,.slice q n m] u fun e v=>∃b,e=.returned (aA b)/\Hid (Got N rb w (.mk k txt ps) r b v/\Sn none w.heap.size v P):=by
 have hg:=Fm (k:=k) (txt:=txt) hk hz hp;rw[hs]at hg;have HG:=aC (And.intro hg (hP.onto (u':=u.alloc (.cells #[.int .i64 k,.string s,.slice q n m] cS)) fun q _ h2=>Below.heap_alloc _ _ _ h2));clear hg hp hk hz hs hP;unfold aA;go_enter func108,ntmps108;go_wp2;exact⟨rfl,_,(by simp[results,results108,go_sem]),_,rfl,HG⟩
def nF{q:Option Addr}{n m:Nat}{ps:List Nd}{bl:List Nat}(hs:bs txt=s)(hk:Kq rb w u)(hz:Rz N rb r u)(hp:Sn none w.heap.size u fun z=>z.ownsRow 0 aH 1 (.slice q n m) bl.length (bl.map aA)/\AB.AD z ps bl) :
  Calls prog 108 #[.int .i64 k,.string s,.slice q n m] u fun e v=>∃b,e=.returned (aA b)/\Hid (Got N rb w (.mk k txt ps) r b v):=
 (UB (P:=fun _=>True) hs hk hz hp fun _ _=>trivial).mono fun _ _ ⟨b,h1,h2⟩=>⟨b,h1,aC h2.out.1⟩
def UD(hs:bs txt=s)(hk:Kq rb w u)(hz:Rz N rb r u):Calls prog 108 #[.int .i64 k,.string s,.slice none 0 0] u fun e v=>∃b,e=.returned (aA b)/\Hid (Got N rb w (.mk k txt []) r b v):=
 nF (bl:=[]) hs hk hz fun z _=>⟨ownsRow_nil _ _ _ _,by simp[AB.AD]⟩
def new1(hs:bs txt=s)(hk:Kq rb w u)(hz:Rz N rb r u)(h1:Sn none w.heap.size u fun z=>AB z nd1 a) :
  Calls prog 108 #[.int .i64 k,.string s,.slice (some ⟨u.heap.size,0,none⟩) 1 1] (u.alloc (.cells #[.pointer (some ⟨a,0,none⟩)] aH)) fun e v=>∃b,e=.returned (aA b)/\Hid (Got N rb w (.mk k txt [nd1]) r b v):=
 nF (bl:=[a]) hs (hk.alloc _) (hz.alloc _) (((Sn.row (Hc u a)).low hk.size (by simp)).and ((h1.onto fun q _ h2=>Below.heap_alloc _ _ _ h2).imp fun z h=>by simpa [AB.AD]using h))
def Ai(hs:bs txt=s)(hk:Kq rb w u)(hz:Rz N rb r u)(h1:Sn none w.heap.size u fun z=>AB z nd1 a)(h2:Sn none w.heap.size u fun z=>AB z nd2 b) :
  Calls prog 108 #[.int .i64 k,.string s,.slice (some ⟨u.heap.size,0,none⟩) 2 2] (u.alloc (.cells #[.pointer (some ⟨a,0,none⟩),.pointer (some ⟨b,0,none⟩)] aH)) fun e v=>∃b,e=.returned (aA b)/\Hid (Got N rb w (.mk k txt [nd1,nd2]) r b v):=
 nF (bl:=[a,b]) hs (hk.alloc _) (hz.alloc _) (((Sn.row (Hb u a b)).low hk.size (by simp)).and (((h1.and h2).onto fun q _ h2=>Below.heap_alloc _ _ _ h2).imp fun z h=>by simpa [AB.AD]using h))
def Ik(hs:bs txt=s)(hk:Kq rb w u)(hz:Rz N rb r u)(h1:Sn none w.heap.size u fun z=>AB z nd1 a)(h2:Sn none w.heap.size u fun z=>AB z nd2 b)(h3:Sn none w.heap.size u fun z=>AB z nd3 c) :
  Calls prog 108 #[.int .i64 k,.string s,.slice (some ⟨u.heap.size,0,none⟩) 3 3] (u.alloc (.cells #[.pointer (some ⟨a,0,none⟩),.pointer (some ⟨b,0,none⟩),.pointer (some ⟨c,0,none⟩)] aH)) fun e v=>∃b,e=.returned (aA b)/\Hid (Got N rb w (.mk k txt [nd1,nd2,nd3]) r b v):=
 nF (bl:=[a,b,c]) hs (hk.alloc _) (hz.alloc _) (((Sn.row (Ij u a b c)).low hk.size (by simp)).and (((h1.and (h2.and h3)).onto fun q _ h2=>Below.heap_alloc _ _ _ h2).imp fun z h=>by simpa [AB.AD]using h))
def FC(N rb K:Nat):List Nd->dL->dL->Prop
 |[],ts,r=>Rnz N rb K ts/\r=ts
 |nd::l,ts,r=>∃r1,Rdz N rb K ts nd r1/\FC N rb K l r1 r
structure jO(N rb:Nat)(w:World)(l:List Nd)(ts:dL)(v:Value)(u:World):Prop where
 kq:Kq rb w u
 rz:Rz N rb ts u
 sn:∃ps:List Nat,u.ownsRow w.heap.size aH 1 v ps.length (ps.map aA)/\Sn v.ownBlock w.heap.size u fun z=>AB.AD z l ps
def jO.start(h:Rz N rb ts w):jO N rb w [] ts (.slice none 0 0) w:=⟨Kq.refl _ _,h,[],ownsRow_nil _ _ _ _,fun z _=>by simp[AB.AD]⟩
def jO.form{l:List Nd}{y:Value}(h:jO N rb w l ts y u):∃q n m,y=.slice q n m:=by
 obtain⟨ps,h1,_⟩:=h.sn;rcases aD h1 with⟨rfl,_⟩|⟨g,cap,rfl⟩<;>exact⟨_,_,_,rfl⟩
def rZ{z:World}:∀{ps:List Nd}{l:List Nat}{p:Nd}{b:Nat},AB.AD z ps l->AB z p b->AB.AD z (ps++[p]) (l++[b]):=by
 intro ps
 induction ps with
 |nil=>intro l p b h hp;cases l with
  |nil=>simpa [AB.AD]using hp
  |cons=>simp[AB.AD]at h
 |cons q r ih=>intro l p b h hp;cases l with
  |nil=>simp[AB.AD]at h
  |cons c l=>rw[AB.AD]at h;rw[cons_append,cons_append,AB.AD];exact⟨h.1,ih h.2 hp⟩
def jO.put{l:List Nd}{y:Value}{ty:TypeId}{ts1:dL}(h0:Rz N rb ts w)(h:jO N rb w l ts1 y u)(hg:Got N rb u nd r b v)(hl:l.length<=100000) :
  ∃y' v',(append_ #[41,41] ty #[y,.slice (some ⟨v.heap.size,0,none⟩) 1 1]).run prog (v.alloc (.cells #[.pointer (some ⟨b,0,none⟩)] aH))=.ok y' v'/\Hid (jO N rb w (l++[nd]) r y' v'):=by
 obtain⟨ps,h1,h2⟩:=h.sn;have Jm:=(h2.now).len;have Wh:v.ownsRow w.heap.size aH 1 y ps.length (ps.map aA):=aE h1 fun q c f hq hc=>hg.kq.block q (aB hc) (by have:=(h1.lt q hq).1;have:=h0.lt;omega);have hk:=h.kq.trans hg.kq;obtain⟨y',v',e1,e2,e3,e4,_⟩:=iY (ty:=ty) b Wh (by omega) hk.size
 have hb:∀q,q<v.heap.size->y.ownBlock≠some q->v'.heap[q]?=v.heap[q]?:=fun q hq Ju=>by
  rw[e3.block q (by simp;omega) (fun e=>Ju e.symm),Below.heap_alloc _ _ _ hq]
 have Ke:v.heap.size<=v'.heap.size:=by have:=e3.size;simp at this;omega
 have Um:=hg.rz.low;have n0:=h0.low;have hN:∀q,q<w.heap.size->v'.heap[q]?=v.heap[q]?:=fun q hq=>hb q (by have:=hk.size;omega) fun e=>by have:=(Wh.lt q e).1;omega
 refine⟨y',v',e1,aC ⟨(hk.alloc _).BX e3 fun q hq=>(Wh.lt q hq).1,hg.rz.onto Ke fun q hq=>hN q (by omega),ps++[b],e2,?_⟩⟩;have s1:Sn y.ownBlock w.heap.size v fun z=>AB.AD z l ps:=hg.kq.sn h0.lt h2;have s2:Sn y.ownBlock w.heap.size v fun z=>AB z nd b:=hg.sn.low h.kq.size fun q hq=>(h1.lt q hq).2;exact((s1.and s2).imp fun z h=>rZ h.1 h.2).app (fun q _ hq Ju=>hb q hq Ju) fun q hq=>(e4 q hq).imp id fun h=>by omega
end
section
variable {N rb K:Nat}{ts r:dL}{t x txt:List UInt8}{s:ByteArray}{w u v:World}{nd nd1 nd2 nd3:Nd}{a b c k:Nat}{P:World->Prop}
def Dx(N rb K:Nat)(w:World)(l:List Nd)(r:dL)(gk:Nat)(v3 v4:Value)(wr:World):Prop:=
 (v4=.pointer none/\jO N rb w l r v3 wr)\/∃l1 nd l2 b ts1 r1 u1,v4=aA b/\l=l1++nd::l2/\jO N rb w l1 ts1 v3 u1/\Got N rb u1 nd r1 b wr/\FC N rb K l2 r1 r/\gk=l2.length+1
def Dx.next{l l1 l2:List Nd}{v3:Value}{wr:World}(hl:l=l1++l2)(h:jO N rb w l1 ts v3 wr)(hs:FC N rb K l2 ts r):Calls prog K #[aA rb] wr fun e u=>∃v4,e=.returned v4/\(v4=.pointer none\/∃b,v4=aA b)/\Hid (Dx N rb K w l r l2.length v3 v4 u):=by
 cases l2 with
 |nil=>
  obtain⟨h1,rfl⟩:=hs;refine(h1 wr h.rz).mono ?_;rintro e u⟨rfl,rfl⟩;exact⟨_,rfl,inl rfl,aC (inl ⟨rfl,by rw[hl,append_nil];exact h⟩)⟩
 |cons nd l2=>
  obtain⟨r1,h1,h2⟩:=hs;refine(h1 wr h.rz).mono ?_;rintro e u⟨b,rfl,hg⟩;exact⟨_,rfl,inr ⟨b,rfl⟩,aC (inr ⟨l1,nd,l2,b,ts,r1,wr,rfl,hl,h,hg.out,h2,rfl⟩)⟩
def iU{l:List Nd}(HE:aF K)(hs:FC N rb K l ts r)(hl:l.length<=1000)(h:Rz N rb ts w) :
  Calls prog 144 #[.func (.func K) #[aA rb] #[]] w fun e u=>∃q n m,e=.returned (.slice q n m)/\Hid (jO N rb w l r (.slice q n m) u):=by
 have hE:=fun(args:Array Value) (w:World)=>HE args w;have HC:=aC (Dx.next (l:=l) (l1:=[]) rfl (jO.start h) hs)
 have G9:∀gk v3 wr,Dx N rb K w l r gk v3 (.pointer none) wr->∃q n m,v3=.slice q n m/\Hid (jO N rb w l r (.slice q n m) wr):=fun gk v3 wr h=>by
  rcases h with⟨_,h⟩|⟨_,_,_,_,_,_,_,h,_⟩
  ·obtain⟨q,n,m,rfl⟩:=h.form;exact⟨q,n,m,rfl,h⟩
  ·cases h
 have Jz:∀gk v3 b wr,Dx N rb K w l r gk v3 (aA b) wr->∃y' v',(append_ #[41,41] 41 #[v3,.slice (some ⟨wr.heap.size,0,none⟩) 1 1]).run prog (wr.alloc (.cells #[.pointer (some ⟨b,0,none⟩)] aH))=.ok y' v' /\
   ∃g2,g2<gk/\Calls prog K #[aA rb] v' fun e u=>∃v4,e=.returned v4/\(v4=.pointer none\/∃b,v4=aA b)/\Hid (Dx N rb K w l r g2 y' v4 u):=fun gk v3 b wr hh=>by
  rcases hh with⟨h,_⟩|⟨l1,nd,l2,b,ts1,r1,u1,e,Si,h1,h2,h3,h4⟩
  ·cases h
  ·cases e;obtain⟨y',v',f1,f2⟩:=h1.put (ty:=41) h h2 (by rw[Si]at hl;simp at hl;omega);exact⟨y',v',f1,l2.length,by omega,Dx.next (by simp[Si]) f2.out h3⟩
 have L8:=aC G9;have Km:=aC Jz;clear G9 Jz h hs HE;generalize Dx N rb K w l r=LL at *;generalize jO N rb w l r=AA at *;unfold aA at *;go_enter func144,ntmps144;go_wp2_with fail;refine(HC.out).mono ?_;rintro e w1⟨v4,rfl,Mm,HL⟩;clear HC;have Kd:Hid (LL l.length (.slice none 0 0) v4 w1/\(v4=.pointer none\/∃b,v4=.pointer (some ⟨b,0,none⟩))):=⟨HL.out,Mm⟩;clear HL Mm;go_wp2_with fail
 go_loopg [3,4] l.length (fun gk v3 v4 wr=>Hid (LL gk v3 v4 wr/\(v4=.pointer none\/∃b,v4=.pointer (some ⟨b,0,none⟩))))
 case atStart=>exact Kd
 case round=>
  clear Kd;obtain⟨Kl,Mm⟩:=hrel.out;rcases Mm with rfl|⟨b,rfl⟩
  ·obtain⟨q,n,m,rfl,HF⟩:=L8.out _ _ _ Kl;clear Kl L8 hrel Km;go_wp2_with fail;exact⟨rfl,_,(by simp[results,results144,go_sem]),_,_,_,rfl,HF⟩
  ·obtain⟨y',v',Jo,g2,Js,hc⟩:=Km.out _ _ _ _ Kl;have HR:=aC Jo;have HC:=aC hc;clear Kl hrel Jo hc Km L8
   go_wp2_with (at_builtin;refine aU rfl _ _ _ rfl (by simp[Act.eval,Act.put]) (by simp[Act.eval,Act.put]) HR.out ?_)
   refine(HC.out).mono ?_;rintro e w3⟨v5,rfl,Mm,HL⟩;have Kd:Hid (LL g2 y' v5 w3/\(v5=.pointer none\/∃b,v5=.pointer (some ⟨b,0,none⟩))):=⟨HL.out,Mm⟩;clear HL Mm HC HR;go_wp2_with fail
   go_roundg g2
   case rel=>exact Kd
   case measure=>exact Js
def VC:(prog.info? aI).map (fun i=>(i.zero,i.size,i.bytes))=some (some (.string ⟨#[]⟩),1,16):=by kernel_rfl
structure FG(N rb:Nat)(w:World)(xs ts:dL)(y:Value)(u:World):Prop where
 kq:Kq rb w u
 rz:Rz N rb ts u
 row:u.ownsRow w.heap.size aI 1 y xs.length (xs.map bM)
def FG.put{xs:dL}{y:Value}{ty:TypeId}(h0:Rz N rb ts w)(h:FG N rb w xs (t::r) y u)(h1:Kq rb u v)(h2:Rz N rb r v)(hl:xs.length<=100000) :
  ∃y' v',(append_ #[22,22] ty #[y,.slice (some ⟨v.heap.size,0,none⟩) 1 1]).run prog (v.alloc (.cells #[.string (bs t)] aI))=.ok y' v'/\Hid (FG N rb w (xs++[t]) r y' v'):=by
 have hr:v.ownsRow w.heap.size aI 1 y xs.length (xs.map bM):=aE h.row fun q c f hq hc=>h1.block q (aB hc) (by have:=(h.row.lt q hq).1;have:=h0.lt;omega);have hk:=h.kq.trans h1;have Um:=h0.low;obtain⟨y',v',e1,e2,e3,_⟩:=gG (z:=.string (bs t)) (ty:=ty) underlying22 VC (by decide) rfl rfl hr (by omega) hk.size;refine⟨y',v',e1,aC ⟨(hk.alloc _).BX e3 fun q hq=>(hr.lt q hq).1,h2.onto (by have:=e3.size;simp at this;omega) fun q hq=>?_,by rw[length_append,map_append];exact e2⟩⟩;rw[e3.block q (by have:=hk.size;simp;omega) (fun e=>by have:=(hr.lt q e.symm).1;omega),Below.heap_alloc _ _ _ (by have:=hk.size;omega)]
def LK{xs:dL}(hk:∀x∈xs,(aR x==110)=true)(hr:(aR (r.headD [])==110)=false)(h:Rz N rb (xs++r) w):Calls prog 149 #[aA rb] w fun e u=>∃q n m,e=.returned (.slice q n m)/\Hid (FG N rb w xs r (.slice q n m) u):=by
 have Jm:=h.len;obtain⟨LL,hLL⟩:∃LL:Nat->Value->World->Prop,LL=fun gk y u=>∃xs1 xs2,xs=xs1++xs2/\gk=xs2.length/\FG N rb w xs1 (xs2++r) y u:=⟨_,rfl⟩;have h0:LL xs.length (.slice none 0 0) w:=by rw[hLL];exact⟨[],xs,rfl,rfl,Kq.refl _ _,h,ownsRow_nil _ _ _ _⟩
 have Jz:∀gk y wr,LL gk y wr->∃t:List UInt8,∃bb:Bool,(Calls prog 194 #[aA rb] wr fun e w'=>e=.returned (.string (bs t))/\w'=wr)/\(Calls prog 193 #[.string (bs t)] wr fun e w'=>e=.returned (.bool bb)/\w'=wr) /\
   (bb=false->∃q n m,y=.slice q n m/\Hid (FG N rb w xs r (.slice q n m) wr)) /\
   (bb=true->Calls prog 105 #[aA rb] wr fun e u=>e=.returned (.string (bs t))/\∃y' v',(append_ #[22,22] 22 #[y,.slice (some ⟨u.heap.size,0,none⟩) 1 1]).run prog (u.alloc (.cells #[.string (bs t)] aI))=.ok y' v'/\∃g2,g2<gk/\Hid (LL g2 y' v')):=fun gk y wr hl=>by
  rw[hLL]at hl ⊢;obtain⟨xs1,xs2,hx,hg,hn⟩:=hl;refine⟨(xs2++r).headD [],_,eG hn.rz,gM hn.rz.head wr,fun hb=>?_,fun hb=>?_⟩
  ·cases xs2 with
   |cons a l=>have:(aR a==110)=false:=hb;rw[hk a (by rw[hx];simp)]at this;cases this
   |nil=>
    rw[append_nil]at hx;subst hx;obtain⟨q,n,m,rfl⟩:∃q n m,y=.slice q n m:=by rcases aD hn.row with⟨rfl,_⟩|⟨g,cap,rfl⟩<;>exact⟨_,_,_,rfl⟩
    exact⟨q,n,m,rfl,hn⟩
  ·cases xs2 with
   |nil=>have:(aR (r.headD [])==110)=true:=hb;rw[hr]at this;cases this
   |cons a l=>
    refine(fW (t:=a) (r:=l++r) hn.rz).mono ?_;rintro e u⟨rfl,hq⟩;obtain⟨y',v',f1,f2⟩:=FG.put (ty:=22) h hn hq.out.1 hq.out.2 (by have:xs.length=_:=congrArg List.length hx;simp at this Jm;omega);exact⟨rfl,y',v',f1,l.length,by rw[hg];simp,aC ⟨xs1++[a],l,by simp[hx],rfl,f2.out⟩⟩
 have Km:=aC Jz;have H0:=aC h0;clear Jz h0 hLL h hk hr;generalize FG N rb w xs r=AA at *;unfold aA at *;go_enter func149,ntmps149;go_wp2_with fail
 go_loopg [3] xs.length (fun gk v wr=>Hid (LL gk v wr))
 case atStart=>exact H0
 case round=>
  clear H0;obtain⟨t,bb,hp,hi,Lg,Lp⟩:=Km.out _ _ _ hrel.out;have HP:=aC hp;have HI:=aC hi;have HN:=aC Lg;have HY:=aC Lp;clear hp hi Lg Lp hrel Km;generalize bs t=tx at *;go_wp2_with fail;refine(HP.out).mono ?_;rintro e wp⟨rfl,hw⟩;rw[hw];clear hw wp;go_wp2_with fail;refine(HI.out).mono ?_;rintro e wp⟨rfl,hw⟩;rw[hw];clear hw wp;cases bb
  ·obtain⟨q,n,m,rfl,HQ⟩:=HN.out rfl;go_wp2_with fail;exact⟨rfl,_,(by simp[results,results149,go_sem]),_,_,_,rfl,HQ⟩
  ·have HC:=aC (HY.out rfl);clear HY HN HP HI;go_wp2_with fail;refine(HC.out).mono ?_;rintro e u⟨rfl,y',v',Jo,g2,Js,HL⟩;have HR:=aC Jo;clear Jo HC
   go_wp2_with (at_builtin;refine aU rfl _ _ _ rfl (by simp[Act.eval,Act.put]) (by simp[Act.eval,Act.put]) HR.out ?_)
   go_roundg g2
   case rel=>exact HL
   case measure=>exact Js
end
section
variable {N rb:Nat}{ts r r1 r2 r3:dL}{t x txt:List UInt8}{w u:World}{nd nd1 nd2 nd3:Nd}
def NV(h1:Rdz N rb 109 ts nd1 ([116,104,101,110]::r1))(h2:Rdz N rb 109 r1 nd2 ([101,108,115,101]::r2))(h3:Rdz N rb 109 r2 nd3 r):Rdz N rb 151 ts (.mk 8 [] [nd1,nd2,nd3]) r:=fun w h=>by
 have HC:=aC (h1 w h);have H2:=aC h2;have H3:=aC h3;have HZ:=aC h;clear h1 h2 h3 h;unfold aA at *;go_enter func151,ntmps151;go_wp2_with fail;refine(HC.out).mono ?_;rintro e u1⟨b1,rfl,G1⟩;have HC:=aC (mA WP G1.out.rz);unfold aA at *;go_wp2_with fail;refine(HC.out).mono ?_;rintro e u2⟨rfl,K2⟩;have HC:=aC (H2.out _ K2.out.2);unfold aA at *;go_wp2_with fail;refine(HC.out).mono ?_;rintro e u3⟨b3,rfl,G3⟩;have HC:=aC (mA WR G3.out.rz);unfold aA at *;go_wp2_with fail;refine(HC.out).mono ?_;rintro e u4⟨rfl,K4⟩;have HC:=aC (H3.out _ K4.out.2);unfold aA at *;go_wp2_with fail;refine(HC.out).mono ?_;rintro e u5⟨b5,rfl,G5⟩;have k2:=G1.out.kq.trans K2.out.1;have k4:=(k2.trans G3.out.kq).trans K4.out.1;have HC:=aC (Ik (k:=8) mM (k4.trans G5.out.kq) G5.out.rz (G1.out.on HZ.out (((K2.out.1.trans G3.out.kq).trans K4.out.1).trans G5.out.kq)) ((G3.out.on K2.out.2 (K4.out.1.trans G5.out.kq)).low k2.size (by simp)) (G5.out.since k4));unfold aA at *;clear k2 k4;go_wp2_with fail;refine(HC.out).mono ?_;rintro e u6⟨b6,rfl,G6⟩;go_wp2;exact⟨rfl,_,(by simp[results,results151,go_sem]),_,rfl,G6⟩
def Em(h1:Rdz N rb 199 ts nd1 ([59]::r1))(h2:Rdz N rb 109 r1 nd2 r):Rdz N rb 152 ts (.mk 9 [] [nd1,nd2]) r:=fun w h=>by
 have HC:=aC (h1 w h);have H2:=aC h2;have HZ:=aC h;clear h1 h2 h;unfold aA at *;go_enter func152,ntmps152;go_wp2_with fail;refine(HC.out).mono ?_;rintro e u1⟨b1,rfl,G1⟩;have HC:=aC (fS EO G1.out.rz);unfold aA at *;go_wp2_with fail;refine(HC.out).mono ?_;rintro e u2⟨rfl,K2⟩;have HC:=aC (H2.out _ K2.out.2);unfold aA at *;go_wp2_with fail;refine(HC.out).mono ?_;rintro e u3⟨b3,rfl,G3⟩;have k2:=G1.out.kq.trans K2.out.1;have HC:=aC (Ai (k:=9) mM (k2.trans G3.out.kq) G3.out.rz (G1.out.on HZ.out (K2.out.1.trans G3.out.kq)) (G3.out.since k2));unfold aA at *;clear k2;go_wp2_with fail;refine(HC.out).mono ?_;rintro e u6⟨b6,rfl,G6⟩;go_wp2;exact⟨rfl,_,(by simp[results,results152,go_sem]),_,rfl,G6⟩
def ZB(h1:Rdz N rb 199 ts nd r)(hn:(r.headD []==[59])=false):Rdz N rb 152 ts nd r:=fun w h=>by
 have HC:=aC (h1 w h);have HN:=aC hn;clear h1 h hn;unfold aA at *;go_enter func152,ntmps152;go_wp2_with fail;refine(HC.out).mono ?_;rintro e u1⟨b1,rfl,G1⟩;have HC:=aC (cY EO HN.out G1.out.rz);unfold aA at *;go_wp2_with fail;refine(HC.out).mono ?_;rintro e u2⟨rfl,rfl⟩;go_wp2;exact⟨rfl,_,(by simp[results,results152,go_sem]),_,rfl,G1⟩
def ZA(h1:Rdz N rb 255 ts nd r)(hn:(r.headD []==[58,61])=false):Rdz N rb 199 ts nd r:=fun w h=>by
 have HC:=aC (h1 w h);have HN:=aC hn;clear h1 h hn;unfold aA at *;go_enter func199,ntmps199;go_wp2_with fail;refine(HC.out).mono ?_;rintro e u1⟨b1,rfl,G1⟩;have HC:=aC (cY Co HN.out G1.out.rz);unfold aA at *;go_wp2_with fail;refine(HC.out).mono ?_;rintro e u2⟨rfl,rfl⟩;go_wp2;exact⟨rfl,_,(by simp[results,results199,go_sem]),_,rfl,G1⟩
def Gz(h1:Rdz N rb 282 ts nd1 ([60]::r1))(h2:Rdz N rb 282 r1 nd2 r):Rdz N rb 255 ts (.mk 11 [60] [nd1,nd2]) r:=fun w h=>by
 have HC:=aC (h1 w h);have H2:=aC h2;have HZ:=aC h;clear h1 h2 h;unfold aA at *;go_enter func255,ntmps255;go_wp2_with fail;refine(HC.out).mono ?_;rintro e u1⟨b1,rfl,G1⟩;have HC:=aC (show Calls prog 194 #[aA rb] u1 fun e w'=>e=.returned (.string ⟨#[60]⟩)/\w'=u1 from eG G1.out.rz);unfold aA at *;go_wp2_with fail;refine(HC.out).mono ?_;rintro e u2⟨rfl,rfl⟩;have HC:=aC (show Calls prog 105 #[aA rb] u2 fun e u=>e=.returned (.string ⟨#[60]⟩)/\Hid (Kq rb u2 u/\Rz N rb r1 u)from fW G1.out.rz);unfold aA at *;go_wp2_with fail;refine(HC.out).mono ?_;rintro e u3⟨rfl,K2⟩;have HC:=aC (H2.out _ K2.out.2);unfold aA at *;go_wp2_with fail;refine(HC.out).mono ?_;rintro e u4⟨b3,rfl,G3⟩;have k2:=G1.out.kq.trans K2.out.1;have HC:=aC (Ai (k:=11) (show bs [60]=⟨#[60]⟩from rfl) (k2.trans G3.out.kq) G3.out.rz (G1.out.on HZ.out (K2.out.1.trans G3.out.kq)) (G3.out.since k2));unfold aA at *;clear k2;go_wp2_with fail;refine(HC.out).mono ?_;rintro e u6⟨b6,rfl,G6⟩;go_wp2;exact⟨rfl,_,(by simp[results,results255,go_sem]),_,rfl,G6⟩
def ZI(h1:Rdz N rb 282 ts nd r)(hn:(r.headD []==[61])=false)(hm:(r.headD []==[60])=false):Rdz N rb 255 ts nd r:=fun w h=>by
 have HC:=aC (h1 w h);have e1:((bs (r.headD [])).toList==[61])=false:=by rw[ByteArray.toList_eq,dD];exact hn
 have e2:((bs (r.headD [])).toList==[60])=false:=by rw[ByteArray.toList_eq,dD];exact hm
 clear h1 h hn hm;unfold aA at *;go_enter func255,ntmps255;go_wp2_with fail;refine(HC.out).mono ?_;rintro e u1⟨b1,rfl,G1⟩;have HC:=aC (eG G1.out.rz);unfold aA at *;generalize bs (r.headD [])=bx at *;go_wp2_with fail;refine(HC.out).mono ?_;rintro e u2⟨rfl,rfl⟩;go_wp2;exact⟨rfl,_,(by simp[results,results255,go_sem]),_,rfl,G1⟩
def EH{a b:UInt8}(h:(x==[a] || x==[b])=false):Lib.containsS [bs [a],bs [b]] (bs x)=false:=by
 have hi:∀{a b:List UInt8},bs a=bs b->a=b:=fun h=>by
  have:=congrArg (fun s:ByteArray=>s.data.toList) h
  simpa [dD]using this
 cases h2:Lib.containsS [bs [a],bs [b]] (bs x)
 ·rfl
 ·rw[Lib.containsS_iff]at h2;simp only[mem_cons,List.not_mem_nil,or_false]at h2;simp only[Bool.or_eq_false_iff,beq_eq_false_iff_ne]at h;rcases h2 with h2|h2
  ·exact absurd (hi h2) h.1
  ·exact absurd (hi h2) h.2
def Dq{fk sb:Nat}{a b:UInt8}(HE:aF fk)(h1:Rdz N rb fk ts nd r)(hn:(r.headD []==[a] || r.headD []==[b])=false)(h:Rz N rb ts w)(Wj:w.heap[sb]?=some (.cells #[.string (bs [a]),.string (bs [b])] aI (0,0)))(hb:sb≠rb) :
  Calls prog 296 #[aA rb,.func (.func fk) #[aA rb] #[],.slice (some ⟨sb,0,none⟩) 2 2] w fun e u=>∃b,e=.returned (aA b)/\Hid (Got N rb w nd r b u):=by
 have hE:=fun(args:Array Value) (w:World)=>HE args w;have HC:=aC (h1 w h)
 have X9:=aC (fun(wr:World) (hk:Kq rb w wr)=>by
  have hz:wr.heap[sb]?=some (.cells #[.string (bs [a]),.string (bs [b])] aI (0,0)):=(hk.block sb (aB Wj) hb).trans Wj
  have:=Tryz.slices_Contains_string sb 0 2 2 [bs [a],bs [b]] (bs (r.headD [])) wr (le_refl _) (by omega) (by
   intro j hj
   match j,hj with
   |0,_=>simp[cell?,hz]
   |1,_=>simp[cell?,hz])
  rw[show [bs [a],bs [b]].take 2=[bs [a],bs [b]]from rfl,EH hn]at this
  exact this)
 clear h1 h Wj HE hn;unfold aA at *;go_enter func296,ntmps296;go_wp2_with fail;refine(HC.out).mono ?_;rintro e u1⟨b1,rfl,G1⟩;have HP:=aC (eG G1.out.rz);have HQ:=aC (X9.out u1 G1.out.kq);unfold aA at *;clear HC X9;generalize bs (r.headD [])=bx at *;go_wp2_with fail
 go_loopg [7] 0 (fun gk v wr=>v=.pointer (some ⟨b1,0,none⟩)/\wr=u1)
 case atStart=>exact⟨rfl,rfl⟩
 case round=>
  obtain⟨rfl,rfl⟩:=hrel;go_wp2_with fail;refine(HP.out).mono ?_;rintro e wp⟨rfl,hw⟩;rw[hw];clear hw wp;go_wp2_with fail;refine(HQ.out).mono ?_;rintro e wp⟨rfl,hw⟩;rw[hw];clear hw wp;go_wp2_with fail;exact⟨rfl,_,(by simp[results,results296,go_sem]),_,rfl,G1⟩
def aF.zapp:aF 311:=enters func311 (by kernel_rfl) rfl
def aF.zprod:aF 297:=enters func297 (by kernel_rfl) rfl
def TG(h1:Rdz N rb 311 ts nd r)(hn:(r.headD []==[42] || r.headD []==[47])=false):Rdz N rb 297 ts nd r:=fun w h=>by
 have HC:=aC (Dq (sb:=w.heap.size) aF.zapp h1 hn (h.alloc (.cells #[.string ⟨#[42]⟩,.string ⟨#[47]⟩] aI)) (by simp only[World.alloc,Array.getElem?_push_size];rfl) (by have:=h.lt;omega));have HF:=aC (fun(b:Nat) (u:World) (g:Got N rb (w.alloc (.cells #[.string ⟨#[42]⟩,.string ⟨#[47]⟩] aI)) nd r b u)=>g.late ((Kq.refl rb w).alloc _));have Vs:∀(fn:Fn)(first cap:Array Value)(w:World),(makeFunc fn first cap).run prog w=.ok (.func fn first cap) w:=fun _ _ _ _=>rfl;clear h1 h hn;unfold aA at *;go_enter func297,ntmps297;go_wp2_with fail;refine(HC.out).mono ?_;rintro e u1⟨b1,rfl,G1⟩;have HG:=aC (HF.out _ _ G1.out);go_wp2;exact⟨rfl,_,(by simp[results,results297,go_sem]),_,rfl,HG⟩
def YZ(h1:Rdz N rb 297 ts nd r)(hn:(r.headD []==[43] || r.headD []==[45])=false):Rdz N rb 282 ts nd r:=fun w h=>by
 have HC:=aC (Dq (sb:=w.heap.size) aF.zprod h1 hn (h.alloc (.cells #[.string ⟨#[43]⟩,.string ⟨#[45]⟩] aI)) (by simp only[World.alloc,Array.getElem?_push_size];rfl) (by have:=h.lt;omega));have HF:=aC (fun(b:Nat) (u:World) (g:Got N rb (w.alloc (.cells #[.string ⟨#[43]⟩,.string ⟨#[45]⟩] aI)) nd r b u)=>g.late ((Kq.refl rb w).alloc _));have Vs:∀(fn:Fn)(first cap:Array Value)(w:World),(makeFunc fn first cap).run prog w=.ok (.func fn first cap) w:=fun _ _ _ _=>rfl;clear h1 h hn;unfold aA at *;go_enter func282,ntmps282;go_wp2_with fail;refine(HC.out).mono ?_;rintro e u1⟨b1,rfl,G1⟩;have HG:=aC (HF.out _ _ G1.out);go_wp2;exact⟨rfl,_,(by simp[results,results282,go_sem]),_,rfl,HG⟩
def Ha(h1:Rdz N rb 151 ts nd r):Rdz N rb 109 ([105,102]::ts) nd r:=fun w h=>by
 have HC:=aC (cY xC rfl h);have HD:=aC (cY MF rfl h);have HE:=aC (fS WQ h);have H1:=aC h1;clear h1 h;unfold aA at *;go_enter func109,ntmps109;go_wp2_with fail;refine(HC.out).mono ?_;rintro e u1⟨rfl,rfl⟩;clear HC;have HC:=HD;go_wp2_with fail;refine(HC.out).mono ?_;rintro e u2⟨rfl,rfl⟩;clear HC;have HC:=HE;go_wp2_with fail;refine(HC.out).mono ?_;rintro e u3⟨rfl,K2⟩;have HC:=aC (H1.out _ K2.out.2);unfold aA at *;go_wp2_with fail;refine(HC.out).mono ?_;rintro e u4⟨b4,rfl,G4⟩;have HG:=aC (G4.out.late K2.out.1);go_wp2;exact⟨rfl,_,(by simp[results,results109,go_sem]),_,rfl,HG⟩
def NT(h1:Rdz N rb 152 ts nd r)(n1:(ts.headD []==[108,101,116])=false)(n2:(ts.headD []==[102,117,110])=false)(n3:(ts.headD []==[105,102])=false):Rdz N rb 109 ts nd r:=fun w h=>by
 have HC:=aC (cY xC n1 h);have HD:=aC (cY MF n2 h);have HE:=aC (cY WQ n3 h);have H1:=aC (h1 w h);clear h1 h n1 n2 n3;unfold aA at *;go_enter func109,ntmps109;go_wp2_with fail;refine(HC.out).mono ?_;rintro e u1⟨rfl,rfl⟩;clear HC;have HC:=HD;go_wp2_with fail;refine(HC.out).mono ?_;rintro e u2⟨rfl,rfl⟩;clear HC;have HC:=HE;go_wp2_with fail;refine(HC.out).mono ?_;rintro e u3⟨rfl,rfl⟩;clear HC;have HC:=H1;go_wp2_with fail;refine(HC.out).mono ?_;rintro e u4⟨b4,rfl,G4⟩;go_wp2;exact⟨rfl,_,(by simp[results,results109,go_sem]),_,rfl,G4⟩
def Rbz(N rb:Nat)(ts:dL)(k:Nat)(nm:Nm)(nd:Nd)(r:dL):Prop:=∀w,Rz N rb ts w->Calls prog 107 #[aA rb] w fun e u=>∃b,e=.returned (.tuple #[.int .i64 k,.string (bs nm),aA b])/\Hid (Got N rb w nd r b u)
def Es{k:Nat}(h1:Rbz N rb ts k txt nd1 ([105,110]::r1))(h2:Rdz N rb 109 r1 nd2 r):Rdz N rb 109 ([108,101,116]::ts) (.mk k txt [nd1,nd2]) r:=fun w h=>by
 have HC:=aC (fS xC h);have H1:=aC h1;have H2:=aC h2;clear h1 h2 h;unfold aA at *;go_enter func109,ntmps109;go_wp2_with fail;refine(HC.out).mono ?_;rintro e u1⟨rfl,K1⟩;have HC:=aC (H1.out _ K1.out.2);unfold aA at *;go_wp2_with fail;refine(HC.out).mono ?_;rintro e u2⟨b2,rfl,G2⟩;have HC:=aC (mA Gc G2.out.rz);unfold aA at *;go_wp2_with fail;refine(HC.out).mono ?_;rintro e u3⟨rfl,K3⟩;have HC:=aC (H2.out _ K3.out.2);unfold aA at *;go_wp2_with fail;refine(HC.out).mono ?_;rintro e u4⟨b4,rfl,G4⟩;have k3:=(K1.out.1.trans G2.out.kq).trans K3.out.1;have HC:=aC (Ai (k:=k) (txt:=txt) rfl (k3.trans G4.out.kq) G4.out.rz ((G2.out.on K1.out.2 (K3.out.1.trans G4.out.kq)).low K1.out.1.size (by simp)) (G4.out.since k3));unfold aA at *;clear k3;go_wp2_with fail;refine(HC.out).mono ?_;rintro e u6⟨b6,rfl,G6⟩;go_wp2;exact⟨rfl,_,(by simp[results,results109,go_sem]),_,rfl,G6⟩
end
end Go.Proofs.YthakgdfmbknakaaGreatDoor
