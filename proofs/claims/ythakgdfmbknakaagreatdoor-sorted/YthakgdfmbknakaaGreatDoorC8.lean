import Derived.Test.YthakgdfmbknakaaGreatDoorC7
set_option linter.all false
set_option maxHeartbeats 40000000
set_option maxRecDepth 100000
open Go.Proofs.Tryz
open Or (inl inr)
open Nat (le_refl le_trans zero_le lt_of_lt_of_le)
open List (append_nil length_append cons_append map_append length_map map_cons nil_append)
namespace Go.Proofs.YthakgdfmbknakaaGreatDoor
open List (getElem?_eq_getElem getElem?_map mem_of_getElem? take_add_one take_length)
open Option (toList)
open World (cell? frozen? ownsRow_nil setCell)
open Instr (lookup mapUpdate)
open Kn (AH)
open Value (func map ownBlock)
open Go.RowKit
section
variable {mb tb bb:Nat}{A:List Nm}{a:Nat}{w w':World}
structure Fresh(w u:World):Prop where
 kn:Kn (fun _=>False) w u
 kr:KR 0 w u
def Fresh.refl(w:World):Fresh w w:=⟨Kn.refl _ _,KR.refl 0 w⟩
def Fresh.alloc{w u:World}(h:Fresh w u)(o:Obj):Fresh w (u.alloc o):=⟨h.kn.alloc o,h.kr.push (PEq.alloc _ o)⟩
def Fresh.trans{a b c:World}(h:Fresh a b)(k:Fresh b c):Fresh a c:=⟨h.kn.trans k.kn,h.kr.trans k.kr⟩
def Fi{K1:Nat}{cs1:Array Value}:Calls prog 130 #[.func (.func K1) #[] cs1] w fun e u=>e=.returned (.func (.func 171) #[] #[aA (w.heap.size)])/\u=(w.alloc (.cells #[.func (.func K1) #[] cs1] aW)):=by
 unfold aA;go_enter func130,ntmps130;go_wp2;refine bodyPost_ret (v:=.func (.func 171) #[] #[.pointer (some ⟨w.heap.size,0,none⟩)]) (by simp[results,results130,go_sem]) rfl ⟨rfl,rfl⟩
def Fh{K1 K2:Nat}{cs1 cs2:Array Value}:Calls prog 138 #[.func (.func K1) #[] cs1,.func (.func K2) #[] cs2] w fun e u=>e=.returned (.func (.func 189) #[] #[aA (w.heap.size),aA (w.heap.size+1)])/\u=((w.alloc (.cells #[.func (.func K1) #[] cs1] aW)).alloc (.cells #[.func (.func K2) #[] cs2] aW)):=by
 unfold aA;go_enter func138,ntmps138;go_wp2;refine bodyPost_ret (v:=.func (.func 189) #[] #[.pointer (some ⟨w.heap.size,0,none⟩),.pointer (some ⟨w.heap.size+1,0,none⟩)]) (by simp[results,results138,go_sem]) rfl ⟨rfl,rfl⟩
def Fg{K1 K2:Nat}{cs1 cs2:Array Value}:Calls prog 137 #[.func (.func K1) #[] cs1,.func (.func K2) #[] cs2] w fun e u=>e=.returned (.func (.func 187) #[] #[aA (w.heap.size),aA (w.heap.size+1)])/\u=((w.alloc (.cells #[.func (.func K1) #[] cs1] aW)).alloc (.cells #[.func (.func K2) #[] cs2] aW)):=by
 unfold aA;go_enter func137,ntmps137;go_wp2;refine bodyPost_ret (v:=.func (.func 187) #[] #[.pointer (some ⟨w.heap.size,0,none⟩),.pointer (some ⟨w.heap.size+1,0,none⟩)]) (by simp[results,results137,go_sem]) rfl ⟨rfl,rfl⟩
def Ff{K1 K2:Nat}{cs1 cs2:Array Value}:Calls prog 90 #[.func (.func K1) #[] cs1,.func (.func K2) #[] cs2] w fun e u=>e=.returned (.func (.func 126) #[] #[aA (w.heap.size),aA (w.heap.size+1)])/\u=((w.alloc (.cells #[.func (.func K1) #[] cs1] aW)).alloc (.cells #[.func (.func K2) #[] cs2] aW)):=by
 unfold aA;go_enter func90,ntmps90;go_wp2;refine bodyPost_ret (v:=.func (.func 126) #[] #[.pointer (some ⟨w.heap.size,0,none⟩),.pointer (some ⟨w.heap.size+1,0,none⟩)]) (by simp[results,results90,go_sem]) rfl ⟨rfl,rfl⟩
def OG{K1 K2 K3:Nat}{cs1 cs2 cs3:Array Value}:Calls prog 182 #[.func (.func K1) #[] cs1,.func (.func K2) #[] cs2,.func (.func K3) #[] cs3] w fun e u=>e=.returned (.func (.func 234) #[] #[aA (w.heap.size),aA (w.heap.size+1),aA (w.heap.size+1+1)])/\u=(((w.alloc (.cells #[.func (.func K1) #[] cs1] aW)).alloc (.cells #[.func (.func K2) #[] cs2] aW)).alloc (.cells #[.func (.func K3) #[] cs3] aW)):=by
 unfold aA;go_enter func182,ntmps182;go_wp2;refine bodyPost_ret (v:=.func (.func 234) #[] #[.pointer (some ⟨w.heap.size,0,none⟩),.pointer (some ⟨w.heap.size+1,0,none⟩),.pointer (some ⟨w.heap.size+1+1,0,none⟩)]) (by simp[results,results182,go_sem]) rfl ⟨rfl,rfl⟩
def UJ{K1 K2:Nat}{cs1 cs2:Array Value}:Calls prog 181 #[.func (.func 55) #[aA mb] #[],.func (.func K1) #[] cs1,.func (.func K2) #[] cs2] w fun e u=>e=.returned (.func (.func 231) #[] #[aA (w.heap.size+1),aA (w.heap.size+1+1),aA (w.heap.size)])/\u=(((w.alloc (.cells #[.func (.func 55) #[aA mb] #[]] 1)).alloc (.cells #[.func (.func K1) #[] cs1] aW)).alloc (.cells #[.func (.func K2) #[] cs2] aW)):=by
 unfold aA;go_enter func181,ntmps181;go_wp2;refine bodyPost_ret (v:=.func (.func 231) #[] #[.pointer (some ⟨w.heap.size+1,0,none⟩),.pointer (some ⟨w.heap.size+1+1,0,none⟩),.pointer (some ⟨w.heap.size,0,none⟩)]) (by simp[results,results181,go_sem]) rfl ⟨rfl,rfl⟩
def Al{K1 K2:Nat}{cs1 cs2:Array Value}{Ko:Nat}:Calls prog 185 #[.func (.func Ko) #[] #[],.func (.func K1) #[] cs1,.func (.func K2) #[] cs2] w fun e u=>e=.returned (.func (.func 241) #[] #[aA (w.heap.size+1),aA (w.heap.size+1+1),aA (w.heap.size)])/\u=(((w.alloc (.cells #[.func (.func Ko) #[] #[]] pD)).alloc (.cells #[.func (.func K1) #[] cs1] aW)).alloc (.cells #[.func (.func K2) #[] cs2] aW)):=by
 unfold aA;go_enter func185,ntmps185;go_wp2;refine bodyPost_ret (v:=.func (.func 241) #[] #[.pointer (some ⟨w.heap.size+1,0,none⟩),.pointer (some ⟨w.heap.size+1+1,0,none⟩),.pointer (some ⟨w.heap.size,0,none⟩)]) (by simp[results,results185,go_sem]) rfl ⟨rfl,rfl⟩
def vD{t:TypeId}{v:Value}:Calls prog 88 #[.iface t v] w fun e u=>e=.returned (.func (.func 125) #[] #[aA (w.heap.size)])/\u=(w.alloc (.cells #[.iface t v] bL)):=by
 unfold aA;go_enter func88,ntmps88;go_wp2;refine bodyPost_ret (v:=.func (.func 125) #[] #[.pointer (some ⟨w.heap.size,0,none⟩)]) (by simp[results,results88,go_sem]) rfl ⟨rfl,rfl⟩
def zE{n:Int}:Calls prog 129 #[.int .i64 n] w fun e u=>e=.returned (.func (.func 169) #[] #[aA (w.heap.size)])/\u=(w.alloc (.cells #[.int .i64 n] 3)):=by
 unfold aA;go_enter func129,ntmps129;go_wp2;refine bodyPost_ret (v:=.func (.func 169) #[] #[.pointer (some ⟨w.heap.size,0,none⟩)]) (by simp[results,results129,go_sem]) rfl ⟨rfl,rfl⟩
end
section
variable {w w':World}{nb:Nat}{txt:Nm}
def AB.AD.snoc{w:World}:∀{ps:List Nd}{l:List Nat}{p:Nd}{b:Nat},AB.AD w ps l->AB w p b->AB.AD w (ps++[p]) (l++[b]):=by
 intro ps
 induction ps with
 |nil=>intro l p b h hp;cases l with
  |nil=>rw[nil_append,nil_append,AB.AD];exact⟨hp,by simp[AB.AD]⟩
  |cons=>simp[AB.AD]at h
 |cons q r ih=>intro l p b h hp;cases l with
  |nil=>simp[AB.AD]at h
  |cons c l=>rw[AB.AD]at h;rw[cons_append,cons_append,AB.AD];exact⟨h.1,ih h.2 hp⟩
def oV(kk:Nat)(ps:List Nd)(w:World)(i:Nat)(v:Value)(wr:World):Prop:=
 ∃l:List Nat,wr.ownsRow w.heap.size aH 1 v l.length (l.map aA)/\AB.AD w (only kk (ps.take i)) l/\l.length<=i/\Kn (fun _=>False) w wr
def oV.skip{kk i:Nat}{ps:List Nd}{v:Value}{wr:World}{p:Nd}(h:oV kk ps w i v wr)(hp:ps[i]?=some p)(hk:p.k≠kk):oV kk ps w (i+1) v wr:=by
 obtain⟨l,h1,h2,h3,h4⟩:=h;refine⟨l,h1,?_,by omega,h4⟩;rw[take_add_one,hp];unfold only at *;rw[List.filter_append];have:(toList (some p)).filter (fun n=>n.k==kk)=[]:=by simp[toList,hk]
 rw[this,append_nil];exact h2
def oV.put{kk i b:Nat}{ps:List Nd}{v:Value}{wr:World}{p:Nd}(h:oV kk ps w i v wr)(hp:ps[i]?=some p)(hk:p.k=kk)(hm:AB w p b)(hi:i<=1000000) :
  ∃l:List Nat,wr.ownsRow w.heap.size aH 1 v l.length (l.map aA)/\l.length<=100000000/\w.heap.size<=wr.heap.size/\∀v' w2,w2.ownsRow w.heap.size aH 1 v' (l++[b]).length ((l++[b]).map aA)->(wr.alloc (.cells #[.pointer (some ⟨b,0,none⟩)] aH)).grownBy w2 v.ownBlock->oV kk ps w (i+1) v' w2:=by
 obtain⟨l,h1,h2,h3,h4⟩:=h;refine⟨l,h1,by omega,h4.size,fun v' w2 ho hg=>⟨l++[b],ho,?_,by simp;omega,(h4.alloc _).grown hg fun q hq=>inr (h1.lt q hq).1⟩⟩;rw[take_add_one,hp];unfold only at *;rw[List.filter_append];have:(toList (some p)).filter (fun n=>n.k==kk)=[p]:=by simp[toList,hk]
 rw[this];exact h2.snoc hm
def jK{k kk:Nat}{ps:List Nd}(h:AB w (.mk k txt ps) nb)(hp:ps.length<=1000000)(Qa:∀p∈ps,p.k<=1000)(Vb:kk<=1000) :
  Calls prog 21 #[aA nb,.int .i64 kk] w fun e w'=>∃a n c,e=.returned (.slice a n c)/\∃l,w'.ownsRow w.heap.size aH 1 (.slice a n c) l.length (l.map aA)/\AB.AD w' (only kk ps) l/\Kn (fun _=>False) w w':=by
 obtain⟨pv,bl,n1,n2,n3⟩:=h.inv;have c2:w.cell? ⟨nb,2,none⟩=some pv:=by simp[cell?,n1]
 have Jm:=n3.len;have Ob:=bI n2
 obtain⟨a,cap,rfl,ha⟩:∃a cap,pv=.slice a bl.length cap/\(0<bl.length->∃g,a=some ⟨g,0,none⟩):=by
  rcases aD n2 with⟨h,h0⟩|⟨g,cap,h⟩
  ·exact⟨none,0,by rw[h,h0],fun h=>by omega⟩
  ·exact⟨_,cap,h,fun _=>⟨g,rfl⟩⟩
 have Jz:oV kk ps w 0 (.slice none 0 0) w:=⟨[],⟨rfl,inl ⟨rfl,rfl⟩⟩,by simp[only,AB.AD],le_refl _,Kn.refl _ _⟩
 have Kp:∀i v wr p,oV kk ps w i v wr->ps[i]?=some p->∃g b,a=some ⟨g,0,none⟩/\wr.cell? ⟨g,i,none⟩=some (aA b)/\g<wr.heap.size/\wr.cell? ⟨b,0,none⟩=some (.int .i64 p.k)/\AB w p b:=by
  intro i v wr p Kl Rn;obtain⟨b,hb,hm⟩:=n3.at Rn;have hi:=(List.getElem?_eq_some_iff.1 hb).1;obtain⟨g,rfl⟩:=ha (by omega);obtain⟨l,h1,h2,h3,h4⟩:=Kl;have Jn:wr.ownsRow 0 aH 1 (.slice (some ⟨g,0,none⟩) bl.length cap) bl.length (bl.map aA):=aE n2 fun q c f _ hc=>h4.block q (aB hc) fun h=>h;refine⟨g,b,rfl,?_,(Jn.lt g rfl).2,?_,hm⟩
  ·rw[Jn.cellAt i (by omega),getElem?_map,hb];rfl
  ·obtain⟨pk,pt,pp⟩:=p;obtain⟨pv2,bl2,m1,_,_⟩:=hm.inv;have:wr.heap[b]?=w.heap[b]?:=h4.block b (aB m1) fun h=>h;simp[cell?,this,m1]
 have Mm:∀i v wr,oV kk ps w i v wr->∃a n c,v=.slice a n c:=by
  rintro i v wr⟨l,h1,_⟩;rcases aD h1 with⟨h,_⟩|⟨g,cap,h⟩
  ·exact⟨_,_,_,h⟩
  ·exact⟨_,_,_,h⟩
 have Jp:∀a n c wr,oV kk ps w ps.length (.slice a n c) wr->∃l,wr.ownsRow w.heap.size aH 1 (.slice a n c) l.length (l.map aA)/\AB.AD wr (only kk ps) l/\Kn (fun _=>False) w wr:=by
  rintro a n c wr⟨l,h1,h2,h3,h4⟩;rw[take_length]at h2;exact⟨l,h1,h2.kept (fun k c f hc=>h4.block k (aB hc) fun h=>h) (fun k c f hc=>h4.block k (aB hc) fun h=>h),h4⟩
 have Oa:=fun(i:Nat) (v:Value) (wr:World) (p:Nd) (b:Nat) (h:oV kk ps w i v wr) (hp:ps[i]?=some p) (hk:p.k=kk) (hm:AB w p b)=>h.put hp hk hm (by have:=(List.getElem?_eq_some_iff.1 hp).1;omega);have A0:=fun(i:Nat) (v:Value) (wr:World) (p:Nd) (h:oV kk ps w i v wr) (hp:ps[i]?=some p) (hk:p.k≠kk)=>h.skip hp hk;have Km:=aC Jz;have Ku:=aC Kp;have Qb:=aC Mm;have Kk:=aC Jp;have Rq:=aC Oa;have Vj:=aC A0;have j7:=aC Qa;generalize hQ:(fun(e:Ending) (w':World)=>∃a n c,e=.returned (.slice a n c)/\∃l,w'.ownsRow w.heap.size aH 1 (.slice a n c) l.length (l.map aA)/\AB.AD w' (only kk ps) l/\Kn (fun _=>False) w w')=Q;have hq:∀a n c wr,oV kk ps w ps.length (.slice a n c) wr->Q (.returned (.slice a n c)) wr:=fun a n c wr h=>by rw[<- hQ];exact⟨a,n,c,rfl,Jp a n c wr h⟩
 have HQ:=aC hq;clear hq hQ Kk Jz Kp Mm Jp Oa A0 Qa n1 n2 n3 h ha;rw[Jm]at *;generalize hOA:oV kk ps w=OA at *;generalize A6:ps.length=pn at *;unfold aA at *;go_enter func21,ntmps21;go_wp2_with fail;clear hOA
 go_loopg [5,13] pn (fun gk v5 v13 wr=>∃i,v13=.int .i64 (i:Nat)/\i+gk=pn/\Hid (OA i v5 wr))
 case atStart=>exact⟨0,rfl,by omega,Km⟩
 case round=>
  clear Km;obtain⟨i,rfl,hi,Kd⟩:=hrel;obtain⟨av,nv,cv,rfl⟩:=Qb.out _ _ _ Kd.out
  by_cases Js:i<pn
  ·have Lc:i<ps.length:=by omega
   have Rn:ps[i]?=some ps[i]:=getElem?_eq_getElem Lc;have E3:=j7.out _ (mem_of_getElem? Rn);generalize ps[i]=p at Rn E3;obtain⟨gg,b,rfl,e1,e2,e3,hm⟩:=Ku.out _ _ _ p Kd.out Rn;have Jt:(i:Int)<(pn:Int):=by omega
   by_cases hk:p.k=kk
   ·obtain⟨l,Jr,Rf,Ke,E2⟩:=Rq.out _ _ _ p b Kd.out Rn hk hm;have HP:=aC E2;subst hk;clear E2 Rq Vj Ku Qb Kd HQ j7 hm Rn;generalize p.k=pk at *
    go_wp2_with (at_builtin;refine JY rfl _ _ rfl b Jr Rf Ke rfl rfl ?_)
    intro v' w2 ho Vw HL;have ho:w2.ownsRow w.heap.size aH 1 v' (l++[b]).length ((l++[b]).map aA):=by rw[length_append,map_append];exact ho
    have HF:=aC (HP.out v' w2 ho Vw)
    obtain⟨g',cap',rfl⟩:∃g' cap',v'=.slice (some ⟨g',0,none⟩) (l++[b]).length cap':=by
     rcases aD ho with⟨_,Ou⟩|h
     ·simp at Ou
     ·exact h
    clear ho Vw HL HP Jr;generalize (l++[b]).length=jn at *;go_wp2_with fail
    go_roundg (pn-(i+1))
    case rel=>exact⟨i+1,by simp,by omega,HF⟩
    case measure=>omega
   ·have HF:=aC (Vj.out _ _ _ p Kd.out Rn hk);have Le:¬(p.k:Int)=(kk:Int):=by omega
    clear Rq Vj Ku Qb Kd HQ j7 hm Rn hk;generalize p.k=pk at *;go_wp2_with fail
    go_roundg (pn-(i+1))
    case rel=>exact⟨i+1,by simp,by omega,HF⟩
    case measure=>omega
  ·have Kg:i=pn:=by omega
   subst Kg;have Jt:¬(i:Int)<(i:Int):=by omega
   have HG:=aC (HQ.out _ _ _ _ Kd.out);clear Rq Vj Ku Qb Kd HQ j7;go_wp2;exact HG.out
end
def GA:prog.underlying 22=some (.slice aI):=by kernel_rfl
def vI:(prog.info? aI).map (fun i=>(i.zero,i.size,i.bytes))=some (some (.string ⟨#[]⟩),1,16):=by kernel_rfl
def iA{w:World}{base:Nat}{v:Value}{ns:List Nm}{ty:TypeId}(k:Nm)(Jr:w.ownsRow base aI 1 v ns.length (ns.map bM))(hn:ns.length<=100000000)(hb:base<=w.heap.size) :
  ∃v' w',(Builtin.append_ #[22,22] ty #[v,.slice (some ⟨w.heap.size,0,none⟩) 1 1]).run prog (w.alloc (.cells #[.string (bs k)] aI))=.ok v' w' /\
   w'.ownsRow base aI 1 v' (ns++[k]).length ((ns++[k]).map bM)/\(w.alloc (.cells #[.string (bs k)] aI)).grownBy w' v.ownBlock:=by
 rw[length_append,map_append];obtain⟨v',w',h1,h2,h3,_⟩:=gG (z:=.string (bs k)) (ty:=ty) GA vI (by decide) rfl rfl Jr hn hb;exact⟨v',w',h1,h2,h3⟩
def QO{ops:Array Oper}{rest:List Oper}{o:Oper}{a:Act}{Q:Exit->Act->World->Prop}{w:World}(Vx:o.guard=none)(s x:Operand)
  (ho:o.op=.call { callee:=.builtin .append,args:=#[s,x],argTypes:=#[22,22] }) {base:Nat}{v:Value}{ns:List Nm} (k:Nm)
  (Jr:w.ownsRow base aI 1 v ns.length (ns.map bM)) (hn:ns.length<=100000000) (hb:base<=w.heap.size) (hs:a.eval s=v) (hx:a.eval x=.slice (some ⟨w.heap.size,0,none⟩) 1 1)
  (h:∀v' w',w'.ownsRow base aI 1 v' (ns++[k]).length ((ns++[k]).map bM)->(w.alloc (.cells #[.string (bs k)] aI)).grownBy w' v.ownBlock->wpList prog ops Q rest (a.put o.dst v') w') :
  wpList prog ops Q (o::rest) a (w.alloc (.cells #[.string (bs k)] aI)):=by
 obtain⟨v',w',hr,h2,h3⟩:=iA (ty:=o.type) k Jr hn hb;refine wpList_plain Vx fun K hK=>?_;unfold Oper.wp execOp;simp only[ho,resolve,invoke,builtin,Sem.run_bind,Sem.run_pure,Result.andThen_ok,List.map_toArray,map_cons,List.map_nil,hs,hx,hr];exact hK _ _ (h v' w' h2 h3)
section
variable {w w':World}
def QU(nds:List Nd)(w:World)(i:Nat)(v:Value)(wr:World):Prop:=
 ∃ns:List Nm,ns=(nds.take i).map Nd.txt/\wr.ownsRow w.heap.size aI 1 v ns.length (ns.map bM)/\Kn (fun _=>False) w wr
def lO{a:Option Addr}{n c:Nat}{nds:List Nd}{l:List Nat}(hr:w.ownsRow 0 aH 1 (.slice a n c) l.length (l.map aA))(hm:AB.AD w nds l)(hn:nds.length<=1000000) :
  Calls prog 73 #[.slice a n c] w fun e w'=>∃a' c',e=.returned (.slice a' nds.length c')/\w'.ownsRow w.heap.size aI 1 (.slice a' nds.length c') nds.length ((nds.map Nd.txt).map bM)/\Kn (fun _=>False) w w':=by
 have Jm:=hm.len
 obtain⟨rfl,ha⟩:n=l.length/\(0<l.length->∃g,a=some ⟨g,0,none⟩):=by
  rcases aD hr with⟨h,h0⟩|⟨g,cap,h⟩
  ·cases h;exact⟨h0.symm,fun h=>by omega⟩
  ·cases h;exact⟨rfl,fun _=>⟨g,rfl⟩⟩
 have Ob:=bI hr;have Jz:QU nds w 0 (.slice none 0 0) w:=⟨[],by simp,⟨rfl,inl ⟨rfl,rfl⟩⟩,Kn.refl _ _⟩
 have Kp:∀i v wr,QU nds w i v wr->i<nds.length->∃(g b:Nat) (tx:Nm),a=some ⟨g,0,none⟩/\wr.cell? ⟨g,i,none⟩=some (aA b)/\g<wr.heap.size/\wr.cell? ⟨b,1,none⟩=some (.string (bs tx))/\∃ns:List Nm,wr.ownsRow w.heap.size aI 1 v ns.length (ns.map bM)/\ns.length<=100000000/\w.heap.size<=wr.heap.size /\
   ∀v' w2,w2.ownsRow w.heap.size aI 1 v' (ns++[tx]).length ((ns++[tx]).map bM)->(wr.alloc (.cells #[.string (bs tx)] aI)).grownBy w2 v.ownBlock->QU nds w (i+1) v' w2:=by
  rintro i v wr⟨ns,h1,h2,h4⟩ hi;have Rn:nds[i]?=some nds[i]:=getElem?_eq_getElem hi;have Lo:(nds.take (i+1)).map Nd.txt=(nds.take i).map Nd.txt++[nds[i].txt]:=by rw[List.take_succ_eq_append_getElem hi,map_append];rfl
  obtain⟨b,hb,Mp⟩:=hm.at Rn;generalize nds[i]=p at Rn Lo Mp;obtain⟨g,rfl⟩:=ha (by omega);have Jn:wr.ownsRow 0 aH 1 (.slice (some ⟨g,0,none⟩) l.length c) l.length (l.map aA):=aE hr fun q c f _ hc=>h4.block q (aB hc) fun h=>h;refine⟨g,b,p.txt,rfl,?_,(Jn.lt g rfl).2,?_,ns,h2,?_,h4.size,fun v' w2 ho hg=>⟨ns++[p.txt],by rw[Lo,h1],ho,(h4.alloc _).grown hg fun q hq=>inr (h2.lt q hq).1⟩⟩
  ·rw[Jn.cellAt i (by omega),getElem?_map,hb];rfl
  ·obtain⟨pk,pt,pp⟩:=p;obtain⟨pv2,bl2,m1,_,_⟩:=Mp.inv;have:wr.heap[b]?=w.heap[b]?:=h4.block b (aB m1) fun h=>h;simp[cell?,this,m1]
  ·rw[h1,length_map,List.length_take];omega
 have Mm:∀i v wr,QU nds w i v wr->∃a n c,v=.slice a n c:=by
  rintro i v wr⟨l,_,h1,_⟩;rcases aD h1 with⟨h,_⟩|⟨g,cap,h⟩
  ·exact⟨_,_,_,h⟩
  ·exact⟨_,_,_,h⟩
 generalize hQ:(fun(e:Ending) (w':World)=>∃a' c',e=.returned (.slice a' nds.length c')/\w'.ownsRow w.heap.size aI 1 (.slice a' nds.length c') nds.length ((nds.map Nd.txt).map bM)/\Kn (fun _=>False) w w')=Q
 have hq:∀a n c wr,QU nds w nds.length (.slice a n c) wr->Q (.returned (.slice a n c)) wr:=fun a n c wr ⟨ns,h1,h2,h4⟩=>by
  rw[<- hQ];rw[take_length]at h1;subst h1;have hl:((nds.map Nd.txt)).length=nds.length:=length_map _;rw[hl]at h2
  obtain rfl:n=nds.length:=by
   rcases aD h2 with⟨h,h0⟩|⟨g,cap,h⟩
   ·cases h;exact h0.symm
   ·cases h;rfl
  exact⟨a,c,rfl,h2,h4⟩
 have Km:=aC Jz;have Ku:=aC Kp;have Qb:=aC Mm;have HQ:=aC hq;clear Jz Kp Mm hq hQ hr hm ha;rw[Jm]at *;generalize QU nds w=OA at *;generalize A6:nds.length=pn at *;unfold aA at *;go_enter func73,ntmps73;go_wp2_with fail
 go_loopg [3,8] pn (fun gk v3 v8 wr=>∃i,v8=.int .i64 (i:Nat)/\i+gk=pn/\Hid (OA i v3 wr))
 case atStart=>exact⟨0,rfl,by omega,Km⟩
 case round=>
  clear Km;obtain⟨i,rfl,hi,Kd⟩:=hrel;obtain⟨av,nv,cv,rfl⟩:=Qb.out _ _ _ Kd.out
  by_cases Js:i<pn
  ·obtain⟨g,b,tx,rfl,e1,e2,e3,ns,Jr,Rf,Ke,E2⟩:=Ku.out _ _ _ Kd.out Js;have HP:=aC E2;have Jt:(i:Int)<(pn:Int):=by omega
   clear E2 Ku Qb Kd HQ
   go_wp2_with (at_builtin;refine QO rfl _ _ rfl tx Jr Rf Ke rfl rfl ?_)
   intro v' w2 ho Vw;have ho:w2.ownsRow w.heap.size aI 1 v' (ns++[tx]).length ((ns++[tx]).map bM):=by rw[length_append,map_append];exact ho
   have HF:=aC (HP.out v' w2 ho Vw)
   obtain⟨g',cap',rfl⟩:∃g' cap',v'=.slice (some ⟨g',0,none⟩) (ns++[tx]).length cap':=by
    rcases aD ho with⟨_,Ou⟩|h
    ·simp at Ou
    ·exact h
   clear ho Vw HP Jr;generalize (ns++[tx]).length=jn at *;go_wp2_with fail
   go_roundg (pn-(i+1))
   case rel=>exact⟨i+1,by simp,by omega,HF⟩
   case measure=>omega
  ·have Kg:i=pn:=by omega
   subst Kg;have Jt:¬(i:Int)<(i:Int):=by omega
   have HG:=aC (HQ.out _ _ _ _ Kd.out);clear Ku Qb Kd HQ;go_wp2;exact HG.out
end
section
variable {ad:List Nat}{A:Env}{tb:Nat}{w w':World}{nb:Nat}{txt:Nm}
def Tab.put(h:Tab ad tb A w){x:Ky}(hx:cL x){m:Mg}{v:Value}(hv:fE ad w m v):∃w',(mapUpdate dA (.map (some tb)) (.agg #[.int .i64 x.1,.string (bs x.2)]) v).run prog w=.ok () w'/\Tab ad tb ((x,m)::A) w'/\w.mapTurned w' tb:=by
 obtain⟨n,f,h1,h2⟩:=h;obtain⟨w',Jo,hm,ht⟩:=h1.store jZ iR (v:=v) hx trivial (fun _ _=>trivial);refine⟨w',Jo,⟨_,_,hm,fun y hy=>?_⟩,ht⟩;rw[Env.get]
 by_cases Nz:y=x
 ·rw[if_pos Nz];simp only[if_pos Nz];exact inr ⟨m,v,rfl,rfl,hv.AM ht⟩
 ·rw[if_neg Nz];simp only[if_neg Nz];rcases h2 y hy with h3|⟨m',v',h3,h4,h5⟩
  ·exact inl h3
  ·exact inr ⟨m',v',h3,h4,h5.AM ht⟩
def Tab.stays(h:Tab ad tb A w)(hk:Kn (fun _=>False) w w'):Tab ad tb A w':=by
 obtain⟨n,f,h1,_⟩:=id h;have:=h.kept (l:=[]) (w':=w') (hk.block tb h1.lt id) (fun k c f hc=>hk.block k (aB hc) id) (fun k c f hc=>hk.block k (aB hc) id) (fun k c f hc=>hk.block k (aB hc) id);rw[append_nil]at this;exact this
def Kn.cell{D:Nat->Prop}(hk:Kn D w w'){b i:Nat}{v:Value}(hd:¬D b)(h:w.cell? ⟨b,i,none⟩=some v):w'.cell? ⟨b,i,none⟩=some v:=by
 have hb:b<w.heap.size:=by
  cases hh:w.heap[b]? with
  |none=>simp[cell?,hh]at h
  |some o=>exact aB hh
 unfold cell? at *;rw[hk.block b hb hd];exact h
def pK(n:Nat)(w:World):fE ad w (Mg.type n) (.agg #[.pointer none,.string ⟨#[]⟩,.slice none 0 0,.slice none 0 0,.int .i64 0,.int .i64 n]):=
 ⟨.slice none 0 0,.slice none 0 0,[],rfl,(fun t' e=>by simp[Mg.type]at e),ownsRow_nil _ _ _ _,ownsRow_nil _ _ _ _,by simp[Mg.type,Vr.zero,AB.AD]⟩
def sW(txt:Nm)(ls:List Nm)(k:Nat)(A:Env)(vs:List Nd):Env:=vs.foldl (fun A v=>(((1,v.txt),Mg.con ⟨txt,ls,v.ps,k⟩)::A:Env)) A
def EL(ls:List Nm)(k:Nat)(vs:List Nd)(v:Nd):sW txt ls k A (vs++[v])=((1,v.txt),Mg.con ⟨txt,ls,v.ps,k⟩)::sW txt ls k A vs:=by
 unfold sW;rw[List.foldl_append];rfl
def VX{k:Nat}{ps:List Nd}(h:Tab ad tb A w)(hn:AB w (.mk k txt ps) nb)(hp:ps.length<=1000000)(Qa:∀p∈ps,p.k<=1000)(hx:txt.length<=100000000)(Ux:∀p∈ps,p.txt.length<=100000000) :
  Calls prog 21 #[aA nb,.int .i64 (19:Nat)] w fun e u1=>∃a n c,e=.returned (.slice a n c)/\Calls prog 73 #[.slice a n c] u1 fun e u2=>∃a1 n1 c1,e=.returned (.slice a1 n1 c1)/\n1<=9223372036854775807 /\
   Calls prog 21 #[aA nb,.int .i64 (20:Nat)] u2 fun e u3=>∃a2 n2 c2,e=.returned (.slice a2 n2 c2)/\n2<=9223372036854775807/\∃DT:Nat->World->Prop,(∀u,Kn (fun _=>False) u3 u->u.cell? ⟨nb,1,none⟩=some (.string (bs txt))/\∃u4,(mapUpdate dA (.map (some tb)) (.agg #[.int .i64 2,.string (bs txt)]) (.agg #[.pointer none,.string ⟨#[]⟩,.slice none 0 0,.slice none 0 0,.int .i64 0,.int .i64 n1])).run prog u=.ok () u4/\u4.cell? ⟨nb,1,none⟩=some (.string (bs txt))/\Hid (DT 0 u4)) /\
    (∀i wr,DT i wr->i<n2->∃g b tx a3 n3 c3,a2=some ⟨g,0,none⟩/\wr.cell? ⟨g,i,none⟩=some (aA b)/\g<wr.heap.size/\∀u,Kn (fun _=>False) wr u->(u.cell? ⟨b,1,none⟩=some (.string tx)/\u.cell? ⟨b,2,none⟩=some (.slice a3 n3 c3)/\u.cell? ⟨nb,1,none⟩=some (.string (bs txt)))/\∃u2,(mapUpdate dA (.map (some tb)) (.agg #[.int .i64 1,.string tx]) (.agg #[.pointer none,.string (bs txt),.slice a1 n1 c1,.slice a3 n3 c3,.int .i64 n2,.int .i64 0])).run prog u=.ok () u2/\(u2.cell? ⟨b,1,none⟩=some (.string tx)/\u2.cell? ⟨b,2,none⟩=some (.slice a3 n3 c3)/\u2.cell? ⟨nb,1,none⟩=some (.string (bs txt)))/\Hid (DT (i+1) u2)) /\
    ∀wr,DT n2 wr->Tab ad tb (cA A txt ps) wr/\Kn (·=tb) w wr:=by
 have Z3:∀{kk:Nat}{x:Nd},x∈only kk ps->x∈ps:=fun hx=>(List.mem_filter.1 hx).1;have Xg:∀kk,(only kk ps).length<=1000000:=fun kk=>le_trans (List.length_filter_le _ _) hp;refine(jK hn hp Qa (by decide)).mono ?_;rintro e u1⟨a,n,c,rfl,l,o1,o2,o3⟩;refine⟨a,n,c,rfl,(lO (bN o1 (zero_le _)) o2 (Xg 19)).mono ?_⟩;rintro e u2⟨a1,c1,rfl,t2,t3⟩;have Jy:Kn (fun _=>False) w u2:=o3.trans t3;have Pj:AB u2 (.mk k txt ps) nb:=AB.kept (fun k c f hc=>Jy.block k (aB hc) id) (fun k c f hc=>Jy.block k (aB hc) id) _ nb hn;refine⟨a1,_,c1,rfl,bI t2,(jK Pj hp Qa (by decide)).mono ?_⟩;rintro e u3⟨a2,n2,c2,rfl,l2,p1,p2,p3⟩;have Mb:=p2.len
 obtain⟨rfl,Qk⟩:n2=l2.length/\(0<l2.length->∃g',a2=some ⟨g',0,none⟩):=by
  rcases aD p1 with⟨h,h0⟩|⟨g,cap,h⟩
  ·cases h;exact⟨h0.symm,fun h=>by omega⟩
  ·cases h;exact⟨rfl,fun _=>⟨g,rfl⟩⟩
 have Le:Kn (fun _=>False) w u3:=Jy.trans p3;have ht3:=h.stays Le;have Va:AB u3 (.mk k txt ps) nb:=AB.kept (fun k c f hc=>Le.block k (aB hc) id) (fun k c f hc=>Le.block k (aB hc) id) _ nb hn;obtain⟨pvn,bln,nn1,_,_⟩:=Va.inv;have Zk:∀u:World,u.heap[nb]?=u3.heap[nb]?->u.cell? ⟨nb,1,none⟩=some (.string (bs txt)):=fun u hu=>by simp[cell?,hu,nn1]
 obtain⟨nm,fm,hmt,_⟩:=id ht3
 have hnbt:nb≠tb:=fun e=>by
  obtain⟨es,cl,hb,_⟩:=hmt;subst e;rw[nn1]at hb;cases hb
 refine⟨a2,_,c2,rfl,bI p1,fun i wr=>Tab ad tb (sW txt ((only 19 ps).map Nd.txt) (only 20 ps).length (((2,txt),Mg.type ((only 19 ps).map Nd.txt).length)::A) ((only 20 ps).take i)) wr/\Kn (·=tb) u3 wr,fun u hu=>?_,?_,?_⟩
 ·obtain⟨u4,r1,r2,r3⟩:=(ht3.stays hu).put (x:=(2,txt)) ⟨show 2<3 by decide,hx⟩ (pK (only 19 ps).length u);have Mr:Kn (·=tb) u3 u4:=(hu.wide fun _ _ h=>h.elim).AM r3 (inl rfl);refine⟨Zk u (hu.block nb (aB nn1) id),u4,r1,Zk u4 (Mr.block nb (aB nn1) hnbt),aC ⟨?_,Mr⟩⟩
  have:sW txt ((only 19 ps).map Nd.txt) (only 20 ps).length (((2,txt),Mg.type ((only 19 ps).map Nd.txt).length)::A) ((only 20 ps).take 0)=((2,txt),Mg.type (only 19 ps).length)::A:=by
   rw[List.take_zero,length_map];rfl
  rw[this];exact r2
 ·rintro i wr⟨y1,y2⟩ hi;have o5:(only 20 ps)[i]?=some (only 20 ps)[i]:=getElem?_eq_getElem (by omega);have Jv:=mem_of_getElem? o5;have Lo:(only 20 ps).take (i+1)=(only 20 ps).take i++[(only 20 ps)[i]]:=List.take_succ_eq_append_getElem (by omega);obtain⟨b,hb,hm⟩:=p2.at o5;generalize (only 20 ps)[i]=v at o5 Jv Lo hm;obtain⟨vk,vt,vps⟩:=v;obtain⟨g,rfl⟩:=Qk (by omega);obtain⟨pv,vbl,v1,v2,v3⟩:=hm.inv
  obtain⟨a3,n3,c3,rfl⟩:∃a n c,pv=.slice a n c:=by
   rcases aD v2 with⟨h,_⟩|⟨g,cap,h⟩
   ·exact⟨_,_,_,h⟩
   ·exact⟨_,_,_,h⟩
  have Lr:∀(q:Nat)(c:Array Value)(t:TypeId)(f:Nat×Nat),u3.heap[q]?=some (.cells c t f)->q≠tb:=fun q c t f hc e=>by
   obtain⟨es,cl,hb,_⟩:=hmt;subst e;rw[hc]at hb;cases hb
  have Nq:∀{u:World},Kn (·=tb) u3 u->∀(q:Nat)(c:Array Value)(t:TypeId)(f:Nat×Nat),u3.heap[q]?=some (.cells c t f)->u.heap[q]?=u3.heap[q]?:=fun hk q c t f hc=>hk.block q (aB hc) (Lr q c t f hc);have Jn:wr.ownsRow 0 aH 1 (.slice (some ⟨g,0,none⟩) l2.length c2) l2.length (l2.map aA):=aE (bN p1 (zero_le _)) fun q c f _ hc=>Nq y2 q c _ f hc
  have Mn:∀u:World,Kn (·=tb) u3 u->u.cell? ⟨b,1,none⟩=some (.string (bs vt))/\u.cell? ⟨b,2,none⟩=some (.slice a3 n3 c3)/\u.cell? ⟨nb,1,none⟩=some (.string (bs txt)):=fun u hu=>by
   have e1:=Nq hu b _ _ _ v1;have e2:=Nq hu nb _ _ _ nn1;exact⟨by simp[cell?,e1,v1],by simp[cell?,e1,v1],by simp[cell?,e2,nn1]⟩
  refine⟨g,b,bs vt,a3,n3,c3,rfl,?_,(Jn.lt g rfl).2,fun u hu=>?_⟩
  ·rw[Jn.cellAt i (by omega),getElem?_map,hb];rfl
  ·have Nn:Kn (·=tb) u3 u:=y2.trans (hu.wide fun _ _ h=>h.elim)
   have s8:u.ownsRow 0 aI 1 (.slice a1 (only 19 ps).length c1) ((only 19 ps).map Nd.txt).length (((only 19 ps).map Nd.txt).map bM):=by
    rw[length_map];refine aE (bN t2 (zero_le _)) fun q c f _ hc=>?_;have e1:u3.heap[q]?=u2.heap[q]?:=p3.block q (aB hc) id;rw[Nq Nn q c _ f (e1.trans hc),e1]
   have P0:fE ad u (Mg.con ⟨txt,(only 19 ps).map Nd.txt,vps,l2.length⟩) (.agg #[.pointer none,.string (bs txt),.slice a1 (only 19 ps).length c1,.slice a3 n3 c3,.int .i64 l2.length,.int .i64 0]):=
    ⟨_,_,vbl,rfl,(fun t e=>by simp[Mg.con]at e),s8,aE v2 fun q c f _ hc=>Nq Nn q c _ f hc,v3.kept (fun q c f hc=>Nq Nn q c _ f hc) (fun q c f hc=>Nq Nn q c _ f hc)⟩
   obtain⟨u4,r1,r2,r3⟩:=(y1.stays hu).put (x:=(1,vt)) ⟨show 1<3 by decide,Ux _ (Z3 Jv)⟩ P0;have Mr:Kn (·=tb) u3 u4:=Nn.AM r3 (inl rfl);refine⟨Mn u Nn,u4,r1,Mn u4 Mr,aC ⟨?_,Mr⟩⟩;rw[Lo,EL];rw[Mb]at r2;exact r2
 ·rintro wr⟨y1,y2⟩;rw[Mb,take_length]at y1;exact⟨y1,(Le.wide fun _ _ h=>h.elim).trans y2⟩
def qT{k:Nat}{ps:List Nd}(h:Tab ad tb A w)(hn:AB w (.mk k txt ps) nb)(hp:ps.length<=1000000)(Qa:∀p∈ps,p.k<=1000)(hx:txt.length<=100000000)(Ux:∀p∈ps,p.txt.length<=100000000) :
  Calls prog 42 #[.map (some tb),aA nb] w fun e w'=>e=.returned (.tuple #[])/\Tab ad tb (cA A txt ps) w'/\Kn (·=tb) w w':=by
 have hf:=VX h hn hp Qa hx Ux;generalize hQ:(fun(e:Ending) (w':World)=>e=.returned (.tuple #[])/\Tab ad tb (cA A txt ps) w'/\Kn (·=tb) w w')=Q;have hq:∀wr,(Tab ad tb (cA A txt ps) wr/\Kn (·=tb) w wr)->Q (.returned (.tuple #[])) wr:=fun wr h=>by rw[<- hQ];exact⟨rfl,h⟩
 have HQ:=aC hq;have HF:=aC hf;have V1:=fun(s:ByteArray) (u:World)=>lY s u;have V0:=fun(s:ByteArray) (u:World)=>jG s u;have Vl:=aC V1;have Yo:=aC V0;clear hq hQ hf h hn hp Qa hx Ux V1 V0;unfold aA at *;generalize bs txt=tx at *;go_enter func42,ntmps42;go_wp2_with fail;refine(HF.out).mono ?_;rintro e u1⟨a,n,c,rfl,hc⟩;have HC:=aC hc;clear hc HF;go_wp2_with fail;refine(HC.out).mono ?_;rintro e u2⟨a1,n1,c1,rfl,Ld,hc⟩;have Oe:=aC hc;clear hc HC;go_wp2_with fail;refine(Oe.out).mono ?_;rintro e u3⟨a2,n2,c2,rfl,Pj,DT,h0,hs,he⟩;have H0:=aC h0;have HS:=aC hs;have HE:=aC he;clear h0 hs he Oe;obtain⟨cn,_⟩:=H0.out u3 (Kn.refl _ _);go_wp2_with fail;refine(Yo.out _ _).mono ?_;rintro e u4⟨rfl,rfl⟩;have hx0:=H0.out _ ((Kn.refl _ u3).alloc (.cells #[.int .i64 2,.string tx] eE));clear H0 cn;obtain⟨cn4,u5,Qd,cn5,HD⟩:=hx0;go_wp2_with fail;clear cn4 cn5 Qd
 go_loopg [24] n2 (fun gk v24 wr=>∃i,v24=.int .i64 (i:Nat)/\i+gk=n2/\Hid (DT i wr))
 case atStart=>exact⟨0,rfl,by omega,HD⟩
 case round=>
  clear HD;obtain⟨i,rfl,hi,HD⟩:=hrel
  by_cases Js:i<n2
  ·obtain⟨g,b,tv,a3,n3,c3,rfl,e1,e2,hu⟩:=HS.out _ _ HD.out Js;have Jt:(i:Int)<(n2:Int):=by omega
   have Kv:∀u o u',Kn (fun _=>False) wr u->u'=World.alloc u o->Kn (fun _=>False) wr u':=fun u o u' hu e=>by
    subst e;exact hu.alloc o
   have HV:=aC (AH wr);have HX:=aC hu;have Ni:=aC Kv;clear hu Kv HS HE HQ HD;generalize Kn (fun _=>False) wr=V at *;obtain⟨⟨c1a,c2a,c3a⟩,_⟩:=HX.out _ HV.out;go_wp2_with fail
   go_region_held3 (fun w'=>w'.cell? ⟨b,1,none⟩=some (.string tv)/\w'.cell? ⟨b,2,none⟩=some (.slice a3 n3 c3)/\w'.cell? ⟨nb,1,none⟩=some (.string tx)) (first|with_reducible exact⟨c1a,c2a,c3a⟩|with_reducible exact⟨m1a,m2a,m3a⟩)
    (first|(go_at_call 25;refine(Vl.out _ _).mono ?_;rintro e u⟨rfl,hu⟩;have HV:=aC (Ni.out _ _ _ HV.out hu);have hz:=HX.out _ HV.out;obtain⟨⟨c1a,c2a,c3a⟩,u9,Qd,⟨m1a,m2a,m3a⟩,HD⟩:=hz;clear hu))
   all_goals
    go_wp2_with fail
    go_roundg (n2-(i+1))
    case rel=>exact⟨i+1,by simp,by omega,HD⟩
    case measure=>omega
  ·have Kg:i=n2:=by omega
   subst Kg;have Jt:¬(i:Int)<(i:Int):=by omega
   have HG:=aC (HQ.out _ (HE.out _ HD.out));clear HS HE HQ HD;go_wp2;refine bodyPost_end (v:=.tuple #[]) (by simp[results,results42,go_sem]) rfl HG.out
end
abbrev gV:TypeId:=149
structure bR(ad:List Nat)(A:Env)(tb lb:Nat)(s:Lk)(w:World):Prop where
 tab:Tab ad tb A w
 lk:w.heap[lb]?=some (.cells #[.map (some tb),.bool s.wn,.bool s.wc] gV (0,0))
def fG(ad:List Nat)(A:Env)(tb lb:Nat)(s':Lk)(w:World)(e:Ending)(w':World):Prop:=
 e=.returned (.tuple #[])/\bR ad A tb lb s' w'/\Kn (fun k=>k=tb\/k=lb) w w'
def yD(ad:List Nat)(A:Env)(tb lb:Nat)(s':Lk)(w:World)(e:Ending)(w':World):Prop:=
 e=.returned (.tuple #[])/\bR ad A tb lb s' w'/\Kn (fun k=>k=lb) w w'
def yD.a{ad:List Nat}{A:Env}{tb lb:Nat}{s':Lk}{w:World}(e:Ending)(w':World)(h:yD ad A tb lb s' w e w'):fG ad A tb lb s' w e w':=⟨h.1,h.2.1,h.2.2.wide fun _ _ e=>inr e⟩
section
variable {ad:List Nat}{A:Env}{tb lb:Nat}{s:Lk}{w w':World}{nb:Nat}{txt:Nm}
def bR.stays(h:bR ad A tb lb s w)(hk:Kn (fun _=>False) w w'):bR ad A tb lb s w':=⟨h.tab.stays hk,(hk.block lb (aB h.lk) id).trans h.lk⟩
def bR.AF(h:bR ad A tb lb s w){k:Nat}{c:Array Value}{t:TypeId}{f:Nat×Nat}(hc:w.heap[k]?=some (.cells c t f)):k≠tb:=fun e=>by
 obtain⟨n,f,⟨es,cl,hb,_⟩,_⟩:=h.tab;subst e;rw[hc]at hb;cases hb
def bR.not(h:bR ad A tb lb s w){k:Nat}{c:Array Value}{t:TypeId}{f:Nat×Nat}(hc:w.heap[k]?=some (.cells c t f))(ht:t≠gV):¬(k=tb\/k=lb):=by
 rintro (e|e)
 ·exact h.AF hc e
 ·subst e;rw[h.lk]at hc;exact ht (aN hc).symm
def bR.tree(h:bR ad A tb lb s w)(hk:Kn (fun k=>k=tb\/k=lb) w w'){nd:Nd}(hn:AB w nd nb):AB w' nd nb:=
 AB.kept (fun k c f hc=>hk.block k (aB hc) (h.not hc (by decide))) (fun k c f hc=>hk.block k (aB hc) (h.not hc (by decide))) nd nb hn
def bR.flag(h:bR ad A tb lb s w)(s':Lk){i:Nat}{v:Value}(hv:(#[map (some tb),.bool s.wn,.bool s.wc]).setIfInBounds i v=#[.map (some tb),.bool s'.wn,.bool s'.wc]):bR ad A tb lb s' (w.setCell ⟨lb,i,none⟩ v)/\Kn (fun k=>k=lb) w (w.setCell ⟨lb,i,none⟩ v):=by
 have hk:Kn (fun k=>k=lb) w (w.setCell ⟨lb,i,none⟩ v):=(Kn.refl (fun k=>k=lb) w).set (p:=⟨lb,i,none⟩) (inl rfl) v;obtain⟨n,f,h1,_⟩:=id h.tab;have hb:∀(k:Nat)(c:Array Value)(t:TypeId)(f:Nat×Nat),t≠gV->w.heap[k]?=some (.cells c t f)->(w.setCell ⟨lb,i,none⟩ v).heap[k]?=w.heap[k]?:=fun k c t f ht hc=>hk.block k (aB hc) fun e=>h.not hc ht (inr e);refine⟨⟨?_,?_⟩,hk⟩
 ·have:=h.tab.kept (l:=[]) (w':=w.setCell ⟨lb,i,none⟩ v) (Below.heap_setCell _ _ _ _ fun e=>by
   obtain⟨es,cl,hm,_⟩:=h1
   rw[e,h.lk]at hm;cases hm) (fun k c f hc=>hb k c _ f (by decide) hc) (fun k c f hc=>hb k c _ f (by decide) hc) (fun k c f hc=>hb k c _ f (by decide) hc)
  rw[append_nil]at this;exact this
 ·rw[heap_setCell_same _ _ _ _ _ _ h.lk,hv]
def nD(b:Bool)(h:bR ad A tb lb s w):Calls prog 153 #[aA lb,.bool b] w (yD ad A tb lb (s.name b) w):=by
 have c1:w.cell? ⟨lb,1,none⟩=some (.bool s.wn):=by simp[cell?,h.lk]
 have f1:w.frozen? ⟨lb,1,none⟩=false:=frozen_of_row _ _ _ _ _ h.lk;obtain⟨q1,q2⟩:=h.flag (s.name b) (i:=1) (v:=.bool (s.wn || b)) rfl;have hq:yD ad A tb lb (s.name b) w (.returned (.tuple #[])) (w.setCell ⟨lb,1,none⟩ (.bool (s.wn || b))):=⟨rfl,q1,q2⟩;have HQ:=aC hq;clear hq q1 q2 h;generalize yD ad A tb lb (s.name b) w=Q at *;generalize s.wn=x at *;unfold aA at *
 cases x with
 |true=>
  simp only[Bool.true_or]at HQ;go_enter func153,ntmps153;go_wp2;refine bodyPost_end (v:=.tuple #[]) (by simp[results,results153,go_sem]) rfl HQ.out
 |false=>
  simp only[Bool.false_or]at HQ;go_enter func153,ntmps153;go_wp2;refine bodyPost_end (v:=.tuple #[]) (by simp[results,results153,go_sem]) rfl HQ.out
def eU(b:Bool)(h:bR ad A tb lb s w):Calls prog 153 #[aA lb,.bool b] w (fG ad A tb lb (s.name b) w):=(nD b h).mono yD.a
def bR.CU(h:bR ad A tb lb s w)(hk:Kn (fun k=>k=lb) w w'){s':Lk}(hf:w'.heap[lb]?=some (.cells #[.map (some tb),.bool s'.wn,.bool s'.wc] gV (0,0))):bR ad A tb lb s' w':=by
 refine⟨?_,hf⟩;obtain⟨n,f,h1,_⟩:=id h.tab;have hc:∀(k:Nat)(c:Array Value)(t:TypeId)(f:Nat×Nat),t≠gV->w.heap[k]?=some (.cells c t f)->w'.heap[k]?=w.heap[k]?:=fun k c t f ht hc=>hk.block k (aB hc) fun e=>h.not hc ht (inr e)
 have:=h.tab.kept (l:=[]) (w':=w') (hk.block tb h1.lt fun e=>by
  obtain⟨es,cl,hm,_⟩:=h1
  rw[e,h.lk]at hm;cases hm) (fun k c f hk=>hc k c _ f (by decide) hk) (fun k c f hk=>hc k c _ f (by decide) hk) (fun k c f hk=>hc k c _ f (by decide) hk)
 rw[append_nil]at this;exact this
end
section
variable {ad:List Nat}{A:Env}{tb lb:Nat}{s:Lk}{w w':World}{nb:Nat}{txt:Nm}
def Tab.DN(h:Tab ad tb A w){x:Ky}(hx:cL x):∃(sp:Option Addr) (dt:ByteArray) (a1:Option Addr) (n1 k1:Nat) (a2:Option Addr) (n2 k2:Nat) (i j:Int),(lookup dA (.map (some tb)) (.agg #[.int .i64 x.1,.string (bs x.2)]) true).run prog w=.ok (.tuple #[.agg #[.pointer sp,.string dt,.slice a1 n1 k1,.slice a2 n2 k2,.int .i64 i,.int .i64 j],.bool (A.get x).isSome]) w/\n2=((A.get x).getD Mg.zero).vr.parts.length/\j=((A.get x).getD Mg.zero).AE/\n2<=9223372036854775807:=by
 obtain⟨n,f,hm,hf⟩:=h;have hl:=jE hm hx true;rcases hf x hx with⟨h1,h2⟩|⟨m,v,h1,h2,lv,pv,bl,hv,_,Sq,Nf,Re⟩
 ·rw[h1];rw[h2]at hl;exact⟨none,⟨#[]⟩,none,0,0,none,0,0,0,0,hl,rfl,rfl,by decide⟩
 ·rw[h1];rw[h2]at hl
  obtain⟨sp,Sw⟩:∃sp,SW ad m.scheme=.pointer sp:=by
   cases m.scheme with
   |none=>exact⟨none,rfl⟩
   |some t=>exact⟨some _,rfl⟩
  have Li:∃a1 n1 c1,lv=.slice a1 n1 c1:=by
   rcases aD Sq with⟨h,_⟩|⟨g,cap,h⟩
   ·exact⟨_,_,_,h⟩
   ·exact⟨_,_,_,h⟩
  have Rm:∃a2 c2,pv=.slice a2 bl.length c2:=by
   rcases aD Nf with⟨h,h0⟩|⟨g,cap,h⟩
   ·exact⟨none,0,by rw[h,h0]⟩
   ·exact⟨_,cap,h⟩
  have Yh:=bI Nf;obtain⟨a1,n1,c1,rfl⟩:=Li;obtain⟨a2,c2,rfl⟩:=Rm;rw[Sw]at hv;subst hv;exact⟨sp,bs m.vr.data,a1,n1,c1,a2,bl.length,c2,m.vr.sibs,m.AE,hl,Re.len,rfl,Yh⟩
def aF.con1:aF 207:=enters func207 (by kernel_rfl) rfl
def aF.wt1:aF 206:=enters func206 (by kernel_rfl) rfl
def WH(sp:Option Addr)(dt:ByteArray)(a1:Option Addr)(n1 k1:Nat)(a2:Option Addr)(n2 k2:Nat)(i j:Int)(hn:n2<=9223372036854775807)(u:World) :
  Calls prog 207 #[.agg #[.pointer sp,.string dt,.slice a1 n1 k1,.slice a2 n2 k2,.int .i64 i,.int .i64 j]] u fun e u'=>e=.returned (.int .i64 n2)/\Kn (fun _=>False) u u':=by
 generalize hQ:(fun(e:Ending) (u':World)=>e=.returned (.int .i64 n2)/\Kn (fun _=>False) u u')=Q;have hq:∀u',Kn (fun _=>False) u u'->Q (.returned (.int .i64 n2)) u':=fun u' h=>by rw[<- hQ];exact⟨rfl,h⟩
 have HQ:=aC hq;have HA:=aC (fun o=>(Kn.refl (fun _=>False) u).alloc o);clear hq hQ;go_enter func207,ntmps207;go_wp2;exact HQ.out _ (HA.out _)
def XS(sp:Option Addr)(dt:ByteArray)(a1:Option Addr)(n1 k1:Nat)(a2:Option Addr)(n2 k2:Nat)(i j:Int)(u:World) :
  Calls prog 206 #[.agg #[.pointer sp,.string dt,.slice a1 n1 k1,.slice a2 n2 k2,.int .i64 i,.int .i64 j]] u fun e u'=>e=.returned (.int .i64 j)/\Kn (fun _=>False) u u':=by
 generalize hQ:(fun(e:Ending) (u':World)=>e=.returned (.int .i64 j)/\Kn (fun _=>False) u u')=Q;have hq:∀u',Kn (fun _=>False) u u'->Q (.returned (.int .i64 j)) u':=fun u' h=>by rw[<- hQ];exact⟨rfl,h⟩
 have HQ:=aC hq;have HA:=aC (fun o=>(Kn.refl (fun _=>False) u).alloc o);clear hq hQ;go_enter func206,ntmps206;go_wp2;exact HQ.out _ (HA.out _)
def XK(mb:Nat)(sp:Option Addr)(dt:ByteArray)(a1:Option Addr)(n1 k1:Nat)(a2:Option Addr)(n2 k2:Nat)(i j:Int)(u:World):Prop:=u.cell? ⟨mb,0,none⟩=some (.pointer sp)/\u.cell? ⟨mb,1,none⟩=some (.string dt)/\u.cell? ⟨mb,2,none⟩=some (.slice a1 n1 k1)/\u.cell? ⟨mb,3,none⟩=some (.slice a2 n2 k2)/\u.cell? ⟨mb,4,none⟩=some (.int .i64 i)/\u.cell? ⟨mb,5,none⟩=some (.int .i64 j)
def TM{K:Nat}{cnt:Mg->Nat}(hK:∀(sp:Option Addr)(dt:ByteArray)(a1:Option Addr)(n1 k1:Nat)(a2:Option Addr)(n2 k2:Nat)(i j:Int)(m:Mg),n2=m.vr.parts.length->j=m.AE->n2<=9223372036854775807->∀u,Calls prog K #[.agg #[.pointer sp,.string dt,.slice a1 n1 k1,.slice a2 n2 k2,.int .i64 i,.int .i64 j]] u fun e u'=>e=.returned (.int .i64 (cnt m))/\Kn (fun _=>False) u u')
  {x:Ky}{k mb:Nat}{ps:List Nd}{a:Option Addr}{cap:Nat}{sp:Option Addr}{dt:ByteArray}{a1:Option Addr}{n1 k1:Nat}{a2:Option Addr}{n2 k2:Nat}{i j:Int} (Pj:n2=((A.get x).getD Mg.zero).vr.parts.length) (hj:j=((A.get x).getD Mg.zero).AE) (Yh:n2<=9223372036854775807)
  {u2:World} (h:bR ad A tb lb s u2) (Ox:u2.heap[nb]?=some (.cells #[.int .i64 k,.string (bs txt),.slice a ps.length cap] cS (0,0))) (Mp:u2.heap[mb]?=some (.cells #[.pointer sp,.string dt,.slice a1 n1 k1,.slice a2 n2 k2,.int .i64 i,.int .i64 j] iK (0,0))) (Nq:Kn (fun _=>False) w u2) :
  Calls prog 153 #[aA lb,.bool (!(A.get x).isSome)] u2 fun e u3=>e=.returned (.tuple #[])/\(u3.cell? ⟨lb,2,none⟩=some (.bool s.wc)/\u3.frozen? ⟨lb,2,none⟩=false/\u3.cell? ⟨nb,2,none⟩=some (.slice a ps.length cap)/\XK mb sp dt a1 n1 k1 a2 n2 k2 i j u3) /\
   (s.wc=true->∀u,Kn (fun _=>False) u3 u->yD ad A tb lb (dS A x cnt ps.length s) w (.returned (.tuple #[])) (u.setCell ⟨lb,2,none⟩ (.bool true)))/\(s.wc=false->∀u,Kn (fun _=>False) u3 u->(u.cell? ⟨lb,2,none⟩=some (.bool s.wc)/\u.frozen? ⟨lb,2,none⟩=false/\u.cell? ⟨nb,2,none⟩=some (.slice a ps.length cap)/\XK mb sp dt a1 n1 k1 a2 n2 k2 i j u)/\Calls prog K #[.agg #[.pointer sp,.string dt,.slice a1 n1 k1,.slice a2 n2 k2,.int .i64 i,.int .i64 j]] u fun e u4=>∃c:Nat,e=.returned (.int .i64 c)/\(u4.cell? ⟨lb,2,none⟩=some (.bool s.wc)/\u4.frozen? ⟨lb,2,none⟩=false/\u4.cell? ⟨nb,2,none⟩=some (.slice a ps.length cap)/\XK mb sp dt a1 n1 k1 a2 n2 k2 i j u4) /\
    (ps.length≠c->yD ad A tb lb (dS A x cnt ps.length s) w (.returned (.tuple #[])) (u4.setCell ⟨lb,2,none⟩ (.bool true)))/\(ps.length=c->yD ad A tb lb (dS A x cnt ps.length s) w (.returned (.tuple #[])) (u4.setCell ⟨lb,2,none⟩ (.bool false)))):=by
 have Jw:∀u3,Kn (fun k=>k=lb) u2 u3->∀s',bR ad A tb lb s' u3->s'.wc=s.wc->u3.cell? ⟨lb,2,none⟩=some (.bool s.wc)/\u3.frozen? ⟨lb,2,none⟩=false/\u3.cell? ⟨nb,2,none⟩=some (.slice a ps.length cap)/\XK mb sp dt a1 n1 k1 a2 n2 k2 i j u3:=fun u3 hk s' hl hs=>by
  have e1:u3.heap[nb]?=u2.heap[nb]?:=hk.block nb (aB Ox) (fun e=>h.not Ox (by decide) (inr e));have e2:u3.heap[mb]?=u2.heap[mb]?:=hk.block mb (aB Mp) (fun e=>h.not Mp (by decide) (inr e));refine⟨by simp[cell?,hl.lk,hs],frozen_of_row _ _ _ _ _ hl.lk,by simp[cell?,e1,Ox],?_⟩;refine⟨?_,?_,?_,?_,?_,?_⟩<;>simp[cell?,e2,Mp]
 refine(nD _ h).mono ?_;rintro e u3⟨rfl,h3,Le⟩;have R3:Kn (fun k=>k=lb) w u3:=(Nq.wide fun _ _ h=>h.elim).trans Le;have Pz:(!(A.get x).isSome)=(A.get x).isNone:=by cases A.get x<;>rfl
 refine⟨rfl,Jw u3 Le _ h3 rfl,fun Y6 u hu=>?_,fun Y6 u hu=>⟨Jw u (Le.trans (hu.wide fun _ _ h=>h.elim)) _ (h3.stays hu) rfl,?_⟩⟩
 ·obtain⟨q1,q2⟩:=(h3.stays hu).flag (dS A x cnt ps.length s) (i:=2) (v:=.bool true) (by simp[dS,Lk.name,Y6,Pz]);exact⟨rfl,q1,(R3.trans (hu.wide fun _ _ h=>h.elim)).trans q2⟩
 ·refine(hK sp dt a1 n1 k1 a2 n2 k2 i j _ Pj hj Yh u).mono ?_;rintro e u4⟨rfl,Mr⟩;have h4:=(h3.stays hu).stays Mr;have R1:Kn (fun k=>k=lb) w u4:=(R3.trans (hu.wide fun _ _ h=>h.elim)).trans (Mr.wide fun _ _ h=>h.elim);refine⟨_,rfl,Jw u4 ((Le.trans (hu.wide fun _ _ h=>h.elim)).trans (Mr.wide fun _ _ h=>h.elim)) _ h4 rfl,fun hc=>?_,fun hc=>?_⟩
  ·obtain⟨q1,q2⟩:=h4.flag (dS A x cnt ps.length s) (i:=2) (v:=.bool true) (by simp[dS,Lk.name,Y6,Pz,hc]);exact⟨rfl,q1,R1.trans q2⟩
  ·obtain⟨q1,q2⟩:=h4.flag (dS A x cnt ps.length s) (i:=2) (v:=.bool false) (by simp[dS,Lk.name,Y6,Pz,hc]);exact⟨rfl,q1,R1.trans q2⟩
def yY{K:Nat}(HE:aF K){cnt:Mg->Nat}(hK:∀(sp:Option Addr)(dt:ByteArray)(a1:Option Addr)(n1 k1:Nat)(a2:Option Addr)(n2 k2:Nat)(i j:Int)(m:Mg),n2=m.vr.parts.length->j=m.AE->n2<=9223372036854775807->∀u,Calls prog K #[.agg #[.pointer sp,.string dt,.slice a1 n1 k1,.slice a2 n2 k2,.int .i64 i,.int .i64 j]] u fun e u'=>e=.returned (.int .i64 (cnt m))/\Kn (fun _=>False) u u')
  {x:Ky} (hx:cL x) {k:Nat}{ps:List Nd} (h:bR ad A tb lb s w) (hn:AB w (.mk k txt ps) nb) :
  Calls prog 205 #[aA lb,aA nb,.agg #[.int .i64 x.1,.string (bs x.2)],.func (.func K) #[] #[]] w (yD ad A tb lb (dS A x cnt ps.length s) w):=by
 obtain⟨pv,bl,n1',n2',n3'⟩:=hn.inv;have Jm:=n3'.len
 obtain⟨a,cap,rfl⟩:∃a c,pv=.slice a bl.length c:=by
  rcases aD n2' with⟨h,h0⟩|⟨g,cap,h⟩
  ·exact⟨none,0,by rw[h,h0]⟩
  ·exact⟨_,cap,h⟩
 have Yh:=bI n2';rw[Jm]at n1' Yh;have Kj:Kn (fun _=>False) w (w.alloc (.cells #[.int .i64 x.1,.string (bs x.2)] eE)):=(Kn.refl _ w).alloc _;have J7:(w.alloc (.cells #[.int .i64 x.1,.string (bs x.2)] eE)).heap[w.heap.size]?=some (.cells #[.int .i64 x.1,.string (bs x.2)] eE (0,0)):=(MapKept.heap_alloc w _).1;have h1:=h.stays Kj;obtain⟨sp,dt,a1,n1,k1,a2,n2,k2,i,j,Mq,Pj,hj,Ly⟩:=h1.tab.DN hx;obtain⟨nm,fm,Pb,_⟩:=id h1.tab;generalize My:w.alloc (.cells #[.int .i64 x.1,.string (bs x.2)] eE)=w1 at *
 have Lm:∀u,Kn (fun _=>False) w1 u->(lookup dA (.map (some tb)) (.agg #[.int .i64 x.1,.string (bs x.2)]) true).run prog u=.ok (.tuple #[.agg #[.pointer sp,.string dt,.slice a1 n1 k1,.slice a2 n2 k2,.int .i64 i,.int .i64 j],.bool (A.get x).isSome]) u:=fun u hu=>by
  have e1:=jE Pb hx true;have e2:=jE (Pb.kept (hu.block tb Pb.lt id)) hx true;unfold eL at e1 e2;have e3:=Mq.symm.trans e1;injection e3 with e4 _
  rw[e2,<- e4]
 have hS:∀u,Kn (fun _=>False) w1 u->(u.cell? ⟨lb,0,none⟩=some (.map (some tb))/\u.cell? ⟨w.heap.size,0,none⟩=some (.int .i64 x.1)/\u.cell? ⟨w.heap.size,1,none⟩=some (.string (bs x.2))/\(lookup dA (.map (some tb)) (.agg #[.int .i64 x.1,.string (bs x.2)]) true).run prog u=.ok (.tuple #[.agg #[.pointer sp,.string dt,.slice a1 n1 k1,.slice a2 n2 k2,.int .i64 i,.int .i64 j],.bool (A.get x).isSome]) u/\Hid (Kn (fun _=>False) w1 u)):=fun u hu=>by
  have e1:u.heap[w.heap.size]?=w1.heap[w.heap.size]?:=hu.block _ (aB J7) id;exact⟨by simp[cell?,(h1.stays hu).lk],by simp[cell?,e1,J7],by simp[cell?,e1,J7],Lm u hu,aC hu⟩
 have Pr:=fun(u2:World) (mb:Nat) (hu:Kn (fun _=>False) w1 u2) (Mp:u2.heap[mb]?=some (.cells #[.pointer sp,.string dt,.slice a1 n1 k1,.slice a2 n2 k2,.int .i64 i,.int .i64 j] iK (0,0)))=>TM (txt:=txt) (nb:=nb) hK Pj hj Ly (h1.stays hu) ((hu.block nb (lt_of_lt_of_le (aB n1') Kj.size) id).trans ((Kj.block nb (aB n1') id).trans n1')) Mp (Kj.trans hu);have Uq:∀u o,Kn (fun _=>False) w1 u->Kn (fun _=>False) w1 (World.alloc u o):=fun u o hu=>hu.alloc o;have Qp:∀o,Kn (fun _=>False) w1 (World.drew (World.alloc w1 o)):=fun o=>((Kn.refl _ w1).alloc o).drew;have V5:=fun(args:Array Value) (w:World)=>HE args w;have Mi:=aC (AH w1);have HS:=aC hS;have Oo:=aC Uq;have Qq:=aC Qp;have X8:=aC Pr;clear Pr hS Lm hK h h1 hn n1' n2' n3' Mq Pb J7 Kj Uq Qp HE Pj hj;generalize hQ:yD ad A tb lb (dS A x cnt ps.length s) w=Q at *;clear hQ;generalize Kn (fun _=>False) w1=V at *;generalize (A.get x).isSome=isK at *;generalize hnp:ps.length=np at *;generalize bs x.2=tx at *;generalize x.1=xs at *;unfold XK aA at *;obtain⟨c0a,c1a,c2a,lka,_⟩:=HS.out _ Mi.out;go_enter func205,ntmps205;go_wp2_with fail;clear My
 go_region_held3 (fun w'=>w'.cell? ⟨lb,0,none⟩=some (.map (some tb))/\w'.cell? ⟨w.heap.size,0,none⟩=some (.int .i64 xs)/\w'.cell? ⟨w.heap.size,1,none⟩=some (.string tx)/\(lookup dA (.map (some tb)) (.agg #[.int .i64 xs,.string tx]) true).run prog w'=.ok (.tuple #[.agg #[.pointer sp,.string dt,.slice a1 n1 k1,.slice a2 n2 k2,.int .i64 i,.int .i64 j],.bool isK]) w'/\Hid (V w'))
  (first|with_reducible exact⟨c0a,c1a,c2a,lka,Mi⟩|with_reducible exact HS.out _ (Oo.out _ _ Mi.out)|with_reducible exact HS.out _ (Qq.out _)|(trace_state;fail)) (fail)
 all_goals
  first
  |(obtain⟨u2,Rl⟩:∃u2,u2=World.drew (World.alloc w1 (.cells #[.pointer sp,.string dt,.slice a1 n1 k1,.slice a2 n2 k2,.int .i64 i,.int .i64 j] 84)):=⟨_,rfl⟩
    rw[<- Rl];have Mx:V u2:=by rw[Rl];exact Qq.out _
    have Mp:u2.heap[w1.heap.size]?=some (.cells #[.pointer sp,.string dt,.slice a1 n1 k1,.slice a2 n2 k2,.int .i64 i,.int .i64 j] iK (0,0)):=by rw[Rl];exact(MapKept.heap_alloc w1 _).1)
  |(obtain⟨u2,Rl⟩:∃u2,u2=World.alloc (World.drew w1) (.cells #[.pointer sp,.string dt,.slice a1 n1 k1,.slice a2 n2 k2,.int .i64 i,.int .i64 j] 84):=⟨_,rfl⟩
    rw[<- Rl];have Mx:V u2:=by rw[Rl];exact Oo.out _ _ Mi.out
    have Mp:u2.heap[w1.heap.size]?=some (.cells #[.pointer sp,.string dt,.slice a1 n1 k1,.slice a2 n2 k2,.int .i64 i,.int .i64 j] iK (0,0)):=by rw[Rl];exact(MapKept.heap_alloc (World.drew w1) _).1)
  have HC:=aC (X8.out u2 w1.heap.size Mx Mp);clear X8 HS Oo Qq Mi c0a c1a c2a lka Rl Mx Mp;generalize w1.heap.size=mb at *;go_wp2_with fail;refine(HC.out).mono ?_;rintro e u3⟨rfl,⟨d1,d2,d3,e1,e2,e3,e4,e5,e6⟩,ht,hf⟩;have HT:=aC ht;have HF:=aC hf;clear ht hf HC;generalize s.wc=wc at *
  cases wc with
  |true=>
   have HG:=aC (HT.out rfl _ (AH u3));clear HT HF;go_wp2_with fail
   go_region
   all_goals
    go_wp2;refine bodyPost_end (v:=.tuple #[]) (by simp[results,results205,go_sem]) rfl HG.out
  |false=>
   have hz:=HF.out rfl;clear HT HF;obtain⟨⟨g1,g2,g3,q1,q2,q3,q4,q5,q6⟩,hc⟩:=hz _ (AH u3);have HX:=aC hc;clear hc hz;go_wp2_with fail
   go_region_with (first|(refine(HX.out).mono ?_;rintro e u4⟨c,rfl,⟨z1,z2,z3,y1,y2,y3,y4,y5,y6⟩,Ju,heq⟩;have HG:=aC (show Q (.returned (.tuple #[])) (u4.setCell ⟨lb,2,none⟩ (.bool ((np:Int) != (c:Int))))from(by by_cases Nr:np=c;(focus (have hb:((np:Int) != (c:Int))=false:=(by simp[Nr]);rw[hb];exact heq Nr));have hb:((np:Int) != (c:Int))=true:=(by simpa using (by omega:¬(np:Int)=(c:Int)));rw[hb];exact Ju Nr));clear Ju heq))
   all_goals
    refine bodyPost_end (v:=.tuple #[]) (by simp[results,results205,go_sem]) rfl HG.out
def UM{k:Nat}{ps:List Nd}(hx:txt.length<=100000000)(h:bR ad A tb lb s w)(hn:AB w (.mk k txt ps) nb) :
  Calls prog 205 #[aA lb,aA nb,.agg #[.int .i64 (1:Nat),.string (bs txt)],.func (.func 207) #[] #[]] w (yD ad A tb lb (jT A (.mk k txt ps) s) w):=
 yY (x:=(1,txt)) aF.con1 (fun sp dt a1 n1 k1 a2 n2 k2 i j m h1 _ h3 u=>(WH sp dt a1 n1 k1 a2 n2 k2 i j h3 u).mono fun e u' ha=>⟨by rw[ha.1,h1],ha.2⟩) ⟨show 1<3 by decide,hx⟩ h hn
def II{k:Nat}{ps:List Nd}(hx:txt.length<=100000000)(h:bR ad A tb lb s w)(hn:AB w (.mk k txt ps) nb) :
  Calls prog 205 #[aA lb,aA nb,.agg #[.int .i64 (2:Nat),.string (bs txt)],.func (.func 206) #[] #[]] w (yD ad A tb lb (dS A (2,txt) Mg.AE ps.length s) w):=
 yY (x:=(2,txt)) aF.wt1 (fun sp dt a1 n1 k1 a2 n2 k2 i j m _ h2 _ u=>(XS sp dt a1 n1 k1 a2 n2 k2 i j u).mono fun e u' ha=>⟨by rw[ha.1,h2],ha.2⟩) ⟨show 2<3 by decide,hx⟩ h hn
def zI{k:Nat}{ps:List Nd}(hx:txt.length<=100000000)(h:bR ad A tb lb s w)(hn:AB w (.mk k txt ps) nb) :
  Calls prog 205 #[aA lb,aA nb,.agg #[.int .i64 (2:Nat),.string (bs txt)],.func (.func 206) #[] #[]] w (fG ad A tb lb (dS A (2,txt) Mg.AE ps.length s) w):=(II hx h hn).mono yD.a
end
section
variable {ad:List Nat}{A A0:Env}{tb lb:Nat}{s s':Lk}{w w0 w':World}{nb:Nat}{txt:Nm}
def sV{k:Nat}{ps:List Nd}(hx:txt.length<=100000000)(h:bR ad A tb lb s w)(hn:AB w (.mk k txt ps) nb) :
  Calls prog 159 #[aA lb,aA nb] w (yD ad A tb lb (jT A (.mk k txt ps) s) w):=by
 obtain⟨pv,bl,n1,_,_⟩:=hn.inv
 have Lh:∀u,Kn (fun _=>False) w u->u.cell? ⟨nb,1,none⟩=some (.string (bs txt))/\Calls prog 205 #[aA lb,aA nb,.agg #[.int .i64 (1:Nat),.string (bs txt)],.func (.func 207) #[] #[]] u fun e u2=>e=.returned (.tuple #[])/\u2.cell? ⟨nb,1,none⟩=some (.string (bs txt))/\yD ad A tb lb (jT A (.mk k txt ps) s) w (.returned (.tuple #[])) u2:=fun u hu=>by
  have e1:u.heap[nb]?=w.heap[nb]?:=hu.block nb (aB n1) id;have hm:AB u (.mk k txt ps) nb:=AB.kept (fun k c f hc=>hu.block k (aB hc) id) (fun k c f hc=>hu.block k (aB hc) id) _ nb hn;have hl:=h.stays hu;refine⟨by simp[cell?,e1,n1],(UM hx hl hm).mono ?_⟩;rintro e u2⟨rfl,q1,q2⟩;have e2:u2.heap[nb]?=u.heap[nb]?:=q2.block nb (aB (e1.trans n1)) (fun e=>hl.not (e1.trans n1) (by decide) (inr e));exact⟨rfl,by simp[cell?,e2,e1,n1],rfl,q1,(hu.wide fun _ _ h=>h.elim).trans q2⟩
 have Kv:∀u o u',Kn (fun _=>False) w u->u'=World.alloc u o->Kn (fun _=>False) w u':=fun u o u' hu e=>by
  subst e;exact hu.alloc o
 have hK:=fun(u:World)=>lY (bs txt) u;have Lt:=aC Lh;have Ni:=aC Kv;have HK:=aC hK;have HV:=aC (Kn.refl (fun _=>False) w);have HVD:=aC (AH w);have Vs:∀(fn:Fn)(first cap:Array Value)(w:World),(Instr.makeFunc fn first cap).run prog w=.ok (.func fn first cap) w:=fun _ _ _ _=>rfl;clear Lh Kv hK h hn n1;generalize yD ad A tb lb (jT A (.mk k txt ps) s) w=Q at *;generalize Kn (fun _=>False) w=V at *;generalize bs txt=tx at *;unfold aA at *;obtain⟨c1,_⟩:=Lt.out _ HV.out;obtain⟨c1a,_⟩:=Lt.out _ HVD.out;go_enter func159,ntmps159;go_wp2_with fail;refine(HK.out _).mono ?_;rintro e u⟨rfl,hu⟩;have HV2:=aC (Ni.out _ _ _ HV.out hu);have hz:=Lt.out _ HV2.out;clear hu Lt Ni HK;obtain⟨c2,hc⟩:=hz;have HC:=aC hc;clear hc;go_wp2_with fail;refine(HC.out).mono ?_;rintro e u2⟨rfl,_,hq⟩;have HG:=aC hq;clear hq HC;go_wp2;refine bodyPost_end (v:=.tuple #[]) (by simp[results,results159,go_sem]) rfl HG.out
def EJ{k:Nat}{ps:List Nd}(hx:txt.length<=100000000)(h:bR ad A tb lb s w)(hn:AB w (.mk k txt ps) nb) :
  Calls prog 159 #[aA lb,aA nb] w (fG ad A tb lb (jT A (.mk k txt ps) s) w):=(sV hx h hn).mono yD.a
def Tab.BK{x:Ky}{m:Mg}{w1 w7 w8:World}{n8:Nat}{f f7:Ky->Option Value}(hx:cL x)
  (Vz:∀y,cL y->(Env.get ((x,m)::A) y=none/\f7 y=none)\/∃m' v,Env.get ((x,m)::A) y=some m'/\f7 y=some v/\fE ad w7 m' v)
  (hf:∀x,cL x->(A.get x=none/\f x=none)\/∃m v,A.get x=some m/\f x=some v/\fE ad w1 m v) (hk:∀(k:Nat)(c:Array Value)(t:TypeId)(f:Nat×Nat),t=aI\/t=cS\/t=aH->w1.heap[k]?=some (.cells c t f)->w7.heap[k]?=w1.heap[k]?)
  (Qi:aQ cL eL w8 tb n8 (fun y=>if y=x then f x else f7 y)) (ht:w7.mapTurned w8 tb):Tab ad tb A w8:=by
 refine⟨n8,_,Qi,fun y hy=>?_⟩
 by_cases Nz:y=x
 ·subst Nz;simp only[if_true];rcases hf y hy with h1|⟨m',v',h1,h2,h3⟩
  ·exact inl h1
  ·exact inr ⟨m',v',h1,h2,fE.AM (h3.kept (fun _ _=>rfl) (le_refl _) (fun k c f hc=>hk k c _ f (inl rfl) hc) (fun k c f hc=>hk k c _ f (inr (inl rfl)) hc) (fun k c f hc=>hk k c _ f (inr (inr rfl)) hc)) ht⟩
 ·simp only[if_neg Nz];rcases Vz y hy with⟨h1,h2⟩|⟨m',v',h1,h2,h3⟩
  ·rw[Env.get,if_neg Nz]at h1;exact inl ⟨h1,h2⟩
  ·rw[Env.get,if_neg Nz]at h1;exact inr ⟨m',v',h1,h2,h3.AM ht⟩
def OI(w:World):fE ad w Mg.zero (.agg #[.pointer none,.string ⟨#[]⟩,.slice none 0 0,.slice none 0 0,.int .i64 0,.int .i64 0]):=pK 0 w
structure KA(ad:List Nat)(A0:Env)(tb lb:Nat)(s:Lk)(w0:World)(vs:List Nm)(i:Nat)(D:List Deferred)(wr:World):Prop where
 lk:bR ad (cE A0 (vs.take i) Mg.zero) tb lb s wr
 kn:Kn (fun k=>k=tb\/k=lb) w0 wr
 lv:∀s' e w7 tmps,fG ad (cE A0 (vs.take i) Mg.zero) tb lb s' wr e w7->Leaves prog f111 tmps (fG ad A0 tb lb s' w0) D .returning w7
def KA.start{vs:List Nm}(h:bR ad A0 tb lb s w0):KA ad A0 tb lb s w0 vs 0 [] w0:=by
 refine⟨by simpa [cE]using h,Kn.refl _ _,fun s' e w7 tmps ha=>?_⟩;have ha:fG ad A0 tb lb s' w0 e w7:=by simpa [cE]using ha
 obtain⟨rfl,_⟩:=id ha;simp only[Leaves];exact⟨.tuple #[],by simp[results,results111,go_sem],ha⟩
def xD(A:Env)(vs:List Nm)(x:Nm)(m:Mg):cE A (vs++[x]) m=((0,x),m)::cE A vs m:=by
 unfold cE;rw[List.foldl_append];rfl
def KA.bind{vs:List Nm}{i:Nat}{D:List Deferred}{wr:World}{x:Nm}(h:KA ad A0 tb lb s w0 vs i D wr)(hi:vs[i]?=some x)(hx:cL (0,x)){u:World}(hu:Kn (fun _=>False) wr u) :
  Calls prog 156 #[.map (some tb),.agg #[.int .i64 0,.string (bs x)],.agg #[.pointer none,.string ⟨#[]⟩,.slice none 0 0,.slice none 0 0,.int .i64 0,.int .i64 0]] u fun e u'=>e=.returned (lK u.heap.size)/\KA ad A0 tb lb s w0 vs (i+1) (mQ u.heap.size::D) u':=by
 have Mq:=h.lk;have Rv:=h.lv;have Lo:vs.take (i+1)=vs.take i++[x]:=by rw[take_add_one,hi];rfl
 have Xt:cE A0 (vs.take (i+1)) Mg.zero=((0,x),Mg.zero)::cE A0 (vs.take i) Mg.zero:=by rw[Lo,xD]
 generalize cE A0 (vs.take i) Mg.zero=A at *;obtain⟨n,f,hm,hf,Qe⟩:=Mq.tab.six;have Ru:aQ cL eL u tb n f:=hm.kept (hu.block tb hm.lt id);have Ud:=Mq.stays hu
 have hfu:∀x,cL x->(A.get x=none/\f x=none)\/∃m v,A.get x=some m/\f x=some v/\fE ad u m v:=fun x Pl=>by
  rcases hf x Pl with h1|⟨m',v',h1,h2,h3⟩
  ·exact inl h1
  ·exact inr ⟨m',v',h1,h2,h3.kept (fun _ _=>rfl) (le_refl _) (fun k c f hc=>hu.block k (aB hc) id) (fun k c f hc=>hu.block k (aB hc) id) (fun k c f hc=>hu.block k (aB hc) id)⟩
 refine(pA Ru hx (fun v hv=>Qe _ hx v hv) (m:=.agg #[.pointer none,.string ⟨#[]⟩,.slice none 0 0,.slice none 0 0,.int .i64 0,.int .i64 0]) ⟨_,_,_,_,_,_,_,_,_,_,rfl⟩).mono ?_;rintro e u'⟨e1,⟨n',e2⟩,e3,e4,e5⟩;have Uj:∀(k:Nat)(c:Array Value)(t:TypeId)(f:Nat×Nat),u.heap[k]?=some (.cells c t f)->u'.heap[k]?=u.heap[k]?:=fun k c t f hc=>e5.block k (aB hc) (Ud.AF hc);have F3:u'.heap[lb]?=some (.cells #[.map (some tb),.bool s.wn,.bool s.wc] gV (0,0)):=(Uj _ _ _ _ Ud.lk).trans Ud.lk
 have B7:bR ad (((0,x),Mg.zero)::A) tb lb s u':=by
  refine⟨⟨n',_,e2,fun y hy=>?_⟩,F3⟩;rw[Env.get]
  by_cases Nz:y=(0,x)
  ·rw[if_pos Nz];simp only[if_pos Nz];exact inr ⟨Mg.zero,_,rfl,rfl,OI u'⟩
  ·rw[if_neg Nz];simp only[if_neg Nz];rcases hfu y hy with h1|⟨m',v',h1,h2,h3⟩
   ·exact inl h1
   ·exact inr ⟨m',v',h1,h2,h3.kept (fun _ _=>rfl) (le_refl _) (fun k c f hc=>Uj k c _ f hc) (fun k c f hc=>Uj k c _ f hc) (fun k c f hc=>Uj k c _ f hc)⟩
 have Kj:Kn (fun k=>k=tb\/k=lb) wr u':=(hu.wide fun _ _ hh=>hh.elim).trans (e5.wide fun k _ hk=>inl hk);have Tf:lb<wr.heap.size:=aB Mq.lk;have Vo:tb<wr.heap.size:=hm.lt;refine⟨e1,by rw[Xt];exact B7,h.kn.trans Kj,fun s' e w7 tmps ha=>?_⟩;rw[Xt]at ha;obtain⟨rfl,a2,a3⟩:=ha;have Yj:Kn (fun k=>k=tb\/k=lb) wr w7:=Kj.trans a3
 have Se:Unb tb (0,x) (f (0,x)) u.heap.size w7:=e3.kept fun k Kj Jy=>a3.block k (by omega) fun hd=>by
  have:=hu.size;rcases hd with hd|hd<;>omega
 obtain⟨n7,f7,Ta,Vz⟩:=a2.tab;unfold mQ;refine leaves_cons (f:=203) (by simp) (by simp[go_sem];rfl) ?_;refine(kN (u:=.returning) Ta hx Se).mono ?_;rintro e u8 w8⟨rfl,rfl,⟨n8,Qi⟩,Sp⟩;refine Rv s' (.returned (.tuple #[])) w8 tmps ⟨rfl,⟨Tab.BK hx Vz hf (fun k c t f Oq hc=>Yj.block k (aB hc) (Mq.not hc (by rcases Oq with rfl|rfl|rfl<;>decide))) Qi Sp,(bJ Sp a2.lk).trans a2.lk⟩,Yj.AM Sp (inl (inl rfl))⟩
end
section
variable {ad:List Nat}{A:Env}{tb lb:Nat}{s s':Lk}{w w':World}{nb:Nat}{txt:Nm}
def RO{vs:List Nm}{a:Option Addr}{n c:Nat}(hr:w.ownsRow 0 aI 1 (.slice a n c) vs.length (vs.map bM))(Lb:∀x∈vs,cL (0,x))(h:bR ad A tb lb s w)
  (hE:∀u,Kn (fun k=>k=tb\/k=lb) w u->bR ad (cE A vs Mg.zero) tb lb s u->Calls prog 112 #[aA lb,aA nb] u (fG ad (cE A vs Mg.zero) tb lb s' u)) :
  ∃WI:Nat->List Deferred->World->Prop,n<=9223372036854775807/\WI 0 [] w /\
   (∀i D wr,WI i D wr->i<n->∃g tx,a=some ⟨g,0,none⟩/\wr.cell? ⟨g,i,none⟩=some (.string tx)/\g<wr.heap.size/\∀u,Kn (fun _=>False) wr u->u.cell? ⟨lb,0,none⟩=some (.map (some tb)) /\
    Calls prog 156 #[.map (some tb),.agg #[.int .i64 0,.string tx],.agg #[.pointer none,.string ⟨#[]⟩,.slice none 0 0,.slice none 0 0,.int .i64 0,.int .i64 0]] u fun e u'=>∃W,e=.returned (lK W)/\u'.cell? ⟨lb,0,none⟩=some (.map (some tb))/\Hid (WI (i+1) (mQ W::D) u')) /\
   ∀D wr,WI n D wr->Calls prog 112 #[aA lb,aA nb] wr fun e w7=>e=.returned (.tuple #[])/\∀tmps,Leaves prog f111 tmps (fG ad A tb lb s' w) D .returning w7:=by
 obtain⟨rfl,Qk⟩:n=vs.length/\(0<vs.length->∃g',a=some ⟨g',0,none⟩):=by
  rcases aD hr with⟨h,h0⟩|⟨g,cap,h⟩
  ·cases h;exact⟨h0.symm,fun h=>by omega⟩
  ·cases h;exact⟨rfl,fun _=>⟨g,rfl⟩⟩
 refine⟨fun i D wr=>KA ad A tb lb s w vs i D wr,bI hr,KA.start h,?_,?_⟩
 ·intro i D wr Kl hi;have hv:vs[i]?=some vs[i]:=getElem?_eq_getElem hi;have Jv:=mem_of_getElem? hv;generalize vs[i]=x at hv Jv;obtain⟨g,rfl⟩:=Qk (by omega);have Jn:wr.ownsRow 0 aI 1 (.slice (some ⟨g,0,none⟩) vs.length c) vs.length (vs.map bM):=aE hr fun q c f _ hc=>Kl.kn.block q (aB hc) (h.not hc (by decide));refine⟨g,bs x,rfl,?_,(Jn.lt g rfl).2,fun u hu=>⟨by simp[cell?,(Kl.lk.stays hu).lk],(Kl.bind hv (Lb x Jv) hu).mono ?_⟩⟩
  ·rw[Jn.cellAt i (by omega),getElem?_map,hv];rfl
  ·rintro e u'⟨e1,e2⟩;exact⟨_,e1,by simp[cell?,e2.lk.lk],aC e2⟩
 ·intro D wr Kl;have hl:=Kl.lk;have Rv:=Kl.lv;rw[take_length]at hl Rv;refine(hE wr Kl.kn hl).mono fun e w7 ha=>?_;exact⟨ha.1,fun tmps=>Rv s' e w7 tmps ha⟩
def mY{vs:List Nm}{a:Option Addr}{n c:Nat}(hr:w.ownsRow 0 aI 1 (.slice a n c) vs.length (vs.map bM))(Lb:∀x∈vs,cL (0,x))(h:bR ad A tb lb s w)
  (hE:∀u,Kn (fun k=>k=tb\/k=lb) w u->bR ad (cE A vs Mg.zero) tb lb s u->Calls prog 112 #[aA lb,aA nb] u (fG ad (cE A vs Mg.zero) tb lb s' u)) :
  Calls prog 111 #[aA lb,aA nb,.slice a n c] w (fG ad A tb lb s' w):=by
 obtain⟨WI,hn,h0,hs,he⟩:=RO hr Lb h hE;have H0:=aC h0;have HS:=aC hs;have HE:=aC he;have hK:=fun(tx:ByteArray) (u:World)=>gL tx u;have HK:=aC hK;clear h0 hs he hr Lb h hE hK;generalize fG ad A tb lb s' w=Q at *;unfold aA at *
 go_enter_defers func111,ntmps111
 go_wp2_with fail;refine wp_loop_ghost_k (fun gk a' w'=>∃(i:Nat) (D:List Deferred) (u7 u11 u12 u13 u14 u15 u16 u17 u18 u19 u20 u21 u22:Value),i+gk=n/\Hid (WI i D w')/\a'={ tmps:=#[.pointer (some ⟨lb,0,none⟩),.pointer (some ⟨nb,0,none⟩),.slice a n c,undef,undef,undef,undef,u7,.slice a n c,.int .i64 n,.int .i64 (i:Nat),u11,u12,u13,u14,u15,u16,u17,u18,u19,u20,u21,u22,undef,undef,undef],defers:=D }) n ⟨0,[],undef,undef,undef,undef,undef,undef,undef,undef,undef,undef,undef,undef,undef,by omega,H0,rfl⟩ ?_;rintro gk a' wr⟨i,D,u7,u11,u12,u13,u14,u15,u16,u17,u18,u19,u20,u21,u22,hi,HR,rfl⟩ J KK hJ hKK;clear H0
 by_cases Js:i<n
 ·obtain⟨g',tx,rfl,e1,e3,hu⟩:=HS.out i D wr HR.out Js;have Jt:(i:Int)<(n:Int):=by omega
  have Kv:∀u o u',Kn (fun _=>False) wr u->u'=World.alloc u o->Kn (fun _=>False) wr u':=fun u o u' hu e=>by
   subst e;exact hu.alloc o
  have HV:=aC (AH wr);have Ni:=aC Kv;have HX:=aC hu;have HJ:=aC hJ;clear hu Kv HS HE HR;generalize Kn (fun _=>False) wr=V at *;have hz:=HX.out _ HV.out;obtain⟨c1a,_⟩:=hz;unfold lK at *;go_wp2_with fail
  go_region_held3 (fun w'=>w'.cell? ⟨lb,0,none⟩=some (.map (some tb))) (exact c1a)
   (first|(go_at_call 36;refine(HK.out _ _).mono ?_;rintro e u⟨rfl,hu⟩;have HV:=aC (Ni.out _ _ _ HV.out hu);have hz:=HX.out _ HV.out;obtain⟨c1a,hb⟩:=hz;have HB:=aC hb;clear hu hb)|(go_at_call 156;refine(HB.out).mono ?_;rintro e u6⟨W,rfl,c1a,Zs⟩))
  all_goals
   go_wp2_with fail;rw[show (i:Int)+1=((i+1:Nat):Int) by omega];exact Handed.intro (n-(i+1)) (by omega) (HJ.out _ _ _ ⟨i+1,mQ W::D,_,_,_,_,_,_,_,_,_,_,_,_,_,by omega,Zs,rfl⟩)
 ·have Kg:i=n:=by omega
  subst Kg;have Jt:¬(i:Int)<(i:Int):=by omega
  have HC:=aC (HE.out D wr HR.out);clear HS HE HR;go_wp2_with fail;refine(HC.out).mono ?_;rintro e w7⟨rfl,hl⟩;have HL:=aC hl;clear hl HC;go_wp2;exact HL.out _
end
def yS(s:ByteArray)(w:World):Calls prog 87 #[.string s] w fun e w'=>e=.returned (.agg #[.int .i64 0,.string s])/\w'=w.alloc (.cells #[.int .i64 0,.string s] eE):=by
 go_enter func87,ntmps87;go_wp2;refine bodyPost_ret (v:=.agg #[.int .i64 0,.string s]) (by simp[results,results87,go_sem]) rfl ⟨rfl,rfl⟩
section
variable {mb tb bb:Nat}{A:List Nm}{w:World}{c:Cd}{Kb:Nat}{csb:Array Value}
def WL{vs:List Nm}{a:Option Addr}{n cp:Nat}(hr:w.ownsRow 0 aI 1 (.slice a n cp) vs.length (vs.map bM))(Lb:∀x∈vs,cL (0,x))(Jm:A.length+vs.length<=1000000)(h:BM mb tb bb A A.length w)
  (hE:∀u,Kn (fun k=>k=tb\/k=bb) w u->BM mb tb bb (binds A vs) (A.length+vs.length) u->Calls prog Kb csb u (BA mb tb bb (binds A vs) c u)) :
  ∃WI:Nat->List Deferred->World->Prop,n<=1000000/\WI 0 [] w /\
   (∀i D wr,WI i D wr->i<n->∃g tx ai,a=some ⟨g,0,none⟩/\wr.cell? ⟨g,i,none⟩=some (.string tx)/\g<wr.heap.size/\ai<=1000000/\∀u,Kn (fun _=>False) wr u->(u.cell? ⟨bb,1,none⟩=some (.map (some tb))/\u.cell? ⟨bb,2,none⟩=some (.int .i64 (ai:Nat))) /\
    Calls prog 86 #[.map (some tb),.agg #[.int .i64 0,.string tx],.int .i64 (ai:Nat)] u fun e u'=>∃W,e=.returned (ND W)/\(u'.cell? ⟨bb,1,none⟩=some (.map (some tb))/\u'.cell? ⟨bb,2,none⟩=some (.int .i64 (ai:Nat)))/\u'.frozen? ⟨bb,2,none⟩=false/\Hid (WI (i+1) (LB W::D) (u'.setCell ⟨bb,2,none⟩ (.int .i64 ((ai:Int)+1))))) /\
   ∀D wr,WI n D wr->Calls prog Kb csb wr fun e w7=>∃K cs ai,e=.returned (.func (.func K) #[] cs)/\ai<=1000000/\w7.cell? ⟨bb,2,none⟩=some (.int .i64 (ai:Nat))/\w7.frozen? ⟨bb,2,none⟩=false/\Hid (∀tmps,(∀(wx:World)(Q:Ending->World->Prop),Q (.returned (.func (.func K) #[] cs)) wx->Leaves prog f56 tmps Q [] .returning wx)->Leaves prog f56 tmps (BA mb tb bb A c w) D .returning (w7.setCell ⟨bb,2,none⟩ (.int .i64 ((ai:Int)-(n:Int))))):=by
 obtain⟨rfl,Qk⟩:n=vs.length/\(0<vs.length->∃g',a=some ⟨g',0,none⟩):=by
  rcases aD hr with⟨h,h0⟩|⟨g,cap,h⟩
  ·cases h;exact⟨h0.symm,fun h=>by omega⟩
  ·cases h;exact⟨rfl,fun _=>⟨g,rfl⟩⟩
 refine⟨fun i D wr=>KP mb tb bb A w vs i D wr,by omega,KP.start h,?_,?_⟩
 ·intro i D wr Kl hi;have hv:vs[i]?=some vs[i]:=getElem?_eq_getElem hi;have Jv:=mem_of_getElem? hv;generalize vs[i]=x at hv Jv;obtain⟨g,rfl⟩:=Qk (by omega);have Jn:wr.ownsRow 0 aI 1 (.slice (some ⟨g,0,none⟩) vs.length cp) vs.length (vs.map bM):=aE hr fun q c f _ hc=>Kl.kn.block q (aB hc) fun e=>by rcases e with e|e;exact h.AF hc e;exact h.AI hc (by decide) e
  refine⟨g,bs x,A.length+i,rfl,?_,(Jn.lt g rfl).2,by omega,fun u hu=>?_⟩
  ·rw[Jn.cellAt i (by omega),getElem?_map,hv];rfl
  have hb:=(Kl.bm.stays hu).bld;refine⟨⟨by simp[cell?,hb],by simp[cell?,hb]⟩,(Kl.bind hv (Lb x Jv) (by omega) hu).mono ?_⟩;rintro e u'⟨e1,e2,e3⟩;refine⟨_,e1,⟨by simp[cell?,e2],by simp[cell?,e2]⟩,by simp[frozen?,e2],aC (e3 _ (by simp[setCell]) rfl rfl rfl (fun k hk=>Below.heap_setCell _ _ _ _ hk) ?_)⟩;simp[setCell,Array.getElem?_modify,e2];omega
 ·intro D wr Kl;have Zn:=Kl.bm;have Rv:=Kl.lv;rw[take_length]at Zn Rv;refine(hE wr Kl.kn Zn).mono ?_;rintro e w7⟨K,cs,rfl,h1,h2,h3⟩;have Vh:=h1.bld;rw[pT]at Vh;refine⟨K,cs,A.length+vs.length,rfl,Jm,by simp[cell?,Vh],by simp[frozen?,Vh],aC fun tmps hl=>?_⟩;have Vv:Kn (fun k=>k=tb\/k=bb) w7 (w7.setCell ⟨bb,2,none⟩ (.int .i64 (((A.length+vs.length:Nat):Int)-(vs.length:Int)))):=(Kn.refl _ w7).set (p:=⟨bb,2,none⟩) (inl (inr rfl)) _;have Pv:tb≠bb:=fun e=>h1.AF h1.bld e.symm;refine Rv tmps c K cs _ hl ⟨?_,?_,by omega⟩ (h2.trans Vv) (h3.kept (h1.kr Vv))
  ·simp[setCell,Array.getElem?_modify,Vh]
  ·obtain⟨n7,f7,q1,q2⟩:=h1.tab;exact⟨n7,f7,q1.kept (Below.heap_setCell _ _ _ _ Pv),q2⟩
def kO{vs:List Nm}{a:Option Addr}{n cp:Nat}(Zp:aF Kb)(hr:w.ownsRow 0 aI 1 (.slice a n cp) vs.length (vs.map bM))(Lb:∀x∈vs,cL (0,x))(Jm:A.length+vs.length<=1000000)(h:BM mb tb bb A A.length w)
  (hE:∀u,Kn (fun k=>k=tb\/k=bb) w u->BM mb tb bb (binds A vs) (A.length+vs.length) u->Calls prog Kb csb u (BA mb tb bb (binds A vs) c u)) :
  Calls prog 56 #[aA bb,.func (.func Kb) #[] csb,.slice a n cp] w (BA mb tb bb A c w):=by
 obtain⟨WI,hn,h0,hs,he⟩:=WL hr Lb Jm h hE;have V5:=fun(args:Array Value) (w:World)=>Zp args w;have H0:=aC h0;have HS:=aC hs;have HE:=aC he;have hK:=fun(tx:ByteArray) (u:World)=>yS tx u;have HK:=aC hK;clear h0 hs he hr Lb h hE hK Zp Jm;generalize BA mb tb bb A c w=Q at *;unfold aA at *
 go_enter_defers func56,ntmps56
 go_wp2_with fail;refine wp_loop_ghost_k (fun gk a' w'=>∃(i:Nat) (D:List Deferred) (u8 u13 u14 u15 u16 u17 u18 u19 u20 u21 u22 u23 u24 u25 u26 u27 u28 u29 u30 u31 u32 u33 u34:Value),i+gk=n/\Hid (WI i D w')/\a'={ tmps:=#[.pointer (some ⟨bb,0,none⟩),.func (.func Kb) #[] csb,.slice a n cp,undef,undef,undef,.nilFunc,undef,u8,undef,.slice a n cp,.int .i64 n,.int .i64 (i:Nat),u13,u14,u15,u16,u17,u18,u19,u20,u21,u22,u23,u24,u25,u26,u27,u28,u29,u30,u31,u32,u33,u34,undef,undef,undef,undef,undef,undef,undef,undef,undef,undef,undef,undef],defers:=D }) n ⟨0,[],undef,undef,undef,undef,undef,undef,undef,undef,undef,undef,undef,undef,undef,undef,undef,undef,undef,undef,undef,undef,undef,undef,undef,by omega,H0,rfl⟩ ?_;rintro gk a' wr⟨i,D,u8,u13,u14,u15,u16,u17,u18,u19,u20,u21,u22,u23,u24,u25,u26,u27,u28,u29,u30,u31,u32,u33,u34,hi,HR,rfl⟩ J KK hJ hKK;clear H0
 by_cases Js:i<n
 ·obtain⟨g',tx,ai,rfl,e1,e3,hai,hu⟩:=HS.out i D wr HR.out Js;have Jt:(i:Int)<(n:Int):=by omega
  have Kv:∀u o u',Kn (fun _=>False) wr u->u'=World.alloc u o->Kn (fun _=>False) wr u':=fun u o u' hu e=>by
   subst e;exact hu.alloc o
  have HV:=aC (AH wr);have Ni:=aC Kv;have HX:=aC hu;have HJ:=aC hJ;clear hu Kv HS HE HR;generalize Kn (fun _=>False) wr=V at *;have hz:=HX.out _ HV.out;obtain⟨⟨c1a,c2a⟩,_⟩:=hz;unfold ND at *;go_wp2_with fail
  go_region_held3 (fun w'=>w'.cell? ⟨bb,1,none⟩=some (.map (some tb))/\w'.cell? ⟨bb,2,none⟩=some (.int .i64 (ai:Nat))) (exact⟨c1a,c2a⟩)
   (first|(go_at_call 87;refine(HK.out _ _).mono ?_;rintro e u⟨rfl,hu⟩;have HV:=aC (Ni.out _ _ _ HV.out hu);have hz:=HX.out _ HV.out;obtain⟨⟨c1a,c2a⟩,hb⟩:=hz;have HB:=aC hb;clear hu hb)|(go_at_call 86;refine(HB.out).mono ?_;rintro e u6⟨W,rfl,⟨c1a,c2a⟩,f2a,Zs⟩))
  all_goals
   go_wp2_with fail;rw[show (i:Int)+1=((i+1:Nat):Int) by omega];exact Handed.intro (n-(i+1)) (by omega) (HJ.out _ _ _ ⟨i+1,LB W::D,_,_,_,_,_,_,_,_,_,_,_,_,_,_,_,_,_,_,_,_,_,_,_,by omega,Zs,rfl⟩)
 ·have Kg:i=n:=by omega
  subst Kg;have Jt:¬(i:Int)<(i:Int):=by omega
  have HC:=aC (HE.out D wr HR.out);clear HS HE HR;go_wp2_with fail;refine(HC.out).mono ?_;rintro e w7⟨K,cs,ai,rfl,hai,c2,f2,HL⟩;clear HC;go_wp2;exact HL.out _ (fun wx Q hq=>by simp only[Leaves];exact⟨_,by simp[results,results56,go_sem],hq⟩)
end
def Each.max{mb:Nat}{w:World}:∀{ps:List Cd}{xs:List Value},Each (fP mb w) ps xs->∃n,Each (pB mb w n) ps xs:=by
 intro ps
 induction ps with
 |nil=>intro xs h;cases xs with|nil=>exact⟨0,trivial⟩|cons=>exact h.elim
 |cons c r ih=>
  intro xs h
  cases xs with
  |nil=>exact h.elim
  |cons x l=>
   obtain⟨n1,h1⟩:=h.1;obtain⟨n2,h2⟩:=ih h.2;exact⟨n1+n2,h1.le (by omega),h2.imp fun _ _ q=>q.le (by omega)⟩
def JZ(w:World)(o1:Obj):(w.alloc o1).heap[w.heap.size]?=some o1:=by simp only[bC,if_pos]
def qU(w:World)(o1 o2:Obj):((w.alloc o1).alloc o2).heap[w.heap.size]?=some o1/\((w.alloc o1).alloc o2).heap[w.heap.size+1]?=some o2:=by
 refine⟨?_,?_⟩
 ·rw[bC,if_neg (by rw[aK];omega),JZ]
 ·rw[bC,if_pos (by rw[aK])]
def Gk(w:World)(o1 o2 o3:Obj):(((w.alloc o1).alloc o2).alloc o3).heap[w.heap.size]?=some o1/\(((w.alloc o1).alloc o2).alloc o3).heap[w.heap.size+1]?=some o2/\(((w.alloc o1).alloc o2).alloc o3).heap[w.heap.size+1+1]?=some o3:=by
 have h:=qU w o1 o2;refine⟨?_,?_,?_⟩
 ·rw[bC,if_neg (by rw[aK,aK];omega)];exact h.1
 ·rw[bC,if_neg (by rw[aK,aK];omega)];exact h.2
 ·rw[bC,if_pos (by rw[aK,aK])]
section
variable {mb tb bb:Nat}{A:List Nm}{w u:World}
def BA.of{K:Nat}{l:List Nat}{c:Cd}{xs:List Value}{bl:List (TypeId×Value)}(hB:BM mb tb bb A A.length w)(hF:Fresh w u)(Kg:QX c.n/\(c.op=3->0<=c.n/\c.n.toNat<=1000000))(hx:Each (fP mb w) c.ps xs)(hf:IZ mb c xs=some (K,bl))(hE:aF K)(hb:Bxs u bl l) :
  BA mb tb bb A c w (.returned (tQ K l)) u:=by
 obtain⟨n,hn⟩:=(hx.imp (fP.kept hF.kr)).max;exact⟨K,_,rfl,hB.stays hF.kn,hF.kn.wide fun _ _ h=>h.elim,n+1,Kg,xs,hn,inl ⟨K,bl,hf,hE,l,rfl,hb⟩⟩
def BA.behind{c:Cd}{e:Ending}{w1 w2:World}(hk:Kn (fun k=>k=tb\/k=bb) w w1)(h:BA mb tb bb A c w1 e w2):BA mb tb bb A c w e w2:=by
 obtain⟨K,cs,h1,h2,h3,h4⟩:=h;exact⟨K,cs,h1,h2,hk.trans h3,h4⟩
def VD:QX 0:=by unfold QX;omega
section
variable {K1 K2 K3:Nat}{cs1 cs2 cs3:Array Value}{c1 c2 c3:Cd}{nm:Nm}
def Hs(hB:BM mb tb bb A A.length w)(h1:fP mb w c1 (.func (.func K1) #[] cs1)):Calls prog 130 #[.func (.func K1) #[] cs1] w (BA mb tb bb A ⟨5,0,nm,[c1],[]⟩ w):=by
 refine(Fi).mono ?_;rintro e u⟨rfl,rfl⟩;exact BA.of (l:=[w.heap.size]) (xs:=[_]) hB ((Fresh.refl w).alloc _) ⟨VD,fun h=>by cases h⟩ ⟨h1,trivial⟩ rfl aF.fun ⟨JZ _ _,cO,trivial⟩
def Hr(hB:BM mb tb bb A A.length w)(h1:fP mb w c1 (.func (.func K1) #[] cs1))(h2:fP mb w c2 (.func (.func K2) #[] cs2)):Calls prog 138 #[.func (.func K1) #[] cs1,.func (.func K2) #[] cs2] w (BA mb tb bb A ⟨6,0,nm,[c1,c2],[]⟩ w):=by
 refine(Fh).mono ?_;rintro e u⟨rfl,rfl⟩;have h:=qU w (.cells #[.func (.func K1) #[] cs1] aW) (.cells #[.func (.func K2) #[] cs2] aW);exact BA.of (l:=[w.heap.size,w.heap.size+1]) (xs:=[_,_]) hB (((Fresh.refl w).alloc _).alloc _) ⟨VD,fun h=>by cases h⟩ ⟨h1,h2,trivial⟩ rfl aF.let ⟨h.1,cO,h.2,cO,trivial⟩
def Hp(hB:BM mb tb bb A A.length w)(h1:fP mb w c1 (.func (.func K1) #[] cs1))(h2:fP mb w c2 (.func (.func K2) #[] cs2)):Calls prog 137 #[.func (.func K1) #[] cs1,.func (.func K2) #[] cs2] w (BA mb tb bb A ⟨7,0,nm,[c1,c2],[]⟩ w):=by
 refine(Fg).mono ?_;rintro e u⟨rfl,rfl⟩;have h:=qU w (.cells #[.func (.func K1) #[] cs1] aW) (.cells #[.func (.func K2) #[] cs2] aW);exact BA.of (l:=[w.heap.size,w.heap.size+1]) (xs:=[_,_]) hB (((Fresh.refl w).alloc _).alloc _) ⟨VD,fun h=>by cases h⟩ ⟨h1,h2,trivial⟩ rfl aF.rec ⟨h.1,cO,h.2,cO,trivial⟩
def Du(hB:BM mb tb bb A A.length w)(h1:fP mb w c1 (.func (.func K1) #[] cs1))(h2:fP mb w c2 (.func (.func K2) #[] cs2)):Calls prog 90 #[.func (.func K1) #[] cs1,.func (.func K2) #[] cs2] w (BA mb tb bb A ⟨9,0,nm,[c1,c2],[]⟩ w):=by
 refine(Ff).mono ?_;rintro e u⟨rfl,rfl⟩;have h:=qU w (.cells #[.func (.func K1) #[] cs1] aW) (.cells #[.func (.func K2) #[] cs2] aW);exact BA.of (l:=[w.heap.size,w.heap.size+1]) (xs:=[_,_]) hB (((Fresh.refl w).alloc _).alloc _) ⟨VD,fun h=>by cases h⟩ ⟨h1,h2,trivial⟩ rfl aF.seq ⟨h.1,cO,h.2,cO,trivial⟩
def WX(hB:BM mb tb bb A A.length w)(h1:fP mb w c1 (.func (.func K1) #[] cs1))(h2:fP mb w c2 (.func (.func K2) #[] cs2))(h3:fP mb w c3 (.func (.func K3) #[] cs3)):Calls prog 182 #[.func (.func K1) #[] cs1,.func (.func K2) #[] cs2,.func (.func K3) #[] cs3] w (BA mb tb bb A ⟨8,0,nm,[c1,c2,c3],[]⟩ w):=by
 refine(OG).mono ?_;rintro e u⟨rfl,rfl⟩;have h:=Gk w (.cells #[.func (.func K1) #[] cs1] aW) (.cells #[.func (.func K2) #[] cs2] aW) (.cells #[.func (.func K3) #[] cs3] aW);exact BA.of (l:=[w.heap.size,w.heap.size+1,w.heap.size+1+1]) (xs:=[_,_,_]) hB ((((Fresh.refl w).alloc _).alloc _).alloc _) ⟨VD,fun h=>by cases h⟩ ⟨h1,h2,h3,trivial⟩ rfl aF.choice ⟨h.1,cO,h.2.1,cO,h.2.2,cO,trivial⟩
def Cu(hB:BM mb tb bb A A.length w)(h1:fP mb w c1 (.func (.func K1) #[] cs1))(h2:fP mb w c2 (.func (.func K2) #[] cs2)):Calls prog 181 #[.func (.func 55) #[aA mb] #[],.func (.func K1) #[] cs1,.func (.func K2) #[] cs2] w (BA mb tb bb A ⟨13,0,nm,[c1,c2],[]⟩ w):=by
 refine(UJ).mono ?_;rintro e u⟨rfl,rfl⟩;have h:=Gk w (.cells #[.func (.func 55) #[aA mb] #[]] 1) (.cells #[.func (.func K1) #[] cs1] aW) (.cells #[.func (.func K2) #[] cs2] aW);exact BA.of (l:=[w.heap.size+1,w.heap.size+1+1,w.heap.size]) (xs:=[_,_]) hB ((((Fresh.refl w).alloc _).alloc _).alloc _) ⟨VD,fun h=>by cases h⟩ ⟨h1,h2,trivial⟩ rfl aF.apply ⟨h.2.1,cO,h.2.2,cO,h.1,IW,trivial⟩
def Gd(hB:BM mb tb bb A A.length w)(h1:fP mb w c1 (.func (.func K1) #[] cs1))(h2:fP mb w c2 (.func (.func K2) #[] cs2)):Calls prog 185 #[rX,.func (.func K1) #[] cs1,.func (.func K2) #[] cs2] w (BA mb tb bb A ⟨11,0,nm,[c1,c2],[]⟩ w):=by
 refine(Al).mono ?_;rintro e u⟨rfl,rfl⟩;have h:=Gk w (.cells #[rX] pD) (.cells #[.func (.func K1) #[] cs1] aW) (.cells #[.func (.func K2) #[] cs2] aW);exact BA.of (l:=[w.heap.size+1,w.heap.size+1+1,w.heap.size]) (xs:=[_,_]) hB ((((Fresh.refl w).alloc _).alloc _).alloc _) ⟨VD,fun h=>by cases h⟩ ⟨h1,h2,trivial⟩ rfl aF.calc ⟨h.2.1,cO,h.2.2,cO,h.1,wT,trivial⟩
def Hq(hB:BM mb tb bb A A.length w):Calls prog 88 #[jB 0] w (BA mb tb bb A ⟨0,0,nm,[],[]⟩ w):=by
 refine(vD).mono ?_;rintro e u⟨rfl,rfl⟩;exact BA.of (l:=[w.heap.size]) (xs:=[]) hB ((Fresh.refl w).alloc _) ⟨VD,fun h=>by cases h⟩ trivial rfl aF.always ⟨JZ _ _,oJ (qX ⟨_,_,rfl⟩),trivial⟩
def WW(hB:BM mb tb bb A A.length w):Calls prog 88 #[iW] w (BA mb tb bb A ⟨2,0,nm,[],[]⟩ w):=by
 refine(vD).mono ?_;rintro e u⟨rfl,rfl⟩;exact BA.of (l:=[w.heap.size]) (xs:=[]) hB ((Fresh.refl w).alloc _) ⟨VD,fun h=>by cases h⟩ trivial rfl aF.always ⟨JZ _ _,oJ (qX ⟨_,_,rfl⟩),trivial⟩
end
end
def Fresh.below{w u:World}(h:Below w.heap.size w u):Fresh w u:=⟨Kn.AP h,.same h.size (fun k c t f _ hc=>h.block k (aB hc)) (fun k _ hl=>h.block k hl) ⟨h.os,h.tape,h.output⟩⟩
def qR(w:World):Calls prog 186 #[.string (bs [60])] w fun e w'=>e=.returned rX/\w'=w:=by
 have hb:bs [60]=⟨#[60]⟩:=rfl;rw[hb];unfold rX;go_enter func186,ntmps186;go_wp2;refine bodyPost_ret (v:=.func (.func 250) #[] #[]) (by simp[results,results186,go_sem]) rfl ⟨rfl,rfl⟩
def NZ{nb:Nat}{w:World}(c0:w.cell? ⟨nb,0,none⟩=some (.int .i64 2)):Calls prog 128 #[aA nb] w fun e w'=>e=.returned iW/\w'=w:=by
 unfold aA iW;go_enter func128,ntmps128;go_wp2;refine bodyPost_ret (v:=.iface 167 (.agg #[])) (by simp[results,results128,go_sem]) rfl ⟨rfl,rfl⟩
def NY{nb:Nat}{w:World}(c0:w.cell? ⟨nb,0,none⟩=some (.int .i64 0))(c1:w.cell? ⟨nb,1,none⟩=some (.string (bs [48]))):Calls prog 128 #[aA nb] w fun e w'=>e=.returned (jB 0)/\Fresh w w':=by
 have hP:Calls prog 168 #[.string (bs [48]),.int .i64 10,.int .i64 64] w fun e w'=>e=.returned (.tuple #[.int .i64 0,.nilIface])/\Hid (Fresh w w'):=by
  refine(Tryz.strconv_ParseInt_10_at64_ok (bs [48]) (by decide) 0 (by decide) w).mono ?_;rintro e w'⟨rfl,hw|⟨t,rfl⟩⟩
  ·rw[hw];exact⟨rfl,Fresh.refl w⟩
  ·exact⟨rfl,Fresh.below (Lib.bytesWorld_below w _ t)⟩
 have HP:=aC hP;clear hP;generalize bs [48]=sx at *;unfold aA jB;go_enter func128,ntmps128;go_wp2_with fail;refine(HP.out).mono ?_;rintro e w1⟨rfl,HF⟩;go_wp2;refine bodyPost_ret (v:=.iface 2 (.int .i64 0)) (by simp[results,results128,go_sem]) rfl ⟨rfl,HF.out⟩
def PA:(prog.info? aW).map (fun i=>(i.zero,i.size,i.bytes))=some (some .nilFunc,1,8):=by kernel_rfl
structure KL(w w':World):Prop where
 one:∀(k:Nat)(x:Value)(t:TypeId),w.heap[k]?=some (.cells #[x] t (0,0))->w'.heap[k]?=w.heap[k]?
 oth:∀(k:Nat)(c:Array Value)(t:TypeId)(f:Nat×Nat),t=cW\/t=kG->w.heap[k]?=some (.cells c t f)->w'.heap[k]?=w.heap[k]?
def Bxs.AY{w w':World}(hk:KL w w'):∀{r:List (TypeId×Value)}{l:List Nat},Bxs w r l->Bxs w' r l:=by
 intro r
 induction r with
 |nil=>intro l h;cases l with|nil=>trivial|cons=>exact h.elim
 |cons x r ih=>
  intro l h;obtain⟨t,v⟩:=x
  cases l with
  |nil=>exact h.elim
  |cons b l=>exact⟨(hk.one b _ _ h.1).trans h.1,h.2.1,ih h.2.2⟩
def Clo.AY{w w':World}(hk:KL w w'){v:Value}{K:Nat}{r:List (TypeId×Value)}(h:Clo w v K r):Clo w' v K r:=by
 obtain⟨h0,l,h1,h2⟩:=h;exact⟨h0,l,h1,h2.AY hk⟩
def FA.AY{w u:World}(hk:KL w u){nm:Nm}:∀{xs:List Value}{v:Value},FA w nm xs v->FA u nm xs v:=by
 intro xs
 induction xs with
 |nil=>intro v h;exact Clo.AY hk h
 |cons x r ih=>intro v h;obtain⟨q,h1,h2⟩:=h;exact⟨q,ih h1,h2.AY hk⟩
def jV.AY{w u:World}(hk:KL w u){pts:List Pt}{xs:List Value}{v:Value}(h:jV w pts xs v):jV u pts xs v:=by
 obtain⟨h0,hl,g,cap,cs,h1,h2,h3⟩:=h;refine⟨h0,hl,g,cap,cs,h1,(hk.oth _ _ _ _ (inl rfl) h2).trans h2,fun i p x hp hx=>?_⟩;obtain⟨pv,q1,q2,hn,sl,q3,q4⟩:=h3 i p x hp hx;refine⟨pv,q1,q2,hn,sl,q3.AY hk,?_⟩;rcases q4 with q4|⟨g,cap,cs,r1,r2,r3⟩
 ·exact inl q4
 ·exact inr ⟨g,cap,cs,r1,(hk.oth _ _ _ _ (inr rfl) r2).trans r2,r3⟩
def pB.AY{mb:Nat}{w w':World}(hk:KL w w'):∀(n:Nat)(c:Cd)(v:Value),pB mb w n c v->pB mb w' n c v:=by
 intro n
 induction n with
 |zero=>intro c v h;exact h.elim
 |succ n ih=>
  intro c v h;obtain⟨h0,xs,h1,⟨K,bl,h2,h3⟩|⟨h2,hl,q,h3,h4⟩|⟨h2,x,r,q,h3,h4,h5⟩⟩:=h
  ·exact⟨h0,xs,h1.imp ih,inl ⟨K,bl,h2,h3.AY hk⟩⟩
  ·exact⟨h0,xs,h1.imp ih,inr (inl ⟨h2,hl,q,h3.AY hk,h4.AY hk⟩)⟩
  ·exact⟨h0,xs,h1.imp ih,inr (inr ⟨h2,x,r,q,h3,h4.AY hk,h5.AY hk⟩)⟩
def fP.AY{mb:Nat}{w w':World}(hk:KL w w')(c:Cd)(v:Value)(h:fP mb w c v):fP mb w' c v:=h.elim fun n hn=>⟨n,hn.AY hk⟩
section
variable {mb tb bb:Nat}{A:List Nm}{w u:World}
def BM.tree(h:BM mb tb bb A A.length w)(hk:Kn (fun k=>k=tb\/k=bb) w u){nd:Nd}{nb:Nat}(hn:AB w nd nb):AB u nd nb:=
 AB.kept (fun k c f hc=>hk.block k (aB hc) fun e=>by rcases e with e|e;exact h.AF hc e;exact h.AI hc (by decide) e) (fun k c f hc=>hk.block k (aB hc) fun e=>by rcases e with e|e;exact h.AF hc e;exact h.AI hc (by decide) e) nd nb hn
def BM.pt(h:BM mb tb bb A A.length w)(hk:Kn (fun k=>k=tb\/k=bb) w u){nb k g cap:Nat}{txt:Nm}{bl:List Nat}(hp:dH nb k txt g cap bl w):dH nb k txt g cap bl u:=by
 obtain⟨cs,h1,h2⟩:=hp.row;refine⟨(hk.block nb (aB hp.node) fun e=>?_).trans hp.node,cs,(hk.block g (aB h1) fun e=>?_).trans h1,h2⟩
 ·rcases e with e|e;exact h.AF hp.node e;exact h.AI hp.node (by decide) e
 ·rcases e with e|e;exact h.AF h1 e;exact h.AI h1 (by decide) e
structure qW(mb tb bb:Nat)(A:List Nm)(w:World)(cds:List Cd)(i:Nat)(v:Value)(wr:World):Prop where
 bm:BM mb tb bb A A.length wr
 kn:Kn (fun k=>k=tb\/k=bb) w wr
 row:∃xs,wr.ownsRow w.heap.size aW 1 v i xs/\Each (fP mb wr) (cds.take i) xs
 nul:i=0->v=.slice none 0 0
def qW.more{cds:List Cd}{i K:Nat}{v:Value}{wr:World}{cs:Array Value}{c:Cd}(h:qW mb tb bb A w cds i v wr)(hi:cds[i]?=some c)(hn:i<=1000)(ha:BA mb tb bb A c wr (.returned (.func (.func K) #[] cs)) u) :
  ∃v' w2,(Builtin.append_ #[229,229] 229 #[v,.slice (some ⟨u.heap.size,0,none⟩) 1 1]).run prog (u.alloc (.cells #[.func (.func K) #[] cs] aW))=.ok v' w2/\qW mb tb bb A w cds (i+1) v' w2:=by
 obtain⟨K',cs',Zd,hb,hk,hc⟩:=ha;cases Zd;obtain⟨xs,Rk,Pl⟩:=h.row;obtain⟨i0,B8,Og,Lz,Nj⟩:=info_parts PA;have Qw:=h.bm.kr hk;have Jr:u.ownsRow w.heap.size aW 1 v i xs:=aE Rk fun k c f _ Nr=>hk.block k (aB Nr) fun e=>by rcases e with e|e;exact h.bm.AF Nr e;exact h.bm.AI Nr (by decide) e
 have Ll:=Jr.alloc (.cells #[.func (.func K) #[] cs] aW);have Ks:∀j z,[func (.func K) #[] cs][j]?=some z->(u.alloc (.cells #[.func (.func K) #[] cs] aW)).cell? ((⟨u.heap.size,0,none⟩:Addr).add j)=some z:=fun j z hj=>fK rfl (by simpa using hj);have Qh:∀z∈[func (.func K) #[] cs],z.oneCell'=true:=by intro z hz;simp at hz;subst hz;rfl
 have Ra:w.heap.size<=u.heap.size:=le_trans h.kn.size hk.size;obtain⟨v',w2,Jo,Nf,Pe,_⟩:=run_append_own (P:=prog) (u.alloc (.cells #[.func (.func K) #[] cs] aW)) w.heap.size 229 229 aW i0 .nilFunc 1 8 underlying229 B8 Og Lz Nj rfl (by decide) v i xs Ll ⟨u.heap.size,0,none⟩ 1 1 [.func (.func K) #[] cs] rfl Ks Qh (by unfold maxLen;omega) (by omega) (by rw[aK];omega);refine⟨v',w2,Jo,?_⟩
 have Ww:∀g,v.ownBlock=some g->∃c f,u.heap[g]?=some (.cells c aW f)/\w.heap.size<=g:=fun g hg=>by
  rcases Jr.2 with⟨rfl,_⟩|⟨g',cap,cur,rfl,Wo,Ng,_⟩
  ·simp[ownBlock]at hg
  ·have:g'=g:=by simpa [ownBlock]using hg
   subst this;exact⟨_,_,Ng,Wo⟩
 have hold:∀k,k<u.heap.size->v.ownBlock≠some k->w2.heap[k]?=u.heap[k]?:=fun k Jy Ju=>by
  rw[Pe.block k (by rw[aK];omega) (fun e=>Ju e.symm),bC,if_neg (by omega)]
 have Ox:v.ownBlock≠some bb:=fun e=>by
  obtain⟨c,f,h1,_⟩:=Ww _ e;exact hb.AI h1 (by decide) rfl
 have Uj:v.ownBlock≠some tb:=fun e=>by
  obtain⟨c,f,h1,_⟩:=Ww _ e;exact hb.AF h1 rfl
 have Ke:u.heap.size<=w2.heap.size:=by
  have:=Pe.size;rw[aK]at this;omega
 obtain⟨n2,f2,t1,t2⟩:=hb.tab;have Mf:BM mb tb bb A A.length w2:=⟨(hold bb (aB hb.bld) Ox).trans hb.bld,⟨n2,f2,t1.kept (hold tb t1.lt Uj),t2⟩,hb.len⟩
 have Nq:Kn (fun k=>k=tb\/k=bb) w w2:=by
  have Nn:=h.kn.trans hk;refine⟨Pe.os.trans Nn.os,Pe.tape.trans Nn.tape,Pe.output.trans Nn.output,le_trans Nn.size Ke,fun k Kj hd=>?_⟩;rw[hold k (lt_of_lt_of_le Kj Nn.size) (fun e=>by obtain⟨_,_,_,h3⟩:=Ww _ e;omega)];exact Nn.block k Kj hd
 have O2:∀(k:Nat)(x:Value)(t:TypeId),u.heap[k]?=some (.cells #[x] t (0,0))->w2.heap[k]?=u.heap[k]?:=fun k x t hc=>by
  by_cases Vu:v.ownBlock=some k
  ·rcases Ll.2 with⟨rfl,_⟩|⟨g0,cap,cur,rfl,Wo,hg,Wk,Xo,Rh,Oz⟩
   ·simp[ownBlock]at Vu
   ·have J9:g0=k:=by simpa [ownBlock]using Vu
    subst J9;have Js:=aB hc;rw[bC,if_neg (by omega),hc]at hg;have hcur:cur=#[x]:=by simp at hg;exact hg.1.symm
    have Oc:cap=1:=by rw[hcur]at Rh;simpa using Rh.symm
    subst Oc;have S4:i≠0:=fun e=>by have:=h.nul e;cases this
    have hr:=run_append_grow (P:=prog) (u.alloc (.cells #[.func (.func K) #[] cs] aW)) 229 229 aW i0 .nilFunc underlying229 B8 Og ⟨g0,0,none⟩ i 1 xs (by rw[Lz];exact Jr.1) (Ll.cells (g:=g0) rfl) ⟨u.heap.size,0,none⟩ 1 1 [.func (.func K) #[] cs] (by rw[Lz];rfl) Ks (by omega) (by omega) (growslice_fits (by omega) (by rw[Nj];omega));rw[Jo]at hr;simp only[Result.ok.injEq]at hr;rw[hr.2,bC,if_neg (by show g0≠(u.alloc _).heap.size;rw[aK];omega)]
    show (u.alloc _).heap[g0]?=_;rw[bC,if_neg (by omega)]
  ·exact hold k (aB hc) Vu
 have A9:KL u w2:=⟨O2,fun k c t f ht hc=>hold k (aB hc) fun e=>by
  obtain⟨_,_,h1,_⟩:=Ww _ e;rw[hc]at h1;have:=aN h1
  rcases ht with rfl|rfl<;>exact absurd this (by decide)⟩
 have Lo:cds.take (i+1)=cds.take i++[c]:=by rw[take_add_one,hi];rfl
 refine⟨Mf,Nq,⟨_,Nf,?_⟩,fun e=>by omega⟩;rw[Lo];exact((Pl.imp (fP.kept Qw)).imp (fP.AY A9)).snoc (hc.AY A9)
end
section
variable {mb tb bb:Nat}{A:List Nm}{w:World}
def mC{k nb g cap:Nat}{txt:Nm}{ps:List Nd}{cds:List Cd}{bl:List Nat}(hB:BM mb tb bb A A.length w)(hp:dH nb k txt g cap bl w)(hm:AB.AD w ps bl)(hl:cds.length=ps.length)(hn:ps.length<=1000)
  (hE:∀(i:Nat)(nd:Nd)(b:Nat)(c:Cd)(u:World),ps[i]?=some nd->bl[i]?=some b->cds[i]?=some c->BM mb tb bb A A.length u->AB u nd b->Calls prog 91 #[aA bb,aA b] u (BA mb tb bb A c u)) :
  ∃LI:Nat->Value->World->Prop,bl.length<=1000/\LI 0 (.slice none 0 0) w /\
   (∀i v wr,LI i v wr->i<bl.length->∃b,wr.cell? ⟨g,i,none⟩=some (aA b)/\g<wr.heap.size/\Calls prog 91 #[aA bb,aA b] wr fun e u=>∃K cs v' w2,e=.returned (.func (.func K) #[] cs)/\(Builtin.append_ #[229,229] 229 #[v,.slice (some ⟨u.heap.size,0,none⟩) 1 1]).run prog (u.alloc (.cells #[.func (.func K) #[] cs] aW))=.ok v' w2/\Hid (LI (i+1) v' w2)) /\
   ∀v wr,LI bl.length v wr->qW mb tb bb A w cds cds.length v wr:=by
 have Kx:bl.length=ps.length:=hm.len;refine⟨fun i v wr=>qW mb tb bb A w cds i v wr,by omega,⟨hB,Kn.refl _ _,⟨[],ownsRow_nil _ _ _ _,by rw[List.take_zero];trivial⟩,fun _=>rfl⟩,fun i v wr h hi=>?_,fun v wr h=>by rw[hl,<- Kx];exact h⟩;have hpr:=hB.pt h.kn hp;have hmr:AB.AD wr ps bl:=hm.kept (fun k c f hc=>h.kn.block k (aB hc) fun e=>by rcases e with e|e;exact hB.AF hc e;exact hB.AI hc (by decide) e) (fun k c f hc=>h.kn.block k (aB hc) fun e=>by rcases e with e|e;exact hB.AF hc e;exact hB.AI hc (by decide) e);obtain⟨b,hb⟩:∃b,bl[i]?=some b:=⟨_,getElem?_eq_getElem hi⟩;obtain⟨nd,Ul⟩:∃nd,ps[i]?=some nd:=⟨_,getElem?_eq_getElem (by omega)⟩;obtain⟨c,hc⟩:∃c,cds[i]?=some c:=⟨_,getElem?_eq_getElem (by omega)⟩;obtain⟨cs0,C0,_⟩:=hpr.row;obtain⟨b',Vi,Lr⟩:=hmr.at Ul;rw[hb]at Vi;cases Vi;refine⟨b,hpr.cells.2.2.2 i b hb,aB C0,(hE i nd b c wr Ul hb hc h.bm Lr).mono ?_⟩;intro e u ha;obtain⟨K,cs,rfl,_⟩:=id ha;obtain⟨v',w2,h1,h2⟩:=h.more hc (by omega) ha;exact⟨K,cs,v',w2,rfl,h1,h2⟩
def qW.end2{c1 c2:Cd}{v:Value}{wr:World}(h:qW mb tb bb A w [c1,c2] 2 v wr):∃g cap K1 cs1 K2 cs2,v=.slice (some ⟨g,0,none⟩) 2 cap/\wr.cell? ⟨g,0,none⟩=some (.func (.func K1) #[] cs1)/\wr.cell? ⟨g,1,none⟩=some (.func (.func K2) #[] cs2)/\fP mb wr c1 (.func (.func K1) #[] cs1)/\fP mb wr c2 (.func (.func K2) #[] cs2):=by
 obtain⟨xs,h1,h2⟩:=h.row;obtain⟨g,cap,rfl,hc⟩:=dI h1 (by decide)
 match xs,h2 with
 |[x1,x2],h2=>
  have q1:fP mb wr c1 x1:=h2.1;have q2:fP mb wr c2 x2:=h2.2.1;obtain⟨K1,cs1,rfl,_⟩:=q1.elim fun n h=>h.form;obtain⟨K2,cs2,rfl,_⟩:=q2.elim fun n h=>h.form;exact⟨g,cap,K1,cs1,K2,cs2,rfl,hc 0 _ rfl,hc 1 _ rfl,q1,q2⟩
def qW.end3{c1 c2 c3:Cd}{v:Value}{wr:World}(h:qW mb tb bb A w [c1,c2,c3] 3 v wr):∃g cap K1 cs1 K2 cs2 K3 cs3,v=.slice (some ⟨g,0,none⟩) 3 cap/\wr.cell? ⟨g,0,none⟩=some (.func (.func K1) #[] cs1)/\wr.cell? ⟨g,1,none⟩=some (.func (.func K2) #[] cs2)/\wr.cell? ⟨g,2,none⟩=some (.func (.func K3) #[] cs3)/\fP mb wr c1 (.func (.func K1) #[] cs1)/\fP mb wr c2 (.func (.func K2) #[] cs2)/\fP mb wr c3 (.func (.func K3) #[] cs3):=by
 obtain⟨xs,h1,h2⟩:=h.row;obtain⟨g,cap,rfl,hc⟩:=dI h1 (by decide)
 match xs,h2 with
 |[x1,x2,x3],h2=>
  have q1:fP mb wr c1 x1:=h2.1;have q2:fP mb wr c2 x2:=h2.2.1;have q3:fP mb wr c3 x3:=h2.2.2.1;obtain⟨K1,cs1,rfl,_⟩:=q1.elim fun n h=>h.form;obtain⟨K2,cs2,rfl,_⟩:=q2.elim fun n h=>h.form;obtain⟨K3,cs3,rfl,_⟩:=q3.elim fun n h=>h.form;exact⟨g,cap,K1,cs1,K2,cs2,K3,cs3,rfl,hc 0 _ rfl,hc 1 _ rfl,hc 2 _ rfl,q1,q2,q3⟩
def QC{nb:Nat}{txt:Nm}{n1 n2:Nd}{c1 c2:Cd}(hB:BM mb tb bb A A.length w)(hn:AB w (.mk 9 txt [n1,n2]) nb)
  (hE:∀(i:Nat)(nd:Nd)(b:Nat)(c:Cd)(u:World),[n1,n2][i]?=some nd->[c1,c2][i]?=some c->BM mb tb bb A A.length u->AB u nd b->Calls prog 91 #[aA bb,aA b] u (BA mb tb bb A c u)) :
  Calls prog 135 #[aA bb,aA nb] w (BA mb tb bb A ⟨9,0,txt,[c1,c2],[]⟩ w):=by
 obtain⟨g,cap,bl,hp,hm,Kx⟩:=hn.pt (by simp);obtain⟨LI,Wn,h0,hs,he⟩:=mC (cds:=[c1,c2]) hB hp hm rfl (by simp) (fun i nd b c u h1 _ h3 h4 h5=>hE i nd b c u h1 h3 h4 h5);have Kx:bl.length=2:=Kx
 have Jp:∀v wr,LI 2 v wr->∃g2 cap2 K1 cs1 K2 cs2,v=.slice (some ⟨g2,0,none⟩) 2 cap2/\(wr.cell? ⟨g2,0,none⟩=some (.func (.func K1) #[] cs1)/\wr.cell? ⟨g2,1,none⟩=some (.func (.func K2) #[] cs2))/\(wr.cell? ⟨nb,0,none⟩=some (.int .i64 9)/\wr.cell? ⟨nb,1,none⟩=some (.string (bs txt))/\wr.cell? ⟨bb,0,none⟩=some (eT mb))/\Hid (∀u,Kn (fun _=>False) wr u->Calls prog 90 #[.func (.func K1) #[] cs1,.func (.func K2) #[] cs2] u (BA mb tb bb A ⟨9,0,txt,[c1,c2],[]⟩ w)):=fun v wr hh=>by
  have Ms:=he v wr (by rw[Kx];exact hh);obtain⟨g2,cap2,K1,cs1,K2,cs2,rfl,r1,r2,q1,q2⟩:=Ms.end2;have hc:=(hB.pt Ms.kn hp).cells;refine⟨_,_,_,_,_,_,rfl,⟨r1,r2⟩,⟨hc.1,hc.2.1,by simp[cell?,Ms.bm.bld]⟩,?_⟩;exact fun u hu=>(Du (Ms.bm.stays hu) (q1.kept (Ms.bm.kr (hu.wide fun _ _ h=>h.elim))) (q2.kept (Ms.bm.kr (hu.wide fun _ _ h=>h.elim)))).mono fun e u2 ha=>ha.behind (Ms.kn.trans (hu.wide fun _ _ h=>h.elim))
 have hc:=hp.cells;obtain⟨z0,z1,z2,_⟩:=hc;rw[Kx]at z2 hs;have H0:=aC h0;have HS:=aC hs;have HF:=aC Jp;clear h0 hs he hp hm hE hB hn Jp Wn;generalize bs txt=tx at *;unfold aA eT at *;go_enter func135,ntmps135;go_wp2_with fail
 go_loopg [5,13] 2 (fun gk v5 v13 wr=>∃i:Nat,v13=.int .i64 (i:Nat)/\i+gk=2/\Hid (LI i v5 wr))
 case atStart=>exact⟨0,rfl,rfl,H0⟩
 case round=>
  clear H0;obtain⟨i,rfl,hi,HL⟩:=hrel
  by_cases Js:i<2
  ·obtain⟨b,e1,e2,hc⟩:=HS.out _ _ _ HL.out Js;have Jt:(i:Int)<2:=by omega
   have HC:=aC hc;clear hc HS HF HL;go_wp2_with fail;refine(HC.out).mono ?_;rintro e u⟨K,cs,v',w2,rfl,Jo,HL⟩;have HR:=aC Jo;clear HC Jo
   go_wp2_with (at_builtin;refine aU rfl _ _ _ rfl (by simp[Act.eval,Act.put]) (by simp[Act.eval,Act.put]) HR.out ?_)
   go_roundg (2-(i+1))
   case rel=>exact⟨i+1,by simp,by omega,HL⟩
   case measure=>omega
  ·have Kg:i=2:=by omega
   subst Kg;have Jt:¬((2:Nat):Int)<2:=by omega
   have hz:=HF.out _ _ HL.out;obtain⟨g2,cap2,K1,cs1,K2,cs2,rfl,⟨r1,r2⟩,⟨d0,d1,d2⟩,HC⟩:=hz;clear HS HF HL;have HV:=aC (AH wr);go_wp2_with fail
   go_region_with ((refine(HC.out _ HV.out).mono ?_);intro e u hq;obtain⟨Kr,csr,rfl,Ki⟩:=hq;have HQ:=aC (show BA mb tb bb A _ w _ u from⟨Kr,csr,rfl,Ki⟩);clear Ki)
   all_goals
    go_wp2;refine bodyPost_ret (v:=.func (.func Kr) #[] csr) (by simp[results,results135,go_sem]) rfl HQ.out
end
section
variable {mb tb bb:Nat}{A:List Nm}{w:World}
def JG{nb:Nat}{txt:Nm}{n1 n2:Nd}{c1 c2:Cd}(hB:BM mb tb bb A A.length w)(hn:AB w (.mk 13 txt [n1,n2]) nb)
  (hE:∀(i:Nat)(nd:Nd)(b:Nat)(c:Cd)(u:World),[n1,n2][i]?=some nd->[c1,c2][i]?=some c->BM mb tb bb A A.length u->AB u nd b->Calls prog 91 #[aA bb,aA b] u (BA mb tb bb A c u)) :
  Calls prog 135 #[aA bb,aA nb] w (BA mb tb bb A ⟨13,0,txt,[c1,c2],[]⟩ w):=by
 obtain⟨g,cap,bl,hp,hm,Kx⟩:=hn.pt (by simp);obtain⟨LI,Wn,h0,hs,he⟩:=mC (cds:=[c1,c2]) hB hp hm rfl (by simp) (fun i nd b c u h1 _ h3 h4 h5=>hE i nd b c u h1 h3 h4 h5);have Kx:bl.length=2:=Kx
 have Jp:∀v wr,LI 2 v wr->∃g2 cap2 K1 cs1 K2 cs2,v=.slice (some ⟨g2,0,none⟩) 2 cap2/\(wr.cell? ⟨g2,0,none⟩=some (.func (.func K1) #[] cs1)/\wr.cell? ⟨g2,1,none⟩=some (.func (.func K2) #[] cs2))/\(wr.cell? ⟨nb,0,none⟩=some (.int .i64 13)/\wr.cell? ⟨nb,1,none⟩=some (.string (bs txt))/\wr.cell? ⟨bb,0,none⟩=some (eT mb))/\Hid (∀u,Kn (fun _=>False) wr u->Calls prog 181 #[.func (.func 55) #[aA mb] #[],.func (.func K1) #[] cs1,.func (.func K2) #[] cs2] u (BA mb tb bb A ⟨13,0,txt,[c1,c2],[]⟩ w)):=fun v wr hh=>by
  have Ms:=he v wr (by rw[Kx];exact hh);obtain⟨g2,cap2,K1,cs1,K2,cs2,rfl,r1,r2,q1,q2⟩:=Ms.end2;have hc:=(hB.pt Ms.kn hp).cells;refine⟨_,_,_,_,_,_,rfl,⟨r1,r2⟩,⟨hc.1,hc.2.1,by simp[cell?,Ms.bm.bld]⟩,?_⟩;exact fun u hu=>(Cu (Ms.bm.stays hu) (q1.kept (Ms.bm.kr (hu.wide fun _ _ h=>h.elim))) (q2.kept (Ms.bm.kr (hu.wide fun _ _ h=>h.elim)))).mono fun e u2 ha=>ha.behind (Ms.kn.trans (hu.wide fun _ _ h=>h.elim))
 have hc:=hp.cells;obtain⟨z0,z1,z2,_⟩:=hc;rw[Kx]at z2 hs;have H0:=aC h0;have HS:=aC hs;have HF:=aC Jp;clear h0 hs he hp hm hE hB hn Jp Wn;generalize bs txt=tx at *;unfold aA eT at *;go_enter func135,ntmps135;go_wp2_with fail
 go_loopg [5,13] 2 (fun gk v5 v13 wr=>∃i:Nat,v13=.int .i64 (i:Nat)/\i+gk=2/\Hid (LI i v5 wr))
 case atStart=>exact⟨0,rfl,rfl,H0⟩
 case round=>
  clear H0;obtain⟨i,rfl,hi,HL⟩:=hrel
  by_cases Js:i<2
  ·obtain⟨b,e1,e2,hc⟩:=HS.out _ _ _ HL.out Js;have Jt:(i:Int)<2:=by omega
   have HC:=aC hc;clear hc HS HF HL;go_wp2_with fail;refine(HC.out).mono ?_;rintro e u⟨K,cs,v',w2,rfl,Jo,HL⟩;have HR:=aC Jo;clear HC Jo
   go_wp2_with (at_builtin;refine aU rfl _ _ _ rfl (by simp[Act.eval,Act.put]) (by simp[Act.eval,Act.put]) HR.out ?_)
   go_roundg (2-(i+1))
   case rel=>exact⟨i+1,by simp,by omega,HL⟩
   case measure=>omega
  ·have Kg:i=2:=by omega
   subst Kg;have Jt:¬((2:Nat):Int)<2:=by omega
   have hz:=HF.out _ _ HL.out;obtain⟨g2,cap2,K1,cs1,K2,cs2,rfl,⟨r1,r2⟩,⟨d0,d1,d2⟩,HC⟩:=hz;clear HS HF HL;have HV:=aC (AH wr);go_wp2_with fail
   go_region_with ((refine(HC.out _ HV.out).mono ?_);intro e u hq;obtain⟨Kr,csr,rfl,Ki⟩:=hq;have HQ:=aC (show BA mb tb bb A _ w _ u from⟨Kr,csr,rfl,Ki⟩);clear Ki)
   all_goals
    go_wp2;refine bodyPost_ret (v:=.func (.func Kr) #[] csr) (by simp[results,results135,go_sem]) rfl HQ.out
end
section
variable {mb tb bb:Nat}{A:List Nm}{w:World}
def QD{nb:Nat}{txt:Nm}{n1 n2 n3:Nd}{c1 c2 c3:Cd}(hB:BM mb tb bb A A.length w)(hn:AB w (.mk 8 txt [n1,n2,n3]) nb)
  (hE:∀(i:Nat)(nd:Nd)(b:Nat)(c:Cd)(u:World),[n1,n2,n3][i]?=some nd->[c1,c2,c3][i]?=some c->BM mb tb bb A A.length u->AB u nd b->Calls prog 91 #[aA bb,aA b] u (BA mb tb bb A c u)) :
  Calls prog 135 #[aA bb,aA nb] w (BA mb tb bb A ⟨8,0,txt,[c1,c2,c3],[]⟩ w):=by
 obtain⟨g,cap,bl,hp,hm,Kx⟩:=hn.pt (by simp);obtain⟨LI,Wn,h0,hs,he⟩:=mC (cds:=[c1,c2,c3]) hB hp hm rfl (by simp) (fun i nd b c u h1 _ h3 h4 h5=>hE i nd b c u h1 h3 h4 h5);have Kx:bl.length=3:=Kx
 have Jp:∀v wr,LI 3 v wr->∃g2 cap2 K1 cs1 K2 cs2 K3 cs3,v=.slice (some ⟨g2,0,none⟩) 3 cap2/\(wr.cell? ⟨g2,0,none⟩=some (.func (.func K1) #[] cs1)/\wr.cell? ⟨g2,1,none⟩=some (.func (.func K2) #[] cs2)/\wr.cell? ⟨g2,2,none⟩=some (.func (.func K3) #[] cs3))/\(wr.cell? ⟨nb,0,none⟩=some (.int .i64 8)/\wr.cell? ⟨nb,1,none⟩=some (.string (bs txt))/\wr.cell? ⟨bb,0,none⟩=some (eT mb))/\Hid (∀u,Kn (fun _=>False) wr u->Calls prog 182 #[.func (.func K1) #[] cs1,.func (.func K2) #[] cs2,.func (.func K3) #[] cs3] u (BA mb tb bb A ⟨8,0,txt,[c1,c2,c3],[]⟩ w)):=fun v wr hh=>by
  have Ms:=he v wr (by rw[Kx];exact hh);obtain⟨g2,cap2,K1,cs1,K2,cs2,K3,cs3,rfl,r1,r2,r3,q1,q2,q3⟩:=Ms.end3;have hc:=(hB.pt Ms.kn hp).cells;refine⟨_,_,_,_,_,_,_,_,rfl,⟨r1,r2,r3⟩,⟨hc.1,hc.2.1,by simp[cell?,Ms.bm.bld]⟩,?_⟩;exact fun u hu=>(WX (Ms.bm.stays hu) (q1.kept (Ms.bm.kr (hu.wide fun _ _ h=>h.elim))) (q2.kept (Ms.bm.kr (hu.wide fun _ _ h=>h.elim))) (q3.kept (Ms.bm.kr (hu.wide fun _ _ h=>h.elim)))).mono fun e u2 ha=>ha.behind (Ms.kn.trans (hu.wide fun _ _ h=>h.elim))
 have hc:=hp.cells;obtain⟨z0,z1,z2,_⟩:=hc;rw[Kx]at z2 hs;have H0:=aC h0;have HS:=aC hs;have HF:=aC Jp;clear h0 hs he hp hm hE hB hn Jp Wn;generalize bs txt=tx at *;unfold aA eT at *;go_enter func135,ntmps135;go_wp2_with fail
 go_loopg [5,13] 3 (fun gk v5 v13 wr=>∃i:Nat,v13=.int .i64 (i:Nat)/\i+gk=3/\Hid (LI i v5 wr))
 case atStart=>exact⟨0,rfl,rfl,H0⟩
 case round=>
  clear H0;obtain⟨i,rfl,hi,HL⟩:=hrel
  by_cases Js:i<3
  ·obtain⟨b,e1,e2,hc⟩:=HS.out _ _ _ HL.out Js;have Jt:(i:Int)<3:=by omega
   have HC:=aC hc;clear hc HS HF HL;go_wp2_with fail;refine(HC.out).mono ?_;rintro e u⟨K,cs,v',w2,rfl,Jo,HL⟩;have HR:=aC Jo;clear HC Jo
   go_wp2_with (at_builtin;refine aU rfl _ _ _ rfl (by simp[Act.eval,Act.put]) (by simp[Act.eval,Act.put]) HR.out ?_)
   go_roundg (3-(i+1))
   case rel=>exact⟨i+1,by simp,by omega,HL⟩
   case measure=>omega
  ·have Kg:i=3:=by omega
   subst Kg;have Jt:¬((3:Nat):Int)<3:=by omega
   have hz:=HF.out _ _ HL.out;obtain⟨g2,cap2,K1,cs1,K2,cs2,K3,cs3,rfl,⟨r1,r2,r3⟩,⟨d0,d1,d2⟩,HC⟩:=hz;clear HS HF HL;have HV:=aC (AH wr);go_wp2_with fail
   go_region_with ((refine(HC.out _ HV.out).mono ?_);intro e u hq;obtain⟨Kr,csr,rfl,Ki⟩:=hq;have HQ:=aC (show BA mb tb bb A _ w _ u from⟨Kr,csr,rfl,Ki⟩);clear Ki)
   all_goals
    go_wp2;refine bodyPost_ret (v:=.func (.func Kr) #[] csr) (by simp[results,results135,go_sem]) rfl HQ.out
end
end Go.Proofs.YthakgdfmbknakaaGreatDoor
