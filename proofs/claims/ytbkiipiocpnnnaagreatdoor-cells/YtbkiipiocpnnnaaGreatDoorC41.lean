import Derived.Test.YtbkiipiocpnnnaaGreatDoorC40
set_option linter.all false
set_option maxHeartbeats 40000000
set_option maxRecDepth 100000
open Go.Proofs.Tryz
open Or (inl inr)
open Option (map_eq_some_iff)
open Nat (le_refl le_trans zero_le lt_of_lt_of_le)
open List (mem_singleton)
namespace Go.Proofs.YtbkiipiocpnnnaaGreatDoor
section
open Go.RowKit
def KI(a0:Act)(w0:World)(l:Array Bool)(a:Act)(w:World):Prop:=∃g,KS a0 g l a/\KW w0 g l w
section
variable {ops:Array Oper}{l:Array Bool}{i:Nat}{o:Oper}{a0 a:Act}{w0 w w':World}{g:Nat->Nat}{Q:Exit->Act->World->Prop}
theorem KS.eval(h:KS a0 g l a){j s:Nat}(hj:j<37)(hl:Ls l j)(hd:dstO j=some s):a.eval (.tmp s)=vS g j:=by
 have:=h.sl j s hj hl hd
 simp[Act.eval,this]
theorem run_callO{f:Nat}{args:Array Operand}{ts:Array TypeId}(hop:o.op=callO f args ts)(he:Enters f):(execOp a.eval o).run prog w=.ok (.enter f (args.map a.eval)) w:=by
 have h1:a.eval (.func f)=.func (.func f) #[] #[]:=rfl
 simp[execOp,hop,callO,resolve,Deferred.ofValue,h1,invoke,he (args.map a.eval) w,Result.andThen]
structure AtK(ops:Array Oper)(a0:Act)(w0:World)(g:Nat->Nat)(l:Array Bool)(a:Act)(w:World)(i:Nat)(o:Oper):Prop where
 ks:KS a0 g l a
 kw:KW w0 g l w
 kc:Kc l
 sz:l.size=37
 lt:i<37
 un:¬Ls l i
 af:∀k∈aftO i,Ls l k
 ho:ops[i]?=some o
 hd:o.dst=dstO i
 hop:o.op=opO i
 hg:o.guard=none
theorem KW.at_map(h:KW w0 g l w)(o:Obj)(hl:Ls l 0):(w.alloc o).heap[g 9]?=w.heap[g 9]?:=by
 obtain⟨n,f,h1,_⟩:=h.mp hl
 exact Below.heap_alloc _ _ _ h1.lt
theorem AtK.pure(h:AtK ops a0 w0 g l a w i o)(hno:∀q,1<=q->q<=12->crO q≠i)(hin:∀g,insO g i=none)(hrun:(execOp a.eval o).run prog w=.ok (.value (vS g i)) w):wpOp prog ops Q i (fun a' w'=>KI a0 w0 (l.setIfInBounds i true) a' w') a w:=by
 refine op_value h.ho h.hg hrun ⟨g,?_,h.kw.keep hno hin h.kw.kn (fun _ _ _ _ e=>e) (fun _=>rfl)⟩
 rw[h.hd]
 exact h.ks.step h.kc h.lt h.un (fun _ _=>rfl) (fun _ _=>rfl)
theorem AtK.key(h:AtK ops a0 w0 g l a w i o)(hno:∀q,1<=q->q<=12->crO q≠i)(hin:∀g,insO g i=none){f:Nat}{nm:Array UInt8}{ts:Array TypeId}(hop:opO i=callO f #[strO nm] ts)(he:Enters f){ob:Obj}
  (hc:Calls prog f #[.string ⟨nm⟩] w fun e w'=>e=.returned (vS g i)/\w'=w.alloc ob):wpOp prog ops Q i (fun a' w'=>KI a0 w0 (l.setIfInBounds i true) a' w') a w:=by
 have hz:(#[strO nm]:Array Operand).map a.eval=#[.string ⟨nm⟩]:=by simp[strO,Act.eval]
 refine op_enter h.ho h.hg (run_callO (h.hop.trans hop) he) ?_
 rw[hz]
 refine hc.mono ?_
 rintro e w1⟨rfl,rfl⟩
 refine⟨_,rfl,g,?_,h.kw.keep hno hin (h.kw.kn.alloc _) (Ck.alloc _ _) (h.kw.at_map _)⟩
 rw[h.hd]
 exact h.ks.step h.kc h.lt h.un (fun _ _=>rfl) (fun _ _=>rfl)
theorem upd_far{q:Nat}(b:Nat)(q1:1<=q)(q2:q<=12):∀x,crO x≠crO q->upd g q b x=g x:=fun x hx=>by
 unfold upd
 rw[if_neg]
 rintro rfl
 exact hx rfl
theorem AtK.node{q:Nat}(h:AtK ops a0 w0 g l a w (crO q) o)(q1:1<=q)(q2:q<9)(hpre:1<q->Ls l (crO (q-1))){f:Nat}{args:Array Operand}{ts:Array TypeId}(hop:opO (crO q)=callO f args ts)(he:Enters f)(hv:∀b,vS (upd g q b) (crO q)=ptrV b)
  (hc:Calls prog f (args.map a.eval) w fun e w'=>∃b,e=.returned (ptrV b)/\w0.heap.size<=b/\Kn (fun _=>False) w0 w'/\Ck w w'/\(Ls l 0->w'.heap[g 9]?=w.heap[g 9]?)/\∀ar,ArOk ar->StoM ar (adK g q) (fun _=>False) (fun _=>0) (stoK q) w->StoM ar (adK g q++[b]) (fun _=>False) (fun _=>0) (stoK (q+1)) w') :
  wpOp prog ops Q (crO q) (fun a' w'=>KI a0 w0 (l.setIfInBounds (crO q) true) a' w') a w:=by
 refine op_enter h.ho h.hg (run_callO (h.hop.trans hop) he) (hc.mono ?_)
 rintro e w1⟨b,rfl,h1,h2,h3,h4,h5⟩
 refine⟨_,rfl,upd g q b,?_,h.kw.makes h.kc h.sz q1 (by omega) h.un h2 h3 h4 h1 (fun _=>⟨hpre,h5⟩) (fun e=>by omega) (fun e=>by omega)⟩
 rw[h.hd]
 exact h.ks.step h.kc h.lt h.un (upd_far b q1 (by omega)) (fun _ _=>(hv b).symm)
theorem adV_adK{m k:Nat}(h:k<m):adV (adK g m) k=ptrV (g k):=by
 unfold adV adA adK
 simp[h]
theorem st_leaf{q:Nat}{nm:Nm}{ar:Nm->Nat}(hq:stoK (q+1)=((stoK q).new ⟨nm,[],0⟩).2)(hn:nm≠[])(ha:ar nm=0)(h:StoM ar (adK g q) (fun _=>False) (fun _=>0) (stoK q) w) :
  StoM ar (adK g q++[w.heap.size]) (fun _=>False) (fun _=>0) (stoK (q+1)) (w.alloc (.cells #[.string (bs nm),.slice none 0 0,.pointer none,.int .i64 0] tyType)):=by
 rw[hq]
 exact h.new (t:=⟨nm,[],0⟩) (pv:=.slice none 0 0) (fun p hp=>(by cases hp)) (fun _=>rfl) (fun _=>ha.symm) (World.ownsRow_nil _ _ _ _) (fun g _ e=>e)
theorem AtK.leaf{q:Nat}{nm:Nm}(h:AtK ops a0 w0 g l a w (crO q) o)(q1:1<=q)(q2:q<9)(hpre:1<q->Ls l (crO (q-1))){f:Nat}(hop:opO (crO q)=callO f #[] #[])(he:Enters f)(hv:∀b,vS (upd g q b) (crO q)=ptrV b)
  (hq:stoK (q+1)=((stoK q).new ⟨nm,[],0⟩).2) (hn:nm≠[]) (ha:∀ar,ArOk ar->ar nm=0)
  (hc:Calls prog f #[] w fun e w'=>e=.returned (ptrV w.heap.size)/\w'=w.alloc (.cells #[.string (bs nm),.slice none 0 0,.pointer none,.int .i64 0] tyType)) :
  wpOp prog ops Q (crO q) (fun a' w'=>KI a0 w0 (l.setIfInBounds (crO q) true) a' w') a w:=by
 refine h.node q1 q2 hpre hop he hv ?_
 have hz:(#[]:Array Operand).map a.eval=#[]:=by simp
 rw[hz]
 refine hc.mono ?_
 rintro e w1⟨rfl,rfl⟩
 exact⟨_,rfl,h.kw.kn.size,h.kw.kn.alloc _,Ck.alloc _ _,h.kw.at_map _,fun ar har hs=>st_leaf hq hn (ha ar har) hs⟩
theorem AtK.arrow{q x y r s:Nat}(h:AtK ops a0 w0 g l a w (crO q) o)(q1:1<=q)(q2:q<9)(hpre:1<q->Ls l (crO (q-1)))(hop:opO (crO q)=callO 26 #[.tmp s] #[92])(hv:∀b,vS (upd g q b) (crO q)=ptrV b)
  (hq:stoK (q+1)=((stoK q).named arrowN [x,y]).2) (hx:x<q) (hy:y<q) (hlen:(stoK q).nodes.length=q) (hr:r=10\/r=11\/r=12) (hrl:Ls l (crO r)) (hev:a.eval (.tmp s)=rowV (g r)) (hrc:rowC g r=#[ptrV (g x),ptrV (g y)]) :
  wpOp prog ops Q (crO q) (fun a' w'=>KI a0 w0 (l.setIfInBounds (crO q) true) a' w') a w:=by
 have hrow:=h.kw.rw r hr hrl
 rw[hrc]at hrow
 refine h.node q1 q2 hpre hop (enters func26 (by kernel_rfl) rfl) hv ?_
 have he:(#[Operand.tmp s].map a.eval)=#[rowV (g r)]:=by simp[hev]
 rw[he]
 refine(Function_two hrow rfl rfl).mono ?_
 rintro e w1⟨rfl,rfl⟩
 refine⟨_,rfl,by have:=h.kw.kn.size;omega,(h.kw.kn.alloc _).alloc _,(Ck.alloc _ _).trans (Ck.alloc _ _),fun hl=>?_,fun ar har hs=>?_⟩
 ·obtain⟨n,f,h1,_⟩:=h.kw.mp hl
  rw[Below.heap_alloc _ _ _ (by have:=h1.lt;simp;omega),Below.heap_alloc _ _ _ h1.lt]
 ·have:=hs.arrow (x:=x) (y:=y) (by rw[hlen];exact hx) (by rw[hlen];exact hy) har.arrow (fun _ e=>e.elim)
  rw[adV_adK hx,adV_adK hy,<- hq]at this
  exact this
theorem AtK.cell(h:AtK ops a0 w0 g l a w (crO 7) o)(hpre:Ls l (crO 6))(hev:a.eval (.tmp 26)=ptrV (g 0)) :
  wpOp prog ops Q (crO 7) (fun a' w'=>KI a0 w0 (l.setIfInBounds (crO 7) true) a' w') a w:=by
 refine h.node (by decide) (by decide) (fun _=>hpre) (f:=29) (args:=#[.tmp 26]) (ts:=#[tyTypeP]) rfl (enters func29 (by kernel_rfl) rfl) (fun b=>rfl) ?_
 have he:(#[Operand.tmp 26].map a.eval)=#[ptrV (g 0)]:=by simp[hev]
 rw[he]
 refine(cellType_any (g 0) w).mono ?_
 rintro e w1⟨rfl,rfl⟩
 refine⟨_,rfl,by have:=h.kw.kn.size;omega,(h.kw.kn.alloc _).alloc _,(Ck.alloc _ _).trans (Ck.alloc _ _),fun hl=>?_,fun ar har hs=>?_⟩
 ·obtain⟨n,f,h1,_⟩:=h.kw.mp hl
  rw[Below.heap_alloc _ _ _ (by have:=h1.lt;simp;omega),Below.heap_alloc _ _ _ h1.lt]
 ·have h1:=hs.alloc (.cells #[ptrV (g 0)] tyTypeP)
  have hrow:(w.alloc (.cells #[ptrV (g 0)] tyTypeP)).ownsRow 0 tyTypeP 1 (.slice (some ⟨w.heap.size,0,none⟩) 1 1) 1 ([0].map (adV (adK g 7))):=
   ⟨rfl,inr ⟨w.heap.size,1,#[ptrV (g 0)],rfl,zero_le _,(MapKept.heap_alloc w _).1,le_refl _,by decide,rfl,rfl⟩⟩
  have:=h1.new (t:=⟨refN,[0],0⟩) (pv:=.slice (some ⟨w.heap.size,0,none⟩) 1 1) (fun p hp=>by
   rw[mem_singleton.1 hp];show 0<7;decide) (fun e=>absurd e (show refN≠[] by decide)) (fun _=>har.ref.symm) hrow (fun g _ e=>e)
  have hsz:(w.alloc (.cells #[ptrV (g 0)] tyTypeP)).heap.size=w.heap.size+1:=by simp
  rw[hsz]at this
  exact this
theorem run_row{ρ:Operand->Value}{s1 s2 x y:Nat}(hop:o.op=.buildSlice 92 2 #[(0,.tmp s1),(1,.tmp s2)])(h1:ρ (.tmp s1)=ptrV x)(h2:ρ (.tmp s2)=ptrV y):(execOp ρ o).run prog w=.ok (.value (rowV w.heap.size)) (w.alloc (.cells #[ptrV x,ptrV y] tyTypeP)):=by
 simp[execOp,hop,h1,h2,ptrV,rowV,go_sem]
theorem run_mg{ρ:Operand->Value}{s x:Nat}(hop:o.op=.build tyMg #[(0,.tmp s)])(h1:ρ (.tmp s)=ptrV x):(execOp ρ o).run prog w=.ok (.value (mgB x)) w:=by
 simp[execOp,hop,h1,ptrV,mgB,mgP,go_sem]
theorem run_mg0{ρ:Operand->Value}(hop:o.op=.build tyMg #[]):(execOp ρ o).run prog w=.ok (.value (mgP none 0)) w:=by
 simp[execOp,hop,mgP,go_sem]
theorem run_mg1{ρ:Operand->Value}(hop:o.op=.build tyMg #[(2,.const (.int .i64 1))])(hk:ρ (.const (.int .i64 1))=.int .i64 1):(execOp ρ o).run prog w=.ok (.value (mgP none 1)) w:=by
 simp[execOp,hop,hk,mgP,go_sem]
theorem AtK.row{q x y s1 s2:Nat}(h:AtK ops a0 w0 g l a w (crO q) o)(hq:q=10\/q=11\/q=12)(hop:opO (crO q)=.buildSlice 92 2 #[(0,.tmp s1),(1,.tmp s2)])(hv:∀b,vS (upd g q b) (crO q)=rowV b)(h1:a.eval (.tmp s1)=ptrV (g x))(h2:a.eval (.tmp s2)=ptrV (g y))(hrc:rowC g q=#[ptrV (g x),ptrV (g y)]) :
  wpOp prog ops Q (crO q) (fun a' w'=>KI a0 w0 (l.setIfInBounds (crO q) true) a' w') a w:=by
 have hrun:(execOp a.eval o).run prog w=.ok (.value (rowV w.heap.size)) (w.alloc (.cells #[ptrV (g x),ptrV (g y)] tyTypeP)):=by
  exact run_row (h.hop.trans hop) h1 h2
 refine op_value h.ho h.hg hrun ⟨upd g q w.heap.size,?_,h.kw.makes h.kc h.sz (by omega) (by omega) h.un (h.kw.kn.alloc _) (Ck.alloc _ _) (h.kw.at_map _) h.kw.kn.size (fun e=>by omega) (fun _=>by rw[hrc];exact(MapKept.heap_alloc _ _).1) (fun e=>by omega)⟩
 rw[h.hd]
 exact h.ks.step h.kc h.lt h.un (upd_far _ (by omega) (by omega)) (fun _ _=>(hv _).symm)
theorem AtK.table(h:AtK ops a0 w0 g l a w 0 o):wpOp prog ops Q 0 (fun a' w'=>KI a0 w0 (l.setIfInBounds 0 true) a' w') a w:=by
 have hrun:(execOp a.eval o).run prog w=.ok (.value (.map (some w.heap.size))) (w.alloc (.map #[] 0)):=by
  have:o.op=.makeMap tyTab none:=h.hop
  have hmm:(Instr.makeMap tyTab none).run prog w=.ok (.map (some w.heap.size)) (w.alloc (.map #[] 0)):=rfl
  simp[execOp,this,hmm,Result.andThen]
 refine op_value h.ho h.hg hrun ⟨upd g 9 w.heap.size,?_,h.kw.makes (q:=9) h.kc h.sz (by decide) (by decide) h.un (h.kw.kn.alloc _) (Ck.alloc _ _) (h.kw.at_map _) h.kw.kn.size (fun e=>by omega) (fun e=>by omega) (fun _=>MapHas.made _ _ w)⟩
 rw[h.hd]
 exact h.ks.step h.kc h.lt h.un (upd_far (q:=9) _ (by decide) (by decide)) (fun _ _=>rfl)
theorem AtK.ins{sk sv:Nat}{x:Ky}{v:Value}(h:AtK ops a0 w0 g l a w i o)(hno:∀q,1<=q->q<=12->crO q≠i)(hdn:dstO i=none)(hop:opO i=.insert tyTab (.tmp 3) (.tmp sk) (.tmp sv))(hl0:Ls l 0)(hin:insO g i=some (x,v))(hx:okK x)(h1:a.eval (.tmp sk)=kyV x)(h2:a.eval (.tmp sv)=v) :
  wpOp prog ops Q i (fun a' w'=>KI a0 w0 (l.setIfInBounds i true) a' w') a w:=by
 obtain⟨w1,e1,e2⟩:=h.kw.lays h.lt hl0 h.sz hin hno hx
 have h3:a.eval (.tmp 3)=.map (some (g 9)):=h.ks.eval (j:=0) (by decide) hl0 rfl
 have hrun:(execOp a.eval o).run prog w=.ok .skip w1:=by
  have:=h.hop.trans hop
  simp[execOp,this,h1,h2,h3,e1,Result.andThen]
 refine op_skip h.ho h.hg hrun ⟨g,?_,e2⟩
 rw[h.hd]
 have:=h.ks.step (v:=undef) h.kc h.lt h.un (g':=g) (fun _ _=>rfl) (fun s hs=>by rw[hdn]at hs;cases hs)
 exact this
end
end
section
open Go.RowKit
section
variable {ops:Array Oper}{l:Array Bool}{i:Nat}{o:Oper}{a0 a:Act}{w0 w w':World}{g:Nat->Nat}{Q:Exit->Act->World->Prop}
theorem run_mv{ρ:Operand->Value}{x:Operand}{v:Value}(hop:o.op=.move x\/o.op=.assign x)(h:ρ x=v):(execOp ρ o).run prog w=.ok (.value v) w:=by
 subst h
 rcases hop with hop|hop<;>simp[execOp,hop]
theorem ka_steps:∀i,i<37->AtK ops a0 w0 g l a w i o->wpOp prog ops Q i (fun a' w'=>KI a0 w0 (l.setIfInBounds i true) a' w') a w:=by
 apply lt37
 ·intro h;exact h.table
 ·intro h;exact h.key (by intro q h1 h2;revert h1;revert h2;revert q;decide) (fun _=>rfl) (f:=24) (nm:=#[105,110,116]) (ts:=#[tyStr]) rfl (enters func24 (by kernel_rfl) rfl) (key2_any ⟨#[105,110,116]⟩ w)
 ·intro h;exact h.pure (by intro q h1 h2;revert h1;revert h2;revert q;decide) (fun _=>rfl) (run_mg0 h.hop)
 ·intro h;exact h.ins (sk:=4) (sv:=5) (x:=(2,[105,110,116])) (by intro q h1 h2;revert h1;revert h2;revert q;decide) rfl rfl (h.af 0 (by decide)) rfl ⟨by decide,by decide⟩ (h.ks.eval (j:=1) (by decide) (h.af 1 (by decide)) rfl) (h.ks.eval (j:=2) (by decide) (h.af 2 (by decide)) rfl)
 ·intro h;exact h.key (by intro q h1 h2;revert h1;revert h2;revert q;decide) (fun _=>rfl) (f:=24) (nm:=#[98,111,111,108]) (ts:=#[tyStr]) rfl (enters func24 (by kernel_rfl) rfl) (key2_any ⟨#[98,111,111,108]⟩ w)
 ·intro h;exact h.pure (by intro q h1 h2;revert h1;revert h2;revert q;decide) (fun _=>rfl) (run_mg0 h.hop)
 ·intro h;exact h.ins (sk:=6) (sv:=7) (x:=(2,[98,111,111,108])) (by intro q h1 h2;revert h1;revert h2;revert q;decide) rfl rfl (h.af 0 (by decide)) rfl ⟨by decide,by decide⟩ (h.ks.eval (j:=4) (by decide) (h.af 4 (by decide)) rfl) (h.ks.eval (j:=5) (by decide) (h.af 5 (by decide)) rfl)
 ·intro h;exact h.key (by intro q h1 h2;revert h1;revert h2;revert q;decide) (fun _=>rfl) (f:=24) (nm:=#[117,110,105,116]) (ts:=#[tyStr]) rfl (enters func24 (by kernel_rfl) rfl) (key2_any ⟨#[117,110,105,116]⟩ w)
 ·intro h;exact h.pure (by intro q h1 h2;revert h1;revert h2;revert q;decide) (fun _=>rfl) (run_mg0 h.hop)
 ·intro h;exact h.ins (sk:=8) (sv:=9) (x:=(2,[117,110,105,116])) (by intro q h1 h2;revert h1;revert h2;revert q;decide) rfl rfl (h.af 0 (by decide)) rfl ⟨by decide,by decide⟩ (h.ks.eval (j:=7) (by decide) (h.af 7 (by decide)) rfl) (h.ks.eval (j:=8) (by decide) (h.af 8 (by decide)) rfl)
 ·intro h;exact h.key (by intro q h1 h2;revert h1;revert h2;revert q;decide) (fun _=>rfl) (f:=24) (nm:=#[114,101,102]) (ts:=#[tyStr]) rfl (enters func24 (by kernel_rfl) rfl) (key2_any ⟨#[114,101,102]⟩ w)
 ·intro h;exact h.pure (by intro q h1 h2;revert h1;revert h2;revert q;decide) (fun _=>rfl) (run_mg1 h.hop rfl)
 ·intro h;exact h.ins (sk:=10) (sv:=11) (x:=(2,[114,101,102])) (by intro q h1 h2;revert h1;revert h2;revert q;decide) rfl rfl (h.af 0 (by decide)) rfl ⟨by decide,by decide⟩ (h.ks.eval (j:=10) (by decide) (h.af 10 (by decide)) rfl) (h.ks.eval (j:=11) (by decide) (h.af 11 (by decide)) rfl)
 ·intro h;exact h.key (by intro q h1 h2;revert h1;revert h2;revert q;decide) (fun _=>rfl) (f:=25) (nm:=#[112,117,116]) (ts:=#[tyStr]) rfl (enters func25 (by kernel_rfl) rfl) (key0_any ⟨#[112,117,116]⟩ w)
 ·intro h;exact h.leaf (q:=1) (nm:=intN) (by decide) (by decide) (fun e=>absurd e (by decide)) (f:=27) rfl (enters func27 (by kernel_rfl) rfl) (fun b=>rfl) rfl (by decide) (fun ar h=>h.int) (intN_any w)
 ·intro h;exact h.leaf (q:=2) (nm:=unitN) (by decide) (by decide) (fun _=>h.af 14 (by decide)) (f:=28) rfl (enters func28 (by kernel_rfl) rfl) (fun b=>rfl) rfl (by decide) (fun ar h=>h.unit) (unitN_any w)
 ·intro h;exact h.row (q:=10) (x:=1) (y:=2) (s1:=13) (s2:=14) (by decide) rfl (fun b=>rfl) (h.ks.eval (j:=14) (by decide) (h.af 14 (by decide)) rfl) (h.ks.eval (j:=15) (by decide) (h.af 15 (by decide)) rfl) rfl
 ·intro h;exact h.arrow (q:=3) (x:=1) (y:=2) (r:=10) (s:=15) (by decide) (by decide) (fun _=>h.af 15 (by decide)) rfl (fun b=>rfl) rfl (by decide) (by decide) rfl (by decide) (h.af 16 (by decide)) (h.ks.eval (j:=16) (by decide) (h.af 16 (by decide)) rfl) rfl
 ·intro h;exact h.pure (by intro q h1 h2;revert h1;revert h2;revert q;decide) (fun _=>rfl) (run_mg (x:=g 3) h.hop (h.ks.eval (j:=17) (by decide) (h.af 17 (by decide)) rfl))
 ·intro h;exact h.ins (sk:=12) (sv:=17) (x:=(0,[112,117,116])) (by intro q h1 h2;revert h1;revert h2;revert q;decide) rfl rfl (h.af 0 (by decide)) rfl ⟨by decide,by decide⟩ (h.ks.eval (j:=13) (by decide) (h.af 13 (by decide)) rfl) (h.ks.eval (j:=18) (by decide) (h.af 18 (by decide)) rfl)
 ·intro h;exact h.key (by intro q h1 h2;revert h1;revert h2;revert q;decide) (fun _=>rfl) (f:=25) (nm:=#[103,101,116]) (ts:=#[tyStr]) rfl (enters func25 (by kernel_rfl) rfl) (key0_any ⟨#[103,101,116]⟩ w)
 ·intro h;exact h.leaf (q:=4) (nm:=unitN) (by decide) (by decide) (fun _=>h.kc 20 (by decide) (h.af 20 (by decide)) 17 (by decide)) (f:=28) rfl (enters func28 (by kernel_rfl) rfl) (fun b=>rfl) rfl (by decide) (fun ar h=>h.unit) (unitN_any w)
 ·intro h;exact h.leaf (q:=5) (nm:=intN) (by decide) (by decide) (fun _=>h.af 21 (by decide)) (f:=27) rfl (enters func27 (by kernel_rfl) rfl) (fun b=>rfl) rfl (by decide) (fun ar h=>h.int) (intN_any w)
 ·intro h;exact h.row (q:=11) (x:=4) (y:=5) (s1:=19) (s2:=20) (by decide) rfl (fun b=>rfl) (h.ks.eval (j:=21) (by decide) (h.af 21 (by decide)) rfl) (h.ks.eval (j:=22) (by decide) (h.af 22 (by decide)) rfl) rfl
 ·intro h;exact h.arrow (q:=6) (x:=4) (y:=5) (r:=11) (s:=21) (by decide) (by decide) (fun _=>h.af 22 (by decide)) rfl (fun b=>rfl) rfl (by decide) (by decide) rfl (by decide) (h.af 23 (by decide)) (h.ks.eval (j:=23) (by decide) (h.af 23 (by decide)) rfl) rfl
 ·intro h;exact h.pure (by intro q h1 h2;revert h1;revert h2;revert q;decide) (fun _=>rfl) (run_mg (x:=g 6) h.hop (h.ks.eval (j:=24) (by decide) (h.af 24 (by decide)) rfl))
 ·intro h;exact h.ins (sk:=18) (sv:=23) (x:=(0,[103,101,116])) (by intro q h1 h2;revert h1;revert h2;revert q;decide) rfl rfl (h.af 0 (by decide)) rfl ⟨by decide,by decide⟩ (h.ks.eval (j:=20) (by decide) (h.af 20 (by decide)) rfl) (h.ks.eval (j:=25) (by decide) (h.af 25 (by decide)) rfl)
 ·intro h;exact h.key (by intro q h1 h2;revert h1;revert h2;revert q;decide) (fun _=>rfl) (f:=25) (nm:=#[114,101,102]) (ts:=#[tyStr]) rfl (enters func25 (by kernel_rfl) rfl) (key0_any ⟨#[114,101,102]⟩ w)
 ·intro h;exact h.pure (by intro q h1 h2;revert h1;revert h2;revert q;decide) (fun _=>rfl) (run_mv (inl h.hop) (by simp[Act.eval,h.ks.t1];rfl))
 ·intro h;exact h.pure (by intro q h1 h2;revert h1;revert h2;revert q;decide) (fun _=>rfl) (run_mv (inl h.hop) (by simp[Act.eval,h.ks.t1];rfl))
 ·intro h;exact h.cell (h.kc 27 (by decide) (h.af 27 (by decide)) 24 (by decide)) (h.ks.eval (j:=29) (by decide) (h.af 29 (by decide)) rfl)
 ·intro h;exact h.row (q:=12) (x:=0) (y:=7) (s1:=25) (s2:=27) (by decide) rfl (fun b=>rfl) (h.ks.eval (j:=28) (by decide) (h.af 28 (by decide)) rfl) (h.ks.eval (j:=30) (by decide) (h.af 30 (by decide)) rfl) rfl
 ·intro h;exact h.arrow (q:=8) (x:=0) (y:=7) (r:=12) (s:=28) (by decide) (by decide) (fun _=>h.af 30 (by decide)) rfl (fun b=>rfl) rfl (by decide) (by decide) rfl (by decide) (h.af 31 (by decide)) (h.ks.eval (j:=31) (by decide) (h.af 31 (by decide)) rfl) rfl
 ·intro h;exact h.pure (by intro q h1 h2;revert h1;revert h2;revert q;decide) (fun _=>rfl) (run_mg (x:=g 8) h.hop (h.ks.eval (j:=32) (by decide) (h.af 32 (by decide)) rfl))
 ·intro h;exact h.ins (sk:=24) (sv:=30) (x:=(0,[114,101,102])) (by intro q h1 h2;revert h1;revert h2;revert q;decide) rfl rfl (h.af 0 (by decide)) rfl ⟨by decide,by decide⟩ (h.ks.eval (j:=27) (by decide) (h.af 27 (by decide)) rfl) (h.ks.eval (j:=33) (by decide) (h.af 33 (by decide)) rfl)
 ·intro h;exact h.pure (by intro q h1 h2;revert h1;revert h2;revert q;decide) (fun _=>rfl) (run_mv (inl h.hop) (h.ks.eval (j:=0) (by decide) (h.af 0 (by decide)) rfl))
 ·intro h;exact h.pure (by intro q h1 h2;revert h1;revert h2;revert q;decide) (fun _=>rfl) (run_mv (inr h.hop) (h.ks.eval (j:=35) (by decide) (h.af 35 (by decide)) rfl))
theorem ka_step(hF:KaOps ops)(hI:KI a0 w0 l a w)(hc:Cl .any ops l)(hs:l.size=ops.size)(hi:i∈Region.ready .any ops l):wpOp prog ops Q i (fun a' w'=>KI a0 w0 (l.setIfInBounds i true) a' w') a w:=by
 obtain⟨g,h1,h2⟩:=hI
 obtain⟨r1,r2,r3,o,r4,r5,r6,r7⟩:=hF.ready hi
 exact ka_steps i r1 ⟨h1,h2,hF.kc hc,by rw[hs];exact hF.size,r1,r2,r3,r4,r5,r6,r7⟩
theorem KaOps.order(h:KaOps ops)(hb:(ops.toList.all fun o=>o.after.toList.all fun e=>Region.binds .any e)=true):∀(i:Nat)(o:Oper),ops[i]?=some o->∀e∈o.after,e.on<i:=by
 intro i o ho e he
 obtain⟨h1,_,_,_,h5⟩:=h.at ho
 have hm:e.on∈aftO i:=by
  rw[<- h5]
  exact List.mem_map.2 ⟨e,List.mem_filter.2 ⟨by simpa using he,List.all_eq_true.1 (List.all_eq_true.1 hb o (by simpa using Array.mem_of_getElem? ho)) e (by simpa using he)⟩,rfl⟩
 have:∀i,i<37->∀k∈aftO i,k<i:=by decide
 exact this i h1 _ hm
theorem KI.start(w0:World)(a:Act)(hs:a.tmps.size=32)(h1:a.tmps[1]?=some (ptrV w0.heap.size))(n:Nat) :
  KI a w0 (Array.replicate n false) a (w0.alloc (.cells #[.string (bs []),.slice none 0 0,.pointer none,.int .i64 (openD:Nat)] tyType)).drew:=by
 have hno:∀j,¬Ls (Array.replicate n false) j:=fun j h=>by
  unfold Ls at h
  simp[Array.getD]at h
 refine⟨fun _=>w0.heap.size,⟨hs,rfl,h1,fun j s _ hl=>absurd hl (hno j)⟩,⟨((Kn.refl _ w0).alloc _).drew,le_refl _,fun q _ _ hl=>absurd hl (hno _),⟨1,le_refl _,by decide,fun k k1 k2=>⟨fun hl=>absurd hl (hno _),fun hl=>by omega⟩,fun ar har=>?_⟩,fun q _ hl=>absurd hl (hno _),fun hl=>absurd hl (hno _)⟩⟩
 have h0:StoM ar [] (fun _=>False) (fun _=>0) (⟨[],[],[]⟩:TS) w0:=⟨⟨trivial,fun i tn h=>by simp at h,fun g hg=>by cases hg⟩,rfl,List.Pairwise.nil,fun i hi=>by simp at hi⟩
 have:=h0.new (t:=⟨[],[],openD⟩) (pv:=.slice none 0 0) (fun p hp=>by cases hp) (fun _=>rfl) (fun e=>absurd rfl e) (World.ownsRow_nil _ _ _ _) (fun g _ e=>e)
 exact this.kept (fun _ _=>rfl) (fun _ _ _ _ _=>rfl)
theorem KI.done(h:KI a0 w0 l a w)(hl:∀i,i<37->Ls l i):a.defers=a0.defers/\a.tmps.size=32/\∃tb,a.tmps[0]?=some (.map (some tb))/\AheadAt w0 (.returned (.map (some tb))) w:=by
 obtain⟨g,hS,hW⟩:=h
 refine⟨hS.df,hS.ts,g 9,hS.sl 36 0 (by decide) (hl 36 (by decide)) rfl,hW.kn,g 9,adK g 9,fun _=>0,rfl,hW.lo 9 (by decide) (by decide) (hl _ (by decide)),fun b hb=>?_,?_,fun ar har=>?_⟩
 ·obtain⟨k,hk,rfl⟩:=List.mem_map.1 hb
  have hk:=List.mem_range.1 hk
  by_cases h0:k=0
  ·subst h0;exact hW.g0
  ·exact hW.lo k (by omega) (by omega) (hl _ (cr_lt k (by omega) (by omega)))
 ·obtain⟨n,f,h1,h2⟩:=hW.mp (hl 0 (by decide))
  refine⟨n,f,h1,fun x hx=>?_⟩
  have hput:∀j v,j<37->insO g j=some (x,v)->f x=some v:=fun j v hj e=>(h2 x v).2 ⟨j,hj,hl j hj,e⟩
  have hmg:∀t,t<9->MgAt (adK g 9) w (Mg.var t) (mgB (g t)):=fun t ht=>⟨.slice none 0 0,.slice none 0 0,[],by
   show mgB (g t)=.agg #[adV (adK g 9) t,_,_,_,_,_]
   rw[adV_adK ht];rfl,fun t' e=>(by cases e;show t<(adK g 9).length;simp[adK,ht]),World.ownsRow_nil _ _ _ _,World.ownsRow_nil _ _ _ _,by show NMem.NMems w [] [];rw[NMem.NMems];trivial⟩
  have hty:∀k:Nat,MgAt (adK g 9) w (Mg.type k) (mgP none k):=fun k=>⟨.slice none 0 0,.slice none 0 0,[],rfl,fun t' e=>(by cases e),World.ownsRow_nil _ _ _ _,World.ownsRow_nil _ _ _ _,by show NMem.NMems w [] [];rw[NMem.NMems];trivial⟩
  by_cases e1:x=(0,[112,117,116])
  ·subst e1;exact inr ⟨_,_,rfl,hput 19 _ (by decide) rfl,hmg 3 (by decide)⟩
  by_cases e2:x=(0,[103,101,116])
  ·subst e2;exact inr ⟨_,_,rfl,hput 26 _ (by decide) rfl,hmg 6 (by decide)⟩
  by_cases e3:x=(0,refN)
  ·subst e3;exact inr ⟨_,_,rfl,hput 34 _ (by decide) rfl,hmg 8 (by decide)⟩
  by_cases e4:x=(2,intN)
  ·subst e4;exact inr ⟨_,_,rfl,hput 3 _ (by decide) rfl,hty 0⟩
  by_cases e5:x=(2,boolN)
  ·subst e5;exact inr ⟨_,_,rfl,hput 6 _ (by decide) rfl,hty 0⟩
  by_cases e6:x=(2,unitN)
  ·subst e6;exact inr ⟨_,_,rfl,hput 9 _ (by decide) rfl,hty 0⟩
  by_cases e7:x=(2,refN)
  ·subst e7;exact inr ⟨_,_,rfl,hput 12 _ (by decide) rfl,hty 1⟩
  refine inl ⟨?_,?_⟩
  ·simp only[ahead,Env.get]
   rw[if_neg e1,if_neg e2,if_neg e3,if_neg e4,if_neg e5,if_neg e6,if_neg e7]
  ·cases hf:f x with
   |none=>rfl
   |some v=>
    obtain⟨j,_,_,e⟩:=(h2 x v).1 hf
    exfalso
    unfold insO at e
    split at e
    ·cases e;exact e4 rfl
    ·cases e;exact e5 rfl
    ·cases e;exact e6 rfl
    ·cases e;exact e7 rfl
    ·cases e;exact e1 rfl
    ·cases e;exact e2 rfl
    ·cases e;exact e3 rfl
    ·cases e
 ·obtain⟨m,m1,m2,m3,m4⟩:=hW.nd
  have:m=9:=by
   have:=(m3 8 (by decide) (by decide)).1 (hl _ (by decide))
   omega
  subst this
  exact m4 ar har
end
theorem knownAhead_any(w:World):Calls prog 11 #[] w (AheadAt w):=by
 have hc:=NewOpenLetter_any w
 have hst:=KI.start w
 have hdn:∀(a0:Act)(l:Array Bool)(a:Act)(u:World),KI a0 w l a u->(∀i,i<37->l.getD i false=true)->a.defers=a0.defers/\a.tmps.size=32/\∃tb,a.tmps[0]?=some (.map (some tb))/\AheadAt w (.returned (.map (some tb))) u:=fun a0 l a u h hl=>h.done hl
 have HC:=hide hc
 have HST:=hide hst
 have HDN:=hide hdn
 clear hc hst hdn
 generalize AheadAt w=Q at *
 go_enter func11,ntmps11
 go_wp2_with fail
 refine(HC.out).mono ?_;rintro e w1⟨rfl,rfl⟩
 go_wp2_with fail
 rename_i K hK
 refine wp_region_inv (I:=KI _ w) (by kernel_rfl) (fun l a u h hc hs i hi=>ka_step (show KaOps _ from by unfold KaOps;kernel_rfl) h hc hs hi) (fun l a u h hl=>?_) (KaOps.order (show KaOps _ from by unfold KaOps;kernel_rfl) (by kernel_rfl)) (HST.out _ (by rfl) (by rfl) _)
 obtain⟨hd,_,tb,h0,hq⟩:=HDN.out _ l a u h hl
 have HQ:=hide hq
 clear hq h hl HDN HST HC
 refine hK _ _ ?_
 go_wp2
 exact⟨hd,.map (some tb),(by simp[results,results11,go_sem,h0]),HQ.out⟩
end
section
open Go.RowKit Go.Shelf
abbrev tyWriter:TypeId:=57
theorem Tryz.liesWriter:liesAt prog prog.depth tyWriter (3 / prog.cellsOf tyWriter) 0 tyBuild 1=true:=by kernel_rfl
def WriterAt(B b:Nat)(p:Value)(mb:Nat)(l:List Value)(w:World):Prop:=
 B<=b/\∃v,w.heap[b]?=some (.cells #[p,v,.map (some mb)] tyWriter (0,0))/\w.ownsRow B tyByte 1 v l.length l/\v.ownBlock≠some b
def IsWr(B b mb:Nat)(l:List Value)(w:World):Prop:=WriterAt B b (.pointer none) mb l w\/WriterAt B b (.pointer (some ⟨b,0,none⟩)) mb l w
structure Fw(B b:Nat)(w w':World):Prop where
 os:w'.os=w.os
 tape:w'.tape=w.tape
 output:w'.output=w.output
 size:w.heap.size<=w'.heap.size
 block:∀k,k<w.heap.size->k≠b->(k<B\/∀c f,w.heap[k]?≠some (.cells c tyByte f))->w'.heap[k]?=w.heap[k]?
theorem Fw.refl(B b:Nat)(w:World):Fw B b w w:=⟨rfl,rfl,rfl,le_refl _,fun _ _ _ _=>rfl⟩
theorem Fw.trans{B b:Nat}{u v w:World}(h:Fw B b u v)(k:Fw B b v w):Fw B b u w:=
 ⟨k.os.trans h.os,k.tape.trans h.tape,k.output.trans h.output,le_trans h.size k.size,fun i hi hb hc=>by
  have e1:=h.block i hi hb hc
  rw[k.block i (lt_of_lt_of_le hi h.size) hb (hc.imp id fun h c f=>by rw[e1];exact h c f),e1]⟩
theorem Fw.alloc{B b:Nat}{u w:World}(h:Fw B b u w)(o:Obj):Fw B b u (w.alloc o):=
 h.trans ⟨rfl,rfl,rfl,by simp,fun k hk _ _=>Below.heap_alloc _ _ _ hk⟩
theorem Fw.set{B b:Nat}{u w:World}(h:Fw B b u w)(o:Nat)(v:Value):Fw B b u (w.setCell ⟨b,o,none⟩ v):=
 h.trans ⟨rfl,rfl,rfl,by simp[World.setCell],fun k _ hb _=>Below.heap_setCell _ _ _ _ (fun e=>hb (by simp[e]))⟩
theorem Fw.drew{B b:Nat}{u w:World}(h:Fw B b u w):Fw B b u w.drew:=h.trans ⟨rfl,rfl,rfl,le_refl _,fun _ _ _ _=>rfl⟩
theorem Fw.grown{b B n:Nat}{u w w':World}{v:Value}{xs:List Value}(h:Fw B b u w)(hown:w.ownsRow B tyByte 1 v n xs)(hg:w.grownBy w' v.ownBlock):Fw B b u w':=
 h.trans ⟨hg.os,hg.tape,hg.output,hg.size,fun k hk _ hc=>hg.block k hk (fun e=>by
  rcases hown.2 with⟨rfl,_⟩|⟨g,cap,cur,rfl,hbg,hgc,_⟩
  ·simp[Value.ownBlock]at e
  ·simp only[Value.ownBlock,Option.some.injEq]at e
   subst e
   rcases hc with hc|hc
   ·omega
   ·exact hc _ _ hgc)⟩
theorem Fw.freeze{b B g:Nat}{u w:World}{cur:Array Value}{f:Nat×Nat}(h:Fw B b u w)(hB:B<=g)(hg:w.heap[g]?=some (.cells cur tyByte f))(n:Nat):Fw B b u (w.freeze ⟨g,0,none⟩ n):=by
 refine h.trans ?_
 unfold World.freeze
 split
 ·exact Fw.refl B b w
 ·exact⟨rfl,rfl,rfl,by simp,fun k hk _ hc=>by
   simp only[Array.getElem?_modify]
   rw[if_neg]
   rintro rfl
   rcases hc with hc|hc
   ·omega
   ·exact hc _ _ hg⟩
section
variable {B b mb:Nat}{p:Value}{l:List Value}{w w':World}
theorem WriterAt.cell0(h:WriterAt B b p mb l w):w.cell? ⟨b,0,none⟩=some p:=by
 obtain⟨_,v,hb,_⟩:=h
 simp[World.cell?,hb]
theorem WriterAt.shape(h:WriterAt B b p mb l w):w.shape? b=some (tyWriter,3):=by
 obtain⟨_,v,hb,_⟩:=h
 simp[World.shape?,hb]
theorem WriterAt.frozen0(h:WriterAt B b p mb l w):w.frozen? ⟨b,0,none⟩=false:=by
 obtain⟨_,v,hb,_⟩:=h
 simp[World.frozen?,hb]
theorem WriterAt.used(h:WriterAt B b p mb l w)(q:Value):WriterAt B b q mb l (w.setCell ⟨b,0,none⟩ q):=by
 obtain⟨hB,v,hb,hown,hne⟩:=h
 refine⟨hB,v,?_,?_,hne⟩
 ·simp[World.setCell,Array.getElem?_modify,hb]
 ·refine hown.kept (row:=some b) ⟨rfl,rfl,rfl,by simp[World.setCell],fun k _ hk=>Below.heap_setCell _ _ _ _ (fun e=>hk (by simp[e]))⟩ ?_
  exact inr hne
theorem WriterAt.put{v v':Value}{l':List Value}(hB:B<=b)(hb:w.heap[b]?=some (.cells #[p,v,.map (some mb)] tyWriter (0,0)))(hown:w.ownsRow B tyByte 1 v' l'.length l') :
  WriterAt B b p mb l' (w.setCell ⟨b,1,none⟩ v'):=by
 have hne:=Lib.ownBlock_ne hown hb (by decide)
 refine⟨hB,v',?_,?_,hne⟩
 ·simp[World.setCell,Array.getElem?_modify,hb]
 ·exact hown.kept (row:=some b) ⟨rfl,rfl,rfl,by simp[World.setCell],fun k _ hk=>Below.heap_setCell _ _ _ _ (fun e=>hk (by simp[e]))⟩ (inr hne)
theorem check_fresh_w(h0:w.cell? ⟨b,0,none⟩=some (.pointer none))(hsh:w.shape? b=some (tyWriter,3))(hfz:w.frozen? ⟨b,0,none⟩=false) :
  Calls prog 65 #[.pointer (some ⟨b,0,none⟩)] w fun e w'=>e=.returned (.tuple #[])/\w'=w.setCell ⟨b,0,none⟩ (.pointer (some ⟨b,0,none⟩)):=by
 obtain⟨j,hj,hjs⟩:=map_eq_some_iff.1 Tryz.sizeBuild
 go_enter func65,ntmps65
 go_wp2
 rw[Lib.run_to_unsafe w ⟨b,0,none⟩ underlying53 underlying166 hj (by rw[hjs];decide) hsh (Nat.zero_lt_succ 2)]
 simp only[Result.andThen]
 rw[Oper.upon_value]
 go_wp2
 rw[run_callFunc_extern func100 (by kernel_rfl) (by kernel_rfl) (by kernel_rfl) (e:=Extern.AbiNoEscape.same) (by kernel_rfl)]
 rw[Lib.run_noEscape]
 simp only[Result.andThen]
 rw[Oper.upon_value]
 go_wp2
 rw[Lib.run_from_unsafe w ⟨b,0,none⟩ underlying166 underlying53 hj hsh Tryz.liesWriter]
 simp only[Result.andThen]
 rw[Oper.upon_value]
 go_wp2
 go_end0
 exact⟨rfl,rfl⟩
theorem check_any_w(h:IsWr B b mb l w) :
  Calls prog 65 #[.pointer (some ⟨b,0,none⟩)] w fun e w'=>e=.returned (.tuple #[])/\(WriterAt B b (.pointer (some ⟨b,0,none⟩)) mb l w'/\Fw B b w w'):=by
 rcases h with h|h
 ·refine(check_fresh_w h.cell0 h.shape h.frozen0).mono ?_
  rintro e w'⟨rfl,rfl⟩
  exact⟨rfl,h.used _,(Fw.refl B b w).set 0 _⟩
 ·refine(check_used b w h.cell0).mono ?_
  rintro e w'⟨rfl,rfl⟩
  exact⟨rfl,h,Fw.refl B b _⟩
theorem writeByte_w(c:Int)(h:IsWr B b mb l w)(hlen:l.length+1<=140737488355328)(hBw:B<=w.heap.size) :
  Calls prog 39 #[.pointer (some ⟨b,0,none⟩),.int .u8 c] w fun e w'=>e=.returned .nilIface/\(WriterAt B b (.pointer (some ⟨b,0,none⟩)) mb (l++[.int .u8 c]) w'/\Fw B b w w'):=by
 obtain⟨i0,hi,hz0,hz1,hz2⟩:=info_parts Tryz.infoByteB
 have HC:=hide (check_any_w h)
 clear h
 go_enter func39,ntmps39
 go_wp2_with fail
 refine(HC.out).mono ?_
 rintro e w1⟨rfl,h1,hb1⟩
 obtain⟨hB,v,hbk,hown,hne⟩:=h1
 have c0:w1.cell? ⟨b,0,none⟩=some (.pointer (some ⟨b,0,none⟩)):=by rw[Lib.cell_of_heap hbk];rfl
 have c1:w1.cell? ⟨b,1,none⟩=some v:=by rw[Lib.cell_of_heap hbk];rfl
 have hsz1:=hb1.size
 go_wp2_with (at_builtin;refine wpList_append_own _ rfl _ _ 31 rfl B tyByte i0 (.int .u8 0) 1 1 underlying31 hi hz0 hz1 hz2 rfl (by decide) _ _ _ rfl (hown.alloc _) ⟨w1.heap.size,0,none⟩ 1 1 [.int .u8 c] rfl rfl ?c1 ?c2 ?c3 ?c4 ?c5 ?_)
 case c1=>
  intro j u hj
  exact cell_new rfl (by simpa using hj)
 case c2=>intro u hu;simp at hu;subst hu;rfl
 case c3=>unfold maxLen;omega
 case c4=>omega
 case c5=>simp;omega
 intro v' w2 hown' hgrow _
 have hlt:=lt_of_heap hbk
 have hb2:w2.heap[b]?=some (.cells #[.pointer (some ⟨b,0,none⟩),v,.map (some mb)] tyWriter (0,0)):=by
  rw[hgrow.block b (by simp;omega) (fun e=>hne e.symm),Below.heap_alloc _ _ _ hlt]
  exact hbk
 have d0:w2.cell? ⟨b,0,none⟩=some (.pointer (some ⟨b,0,none⟩)):=by rw[Lib.cell_of_heap hb2];rfl
 have d1:w2.cell? ⟨b,1,none⟩=some v:=by rw[Lib.cell_of_heap hb2];rfl
 have f1:w2.frozen? ⟨b,1,none⟩=false:=Lib.frozen_of_heap hb2 1
 obtain⟨g,cap,rfl⟩:∃g cap,v'=.slice (some ⟨g,0,none⟩) (l.length+1) cap:=by
  rcases hown'.2 with⟨_,h0⟩|⟨g,cap,cur,hv,_⟩
  ·omega
  ·exact⟨g,cap,hv⟩
 go_wp2
 go_ret
 refine⟨rfl,?_,?_⟩
 ·exact WriterAt.put hB hb2 (l':=l++[.int .u8 c]) (by simpa using hown')
 ·exact((hb1.alloc _).grown (hown.alloc _) hgrow).set 1 _
theorem writeString_w(s:ByteArray)(h:IsWr B b mb l w)(hlen:l.length+s.size<=140737488355328)(hBw:B<=w.heap.size) :
  Calls prog 35 #[.pointer (some ⟨b,0,none⟩),.string s] w fun e w'=>e=.returned (.tuple #[.int .i64 s.size,.nilIface])/\(WriterAt B b (.pointer (some ⟨b,0,none⟩)) mb (l++Lib.strCells s) w'/\Fw B b w w'):=by
 obtain⟨i0,hi,hz0,hz1,hz2⟩:=info_parts Tryz.infoByteB
 have HC:=hide (check_any_w h)
 clear h
 go_enter func35,ntmps35
 go_wp2_with fail
 refine(HC.out).mono ?_
 rintro e w1⟨rfl,h1,hb1⟩
 obtain⟨hB,v,hbk,hown,hne⟩:=h1
 have c0:w1.cell? ⟨b,0,none⟩=some (.pointer (some ⟨b,0,none⟩)):=by rw[Lib.cell_of_heap hbk];rfl
 have c1:w1.cell? ⟨b,1,none⟩=some v:=by rw[Lib.cell_of_heap hbk];rfl
 have hsz1:=hb1.size
 go_wp2_with (at_builtin;refine Lib.wpList_append_own_string _ rfl _ _ 31 9 rfl B tyByte i0 underlying31 underlying9 hi hz0 hz1 hz2 _ _ _ rfl hown s rfl ?c3 ?c4 ?c5 ?_)
 case c3=>unfold maxLen;omega
 case c4=>omega
 case c5=>omega
 intro v' w2 hown' hgrow _
 have hlt:=lt_of_heap hbk
 have hb2:w2.heap[b]?=some (.cells #[.pointer (some ⟨b,0,none⟩),v,.map (some mb)] tyWriter (0,0)):=by
  rw[hgrow.block b hlt (fun e=>hne e.symm)]
  exact hbk
 have d0:w2.cell? ⟨b,0,none⟩=some (.pointer (some ⟨b,0,none⟩)):=by rw[Lib.cell_of_heap hb2];rfl
 have d1:w2.cell? ⟨b,1,none⟩=some v:=by rw[Lib.cell_of_heap hb2];rfl
 have f1:w2.frozen? ⟨b,1,none⟩=false:=Lib.frozen_of_heap hb2 1
 obtain⟨ao,n',cap,rfl⟩:∃ao n' cap,v'=.slice ao n' cap:=by
  rcases hown'.2 with⟨hv,_⟩|⟨g,cap,cur,hv,_⟩
  ·exact⟨_,_,_,hv⟩
  ·exact⟨_,_,_,hv⟩
 go_wp2
 go_ret2
 refine⟨rfl,?_,?_⟩
 ·exact WriterAt.put hB hb2 (l':=l++Lib.strCells s) (by simpa [Lib.strCells_length]using hown')
 ·exact(hb1.grown hown hgrow).set 1 _
theorem string_w(x:List UInt8)(h:IsWr B b mb (Lib.byteCells x) w)(h0:x≠[]) :
  Calls prog 14 #[.pointer (some ⟨b,0,none⟩)] w fun e w'=>e=.returned (.string ⟨x.toArray⟩)/\Fw B b w w':=by
 obtain⟨p,hB,v,hbk,hown,hne⟩:∃p,WriterAt B b p mb (Lib.byteCells x) w:=by
  rcases h with h|h
  ·exact⟨_,h⟩
  ·exact⟨_,h⟩
 have hl0:x.length≠0:=by simpa using h0
 rw[Lib.byteCells_length]at hown
 obtain⟨g,cap,cur,rfl,hbg,hg,hnc,hcm,hcs,htake⟩:∃g cap cur,v=.slice (some ⟨g,0,none⟩) x.length cap/\B<=g/\w.heap[g]?=some (.cells cur tyByte (0,0))/\x.length<=cap/\cap<=maxLen/\cur.size=cap*1/\cur.toList.take (x.length*1)=Lib.byteCells x:=by
  rcases hown.2 with⟨_,hz⟩|⟨g,cap,cur,hv,r⟩
  ·exact absurd hz hl0
  ·exact⟨g,cap,cur,hv,r⟩
 have c1:w.drew.cell? ⟨b,1,none⟩=some (.slice (some ⟨g,0,none⟩) x.length cap):=by
  have:w.drew.heap[b]?=some (.cells #[p,.slice (some ⟨g,0,none⟩) x.length cap,.map (some mb)] tyWriter (0,0)):=hbk
  rw[Lib.cell_of_heap this];rfl
 have hSD:(Builtin.unsafeSliceData_ #[31] 97 #[.slice (some ⟨g,0,none⟩) x.length cap]).run prog w.drew=.ok (.pointer (some ⟨g,0,none⟩)) w.drew:=
  Lib.run_unsafeSliceData_row _ _ _ _ _ _ (by omega)
 have hUS:(Builtin.unsafeString_ #[97,3] 9 #[.pointer (some ⟨g,0,none⟩),.int .i64 x.length]).run prog w.drew=.ok (.string ⟨x.toArray⟩) (w.drew.freeze ⟨g,0,none⟩ x.length):=by
  refine Lib.run_unsafeString_row w.drew 97 3 9 tyByte underlying97 (by kernel_rfl) g cur.size (by have hg':w.drew.heap[g]?=some (.cells cur tyByte (0,0)):=hg;simp[World.shape?,hg']) x h0 (by omega) (by unfold maxLen at hcm;omega) ?_
  intro j u hu
  have:=hown.cells (g:=g) rfl j (.int .u8 u.toNat) (by simp[Lib.byteCells,hu])
  exact this
 have mixed:prog.follows .mixedOrders=true:=by kernel_rfl
 go_enter func14,ntmps14
 go_wp2
 go_region_o
 all_goals (go_wp2;go_ret;exact⟨rfl,((Fw.refl B b w).drew).freeze hbg (show w.drew.heap[g]?=_ from hg) _⟩)
end
end
end Go.Proofs.YtbkiipiocpnnnaaGreatDoor
