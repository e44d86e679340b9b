import Derived.Test.YtcbppnefeonmgaaGreatDoorC40
import Derived.Test.YtcbppnefeonmgaaGreatDoorC39
set_option linter.all false
set_option maxHeartbeats 40000000
set_option maxRecDepth 100000
open Go.Proofs.Tryz
open Or (inl inr)
open Option (map_eq_some_iff)
open Nat (le_refl le_trans lt_of_lt_of_le)
open List (length_append length_cons mem_cons_self mem_cons_of_mem cons_append length_nil)
namespace Go.Proofs.YtcbppnefeonmgaaGreatDoor
section
open Go.RowKit
section
variable {ops:Array Oper}{l:Array Bool}{i:Nat}{o:Oper}{a0 a:Act}{w0 w w':World}{g:Nat->Nat}{Q:Exit->Act->World->Prop}
theorem run_mv{ρ:Operand->Value}{x:Operand}{v:Value}(hop:o.op=.move x\/o.op=.assign x)(h:ρ x=v):(execOp ρ o).run prog w=.ok (.value v) w:=by
 subst h
 rcases hop with hop|hop<;>simp[execOp,hop]
theorem ka_steps:∀i,i<37->AtK ops a0 w0 g l a w i o->wpOp prog ops Q i (fun a' w'=>KI a0 w0 (l.setIfInBounds i true) a' w') a w:=by
 apply lt37
 ·intro h;exact h.table
 ·intro h;exact h.key (by intro q h1 h2;revert h1;revert h2;revert q;decide) (fun _=>rfl) (f:=37) (nm:=#[105,110,116]) (ts:=#[tyStr]) rfl (enters func37 (by kernel_rfl) rfl) (key2_any ⟨#[105,110,116]⟩ w)
 ·intro h;exact h.pure (by intro q h1 h2;revert h1;revert h2;revert q;decide) (fun _=>rfl) (run_mg0 h.hop)
 ·intro h;exact h.ins (sk:=4) (sv:=5) (x:=(2,[105,110,116])) (by intro q h1 h2;revert h1;revert h2;revert q;decide) rfl rfl (h.af 0 (by decide)) rfl ⟨by decide,by decide⟩ (h.ks.eval (j:=1) (by decide) (h.af 1 (by decide)) rfl) (h.ks.eval (j:=2) (by decide) (h.af 2 (by decide)) rfl)
 ·intro h;exact h.key (by intro q h1 h2;revert h1;revert h2;revert q;decide) (fun _=>rfl) (f:=37) (nm:=#[98,111,111,108]) (ts:=#[tyStr]) rfl (enters func37 (by kernel_rfl) rfl) (key2_any ⟨#[98,111,111,108]⟩ w)
 ·intro h;exact h.pure (by intro q h1 h2;revert h1;revert h2;revert q;decide) (fun _=>rfl) (run_mg0 h.hop)
 ·intro h;exact h.ins (sk:=6) (sv:=7) (x:=(2,[98,111,111,108])) (by intro q h1 h2;revert h1;revert h2;revert q;decide) rfl rfl (h.af 0 (by decide)) rfl ⟨by decide,by decide⟩ (h.ks.eval (j:=4) (by decide) (h.af 4 (by decide)) rfl) (h.ks.eval (j:=5) (by decide) (h.af 5 (by decide)) rfl)
 ·intro h;exact h.key (by intro q h1 h2;revert h1;revert h2;revert q;decide) (fun _=>rfl) (f:=37) (nm:=#[117,110,105,116]) (ts:=#[tyStr]) rfl (enters func37 (by kernel_rfl) rfl) (key2_any ⟨#[117,110,105,116]⟩ w)
 ·intro h;exact h.pure (by intro q h1 h2;revert h1;revert h2;revert q;decide) (fun _=>rfl) (run_mg0 h.hop)
 ·intro h;exact h.ins (sk:=8) (sv:=9) (x:=(2,[117,110,105,116])) (by intro q h1 h2;revert h1;revert h2;revert q;decide) rfl rfl (h.af 0 (by decide)) rfl ⟨by decide,by decide⟩ (h.ks.eval (j:=7) (by decide) (h.af 7 (by decide)) rfl) (h.ks.eval (j:=8) (by decide) (h.af 8 (by decide)) rfl)
 ·intro h;exact h.key (by intro q h1 h2;revert h1;revert h2;revert q;decide) (fun _=>rfl) (f:=37) (nm:=#[114,101,102]) (ts:=#[tyStr]) rfl (enters func37 (by kernel_rfl) rfl) (key2_any ⟨#[114,101,102]⟩ w)
 ·intro h;exact h.pure (by intro q h1 h2;revert h1;revert h2;revert q;decide) (fun _=>rfl) (run_mg1 h.hop rfl)
 ·intro h;exact h.ins (sk:=10) (sv:=11) (x:=(2,[114,101,102])) (by intro q h1 h2;revert h1;revert h2;revert q;decide) rfl rfl (h.af 0 (by decide)) rfl ⟨by decide,by decide⟩ (h.ks.eval (j:=10) (by decide) (h.af 10 (by decide)) rfl) (h.ks.eval (j:=11) (by decide) (h.af 11 (by decide)) rfl)
 ·intro h;exact h.key (by intro q h1 h2;revert h1;revert h2;revert q;decide) (fun _=>rfl) (f:=38) (nm:=#[112,117,116]) (ts:=#[tyStr]) rfl (enters func38 (by kernel_rfl) rfl) (key0_any ⟨#[112,117,116]⟩ w)
 ·intro h;exact h.leaf (q:=1) (nm:=intN) (by decide) (by decide) (fun e=>absurd e (by decide)) (f:=40) rfl (enters func40 (by kernel_rfl) rfl) (fun b=>rfl) rfl (by decide) (fun ar h=>h.int) (intN_any w)
 ·intro h;exact h.leaf (q:=2) (nm:=unitN) (by decide) (by decide) (fun _=>h.af 14 (by decide)) (f:=41) rfl (enters func41 (by kernel_rfl) rfl) (fun b=>rfl) rfl (by decide) (fun ar h=>h.unit) (unitN_any w)
 ·intro h;exact h.row (q:=10) (x:=1) (y:=2) (s1:=13) (s2:=14) (by decide) rfl (fun b=>rfl) (h.ks.eval (j:=14) (by decide) (h.af 14 (by decide)) rfl) (h.ks.eval (j:=15) (by decide) (h.af 15 (by decide)) rfl) rfl
 ·intro h;exact h.arrow (q:=3) (x:=1) (y:=2) (r:=10) (s:=15) (by decide) (by decide) (fun _=>h.af 15 (by decide)) rfl (fun b=>rfl) rfl (by decide) (by decide) rfl (by decide) (h.af 16 (by decide)) (h.ks.eval (j:=16) (by decide) (h.af 16 (by decide)) rfl) rfl
 ·intro h;exact h.pure (by intro q h1 h2;revert h1;revert h2;revert q;decide) (fun _=>rfl) (run_mg (x:=g 3) h.hop (h.ks.eval (j:=17) (by decide) (h.af 17 (by decide)) rfl))
 ·intro h;exact h.ins (sk:=12) (sv:=17) (x:=(0,[112,117,116])) (by intro q h1 h2;revert h1;revert h2;revert q;decide) rfl rfl (h.af 0 (by decide)) rfl ⟨by decide,by decide⟩ (h.ks.eval (j:=13) (by decide) (h.af 13 (by decide)) rfl) (h.ks.eval (j:=18) (by decide) (h.af 18 (by decide)) rfl)
 ·intro h;exact h.key (by intro q h1 h2;revert h1;revert h2;revert q;decide) (fun _=>rfl) (f:=38) (nm:=#[103,101,116]) (ts:=#[tyStr]) rfl (enters func38 (by kernel_rfl) rfl) (key0_any ⟨#[103,101,116]⟩ w)
 ·intro h;exact h.leaf (q:=4) (nm:=unitN) (by decide) (by decide) (fun _=>h.kc 20 (by decide) (h.af 20 (by decide)) 17 (by decide)) (f:=41) rfl (enters func41 (by kernel_rfl) rfl) (fun b=>rfl) rfl (by decide) (fun ar h=>h.unit) (unitN_any w)
 ·intro h;exact h.leaf (q:=5) (nm:=intN) (by decide) (by decide) (fun _=>h.af 21 (by decide)) (f:=40) rfl (enters func40 (by kernel_rfl) rfl) (fun b=>rfl) rfl (by decide) (fun ar h=>h.int) (intN_any w)
 ·intro h;exact h.row (q:=11) (x:=4) (y:=5) (s1:=19) (s2:=20) (by decide) rfl (fun b=>rfl) (h.ks.eval (j:=21) (by decide) (h.af 21 (by decide)) rfl) (h.ks.eval (j:=22) (by decide) (h.af 22 (by decide)) rfl) rfl
 ·intro h;exact h.arrow (q:=6) (x:=4) (y:=5) (r:=11) (s:=21) (by decide) (by decide) (fun _=>h.af 22 (by decide)) rfl (fun b=>rfl) rfl (by decide) (by decide) rfl (by decide) (h.af 23 (by decide)) (h.ks.eval (j:=23) (by decide) (h.af 23 (by decide)) rfl) rfl
 ·intro h;exact h.pure (by intro q h1 h2;revert h1;revert h2;revert q;decide) (fun _=>rfl) (run_mg (x:=g 6) h.hop (h.ks.eval (j:=24) (by decide) (h.af 24 (by decide)) rfl))
 ·intro h;exact h.ins (sk:=18) (sv:=23) (x:=(0,[103,101,116])) (by intro q h1 h2;revert h1;revert h2;revert q;decide) rfl rfl (h.af 0 (by decide)) rfl ⟨by decide,by decide⟩ (h.ks.eval (j:=20) (by decide) (h.af 20 (by decide)) rfl) (h.ks.eval (j:=25) (by decide) (h.af 25 (by decide)) rfl)
 ·intro h;exact h.key (by intro q h1 h2;revert h1;revert h2;revert q;decide) (fun _=>rfl) (f:=38) (nm:=#[114,101,102]) (ts:=#[tyStr]) rfl (enters func38 (by kernel_rfl) rfl) (key0_any ⟨#[114,101,102]⟩ w)
 ·intro h;exact h.pure (by intro q h1 h2;revert h1;revert h2;revert q;decide) (fun _=>rfl) (run_mv (inl h.hop) (by simp[Act.eval,h.ks.t1];rfl))
 ·intro h;exact h.pure (by intro q h1 h2;revert h1;revert h2;revert q;decide) (fun _=>rfl) (run_mv (inl h.hop) (by simp[Act.eval,h.ks.t1];rfl))
 ·intro h;exact h.cell (h.kc 27 (by decide) (h.af 27 (by decide)) 24 (by decide)) (h.ks.eval (j:=29) (by decide) (h.af 29 (by decide)) rfl)
 ·intro h;exact h.row (q:=12) (x:=0) (y:=7) (s1:=25) (s2:=27) (by decide) rfl (fun b=>rfl) (h.ks.eval (j:=28) (by decide) (h.af 28 (by decide)) rfl) (h.ks.eval (j:=30) (by decide) (h.af 30 (by decide)) rfl) rfl
 ·intro h;exact h.arrow (q:=8) (x:=0) (y:=7) (r:=12) (s:=28) (by decide) (by decide) (fun _=>h.af 30 (by decide)) rfl (fun b=>rfl) rfl (by decide) (by decide) rfl (by decide) (h.af 31 (by decide)) (h.ks.eval (j:=31) (by decide) (h.af 31 (by decide)) rfl) rfl
 ·intro h;exact h.pure (by intro q h1 h2;revert h1;revert h2;revert q;decide) (fun _=>rfl) (run_mg (x:=g 8) h.hop (h.ks.eval (j:=32) (by decide) (h.af 32 (by decide)) rfl))
 ·intro h;exact h.ins (sk:=24) (sv:=30) (x:=(0,[114,101,102])) (by intro q h1 h2;revert h1;revert h2;revert q;decide) rfl rfl (h.af 0 (by decide)) rfl ⟨by decide,by decide⟩ (h.ks.eval (j:=27) (by decide) (h.af 27 (by decide)) rfl) (h.ks.eval (j:=33) (by decide) (h.af 33 (by decide)) rfl)
 ·intro h;exact h.pure (by intro q h1 h2;revert h1;revert h2;revert q;decide) (fun _=>rfl) (run_mv (inl h.hop) (h.ks.eval (j:=0) (by decide) (h.af 0 (by decide)) rfl))
 ·intro h;exact h.pure (by intro q h1 h2;revert h1;revert h2;revert q;decide) (fun _=>rfl) (run_mv (inr h.hop) (h.ks.eval (j:=35) (by decide) (h.af 35 (by decide)) rfl))
theorem ka_step(hF:KaOps ops)(hI:KI a0 w0 l a w)(hc:Cl .any ops l)(hs:l.size=ops.size)(hi:i∈Region.ready .any ops l):wpOp prog ops Q i (fun a' w'=>KI a0 w0 (l.setIfInBounds i true) a' w') a w:=by
 obtain⟨g,h1,h2⟩:=hI
 obtain⟨r1,r2,r3,o,r4,r5,r6,r7⟩:=hF.ready hi
 exact ka_steps i r1 ⟨h1,h2,hF.kc hc,by rw[hs];exact hF.size,r1,r2,r3,r4,r5,r6,r7⟩
theorem KaOps.order(h:KaOps ops)(hb:(ops.toList.all fun o=>o.after.toList.all fun e=>Region.binds .any e)=true):∀(i:Nat)(o:Oper),ops[i]?=some o->∀e∈o.after,e.on<i:=by
 intro i o ho e he
 obtain⟨h1,_,_,_,h5⟩:=h.at ho
 have hm:e.on∈aftO i:=by
  rw[<- h5]
  exact List.mem_map.2 ⟨e,List.mem_filter.2 ⟨by simpa using he,List.all_eq_true.1 (List.all_eq_true.1 hb o (by simpa using Array.mem_of_getElem? ho)) e (by simpa using he)⟩,rfl⟩
 have:∀i,i<37->∀k∈aftO i,k<i:=by decide
 exact this i h1 _ hm
theorem KI.start(w0:World)(a:Act)(hs:a.tmps.size=32)(h1:a.tmps[1]?=some (ptrV w0.heap.size))(n:Nat) :
  KI a w0 (Array.replicate n false) a (w0.alloc (.cells #[.string (bs []),.slice none 0 0,.pointer none,.int .i64 (openD:Nat)] tyType)).drew:=by
 have hno:∀j,¬Ls (Array.replicate n false) j:=fun j h=>by
  unfold Ls at h
  simp[Array.getD]at h
 refine⟨fun _=>w0.heap.size,⟨hs,rfl,h1,fun j s _ hl=>absurd hl (hno j)⟩,⟨((Kn.refl _ w0).alloc _).drew,le_refl _,fun q _ _ hl=>absurd hl (hno _),⟨1,le_refl _,by decide,fun k k1 k2=>⟨fun hl=>absurd hl (hno _),fun hl=>by omega⟩,fun ar har=>?_⟩,fun q _ hl=>absurd hl (hno _),fun hl=>absurd hl (hno _)⟩⟩
 have h0:StoM ar [] (fun _=>False) (fun _=>0) (⟨[],[],[]⟩:TS) w0:=⟨⟨trivial,fun i tn h=>by simp at h,fun g hg=>by cases hg⟩,rfl,List.Pairwise.nil,fun i hi=>by simp at hi⟩
 have:=h0.new (t:=⟨[],[],openD⟩) (pv:=.slice none 0 0) (fun p hp=>by cases hp) (fun _=>rfl) (fun e=>absurd rfl e) (World.ownsRow_nil _ _ _ _) (fun g _ e=>e)
 exact this.kept (fun _ _=>rfl) (fun _ _ _ _ _=>rfl)
theorem KI.done(h:KI a0 w0 l a w)(hl:∀i,i<37->Ls l i):a.defers=a0.defers/\a.tmps.size=32/\∃tb,a.tmps[0]?=some (.map (some tb))/\AheadAt w0 (.returned (.map (some tb))) w:=by
 obtain⟨g,hS,hW⟩:=h
 refine⟨hS.df,hS.ts,g 9,hS.sl 36 0 (by decide) (hl 36 (by decide)) rfl,hW.kn,g 9,adK g 9,fun _=>0,rfl,hW.lo 9 (by decide) (by decide) (hl _ (by decide)),fun b hb=>?_,?_,fun ar har=>?_⟩
 ·obtain⟨k,hk,rfl⟩:=List.mem_map.1 hb
  have hk:=List.mem_range.1 hk
  by_cases h0:k=0
  ·subst h0;exact hW.g0
  ·exact hW.lo k (by omega) (by omega) (hl _ (cr_lt k (by omega) (by omega)))
 ·obtain⟨n,f,h1,h2⟩:=hW.mp (hl 0 (by decide))
  refine⟨n,f,h1,fun x hx=>?_⟩
  have hput:∀j v,j<37->insO g j=some (x,v)->f x=some v:=fun j v hj e=>(h2 x v).2 ⟨j,hj,hl j hj,e⟩
  have hmg:∀t,t<9->MgAt (adK g 9) w (Mg.var t) (mgB (g t)):=fun t ht=>⟨.slice none 0 0,.slice none 0 0,[],by
   show mgB (g t)=.agg #[adV (adK g 9) t,_,_,_,_,_]
   rw[adV_adK ht];rfl,fun t' e=>(by cases e;show t<(adK g 9).length;simp[adK,ht]),World.ownsRow_nil _ _ _ _,World.ownsRow_nil _ _ _ _,by show NMem.NMems w [] [];rw[NMem.NMems];trivial⟩
  have hty:∀k:Nat,MgAt (adK g 9) w (Mg.type k) (mgP none k):=fun k=>⟨.slice none 0 0,.slice none 0 0,[],rfl,fun t' e=>(by cases e),World.ownsRow_nil _ _ _ _,World.ownsRow_nil _ _ _ _,by show NMem.NMems w [] [];rw[NMem.NMems];trivial⟩
  by_cases e1:x=(0,[112,117,116])
  ·subst e1;exact inr ⟨_,_,rfl,hput 19 _ (by decide) rfl,hmg 3 (by decide)⟩
  by_cases e2:x=(0,[103,101,116])
  ·subst e2;exact inr ⟨_,_,rfl,hput 26 _ (by decide) rfl,hmg 6 (by decide)⟩
  by_cases e3:x=(0,refN)
  ·subst e3;exact inr ⟨_,_,rfl,hput 34 _ (by decide) rfl,hmg 8 (by decide)⟩
  by_cases e4:x=(2,intN)
  ·subst e4;exact inr ⟨_,_,rfl,hput 3 _ (by decide) rfl,hty 0⟩
  by_cases e5:x=(2,boolN)
  ·subst e5;exact inr ⟨_,_,rfl,hput 6 _ (by decide) rfl,hty 0⟩
  by_cases e6:x=(2,unitN)
  ·subst e6;exact inr ⟨_,_,rfl,hput 9 _ (by decide) rfl,hty 0⟩
  by_cases e7:x=(2,refN)
  ·subst e7;exact inr ⟨_,_,rfl,hput 12 _ (by decide) rfl,hty 1⟩
  refine inl ⟨?_,?_⟩
  ·simp only[ahead,Env.get]
   rw[if_neg e1,if_neg e2,if_neg e3,if_neg e4,if_neg e5,if_neg e6,if_neg e7]
  ·cases hf:f x with
   |none=>rfl
   |some v=>
    obtain⟨j,_,_,e⟩:=(h2 x v).1 hf
    exfalso
    unfold insO at e
    split at e
    ·cases e;exact e4 rfl
    ·cases e;exact e5 rfl
    ·cases e;exact e6 rfl
    ·cases e;exact e7 rfl
    ·cases e;exact e1 rfl
    ·cases e;exact e2 rfl
    ·cases e;exact e3 rfl
    ·cases e
 ·obtain⟨m,m1,m2,m3,m4⟩:=hW.nd
  have:m=9:=by
   have:=(m3 8 (by decide) (by decide)).1 (hl _ (by decide))
   omega
  subst this
  exact m4 ar har
end
theorem knownAhead_any(w:World):Calls prog 23 #[] w (AheadAt w):=by
 have hc:=NewOpenLetter_any w
 have hst:=KI.start w
 have hdn:∀(a0:Act)(l:Array Bool)(a:Act)(u:World),KI a0 w l a u->(∀i,i<37->l.getD i false=true)->a.defers=a0.defers/\a.tmps.size=32/\∃tb,a.tmps[0]?=some (.map (some tb))/\AheadAt w (.returned (.map (some tb))) u:=fun a0 l a u h hl=>h.done hl
 have HC:=hide hc
 have HST:=hide hst
 have HDN:=hide hdn
 clear hc hst hdn
 generalize AheadAt w=Q at *
 go_enter func23,ntmps23
 go_wp2_with fail
 refine(HC.out).mono ?_;rintro e w1⟨rfl,rfl⟩
 go_wp2_with fail
 rename_i K hK
 refine wp_region_inv (I:=KI _ w) (by kernel_rfl) (fun l a u h hc hs i hi=>ka_step (show KaOps _ from by unfold KaOps;kernel_rfl) h hc hs hi) (fun l a u h hl=>?_) (KaOps.order (show KaOps _ from by unfold KaOps;kernel_rfl) (by kernel_rfl)) (HST.out _ (by rfl) (by rfl) _)
 obtain⟨hd,_,tb,h0,hq⟩:=HDN.out _ l a u h hl
 have HQ:=hide hq
 clear hq h hl HDN HST HC
 refine hK _ _ ?_
 go_wp2
 exact⟨hd,.map (some tb),(by simp[results,results23,go_sem,h0]),HQ.out⟩
end
section
open Go.RowKit Go.Shelf
abbrev tyWriter:TypeId:=66
theorem Tryz.liesWriter:liesAt prog prog.depth tyWriter (3 / prog.cellsOf tyWriter) 0 tyBuild 1=true:=by kernel_rfl
def WriterAt(B b:Nat)(p:Value)(mb:Nat)(l:List Value)(w:World):Prop:=
 B<=b/\∃v,w.heap[b]?=some (.cells #[p,v,.map (some mb)] tyWriter (0,0))/\w.ownsRow B tyByte 1 v l.length l/\v.ownBlock≠some b
def IsWr(B b mb:Nat)(l:List Value)(w:World):Prop:=WriterAt B b (.pointer none) mb l w\/WriterAt B b (.pointer (some ⟨b,0,none⟩)) mb l w
structure Fw(B b:Nat)(w w':World):Prop where
 os:w'.os=w.os
 tape:w'.tape=w.tape
 output:w'.output=w.output
 size:w.heap.size<=w'.heap.size
 block:∀k,k<w.heap.size->k≠b->(k<B\/∀c f,w.heap[k]?≠some (.cells c tyByte f))->w'.heap[k]?=w.heap[k]?
theorem Fw.refl(B b:Nat)(w:World):Fw B b w w:=⟨rfl,rfl,rfl,le_refl _,fun _ _ _ _=>rfl⟩
theorem Fw.trans{B b:Nat}{u v w:World}(h:Fw B b u v)(k:Fw B b v w):Fw B b u w:=
 ⟨k.os.trans h.os,k.tape.trans h.tape,k.output.trans h.output,le_trans h.size k.size,fun i hi hb hc=>by
  have e1:=h.block i hi hb hc
  rw[k.block i (lt_of_lt_of_le hi h.size) hb (hc.imp id fun h c f=>by rw[e1];exact h c f),e1]⟩
theorem Fw.alloc{B b:Nat}{u w:World}(h:Fw B b u w)(o:Obj):Fw B b u (w.alloc o):=
 h.trans ⟨rfl,rfl,rfl,by simp,fun k hk _ _=>Below.heap_alloc _ _ _ hk⟩
theorem Fw.set{B b:Nat}{u w:World}(h:Fw B b u w)(o:Nat)(v:Value):Fw B b u (w.setCell ⟨b,o,none⟩ v):=
 h.trans ⟨rfl,rfl,rfl,by simp[World.setCell],fun k _ hb _=>Below.heap_setCell _ _ _ _ (fun e=>hb (by simp[e]))⟩
theorem Fw.drew{B b:Nat}{u w:World}(h:Fw B b u w):Fw B b u w.drew:=h.trans ⟨rfl,rfl,rfl,le_refl _,fun _ _ _ _=>rfl⟩
theorem Fw.grown{b B n:Nat}{u w w':World}{v:Value}{xs:List Value}(h:Fw B b u w)(hown:w.ownsRow B tyByte 1 v n xs)(hg:w.grownBy w' v.ownBlock):Fw B b u w':=
 h.trans ⟨hg.os,hg.tape,hg.output,hg.size,fun k hk _ hc=>hg.block k hk (fun e=>by
  rcases hown.2 with⟨rfl,_⟩|⟨g,cap,cur,rfl,hbg,hgc,_⟩
  ·simp[Value.ownBlock]at e
  ·simp only[Value.ownBlock,Option.some.injEq]at e
   subst e
   rcases hc with hc|hc
   ·omega
   ·exact hc _ _ hgc)⟩
theorem Fw.freeze{b B g:Nat}{u w:World}{cur:Array Value}{f:Nat×Nat}(h:Fw B b u w)(hB:B<=g)(hg:w.heap[g]?=some (.cells cur tyByte f))(n:Nat):Fw B b u (w.freeze ⟨g,0,none⟩ n):=by
 refine h.trans ?_
 unfold World.freeze
 split
 ·exact Fw.refl B b w
 ·exact⟨rfl,rfl,rfl,by simp,fun k hk _ hc=>by
   simp only[Array.getElem?_modify]
   rw[if_neg]
   rintro rfl
   rcases hc with hc|hc
   ·omega
   ·exact hc _ _ hg⟩
section
variable {B b mb:Nat}{p:Value}{l:List Value}{w w':World}
theorem WriterAt.cell0(h:WriterAt B b p mb l w):w.cell? ⟨b,0,none⟩=some p:=by
 obtain⟨_,v,hb,_⟩:=h
 simp[World.cell?,hb]
theorem WriterAt.shape(h:WriterAt B b p mb l w):w.shape? b=some (tyWriter,3):=by
 obtain⟨_,v,hb,_⟩:=h
 simp[World.shape?,hb]
theorem WriterAt.frozen0(h:WriterAt B b p mb l w):w.frozen? ⟨b,0,none⟩=false:=by
 obtain⟨_,v,hb,_⟩:=h
 simp[World.frozen?,hb]
theorem WriterAt.used(h:WriterAt B b p mb l w)(q:Value):WriterAt B b q mb l (w.setCell ⟨b,0,none⟩ q):=by
 obtain⟨hB,v,hb,hown,hne⟩:=h
 refine⟨hB,v,?_,?_,hne⟩
 ·simp[World.setCell,Array.getElem?_modify,hb]
 ·refine hown.kept (row:=some b) ⟨rfl,rfl,rfl,by simp[World.setCell],fun k _ hk=>Below.heap_setCell _ _ _ _ (fun e=>hk (by simp[e]))⟩ ?_
  exact inr hne
theorem WriterAt.put{v v':Value}{l':List Value}(hB:B<=b)(hb:w.heap[b]?=some (.cells #[p,v,.map (some mb)] tyWriter (0,0)))(hown:w.ownsRow B tyByte 1 v' l'.length l') :
  WriterAt B b p mb l' (w.setCell ⟨b,1,none⟩ v'):=by
 have hne:=Lib.ownBlock_ne hown hb (by decide)
 refine⟨hB,v',?_,?_,hne⟩
 ·simp[World.setCell,Array.getElem?_modify,hb]
 ·exact hown.kept (row:=some b) ⟨rfl,rfl,rfl,by simp[World.setCell],fun k _ hk=>Below.heap_setCell _ _ _ _ (fun e=>hk (by simp[e]))⟩ (inr hne)
theorem check_fresh_w(h0:w.cell? ⟨b,0,none⟩=some (.pointer none))(hsh:w.shape? b=some (tyWriter,3))(hfz:w.frozen? ⟨b,0,none⟩=false) :
  Calls prog 68 #[.pointer (some ⟨b,0,none⟩)] w fun e w'=>e=.returned (.tuple #[])/\w'=w.setCell ⟨b,0,none⟩ (.pointer (some ⟨b,0,none⟩)):=by
 obtain⟨j,hj,hjs⟩:=map_eq_some_iff.1 Tryz.sizeBuild
 go_enter func68,ntmps68
 go_wp2
 rw[Lib.run_to_unsafe w ⟨b,0,none⟩ underlying52 underlying149 hj (by rw[hjs];decide) hsh (Nat.zero_lt_succ 2)]
 simp only[Result.andThen]
 rw[Oper.upon_value]
 go_wp2
 rw[run_callFunc_extern func105 (by kernel_rfl) (by kernel_rfl) (by kernel_rfl) (e:=Extern.AbiNoEscape.same) (by kernel_rfl)]
 rw[Lib.run_noEscape]
 simp only[Result.andThen]
 rw[Oper.upon_value]
 go_wp2
 rw[Lib.run_from_unsafe w ⟨b,0,none⟩ underlying149 underlying52 hj hsh Tryz.liesWriter]
 simp only[Result.andThen]
 rw[Oper.upon_value]
 go_wp2
 go_end0
 exact⟨rfl,rfl⟩
theorem check_any_w(h:IsWr B b mb l w) :
  Calls prog 68 #[.pointer (some ⟨b,0,none⟩)] w fun e w'=>e=.returned (.tuple #[])/\(WriterAt B b (.pointer (some ⟨b,0,none⟩)) mb l w'/\Fw B b w w'):=by
 rcases h with h|h
 ·refine(check_fresh_w h.cell0 h.shape h.frozen0).mono ?_
  rintro e w'⟨rfl,rfl⟩
  exact⟨rfl,h.used _,(Fw.refl B b w).set 0 _⟩
 ·refine(check_used b w h.cell0).mono ?_
  rintro e w'⟨rfl,rfl⟩
  exact⟨rfl,h,Fw.refl B b _⟩
theorem writeByte_w(c:Int)(h:IsWr B b mb l w)(hlen:l.length+1<=140737488355328)(hBw:B<=w.heap.size) :
  Calls prog 51 #[.pointer (some ⟨b,0,none⟩),.int .u8 c] w fun e w'=>e=.returned .nilIface/\(WriterAt B b (.pointer (some ⟨b,0,none⟩)) mb (l++[.int .u8 c]) w'/\Fw B b w w'):=by
 obtain⟨i0,hi,hz0,hz1,hz2⟩:=info_parts Tryz.infoByteB
 have HC:=hide (check_any_w h)
 clear h
 go_enter func51,ntmps51
 go_wp2_with fail
 refine(HC.out).mono ?_
 rintro e w1⟨rfl,h1,hb1⟩
 obtain⟨hB,v,hbk,hown,hne⟩:=h1
 have c0:w1.cell? ⟨b,0,none⟩=some (.pointer (some ⟨b,0,none⟩)):=by rw[Lib.cell_of_heap hbk];rfl
 have c1:w1.cell? ⟨b,1,none⟩=some v:=by rw[Lib.cell_of_heap hbk];rfl
 have hsz1:=hb1.size
 go_wp2_with (at_builtin;refine wpList_append_own _ rfl _ _ 53 rfl B tyByte i0 (.int .u8 0) 1 1 underlying53 hi hz0 hz1 hz2 rfl (by decide) _ _ _ rfl (hown.alloc _) ⟨w1.heap.size,0,none⟩ 1 1 [.int .u8 c] rfl rfl ?c1 ?c2 ?c3 ?c4 ?c5 ?_)
 case c1=>
  intro j u hj
  exact cell_new rfl (by simpa using hj)
 case c2=>intro u hu;simp at hu;subst hu;rfl
 case c3=>unfold maxLen;omega
 case c4=>omega
 case c5=>simp;omega
 intro v' w2 hown' hgrow _
 have hlt:=lt_of_heap hbk
 have hb2:w2.heap[b]?=some (.cells #[.pointer (some ⟨b,0,none⟩),v,.map (some mb)] tyWriter (0,0)):=by
  rw[hgrow.block b (by simp;omega) (fun e=>hne e.symm),Below.heap_alloc _ _ _ hlt]
  exact hbk
 have d0:w2.cell? ⟨b,0,none⟩=some (.pointer (some ⟨b,0,none⟩)):=by rw[Lib.cell_of_heap hb2];rfl
 have d1:w2.cell? ⟨b,1,none⟩=some v:=by rw[Lib.cell_of_heap hb2];rfl
 have f1:w2.frozen? ⟨b,1,none⟩=false:=Lib.frozen_of_heap hb2 1
 obtain⟨g,cap,rfl⟩:∃g cap,v'=.slice (some ⟨g,0,none⟩) (l.length+1) cap:=by
  rcases hown'.2 with⟨_,h0⟩|⟨g,cap,cur,hv,_⟩
  ·omega
  ·exact⟨g,cap,hv⟩
 go_wp2
 go_ret
 refine⟨rfl,?_,?_⟩
 ·exact WriterAt.put hB hb2 (l':=l++[.int .u8 c]) (by simpa using hown')
 ·exact((hb1.alloc _).grown (hown.alloc _) hgrow).set 1 _
theorem writeString_w(s:ByteArray)(h:IsWr B b mb l w)(hlen:l.length+s.size<=140737488355328)(hBw:B<=w.heap.size) :
  Calls prog 32 #[.pointer (some ⟨b,0,none⟩),.string s] w fun e w'=>e=.returned (.tuple #[.int .i64 s.size,.nilIface])/\(WriterAt B b (.pointer (some ⟨b,0,none⟩)) mb (l++Lib.strCells s) w'/\Fw B b w w'):=by
 obtain⟨i0,hi,hz0,hz1,hz2⟩:=info_parts Tryz.infoByteB
 have HC:=hide (check_any_w h)
 clear h
 go_enter func32,ntmps32
 go_wp2_with fail
 refine(HC.out).mono ?_
 rintro e w1⟨rfl,h1,hb1⟩
 obtain⟨hB,v,hbk,hown,hne⟩:=h1
 have c0:w1.cell? ⟨b,0,none⟩=some (.pointer (some ⟨b,0,none⟩)):=by rw[Lib.cell_of_heap hbk];rfl
 have c1:w1.cell? ⟨b,1,none⟩=some v:=by rw[Lib.cell_of_heap hbk];rfl
 have hsz1:=hb1.size
 go_wp2_with (at_builtin;refine Lib.wpList_append_own_string _ rfl _ _ 53 9 rfl B tyByte i0 underlying53 underlying9 hi hz0 hz1 hz2 _ _ _ rfl hown s rfl ?c3 ?c4 ?c5 ?_)
 case c3=>unfold maxLen;omega
 case c4=>omega
 case c5=>omega
 intro v' w2 hown' hgrow _
 have hlt:=lt_of_heap hbk
 have hb2:w2.heap[b]?=some (.cells #[.pointer (some ⟨b,0,none⟩),v,.map (some mb)] tyWriter (0,0)):=by
  rw[hgrow.block b hlt (fun e=>hne e.symm)]
  exact hbk
 have d0:w2.cell? ⟨b,0,none⟩=some (.pointer (some ⟨b,0,none⟩)):=by rw[Lib.cell_of_heap hb2];rfl
 have d1:w2.cell? ⟨b,1,none⟩=some v:=by rw[Lib.cell_of_heap hb2];rfl
 have f1:w2.frozen? ⟨b,1,none⟩=false:=Lib.frozen_of_heap hb2 1
 obtain⟨ao,n',cap,rfl⟩:∃ao n' cap,v'=.slice ao n' cap:=by
  rcases hown'.2 with⟨hv,_⟩|⟨g,cap,cur,hv,_⟩
  ·exact⟨_,_,_,hv⟩
  ·exact⟨_,_,_,hv⟩
 go_wp2
 go_ret2
 refine⟨rfl,?_,?_⟩
 ·exact WriterAt.put hB hb2 (l':=l++Lib.strCells s) (by simpa [Lib.strCells_length]using hown')
 ·exact(hb1.grown hown hgrow).set 1 _
theorem string_w(x:List UInt8)(h:IsWr B b mb (Lib.byteCells x) w)(h0:x≠[]) :
  Calls prog 20 #[.pointer (some ⟨b,0,none⟩)] w fun e w'=>e=.returned (.string ⟨x.toArray⟩)/\Fw B b w w':=by
 obtain⟨p,hB,v,hbk,hown,hne⟩:∃p,WriterAt B b p mb (Lib.byteCells x) w:=by
  rcases h with h|h
  ·exact⟨_,h⟩
  ·exact⟨_,h⟩
 have hl0:x.length≠0:=by simpa using h0
 rw[Lib.byteCells_length]at hown
 obtain⟨g,cap,cur,rfl,hbg,hg,hnc,hcm,hcs,htake⟩:∃g cap cur,v=.slice (some ⟨g,0,none⟩) x.length cap/\B<=g/\w.heap[g]?=some (.cells cur tyByte (0,0))/\x.length<=cap/\cap<=maxLen/\cur.size=cap*1/\cur.toList.take (x.length*1)=Lib.byteCells x:=by
  rcases hown.2 with⟨_,hz⟩|⟨g,cap,cur,hv,r⟩
  ·exact absurd hz hl0
  ·exact⟨g,cap,cur,hv,r⟩
 have c1:w.drew.cell? ⟨b,1,none⟩=some (.slice (some ⟨g,0,none⟩) x.length cap):=by
  have:w.drew.heap[b]?=some (.cells #[p,.slice (some ⟨g,0,none⟩) x.length cap,.map (some mb)] tyWriter (0,0)):=hbk
  rw[Lib.cell_of_heap this];rfl
 have hSD:(Builtin.unsafeSliceData_ #[53] 82 #[.slice (some ⟨g,0,none⟩) x.length cap]).run prog w.drew=.ok (.pointer (some ⟨g,0,none⟩)) w.drew:=
  Lib.run_unsafeSliceData_row _ _ _ _ _ _ (by omega)
 have hUS:(Builtin.unsafeString_ #[82,3] 9 #[.pointer (some ⟨g,0,none⟩),.int .i64 x.length]).run prog w.drew=.ok (.string ⟨x.toArray⟩) (w.drew.freeze ⟨g,0,none⟩ x.length):=by
  refine Lib.run_unsafeString_row w.drew 82 3 9 tyByte underlying82 (by kernel_rfl) g cur.size (by have hg':w.drew.heap[g]?=some (.cells cur tyByte (0,0)):=hg;simp[World.shape?,hg']) x h0 (by omega) (by unfold maxLen at hcm;omega) ?_
  intro j u hu
  have:=hown.cells (g:=g) rfl j (.int .u8 u.toNat) (by simp[Lib.byteCells,hu])
  exact this
 have mixed:prog.follows .mixedOrders=true:=by kernel_rfl
 go_enter func20,ntmps20
 go_wp2
 go_region_o
 all_goals (go_wp2;go_ret;exact⟨rfl,((Fw.refl B b w).drew).freeze hbg (show w.drew.heap[g]?=_ from hg) _⟩)
end
end
section
theorem digits_len:∀(f n:Nat),(digitsOf f n).length<=f:=by
 intro f
 induction f with
 |zero=>intro n;exact le_refl _
 |succ f ih=>
  intro n
  rw[digitsOf]
  split
  ·simp
  ·have:=ih (n / 10);rw[length_append];simp;omega
theorem letterText_len(n:Nat):(letterText n).length<=22:=by
 unfold letterText
 split
 ·simp
 ·have:=digits_len 20 (n / 26);simp only[length_cons];omega
theorem brackets_len(b:Bool)(s:Nm):(brackets b s).length<=s.length+2:=by
 unfold brackets
 split
 ·simp
 ·omega
section
variable {σ:TS}{M:Nat}
theorem wkL_len{n K:Nat}(ih:∀{acc acc':List Nat}{i:Nat}{ls:List Nat}{s:Nm}{ls':List Nat},i<σ.nodes.length->acc.length<=maxSize->wk σ fitsT n acc i=some (acc',true)->acc.length+1<=acc'.length/\acc'.length<=maxSize/\(wr σ n ls i=some (s,ls')->s.length+3+acc.length*K<=acc'.length*K)) :
  ∀(ps:List Nat) {acc acc':List Nat}{ls:List Nat}{s:Nm}{ls':List Nat},(∀p∈ps,p<σ.nodes.length)->acc.length<=maxSize->wk.wkL (wk σ fitsT n) acc ps=some (acc',true)->acc.length+ps.length<=acc'.length/\acc'.length<=maxSize/\(wr.wrL σ (wr σ n) ls ps=some (s,ls')->s.length+acc.length*K<=acc'.length*K):=by
 intro ps
 induction ps with
 |nil=>
  intro acc acc' ls s ls' _ hm h
  rw[wk.wkL]at h
  cases h
  refine⟨le_refl _,hm,fun hs=>?_⟩
  rw[wr.wrL]at hs
  cases hs
  simp
 |cons p r ihr=>
  intro acc acc' ls s ls' hp hm hw
  rw[wk.wkL]at hw
  cases hg:wk σ fitsT n acc p with
  |none=>rw[hg]at hw;cases hw
  |some y=>
   obtain⟨a1,b1⟩:=y
   rw[hg]at hw
   cases b1 with
   |false=>cases hw
   |true=>
    obtain⟨h1,h2,_⟩:=ih (ls:=ls) (s:=s) (ls':=ls') (hp p (mem_cons_self ..)) hm hg
    obtain⟨h4,h5,_⟩:=ihr (ls:=ls) (s:=s) (ls':=ls') (fun q hq=>hp q (mem_cons_of_mem _ hq)) h2 hw
    refine⟨by rw[length_cons];omega,h5,fun hs=>?_⟩
    rw[wr.wrL]at hs
    cases hx:wr σ n ls p with
    |none=>rw[hx]at hs;cases hs
    |some y=>
     obtain⟨s1,ls1⟩:=y
     rw[hx]at hs
     simp only at hs
     cases hy:wr.wrL σ (wr σ n) ls1 r with
     |none=>rw[hy]at hs;cases hs
     |some z=>
      obtain⟨s2,ls2⟩:=z
      rw[hy]at hs
      cases hs
      have e1:=(ih (hp p (mem_cons_self ..)) hm hg).2.2 hx
      have e2:=(ihr (fun q hq=>hp q (mem_cons_of_mem _ hq)) h2 hw).2.2 hy
      have e3:=brackets_len (decide (0<(σ.node (σ.root p)).parts.length)) s1
      simp only[length_cons,length_append,cons_append]
      omega
theorem wr_len(hok:σ.Rg)(hM:∀j,j<σ.nodes.length->(σ.node j).name.length<=M\/maxSize<(σ.node j).parts.length) :
  ∀{n:Nat}{acc acc':List Nat}{i:Nat}{ls:List Nat}{s:Nm}{ls':List Nat},i<σ.nodes.length->acc.length<=maxSize->wk σ fitsT n acc i=some (acc',true)->acc.length+1<=acc'.length/\acc'.length<=maxSize/\(wr σ n ls i=some (s,ls')->s.length+3+acc.length*(M+40)<=acc'.length*(M+40)):=by
 intro n
 induction n with
 |zero=>intro acc acc' i ls s ls' _ _ h;cases h
 |succ n ih=>
  intro acc acc' i ls s ls' hi hm hw
  have hr:=hok.root_lt hi
  rw[wk]at hw
  split at hw
  ·rename_i hT
   have hT:acc.length+1<=maxSize:=by simpa [fitsT]using hT
   have hpl:∀p∈(σ.node (σ.root i)).parts,p<σ.nodes.length:=fun p hp=>hok.part_lt hr hp
   have hml:(acc++[σ.root i]).length<=maxSize:=by rw[length_append];exact hT
   obtain⟨h1,h2,_⟩:=wkL_len (K:=M+40) (fun {acc acc' i ls s ls'} a b c=>ih a b c) (ls:=ls) (s:=s) (ls':=ls') _ hpl hml hw
   have h1':acc.length+1+(σ.node (σ.root i)).parts.length<=acc'.length:=by rw[length_append]at h1;exact h1
   refine⟨by omega,h2,fun hs=>?_⟩
   have hk:(acc++[σ.root i]).length*(M+40)=acc.length*(M+40)+(M+40):=by rw[length_append,List.length_singleton,Nat.add_mul,Nat.one_mul]
   rw[wr]at hs
   by_cases hl:σ.isLetter (σ.root i)=true
   ·rw[if_pos hl]at hs
    have hmono:(acc++[σ.root i]).length*(M+40)<=acc'.length*(M+40):=Nat.mul_le_mul_right _ (by omega)
    split at hs<;>cases hs
    ·have:=letterText_len ‹_›;omega
    ·have:=letterText_len ls.length;omega
   ·rw[if_neg hl]at hs
    by_cases ha:(σ.node (σ.root i)).name=arrowN
    ·rw[if_pos ha]at hs
     match hps:(σ.node (σ.root i)).parts,hs with
     |a::b::r,hs=>
      rw[hps]at hw hpl
      simp only at hs
      cases hx:wr σ n ls a with
      |none=>rw[hx]at hs;cases hs
      |some y=>
       obtain⟨s1,ls1⟩:=y
       rw[hx]at hs
       simp only at hs
       cases hy:wr σ n ls1 b with
       |none=>rw[hy]at hs;cases hs
       |some z=>
        obtain⟨s2,ls2⟩:=z
        rw[hy]at hs
        cases hs
        rw[wk.wkL]at hw
        cases hg:wk σ fitsT n (acc++[σ.root i]) a with
        |none=>rw[hg]at hw;cases hw
        |some y=>
         obtain⟨a1,b1⟩:=y
         rw[hg]at hw
         cases b1 with
         |false=>cases hw
         |true=>
          simp only at hw
          rw[wk.wkL]at hw
          cases hg2:wk σ fitsT n a1 b with
          |none=>rw[hg2]at hw;cases hw
          |some y=>
           obtain⟨a2,b2⟩:=y
           rw[hg2]at hw
           cases b2 with
           |false=>cases hw
           |true=>
            simp only at hw
            have q1:=ih (ls:=ls) (s:=s1) (ls':=ls1) (hpl a (mem_cons_self ..)) hml hg
            have q2:=ih (ls:=ls1) (s:=s2) (ls':=ls1) (hpl b (mem_cons_of_mem _ (mem_cons_self ..))) q1.2.1 hg2
            have q3:=wkL_len (K:=M+40) (fun {acc acc' i ls s ls'} a b c=>ih a b c) (ls:=ls) (s:=s1) (ls':=ls') r (fun p hp=>hpl p (mem_cons_of_mem _ (mem_cons_of_mem _ hp))) q2.2.1 hw
            have e1:=q1.2.2 hx
            have e2:=(ih (hpl b (mem_cons_of_mem _ (mem_cons_self ..))) q1.2.1 hg2).2.2 hy
            have e3:a2.length*(M+40)<=acc'.length*(M+40):=Nat.mul_le_mul_right _ (by omega)
            have e4:=brackets_len ((σ.node (σ.root a)).name==arrowN) s1
            simp only[length_append,length_cons,length_nil]
            rw[length_append,List.length_singleton]at hk e1
            omega
    ·rw[if_neg ha]at hs
     cases hx:wr.wrL σ (wr σ n) ls (σ.node (σ.root i)).parts with
     |none=>rw[hx]at hs;cases hs
     |some y=>
      obtain⟨s1,ls1⟩:=y
      rw[hx]at hs
      cases hs
      have e1:=(wkL_len (K:=M+40) (fun {acc acc' i ls s ls'} a b c=>ih a b c) _ hpl hml hw).2.2 hx
      have e2:(σ.node (σ.root i)).name.length<=M:=by
       rcases hM _ hr with h|h
       ·exact h
       ·omega
      rw[length_append]
      omega
  ·cases hw
theorem text_len(hok:σ.Rg)(hM:∀j,j<σ.nodes.length->(σ.node j).name.length<=M\/maxSize<(σ.node j).parts.length){i:Nat}(hi:i<σ.nodes.length)(hf:σ.fits i=true){s:Nm}{ls:List Nat}(h:wr σ wkFuel [] i=some (s,ls)):s.length<=200*(M+40):=by
 obtain⟨a,ha⟩:=σ.fits_wk i
 rw[hf]at ha
 obtain⟨h1,h2,h3⟩:=wr_len hok hM (ls:=[]) (s:=s) (ls':=ls) hi (by decide) ha
 have e1:=h3 h
 have e2:a.length*(M+40)<=200*(M+40):=Nat.mul_le_mul_right _ h2
 omega
end
end
end Go.Proofs.YtcbppnefeonmgaaGreatDoor
