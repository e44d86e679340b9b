import Derived.Test.YtcbppnefeonmgaaGreatDoorC2
import Derived.Maps.OwnSet
import Derived.DeepKeys4
import Derived.Laws.AppendOwn
set_option linter.all false
set_option maxHeartbeats 40000000
set_option maxRecDepth 100000
open Go.Proofs.Tryz
open Or (inl inr)
open Nat (le_refl le_trans lt_of_lt_of_le)
open List (length_append length_cons mem_append mem_singleton mem_cons length_nil map_append map_cons)
namespace Go.Proofs.YtcbppnefeonmgaaGreatDoor
section
open Go.RowKit
abbrev tyRdr:TypeId:=73
abbrev tyTree:TypeId:=77
abbrev tyTreeP:TypeId:=34
structure Kq(rb:Nat)(w w':World):Prop where
 os:w'.os=w.os
 tape:w'.tape=w.tape
 output:w'.output=w.output
 size:w.heap.size<=w'.heap.size
 block:∀k,k<w.heap.size->k≠rb->w'.heap[k]?=w.heap[k]?
theorem Kq.refl(rb:Nat)(w:World):Kq rb w w:=⟨rfl,rfl,rfl,le_refl _,fun _ _ _=>rfl⟩
theorem Kq.trans{rb:Nat}{a b c:World}(h:Kq rb a b)(k:Kq rb b c):Kq rb a c:=
 ⟨k.os.trans h.os,k.tape.trans h.tape,k.output.trans h.output,le_trans h.size k.size,fun i hi hr=>(k.block i (lt_of_lt_of_le hi h.size) hr).trans (h.block i hi hr)⟩
theorem Kq.of_below{rb:Nat}{w w':World}(h:Below w.heap.size w w'):Kq rb w w':=⟨h.os,h.tape,h.output,h.size,fun k hk _=>h.block k hk⟩
theorem Kq.alloc{rb:Nat}{a w:World}(h:Kq rb a w)(o:Obj):Kq rb a (w.alloc o):=
 h.trans (Kq.of_below ((Below.refl _ _).alloc (le_refl _) o))
theorem Kq.setR{rb:Nat}{a w:World}(h:Kq rb a w)(o:Nat)(v:Value):Kq rb a (w.setCell ⟨rb,o,none⟩ v):=
 h.trans ⟨rfl,rfl,rfl,by simp[World.setCell],fun k _ hk=>Below.heap_setCell _ _ _ _ hk⟩
theorem Kq.grownOwn{rb:Nat}{a w w':World}{row:Option Nat}(h:Kq rb a w)(hg:w.grownBy w' row)(hr:∀k,row=some k->a.heap.size<=k):Kq rb a w':=
 ⟨hg.os.trans h.os,hg.tape.trans h.tape,hg.output.trans h.output,le_trans h.size hg.size,fun k hk hkr=>by
  rw[hg.block k (lt_of_lt_of_le hk h.size) (fun e=>by have:=hr k e.symm;omega)]
  exact h.block k hk hkr⟩
structure Rq(rb:Nat)(ts:Toks)(w:World):Prop where
 len:ts.length<=4000
 toks:∀t∈ts,Tok t/\t≠[]
 own:∃(tb o cap:Nat) (cs:Array Value),w.heap[rb]?=some (.cells #[.slice (some ⟨tb,o,none⟩) ts.length cap] tyRdr (0,0))/\w.heap[tb]?=some (.cells cs tyStr (0,0))/\ts.length<=cap/\cap<=9223372036854775807/\∀i t,ts[i]?=some t->cs[o+i]?=some (strV t)
theorem Rq.lt{rb:Nat}{ts:Toks}{w:World}(h:Rq rb ts w):rb<w.heap.size:=by
 obtain⟨tb,o,cap,cs,hb,_⟩:=h.own
 exact(Array.getElem?_eq_some_iff.1 hb).1
theorem Rq.isR{rb:Nat}{ts:Toks}{w:World}(h:Rq rb ts w):∃c f,w.heap[rb]?=some (.cells c tyRdr f):=by
 obtain⟨tb,o,cap,cs,hb,_⟩:=h.own
 exact⟨_,_,hb⟩
theorem Rq.kept{rb:Nat}{ts:Toks}{w w':World}(h:Rq rb ts w)(hk:∀k,k<w.heap.size->w'.heap[k]?=w.heap[k]?):Rq rb ts w':=by
 obtain⟨tb,o,cap,cs,hb,ht,h1,h2⟩:=h.own
 exact⟨h.len,h.toks,tb,o,cap,cs,by rw[hk rb (Array.getElem?_eq_some_iff.1 hb).1];exact hb,by rw[hk tb (Array.getElem?_eq_some_iff.1 ht).1];exact ht,h1,h2⟩
theorem Rq.alloc{rb:Nat}{ts:Toks}{w:World}(h:Rq rb ts w)(o:Obj):Rq rb ts (w.alloc o):=
 h.kept fun _ hk=>Below.heap_alloc _ _ _ hk
def ptrV(b:Nat):Value:=.pointer (some ⟨b,0,none⟩)
def KindOf(c:Nat)(is name:List UInt8)(k:Int)(txt:List UInt8)(cs:List Nat):Prop:=
 ∀P:Nat->List UInt8->List UInt8->Int->List UInt8->List Nat->Prop,
  (∀(c:Nat),c<=1->∀(x:List UInt8),P c K.num_ x 0 x []) ->
  (∀(c:Nat),c<=1->∀(x:List UInt8),x=K.true_\/x=K.false_->P c K.const_ x 1 x []) ->
  (∀(c:Nat),c<=1->P c K.const_ K.unit_ 2 K.unit_ []) ->
  (∀(c:Nat),c<=1->∀(x:List UInt8),P c K.var_ x 3 x []) ->
  (P 1 K.const_ K.under_ 4 K.under_ []) ->
  (∀(x:List UInt8),P 0 K.fun_ x 5 x [0]) ->
  (∀(x:List UInt8),P 0 K.let_ x 6 x [0,0]) ->
  (∀(x:List UInt8),P 0 K.rec_ x 7 x [0,0]) ->
  (P 0 K.if_ [] 8 [] [0,0,0]) ->
  (P 0 K.seq_ [] 9 [] [0,0]) ->
  (P 0 K.setN_ [] 10 [] [0,0]) ->
  (∀(x:List UInt8),x∈([[61],[60],[43],[45],[42],[47]]:List (List UInt8))->P 0 x [] 11 x [0,0]) ->
  (P 0 K.bang_ [] 12 [] [0]) ->
  (P 0 K.app_ [] 13 [] [0,0]) ->
  (∀(c:Nat),c<=1->∀(x:List UInt8),∀(n:Nat),P c K.con_ x 14 x (List.replicate n c)) ->
  (∀(n:Nat),P 0 K.match_ [] 15 [] (0::List.replicate n 6)) ->
  (P 6 K.row_ [] 16 [] [1,0]) ->
  (P 4 K.do_ [] 17 [] [0]) ->
  (∀(x:List UInt8),∀(n m:Nat),P 4 K.type_ x 18 x (List.replicate n 5++List.replicate m 3)) ->
  (∀(x:List UInt8),P 5 K.var_ x 19 x []) ->
  (∀(x:List UInt8),∀(n:Nat),P 3 K.named_ x 20 x (List.replicate n 2)) ->
  (∀(x:List UInt8),P 2 K.var_ (39::x) 21 x []) ->
  (∀(x:List UInt8),∀(n:Nat),P 2 K.named_ x 22 x (List.replicate n 2)) ->
  (P 2 K.arrow_ [] 23 [] [2,2]) ->
  (∀(x:List UInt8),P 4 K.let_ x 6 x [0]) ->
  (∀(x:List UInt8),P 4 K.rec_ x 7 x [0]) ->
  P c is name k txt cs
theorem KindOf.num(c:Nat)(hc:c<=1)(x:List UInt8):KindOf c K.num_ x 0 x []:=fun _ h0 _ _ _ _ _ _ _ _ _ _ _ _ _ _ _ _ _ _ _ _ _ _ _ _ _=>h0 c hc x
theorem KindOf.bool(c:Nat)(hc:c<=1)(x:List UInt8)(hx:x=K.true_\/x=K.false_):KindOf c K.const_ x 1 x []:=fun _ _ h1 _ _ _ _ _ _ _ _ _ _ _ _ _ _ _ _ _ _ _ _ _ _ _ _=>h1 c hc x hx
theorem KindOf.unit(c:Nat)(hc:c<=1):KindOf c K.const_ K.unit_ 2 K.unit_ []:=fun _ _ _ h2 _ _ _ _ _ _ _ _ _ _ _ _ _ _ _ _ _ _ _ _ _ _ _=>h2 c hc
theorem KindOf.var(c:Nat)(hc:c<=1)(x:List UInt8):KindOf c K.var_ x 3 x []:=fun _ _ _ _ h3 _ _ _ _ _ _ _ _ _ _ _ _ _ _ _ _ _ _ _ _ _ _=>h3 c hc x
theorem KindOf.wild:KindOf 1 K.const_ K.under_ 4 K.under_ []:=fun _ _ _ _ _ h4 _ _ _ _ _ _ _ _ _ _ _ _ _ _ _ _ _ _ _ _ _=>h4
theorem KindOf.fun_(x:List UInt8):KindOf 0 K.fun_ x 5 x [0]:=fun _ _ _ _ _ _ h5 _ _ _ _ _ _ _ _ _ _ _ _ _ _ _ _ _ _ _ _=>h5 x
theorem KindOf.let_(x:List UInt8):KindOf 0 K.let_ x 6 x [0,0]:=fun _ _ _ _ _ _ _ h6 _ _ _ _ _ _ _ _ _ _ _ _ _ _ _ _ _ _ _=>h6 x
theorem KindOf.rec_(x:List UInt8):KindOf 0 K.rec_ x 7 x [0,0]:=fun _ _ _ _ _ _ _ _ h7 _ _ _ _ _ _ _ _ _ _ _ _ _ _ _ _ _ _=>h7 x
theorem KindOf.if_:KindOf 0 K.if_ [] 8 [] [0,0,0]:=fun _ _ _ _ _ _ _ _ _ h8 _ _ _ _ _ _ _ _ _ _ _ _ _ _ _ _ _=>h8
theorem KindOf.seq:KindOf 0 K.seq_ [] 9 [] [0,0]:=fun _ _ _ _ _ _ _ _ _ _ h9 _ _ _ _ _ _ _ _ _ _ _ _ _ _ _ _=>h9
theorem KindOf.set:KindOf 0 K.setN_ [] 10 [] [0,0]:=fun _ _ _ _ _ _ _ _ _ _ _ h10 _ _ _ _ _ _ _ _ _ _ _ _ _ _ _=>h10
theorem KindOf.calc_(x:List UInt8)(hx:x∈([[61],[60],[43],[45],[42],[47]]:List (List UInt8))):KindOf 0 x [] 11 x [0,0]:=fun _ _ _ _ _ _ _ _ _ _ _ _ h11 _ _ _ _ _ _ _ _ _ _ _ _ _ _=>h11 x hx
theorem KindOf.fetch:KindOf 0 K.bang_ [] 12 [] [0]:=fun _ _ _ _ _ _ _ _ _ _ _ _ _ h12 _ _ _ _ _ _ _ _ _ _ _ _ _=>h12
theorem KindOf.app:KindOf 0 K.app_ [] 13 [] [0,0]:=fun _ _ _ _ _ _ _ _ _ _ _ _ _ _ h13 _ _ _ _ _ _ _ _ _ _ _ _=>h13
theorem KindOf.con(c:Nat)(hc:c<=1)(x:List UInt8)(n:Nat):KindOf c K.con_ x 14 x (List.replicate n c):=fun _ _ _ _ _ _ _ _ _ _ _ _ _ _ _ h14 _ _ _ _ _ _ _ _ _ _ _=>h14 c hc x n
theorem KindOf.match_(n:Nat):KindOf 0 K.match_ [] 15 [] (0::List.replicate n 6):=fun _ _ _ _ _ _ _ _ _ _ _ _ _ _ _ _ h15 _ _ _ _ _ _ _ _ _ _=>h15 n
theorem KindOf.row:KindOf 6 K.row_ [] 16 [] [1,0]:=fun _ _ _ _ _ _ _ _ _ _ _ _ _ _ _ _ _ h16 _ _ _ _ _ _ _ _ _=>h16
theorem KindOf.do_:KindOf 4 K.do_ [] 17 [] [0]:=fun _ _ _ _ _ _ _ _ _ _ _ _ _ _ _ _ _ _ h17 _ _ _ _ _ _ _ _=>h17
theorem KindOf.type_(x:List UInt8)(n m:Nat):KindOf 4 K.type_ x 18 x (List.replicate n 5++List.replicate m 3):=fun _ _ _ _ _ _ _ _ _ _ _ _ _ _ _ _ _ _ _ h18 _ _ _ _ _ _ _=>h18 x n m
theorem KindOf.own(x:List UInt8):KindOf 5 K.var_ x 19 x []:=fun _ _ _ _ _ _ _ _ _ _ _ _ _ _ _ _ _ _ _ _ h19 _ _ _ _ _ _=>h19 x
theorem KindOf.variant(x:List UInt8)(n:Nat):KindOf 3 K.named_ x 20 x (List.replicate n 2):=fun _ _ _ _ _ _ _ _ _ _ _ _ _ _ _ _ _ _ _ _ _ h20 _ _ _ _ _=>h20 x n
theorem KindOf.letter(x:List UInt8):KindOf 2 K.var_ (39::x) 21 x []:=fun _ _ _ _ _ _ _ _ _ _ _ _ _ _ _ _ _ _ _ _ _ _ h21 _ _ _ _=>h21 x
theorem KindOf.named(x:List UInt8)(n:Nat):KindOf 2 K.named_ x 22 x (List.replicate n 2):=fun _ _ _ _ _ _ _ _ _ _ _ _ _ _ _ _ _ _ _ _ _ _ _ h22 _ _ _=>h22 x n
theorem KindOf.arrow:KindOf 2 K.arrow_ [] 23 [] [2,2]:=fun _ _ _ _ _ _ _ _ _ _ _ _ _ _ _ _ _ _ _ _ _ _ _ _ h23 _ _=>h23
theorem KindOf.dlet(x:List UInt8):KindOf 4 K.let_ x 6 x [0]:=fun _ _ _ _ _ _ _ _ _ _ _ _ _ _ _ _ _ _ _ _ _ _ _ _ _ h24 _=>h24 x
theorem KindOf.drec(x:List UInt8):KindOf 4 K.rec_ x 7 x [0]:=fun _ _ _ _ _ _ _ _ _ _ _ _ _ _ _ _ _ _ _ _ _ _ _ _ _ _ h25=>h25 x
def Mem(A:Nat->Prop)(w:World):Nat->Tr->Nat->Prop
 |c,.mk is name ts,b=>∃(k:Int) (txt:List UInt8) (cs:List Nat) (pv:Value) (ps:List Nat),KindOf c is name k txt cs/\w.heap[b]?=some (.cells #[.int .i64 k,.string (bs txt),pv] tyTree (0,0))/\w.ownsRow 0 tyTreeP 1 pv ps.length (ps.map ptrV)/\(∀g,pv.ownBlock=some g->A g)/\Mems cs ts ps
 where
 Mems:List Nat->List Tr->List Nat->Prop
  |[],[],[]=>True
  |c::cs,t::ts,b::bs=>Mem A w c t b/\Mems cs ts bs
  |_,_,_=>False
theorem Mem.mk{A:Nat->Prop}{w:World}{c:Nat}{is name:List UInt8}{ts:List Tr}{k:Int}{txt:List UInt8}{cs:List Nat}{b:Nat}{pv:Value}{ps:List Nat}(hk:KindOf c is name k txt cs)
  (hb:w.heap[b]?=some (.cells #[.int .i64 k,.string (bs txt),pv] tyTree (0,0))) (hr:w.ownsRow 0 tyTreeP 1 pv ps.length (ps.map ptrV)) (hA:∀g,pv.ownBlock=some g->A g) (hm:Mem.Mems A w cs ts ps):Mem A w c (.mk is name ts) b:=by
 rw[Mem];exact⟨k,txt,cs,pv,ps,hk,hb,hr,hA,hm⟩
theorem Mem.inv{A:Nat->Prop}{w:World}{c:Nat}{is name:List UInt8}{ts:List Tr}{b:Nat}(h:Mem A w c (.mk is name ts) b):∃(k:Int) (txt:List UInt8) (cs:List Nat) (pv:Value) (ps:List Nat),KindOf c is name k txt cs/\w.heap[b]?=some (.cells #[.int .i64 k,.string (bs txt),pv] tyTree (0,0))/\w.ownsRow 0 tyTreeP 1 pv ps.length (ps.map ptrV)/\(∀g,pv.ownBlock=some g->A g)/\Mem.Mems A w cs ts ps:=by
 rw[Mem]at h;exact h
theorem Mem.Mems.nil{A:Nat->Prop}{w:World}:Mem.Mems A w [] [] []:=by rw[Mem.Mems];trivial
theorem Mem.Mems.cons{A:Nat->Prop}{w:World}{c:Nat}{cs:List Nat}{t:Tr}{ts:List Tr}{b:Nat}{bs:List Nat}(h:Mem A w c t b)(hr:Mem.Mems A w cs ts bs):Mem.Mems A w (c::cs) (t::ts) (b::bs):=by rw[Mem.Mems];exact⟨h,hr⟩
theorem Mem.Mems.unnil{A:Nat->Prop}{w:World}{ts:List Tr}{b:List Nat}(h:Mem.Mems A w [] ts b):ts=[]/\b=[]:=by
 cases ts<;>cases b<;>simp[Mem.Mems]at h ⊢
theorem Mem.Mems.uncons{A:Nat->Prop}{w:World}{c:Nat}{cs:List Nat}{ts:List Tr}{b:List Nat}(h:Mem.Mems A w (c::cs) ts b):∃t r b0 br,ts=t::r/\b=b0::br/\Mem A w c t b0/\Mem.Mems A w cs r br:=by
 cases ts with
 |nil=>cases b<;>simp[Mem.Mems]at h
 |cons t r=>
  cases b with
  |nil=>simp[Mem.Mems]at h
  |cons b0 br=>rw[Mem.Mems]at h;exact⟨t,r,b0,br,rfl,rfl,h.1,h.2⟩
theorem Mem.both{A:Nat->Prop}{w:World}{P:Nat->Tr->Nat->Prop}{Q:List Nat->List Tr->List Nat->Prop}
  (hmk:∀{c is name ts k txt cs b pv ps},KindOf c is name k txt cs->w.heap[b]?=some (.cells #[.int .i64 k,.string (bs txt),pv] tyTree (0,0))->w.ownsRow 0 tyTreeP 1 pv ps.length (ps.map ptrV)->(∀g,pv.ownBlock=some g->A g)->Mem.Mems A w cs ts ps->Q cs ts ps->P c (.mk is name ts) b)
  (hnil:Q [] [] []) (hcons:∀{c cs t ts b bs},Mem A w c t b->Mem.Mems A w cs ts bs->P c t b->Q cs ts bs->Q (c::cs) (t::ts) (b::bs)):(∀t c b,Mem A w c t b->P c t b)/\∀ts cs bs,Mem.Mems A w cs ts bs->Q cs ts bs:=by
 have h1:∀is name ts,(∀cs bs,Mem.Mems A w cs ts bs->Q cs ts bs)->∀c b,Mem A w c (.mk is name ts) b->P c (.mk is name ts) b:=by
  intro is name ts ih c b h
  obtain⟨k,txt,cs,pv,ps,a1,a2,a3,a4,a5⟩:=h.inv
  exact hmk a1 a2 a3 a4 a5 (ih _ _ a5)
 have h2:∀cs bs,Mem.Mems A w cs [] bs->Q cs [] bs:=by
  intro cs bs h
  cases cs with
  |nil=>obtain⟨_,rfl⟩:=h.unnil;exact hnil
  |cons c cs=>obtain⟨t,r,b0,br,e,_⟩:=h.uncons;cases e
 have h3:∀t ts,(∀c b,Mem A w c t b->P c t b)->(∀cs bs,Mem.Mems A w cs ts bs->Q cs ts bs)->∀cs bs,Mem.Mems A w cs (t::ts) bs->Q cs (t::ts) bs:=by
  intro t ts iht ihts cs bs h
  cases cs with
  |nil=>obtain⟨e,_⟩:=h.unnil;cases e
  |cons c cs=>
   obtain⟨t',r,b0,br,e,rfl,a,b⟩:=h.uncons
   cases e
   exact hcons a b (iht _ _ a) (ihts _ _ b)
 exact⟨fun t=>Tr.rec (motive_1:=fun t=>∀c b,Mem A w c t b->P c t b) (motive_2:=fun ts=>∀cs bs,Mem.Mems A w cs ts bs->Q cs ts bs) h1 h2 h3 t,fun ts=>Tr.rec_1 (motive_1:=fun t=>∀c b,Mem A w c t b->P c t b) (motive_2:=fun ts=>∀cs bs,Mem.Mems A w cs ts bs->Q cs ts bs) h1 h2 h3 ts⟩
theorem ownsRow_kept{w w':World}{base:Nat}{t:TypeId}{size:Nat}{v:Value}{n:Nat}{xs:List Value}(h:w.ownsRow base t size v n xs)(hk:∀(k:Nat)(c:Array Value)(f:Nat×Nat),v.ownBlock=some k->w.heap[k]?=some (.cells c t f)->w'.heap[k]?=w.heap[k]?):w'.ownsRow base t size v n xs:=by
 refine⟨h.1,?_⟩
 rcases h.2 with hn|⟨g,cap,cur,rfl,hb,hgg,rest⟩
 ·exact .inl hn
 ·exact .inr ⟨g,cap,cur,rfl,hb,by rw[hk g _ _ rfl hgg];exact hgg,rest⟩
theorem Mem.keptB{A A':Nat->Prop}{w w':World}(hN:∀(k:Nat)(c:Array Value)(f:Nat×Nat),w.heap[k]?=some (.cells c tyTree f)->w'.heap[k]?=w.heap[k]?)(hP:∀(k:Nat)(c:Array Value)(f:Nat×Nat),A k->w.heap[k]?=some (.cells c tyTreeP f)->w'.heap[k]?=w.heap[k]?/\A' k):(∀(t:Tr)(c:Nat)(b:Nat),Mem A w c t b->Mem A' w' c t b)/\∀(ts:List Tr)(cs bs:List Nat),Mem.Mems A w cs ts bs->Mem.Mems A' w' cs ts bs:=by
 refine Mem.both (P:=fun c t b=>Mem A' w' c t b) (Q:=fun cs ts bs=>Mem.Mems A' w' cs ts bs) ?_ Mem.Mems.nil (fun _ _ h hr=>Mem.Mems.cons h hr)
 intro c is name ts k txt cs b pv ps h1 hb hr hA _ hm
 refine Mem.mk h1 (by rw[hN _ _ _ hb];exact hb) (ownsRow_kept hr fun k c f e he=>(hP k c f (hA k e) he).1) (fun g hg=>?_) hm
 rcases hr.2 with⟨rfl,_⟩|⟨g2,cap,cur,rfl,_,hgg,_⟩
 ·simp[Value.ownBlock]at hg
 ·have e:g2=g:=by simpa [Value.ownBlock]using hg
  subst e
  exact(hP _ _ _ (hA _ hg) hgg).2
theorem Mem.kept{A A':Nat->Prop}{w w':World}(hN:∀(k:Nat)(c:Array Value)(f:Nat×Nat),w.heap[k]?=some (.cells c tyTree f)->w'.heap[k]?=w.heap[k]?)(hP:∀(k:Nat)(c:Array Value)(f:Nat×Nat),A k->w.heap[k]?=some (.cells c tyTreeP f)->w'.heap[k]?=w.heap[k]?/\A' k){c:Nat}{t:Tr}{b:Nat}(h:Mem A w c t b):Mem A' w' c t b:=(Mem.keptB hN hP).1 _ _ _ h
theorem Mem.Mems.kept{A A':Nat->Prop}{w w':World}(hN:∀(k:Nat)(c:Array Value)(f:Nat×Nat),w.heap[k]?=some (.cells c tyTree f)->w'.heap[k]?=w.heap[k]?)(hP:∀(k:Nat)(c:Array Value)(f:Nat×Nat),A k->w.heap[k]?=some (.cells c tyTreeP f)->w'.heap[k]?=w.heap[k]?/\A' k){cs:List Nat}{ts:List Tr}{bs:List Nat}(h:Mem.Mems A w cs ts bs):Mem.Mems A' w' cs ts bs:=(Mem.keptB hN hP).2 _ _ _ h
theorem lt_of_heap{w:World}{k:Nat}{o:Obj}(h:w.heap[k]?=some o):k<w.heap.size:=(Array.getElem?_eq_some_iff.1 h).1
theorem Mem.wide{A A':Nat->Prop}{w:World}(hA:∀k,A k->k<w.heap.size->A' k){c:Nat}{t:Tr}{b:Nat}(h:Mem A w c t b):Mem A' w c t b:=h.kept (fun _ _ _ _=>rfl) (fun k _ _ h1 h2=>⟨rfl,hA k h1 (lt_of_heap h2)⟩)
theorem Mem.Mems.wide{A A':Nat->Prop}{w:World}(hA:∀k,A k->k<w.heap.size->A' k){cs:List Nat}{ts:List Tr}{bs:List Nat}(h:Mem.Mems A w cs ts bs):Mem.Mems A' w cs ts bs:=h.kept (fun _ _ _ _=>rfl) (fun k _ _ h1 h2=>⟨rfl,hA k h1 (lt_of_heap h2)⟩)
theorem kq_other{rb:Nat}{w w':World}{T:TypeId}(hT:T≠tyRdr)(hR:∃c f,w.heap[rb]?=some (.cells c tyRdr f))(hk:Kq rb w w'){k:Nat}{c:Array Value}{f:Nat×Nat}(he:w.heap[k]?=some (.cells c T f)):w'.heap[k]?=w.heap[k]?:=by
 refine hk.block k (lt_of_heap he) (fun e=>?_)
 subst e
 obtain⟨c2,f2,hR⟩:=hR
 rw[he]at hR
 simp at hR
 exact hT hR.2.1
theorem Mem.kq{A:Nat->Prop}{rb:Nat}{w w':World}{ts:Toks}(hR:Rq rb ts w)(hk:Kq rb w w'){c:Nat}{t:Tr}{b:Nat}(h:Mem A w c t b):Mem A w' c t b:=h.kept (fun _ _ _ he=>kq_other (by decide) hR.isR hk he) (fun _ _ _ h1 he=>⟨kq_other (by decide) hR.isR hk he,h1⟩)
theorem Mem.Mems.kq{A:Nat->Prop}{rb:Nat}{w w':World}{ts:Toks}(hR:Rq rb ts w)(hk:Kq rb w w'){cs:List Nat}{l:List Tr}{b:List Nat}(h:Mem.Mems A w cs l b):Mem.Mems A w' cs l b:=h.kept (fun _ _ _ he=>kq_other (by decide) hR.isR hk he) (fun _ _ _ h1 he=>⟨kq_other (by decide) hR.isR hk he,h1⟩)
theorem Mem.onto{A:Nat->Prop}{w w':World}(hb:Below w.heap.size w w'){c:Nat}{t:Tr}{b:Nat}(h:Mem A w c t b):Mem A w' c t b:=h.kept (fun _ _ _ he=>hb.block _ (lt_of_heap he)) (fun _ _ _ h1 he=>⟨hb.block _ (lt_of_heap he),h1⟩)
theorem Mem.Mems.onto{A:Nat->Prop}{w w':World}(hb:Below w.heap.size w w'){cs:List Nat}{l:List Tr}{b:List Nat}(h:Mem.Mems A w cs l b):Mem.Mems A w' cs l b:=h.kept (fun _ _ _ he=>hb.block _ (lt_of_heap he)) (fun _ _ _ h1 he=>⟨hb.block _ (lt_of_heap he),h1⟩)
theorem Mem.alloc{A:Nat->Prop}{w:World}{c:Nat}{t:Tr}{b:Nat}(h:Mem A w c t b)(o:Obj):Mem A (w.alloc o) c t b:=h.onto ((Below.refl _ _).alloc (le_refl _) o)
theorem Mem.Mems.alloc{A:Nat->Prop}{w:World}{cs:List Nat}{ts:List Tr}{b:List Nat}(h:Mem.Mems A w cs ts b)(o:Obj):Mem.Mems A (w.alloc o) cs ts b:=h.onto ((Below.refl _ _).alloc (le_refl _) o)
theorem Mem.Mems.grown{A:Nat->Prop}{w w':World}{n:Nat}{xs:List Value}{base:Nat}{v:Value}(hv:w.ownsRow base tyTreeP 1 v n xs)(hg:w.grownBy w' v.ownBlock)(hA:∀g,A g->v.ownBlock≠some g){cs:List Nat}{l:List Tr}{b:List Nat}(h:Mem.Mems A w cs l b):Mem.Mems A w' cs l b:=by
 refine h.kept (fun k c f he=>hg.block k (lt_of_heap he) (fun e=>?_)) (fun k c f h1 he=>⟨hg.block k (lt_of_heap he) (fun e=>hA k h1 e.symm),h1⟩)
 rcases hv.2 with⟨rfl,_⟩|⟨g2,cap,cur,rfl,_,hgg,_⟩
 ·simp[Value.ownBlock]at e
 ·have e:k=g2:=by simpa [Value.ownBlock]using e
  subst e
  rw[he]at hgg
  simp at hgg
  exact absurd hgg.2.1 (by decide)
theorem Mem.Mems.append{A:Nat->Prop}{w:World}:∀{cs:List Nat}{ts:List Tr}{b:List Nat}{cs2:List Nat}{ts2:List Tr}{b2:List Nat},Mem.Mems A w cs ts b->Mem.Mems A w cs2 ts2 b2->Mem.Mems A w (cs++cs2) (ts++ts2) (b++b2):=by
 intro cs
 induction cs with
 |nil=>intro ts b cs2 ts2 b2 h h2;obtain⟨rfl,rfl⟩:=h.unnil;exact h2
 |cons c cs ih=>intro ts b cs2 ts2 b2 h h2;obtain⟨t,r,b0,br,rfl,rfl,h,hr⟩:=h.uncons;exact .cons h (ih hr h2)
theorem Mem.Mems.length{A:Nat->Prop}{w:World}:∀{cs:List Nat}{ts:List Tr}{b:List Nat},Mem.Mems A w cs ts b->cs.length=ts.length/\b.length=ts.length:=by
 intro cs
 induction cs with
 |nil=>intro ts b h;obtain⟨rfl,rfl⟩:=h.unnil;exact⟨rfl,rfl⟩
 |cons c cs ih=>intro ts b h;obtain⟨t,r,b0,br,rfl,rfl,h,hr⟩:=h.uncons;have:=ih hr;simp only[length_cons];omega
theorem Mem.made{A:Nat->Prop}{w:World}{c:Nat}{is name:List UInt8}{ts:List Tr}{k:Int}{txt:List UInt8}{cs:List Nat}{pv:Value}{ps:List Nat}(hk:KindOf c is name k txt cs)(hr:w.ownsRow 0 tyTreeP 1 pv ps.length (ps.map ptrV))(hA:∀g,pv.ownBlock=some g->A g)(hm:Mem.Mems A w cs ts ps) :
  Mem A (w.alloc (.cells #[.int .i64 k,.string (bs txt),pv] tyTree)) c (.mk is name ts) w.heap.size:=
 .mk hk (by simp only[World.alloc,Array.getElem?_push_size]) (hr.alloc _) hA (hm.alloc _)
def From(w:World):Nat->Prop:=fun g=>w.heap.size<=g
def noForm:Value:=.iface 71 (.agg #[])
def gaveUp:Ending:=.panicked [{ v:=noForm,recovered:=false }]
def AnsN(rb c:Nat)(w:World)(o:Option (Tr×Toks))(e:Ending)(w':World):Prop:=
 Kq rb w w'/\((o=none/\e=gaveUp)\/∃t r b,o=some (t,r)/\e=.returned (ptrV b)/\Mem (From w) w' c t b/\Rq rb r w')
def AnsO(rb c:Nat)(w:World)(o:Option (Option Tr×Toks))(e:Ending)(w':World):Prop:=
 Kq rb w w'/\((o=none/\e=gaveUp)\/(∃r,o=some (none,r)/\e=.returned (.pointer none)/\Rq rb r w')\/∃t r b,o=some (some t,r)/\e=.returned (ptrV b)/\Mem (From w) w' c t b/\Rq rb r w')
def AnsS(rb c:Nat)(w:World)(o:Option (List Tr×Toks))(e:Ending)(w':World):Prop:=
 Kq rb w w'/\((o=none/\e=gaveUp)\/∃l r v ps,o=some (l,r)/\e=.returned v/\w'.ownsRow w.heap.size tyTreeP 1 v ps.length (ps.map ptrV)/\Mem.Mems (fun g=>w.heap.size<=g/\v.ownBlock≠some g) w' (List.replicate ps.length c) l ps/\Rq rb r w')
end
section
open Go.RowKit
theorem Tryz.infoPtr:(prog.info? 34).map (fun i=>(i.zero,i.size,i.bytes))=some (some (.pointer none),1,8):=by kernel_rfl
theorem run_append_ptr{w:World}{base:Nat}{v:Value}{ns:List Nat}{ty:TypeId}(k:Nat)(hown:w.ownsRow base tyTreeP 1 v ns.length (ns.map ptrV))(hn:ns.length<=100000000)(hb:base<=w.heap.size) :
  ∃v' w',(Builtin.append_ #[31,31] ty #[v,.slice (some ⟨w.heap.size,0,none⟩) 1 1]).run prog (w.alloc (.cells #[.pointer (some ⟨k,0,none⟩)] tyTreeP))=.ok v' w' /\
   w'.ownsRow base tyTreeP 1 v' (ns++[k]).length ((ns++[k]).map ptrV)/\(w.alloc (.cells #[.pointer (some ⟨k,0,none⟩)] tyTreeP)).grownBy w' v.ownBlock/\(∀g,v'.ownBlock=some g->v.ownBlock=some g\/w.heap.size<g)/\∃g cap,v'=.slice (some ⟨g,0,none⟩) (ns++[k]).length cap:=by
 obtain⟨i0,hi,hz0,hz1,hz2⟩:=info_parts Tryz.infoPtr
 have hown1:=hown.alloc (.cells #[.pointer (some ⟨k,0,none⟩)] tyTreeP)
 have hnews:∀j u,[Value.pointer (some ⟨k,0,none⟩)][j]?=some u->(w.alloc (.cells #[.pointer (some ⟨k,0,none⟩)] tyTreeP)).cell? ((⟨w.heap.size,0,none⟩:Addr).add j)=some u:=fun j u hj=>cell_new rfl (by simpa using hj)
 have h1:∀u∈[Value.pointer (some ⟨k,0,none⟩)],u.oneCell'=true:=by intro u hu;simp at hu;subst hu;rfl
 obtain⟨v',w',hr,ho',hg',_⟩:=run_append_own (P:=prog) (w.alloc (.cells #[.pointer (some ⟨k,0,none⟩)] tyTreeP)) base 31 ty tyTreeP i0 (.pointer none) 1 8 underlying31 hi hz0 hz1 hz2 rfl (by decide) v ns.length (ns.map ptrV) hown1 ⟨w.heap.size,0,none⟩ 1 1 [.pointer (some ⟨k,0,none⟩)] rfl hnews h1 (by unfold maxLen;omega) (by omega) (by simp;omega)
 have ho2:w'.ownsRow base tyTreeP 1 v' (ns++[k]).length ((ns++[k]).map ptrV):=by
  rw[length_append,map_append];exact ho'
 refine⟨v',w',hr,ho2,hg',?_,?_⟩
 ·intro g hgv
  rcases hown1.2 with⟨rfl,hn0⟩|⟨g0,cap,cur,rfl,hbg,hg,hnc,hcm,hcs,htake⟩
  ·have h:=run_append_nil (P:=prog) (w.alloc (.cells #[.pointer (some ⟨k,0,none⟩)] tyTreeP)) 31 ty tyTreeP i0 (.pointer none) underlying31 hi hz0 ⟨w.heap.size,0,none⟩ 1 1 [.pointer (some ⟨k,0,none⟩)] (by rw[hz1];rfl) hnews (by omega) (by omega) (by rw[hz2];omega)
   rw[hr]at h
   simp only[Result.ok.injEq]at h
   rw[h.1]at hgv
   simp[Value.ownBlock]at hgv
   omega
  ·by_cases hroom:ns.length+1<=cap
   ·have h:=run_append_room (P:=prog) (w.alloc (.cells #[.pointer (some ⟨k,0,none⟩)] tyTreeP)) 31 ty tyTreeP i0 underlying31 hi g0 ns.length cap cur hg ⟨w.heap.size,0,none⟩ 1 1 [.pointer (some ⟨k,0,none⟩)] (by rw[hz1];rfl) hnews h1 hroom (by rw[hcs,hz1];simp only[length_cons,length_nil];omega)
    rw[hr]at h
    simp only[Result.ok.injEq]at h
    rw[h.1]at hgv
    exact inl hgv
   ·have h:=run_append_grow (P:=prog) (w.alloc (.cells #[.pointer (some ⟨k,0,none⟩)] tyTreeP)) 31 ty tyTreeP i0 (.pointer none) underlying31 hi hz0 ⟨g0,0,none⟩ ns.length cap (ns.map ptrV) (by rw[hz1];exact hown.1) (hown1.cells (g:=g0) rfl) ⟨w.heap.size,0,none⟩ 1 1 [.pointer (some ⟨k,0,none⟩)] (by rw[hz1];rfl) hnews (by omega) (by omega) (growslice_fits (by omega) (by rw[hz2];omega))
    rw[hr]at h
    simp only[Result.ok.injEq]at h
    rw[h.1]at hgv
    simp[Value.ownBlock]at hgv
    omega
 ·rcases ownsRow_forms ho2 with⟨_,hn0⟩|h
  ·simp at hn0
  ·exact h
theorem append_ptr{ops:Array Oper}{rest:List Oper}{o:Oper}{a:Act}{Q:Exit->Act->World->Prop}{w:World}(hgd:o.guard=none)(s x:Operand)
  (ho:o.op=.call { callee:=.builtin .append,args:=#[s,x],argTypes:=#[31,31] }) {base:Nat}{v:Value}{ns:List Nat} (k:Nat)
  (hown:w.ownsRow base tyTreeP 1 v ns.length (ns.map ptrV)) (hn:ns.length<=100000000) (hb:base<=w.heap.size) (hs:a.eval s=v) (hx:a.eval x=.slice (some ⟨w.heap.size,0,none⟩) 1 1)
  (h:∀v' w',w'.ownsRow base tyTreeP 1 v' (ns++[k]).length ((ns++[k]).map ptrV)->(w.alloc (.cells #[.pointer (some ⟨k,0,none⟩)] tyTreeP)).grownBy w' v.ownBlock->Hid (∀g,v'.ownBlock=some g->v.ownBlock=some g\/w.heap.size<g)->wpList prog ops Q rest (a.put o.dst v') w') :
  wpList prog ops Q (o::rest) a (w.alloc (.cells #[.pointer (some ⟨k,0,none⟩)] tyTreeP)):=by
 obtain⟨v',w',hr,h2,h3,h4,_⟩:=run_append_ptr (ty:=o.type) k hown hn hb
 refine wpList_plain hgd fun K hK=>?_
 unfold Oper.wp execOp
 simp only[ho,resolve,invoke,builtin,Sem.run_bind,Sem.run_pure,Result.andThen_ok,List.map_toArray,map_cons,List.map_nil,hs,hx,hr]
 exact hK _ _ (h v' w' h2 h3 h4)
theorem ptr1(w:World)(a:Nat):(w.alloc (.cells #[.pointer (some ⟨a,0,none⟩)] tyTreeP)).ownsRow w.heap.size tyTreeP 1 (.slice (some ⟨w.heap.size,0,none⟩) 1 1) [a].length ([a].map ptrV):=
 World.ownsRow_lit (base:=w.heap.size) (size:=1) w _ 1 (le_refl _) (by unfold maxLen;omega) rfl
theorem ptr2(w:World)(a b:Nat):(w.alloc (.cells #[.pointer (some ⟨a,0,none⟩),.pointer (some ⟨b,0,none⟩)] tyTreeP)).ownsRow w.heap.size tyTreeP 1 (.slice (some ⟨w.heap.size,0,none⟩) 2 2) [a,b].length ([a,b].map ptrV):=
 World.ownsRow_lit (base:=w.heap.size) (size:=1) w _ 2 (le_refl _) (by unfold maxLen;omega) rfl
theorem ptr3(w:World)(a b c:Nat):(w.alloc (.cells #[.pointer (some ⟨a,0,none⟩),.pointer (some ⟨b,0,none⟩),.pointer (some ⟨c,0,none⟩)] tyTreeP)).ownsRow w.heap.size tyTreeP 1 (.slice (some ⟨w.heap.size,0,none⟩) 3 3) [a,b,c].length ([a,b,c].map ptrV):=
 World.ownsRow_lit (base:=w.heap.size) (size:=1) w _ 3 (le_refl _) (by unfold maxLen;omega) rfl
theorem ownsRow_base{w:World}{b b':Nat}{t:TypeId}{size:Nat}{v:Value}{n:Nat}{xs:List Value}(h:w.ownsRow b t size v n xs)(hb:b'<=b):w.ownsRow b' t size v n xs:=by
 refine⟨h.1,?_⟩
 rcases h.2 with hn|⟨g,cap,cur,rfl,hbg,rest⟩
 ·exact .inl hn
 ·exact .inr ⟨g,cap,cur,rfl,le_trans hb hbg,rest⟩
end
section
open Go.RowKit Go.MapKept Go.ChangeMaps
structure KeyOps(P:Program)(k:TypeId){κ:Type}(ok:κ->Prop)(side:World->κ->Prop)(kv:κ->Value):Prop where
 inj:∀{a b:κ},ok a->ok b->kv a=kv b->a=b
 check:∀(w:World) (em:Bool) {x:κ},ok x->(Instr.checkKey em 10000 k (kv x)).run P w=.ok () w
 find:∀(w:World) {x:κ},ok x->side w x->∀es:List MapEntry,(∀e∈es,∃y,ok y/\side w y/\e.key=kv y) ->
  ((Instr.findKey k (kv x) es).run P w=.ok none w/\∀e∈es,e.key≠kv x)\/∃j e,(Instr.findKey k (kv x) es).run P w=.ok (some (j,e.val)) w/\es[j]?=some e/\e.key=kv x
 stays:∀(w:World) {x:κ},ok x->(Instr.keyThatStays (kv x) (kv x)).run P w=.ok (kv x) w
theorem KeyOps.of_law{P:Program}{k:TypeId}{κ:Type}{ok:κ->Prop}{kv:κ->Value}(K:WideMaps.KeyLaw P k)(hk:∀x,ok x->∃l,keyOf P k (kv x)=some l)(hi:∀{a b:κ},ok a->ok b->kv a=kv b->a=b):KeyOps P k ok (fun _ _=>True) kv where
 inj:=hi
 check w em x h:=by obtain⟨l,hl⟩:=hk x h;exact K.check w em hl
 find w x h _ es hes:=by
  obtain⟨l,hl⟩:=hk x h
  exact K.find w hl es fun e he=>by obtain⟨y,hy,_,e2⟩:=hes e he;rw[e2];exact hk y hy
 stays w x h:=by obtain⟨l,hl⟩:=hk x h;exact K.stays w hl
variable {κ:Type}
def MapHas(ok:κ->Prop)(kv:κ->Value)(w:World)(b n:Nat)(f:κ->Option Value):Prop:=
 ∃es clock,w.heap[b]?=some (.map es clock)/\(∀e∈es.toList,∃x,ok x/\e.key=kv x)/\es.toList.Pairwise (fun x y=>x.key≠y.key)/\es.size=n /\
  ∀x,ok x->∀v,f x=some v↔∃e∈es.toList,e.key=kv x/\e.val=v
variable {ok:κ->Prop}{kv:κ->Value}{w:World}{b n:Nat}{f:κ->Option Value}
theorem MapHas.lt(h:MapHas ok kv w b n f):b<w.heap.size:=by
 obtain⟨es,clock,hb,_⟩:=h
 exact(Array.getElem?_eq_some_iff.1 hb).1
theorem MapHas.kept{w':World}(h:MapHas ok kv w b n f)(hk:w'.heap[b]?=w.heap[b]?):MapHas ok kv w' b n f:=by
 obtain⟨es,clock,hb,r⟩:=h
 exact⟨es,clock,hk.trans hb,r⟩
theorem MapHas.made(ok:κ->Prop)(kv:κ->Value)(w:World):MapHas ok kv (w.alloc (.map #[] 0)) w.heap.size 0 (fun _=>none):=
 ⟨#[],0,(MapKept.heap_alloc w _).1,by simp,by simp,rfl,by simp⟩
variable {P:Program}{k t e:TypeId}{side:World->κ->Prop}
theorem keys_side{es:Array MapEntry}(hg:∀e∈es.toList,∃x,ok x/\e.key=kv x)(hf:∀x,ok x->∀v,f x=some v↔∃e∈es.toList,e.key=kv x/\e.val=v)(hS:∀y,(f y).isSome=true->side w y):∀e∈es.toList,∃y,ok y/\side w y/\e.key=kv y:=fun e he=>by
 obtain⟨y,hy,e2⟩:=hg e he
 refine⟨y,hy,hS y ?_,e2⟩
 rw[(hf y hy e.val).2 ⟨e,he,e2,rfl⟩];rfl
theorem MapHas.look(h:MapHas ok kv w b n f)(K:KeyOps P k ok side kv)(ht:P.underlying t=some (.map k e)){z:Value}(hz:(zeroValue e).run P w=.ok z w){x:κ}(hx:ok x)(hsx:side w x)(hS:∀y,(f y).isSome=true->side w y)(c:Bool) :
  (Instr.lookup t (.map (some b)) (kv x) c).run P w=.ok (if c then .tuple #[(f x).getD z,.bool (f x).isSome]else(f x).getD z) w:=by
 obtain⟨es,clock,hb,hg,hp,hn,hf⟩:=h
 have hc:=K.check w es.isEmpty hx
 rcases K.find w hx hsx es.toList (keys_side hg hf hS)with⟨h1,h2⟩|⟨j,e0,h1,h2,h3⟩
 ·have hfx:f x=none:=by
   cases hfx:f x with
   |none=>rfl
   |some v=>
    obtain⟨e1,he1,he2,_⟩:=(hf x hx v).1 hfx
    exact absurd he2 (h2 e1 he1)
  cases c<;>simp[Instr.lookup,run_underlying ht,MapKept.run_getObj_map hb,hc,h1,hz,hfx,Result.andThen]
 ·have hfx:f x=some e0.val:=(hf x hx e0.val).2 ⟨e0,List.mem_of_getElem? h2,h3,rfl⟩
  cases c<;>simp[Instr.lookup,run_underlying ht,MapKept.run_getObj_map hb,hc,h1,hfx,Result.andThen]
theorem entry_one{es:List MapEntry}(hp:es.Pairwise (fun x y=>x.key≠y.key)){a b:MapEntry}(ha:a∈es)(hb:b∈es)(h:a.key=b.key):a=b:=by
 induction es with
 |nil=>cases ha
 |cons x r ih=>
  obtain⟨h1,h2⟩:=List.pairwise_cons.1 hp
  rcases mem_cons.1 ha with ha'|ha'<;>rcases mem_cons.1 hb with hb'|hb'
  ·rw[ha',hb']
  ·subst ha';exact absurd h (h1 b hb')
  ·subst hb';exact absurd h.symm (h1 a ha')
  ·exact ih h2 ha' hb'
theorem MapHas.store[DecidableEq κ](h:MapHas ok kv w b n f)(K:KeyOps P k ok side kv)(ht:P.underlying t=some (.map k e)){x:κ}{v:Value}(hx:ok x)(hsx:side w x)(hS:∀y,(f y).isSome=true->side w y) :
  ∃w',(Instr.mapUpdate t (.map (some b)) (kv x) v).run P w=.ok () w'/\MapHas ok kv w' b (if (f x).isSome then n else n+1) (fun y=>if y=x then some v else f y)/\w.mapTurned w' b:=by
 obtain⟨es,clock,hb,hg,hp,hn,hf⟩:=h
 have hc:=K.check w false hx
 rcases K.find w hx hsx es.toList (keys_side hg hf hS)with⟨h1,h2⟩|⟨j,e0,h1,h2,h3⟩
 ·have hfx:f x=none:=by
   cases hfx:f x with
   |none=>rfl
   |some v=>
    obtain⟨e1,he1,he2,_⟩:=(hf x hx v).1 hfx
    exact absurd he2 (h2 e1 he1)
  refine⟨_,by simp[Instr.mapUpdate,run_underlying ht,MapKept.run_getObj_map hb,hc,h1,MapKept.run_setObj_map _ hb,Result.andThen];rfl,⟨es.push ⟨kv x,v,clock⟩,clock+1,(MapKept.heap_set hb).1,?_,?_,?_,?_⟩,⟨es,clock,_,_,hb,rfl⟩⟩
  ·intro e1 he1
   simp only[Array.toList_push,mem_append,mem_singleton]at he1
   rcases he1 with he1|rfl
   ·exact hg e1 he1
   ·exact⟨x,hx,rfl⟩
  ·simp only[Array.toList_push]
   refine List.pairwise_append.2 ⟨hp,by simp,?_⟩
   intro a ha c hc
   simp only[mem_singleton]at hc
   subst hc
   exact h2 a ha
  ·simp[hfx,hn]
  ·intro y hyk u
   simp only[Array.toList_push,mem_append,mem_singleton]
   by_cases hy:y=x
   ·subst hy
    simp only[if_true,Option.some.injEq]
    constructor
    ·rintro rfl;exact⟨_,inr rfl,rfl,rfl⟩
    ·rintro⟨e1,he1|rfl,he2,he3⟩
     ·exact absurd he2 (h2 e1 he1)
     ·exact he3
   ·simp only[if_neg hy];rw[hf y hyk u]
    constructor
    ·rintro⟨e1,he1,r⟩;exact⟨e1,inl he1,r⟩
    ·rintro⟨e1,he1|rfl,he2,he3⟩
     ·exact⟨e1,he1,he2,he3⟩
     ·exact absurd (K.inj hyk hx he2.symm) hy
 ·have hfx:f x=some e0.val:=(hf x hx e0.val).2 ⟨e0,List.mem_of_getElem? h2,h3,rfl⟩
  have hj:es[j]?=some e0:=by rw[<- h2];simp
  have hkey:((es[j]?).map (·.key)).getD (kv x)=kv x:=by rw[hj];exact h3
  have hrun:(Instr.keyThatStays (((es[j]?).map (·.key)).getD (kv x)) (kv x)).run P w=.ok (kv x) w:=by rw[hkey];exact K.stays w hx
  have hjl:j<es.size:=(Array.getElem?_eq_some_iff.1 hj).1
  have hmem:∀e1,e1∈(es.modify j fun e=>{ e with key:=kv x,val:=v }).toList↔(e1={ e0 with key:=kv x,val:=v }\/(e1∈es.toList/\e1.key≠kv x)):=by
   intro e1
   constructor
   ·intro h
    obtain⟨i,hi⟩:=List.getElem?_of_mem h
    rw[Array.getElem?_toList,Array.getElem?_modify]at hi
    by_cases hij:j=i
    ·subst hij
     rw[if_pos rfl,hj]at hi
     exact inl (Option.some.inj hi).symm
    ·rw[if_neg hij]at hi
     have hm:e1∈es.toList:=Array.mem_toList_iff.2 (Array.mem_of_getElem? hi)
     refine inr ⟨hm,fun hk=>?_⟩
     obtain⟨hil,hie⟩:=Array.getElem?_eq_some_iff.1 hi
     have hje:=(Array.getElem?_eq_some_iff.1 hj).2
     have:=entry_one hp hm (List.mem_of_getElem? h2) (hk.trans h3.symm)
     rw[List.pairwise_iff_getElem]at hp
     rcases Nat.lt_or_gt_of_ne hij with hlt|hlt
     ·exact hp j i (by simpa using hjl) (by simpa using hil) hlt (by simp only[Array.getElem_toList];rw[hje,hie,this])
     ·exact hp i j (by simpa using hil) (by simpa using hjl) hlt (by simp only[Array.getElem_toList];rw[hje,hie,this])
   ·rintro (rfl|⟨hm,hk⟩)
    ·have:(es.modify j fun e=>{ e with key:=kv x,val:=v })[j]?=some { e0 with key:=kv x,val:=v }:=by
      rw[Array.getElem?_modify,if_pos rfl,hj];rfl
     exact Array.mem_toList_iff.2 (Array.mem_of_getElem? this)
    ·obtain⟨i,hi⟩:=List.getElem?_of_mem hm
     have hij:j≠i:=by
      rintro rfl
      rw[h2]at hi
      exact hk ((Option.some.inj hi) ▸ h3)
     have:(es.modify j fun e=>{ e with key:=kv x,val:=v })[i]?=some e1:=by
      rw[Array.getElem?_modify,if_neg hij];rw[<- hi];simp
     exact Array.mem_toList_iff.2 (Array.mem_of_getElem? this)
  have hkeys:(es.modify j fun e=>{ e with key:=kv x,val:=v }).toList.map (·.key)=es.toList.map (·.key):=
   modify_keys j _ fun e he=>by rw[hj]at he;rw[<- Option.some.inj he];exact h3.symm
  refine⟨_,by simp[Instr.mapUpdate,run_underlying ht,MapKept.run_getObj_map hb,hc,h1,hrun,MapKept.run_setObj_map _ hb,Result.andThen];rfl,⟨es.modify j fun e=>{ e with key:=kv x,val:=v },clock,(MapKept.heap_set hb).1,?_,?_,?_,?_⟩,⟨es,clock,_,_,hb,rfl⟩⟩
  ·intro e1 he1
   rcases (hmem e1).1 he1 with rfl|⟨hm,_⟩
   ·exact⟨x,hx,rfl⟩
   ·exact hg e1 hm
  ·have:((es.modify j fun e=>{ e with key:=kv x,val:=v }).toList.map (·.key)).Nodup:=by
    rw[hkeys]
    exact List.pairwise_map.2 hp
   exact List.pairwise_map.1 this
  ·simp[hfx,hn]
  ·intro y hyk u
   by_cases hy:y=x
   ·subst hy
    simp only[if_true,Option.some.injEq]
    constructor
    ·rintro rfl;exact⟨_,(hmem _).2 (inl rfl),rfl,rfl⟩
    ·rintro⟨e1,he1,he2,he3⟩
     rcases (hmem e1).1 he1 with rfl|⟨_,hk⟩
     ·exact he3
     ·exact absurd he2 hk
   ·simp only[if_neg hy];rw[hf y hyk u]
    constructor
    ·rintro⟨e1,he1,he2,he3⟩
     exact⟨e1,(hmem e1).2 (inr ⟨he1,fun h=>hy (K.inj hyk hx (he2.symm.trans h))⟩),he2,he3⟩
    ·rintro⟨e1,he1,he2,he3⟩
     rcases (hmem e1).1 he1 with rfl|⟨hm,_⟩
     ·exact absurd (K.inj hyk hx he2.symm) hy
     ·exact⟨e1,hm,he2,he3⟩
theorem MapHas.drop[DecidableEq κ](h:MapHas ok kv w b n f)(K:KeyOps P k ok side kv)(ht:P.underlying t=some (.map k e)){x:κ}(hx:ok x)(hsx:side w x)(hS:∀y,(f y).isSome=true->side w y)(ty:TypeId) :
  ∃w',(Builtin.delete_ #[t,k] ty #[.map (some b),kv x]).run P w=.ok (.tuple #[]) w'/\MapHas ok kv w' b (if (f x).isSome then n-1 else n) (fun y=>if y=x then none else f y)/\w.mapTurned w' b:=by
 obtain⟨es,clock,hb,hg,hp,hn,hf⟩:=h
 have hc:=K.check w es.isEmpty hx
 rcases K.find w hx hsx es.toList (keys_side hg hf hS)with⟨h1,h2⟩|⟨j,e0,h1,h2,h3⟩
 ·have hfx:f x=none:=by
   cases hfx:f x with
   |none=>rfl
   |some v=>
    obtain⟨e1,he1,he2,_⟩:=(hf x hx v).1 hfx
    exact absurd he2 (h2 e1 he1)
  refine⟨_,by simp[Builtin.delete_,run_underlying ht,MapKept.run_getObj_map hb,hc,h1,MapKept.run_setObj_map _ hb,Result.andThen];rfl,⟨es,clock,(MapKept.heap_set hb).1,hg,hp,by simp[hfx,hn],?_⟩,⟨es,clock,_,_,hb,rfl⟩⟩
  intro y hyk u
  by_cases hy:y=x
  ·subst hy;simp only[if_true];rw[<- hf y hx,hfx]
  ·simp only[if_neg hy];rw[hf y hyk]
 ·have hfx:f x=some e0.val:=(hf x hx e0.val).2 ⟨e0,List.mem_of_getElem? h2,h3,rfl⟩
  have hj:es[j]?=some e0:=by rw[<- h2];simp
  have hjl:j<es.size:=(Array.getElem?_eq_some_iff.1 hj).1
  have htl:(es.eraseIdxIfInBounds j).toList=es.toList.eraseIdx j:=by
   unfold Array.eraseIdxIfInBounds
   rw[dif_pos hjl];simp
  have hpe:=hp
  have hmem:∀e1,e1∈es.toList.eraseIdx j↔(e1∈es.toList/\e1.key≠kv x):=by
   intro e1
   rw[List.mem_eraseIdx_iff_getElem?]
   rw[List.pairwise_iff_getElem]at hpe
   obtain⟨hjl',hje⟩:=List.getElem?_eq_some_iff.1 h2
   constructor
   ·rintro⟨i,hij,hi⟩
    refine⟨List.mem_of_getElem? hi,fun hk=>?_⟩
    obtain⟨hil,hie⟩:=List.getElem?_eq_some_iff.1 hi
    rcases Nat.lt_or_gt_of_ne hij with hlt|hlt
    ·exact hpe i j hil hjl' hlt (by rw[hie,hje,hk,h3])
    ·exact hpe j i hjl' hil hlt (by rw[hie,hje,hk,h3])
   ·rintro⟨hm,hk⟩
    obtain⟨i,hi⟩:=List.getElem?_of_mem hm
    refine⟨i,?_,hi⟩
    rintro rfl
    rw[h2]at hi
    exact hk ((Option.some.inj hi) ▸ h3)
  refine⟨_,by simp[Builtin.delete_,run_underlying ht,MapKept.run_getObj_map hb,hc,h1,MapKept.run_setObj_map _ hb,Result.andThen];rfl,⟨es.eraseIdxIfInBounds j,clock,(MapKept.heap_set hb).1,?_,?_,?_,?_⟩,⟨es,clock,_,_,hb,rfl⟩⟩
  ·intro e1 he1
   rw[htl]at he1
   exact hg e1 ((hmem e1).1 he1).1
  ·rw[htl]
   exact hp.sublist (List.eraseIdx_sublist _ _)
  ·have:(es.eraseIdxIfInBounds j).size=es.size-1:=by
    unfold Array.eraseIdxIfInBounds
    rw[dif_pos hjl];simp
   rw[this,hn];simp[hfx]
  ·intro y hyk u
   rw[htl]
   by_cases hy:y=x
   ·subst hy
    simp only[if_true]
    constructor
    ·intro h;cases h
    ·rintro⟨e1,he1,he2,_⟩
     exact absurd he2 ((hmem e1).1 he1).2
   ·simp only[if_neg hy];rw[hf y hyk u]
    constructor
    ·rintro⟨e1,he1,he2,he3⟩
     exact⟨e1,(hmem e1).2 ⟨he1,fun h=>hy (K.inj hyk hx (he2.symm.trans h))⟩,he2,he3⟩
    ·rintro⟨e1,he1,he2,he3⟩
     exact⟨e1,((hmem e1).1 he1).1,he2,he3⟩
theorem MapHas.len(h:MapHas ok kv w b n f)(ht:P.underlying t=some (.map k e))(ty:TypeId):(Builtin.len_ #[t] ty #[.map (some b)]).run P w=.ok (.int .i64 n) w:=by
 obtain⟨es,clock,hb,hg,hp,hn,hf⟩:=h
 simp[Builtin.len_,run_underlying ht,MapKept.run_getObj_map hb,goInt,Result.andThen,hn]
end
end Go.Proofs.YtcbppnefeonmgaaGreatDoor
