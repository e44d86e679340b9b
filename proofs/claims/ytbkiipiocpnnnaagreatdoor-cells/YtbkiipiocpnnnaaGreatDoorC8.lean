import Derived.Test.YtbkiipiocpnnnaaGreatDoorC5
import Derived.Test.YtbkiipiocpnnnaaGreatDoorC7
set_option linter.all false
set_option maxHeartbeats 40000000
set_option maxRecDepth 100000
open Go.Proofs.Tryz
open Classical (choice)
open Or (inl inr)
open Nat (le_refl le_trans zero_le lt_succ_self)
open List (append_nil length_append length_cons mem_cons_self mem_cons_of_mem length_nil map_append)
namespace Go.Proofs.YtbkiipiocpnnnaaGreatDoor
open Go.RowKit
theorem New_any(k:Int)(s:ByteArray)(a:Option Addr)(n c:Nat)(w:World) :
  Calls prog 89 #[.int .i64 k,.string s,.slice a n c] w fun e w'=>e=.returned (ptrV w.heap.size)/\w'=w.alloc (.cells #[.int .i64 k,.string s,.slice a n c] tyTree):=by
 unfold ptrV
 generalize hQ:(fun(e:Ending) (w':World)=>e=.returned (.pointer (some ⟨w.heap.size,0,none⟩))/\w'=w.alloc (.cells #[.int .i64 k,.string s,.slice a n c] tyTree))=Q
 go_enter func89,ntmps89
 go_wp2
 rw[<- hQ]
 exact⟨rfl,rfl⟩
theorem Mem.leaf{A:Nat->Prop}{c:Nat}{is name:List UInt8}{k:Int}{txt:List UInt8}(hk:KindOf c is name k txt [])(w:World):Mem A (w.alloc (.cells #[.int .i64 k,.string (bs txt),.slice none 0 0] tyTree)) c (.mk is name []) w.heap.size:=
 Mem.made hk (ps:=[]) (World.ownsRow_nil _ _ _ _) (by simp[Value.ownBlock]) .nil
section
variable {rb c:Nat}{w w0 w':World}{e:Ending}
theorem AnsN.no{o:Option (Tr×Toks)}(hk:Kq rb w w')(ho:o=none):AnsN rb c w o gaveUp w':=⟨hk,inl ⟨ho,rfl⟩⟩
theorem AnsN.yes{o:Option (Tr×Toks)}{t:Tr}{r:Toks}{b:Nat}(hk:Kq rb w w')(ho:o=some (t,r))(hm:Mem (From w) w' c t b)(hr:Rq rb r w'):AnsN rb c w o (.returned (ptrV b)) w':=⟨hk,inr ⟨t,r,b,ho,rfl,hm,hr⟩⟩
theorem AnsO.no{o:Option (Option Tr×Toks)}(hk:Kq rb w w')(ho:o=none):AnsO rb c w o gaveUp w':=⟨hk,inl ⟨ho,rfl⟩⟩
theorem AnsO.nil{o:Option (Option Tr×Toks)}{r:Toks}(hk:Kq rb w w')(ho:o=some (none,r))(hr:Rq rb r w'):AnsO rb c w o (.returned (.pointer none)) w':=⟨hk,inr (inl ⟨r,ho,rfl,hr⟩)⟩
theorem AnsO.yes{o:Option (Option Tr×Toks)}{t:Tr}{r:Toks}{b:Nat}(hk:Kq rb w w')(ho:o=some (some t,r))(hm:Mem (From w) w' c t b)(hr:Rq rb r w'):AnsO rb c w o (.returned (ptrV b)) w':=⟨hk,inr (inr ⟨t,r,b,ho,rfl,hm,hr⟩)⟩
theorem from_later{k:Nat}(h:w0.heap.size<=w.heap.size)(hf:From w k):From w0 k:=le_trans h hf
theorem AnsN.later{o:Option (Tr×Toks)}(hk:Kq rb w0 w)(h:AnsN rb c w o e w'):AnsN rb c w0 o e w':=by
 refine⟨hk.trans h.1,?_⟩
 rcases h.2 with h|⟨t,r,b,h1,h2,h3,h4⟩
 ·exact inl h
 ·exact inr ⟨t,r,b,h1,h2,h3.wide fun k hf _=>from_later hk.size hf,h4⟩
theorem AnsO.later{o:Option (Option Tr×Toks)}(hk:Kq rb w0 w)(h:AnsO rb c w o e w'):AnsO rb c w0 o e w':=by
 refine⟨hk.trans h.1,?_⟩
 rcases h.2 with h|h|⟨t,r,b,h1,h2,h3,h4⟩
 ·exact inl h
 ·exact inr (inl h)
 ·exact inr (inr ⟨t,r,b,h1,h2,h3.wide fun k hf _=>from_later hk.size hf,h4⟩)
theorem AnsN.there{o:Option (Tr×Toks)}(h:AnsN rb c w o e w'):AnsO rb c w ((choice lf).there o) e w':=by
 refine⟨h.1,?_⟩
 rcases h.2 with⟨rfl,h1⟩|⟨t,r,b,rfl,h2,h3,h4⟩
 ·exact inl ⟨rfl,h1⟩
 ·exact inr (inr ⟨t,r,b,rfl,h2,h3,h4⟩)
end
def AnsW(rb:Nat)(x:List UInt8)(ts:Toks)(w:World)(e:Ending)(w':World):Prop:=
 Kq rb w w'/\((G.isW x ts=false/\e=.returned (.bool false)/\Rq rb ts w')\/(G.isW x ts=true/\e=.returned (.bool true)/\Rq rb ts.tail w'))
theorem accept_w{rb:Nat}{ts:Toks}{w:World}{x:List UInt8}{s:ByteArray}(hs:bs x=s)(hx:tokKind x=119)(h:Rq rb ts w):Calls prog 126 #[ptrV rb,.string s] w (AnsW rb x ts w):=by
 have hne:x≠[]:=by rintro rfl;exact absurd hx (by decide)
 subst hs
 refine(accept_any x hne h).mono ?_
 rintro e w'⟨hk,⟨h1,h2,h3⟩|⟨h1,h2,h3⟩⟩
 ·exact⟨hk,inl ⟨by rw[isW_eq hx];simpa using h1,h2,h3⟩⟩
 ·exact⟨hk,inr ⟨by rw[isW_eq hx];simpa using h1,h2,h3⟩⟩
def AnsX(rb:Nat)(x:List UInt8)(ts:Toks)(w:World)(e:Ending)(w':World):Prop:=
 Kq rb w w'/\((G.want x ts=none/\e=gaveUp)\/∃r,G.want x ts=some r/\e=.returned (.tuple #[])/\Rq rb r w')
theorem expect_w{rb:Nat}{ts:Toks}{w:World}{x:List UInt8}{s:ByteArray}(hs:bs x=s)(hx:tokKind x=119)(h:Rq rb ts w):Calls prog 124 #[ptrV rb,.string s] w (AnsX rb x ts w):=by
 have hne:x≠[]:=by rintro rfl;exact absurd hx (by decide)
 subst hs
 refine(expect_any x hne h).mono ?_
 rintro e w'⟨hk,⟨h1,h2⟩|⟨h1,h2,h3⟩⟩
 ·exact⟨hk,inl ⟨by unfold G.want;rw[isW_eq hx,show (ts.headD []==x)=false by simpa using h1];rfl,h2⟩⟩
 ·exact⟨hk,inr ⟨_,by unfold G.want;rw[isW_eq hx,show (ts.headD []==x)=true by simpa using h1];rfl,h2,h3⟩⟩
theorem bs_drop1(t:List UInt8):(bs t).extract 1 (bs t).size=bs (t.drop 1):=by
 rw[bs_extract,bs_data,bs_size]
 congr 1
 rw[List.take_of_length_le (by simp)]
theorem letter_head{t:List UInt8}(h:tokKind t=108):t=39::t.drop 1:=by
 cases t with
 |nil=>exact absurd h (by decide)
 |cons c r=>
  unfold tokKind at h
  simp only at h
  cases hs:smallB c.toNat
  ·rw[hs,cond_false]at h
   cases hg:greatB c.toNat
   ·rw[hg,cond_false]at h
    cases hd:digitB c.toNat
    ·rw[hd,cond_false]at h
     by_cases hc:c=39
     ·subst hc;rfl
     ·rw[if_neg hc]at h
      split at h<;>exact absurd h (by decide)
    ·rw[hd,cond_true]at h
     split at h<;>exact absurd h (by decide)
   ·rw[hg,cond_true]at h;exact absurd h (by decide)
  ·rw[hs,cond_true]at h
   cases hw:wordL ((c::r).take (nameLen (c::r)))
   ·rw[hw]at h;exact absurd h (by decide)
   ·rw[hw]at h;exact absurd h (by decide)
theorem letter_any(c:Nat)(k:Int)(hck:(c=2/\k=21)\/(c=5/\k=19)){rb:Nat}{ts:Toks}{w:World}(h:Rq rb ts w):Calls prog 171 #[ptrV rb,.int .i64 k] w (AnsO rb c w ((choice lf).letterO c ts)):=by
 have hp:=peek_any h
 have hi:=IsLetter_tok h.head w
 have ht:=take_any h
 have HP:=hide hp
 have HI:=hide hi
 have HT:=hide ht
 cases hk:(tokKind (ts.headD [])==108)
 ·have hq:AnsO rb c w ((choice lf).letterO c ts) (.returned (.pointer none)) w:=AnsO.nil (Kq.refl _ _) (by unfold LFam.letterO G.kindOf;rw[hk];rfl) h
  have HQ:=hide hq
  rw[hk]at HI
  clear hp hi ht hq h hk HT
  generalize AnsO rb c w ((choice lf).letterO c ts)=Q at *
  generalize bs (ts.headD [])=bx at *
  go_enter func171,ntmps171
  go_wp2_with fail
  refine(HP.out).mono ?_;rintro e w1⟨rfl,rfl⟩
  go_wp2_with fail
  refine(HI.out).mono ?_;rintro e w1⟨rfl,rfl⟩
  go_wp2
  exact HQ.out
 ·obtain⟨t,r,rfl⟩:=kind_cons (ts:=ts) (k:=108) (by decide) hk
  have hk':tokKind t=108:=by simpa using hk
  have hq:∀w',Kq rb w w'->Rq rb r w'->AnsO rb c w ((choice lf).letterO c (t::r)) (.returned (ptrV w'.heap.size)) (w'.alloc (.cells #[.int .i64 k,.string (bs (t.drop 1)),.slice none 0 0] tyTree)):=fun w' k1 k2=>by
   refine AnsO.yes (k1.alloc _) (t:=.mk K.var_ (if c=2 then t else t.drop 1) []) (r:=r) (by unfold LFam.letterO G.kindOf;rw[hk];rfl) ?_ (k2.alloc _)
   rcases hck with⟨rfl,rfl⟩|⟨rfl,rfl⟩
   ·rw[if_pos rfl]
    have:=Mem.leaf (A:=From w) (KindOf.letter (t.drop 1)) w'
    rw[<- letter_head hk']at this
    exact this
   ·exact Mem.leaf (A:=From w) (KindOf.own (t.drop 1)) w'
  have hN:=fun(w1:World)=>New_any k (bs (t.drop 1)) none 0 0 w1
  rw[<- bs_drop1]at hq
  rw[<- bs_drop1]at hN
  have hsz:1<=(bs t).size:=by
   rw[bs_size]
   cases t with
   |nil=>exact absurd hk' (by decide)
   |cons a b=>simp
  have hsz2:(bs t).size<=4000:=by rw[bs_size];exact h.head.2
  have HQ:=hide hq
  have HN:=hide hN
  rw[hk]at HI
  clear hp hi ht hq h hk hN hk' hck
  generalize AnsO rb c w ((choice lf).letterO c (t::r))=Q at *
  rw[show (t::r).headD []=t from rfl]at HP HI
  go_enter func171,ntmps171
  go_wp2_with fail
  refine(HP.out).mono ?_;rintro e w1⟨rfl,rfl⟩
  go_wp2_with fail
  refine(HI.out).mono ?_;rintro e w1⟨rfl,rfl⟩
  go_wp2_with fail
  refine(HT.out).mono ?_;rintro e w1⟨hk,⟨he,_⟩|⟨t2,r2,he,rfl,hr⟩⟩
  ·cases he
  ·injection he with he1 he2
   subst he1
   subst he2
   have HR:=hide hr
   clear hr HP HI HT
   generalize bs t=bt at *
   go_wp2_with fail
   refine(HN.out _).mono ?_;rintro e w2⟨rfl,rfl⟩
   go_wp2
   exact HQ.out _ hk HR.out
theorem need_nil(w:World):Calls prog 289 #[.pointer none] w fun e w'=>e=gaveUp/\w'=w:=by
 go_enter func289,ntmps289
 go_wp2
 exact⟨rfl,rfl,rfl⟩
theorem need_node(b:Nat)(w:World):Calls prog 289 #[ptrV b] w fun e w'=>e=.returned (ptrV b)/\w'=w:=by
 unfold ptrV
 go_enter func289,ntmps289
 go_wp2
 go_ret
 exact⟨rfl,rfl⟩
theorem wt_bound:∀{ts:Toks},(∀t∈ts,Tok t)->wt ts<=ts.length*4020:=by
 intro ts
 induction ts with
 |nil=>intro _;exact le_refl _
 |cons t r ih=>
  intro h
  have h1:=ih fun x hx=>h x (mem_cons_of_mem _ hx)
  have h2:=(h t (mem_cons_self ..)).2
  rw[wt,length_cons]
  omega
theorem Rq.wt_le{rb:Nat}{ts:Toks}{w:World}(h:Rq rb ts w):wt ts<=16080000:=by
 have h1:=wt_bound fun t ht=>(h.toks t ht).1
 have h2:=h.len
 omega
def SevAt(rb c:Nat)(w:World)(sev:Toks->Option (List Tr×Toks))(ts:Toks)(gk:Nat)(v3 v4:Value)(wr:World):Prop:=
 ∃ts1 acc ps,wr.ownsRow w.heap.size tyTreeP 1 v3 ps.length (ps.map ptrV)/\Kq rb w wr/\Rq rb ts1 wr/\Mem.Mems (fun g=>w.heap.size<=g/\v3.ownBlock≠some g) wr (List.replicate ps.length c) acc ps /\
  ((v4=.pointer none/\sev ts=some (acc,ts1))\/∃t b,v4=ptrV b/\Mem (fun g=>w.heap.size<=g/\v3.ownBlock≠some g) wr c t b/\gk=wt ts1+1/\ps.length+1+wt ts1<=wt ts/\sev ts=(sev ts1).bind fun l=>some (acc++t::l.1,l.2))
section
variable {rb c:Nat}{w wr w1 w2 w3:World}{rd:Toks->Option (Option Tr×Toks)}{sev:Toks->Option (List Tr×Toks)}{ts:Toks}
theorem sev_none(hs:Sev rd sev)(h:rd ts=none):sev ts=none:=by rw[hs,h];rfl
theorem sev_nil(hs:Sev rd sev){r:Toks}(h:rd ts=some (none,r)):sev ts=some ([],r):=by rw[hs,h];rfl
theorem sev_node(hs:Sev rd sev){t:Tr}{r:Toks}(h:rd ts=some (some t,r)):sev ts=(sev r).bind fun l=>some (t::l.1,l.2):=by rw[hs,h];rfl
theorem SevAt.start(hs:Sev rd sev)(hw:∀ts t r,rd ts=some (some t,r)->wt r<wt ts){e:Ending}(h:AnsO rb c w (rd ts) e w1) :
  (e=gaveUp/\AnsS rb c w (sev ts) gaveUp w1)\/∃v4 gk,e=.returned v4/\(v4=.pointer none\/∃b,v4=ptrV b)/\SevAt rb c w sev ts gk (.slice none 0 0) v4 w1:=by
 obtain⟨hk,⟨h1,rfl⟩|⟨r,h1,rfl,h2⟩|⟨t,r,b,h1,rfl,h2,h3⟩⟩:=h
 ·exact inl ⟨rfl,hk,inl ⟨sev_none hs h1,rfl⟩⟩
 ·exact inr ⟨_,0,rfl,inl rfl,r,[],[],World.ownsRow_nil _ _ _ _,hk,h2,.nil,inl ⟨rfl,sev_nil hs h1⟩⟩
 ·refine inr ⟨_,wt r+1,rfl,inr ⟨b,rfl⟩,r,[],[],World.ownsRow_nil _ _ _ _,hk,h3,.nil,inr ⟨t,b,rfl,h2.wide fun k hf _=>⟨hf,by simp[Value.ownBlock]⟩,rfl,?_,sev_node hs h1⟩⟩
  have:=hw _ _ _ h1
  show 0+1+wt r<=wt ts
  omega
theorem SevAt.done{gk:Nat}{v3 v4:Value}(h:SevAt rb c w sev ts gk v3 v4 wr)(h4:v4=.pointer none):AnsS rb c w (sev ts) (.returned v3) wr:=by
 obtain⟨ts1,acc,ps,h1,h2,h3,h5,⟨_,h6⟩|⟨t,b,rfl,_⟩⟩:=h
 ·exact⟨h2,inr ⟨acc,ts1,v3,ps,h6,rfl,h1,h5,h3⟩⟩
 ·simp[ptrV]at h4
theorem SevAt.open{gk:Nat}{v3:Value}{b:Nat}(h:SevAt rb c w sev ts gk v3 (ptrV b) wr) :
  ∃ts1 acc ps t,wr.ownsRow w.heap.size tyTreeP 1 v3 ps.length (ps.map ptrV)/\Kq rb w wr/\Rq rb ts1 wr/\Mem.Mems (fun g=>w.heap.size<=g/\v3.ownBlock≠some g) wr (List.replicate ps.length c) acc ps /\
   Mem (fun g=>w.heap.size<=g/\v3.ownBlock≠some g) wr c t b/\gk=wt ts1+1/\ps.length+1+wt ts1<=wt ts/\sev ts=(sev ts1).bind fun l=>some (acc++t::l.1,l.2):=by
 obtain⟨ts1,acc,ps,h1,h2,h3,h5,⟨h6,_⟩|⟨t,b2,h6,h7⟩⟩:=h
 ·simp[ptrV]at h6
 ·have:b=b2:=by simpa [ptrV]using h6
  subst this
  exact⟨ts1,acc,ps,t,h1,h2,h3,h5,h7⟩
theorem sev_put{v3 v':Value}{acc:List Tr}{ps:List Nat}{ts1:Toks}{t:Tr}{b:Nat}{o:Obj}(h1:wr.ownsRow w.heap.size tyTreeP 1 v3 ps.length (ps.map ptrV))(h2:Kq rb w wr)(h3:Rq rb ts1 wr)
  (h4:Mem.Mems (fun g=>w.heap.size<=g/\v3.ownBlock≠some g) wr (List.replicate ps.length c) acc ps) (h5:Mem (fun g=>w.heap.size<=g/\v3.ownBlock≠some g) wr c t b)
  (hg:(wr.alloc o).grownBy w2 v3.ownBlock) (hl:∀g,v'.ownBlock=some g->v3.ownBlock=some g\/wr.heap.size<g) :
  Kq rb w w2/\Rq rb ts1 w2/\Mem.Mems (fun g=>w.heap.size<=g/\v'.ownBlock≠some g) w2 (List.replicate (ps++[b]).length c) (acc++[t]) (ps++[b]):=by
 have hsz:w.heap.size<=wr.heap.size:=h2.size
 have hka:Kq rb w (wr.alloc o):=h2.alloc o
 have hv3:∀g,v3.ownBlock=some g->w.heap.size<=g/\g<wr.heap.size:=fun g hg=>h1.lt g hg
 have hkg:=hka.grownOwn hg (fun g hgg=>(hv3 g hgg).1)
 have hrb:v3.ownBlock≠some rb:=by
  intro e
  obtain⟨cs,f,hR⟩:=h3.isR
  rcases h1.2 with⟨rfl,_⟩|⟨g2,cap,cur,rfl,_,hgg,_⟩
  ·simp[Value.ownBlock]at e
  ·have e:g2=rb:=by simpa [Value.ownBlock]using e
   subst e
   rw[hgg]at hR;simp at hR
   exact absurd hR.2.1 (by decide)
 refine⟨hkg,?_,?_⟩
 ·have h3a:=h3.alloc o
  obtain⟨tb,o1,cap,cs,hb,ht,r1⟩:=h3a.own
  refine⟨h3a.len,h3a.toks,tb,o1,cap,cs,?_,?_,r1⟩
  ·rw[hg.block rb (lt_of_heap hb) (Ne.symm hrb)];exact hb
  ·rw[hg.block tb (lt_of_heap ht) (fun e=>?_)]
   ·exact ht
   ·have e:v3.ownBlock=some tb:=e.symm
    have hlt:=(hv3 tb e).2
    rcases h1.2 with⟨rfl,_⟩|⟨g2,cap,cur,rfl,_,hgg,_⟩
    ·simp[Value.ownBlock]at e
    ·have e:g2=tb:=by simpa [Value.ownBlock]using e
     subst e
     rw[Below.heap_alloc _ _ _ (lt_of_heap hgg),hgg]at ht;simp at ht
     exact absurd ht.2 (by decide)
 ·have hAll:Mem.Mems (fun g=>w.heap.size<=g/\v3.ownBlock≠some g) wr (List.replicate (ps++[b]).length c) (acc++[t]) (ps++[b]):=by
   rw[length_append,length_cons,length_nil,List.replicate_succ']
   exact h4.append (.cons h5 .nil)
  have hA2:=(hAll.wide (A':=fun g=>w.heap.size<=g/\v3.ownBlock≠some g/\g<wr.heap.size) (fun k hk hlt=>⟨hk.1,hk.2,hlt⟩)).alloc o
  have hA3:=Mem.Mems.grown (h1.alloc o) hg (fun g hA=>hA.2.1) hA2
  refine hA3.wide (fun k hk _=>⟨hk.1,fun e=>?_⟩)
  rcases hl k e with h|h
  ·exact hk.2.1 h
  ·have:=hk.2.2;omega
theorem SevAt.next(hs:Sev rd sev)(hw:∀ts t r,rd ts=some (some t,r)->wt r<wt ts){v3:Value}{ps:List Nat}{acc:List Tr}{ts1:Toks}(h1:w2.ownsRow w.heap.size tyTreeP 1 v3 ps.length (ps.map ptrV))(h2:Kq rb w w2)(h3:Rq rb ts1 w2)
  (h4:Mem.Mems (fun g=>w.heap.size<=g/\v3.ownBlock≠some g) w2 (List.replicate ps.length c) acc ps) (h5:ps.length+wt ts1<=wt ts) (h6:sev ts=(sev ts1).bind fun l=>some (acc++l.1,l.2)) {e:Ending} (h:AnsO rb c w2 (rd ts1) e w3) :
  (e=gaveUp/\AnsS rb c w (sev ts) gaveUp w3)\/∃v4 gk,e=.returned v4/\(v4=.pointer none\/∃b,v4=ptrV b)/\gk<wt ts1+1/\SevAt rb c w sev ts gk v3 v4 w3:=by
 have hkk:=h2.trans h.1
 have ho3:w3.ownsRow w.heap.size tyTreeP 1 v3 ps.length (ps.map ptrV):=ownsRow_kept h1 fun k c f _ he=>kq_other (by decide) h3.isR h.1 he
 have hm3:=h4.kq h3 h.1
 have hv:∀g,v3.ownBlock=some g->g<w2.heap.size:=fun g hg=>(h1.lt g hg).2
 obtain⟨hk,⟨h7,rfl⟩|⟨r,h7,rfl,h8⟩|⟨t,r,b,h7,rfl,h8,h9⟩⟩:=h
 ·exact inl ⟨rfl,hkk,inl ⟨by rw[h6,sev_none hs h7];rfl,rfl⟩⟩
 ·exact inr ⟨_,0,rfl,inl rfl,by omega,r,acc,ps,ho3,hkk,h8,hm3,inl ⟨rfl,by rw[h6,sev_nil hs h7,Option.bind_some,append_nil]⟩⟩
 ·have hlt:=hw _ _ _ h7
  refine inr ⟨_,wt r+1,rfl,inr ⟨b,rfl⟩,by omega,r,acc,ps,ho3,hkk,h9,hm3,inr ⟨t,b,rfl,h8.wide fun k hf _=>⟨le_trans h2.size hf,fun e=>?_⟩,rfl,by omega,?_⟩⟩
  ·rw[h6,sev_node hs h7,Option.bind_assoc]
   congr 1
  ·have:=hv k e
   have hf:w2.heap.size<=k:=hf
   omega
end
def Enters(K:Nat):Prop:=∀(args:Array Value)(w:World),(callFunc K args).run prog w=.ok (.enter K args) w
theorem enters {K : Nat} {fn : Func} {c : Code} (hf : prog.funcs[K]? = some fn) (hname : (fn.name == "runtime.NumGoroutine") = false) (hb : fn.body = some c) : Enters K := by
 intro args w
 have h1 : fn.name ≠ "runtime.NumGoroutine" := by simpa using hname
 simp[callFunc,hf,h1,hb]
theorem several_any{rb c K M:Nat}{rd:Toks->Option (Option Tr×Toks)}{sev:Toks->Option (List Tr×Toks)}(hs:Sev rd sev)(hw:∀ts t r,rd ts=some (some t,r)->wt r<wt ts)
  (HE:Enters K) (HK:∀ts w,wt ts<=M->Rq rb ts w->Calls prog K #[ptrV rb] w (AnsO rb c w (rd ts))) (ts:Toks) (w:World) (hM:wt ts<=M) (h:Rq rb ts w) :
  Calls prog 122 #[.func (.func K) #[ptrV rb] #[]] w (AnsS rb c w (sev ts)):=by
 have hE:=fun(args:Array Value) (w:World)=>HE args w
 have hc:=HK ts w hM h
 have hwt:=h.wt_le
 have hst:=fun e w1=>SevAt.start (rb:=rb) (c:=c) (w:=w) (w1:=w1) (ts:=ts) (e:=e) hs hw
 have hdn:=fun gk v3 v4 wr=>SevAt.done (rb:=rb) (c:=c) (w:=w) (wr:=wr) (sev:=sev) (ts:=ts) (gk:=gk) (v3:=v3) (v4:=v4)
 have HC:=hide hc
 have HST:=hide hst
 have HDN:=hide hdn
 have HHK:=hide HK
 have HS:=hide hs
 have HW:=hide hw
 clear hc hst hdn HK hs hw h HE
 go_enter func122,ntmps122
 go_wp2_with fail
 refine(HC.out).mono ?_
 intro e w1 ha
 rcases HST.out e w1 ha with⟨rfl,hq⟩|⟨v4,gk0,rfl,hform,hat⟩
 ·unfold gaveUp noForm at hq ⊢
  go_wp2
  exact⟨rfl,hq⟩
 ·have HAT:Hid (SevAt rb c w sev ts gk0 (.slice none 0 0) v4 w1/\(v4=.pointer none\/∃b,v4=ptrV b)):=⟨hat,hform⟩
  clear HC HST ha hat hform
  go_wp2_with fail
  go_loopg [3,4] gk0 (fun gk v3 v4 wr=>Hid (SevAt rb c w sev ts gk v3 v4 wr/\(v4=.pointer none\/∃b,v4=ptrV b)))
  case atStart=>exact HAT
  case round=>
   clear HAT
   obtain⟨hat,hform⟩:=hrel.out
   rcases hform with rfl|⟨b,rfl⟩
   ·have HF:=hide (HDN.out _ _ _ _ hat rfl)
    clear hat HDN hrel
    go_wp2_with fail
    go_ret
    exact HF.out
   ·obtain⟨ts1,acc,ps,t,h1,h2,h3,h4,h5,rfl,h7,h8⟩:=hat.open
    clear hat hrel
    have hps:ps.length<=100000000:=by omega
    have hbs:w.heap.size<=wr.heap.size:=h2.size
    have hM1:wt ts1<=M:=by omega
    have hp7:(ps++[b]).length+wt ts1<=wt ts:=by simp;omega
    have hp8:sev ts=(sev ts1).bind fun l=>some ((acc++[t])++l.1,l.2):=by
     rw[h8];congr 1;funext l;simp
    have HPUT:=hide (fun v' w2 o hg hl=>sev_put (v':=v') (w2:=w2) (o:=o) h1 h2 h3 h4 h5 hg hl)
    have H7:=hide hp7
    have H8:=hide hp8
    clear h2 h3 h4 h5 h7 h8 hp7 hp8
    unfold ptrV at *
    go_wp2_with (at_builtin;refine append_ptr rfl _ _ rfl b h1 hps hbs rfl rfl ?_)
    intro v' w2 hown hgr HL
    obtain⟨k2,k3,k4⟩:=HPUT.out v' w2 _ hgr HL.out
    have hcall:=HHK.out ts1 w2 hM1 k3
    have hown2:w2.ownsRow w.heap.size tyTreeP 1 v' (ps++[b]).length ((ps++[b]).map ptrV):=by
     rw[length_append,map_append];exact hown
    have HNX:=hide (fun e w3=>SevAt.next (e:=e) (w3:=w3) HS.out HW.out hown2 k2 k3 k4 H7.out H8.out)
    have HC:=hide hcall
    obtain⟨g',cap',rfl⟩:∃g' cap',v'=.slice (some ⟨g',0,none⟩) (ps++[b]).length cap':=by
     rcases ownsRow_forms hown2 with⟨_,hn0⟩|h
     ·simp at hn0
     ·exact h
    clear HPUT hown hown2 hgr HL k2 k3 k4 hcall h1 H7 H8
    go_wp2_with fail
    refine(HC.out).mono ?_
    intro e w3 ha
    rcases HNX.out e w3 ha with⟨rfl,hq⟩|⟨v5,gk5,rfl,hform,hlt,hat⟩
    ·unfold gaveUp noForm at hq ⊢
     have HQ:=hide hq
     clear hq ha HC HNX
     go_wp2
     exact⟨rfl,HQ.out⟩
    ·have HAT:Hid (SevAt rb c w sev ts gk5 _ v5 w3/\(v5=.pointer none\/∃b,v5=ptrV b)):=⟨hat,hform⟩
     clear ha hat hform HC HNX
     go_wp2_with fail
     go_roundg gk5
     case rel=>rw[length_append]at HAT;exact HAT
     case measure=>exact hlt
structure Visits(ar:Nm->Nat)(ad:List Nat)(X:Nat->Prop)(rk:Nat->Nat)(σ:TS)(K:Nat)(cap:Array Value)(T:List Nat->Nat->Bool)(D:Nat->Prop)(τ:List Nat->TS)(Z:List Nat->World->Prop)(G:List Nat->Prop):Prop where
 enters:Enters K
 good:∀acc r,G acc->T acc r=true->G (acc++[r])
 alike:∀acc,Alike σ (τ acc)
 ads:∀k∈ad,D k
 rows:∀acc w k c f,StoM ar ad X rk (τ acc) w->Z acc w->D k->w.heap[k]?≠some (.cells c tyTypeP f)
 stays:∀acc w w',Z acc w->StoM ar ad X rk (τ acc) w->Kn (·∈ad) w w'->Z acc w'
 visit:∀acc r w,G acc->StoM ar ad X rk (τ acc) w->Z acc w->r<σ.nodes.length->σ.root r=r->Calls prog K (#[adV ad r]++cap) w fun e w'=>e=.returned (.bool (T acc r))/\StoM ar ad X rk (τ (acc++[r])) w'/\Z (acc++[r]) w'/\Kn D w w'
def AnsWk(ar:Nm->Nat)(ad:List Nat)(X:Nat->Prop)(rk:Nat->Nat)(D:Nat->Prop)(τ:List Nat->TS)(Z:List Nat->World->Prop)(acc':List Nat)(b:Bool)(w:World)(e:Ending)(w':World):Prop:=
 e=.returned (.bool b)/\StoM ar ad X rk (τ acc') w'/\Z acc' w'/\Kn D w w'
section
variable {ar:Nm->Nat}{ad:List Nat}{X:Nat->Prop}{rk:Nat->Nat}{σ:TS}{K:Nat}{cap:Array Value}{T:List Nat->Nat->Bool}{D:Nat->Prop}{τ:List Nat->TS}{Z:List Nat->World->Prop}{G:List Nat->Prop}
theorem ownsRow_max{w:World}{base size n:Nat}{e:TypeId}{v:Value}{xs:List Value}(h:w.ownsRow base e size v n xs):n<=9223372036854775807:=by
 rcases h.2 with⟨_,rfl⟩|⟨g,cap,cur,_,_,_,h1,h2,_⟩
 ·omega
 ·unfold maxLen at h2;omega
theorem wkL_good{g:List Nat->Nat->Option (List Nat×Bool)}:∀{ps:List Nat}{acc acc':List Nat},wk.wkL g acc ps=some (acc',true)->(∀p∈ps,∀a a',g a p=some (a',true)->G a->G a')->G acc->G acc':=by
 intro ps
 induction ps with
 |nil=>intro acc acc' h _ hg;rw[wk.wkL]at h;cases h;exact hg
 |cons p r ih=>
  intro acc acc' h hp hg
  rw[wk.wkL]at h
  cases hx:g acc p with
  |none=>rw[hx]at h;cases h
  |some y=>
   obtain⟨a1,b1⟩:=y
   rw[hx]at h
   cases b1 with
   |false=>cases h
   |true=>exact ih h (fun q hq=>hp q (mem_cons_of_mem _ hq)) (hp p (mem_cons_self ..) _ _ hx hg)
theorem wk_good(hgood:∀acc r,G acc->T acc r=true->G (acc++[r])):∀{n:Nat}{acc acc':List Nat}{i:Nat},wk σ T n acc i=some (acc',true)->G acc->G acc':=by
 intro n
 induction n with
 |zero=>intro acc acc' i h;cases h
 |succ n ih=>
  intro acc acc' i h hg
  rw[wk]at h
  split at h
  ·rename_i hT
   exact wkL_good h (fun p _ a a' hx=>ih hx) (hgood _ _ hg hT)
  ·cases h
def WkAt(ar:Nm->Nat)(ad:List Nat)(X:Nat->Prop)(rk:Nat->Nat)(σ:TS)(T:List Nat->Nat->Bool)(D:Nat->Prop)(τ:List Nat->TS)(Z:List Nat->World->Prop)(G:List Nat->Prop)(n:Nat)(w:World)(pv:Value)(ps acc':List Nat)(b:Bool)(k:Nat)(wr:World):Prop:=
 ∃acck,wk.wkL (wk σ T n) acck (ps.drop k)=some (acc',b)/\G acck/\StoM ar ad X rk (τ acck) wr/\Z acck wr/\Kn D w wr/\wr.ownsRow 0 tyTypeP 1 pv ps.length (ps.map (adV ad))
theorem walk_any(V:Visits ar ad X rk σ K cap T D τ Z G):∀(n:Nat)(acc:List Nat)(i:Nat)(w:World)(acc':List Nat)(b:Bool),wk σ T n acc i=some (acc',b)->i<σ.nodes.length->G acc->StoM ar ad X rk (τ acc) w->Z acc w ->
  Calls prog 98 #[adV ad i,.func (.func K) #[] cap] w (AnsWk ar ad X rk D τ Z acc' b w):=by
 intro n
 induction n with
 |zero=>intro acc i w acc' b h;cases h
 |succ n ih=>
  intro acc i w acc' b hwk hi hG hS hZ
  have hal:=V.alike acc
  have hr:=hS.ok.root_lt (by rw[hal.len];exact hi)
  have hrr:=hS.ok.root_root i
  rw[hal.root,hal.len]at hr
  rw[hal.root,hal.root]at hrr
  have hroot:=root_any (rk i+1) i w (lt_succ_self _) hS (by rw[hal.len];exact hi)
  have hE:=fun(args:Array Value) (w:World)=>V.enters args w
  have h1:∀e w1,AnsRoot ar ad X rk (τ acc) i w e w1->e=.returned (adV ad (σ.root i))/\StoM ar ad X rk (τ acc) w1/\Z acc w1/\Kn D w w1:=by
   rintro e w1⟨a1,a2,a3,_⟩
   exact⟨by rw[a1,hal.root],a2,V.stays acc w w1 hZ hS a3,a3.wide fun k _ hk=>V.ads k hk⟩
  have h2:=fun w1 hs hz=>V.visit acc (σ.root i) w1 hG hs hz hr hrr
  rw[wk]at hwk
  have HR:=hide hroot
  have H1:=hide h1
  have H2:=hide h2
  generalize hrt:σ.root i=r at *
  clear hroot h1 h2
  cases hT:T acc r with
  |false=>
   rw[hT]at hwk H2
   obtain⟨rfl,rfl⟩:acc++[r]=acc'/\false=b:=by simpa using hwk
   have hQ:∀w',StoM ar ad X rk (τ (acc++[r])) w'->Z (acc++[r]) w'->Kn D w w'->AnsWk ar ad X rk D τ Z (acc++[r]) false w (.returned (.bool false)) w':=fun w' a c d=>⟨rfl,a,c,d⟩
   have HQ:=hide hQ
   clear hQ
   unfold adV ptrV at *
   generalize AnsRoot ar ad X rk (τ acc) i w=Q1 at *
   generalize AnsWk ar ad X rk D τ Z (acc++[r]) false w=Q at *
   clear ih hS hZ hal hwk V hG
   go_enter func98,ntmps98
   go_wp2_with fail
   refine(HR.out).mono ?_;intro e w1 ha
   obtain⟨rfl,hs1,hz1,hk1⟩:=H1.out e w1 ha
   have HV:=hide (H2.out w1 hs1 hz1)
   have HK:=hide hk1
   clear ha hs1 hz1 hk1 H1 H2 HR
   go_wp2_with fail
   refine(HV.out).mono ?_;rintro e w2⟨rfl,hs2,hz2,hk2⟩
   have HF:=hide (HQ.out w2 hs2 hz2 (HK.out.trans hk2))
   clear hs2 hz2 hk2 HQ HK HV
   go_wp2
   exact HF.out
  |true=>
   rw[hT]at hwk H2
   have hG1:G (acc++[r]):=V.good _ _ hG hT
   have hgood:=V.good
   have hlp:wk.wkL (wk σ T n) (acc++[r]) (σ.node r).parts=some (acc',b):=by simpa using hwk
   have hQ:∀w' b',StoM ar ad X rk (τ acc') w'->Z acc' w'->Kn D w w'->b'=b->AnsWk ar ad X rk D τ Z acc' b w (.returned (.bool b')) w':=fun w' b' a c d e=>⟨by rw[e],a,c,d⟩
   have hP:∀w2,StoM ar ad X rk (τ (acc++[r])) w2->Z (acc++[r]) w2->∃pv,w2.cell? ⟨adA ad r,1,none⟩=some pv/\w2.ownsRow 0 tyTypeP 1 pv (σ.node r).parts.length ((σ.node r).parts.map (adV ad)):=by
    intro w2 hs2 _
    have ha2:=V.alike (acc++[r])
    obtain⟨pv,fv,_,c2,_,_,_,_,c7,_⟩:=hs2.cell (i:=r) (by rw[ha2.len];exact hr)
    rw[ha2.parts]at c7
    exact⟨pv,c2,c7⟩
   have hpl:∀p∈(σ.node r).parts,p<σ.nodes.length:=by
    intro p hp
    have:=hS.ok.part_lt (i:=r) (by rw[hal.len];exact hr) (by rw[hal.parts];exact hp)
    rwa [hal.len]at this
   have hrow:∀acc2 wa wb pv m xs,StoM ar ad X rk (τ acc2) wa->Z acc2 wa->Kn D wa wb->wa.ownsRow 0 tyTypeP 1 pv m xs->wb.ownsRow 0 tyTypeP 1 pv m xs:=by
    intro acc2 wa wb pv m xs hs hz hk ho
    refine ownsRow_kept ho fun k c f _ hc=>hk.block k (lt_of_heap hc) fun hd=>V.rows acc2 wa k c f hs hz hd hc
   have HIH:=hide ih
   have HQ:=hide hQ
   have HP:=hide hP
   have HROW:=hide hrow
   clear hQ hP hrow ih
   generalize (σ.node r).parts=ps at *
   have hstep:∀pv k p wr,ps[k]?=some p->WkAt ar ad X rk σ T D τ Z G n w pv ps acc' b k wr->∃acck acc2 b2,wk σ T n acck p=some (acc2,b2)/\G acck/\StoM ar ad X rk (τ acck) wr/\Z acck wr /\
     ∀e wr2,AnsWk ar ad X rk D τ Z acc2 b2 wr e wr2->e=.returned (.bool b2)/\(b2=false->StoM ar ad X rk (τ acc') wr2/\Z acc' wr2/\Kn D w wr2/\b=false)/\(b2=true->WkAt ar ad X rk σ T D τ Z G n w pv ps acc' b (k+1) wr2):=by
    rintro pv k p wr hp⟨acck,h1,hg0,h2,h3,h4,h5⟩
    have hkl:=(List.getElem?_eq_some_iff.1 hp).1
    have hd:ps.drop k=p::ps.drop (k+1):=by
     rw[List.drop_eq_getElem_cons hkl]
     rw[List.getElem?_eq_getElem hkl]at hp
     rw[Option.some.inj hp]
    rw[hd,wk.wkL]at h1
    cases hw:wk σ T n acck p with
    |none=>rw[hw]at h1;cases h1
    |some y=>
     obtain⟨acc2,b2⟩:=y
     rw[hw]at h1
     refine⟨acck,acc2,b2,hw,hg0,h2,h3,?_⟩
     rintro e wr2⟨e1,e2,e3,e4⟩
     refine⟨e1,fun hb=>?_,fun hb=>?_⟩
     ·subst hb
      obtain⟨rfl,rfl⟩:acc2=acc'/\false=b:=by simpa using h1
      exact⟨e2,e3,h4.trans e4,rfl⟩
     ·subst hb
      exact⟨acc2,h1,wk_good hgood hw hg0,e2,e3,h4.trans e4,HROW.out acck wr wr2 pv _ _ h2 h3 e4 h5⟩
   have hend:∀pv wr,WkAt ar ad X rk σ T D τ Z G n w pv ps acc' b ps.length wr->StoM ar ad X rk (τ acc') wr/\Z acc' wr/\Kn D w wr/\true=b:=by
    rintro pv wr⟨acck,h1,_,h2,h3,h4,_⟩
    rw[List.drop_length,wk.wkL]at h1
    obtain⟨rfl,rfl⟩:acck=acc'/\true=b:=by simpa using h1
    exact⟨h2,h3,h4,rfl⟩
   have hst:∀pv w2,StoM ar ad X rk (τ (acc++[r])) w2->Z (acc++[r]) w2->Kn D w w2->w2.ownsRow 0 tyTypeP 1 pv ps.length (ps.map (adV ad))->WkAt ar ad X rk σ T D τ Z G n w pv ps acc' b 0 w2:=fun pv w2 a1 a2 a3 a4=>⟨acc++[r],hlp,hG1,a1,a2,a3,a4⟩
   have hown:∀pv k wr,WkAt ar ad X rk σ T D τ Z G n w pv ps acc' b k wr->wr.ownsRow 0 tyTypeP 1 pv ps.length (ps.map (adV ad)):=fun pv k wr ⟨_,_,_,_,_,_,h⟩=>h
   have HSTEP:=hide hstep
   have HEND:=hide hend
   have HST:=hide hst
   have HOWN:=hide hown
   have HPL:=hide hpl
   clear hstep hend hst hown hlp hpl HROW hgood hG1 hG
   generalize AnsRoot ar ad X rk (τ acc) i w=Q1 at *
   generalize hQQ:AnsWk ar ad X rk D τ Z acc' b w=Q at *
   clear hS hZ hal hwk V hQQ
   unfold adV ptrV at *
   go_enter func98,ntmps98
   go_wp2_with fail
   refine(HR.out).mono ?_;intro e w1 ha
   obtain⟨rfl,hs1,hz1,hk1⟩:=H1.out e w1 ha
   have HV:=hide (H2.out w1 hs1 hz1)
   have HK:=hide hk1
   clear ha hs1 hz1 hk1 H1 H2 HR
   go_wp2_with fail
   refine(HV.out).mono ?_;rintro e w2⟨rfl,hs2,hz2,hk2⟩
   obtain⟨pv,hc,hown2⟩:=HP.out w2 hs2 hz2
   have HAT:=hide (HST.out pv w2 hs2 hz2 (HK.out.trans hk2) hown2)
   rcases ownsRow_forms hown2 with⟨rfl,hn0⟩|⟨g,cap2,rfl⟩
   ·have hps:ps=[]:=List.length_eq_zero_iff.1 hn0
    subst hps
    have HF:=hide (HEND.out _ w2 HAT.out)
    clear hs2 hz2 hk2 HK HV HP HAT hown2 HST HSTEP HEND HOWN HIH HPL
    go_wp2_with fail
    refine wp_loop_rounds 1 ?_
    rw[rounds_succ]
    go_wp2
    obtain⟨f1,f2,f3,f4⟩:=HF.out
    exact HQ.out _ _ f1 f2 f3 f4
   ·have hplen:ps.length<=9223372036854775807:=ownsRow_max hown2
    clear hs2 hz2 hk2 HK HV HP hown2 HST
    generalize hpn:ps.length=pn at *
    go_wp2_with fail
    go_loopg [18] pn (fun gk v18 wr=>∃k,v18=.int .i64 (k:Nat)/\k+gk=pn/\Hid (WkAt ar ad X rk σ T D τ Z G n w (.slice (some ⟨g,0,none⟩) pn cap2) ps acc' b k wr))
    case atStart=>exact⟨0,rfl,by omega,HAT⟩
    case round=>
     clear HAT
     obtain⟨k,rfl,hk,HAT⟩:=hrel
     by_cases hlt:k<pn
     ·have hkl:k<ps.length:=by omega
      have hp:ps[k]?=some ps[k]:=List.getElem?_eq_getElem hkl
      generalize ps[k]=p at hp
      have hpl:=HPL.out p (List.mem_of_getElem? hp)
      obtain⟨acck,acc2,b2,hw,hg0,hs,hz,hnx⟩:=HSTEP.out _ k p wr hp HAT.out
      have hcell:wr.cell? ⟨g,k,none⟩=some (.pointer (some ⟨adA ad p,0,none⟩)):=by
       have:=(HOWN.out _ k wr HAT.out).cellAt k (by omega)
       rw[this,List.getElem?_map,hp];rfl
      have hgl:g<wr.heap.size:=((HOWN.out _ k wr HAT.out).lt g rfl).2
      have HC:=hide (HIH.out acck p wr acc2 b2 hw hpl hg0 hs hz)
      have HNX:=hide hnx
      have hlt3:(k:Int)<(pn:Int):=by omega
      clear hw hg0 hs hz hnx HAT hp hpl HSTEP HEND HOWN HIH HPL
      go_wp2_with fail
      refine(HC.out).mono ?_;intro e wr2 ha
      obtain⟨rfl,hn1,hn2⟩:=HNX.out e wr2 ha
      cases b2 with
      |false=>
       have HF:=hide (hn1 rfl)
       clear ha hn1 hn2 HC HNX
       go_wp2
       obtain⟨f1,f2,f3,f4⟩:=HF.out
       exact HQ.out _ _ f1 f2 f3 f4.symm
      |true=>
       have HF:=hide (hn2 rfl)
       clear ha hn1 hn2 HC HNX
       go_wp2_with fail
       go_roundg (pn-(k+1))
       case rel=>exact⟨k+1,by simp,by omega,HF⟩
       case measure=>omega
     ·have hkn:k=pn:=by omega
      subst hkn
      have HF:=hide (HEND.out _ wr HAT.out)
      have hlt3:¬(k:Int)<(k:Int):=by omega
      clear HAT HSTEP HEND HOWN HIH HPL
      go_wp2
      obtain⟨f1,f2,f3,f4⟩:=HF.out
      exact HQ.out _ _ f1 f2 f3 f4
end
abbrev tyIntB:TypeId:=3
section
variable {ar:Nm->Nat}{ad:List Nat}{X:Nat->Prop}{rk:Nat->Nat}{σ:TS}{w w':World}{i:Nat}
def AnsTB(ar:Nm->Nat)(ad:List Nat)(X:Nat->Prop)(rk:Nat->Nat)(σ:TS)(v:Value)(w:World)(e:Ending)(w':World):Prop:=
 e=.returned v/\StoM ar ad X rk σ w'/\Kn (·∈ad) w w'
theorem Enters.fits1:Enters 99:=enters func99 (by kernel_rfl) rfl
theorem fits1_any(x:Value)(sb m:Nat)(w:World)(hm:m<1000)(h:w.heap[sb]?=some (.cells #[.int .i64 m] tyIntB (0,0))) :
  Calls prog 99 #[x,.pointer (some ⟨sb,0,none⟩)] w fun e w'=>e=.returned (.bool (decide (m+1<=maxSize)))/\w'=w.setCell ⟨sb,0,none⟩ (.int .i64 (m+1:Nat)):=by
 have c0:w.cell? ⟨sb,0,none⟩=some (.int .i64 m):=by simp[World.cell?,h]
 have f0:w.frozen? ⟨sb,0,none⟩=false:=frozen_of_row _ _ _ _ _ h
 generalize hQ:(fun(e:Ending) (w':World)=>e=.returned (.bool (decide (m+1<=maxSize)))/\w'=w.setCell ⟨sb,0,none⟩ (.int .i64 (m+1:Nat)))=Q
 clear h
 go_enter func99,ntmps99
 go_wp2
 rw[<- hQ]
 refine⟨?_,by rw[Int.natCast_add];rfl⟩
 have hd:decide ((m:Int)+1<=200)=decide (m+1<=maxSize):=by
  congr 1
  exact propext ⟨fun h=>by unfold maxSize;omega,fun h=>by unfold maxSize at h;omega⟩
 show Ending.returned (.bool (decide ((m:Int)+1<=200)))=_
 rw[hd]
theorem box_ne{sb:Nat}{c:Array Value}{t:TypeId}{f:Nat×Nat}(ht:t≠tyType)(h:w.heap[sb]?=some (.cells c t f))(hs:StoM ar ad X rk σ w):sb∉ad:=fun hm=>by
 obtain⟨c2,f2,h2⟩:=hs.isT hm
 rw[h]at h2
 exact ht (cells_ty h2)
theorem StoM.box{sb:Nat}{c:Array Value}{t:TypeId}{f:Nat×Nat}(hs:StoM ar ad X rk σ w)(ht:t≠tyType)(ht2:t≠tyTypeP)(h:w.heap[sb]?=some (.cells c t f))(o:Nat)(v:Value):StoM ar ad X rk σ (w.setCell ⟨sb,o,none⟩ v):=
 hs.kept (fun k hk=>Below.heap_setCell _ _ _ _ (fun e=>box_ne ht h hs (by have e:k=sb:=e;rw[<- e];exact hk))) (fun k c2 f2 _ hc=>Below.heap_setCell _ _ _ _ (fun e=>by
  have e:k=sb:=e
  rw[e,h]at hc
  exact ht2 (cells_ty hc)))
theorem fits_visits(sb:Nat):Visits ar ad X rk σ 99 #[.pointer (some ⟨sb,0,none⟩)] fitsT (fun k=>k∈ad\/k=sb) (fun _=>σ) (fun acc w=>w.heap[sb]?=some (.cells #[.int .i64 acc.length] tyIntB (0,0))) (fun acc=>acc.length<=maxSize) where
 enters:=Enters.fits1
 good acc r _ h:=by simp only[fitsT,decide_eq_true_eq]at h;rw[length_append];exact h
 alike _:=Alike.refl _
 ads k hk:=inl hk
 rows acc w k c f hs hz hd hc:=by
  rcases hd with hd|rfl
  ·obtain⟨c2,f2,h2⟩:=hs.isT hd
   rw[hc]at h2
   exact absurd (cells_ty h2) (by decide)
  ·rw[hz]at hc
   exact absurd (cells_ty hc) (by decide)
 stays acc w w' hz hs hk:=by rw[hk.block sb (lt_of_heap hz) (box_ne (by decide) hz hs)];exact hz
 visit acc r w hg hs hz hr hrr:=by
  refine(fits1_any (adV ad r) sb acc.length w (by unfold maxSize at hg;omega) hz).mono ?_
  rintro e w'⟨rfl,rfl⟩
  refine⟨rfl,hs.box (by decide) (by decide) hz 0 _,?_,(Kn.refl _ w).set (inl (inr rfl)) _⟩
  rw[heap_setCell_same _ _ _ _ _ _ hz,length_append];rfl
theorem AnsWk.toB{b:Bool}{D:Nat->Prop}{τ:List Nat->TS}{Z:List Nat->World->Prop}{acc':List Nat}{w0 w1:World}{e:Ending}(h:AnsWk ar ad X rk D τ Z acc' b w1 e w')(h0:Kn (·∈ad) w0 w1)(hD:∀k,k<w0.heap.size->D k->k∈ad):e=.returned (.bool b)/\StoM ar ad X rk (τ acc') w'/\Kn (·∈ad) w0 w':=by
 obtain⟨h1,h2,_,h4⟩:=h
 exact⟨h1,h2,h0.trans' h4 fun k hk hd=>hD k hk hd⟩
theorem Fits_any(h:StoM ar ad X rk σ w)(hi:i<σ.nodes.length):Calls prog 64 #[adV ad i] w (AnsTB ar ad X rk σ (.bool (σ.fits i)) w):=by
 obtain⟨acc',hwk⟩:=σ.fits_wk i
 have h1:=h.alloc (.cells #[.int .i64 0] tyIntB)
 have hb:(w.alloc (.cells #[.int .i64 0] tyIntB)).heap[w.heap.size]?=some (.cells #[.int .i64 ([]:List Nat).length] tyIntB (0,0)):=(MapKept.heap_alloc w _).1
 have hc:=walk_any (fits_visits (ar:=ar) (ad:=ad) (X:=X) (rk:=rk) (σ:=σ) w.heap.size) wkFuel [] i (w.alloc (.cells #[.int .i64 0] tyIntB)) acc' (σ.fits i) hwk hi (zero_le _) h1 hb
 have hq:∀e w',AnsWk ar ad X rk (fun k=>k∈ad\/k=w.heap.size) (fun _=>σ) (fun acc w1=>w1.heap[w.heap.size]?=some (.cells #[.int .i64 acc.length] tyIntB (0,0))) acc' (σ.fits i) (w.alloc (.cells #[.int .i64 0] tyIntB)) e w'->e=.returned (.bool (σ.fits i))/\AnsTB ar ad X rk σ (.bool (σ.fits i)) w (.returned (.bool (σ.fits i))) w':=by
  intro e w' ha
  obtain⟨a1,a2,a3⟩:=ha.toB (w0:=w) ((Kn.refl _ w).alloc _) (fun k hk hd=>by
   rcases hd with hd|rfl
   ·exact hd
   ·omega)
  exact⟨a1,rfl,a2,a3⟩
 have HC:=hide hc
 have HQ:=hide hq
 clear hc hq hb h1 h hwk
 generalize AnsTB ar ad X rk σ (.bool (σ.fits i)) w=Q at *
 generalize AnsWk ar ad X rk (fun k=>k∈ad\/k=w.heap.size) (fun _=>σ) (fun acc w1=>w1.heap[w.heap.size]?=some (.cells #[.int .i64 acc.length] tyIntB (0,0))) acc' (σ.fits i) (w.alloc (.cells #[.int .i64 0] tyIntB))=Q1 at *
 generalize σ.fits i=ft at *
 unfold adV ptrV at *
 go_enter func64,ntmps64
 go_wp2_with fail
 refine(HC.out).mono ?_;intro e w1 ha
 obtain⟨rfl,hq⟩:=HQ.out e w1 ha
 have HF:=hide hq
 clear ha hq HQ HC
 go_wp2
 exact HF.out
theorem Enters.has1:Enters 142:=enters func142 (by kernel_rfl) rfl
theorem has1_any(h:StoM ar ad X rk σ w)(hi:i<σ.nodes.length) :
  Calls prog 142 #[adV ad i] w fun e w'=>e=.returned (.bool (!σ.isLetter i))/\w'=w:=by
 have hc:=isLetter_any h hi
 have HC:=hide hc
 clear hc h
 generalize hQ:(fun(e:Ending) (w':World)=>e=.returned (.bool (!σ.isLetter i))/\w'=w)=Q
 generalize σ.isLetter i=lt at *
 unfold adV ptrV at *
 go_enter func142,ntmps142
 go_wp2_with fail
 refine(HC.out).mono ?_;rintro e w1⟨rfl,rfl⟩
 go_wp2
 rw[<- hQ]
 exact⟨rfl,rfl⟩
theorem has_visits:Visits ar ad X rk σ 142 #[] (fun _ j=>!σ.isLetter j) (·∈ad) (fun _=>σ) (fun _ _=>True) (fun _=>True) where
 enters:=Enters.has1
 good _ _ _ _:=trivial
 alike _:=Alike.refl _
 ads _ hk:=hk
 rows acc w k c f hs _ hd hc:=by
  obtain⟨c2,f2,h2⟩:=hs.isT hd
  rw[hc]at h2
  exact absurd (cells_ty h2) (by decide)
 stays _ _ _ _ _ _:=trivial
 visit acc r w _ hs _ hr _:=by
  refine(has1_any hs hr).mono ?_
  rintro e w'⟨rfl,rfl⟩
  exact⟨rfl,hs,trivial,Kn.refl _ _⟩
theorem HasLetters_any(h:StoM ar ad X rk σ w)(hi:i<σ.nodes.length)(hf:σ.fits i=true):Calls prog 97 #[adV ad i] w (AnsTB ar ad X rk σ (.bool (σ.hasLetters i)) w):=by
 obtain⟨acc',b,hwk⟩:=TS.fits_end hf (fun _ j=>!σ.isLetter j)
 have hb:σ.hasLetters i=!b:=by unfold TS.hasLetters;rw[hwk];cases b<;>rfl
 have hc:=walk_any (has_visits (ar:=ar) (ad:=ad) (X:=X) (rk:=rk) (σ:=σ)) wkFuel [] i w acc' b hwk hi trivial h trivial
 have hq:∀e w',AnsWk ar ad X rk (·∈ad) (fun _=>σ) (fun _ _=>True) acc' b w e w'->e=.returned (.bool b)/\AnsTB ar ad X rk σ (.bool (!b)) w (.returned (.bool (!b))) w':=by
  intro e w' ha
  obtain⟨a1,a2,a3⟩:=ha.toB (w0:=w) (Kn.refl _ w) (fun k _ hd=>hd)
  exact⟨a1,rfl,a2,a3⟩
 rw[hb]
 have HC:=hide hc
 have HQ:=hide hq
 clear hc hq h hwk hb hf
 generalize AnsTB ar ad X rk σ (.bool (!b)) w=Q at *
 generalize AnsWk ar ad X rk (·∈ad) (fun _=>σ) (fun _ _=>True) acc' b w=Q1 at *
 unfold adV ptrV at *
 go_enter func97,ntmps97
 go_wp2_with fail
 refine(HC.out).mono ?_;intro e w1 ha
 obtain⟨rfl,hq⟩:=HQ.out e w1 ha
 have HF:=hide hq
 clear ha hq HQ HC
 go_wp2
 exact HF.out
end
end Go.Proofs.YtbkiipiocpnnnaaGreatDoor
