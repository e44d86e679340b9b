import Derived.Test.YtbkiipiocpnnnaaGreatDoorC8
set_option linter.all false
set_option maxHeartbeats 40000000
set_option maxRecDepth 100000
open Go.Proofs.Tryz
open Classical (choice)
open Or (inl inr)
open Option (bind_eq_some_iff)
open Nat (le_refl le_trans zero_le)
open List (append_nil length_append length_cons append_assoc map_append)
namespace Go.Proofs.YtbkiipiocpnnnaaGreatDoor
open Go.RowKit
theorem AnsN.ends{rb c:Nat}{w w':World}{o:Option (Tr×Toks)}{e:Ending}(h:AnsN rb c w o e w'):e=gaveUp\/∃v,e=.returned v:=by
 rcases h.2 with⟨_,h⟩|⟨t,r,b,_,h,_⟩
 ·exact inl h
 ·exact inr ⟨_,h⟩
theorem AnsO.ends{rb c:Nat}{w w':World}{o:Option (Option Tr×Toks)}{e:Ending}(h:AnsO rb c w o e w'):e=gaveUp\/∃v,e=.returned v:=by
 rcases h.2 with⟨_,h⟩|⟨r,_,h,_⟩|⟨t,r,b,_,h,_⟩
 ·exact inl h
 ·exact inr ⟨_,h⟩
 ·exact inr ⟨_,h⟩
theorem Kq.to{rb:Nat}{a b c:World}(h:Kq rb a b)(k:Kq rb b c):Kq rb a c:=h.trans k
theorem AnsN.as{rb c:Nat}{w0 w w':World}{o o':Option (Tr×Toks)}{e:Ending}(hk:Kq rb w0 w)(ho:o'=o)(h:AnsN rb c w o e w'):AnsN rb c w0 o' e w':=by rw[ho];exact h.later hk
theorem AnsO.as{rb c:Nat}{w0 w w':World}{o o':Option (Option Tr×Toks)}{e:Ending}(hk:Kq rb w0 w)(ho:o'=o)(h:AnsO rb c w o e w'):AnsO rb c w0 o' e w':=by rw[ho];exact h.later hk
theorem made_from{c:Nat}{w w1:World}{is name:List UInt8}{ts:List Tr}{k:Int}{txt:List UInt8}{cs:List Nat}{pv:Value}{ps:List Nat}(hk:KindOf c is name k txt cs)(hr:w1.ownsRow w.heap.size tyTreeP 1 pv ps.length (ps.map ptrV))(hm:Mem.Mems (From w) w1 cs ts ps) :
  Mem (From w) (w1.alloc (.cells #[.int .i64 k,.string (bs txt),pv] tyTree)) c (.mk is name ts) w1.heap.size:=
 Mem.made hk (ownsRow_base hr (zero_le _)) (fun g hg=>(hr.lt g hg).1) hm
theorem Mem.since{rb c:Nat}{w0 w:World}{t:Tr}{b:Nat}(hk:Kq rb w0 w){w':World}(h:Mem (From w) w' c t b):Mem (From w0) w' c t b:=h.wide fun _ hf _=>le_trans hk.size hf
theorem Mem.Mems.since{rb:Nat}{w0 w:World}{cs:List Nat}{l:List Tr}{ps:List Nat}{v:Value}(hk:Kq rb w0 w){w':World}(h:Mem.Mems (fun g=>w.heap.size<=g/\v.ownBlock≠some g) w' cs l ps):Mem.Mems (From w0) w' cs l ps:=h.wide fun _ hf _=>le_trans hk.size hf.1
theorem wt_isW_lt{x:List UInt8}{ts:Toks}(h:G.isW x ts=true):wt ts.tail<wt ts:=by have:=wt_isW h;omega
theorem wt_kind_lt{k:Int}{ts:Toks}(h0:k≠0)(h:(G.kindOf ts==k)=true):wt ts.tail<wt ts:=by have:=wt_kind h0 h;omega
def WholeAt(rb:Nat)(ts:Toks)(w:World):Prop:=Calls prog 260 #[ptrV rb] w (AnsN rb 2 w ((choice lf).typ ts))
theorem p_closed{rb m:Nat}(hW:∀ts w,wt ts<m->Rq rb ts w->WholeAt rb ts w)(ts:Toks)(w:World)(hm:wt ts<=m)(h:Rq rb ts w):Calls prog 230 #[ptrV rb] w (AnsO rb 2 w ((choice lf).closedO ts)):=by
 have H1:=hide (accept_w (x:=K.open_) bsK_open (by decide) h)
 have HW:=hide hW
 have HX:=hide (fun(ts:Toks) (w:World) (h:Rq rb ts w)=>expect_w (x:=K.shut_) bsK_shut (by decide) h)
 have HL:=hide (fun(w:World) (h:Rq rb ts w)=>letter_any 2 21 (inl ⟨rfl,rfl⟩) h)
 clear hW h
 go_enter func230,ntmps230
 go_wp2_with fail
 refine(H1.out).mono ?_;rintro e w1⟨hk1,⟨ho1,rfl,hr1⟩|⟨ho1,rfl,hr1⟩⟩
 ·have HC:=hide (HL.out w1 hr1)
  go_wp2_with fail
  refine(HC.out).mono ?_;intro e wz ha
  have HQ:=hide (AnsO.as (o':=(choice lf).closedO ts) hk1 (by unfold LFam.closedO;rw[ho1]<;>rfl) ha)
  rcases ha.ends with rfl|⟨v,rfl⟩
  ·unfold gaveUp noForm
   clear ha
   go_wp2
   exact⟨rfl,HQ.out⟩
  ·clear ha
   go_wp2
   go_ret
   exact HQ.out
 ·have hlt:=wt_isW_lt ho1
  have HC:=hide (HW.out ts.tail w1 (by omega) hr1)
  unfold WholeAt at HC
  go_wp2_with fail
  refine(HC.out).mono ?_;rintro e w2⟨hk2,⟨ho2,rfl⟩|⟨t2,r2,b2,ho2,rfl,hm2,hr2⟩⟩
  ·have HQ:=hide (AnsO.no (c:=2) (o:=(choice lf).closedO ts) (hk1.to hk2) (by unfold LFam.closedO;rw[ho1,cond_true,ho2]<;>rfl))
   unfold gaveUp noForm
   go_wp2
   exact⟨rfl,HQ.out⟩
  ·have HD:=hide (HX.out r2 w2 hr2)
   go_wp2_with fail
   refine(HD.out).mono ?_;rintro e w3⟨hk3,⟨ho3,rfl⟩|⟨r3,ho3,rfl,hr3⟩⟩
   ·have HQ:=hide (AnsO.no (c:=2) (o:=(choice lf).closedO ts) ((hk1.to hk2).to hk3) (by unfold LFam.closedO;rw[ho1,cond_true,ho2,Option.bind_some,ho3]<;>rfl))
    unfold gaveUp noForm
    go_wp2
    exact⟨rfl,HQ.out⟩
   ·have HQ:=hide (AnsO.yes (c:=2) (o:=(choice lf).closedO ts) ((hk1.to hk2).to hk3) (by unfold LFam.closedO;rw[ho1,cond_true,ho2,Option.bind_some,ho3]<;>rfl) ((hm2.since hk1).kq hr2 hk3) hr3)
    unfold ptrV at *
    go_wp2
    go_ret
    exact HQ.out
theorem closed_w(ts:Toks)(t:Tr)(r:Toks)(h:(choice lf).closedO ts=some (some t,r)):wt r<wt ts:=by
 unfold LFam.closedO at h
 cases k:G.isW K.open_ ts
 ·rw[k,cond_false]at h
  unfold LFam.letterO at h
  cases k2:(G.kindOf ts==108)
  ·rw[k2]at h;cases h
  ·rw[k2,cond_true]at h
   have:=Option.some.inj h
   have h2:r=ts.tail:=(congrArg Prod.snd this).symm
   rw[h2];exact wt_kind_lt (by decide) k2
 ·rw[k,cond_true]at h
  simp only[bind_eq_some_iff]at h
  obtain⟨q,hq,r2,hr2,h⟩:=h
  have h2:r=r2:=(congrArg Prod.snd (Option.some.inj h)).symm
  have h3:=(choice lf).typ_w hq
  have h4:=wt_want hr2
  have h5:=wt_isW_lt k
  rw[h2];omega
theorem part_w(ts:Toks)(t:Tr)(r:Toks)(h:(choice lf).partO ts=some (some t,r)):wt r<wt ts:=by
 unfold LFam.partO at h
 cases k:(G.kindOf ts==110)
 ·rw[k,cond_false]at h;exact closed_w ts t r h
 ·rw[k,cond_true]at h
  have h2:r=ts.tail:=(congrArg Prod.snd (Option.some.inj h)).symm
  rw[h2];exact wt_kind_lt (by decide) k
theorem take_one{rb:Nat}{t:List UInt8}{r:Toks}{w:World}(h:Rq rb (t::r) w):Calls prog 86 #[ptrV rb] w fun e w'=>e=.returned (.string (bs t))/\Hid (Kq rb w w'/\Rq rb r w'):=by
 refine(take_any h).mono ?_
 rintro e w'⟨hk,⟨he,_⟩|⟨t2,r2,he,rfl,hr⟩⟩
 ·cases he
 ·injection he with he1 he2
  subst he1
  subst he2
  exact⟨rfl,hk,hr⟩
theorem p_part{rb m:Nat}(hW:∀ts w,wt ts<m->Rq rb ts w->WholeAt rb ts w)(ts:Toks)(w:World)(hm:wt ts<=m)(h:Rq rb ts w):Calls prog 173 #[ptrV rb] w (AnsO rb 2 w ((choice lf).partO ts)):=by
 have HP:=hide (peek_any h)
 have HI:=hide (IsName_tok h.head w)
 have HC:=hide (p_closed hW ts w hm h)
 cases hk:(tokKind (ts.headD [])==110)
 ·rw[hk]at HI
  clear hW h
  have hT:(choice lf).partO ts=(choice lf).closedO ts:=by unfold LFam.partO G.kindOf;rw[hk];rfl
  have HT:=hide hT
  clear hT hk
  generalize bs (ts.headD [])=bx at *
  go_enter func173,ntmps173
  go_wp2_with fail
  refine(HP.out).mono ?_;rintro e w1⟨rfl,rfl⟩
  go_wp2_with fail
  refine(HI.out).mono ?_;rintro e w1⟨rfl,rfl⟩
  go_wp2_with fail
  refine(HC.out).mono ?_;intro e wz ha
  have HQ:=hide (AnsO.as (o':=(choice lf).partO ts) (Kq.refl _ _) HT.out ha)
  rcases ha.ends with rfl|⟨v,rfl⟩
  ·unfold gaveUp noForm
   clear ha
   go_wp2
   exact⟨rfl,HQ.out⟩
  ·clear ha
   go_wp2
   go_ret
   exact HQ.out
 ·obtain⟨t,r,rfl⟩:=kind_cons (ts:=ts) (k:=110) (by decide) hk
  have HT:=hide (take_one h)
  have HN:=hide (fun(w1:World)=>New_any 22 (bs t) none 0 0 w1)
  have HQ:=hide (fun(w1:World) (k1:Kq rb w w1) (k2:Rq rb r w1)=>AnsO.yes (c:=2) (o:=(choice lf).partO (t::r)) (k1.alloc (.cells #[.int .i64 22,.string (bs t),.slice none 0 0] tyTree)) (by unfold LFam.partO G.kindOf;rw[hk]<;>rfl) (Mem.leaf (A:=From w) (KindOf.named t 0) w1) (k2.alloc _))
  rw[hk]at HI
  rw[show (t::r).headD []=t from rfl]at HP HI
  clear hW h hk HC
  generalize AnsO rb 2 w ((choice lf).partO (t::r))=Q at *
  generalize bs t=bx at *
  go_enter func173,ntmps173
  go_wp2_with fail
  refine(HP.out).mono ?_;rintro e w1⟨rfl,rfl⟩
  go_wp2_with fail
  refine(HI.out).mono ?_;rintro e w1⟨rfl,rfl⟩
  go_wp2_with fail
  refine(HT.out).mono ?_;rintro e w1⟨rfl,hT⟩
  go_wp2_with fail
  refine(HN.out _).mono ?_;rintro e w2⟨rfl,rfl⟩
  go_wp2
  exact HQ.out _ hT.out.1 hT.out.2
theorem Enters.part:Enters 173:=enters func173 (by kernel_rfl) rfl
theorem p_atypes{rb m:Nat}(hW:∀ts w,wt ts<m->Rq rb ts w->WholeAt rb ts w)(ts:Toks)(w:World)(hm:wt ts<=m)(h:Rq rb ts w):Calls prog 122 #[.func (.func 173) #[ptrV rb] #[]] w (AnsS rb 2 w ((choice lf).atypes ts)):=
 several_any atypes_sev part_w Enters.part (fun ts w h1 h2=>p_part hW ts w h1 h2) ts w hm h
theorem p_argument{rb m:Nat}(hW:∀ts w,wt ts<m->Rq rb ts w->WholeAt rb ts w)(ts:Toks)(w:World)(hm:wt ts<=m)(h:Rq rb ts w):Calls prog 274 #[ptrV rb] w (AnsN rb 2 w ((choice lf).typ1 ts)):=by
 have HP:=hide (peek_any h)
 have HI:=hide (IsName_tok h.head w)
 cases hk:(tokKind (ts.headD [])==110)
 ·rw[hk]at HI
  have HC:=hide (p_closed hW ts w hm h)
  have hT:(choice lf).typ1 ts=(choice lf).need ((choice lf).closedO ts):=by rw[typ1_need];unfold G.kindOf;rw[hk];rfl
  have HT:=hide hT
  clear hW h hT hk
  generalize bs (ts.headD [])=bx at *
  go_enter func274,ntmps274
  go_wp2_with fail
  refine(HP.out).mono ?_;rintro e w1⟨rfl,rfl⟩
  go_wp2_with fail
  refine(HI.out).mono ?_;rintro e w1⟨rfl,rfl⟩
  go_wp2_with fail
  refine(HC.out).mono ?_;rintro e w2⟨hk2,⟨ho2,rfl⟩|⟨r2,ho2,rfl,hr2⟩|⟨t2,r2,b2,ho2,rfl,hm2,hr2⟩⟩
  ·have HQ:=hide (AnsN.no (c:=2) (o:=(choice lf).typ1 ts) hk2 (by rw[HT.out,ho2]<;>rfl))
   unfold gaveUp noForm
   go_wp2
   exact⟨rfl,HQ.out⟩
  ·have HQ:=hide (AnsN.no (c:=2) (o:=(choice lf).typ1 ts) hk2 (by rw[HT.out,ho2]<;>rfl))
   have HN:=hide (need_nil w2)
   go_wp2_with fail
   refine(HN.out).mono ?_;rintro e w3⟨rfl,rfl⟩
   unfold gaveUp noForm
   go_wp2
   exact⟨rfl,HQ.out⟩
  ·have HQ:=hide (AnsN.yes (c:=2) (o:=(choice lf).typ1 ts) hk2 (by rw[HT.out,ho2]<;>rfl) hm2 hr2)
   have HN:=hide (need_node b2 w2)
   go_wp2_with fail
   refine(HN.out).mono ?_;rintro e w3⟨rfl,rfl⟩
   unfold ptrV at *
   go_wp2
   go_ret
   exact HQ.out
 ·obtain⟨t,r,rfl⟩:=kind_cons (ts:=ts) (k:=110) (by decide) hk
  have hlt:=wt_kind_lt (ts:=t::r) (k:=110) (by decide) hk
  have HT:=hide (take_one h)
  have HS:=hide (fun(w1:World) (h1:Rq rb r w1)=>p_atypes hW r w1 (by have:(t::r).tail=r:=rfl;rw[this]at hlt;omega) h1)
  have hE:(choice lf).typ1 (t::r)=((choice lf).atypes r).bind fun l=>some (.mk K.named_ t l.1,l.2):=by rw[typ1_need];unfold G.kindOf;rw[hk];rfl
  have HE:=hide hE
  rw[hk]at HI
  rw[show (t::r).headD []=t from rfl]at HP HI
  clear hW h hk hE hlt
  go_enter func274,ntmps274
  go_wp2_with fail
  refine(HP.out).mono ?_;rintro e w1⟨rfl,rfl⟩
  go_wp2_with fail
  refine(HI.out).mono ?_;rintro e w1⟨rfl,rfl⟩
  go_wp2_with fail
  refine(HT.out).mono ?_;rintro e w1⟨rfl,hT⟩
  have hk1:=hT.out.1
  have HC:=hide (HS.out w1 hT.out.2)
  go_wp2_with fail
  refine(HC.out).mono ?_;rintro e w2⟨hk2,⟨ho2,rfl⟩|⟨l2,r2,v2,ps2,ho2,rfl,hv2,hm2,hr2⟩⟩
  ·have HQ:=hide (AnsN.no (c:=2) (o:=(choice lf).typ1 (t::r)) (hk1.to hk2) (by rw[HE.out,ho2]<;>rfl))
   unfold gaveUp noForm
   go_wp2
   exact⟨rfl,HQ.out⟩
  ·have HQ:=hide (AnsN.yes (c:=2) (o:=(choice lf).typ1 (t::r)) ((hk1.to hk2).alloc (.cells #[.int .i64 22,.string (bs t),v2] tyTree)) (by rw[HE.out,ho2]<;>rfl) (made_from (KindOf.named t ps2.length) (ownsRow_base hv2 hk1.size) (hm2.since hk1)) (hr2.alloc _))
   rcases ownsRow_forms hv2 with⟨rfl,hn0⟩|⟨g,cap,rfl⟩
   ·have HN:=hide (New_any 22 (bs t) none 0 0 w2)
    clear hv2 hm2
    go_wp2_with fail
    refine(HN.out).mono ?_;rintro e w3⟨rfl,rfl⟩
    go_wp2
    go_ret
    exact HQ.out
   ·have HN:=hide (New_any 22 (bs t) (some ⟨g,0,none⟩) ps2.length cap w2)
    clear hv2 hm2
    go_wp2_with fail
    refine(HN.out).mono ?_;rintro e w3⟨rfl,rfl⟩
    go_wp2
    go_ret
    exact HQ.out
def w1P(w:World)(b1:Nat)(k:Int)(s:ByteArray):World:=(w.alloc (.cells #[.pointer (some ⟨b1,0,none⟩)] tyTreeP)).alloc (.cells #[.int .i64 k,.string s,.slice (some ⟨w.heap.size,0,none⟩) 1 1] tyTree)
theorem node1{rb c:Nat}{w w1:World}{is name txt:List UInt8}{k:Int}{c1 b1:Nat}{t1:Tr}{r:Toks}{o:Option (Tr×Toks)}(hk:KindOf c is name k txt [c1])(h1:Kq rb w w1)(m1:Mem (From w) w1 c1 t1 b1)(hr:Rq rb r w1)(ho:o=some (.mk is name [t1],r)) :
  AnsN rb c w o (.returned (ptrV (w1.heap.size+1))) (w1P w1 b1 k (bs txt)):=by
 have hp:=ptr1 w1 b1
 have hm:=made_from (w:=w) (w1:=w1.alloc (.cells #[.pointer (some ⟨b1,0,none⟩)] tyTreeP)) hk (ownsRow_base hp h1.size) (.cons (m1.alloc _) .nil)
 have hz:(w1.alloc (.cells #[.pointer (some ⟨b1,0,none⟩)] tyTreeP)).heap.size=w1.heap.size+1:=by simp
 rw[hz]at hm
 exact AnsN.yes ((h1.alloc _).alloc _) ho hm ((hr.alloc _).alloc _)
theorem New1(w:World)(b1:Nat)(k:Int)(s:ByteArray):Calls prog 89 #[.int .i64 k,.string s,.slice (some ⟨w.heap.size,0,none⟩) 1 1] (w.alloc (.cells #[.pointer (some ⟨b1,0,none⟩)] tyTreeP)) fun e w'=>e=.returned (ptrV (w.heap.size+1))/\w'=w1P w b1 k s:=by
 have h:=New_any k s (some ⟨w.heap.size,0,none⟩) 1 1 (w.alloc (.cells #[.pointer (some ⟨b1,0,none⟩)] tyTreeP))
 have hz:(w.alloc (.cells #[.pointer (some ⟨b1,0,none⟩)] tyTreeP)).heap.size=w.heap.size+1:=by simp
 rw[hz]at h
 exact h
def w2P(w:World)(b1 b2:Nat)(k:Int)(s:ByteArray):World:=(w.alloc (.cells #[.pointer (some ⟨b1,0,none⟩),.pointer (some ⟨b2,0,none⟩)] tyTreeP)).alloc (.cells #[.int .i64 k,.string s,.slice (some ⟨w.heap.size,0,none⟩) 2 2] tyTree)
theorem node2{rb c:Nat}{w w1:World}{is name txt:List UInt8}{k:Int}{c1 c2 b1 b2:Nat}{t1 t2:Tr}{r:Toks}{o:Option (Tr×Toks)}(hk:KindOf c is name k txt [c1,c2])(h1:Kq rb w w1)(m1:Mem (From w) w1 c1 t1 b1)(m2:Mem (From w) w1 c2 t2 b2)(hr:Rq rb r w1)(ho:o=some (.mk is name [t1,t2],r)) :
  AnsN rb c w o (.returned (ptrV (w1.heap.size+1))) (w2P w1 b1 b2 k (bs txt)):=by
 have hp:=ptr2 w1 b1 b2
 have hm:=made_from (w:=w) (w1:=w1.alloc (.cells #[.pointer (some ⟨b1,0,none⟩),.pointer (some ⟨b2,0,none⟩)] tyTreeP)) hk (ownsRow_base hp h1.size) (.cons (m1.alloc _) (.cons (m2.alloc _) .nil))
 have hz:(w1.alloc (.cells #[.pointer (some ⟨b1,0,none⟩),.pointer (some ⟨b2,0,none⟩)] tyTreeP)).heap.size=w1.heap.size+1:=by simp
 rw[hz]at hm
 exact AnsN.yes ((h1.alloc _).alloc _) ho hm ((hr.alloc _).alloc _)
theorem New2(w:World)(b1 b2:Nat)(k:Int)(s:ByteArray):Calls prog 89 #[.int .i64 k,.string s,.slice (some ⟨w.heap.size,0,none⟩) 2 2] (w.alloc (.cells #[.pointer (some ⟨b1,0,none⟩),.pointer (some ⟨b2,0,none⟩)] tyTreeP)) fun e w'=>e=.returned (ptrV (w.heap.size+1))/\w'=w2P w b1 b2 k s:=by
 have h:=New_any k s (some ⟨w.heap.size,0,none⟩) 2 2 (w.alloc (.cells #[.pointer (some ⟨b1,0,none⟩),.pointer (some ⟨b2,0,none⟩)] tyTreeP))
 have hz:(w.alloc (.cells #[.pointer (some ⟨b1,0,none⟩),.pointer (some ⟨b2,0,none⟩)] tyTreeP)).heap.size=w.heap.size+1:=by simp
 rw[hz]at h
 exact h
def w3P(w:World)(b1 b2 b3:Nat)(k:Int)(s:ByteArray):World:=(w.alloc (.cells #[.pointer (some ⟨b1,0,none⟩),.pointer (some ⟨b2,0,none⟩),.pointer (some ⟨b3,0,none⟩)] tyTreeP)).alloc (.cells #[.int .i64 k,.string s,.slice (some ⟨w.heap.size,0,none⟩) 3 3] tyTree)
theorem node3{rb c:Nat}{w w1:World}{is name txt:List UInt8}{k:Int}{c1 c2 c3 b1 b2 b3:Nat}{t1 t2 t3:Tr}{r:Toks}{o:Option (Tr×Toks)}(hk:KindOf c is name k txt [c1,c2,c3])(h1:Kq rb w w1)(m1:Mem (From w) w1 c1 t1 b1)(m2:Mem (From w) w1 c2 t2 b2)(m3:Mem (From w) w1 c3 t3 b3)(hr:Rq rb r w1)(ho:o=some (.mk is name [t1,t2,t3],r)) :
  AnsN rb c w o (.returned (ptrV (w1.heap.size+1))) (w3P w1 b1 b2 b3 k (bs txt)):=by
 have hp:=ptr3 w1 b1 b2 b3
 have hm:=made_from (w:=w) (w1:=w1.alloc (.cells #[.pointer (some ⟨b1,0,none⟩),.pointer (some ⟨b2,0,none⟩),.pointer (some ⟨b3,0,none⟩)] tyTreeP)) hk (ownsRow_base hp h1.size) (.cons (m1.alloc _) (.cons (m2.alloc _) (.cons (m3.alloc _) .nil)))
 have hz:(w1.alloc (.cells #[.pointer (some ⟨b1,0,none⟩),.pointer (some ⟨b2,0,none⟩),.pointer (some ⟨b3,0,none⟩)] tyTreeP)).heap.size=w1.heap.size+1:=by simp
 rw[hz]at hm
 exact AnsN.yes ((h1.alloc _).alloc _) ho hm ((hr.alloc _).alloc _)
theorem New3(w:World)(b1 b2 b3:Nat)(k:Int)(s:ByteArray):Calls prog 89 #[.int .i64 k,.string s,.slice (some ⟨w.heap.size,0,none⟩) 3 3] (w.alloc (.cells #[.pointer (some ⟨b1,0,none⟩),.pointer (some ⟨b2,0,none⟩),.pointer (some ⟨b3,0,none⟩)] tyTreeP)) fun e w'=>e=.returned (ptrV (w.heap.size+1))/\w'=w3P w b1 b2 b3 k s:=by
 have h:=New_any k s (some ⟨w.heap.size,0,none⟩) 3 3 (w.alloc (.cells #[.pointer (some ⟨b1,0,none⟩),.pointer (some ⟨b2,0,none⟩),.pointer (some ⟨b3,0,none⟩)] tyTreeP))
 have hz:(w.alloc (.cells #[.pointer (some ⟨b1,0,none⟩),.pointer (some ⟨b2,0,none⟩),.pointer (some ⟨b3,0,none⟩)] tyTreeP)).heap.size=w.heap.size+1:=by simp
 rw[hz]at h
 exact h
theorem NewRow{w:World}{base n:Nat}{v:Value}{xs:List Value}(hv:w.ownsRow base tyTreeP 1 v n xs)(k:Int)(s:ByteArray):Calls prog 89 #[.int .i64 k,.string s,v] w fun e w'=>e=.returned (ptrV w.heap.size)/\w'=w.alloc (.cells #[.int .i64 k,.string s,v] tyTree):=by
 rcases ownsRow_forms hv with⟨rfl,_⟩|⟨g,cap,rfl⟩
 ·exact New_any k s none 0 0 w
 ·exact New_any k s _ _ _ w
theorem nodeRow{rb c c2:Nat}{w w1 w2:World}{is name txt:List UInt8}{k:Int}{l:List Tr}{ps:List Nat}{v:Value}{r:Toks}{o:Option (Tr×Toks)}(hk:KindOf c is name k txt (List.replicate ps.length c2))(h1:Kq rb w w1)(h2:Kq rb w1 w2)
  (hv:w2.ownsRow w1.heap.size tyTreeP 1 v ps.length (ps.map ptrV)) (hm:Mem.Mems (fun g=>w1.heap.size<=g/\v.ownBlock≠some g) w2 (List.replicate ps.length c2) l ps) (hr:Rq rb r w2) (ho:o=some (.mk is name l,r)) :
  AnsN rb c w o (.returned (ptrV w2.heap.size)) (w2.alloc (.cells #[.int .i64 k,.string (bs txt),v] tyTree)):=
 AnsN.yes ((h1.to h2).alloc _) ho (made_from hk (ownsRow_base hv h1.size) (hm.since h1)) (hr.alloc _)
theorem p_whole_step{rb m:Nat}(hW:∀ts w,wt ts<m->Rq rb ts w->WholeAt rb ts w)(ts:Toks)(w:World)(hm:wt ts<=m)(h:Rq rb ts w):WholeAt rb ts w:=by
 unfold WholeAt
 have H1:=hide (p_argument hW ts w hm h)
 have HA:=hide (fun(ts:Toks) (w:World) (h:Rq rb ts w)=>accept_w (x:=K.arrow_) bsK_arrow (by decide) h)
 have HW:=hide hW
 have HE:=hide ((choice lf).typ_eq ts)
 clear hW h
 go_enter func260,ntmps260
 go_wp2_with fail
 refine(H1.out).mono ?_;rintro e w1⟨hk1,⟨ho1,rfl⟩|⟨t1,r1,b1,ho1,rfl,hm1,hr1⟩⟩
 ·have HQ:=hide (AnsN.no (c:=2) (o:=(choice lf).typ ts) hk1 (by rw[HE.out,ho1]<;>rfl))
  unfold gaveUp noForm
  go_wp2
  exact⟨rfl,HQ.out⟩
 ·have hlt:=(choice lf).typ1_w ho1
  have hlt:mu t1+wt r1<=wt ts:=hlt
  have HB:=hide (HA.out r1 w1 hr1)
  go_wp2_with fail
  refine(HB.out).mono ?_;rintro e w2⟨hk2,⟨ho2,rfl,hr2⟩|⟨ho2,rfl,hr2⟩⟩
  ·have HQ:=hide (AnsN.yes (c:=2) (o:=(choice lf).typ ts) (hk1.to hk2) (by rw[HE.out,ho1,Option.bind_some];show (bif G.isW K.arrow_ r1 then _ else _)=_;rw[ho2]<;>rfl) (hm1.kq hr1 hk2) hr2)
   unfold ptrV at *
   go_wp2
   go_ret
   exact HQ.out
  ·have hlt2:=wt_isW_lt ho2
   have HC:=hide (HW.out r1.tail w2 (by omega) hr2)
   unfold WholeAt at HC
   go_wp2_with fail
   refine(HC.out).mono ?_;rintro e w3⟨hk3,⟨ho3,rfl⟩|⟨t3,r3,b3,ho3,rfl,hm3,hr3⟩⟩
   ·have HQ:=hide (AnsN.no (c:=2) (o:=(choice lf).typ ts) ((hk1.to hk2).to hk3) (by rw[HE.out,ho1,Option.bind_some];show (bif G.isW K.arrow_ r1 then _ else _)=_;rw[ho2,cond_true,ho3]<;>rfl))
    unfold gaveUp noForm
    go_wp2
    exact⟨rfl,HQ.out⟩
   ·have HQ:=hide (node2 (o:=(choice lf).typ ts) KindOf.arrow ((hk1.to hk2).to hk3) ((hm1.kq hr1 hk2).kq hr2 hk3) (hm3.since (hk1.to hk2)) hr3 (by rw[HE.out,ho1,Option.bind_some];show (bif G.isW K.arrow_ r1 then _ else _)=_;rw[ho2,cond_true,ho3]<;>rfl))
    have HN:=hide (New2 w3 b1 b3 23 ⟨#[]⟩)
    unfold ptrV at *
    go_wp2_with fail
    refine(HN.out).mono ?_;rintro e w4⟨rfl,rfl⟩
    go_wp2
    go_ret
    exact HQ.out
theorem p_whole{rb:Nat}:∀(m:Nat)(ts:Toks)(w:World),wt ts<=m->Rq rb ts w->WholeAt rb ts w:=by
 intro m
 induction m with
 |zero=>intro ts w hm h;exact p_whole_step (m:=0) (fun _ _ h=>absurd h (Nat.not_lt_zero _)) ts w hm h
 |succ m ih=>intro ts w hm h;exact p_whole_step (m:=m+1) (fun ts w h=>ih ts w (by omega)) ts w hm h
theorem p_atypes_all{rb:Nat}(ts:Toks)(w:World)(h:Rq rb ts w):Calls prog 122 #[.func (.func 173) #[ptrV rb] #[]] w (AnsS rb 2 w ((choice lf).atypes ts)):=
 p_atypes (m:=wt ts) (fun ts w _ h=>p_whole (wt ts) ts w (le_refl _) h) ts w (le_refl _) h
theorem p_variant{rb:Nat}(ts:Toks)(w:World)(h:Rq rb ts w):Calls prog 125 #[ptrV rb] w (AnsN rb 3 w ((choice lf).variant ts)):=by
 have HP:=hide (peek_any h)
 have HI:=hide (IsConstructor_tok h.head w)
 cases hk:(tokKind (ts.headD [])==99)
 ·have HQ:=hide (AnsN.no (c:=3) (o:=(choice lf).variant ts) (Kq.refl rb w) (by unfold LFam.variant G.kind G.kindOf;rw[hk]<;>rfl))
  rw[hk]at HI
  clear h hk
  generalize bs (ts.headD [])=bx at *
  go_enter func125,ntmps125
  go_wp2_with fail
  refine(HP.out).mono ?_;rintro e w1⟨rfl,rfl⟩
  go_wp2_with fail
  refine(HI.out).mono ?_;rintro e w1⟨rfl,rfl⟩
  go_wp2
  exact⟨rfl,HQ.out⟩
 ·obtain⟨t,r,rfl⟩:=kind_cons (ts:=ts) (k:=99) (by decide) hk
  have HT:=hide (take_one h)
  have HS:=hide (fun(w1:World) (h1:Rq rb r w1)=>p_atypes_all r w1 h1)
  have hE:(choice lf).variant (t::r)=((choice lf).atypes r).bind fun l=>some (.mk K.named_ t l.1,l.2):=by unfold LFam.variant G.kind G.kindOf;rw[hk]<;>rfl
  have HE:=hide hE
  rw[hk]at HI
  rw[show (t::r).headD []=t from rfl]at HP HI
  clear h hk hE
  go_enter func125,ntmps125
  go_wp2_with fail
  refine(HP.out).mono ?_;rintro e w1⟨rfl,rfl⟩
  go_wp2_with fail
  refine(HI.out).mono ?_;rintro e w1⟨rfl,rfl⟩
  go_wp2_with fail
  refine(HT.out).mono ?_;rintro e w1⟨rfl,hT⟩
  have hk1:=hT.out.1
  have HC:=hide (HS.out w1 hT.out.2)
  go_wp2_with fail
  refine(HC.out).mono ?_;rintro e w2⟨hk2,⟨ho2,rfl⟩|⟨l2,r2,v2,ps2,ho2,rfl,hv2,hm2,hr2⟩⟩
  ·have HQ:=hide (AnsN.no (c:=3) (o:=(choice lf).variant (t::r)) (hk1.to hk2) (by rw[HE.out,ho2]<;>rfl))
   unfold gaveUp noForm
   go_wp2
   exact⟨rfl,HQ.out⟩
  ·have HQ:=hide (nodeRow (o:=(choice lf).variant (t::r)) (KindOf.variant t ps2.length) hk1 hk2 hv2 hm2 hr2 (by rw[HE.out,ho2]<;>rfl))
   have HN:=hide (NewRow hv2 20 (bs t))
   clear hv2 hm2
   go_wp2_with fail
   refine(HN.out).mono ?_;rintro e w3⟨rfl,rfl⟩
   go_wp2
   go_ret
   exact HQ.out
theorem p_ownLetter{rb:Nat}(ts:Toks)(w:World)(h:Rq rb ts w):Calls prog 123 #[ptrV rb] w (AnsO rb 5 w ((choice lf).letterO 5 ts)):=by
 have HC:=hide (letter_any 5 19 (inr ⟨rfl,rfl⟩) h)
 clear h
 go_enter func123,ntmps123
 go_wp2_with fail
 refine(HC.out).mono ?_;intro e wz ha
 have HQ:=hide (id ha)
 rcases ha.ends with rfl|⟨v,rfl⟩
 ·unfold gaveUp noForm
  clear ha
  go_wp2
  exact⟨rfl,HQ.out⟩
 ·clear ha
  go_wp2
  go_ret
  exact HQ.out
theorem letterO_w(ts:Toks)(t:Tr)(r:Toks)(h:(choice lf).letterO 5 ts=some (some t,r)):wt r<wt ts:=by
 unfold LFam.letterO at h
 cases k2:(G.kindOf ts==108)
 ·rw[k2]at h;cases h
 ·rw[k2,cond_true]at h
  have h2:r=ts.tail:=(congrArg Prod.snd (Option.some.inj h)).symm
  rw[h2];exact wt_kind_lt (by decide) k2
theorem p_letters{rb:Nat}(ts:Toks)(w:World)(h:Rq rb ts w):Calls prog 122 #[.func (.func 123) #[ptrV rb] #[]] w (AnsS rb 5 w (some (G.letters (G.every 108 ts).1,(G.every 108 ts).2))):=
 several_any (M:=wt ts) letters_sev letterO_w (enters func123 (by kernel_rfl) rfl) (fun ts w _ h2=>p_ownLetter ts w h2) ts w (le_refl _) h
structure RowAt(rb:Nat)(w:World)(v:Value)(cs:List Nat)(acc:List Tr)(ps:List Nat)(ts:Toks)(wr:World):Prop where
 own:wr.ownsRow w.heap.size tyTreeP 1 v ps.length (ps.map ptrV)
 kq:Kq rb w wr
 rq:Rq rb ts wr
 mems:Mem.Mems (fun g=>w.heap.size<=g/\v.ownBlock≠some g) wr cs acc ps
section
variable {rb c:Nat}{w wr w1 w2:World}{v v':Value}{cs:List Nat}{acc:List Tr}{ps:List Nat}{ts r:Toks}
theorem RowAt.behind(h:RowAt rb w v cs acc ps ts wr)(hk:Kq rb wr w1)(hr:Rq rb r w1):RowAt rb w v cs acc ps r w1:=
 ⟨ownsRow_kept h.own fun _ _ _ _ he=>kq_other (by decide) h.rq.isR hk he,h.kq.to hk,hr,h.mems.kq h.rq hk⟩
theorem RowAt.apart(h:RowAt rb w v cs acc ps ts wr){t:Tr}{b:Nat}(hm:Mem (From wr) w1 c t b):Mem (fun g=>w.heap.size<=g/\v.ownBlock≠some g) w1 c t b:=
 hm.wide fun k hf _=>⟨le_trans h.kq.size hf,fun e=>by have:=(h.own.lt k e).2;have hf:wr.heap.size<=k:=hf;omega⟩
theorem RowAt.put(h:RowAt rb w v cs acc ps ts wr){t:Tr}{b:Nat}(hm:Mem (fun g=>w.heap.size<=g/\v.ownBlock≠some g) wr c t b){o:Obj}(hown:w2.ownsRow w.heap.size tyTreeP 1 v' (ps++[b]).length ((ps++[b]).map ptrV))(hg:(wr.alloc o).grownBy w2 v.ownBlock)
  (hl:∀g,v'.ownBlock=some g->v.ownBlock=some g\/wr.heap.size<g):RowAt rb w v' (cs++[c]) (acc++[t]) (ps++[b]) ts w2:=by
 have hv3:∀g,v.ownBlock=some g->w.heap.size<=g/\g<wr.heap.size:=fun g hg=>h.own.lt g hg
 have hkg:=(h.kq.alloc o).grownOwn hg (fun g hgg=>(hv3 g hgg).1)
 have hother:∀{k:Nat}{c:Array Value}{T:TypeId}{f:Nat×Nat},T≠tyTreeP->wr.heap[k]?=some (.cells c T f)->w2.heap[k]?=some (.cells c T f):=by
  intro k c T f hT he
  have hlt:=lt_of_heap he
  rw[hg.block k (by simp;omega) (fun e=>?_),Below.heap_alloc _ _ _ hlt]
  ·exact he
  ·rcases h.own.2 with⟨rfl,_⟩|⟨g2,cap,cur,rfl,_,hgg,_⟩
   ·simp[Value.ownBlock]at e
   ·have e:k=g2:=by simpa [Value.ownBlock]using e
    subst e
    rw[he]at hgg;simp at hgg
    exact hT hgg.2.1
 refine⟨hown,hkg,?_,?_⟩
 ·obtain⟨tb,o1,cap,cs1,hb,ht,r1⟩:=h.rq.own
  exact⟨h.rq.len,h.rq.toks,tb,o1,cap,cs1,hother (by decide) hb,hother (by decide) ht,r1⟩
 ·have hA2:=((h.mems.append (.cons hm .nil)).wide (A':=fun g=>w.heap.size<=g/\v.ownBlock≠some g/\g<wr.heap.size) (fun k hk hlt=>⟨hk.1,hk.2,hlt⟩)).alloc o
  have hA3:=Mem.Mems.grown (h.own.alloc o) hg (fun g hA=>hA.2.1) hA2
  refine hA3.wide (fun k hk _=>⟨hk.1,fun e=>?_⟩)
  rcases hl k e with h|h
  ·exact hk.2.1 h
  ·have:=hk.2.2;omega
theorem RowAt.node(h:RowAt rb w v cs acc ps ts wr){is name txt:List UInt8}{k:Int}{o:Option (Tr×Toks)}(hk:KindOf c is name k txt cs)(ho:o=some (.mk is name acc,ts)) :
  AnsN rb c w o (.returned (ptrV wr.heap.size)) (wr.alloc (.cells #[.int .i64 k,.string (bs txt),v] tyTree)):=
 AnsN.yes (h.kq.alloc _) ho (made_from hk h.own (h.mems.wide fun _ hf _=>hf.1)) (h.rq.alloc _)
end
def LFam.restV(L:LFam)(ts:Toks):Option (List Tr×Toks):=bif G.isW K.bar_ ts then L.variants ts.tail else some ([],ts)
theorem variants_rest(ts:Toks):(choice lf).variants ts=((choice lf).variant ts).bind fun q=>((choice lf).restV q.2).bind fun v=>some (q.1::v.1,v.2):=by
 rw[(choice lf).variants_eq]
 congr 1
 funext q
 unfold LFam.restV
 cases G.isW K.bar_ q.2<;>rfl
def LFam.typeD(L:LFam)(ts:Toks):Option (Tr×Toks):=(G.kind 110 ts).bind fun nm=>(G.want K.eq_ (G.every 108 nm.2).2).bind fun r=>(L.variants r).bind fun v=>some (Tr.mk K.type_ nm.1 (G.letters (G.every 108 nm.2).1++v.1),v.2)
theorem len_wt:∀l:Toks,l.length<=wt l:=by
 intro l
 induction l with
 |nil=>exact le_refl _
 |cons a r ih=>rw[wt,length_cons];omega
theorem variant_wt{ts:Toks}{q:Tr×Toks}(h:(choice lf).variant ts=some q):wt q.2<wt ts:=by
 unfold LFam.variant at h
 simp only[bind_eq_some_iff]at h
 obtain⟨c,hc,l,hl,h⟩:=h
 rw[<- Option.some.inj h]
 have h1:=wt_kindO (by decide) hc
 have h2:=(choice lf).atypes_w hl
 show wt l.2 < _
 omega
def TypeAt(rb:Nat)(w:World)(ts:Toks)(x:List UInt8)(n:Nat)(gk:Nat)(v:Value)(wr:World):Prop:=
 ∃k acc ps ts1,RowAt rb w v (List.replicate n 5++List.replicate k 3) acc ps ts1 wr/\gk=wt ts1/\ps.length+wt ts1<=wt ts/\(choice lf).typeD ts=((choice lf).restV ts1).bind fun v=>some (.mk K.type_ x (acc++v.1),v.2)
theorem p_typeDeclaration{rb:Nat}(ts:Toks)(w:World)(h:Rq rb ts w):Calls prog 87 #[ptrV rb] w (AnsN rb 4 w ((choice lf).typeD ts)):=by
 have hwt:=h.wt_le
 have H1:=hide (name_any h)
 have HL:=hide (fun(ts:Toks) (w:World) (h:Rq rb ts w)=>p_letters ts w h)
 have HX:=hide (fun(ts:Toks) (w:World) (h:Rq rb ts w)=>expect_w (x:=K.eq_) bsK_eq (by decide) h)
 have HA:=hide (fun(ts:Toks) (w:World) (h:Rq rb ts w)=>accept_w (x:=K.bar_) bsK_bar (by decide) h)
 have HV:=hide (fun(ts:Toks) (w:World) (h:Rq rb ts w)=>p_variant ts w h)
 clear h
 go_enter func87,ntmps87
 go_wp2_with fail
 refine(H1.out).mono ?_;rintro e w1⟨hk1,⟨ho1,rfl⟩|⟨x1,r1,ho1,rfl,hr1⟩⟩
 ·have HQ:=hide (AnsN.no (c:=4) (o:=(choice lf).typeD ts) hk1 (by unfold LFam.typeD;rw[ho1]<;>rfl))
  unfold gaveUp noForm
  go_wp2
  exact⟨rfl,HQ.out⟩
 ·have hq1:=wt_kindO (by decide) ho1
  have hq1:wt ts=x1.length+20+wt r1:=hq1
  have hq2:=wt_every 108 r1
  have hq3:=len_wt (G.every 108 r1).1
  have HC:=hide (HL.out r1 w1 hr1)
  go_wp2_with fail
  refine(HC.out).mono ?_;rintro e w2⟨hk2,⟨ho2,_⟩|⟨l2,r2,v2,ps2,ho2,rfl,hv2,hm2,hr2⟩⟩
  ·cases ho2
  ·have hl2:G.letters (G.every 108 r1).1=l2:=congrArg Prod.fst (Option.some.inj ho2)
   have hr2e:(G.every 108 r1).2=r2:=congrArg Prod.snd (Option.some.inj ho2)
   have hlen:=hm2.length.2
   have hlen2:ps2.length=(G.every 108 r1).1.length:=by rw[hlen,<- hl2];simp[G.letters]
   have hle2:ps2.length<=wt (G.every 108 r1).1:=by omega
   clear hlen hlen2
   have hRow:RowAt rb w v2 (List.replicate ps2.length 5) l2 ps2 r2 w2:=⟨ownsRow_base hv2 hk1.size,hk1.to hk2,hr2,hm2.wide fun k hf _=>⟨le_trans hk1.size hf.1,hf.2⟩⟩
   rw[hr2e]at hq2
   have HC:=hide (HX.out r2 w2 hr2)
   have HRow:=hide hRow
   clear hv2 hm2 hr2 hRow
   go_wp2_with fail
   refine(HC.out).mono ?_;rintro e w3⟨hk3,⟨ho3,rfl⟩|⟨r3,ho3,rfl,hr3⟩⟩
   ·have HQ:=hide (AnsN.no (c:=4) (o:=(choice lf).typeD ts) ((hk1.to hk2).to hk3) (by unfold LFam.typeD;rw[ho1,Option.bind_some,hr2e,ho3]<;>rfl))
    unfold gaveUp noForm
    go_wp2
    exact⟨rfl,HQ.out⟩
   ·have hq4:=wt_want ho3
    have hRow3:=HRow.out.behind hk3 hr3
    have HC:=hide (HV.out r3 w3 hr3)
    go_wp2_with fail
    refine(HC.out).mono ?_;rintro e w4⟨hk4,⟨ho4,rfl⟩|⟨t4,r4,b4,ho4,rfl,hm4,hr4⟩⟩
    ·have HQ:=hide (AnsN.no (c:=4) (o:=(choice lf).typeD ts) (((hk1.to hk2).to hk3).to hk4) (by unfold LFam.typeD;rw[ho1,Option.bind_some,hr2e,ho3,Option.bind_some,variants_rest,ho4]<;>rfl))
     unfold gaveUp noForm
     go_wp2
     exact⟨rfl,HQ.out⟩
    ·have hq5:wt r4<wt r3:=variant_wt ho4
     have hRow4:=hRow3.behind hk4 hr4
     have hm4':=hRow3.apart hm4
     have hps:ps2.length<=100000000:=by omega
     have hbs:w.heap.size<=w4.heap.size:=hRow4.kq.size
     have hE:(choice lf).typeD ts=((choice lf).restV r4).bind fun v=>some (.mk K.type_ x1 ((l2++[t4])++v.1),v.2):=by
      unfold LFam.typeD
      rw[ho1,Option.bind_some,hr2e,ho3,Option.bind_some,variants_rest,ho4,Option.bind_some,hl2,Option.bind_assoc]
      congr 1
      funext z
      simp
     have HE:=hide hE
     have HM:=hide hm4'
     have HR4:=hide hRow4
     have hown:=hRow4.own
     clear hRow3 hRow4 hm4 hm4' hE HRow hr3 hr4 ho1 ho2 ho3 ho4 hk1 hk2 hk3 hk4 hl2 hr2e
     unfold ptrV at *
     go_wp2_with (at_builtin;refine append_ptr rfl _ _ rfl b4 hown hps hbs rfl rfl ?_)
     intro v5 w5 hown5 hgr HLt
     have hown6:w5.ownsRow w.heap.size tyTreeP 1 v5 (ps2++[b4]).length ((ps2++[b4]).map ptrV):=by
      rw[length_append,map_append];exact hown5
     have hRow5:=HR4.out.put HM.out hown6 hgr HLt.out
     have hAt:TypeAt rb w ts x1 ps2.length (wt r4) v5 w5:=⟨1,_,_,r4,hRow5,rfl,by simp;omega,HE.out⟩
     have HAt:=hide hAt
     clear hown hown5 hown6 hgr HLt hRow5 HR4 HM HE hAt hq1 hq2 hq3 hq4 hq5 hle2 hps
     generalize ps2.length=n at *
     go_wp2_with fail
     go_loopg [4] (wt r4) (fun gk v wr=>Hid (TypeAt rb w ts x1 n gk v wr))
     case atStart=>exact HAt
     case round=>
      clear HAt
      obtain⟨k,acc,ps,ts1,hRow,rfl,hle,hE⟩:=hrel.out
      have HC:=hide (HA.out ts1 wr hRow.rq)
      have HRow:=hide hRow
      have HE:=hide hE
      have hbs2:w.heap.size<=wr.heap.size:=hRow.kq.size
      clear hrel hRow hE
      go_wp2_with fail
      refine(HC.out).mono ?_;rintro e w7⟨hk7,⟨ho7,rfl,hr7⟩|⟨ho7,rfl,hr7⟩⟩
      ·have hRow7:=HRow.out.behind hk7 hr7
       have HQ:=hide (hRow7.node (o:=(choice lf).typeD ts) (KindOf.type_ x1 n k) (by rw[HE.out];unfold LFam.restV;rw[ho7,cond_false,Option.bind_some,append_nil]))
       have HN:=hide (NewRow hRow7.own 18 (bs x1))
       clear hRow7 HRow HE hr7 hk7 ho7
       go_wp2_with fail
       refine(HN.out).mono ?_;rintro e w8⟨rfl,rfl⟩
       go_wp2
       go_ret
       exact HQ.out
      ·have hRow7:=HRow.out.behind hk7 hr7
       have hq7:=wt_isW_lt ho7
       have HC:=hide (HV.out ts1.tail w7 hr7)
       have HRow7:=hide hRow7
       clear hRow7 HRow
       go_wp2_with fail
       refine(HC.out).mono ?_;rintro e w8⟨hk8,⟨ho8,rfl⟩|⟨t8,r8,b8,ho8,rfl,hm8,hr8⟩⟩
       ·have HQ:=hide (AnsN.no (c:=4) (o:=(choice lf).typeD ts) (HRow7.out.kq.to hk8) (by rw[HE.out];unfold LFam.restV;rw[ho7,cond_true,variants_rest,ho8]<;>rfl))
        unfold gaveUp noForm
        go_wp2
        exact⟨rfl,HQ.out⟩
       ·have hq8:wt r8<wt ts1.tail:=variant_wt ho8
        have hRow8:=HRow7.out.behind hk8 hr8
        have hm8':=HRow7.out.apart hm8
        have hps8:ps.length<=100000000:=by omega
        have hbs8:w.heap.size<=w8.heap.size:=hRow8.kq.size
        have hE8:(choice lf).typeD ts=((choice lf).restV r8).bind fun v=>some (.mk K.type_ x1 ((acc++[t8])++v.1),v.2):=by
         rw[HE.out]
         unfold LFam.restV
         rw[ho7,cond_true,variants_rest,ho8,Option.bind_some,Option.bind_assoc]
         congr 1
         funext z
         simp
        have hcs:(List.replicate n 5++List.replicate k 3)++[3]=List.replicate n 5++List.replicate (k+1) 3:=by rw[append_assoc,List.replicate_succ']
        have HE8:=hide hE8
        have HM8:=hide hm8'
        have HR8:=hide hRow8
        have hown8:=hRow8.own
        clear hRow8 hm8 hm8' hE8 HRow7 HE hr7 hr8 ho7 ho8 hk7 hk8
        unfold ptrV at *
        go_wp2_with (at_builtin;refine append_ptr rfl _ _ rfl b8 hown8 hps8 hbs8 rfl rfl ?_)
        intro v9 w9 hown9 hgr9 HLt9
        have hown10:w9.ownsRow w.heap.size tyTreeP 1 v9 (ps++[b8]).length ((ps++[b8]).map ptrV):=by
         rw[length_append,map_append];exact hown9
        have hRow9:=HR8.out.put HM8.out hown10 hgr9 HLt9.out
        rw[hcs]at hRow9
        have hAt:TypeAt rb w ts x1 n (wt r8) v9 w9:=⟨k+1,_,_,r8,hRow9,rfl,by simp;omega,HE8.out⟩
        have HAt:=hide hAt
        clear hown8 hown9 hown10 hgr9 HLt9 hRow9 HR8 HM8 HE8 hAt hcs
        go_wp2_with fail
        go_roundg (wt r8)
        case rel=>exact HAt
        case measure=>omega
end Go.Proofs.YtbkiipiocpnnnaaGreatDoor
