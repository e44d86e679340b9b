import Derived.Test.YtcbppnefeonmgaaGreatDoorC34
set_option linter.all false
set_option maxHeartbeats 40000000
set_option maxRecDepth 100000
open Go.Proofs.Tryz
open Classical (choice)
open Option (bind_eq_some_iff)
open Nat (le_refl zero_le)
open List (mem_cons)
namespace Go.Proofs.YtcbppnefeonmgaaGreatDoor
open Go.RowKit
theorem p_atom_step{rb m:Nat}(hX:Below_ rb m)(ts:Toks)(w:World)(hm:wt ts<=m)(h:Rq rb ts w):AtomAt rb ts w:=by
 unfold AtomAt
 have H1:=hide (accept_w (x:=K.open_) bsK_open (by decide) h)
 have HA:=hide (fun(ts:Toks) (w:World) (h:Rq rb ts w)=>accept_w (x:=K.bang_) bsK_bang (by decide) h)
 have HA2:=hide (fun(ts:Toks) (w:World) (h:Rq rb ts w)=>accept_w (x:=K.match_) bsK_match (by decide) h)
 have HL:=hide (fun(w:World) (h:Rq rb ts w)=>p_plain 0 (zero_le _) ts w h)
 have HB:=hide (fun(hlt:wt ts.tail<m) (w:World) (h:Rq rb ts.tail w)=>p_inBrackets (M:=wt ts.tail) (zero_le 1) Enters.expression (fun ts2 w2 h1 h2=>(hX ts2 w2 (by omega) h2).1) ts.tail w (le_refl _) h)
 have HR:=hide (fun(hlt:wt ts.tail<m) (w:World) (h:Rq rb ts.tail w)=>(hX ts.tail w hlt h).2)
 have HM:=hide (fun(hlt:wt ts.tail<m) (w:World) (h:Rq rb ts.tail w)=>p_match hX ts.tail w hlt h)
 have HE:=hide (atom_prog ts)
 have hmf:∀(fn:Fn)(first cap:Array Value)(w:World),(Instr.makeFunc fn first cap).run prog w=.ok (.func fn first cap) w:=fun _ _ _ _=>rfl
 unfold AtomAt at HR
 clear hX h
 go_enter func223,ntmps223
 go_wp2_with fail
 refine(H1.out).mono ?_;rintro e w1⟨hk1,⟨ho1,rfl,hr1⟩|⟨ho1,rfl,hr1⟩⟩
 ·have HC:=hide (HA.out ts w1 hr1)
  go_wp2_with fail
  refine(HC.out).mono ?_;rintro e w2⟨hk2,⟨ho2,rfl,hr2⟩|⟨ho2,rfl,hr2⟩⟩
  ·have HC:=hide (HA2.out ts w2 hr2)
   go_wp2_with fail
   refine(HC.out).mono ?_;rintro e w3⟨hk3,⟨ho3,rfl,hr3⟩|⟨ho3,rfl,hr3⟩⟩
   ·have HD:=hide (HL.out w3 hr3)
    go_wp2_with fail
    refine(HD.out).mono ?_;intro e wz ha
    have HQ:=hide (AnsO.as (o':=(choice lf).atom ts) ((hk1.to hk2).to hk3) (by rw[HE.out,ho1,ho2,ho3]<;>rfl) ha)
    rcases ha.ends with rfl|⟨v,rfl⟩
    ·unfold gaveUp noForm
     clear ha
     go_wp2
     exact⟨rfl,HQ.out⟩
    ·clear ha
     go_wp2
     go_ret
     exact HQ.out
   ·have hlt:=wt_isW_lt ho3
    have HD:=hide (HM.out (by omega) w3 hr3)
    go_wp2_with fail
    refine(HD.out).mono ?_;intro e wz ha
    have HQ:=hide ((fun(z:AnsN rb 0 w3 ((choice lf).matches_ ts.tail) _ _)=>AnsO.as (o':=(choice lf).atom ts) ((hk1.to hk2).to hk3) (by rw[HE.out,ho1,ho2,ho3]<;>rfl) z.there) ha)
    rcases ha.ends with rfl|⟨v,rfl⟩
    ·unfold gaveUp noForm
     clear ha
     go_wp2
     exact⟨rfl,HQ.out⟩
    ·clear ha
     go_wp2
     go_ret
     exact HQ.out
  ·have hlt:=wt_isW_lt ho2
   have HC:=hide (HR.out (by omega) w2 hr2)
   go_wp2_with fail
   refine(HC.out).mono ?_;rintro e w3⟨hk3,⟨ho3,rfl⟩|⟨r3,ho3,rfl,hr3⟩|⟨t3,r3,b3,ho3,rfl,hm3,hr3⟩⟩
   ·have HQ:=hide (AnsO.no (c:=0) (o:=(choice lf).atom ts) ((hk1.to hk2).to hk3) (by rw[HE.out,ho1,ho2,cond_false,cond_true,ho3]<;>rfl))
    unfold gaveUp noForm
    go_wp2
    exact⟨rfl,HQ.out⟩
   ·have HQ:=hide (AnsO.no (c:=0) (o:=(choice lf).atom ts) ((hk1.to hk2).to hk3) (by rw[HE.out,ho1,ho2,cond_false,cond_true,ho3]<;>rfl))
    have HN:=hide (need_nil w3)
    go_wp2_with fail
    refine(HN.out).mono ?_;rintro e w4⟨rfl,rfl⟩
    unfold gaveUp noForm
    go_wp2
    exact⟨rfl,HQ.out⟩
   ·have HQ:=hide (AnsO.as (o':=(choice lf).atom ts) (Kq.refl rb w) (by rw[HE.out,ho1,ho2,cond_false,cond_true,ho3]<;>rfl) (AnsN.there (node1 (o:=some (Tr.mk K.bang_ [] [t3],r3)) KindOf.fetch ((hk1.to hk2).to hk3) (hm3.since (hk1.to hk2)) hr3 rfl)))
    have HN:=hide (need_node b3 w3)
    go_wp2_with fail
    refine(HN.out).mono ?_;rintro e w4⟨rfl,rfl⟩
    have HN2:=hide (New1 w4 b3 12 ⟨#[]⟩)
    unfold ptrV at *
    go_wp2_with fail
    refine(HN2.out).mono ?_;rintro e w5⟨rfl,rfl⟩
    go_wp2
    go_ret
    exact HQ.out
 ·have hlt:=wt_isW_lt ho1
  have HC:=hide (HB.out (by omega) w1 hr1)
  go_wp2_with fail
  refine(HC.out).mono ?_;intro e wz ha
  have HQ:=hide ((fun(z:AnsN rb 0 w1 ((choice lf).inB (choice lf).expr ts.tail) _ _)=>AnsO.as (o':=(choice lf).atom ts) hk1 (by rw[HE.out,ho1]<;>rfl) z.there) ha)
  rcases ha.ends with rfl|⟨v,rfl⟩
  ·unfold gaveUp noForm
   clear ha
   go_wp2
   exact⟨rfl,HQ.out⟩
  ·clear ha
   go_wp2
   go_ret
   exact HQ.out
theorem p_atoms{rb m:Nat}(hX:Below_ rb m)(ts:Toks)(w:World)(hm:wt ts<=m)(h:Rq rb ts w):Calls prog 96 #[.func (.func 223) #[ptrV rb] #[]] w (AnsS rb 0 w ((choice lf).atoms ts)):=
 several_any (choice lf).atoms_eq atom_wt Enters.atom (fun ts w h1 h2=>p_atom_step hX ts w h1 h2) ts w hm h
def AppAt(rb:Nat)(w:World)(l:List Tr)(ps:List Nat)(v20:Value)(f0:Tr)(r:Toks)(i:Nat)(v:Value)(wr:World):Prop:=
 ∃b t,v=ptrV b/\i<=ps.length/\Mem (From w) wr 0 t b/\Rq rb r wr/\Kq rb w wr/\wr.ownsRow 0 tyTreeP 1 v20 ps.length (ps.map ptrV)/\Mem.Mems (From w) wr (List.replicate ps.length 0) l ps/\G.apps (l.drop i) t=G.apps l f0
theorem mems_at{A:Nat->Prop}{w:World}:∀{cs:List Nat}{l:List Tr}{ps:List Nat}{i:Nat},Mem.Mems A w cs l ps->i<ps.length->∃t b,l[i]?=some t/\ps[i]?=some b/\∃c,cs[i]?=some c/\Mem A w c t b:=by
 intro cs
 induction cs with
 |nil=>intro l ps i h hi;obtain⟨rfl,rfl⟩:=h.unnil;simp at hi
 |cons c cs ih=>
  intro l ps i h hi
  obtain⟨t0,r0,b0,br,rfl,rfl,h,hr⟩:=h.uncons
  cases i with
  |zero=>exact⟨_,_,rfl,rfl,c,rfl,h⟩
  |succ i=>
   obtain⟨t,b,h1,h2,c2,h3,h4⟩:=ih hr (by simpa using hi)
   exact⟨t,b,by simpa using h1,by simpa using h2,c2,by simpa using h3,h4⟩
theorem p_application{rb m:Nat}(hX:Below_ rb m)(ts:Toks)(w:World)(hm:wt ts<=m)(h:Rq rb ts w):Calls prog 208 #[ptrV rb] w (AnsN rb 0 w ((choice lf).app ts)):=by
 have HP:=hide (peek_any h)
 have HI:=hide (IsConstructor_tok h.head w)
 have hwt:=h.wt_le
 have hmf:∀(fn:Fn)(first cap:Array Value)(w:World),(Instr.makeFunc fn first cap).run prog w=.ok (.func fn first cap) w:=fun _ _ _ _=>rfl
 cases hk:(tokKind (ts.headD [])==99)
 ·rw[hk]at HI
  have HC:=hide (p_atom_step hX ts w hm h)
  unfold AtomAt at HC
  have HS:=hide (fun(ts:Toks) (w:World) (hm:wt ts<=m) (h:Rq rb ts w)=>p_atoms hX ts w hm h)
  have hT:(choice lf).app ts=((choice lf).need ((choice lf).atom ts)).bind fun a=>((choice lf).atoms a.2).bind fun l=>some (G.apps l.1 a.1,l.2):=by rw[app_prog];unfold G.kindOf;rw[hk]<;>rfl
  have HT:=hide hT
  clear hX h hT hk
  generalize bs (ts.headD [])=bx at *
  go_enter func208,ntmps208
  go_wp2_with fail
  refine(HP.out).mono ?_;rintro e w1⟨rfl,hw⟩
  rw[hw];clear hw w1
  go_wp2_with fail
  refine(HI.out).mono ?_;rintro e w1⟨rfl,hw⟩
  rw[hw];clear hw w1
  go_wp2_with fail
  refine(HC.out).mono ?_;rintro e w2⟨hk2,⟨ho2,rfl⟩|⟨r2,ho2,rfl,hr2⟩|⟨t2,r2,b2,ho2,rfl,hm2,hr2⟩⟩
  ·have HQ:=hide (AnsN.no (c:=0) (o:=(choice lf).app ts) hk2 (by rw[HT.out,ho2]<;>rfl))
   unfold gaveUp noForm
   go_wp2
   exact⟨rfl,HQ.out⟩
  ·have HQ:=hide (AnsN.no (c:=0) (o:=(choice lf).app ts) hk2 (by rw[HT.out,ho2]<;>rfl))
   have HN:=hide (need_nil w2)
   go_wp2_with fail
   refine(HN.out).mono ?_;rintro e w3⟨rfl,rfl⟩
   unfold gaveUp noForm
   go_wp2
   exact⟨rfl,HQ.out⟩
  ·have hE:(choice lf).app ts=((choice lf).atoms r2).bind fun l=>some (G.apps l.1 t2,l.2):=by rw[HT.out,ho2]<;>rfl
   have hlt:wt r2<wt ts:=atom_wt _ _ _ ho2
   have HN:=hide (need_node b2 w2)
   have HE:=hide hE
   clear hE HT ho2
   go_wp2_with fail
   refine(HN.out).mono ?_;rintro e w3⟨rfl,rfl⟩
   have HC2:=hide (HS.out r2 w3 (by omega) hr2)
   go_wp2_with fail
   refine(HC2.out).mono ?_;rintro e w4⟨hk4,⟨ho4,rfl⟩|⟨l4,r4,v4,ps4,ho4,rfl,hv4,hm4,hr4⟩⟩
   ·have HQ:=hide (AnsN.no (c:=0) (o:=(choice lf).app ts) (hk2.to hk4) (by rw[HE.out,ho4]<;>rfl))
    unfold gaveUp noForm
    go_wp2
    exact⟨rfl,HQ.out⟩
   ·have hfin:(choice lf).app ts=some (G.apps l4 t2,r4):=by rw[HE.out,ho4]<;>rfl
    have hq4:=(choice lf).atoms_w ho4
    have hpl:=hm4.length.2
    have hps:ps4.length<=16080000:=by
     have h1:mus l4+9*l4.length+wt r4<=wt r2:=hq4
     omega
    have hAt:AppAt rb w l4 ps4 v4 t2 r4 0 (ptrV b2) w4:=⟨b2,t2,rfl,zero_le _,hm2.kq hr2 hk4,hr4,hk2.to hk4,ownsRow_base hv4 (zero_le _),hm4.since hk2,rfl⟩
    have HAt:=hide hAt
    have HFIN:=hide hfin
    have HPL:=hide hpl
    rcases ownsRow_forms hv4 with⟨rfl,hn0⟩|⟨g,cap,rfl⟩
    ·have HQ:=hide (show AnsN rb 0 w ((choice lf).app ts) (.returned (ptrV b2)) w4 by
      obtain⟨b,t,h1,h2,h3,h4,h5,h6,h7,h8⟩:=hAt
      have hb:b2=b:=by simpa [ptrV]using h1
      subst hb
      have hl0:l4=[]:=List.length_eq_zero_iff.1 (by omega)
      subst hl0
      have:t=t2:=h8
      subst this
      exact AnsN.yes h5 hfin h3 h4)
     clear HAt HFIN HPL hAt hfin hpl hq4 hv4 hm4 hm2 hr2 hr4 HC HC2 HS HE
     unfold ptrV at *
     go_wp2_with fail
     refine wp_loop_rounds 1 ?_
     rw[rounds_succ]
     go_wp2
     go_ret
     exact HQ.out
    ·clear hAt hfin hpl hq4 hv4 hm4 hm2 hr2 hr4 HC HC2 HS HE HN HP HI hk2 hk4 ho4
     generalize hpn:ps4.length=pn at *
     go_wp2_with fail
     go_loopg [3,22] pn (fun gk v3 v22 wr=>∃i,v22=.int .i64 (i:Nat)/\i+gk=pn/\Hid (AppAt rb w l4 ps4 (.slice (some ⟨g,0,none⟩) pn cap) t2 r4 i v3 wr))
     case atStart=>exact⟨0,rfl,by omega,HAt⟩
     case round=>
      clear HAt
      obtain⟨i,rfl,hi,HAT⟩:=hrel
      obtain⟨b,t,rfl,h2,h3,h4,h5,h6,h7,h8⟩:=HAT.out
      clear HAT
      by_cases hlt2:i<pn
      ·obtain⟨ta,ba,e1,e2,c,e3,e4⟩:=mems_at h7 (i:=i) (by omega)
       have hc0:c=0:=by
        have:=List.mem_replicate.1 (List.mem_of_getElem? e3);exact this.2
       subst hc0
       have hcell:wr.cell? ⟨g,i,none⟩=some (.pointer (some ⟨ba,0,none⟩)):=by
        rw[hpn]at h6
        have:=h6.cellAt i (by omega)
        rw[this,List.getElem?_map,e2];rfl
       have hgl:=(h6.lt g rfl).2
       have hdrop:l4.drop i=ta::l4.drop (i+1):=by
        have hil:i<l4.length:=by have:=HPL.out;omega
        rw[List.drop_eq_getElem_cons hil]
        congr 1
        rw[List.getElem?_eq_getElem hil]at e1;exact Option.some.inj e1
       have hnode:=node2 (o:=some (Tr.mk K.app_ [] [t,ta],r4)) KindOf.app h5 h3 e4 h4 rfl
       have HN2:=hide (New2 wr b ba 13 ⟨#[]⟩)
       have hnext:AppAt rb w l4 ps4 (.slice (some ⟨g,0,none⟩) pn cap) t2 r4 (i+1) (ptrV (wr.heap.size+1)) (w2P wr b ba 13 ⟨#[]⟩):=by
        obtain⟨_,⟨hno,_⟩|⟨t9,r9,b9,ho9,he9,hm9,hr9⟩⟩:=hnode
        ·cases hno
        ·have hz:=Option.some.inj ho9
         have hz1:t9=.mk K.app_ [] [t,ta]:=(congrArg Prod.fst hz).symm
         have hz2:r9=r4:=(congrArg Prod.snd hz).symm
         have hz3:wr.heap.size+1=b9:=by simpa [ptrV]using he9
         subst hz1
         subst hz2
         subst hz3
         refine⟨_,_,rfl,by omega,hm9,hr9,(h5.alloc _).alloc _,(h6.alloc _).alloc _,(h7.alloc _).alloc _,?_⟩
         rw[<- h8,hdrop,G.apps]
       have HNX:=hide hnext
       have hlt3:(i:Int)<(pn:Int):=by omega
       have hpn2:pn<=16080000:=hps
       clear h3 h4 h5 h6 h7 h8 e1 e2 e3 e4 hnode hnext hdrop
       unfold ptrV at *
       go_wp2_with fail
       refine(HN2.out).mono ?_;rintro e w9⟨rfl,rfl⟩
       go_wp2_with fail
       go_roundg (pn-(i+1))
       case rel=>exact⟨i+1,by simp,by omega,HNX⟩
       case measure=>omega
      ·have hQ:AnsN rb 0 w ((choice lf).app ts) (.returned (ptrV b)) wr:=by
        have hl0:l4.drop i=[]:=List.drop_of_length_le (by have:=HPL.out;omega)
        rw[hl0]at h8
        have:t=G.apps l4 t2:=h8
        subst this
        exact AnsN.yes h5 HFIN.out h3 h4
       have HQ:=hide hQ
       have hlt3:¬(i:Int)<(pn:Int):=by omega
       clear h3 h4 h5 h6 h7 h8 hQ
       unfold ptrV at *
       go_wp2
       go_ret
       exact HQ.out
 ·obtain⟨t,r,rfl⟩:=kind_cons (ts:=ts) (k:=99) (by decide) hk
  have hlt:=wt_kind_lt (ts:=t::r) (k:=99) (by decide) hk
  have HT:=hide (take_one h)
  have HS:=hide (fun(w1:World) (h1:Rq rb r w1)=>p_atoms hX r w1 (by have:(t::r).tail=r:=rfl;rw[this]at hlt;omega) h1)
  have hE:(choice lf).app (t::r)=((choice lf).atoms r).bind fun l=>some (.mk K.con_ t l.1,l.2):=by rw[app_prog];unfold G.kindOf;rw[hk]<;>rfl
  have HE:=hide hE
  rw[hk]at HI
  rw[show (t::r).headD []=t from rfl]at HP HI
  clear hX h hk hE hlt
  go_enter func208,ntmps208
  go_wp2_with fail
  refine(HP.out).mono ?_;rintro e w1⟨rfl,rfl⟩
  go_wp2_with fail
  refine(HI.out).mono ?_;rintro e w1⟨rfl,rfl⟩
  go_wp2_with fail
  refine(HT.out).mono ?_;rintro e w1⟨rfl,hT⟩
  have hk1:=hT.out.1
  have HC:=hide (HS.out w1 hT.out.2)
  go_wp2_with fail
  refine(HC.out).mono ?_;rintro e w2⟨hk2,⟨ho2,rfl⟩|⟨l2,r2,v2,ps2,ho2,rfl,hv2,hm2,hr2⟩⟩
  ·have HQ:=hide (AnsN.no (c:=0) (o:=(choice lf).app (t::r)) (hk1.to hk2) (by rw[HE.out,ho2]<;>rfl))
   unfold gaveUp noForm
   go_wp2
   exact⟨rfl,HQ.out⟩
  ·have HQ:=hide (nodeRow (o:=(choice lf).app (t::r)) (KindOf.con 0 (by decide) t ps2.length) hk1 hk2 hv2 hm2 hr2 (by rw[HE.out,ho2]<;>rfl))
   have HN:=hide (NewRow hv2 14 (bs t))
   clear hv2 hm2
   go_wp2_with fail
   refine(HN.out).mono ?_;rintro e w3⟨rfl,rfl⟩
   go_wp2
   go_ret
   exact HQ.out
theorem bs_inj{a b:List UInt8}(h:bs a=bs b):a=b:=by
 have:=congrArg (fun s:ByteArray=>s.data.toList) h
 simpa [bs_data]using this
theorem contains_two(a b:UInt8)(x:List UInt8):Lib.containsS [bs [a],bs [b]] (bs x)=(x==[a] || x==[b]):=by
 cases h:(x==[a] || x==[b])
 ·cases h2:Lib.containsS [bs [a],bs [b]] (bs x)
  ·rfl
  ·rw[Lib.containsS_iff]at h2
   simp only[mem_cons,List.not_mem_nil,or_false]at h2
   simp only[Bool.or_eq_false_iff,beq_eq_false_iff_ne]at h
   rcases h2 with h2|h2
   ·exact absurd (bs_inj h2) h.1
   ·exact absurd (bs_inj h2) h.2
 ·rw[Lib.containsS_iff]
  simp only[mem_cons,List.not_mem_nil,or_false]
  rcases Bool.or_eq_true_iff.1 h with h|h
  ·left;congr 1;simpa using h
  ·right;congr 1;simpa using h
def LeftAt(rb:Nat)(w:World)(k:Nat)(ts:Toks)(gk:Nat)(v:Value)(wr:World):Prop:=
 ∃t b ts1,v=ptrV b/\Mem (From w) wr 0 t b/\Rq rb ts1 wr/\Kq rb w wr/\gk=wt ts1/\wt ts1<=wt ts/\(choice lf).level k ts=(choice lf).levels k t ts1
theorem sign_kindof{k:Nat}{a b:UInt8}(hab:signsAt k=[a,b]){x:List UInt8}(hx:(x==[a] || x==[b])=true):KindOf 0 x [] 11 x [0,0]:=by
 refine KindOf.calc_ x ?_
 have h2:x=[a]\/x=[b]:=by simpa using hx
 unfold signsAt at hab
 by_cases h0:k=0
 ·rw[if_pos h0]at hab
  simp only[List.cons.injEq,and_true]at hab
  obtain⟨rfl,rfl⟩:=hab
  rcases h2 with rfl|rfl<;>decide
 ·rw[if_neg h0]at hab
  by_cases h1:k=1
  ·rw[if_pos h1]at hab
   simp only[List.cons.injEq,and_true]at hab
   obtain⟨rfl,rfl⟩:=hab
   rcases h2 with rfl|rfl<;>decide
  ·rw[if_neg h1]at hab
   simp only[List.cons.injEq,and_true]at hab
   obtain⟨rfl,rfl⟩:=hab
   rcases h2 with rfl|rfl<;>decide
theorem sign_cons{ts:Toks}{a b:UInt8}(h:(ts.headD []==[a] || ts.headD []==[b])=true):∃t r,ts=t::r:=by
 cases ts with
 |nil=>simp at h
 |cons t r=>exact⟨t,r,rfl⟩
theorem p_fromTheLeft{rb fk M k sb:Nat}{a b:UInt8}(hk1:k=1\/k=2)(hab:signsAt k=[a,b])(ha:tokKind [a]=119)(hb:tokKind [b]=119)(HE:Enters fk)(HK:∀ts w,wt ts<=M->Rq rb ts w->Calls prog fk #[ptrV rb] w (AnsN rb 0 w ((choice lf).level (k+1) ts)))(ts:Toks)(w:World)
  (hM:wt ts<=M) (h:Rq rb ts w) (hsb:w.heap[sb]?=some (.cells #[.string (bs [a]),.string (bs [b])] tyStr (0,0))) :
  Calls prog 194 #[ptrV rb,.func (.func fk) #[ptrV rb] #[],.slice (some ⟨sb,0,none⟩) 2 2] w (AnsN rb 0 w ((choice lf).level k ts)):=by
 have hE:=fun(args:Array Value) (w:World)=>HE args w
 have H1:=hide (HK ts w hM h)
 have HR:=hide HK
 have HP:=hide (fun(ts:Toks) (w:World) (h:Rq rb ts w)=>peek_any h)
 have HT:=hide (fun(t:List UInt8) (r:Toks) (w:World) (h:Rq rb (t::r) w)=>take_one h)
 have hL:(choice lf).level k ts=((choice lf).level (k+1) ts).bind fun a=>(choice lf).levels k a.1 a.2:=by rw[(choice lf).level_eq,if_neg (by omega)]
 have hLs:∀t ts1,(choice lf).levels k t ts1=bif (ts1.headD []==[a] || ts1.headD []==[b])then((choice lf).level (k+1) ts1.tail).bind fun q=>(choice lf).levels k (.mk (ts1.headD []) [] [t,q.1]) q.2 else some (t,ts1):=by
  intro t ts1
  rw[(choice lf).levels_eq,sign_level k a b hab ha hb]
  congr 1
  congr 1
  funext q
  rw[if_neg (by omega)]
 have HCon:=hide (fun(x:List UInt8) (wr:World) (hz:wr.heap[sb]?=some (.cells #[.string (bs [a]),.string (bs [b])] tyStr (0,0)))=>by
  have:=Tryz.slices_Contains_string sb 0 2 2 [bs [a],bs [b]] (bs x) wr (le_refl _) (by omega) (by
   intro j hj
   match j,hj with
   |0,_=>simp[World.cell?,hz]
   |1,_=>simp[World.cell?,hz])
  rw[show [bs [a],bs [b]].take 2=[bs [a],bs [b]]from rfl,contains_two]at this
  exact this)
 have HSB:=hide (fun(wr:World) (hq:Kq rb w wr)=>(kq_other (T:=tyStr) (by decide) h.isR hq hsb).trans hsb)
 have HL:=hide hL
 have HLs:=hide hLs
 have HKO:=hide (fun(x:List UInt8) (hx:(x==[a] || x==[b])=true)=>sign_kindof hab hx)
 clear HK HE h hsb hL hLs hab ha hb
 go_enter func194,ntmps194
 go_wp2_with fail
 refine(H1.out).mono ?_;rintro e w1⟨hq1,⟨ho1,rfl⟩|⟨t1,r1,b1,ho1,rfl,hm1,hr1⟩⟩
 ·have HQ:=hide (AnsN.no (c:=0) (o:=(choice lf).level k ts) hq1 (by rw[HL.out,ho1]<;>rfl))
  unfold gaveUp noForm
  go_wp2
  exact⟨rfl,HQ.out⟩
 ·have hlt:mu t1+wt r1<=wt ts:=(choice lf).level_w ho1
  have HAt:Hid (LeftAt rb w k ts (wt r1) (ptrV b1) w1):=⟨t1,b1,r1,rfl,hm1,hr1,hq1,rfl,by omega,by rw[HL.out,ho1]<;>rfl⟩
  clear hm1 hr1 ho1 hq1 H1 hlt HL
  go_wp2_with fail
  go_loopg [7] (wt r1) (fun gk v wr=>Hid (LeftAt rb w k ts gk v wr))
  case atStart=>exact HAt
  case round=>
   clear HAt
   obtain⟨t,b0,ts1,rfl,hm2,hr2,hq2,rfl,hle,hE2⟩:=hrel.out
   have HP2:=hide (HP.out ts1 wr hr2)
   have HC2:=hide (HCon.out (ts1.headD []) wr (HSB.out wr hq2))
   have hLt:=HLs.out t ts1
   cases hs:(ts1.headD []==[a] || ts1.headD []==[b])
   ·rw[hs]at HC2 hLt
    have HQ:=hide (AnsN.yes (c:=0) (o:=(choice lf).level k ts) hq2 (by rw[hE2,hLt]<;>rfl) hm2 hr2)
    clear hrel hm2 hr2 hq2 hE2 hLt hs HLs HKO HSB HCon HT HR
    unfold ptrV at *
    generalize bs (ts1.headD [])=bx at *
    go_wp2_with fail
    refine(HP2.out).mono ?_;rintro e wp⟨rfl,hw⟩
    rw[hw];clear hw wp
    go_wp2_with fail
    refine(HC2.out).mono ?_;rintro e wp⟨rfl,hw⟩
    rw[hw];clear hw wp
    go_wp2
    go_ret
    exact HQ.out
   ·rw[hs]at HC2 hLt
    obtain⟨tk,r2,rfl⟩:=sign_cons hs
    have hkd:=HKO.out _ hs
    rw[show (tk::r2).headD []=tk from rfl]at HP2 HC2 hLt hkd hs
    rw[show (tk::r2).tail=r2 from rfl,cond_true]at hLt
    have hwt2:wt r2<wt (tk::r2):=by rw[wt];omega
    have HT2:=hide (HT.out tk r2 wr hr2)
    have HM2:=hide hm2
    have HR2:=hide hr2
    have HQ2:=hide hq2
    have HLt:=hide (hE2.trans hLt)
    have HKD:=hide hkd
    clear hrel hm2 hr2 hq2 hE2 hLt hs HLs HKO HCon hkd
    go_wp2_with fail
    refine(HP2.out).mono ?_;rintro e wp⟨rfl,hw⟩
    rw[hw];clear hw wp
    go_wp2_with fail
    refine(HC2.out).mono ?_;rintro e wp⟨rfl,hw⟩
    rw[hw];clear hw wp
    go_wp2_with fail
    refine(HT2.out).mono ?_;rintro e w3⟨rfl,hT⟩
    have hq3:=hT.out.1
    have HC3:=hide (HR.out r2 w3 (by omega) hT.out.2)
    go_wp2_with fail
    refine(HC3.out).mono ?_;rintro e w4⟨hk4,⟨ho4,rfl⟩|⟨t4,r4,b4,ho4,rfl,hm4,hr4⟩⟩
    ·have HQ:=hide (AnsN.no (c:=0) (o:=(choice lf).level k ts) ((HQ2.out.to hq3).to hk4) (by rw[HLt.out,ho4]<;>rfl))
     unfold gaveUp noForm
     go_wp2
     exact⟨rfl,HQ.out⟩
    ·have hlt4:mu t4+wt r4<=wt r2:=(choice lf).level_w ho4
     have hm3:=(HM2.out.kq HR2.out hq3).kq hT.out.2 hk4
     have hnode:=node2 (o:=some (Tr.mk tk [] [t,t4],r4)) HKD.out ((HQ2.out.to hq3).to hk4) hm3 (hm4.since (HQ2.out.to hq3)) hr4 rfl
     have hLe:(choice lf).level k ts=(choice lf).levels k (.mk tk [] [t,t4]) r4:=by rw[HLt.out,ho4,Option.bind_some]
     have HAt:Hid (LeftAt rb w k ts (wt r4) (ptrV (w4.heap.size+1)) (w2P w4 b0 b4 11 (bs tk))):=by
      obtain⟨hq9,⟨hno,_⟩|⟨t9,r9,b9,ho9,he9,hm9,hr9⟩⟩:=hnode
      ·cases hno
      ·have hz:=Option.some.inj ho9
       have hz1:t9=.mk tk [] [t,t4]:=(congrArg Prod.fst hz).symm
       have hz2:r9=r4:=(congrArg Prod.snd hz).symm
       have hz3:w4.heap.size+1=b9:=by simpa [ptrV]using he9
       subst hz1
       subst hz2
       subst hz3
       exact⟨_,_,_,rfl,hm9,hr9,hq9,rfl,by omega,hLe⟩
     have HN:=hide (New2 w4 b0 b4 11 (bs tk))
     clear hm3 hm4 hr4 ho4 hk4 hnode hLe HLt HKD HM2 HR2 HQ2 HP2 HC2 HT2 HC3 hT hq3
     unfold ptrV at *
     generalize bs tk=bx at *
     go_wp2_with fail
     refine(HN.out).mono ?_;rintro e w9⟨rfl,rfl⟩
     go_wp2_with fail
     go_roundg (wt r4)
     case rel=>exact HAt
     case measure=>omega
theorem p_product{rb m:Nat}(hX:Below_ rb m)(ts:Toks)(w:World)(hm:wt ts<=m)(h:Rq rb ts w):Calls prog 195 #[ptrV rb] w (AnsN rb 0 w ((choice lf).level 2 ts)):=by
 have HC:=hide (p_fromTheLeft (rb:=rb) (fk:=208) (M:=m) (k:=2) (sb:=w.heap.size) (a:=42) (b:=47) (by decide) rfl (by decide) (by decide) Enters.application (fun ts w h1 h2=>(by rw[(choice lf).level_eq,if_pos rfl];exact p_application hX ts w h1 h2)) ts (w.alloc (.cells #[.string ⟨#[42]⟩,.string ⟨#[47]⟩] tyStr)) hm (h.alloc _) (by simp only[World.alloc,Array.getElem?_push_size];rfl))
 have HF:=hide (fun(e:Ending) (wz:World) (z:AnsN rb 0 (w.alloc (.cells #[.string ⟨#[42]⟩,.string ⟨#[47]⟩] tyStr)) ((choice lf).level 2 ts) e wz)=>AnsN.later ((Kq.refl rb w).alloc _) z)
 have hmf:∀(fn:Fn)(first cap:Array Value)(w:World),(Instr.makeFunc fn first cap).run prog w=.ok (.func fn first cap) w:=fun _ _ _ _=>rfl
 clear hX h
 go_enter func195,ntmps195
 go_wp2_with fail
 refine(HC.out).mono ?_;intro e wz ha
 have HQ:=hide (HF.out _ _ ha)
 rcases ha.ends with rfl|⟨v,rfl⟩
 ·unfold gaveUp noForm
  clear ha
  go_wp2
  exact⟨rfl,HQ.out⟩
 ·clear ha
  go_wp2
  go_ret
  exact HQ.out
theorem p_sum{rb m:Nat}(hX:Below_ rb m)(ts:Toks)(w:World)(hm:wt ts<=m)(h:Rq rb ts w):Calls prog 172 #[ptrV rb] w (AnsN rb 0 w ((choice lf).level 1 ts)):=by
 have HC:=hide (p_fromTheLeft (rb:=rb) (fk:=195) (M:=m) (k:=1) (sb:=w.heap.size) (a:=43) (b:=45) (by decide) rfl (by decide) (by decide) Enters.product (fun ts w h1 h2=>p_product hX ts w h1 h2) ts (w.alloc (.cells #[.string ⟨#[43]⟩,.string ⟨#[45]⟩] tyStr)) hm (h.alloc _) (by simp only[World.alloc,Array.getElem?_push_size];rfl))
 have HF:=hide (fun(e:Ending) (wz:World) (z:AnsN rb 0 (w.alloc (.cells #[.string ⟨#[43]⟩,.string ⟨#[45]⟩] tyStr)) ((choice lf).level 1 ts) e wz)=>AnsN.later ((Kq.refl rb w).alloc _) z)
 have hmf:∀(fn:Fn)(first cap:Array Value)(w:World),(Instr.makeFunc fn first cap).run prog w=.ok (.func fn first cap) w:=fun _ _ _ _=>rfl
 clear hX h
 go_enter func172,ntmps172
 go_wp2_with fail
 refine(HC.out).mono ?_;intro e wz ha
 have HQ:=hide (HF.out _ _ ha)
 rcases ha.ends with rfl|⟨v,rfl⟩
 ·unfold gaveUp noForm
  clear ha
  go_wp2
  exact⟨rfl,HQ.out⟩
 ·clear ha
  go_wp2
  go_ret
  exact HQ.out
theorem p_comparison{rb m:Nat}(hX:Below_ rb m)(ts:Toks)(w:World)(hm:wt ts<=m)(h:Rq rb ts w):Calls prog 150 #[ptrV rb] w (AnsN rb 0 w ((choice lf).level 0 ts)):=by
 have H1:=hide (p_sum hX ts w hm h)
 have HS:=hide (fun(ts:Toks) (w:World) (hm:wt ts<=m) (h:Rq rb ts w)=>p_sum hX ts w hm h)
 have HP:=hide (fun(ts:Toks) (w:World) (h:Rq rb ts w)=>peek_any h)
 have HT:=hide (fun(t:List UInt8) (r:Toks) (w:World) (h:Rq rb (t::r) w)=>take_one h)
 have HL:=hide (show (choice lf).level 0 ts=((choice lf).level 1 ts).bind fun a=>(choice lf).levels 0 a.1 a.2 by rw[(choice lf).level_eq,if_neg (by decide)])
 have HLs:=hide (fun(t:Tr) (ts1:Toks)=>show (choice lf).levels 0 t ts1=bif (ts1.headD []==[61] || ts1.headD []==[60])then((choice lf).level 1 ts1.tail).bind fun q=>some (.mk (ts1.headD []) [] [t,q.1],q.2)else some (t,ts1) by
  rw[(choice lf).levels_eq,sign_level 0 61 60 rfl (by decide) (by decide)]
  rfl)
 clear hX h
 go_enter func150,ntmps150
 go_wp2_with fail
 refine(H1.out).mono ?_;rintro e w1⟨hk1,⟨ho1,rfl⟩|⟨t1,r1,b1,ho1,rfl,hm1,hr1⟩⟩
 ·have HQ:=hide (AnsN.no (c:=0) (o:=(choice lf).level 0 ts) hk1 (by rw[HL.out,ho1]<;>rfl))
  unfold gaveUp noForm
  go_wp2
  exact⟨rfl,HQ.out⟩
 ·have hlt:mu t1+wt r1<=wt ts:=(choice lf).level_w ho1
  have HP1:=hide (HP.out r1 w1 hr1)
  have hLt:=HLs.out t1 r1
  have hE:(choice lf).level 0 ts=(choice lf).levels 0 t1 r1:=by rw[HL.out,ho1]<;>rfl
  cases h61:(r1.headD []==[61])
  ·have e61:((bs (r1.headD [])).toList==[61])=false:=(bs_lit (r1.headD []) [61]).trans h61
   cases h60:(r1.headD []==[60])
   ·have e60:((bs (r1.headD [])).toList==[60])=false:=(bs_lit (r1.headD []) [60]).trans h60
    have HQ:=hide (AnsN.yes (c:=0) (o:=(choice lf).level 0 ts) hk1 (by rw[hE,hLt,h61,h60]<;>rfl) hm1 hr1)
    clear hm1 hr1 hk1 ho1 hLt hE h61 h60 HLs HL HT HS H1 HP
    unfold ptrV at *
    generalize bs (r1.headD [])=bx at *
    go_wp2_with fail
    refine(HP1.out).mono ?_;rintro e wp⟨rfl,hw⟩
    rw[hw];clear hw wp
    go_wp2
    go_ret
    exact HQ.out
   ·have e60:((bs (r1.headD [])).toList==[60])=true:=(bs_lit (r1.headD []) [60]).trans h60
    obtain⟨tk,r2,rfl⟩:∃t r,r1=t::r:=by
     cases r1 with
     |nil=>exact absurd h60 (by decide)
     |cons t r=>exact⟨t,r,rfl⟩
    rw[show (tk::r2).headD []=tk from rfl]at *
    rw[show (tk::r2).tail=r2 from rfl]at hLt
    have hwt2:wt r2<wt (tk::r2):=by rw[wt];omega
    have hsign:(tk==[61] || tk==[60])=true:=by rw[h61,h60]<;>rfl
    rw[hsign,cond_true]at hLt
    have hkd:=sign_kindof (k:=0) rfl hsign
    have HT2:=hide (HT.out tk r2 w1 hr1)
    have HE:=hide (hE.trans hLt)
    have HKD:=hide hkd
    clear hLt hE h61 h60 hsign hkd HLs HL HT
    go_wp2_with fail
    refine(HP1.out).mono ?_;rintro e wp⟨rfl,hw⟩
    rw[hw];clear hw wp
    go_wp2_with fail
    refine(HT2.out).mono ?_;rintro e w3⟨rfl,hT⟩
    have hq3:=hT.out.1
    have HC3:=hide (HS.out r2 w3 (by omega) hT.out.2)
    go_wp2_with fail
    refine(HC3.out).mono ?_;rintro e w4⟨hk4,⟨ho4,rfl⟩|⟨t4,r4,b4,ho4,rfl,hm4,hr4⟩⟩
    ·have HQ:=hide (AnsN.no (c:=0) (o:=(choice lf).level 0 ts) ((hk1.to hq3).to hk4) (by rw[HE.out,ho4]<;>rfl))
     unfold gaveUp noForm
     go_wp2
     exact⟨rfl,HQ.out⟩
    ·have HQ:=hide (node2 (o:=(choice lf).level 0 ts) HKD.out ((hk1.to hq3).to hk4) ((hm1.kq hr1 hq3).kq hT.out.2 hk4) (hm4.since (hk1.to hq3)) hr4 (by rw[HE.out,ho4]<;>rfl))
     have HN:=hide (New2 w4 b1 b4 11 (bs tk))
     clear hm4 hr4 ho4 hk4 HE HKD HP1 HT2 HC3 hT hq3 hm1 hr1 hk1
     unfold ptrV at *
     go_wp2_with fail
     refine(HN.out).mono ?_;rintro e w9⟨rfl,rfl⟩
     go_wp2
     go_ret
     exact HQ.out
  ·have e61:((bs (r1.headD [])).toList==[61])=true:=(bs_lit (r1.headD []) [61]).trans h61
   obtain⟨tk,r2,rfl⟩:∃t r,r1=t::r:=by
    cases r1 with
    |nil=>exact absurd h61 (by decide)
    |cons t r=>exact⟨t,r,rfl⟩
   rw[show (tk::r2).headD []=tk from rfl]at *
   rw[show (tk::r2).tail=r2 from rfl]at hLt
   have hwt2:wt r2<wt (tk::r2):=by rw[wt];omega
   have hsign:(tk==[61] || tk==[60])=true:=by rw[h61]<;>rfl
   rw[hsign,cond_true]at hLt
   have hkd:=sign_kindof (k:=0) rfl hsign
   have HT2:=hide (HT.out tk r2 w1 hr1)
   have HE:=hide (hE.trans hLt)
   have HKD:=hide hkd
   clear hLt hE h61 hsign hkd HLs HL HT
   go_wp2_with fail
   refine(HP1.out).mono ?_;rintro e wp⟨rfl,hw⟩
   rw[hw];clear hw wp
   go_wp2_with fail
   refine(HT2.out).mono ?_;rintro e w3⟨rfl,hT⟩
   have hq3:=hT.out.1
   have HC3:=hide (HS.out r2 w3 (by omega) hT.out.2)
   go_wp2_with fail
   refine(HC3.out).mono ?_;rintro e w4⟨hk4,⟨ho4,rfl⟩|⟨t4,r4,b4,ho4,rfl,hm4,hr4⟩⟩
   ·have HQ:=hide (AnsN.no (c:=0) (o:=(choice lf).level 0 ts) ((hk1.to hq3).to hk4) (by rw[HE.out,ho4]<;>rfl))
    unfold gaveUp noForm
    go_wp2
    exact⟨rfl,HQ.out⟩
   ·have HQ:=hide (node2 (o:=(choice lf).level 0 ts) HKD.out ((hk1.to hq3).to hk4) ((hm1.kq hr1 hq3).kq hT.out.2 hk4) (hm4.since (hk1.to hq3)) hr4 (by rw[HE.out,ho4]<;>rfl))
    have HN:=hide (New2 w4 b1 b4 11 (bs tk))
    clear hm4 hr4 ho4 hk4 HE HKD HP1 HT2 HC3 hT hq3 hm1 hr1 hk1
    unfold ptrV at *
    go_wp2_with fail
    refine(HN.out).mono ?_;rintro e w9⟨rfl,rfl⟩
    go_wp2
    go_ret
    exact HQ.out
def LFam.setE(L:LFam)(ts:Toks):Option (Tr×Toks):=(L.level 0 ts).bind fun a=>L.set a.1 a.2
theorem setE_w{ts:Toks}{q:Tr×Toks}(h:(choice lf).setE ts=some q):mu q.1+wt q.2<=wt ts:=by
 unfold LFam.setE at h
 rw[bind_eq_some_iff]at h
 obtain⟨a,ha,h⟩:=h
 have h1:=(choice lf).level_w ha
 have h2:=(choice lf).set_w h
 omega
theorem p_set{rb m:Nat}(hX:Below_ rb m)(ts:Toks)(w:World)(hm:wt ts<=m)(h:Rq rb ts w):Calls prog 131 #[ptrV rb] w (AnsN rb 0 w ((choice lf).setE ts)):=by
 have H1:=hide (p_comparison hX ts w hm h)
 have HS:=hide (fun(ts:Toks) (w:World) (hm:wt ts<=m) (h:Rq rb ts w)=>p_comparison hX ts w hm h)
 have HA:=hide (fun(ts:Toks) (w:World) (h:Rq rb ts w)=>accept_w (x:=K.set_) bsK_set (by decide) h)
 clear hX h
 go_enter func131,ntmps131
 go_wp2_with fail
 refine(H1.out).mono ?_;rintro e w1⟨hk1,⟨ho1,rfl⟩|⟨t1,r1,b1,ho1,rfl,hm1,hr1⟩⟩
 ·have HQ:=hide (AnsN.no (c:=0) (o:=(choice lf).setE ts) hk1 (by unfold LFam.setE;rw[ho1]<;>rfl))
  unfold gaveUp noForm
  go_wp2
  exact⟨rfl,HQ.out⟩
 ·have hlt:mu t1+wt r1<=wt ts:=(choice lf).level_w ho1
  have HB:=hide (HA.out r1 w1 hr1)
  go_wp2_with fail
  refine(HB.out).mono ?_;rintro e w2⟨hk2,⟨ho2,rfl,hr2⟩|⟨ho2,rfl,hr2⟩⟩
  ·have HQ:=hide (AnsN.yes (c:=0) (o:=(choice lf).setE ts) (hk1.to hk2) (by unfold LFam.setE;rw[ho1,Option.bind_some,(choice lf).set_eq,ho2]<;>rfl) (hm1.kq hr1 hk2) hr2)
   unfold ptrV at *
   go_wp2
   go_ret
   exact HQ.out
  ·have hlt2:=wt_isW_lt ho2
   have HC:=hide (HS.out r1.tail w2 (by omega) hr2)
   go_wp2_with fail
   refine(HC.out).mono ?_;rintro e w3⟨hk3,⟨ho3,rfl⟩|⟨t3,r3,b3,ho3,rfl,hm3,hr3⟩⟩
   ·have HQ:=hide (AnsN.no (c:=0) (o:=(choice lf).setE ts) ((hk1.to hk2).to hk3) (by unfold LFam.setE;rw[ho1,Option.bind_some,(choice lf).set_eq,ho2,cond_true,ho3]<;>rfl))
    unfold gaveUp noForm
    go_wp2
    exact⟨rfl,HQ.out⟩
   ·have HQ:=hide (node2 (o:=(choice lf).setE ts) KindOf.set ((hk1.to hk2).to hk3) ((hm1.kq hr1 hk2).kq hr2 hk3) (hm3.since (hk1.to hk2)) hr3 (by unfold LFam.setE;rw[ho1,Option.bind_some,(choice lf).set_eq,ho2,cond_true,ho3]<;>rfl))
    have HN:=hide (New2 w3 b1 b3 10 ⟨#[]⟩)
    unfold ptrV at *
    go_wp2_with fail
    refine(HN.out).mono ?_;rintro e w4⟨rfl,rfl⟩
    go_wp2
    go_ret
    exact HQ.out
def LFam.seqE(L:LFam)(ts:Toks):Option (Tr×Toks):=(L.setE ts).bind fun a=>bif G.isW K.semi_ a.2 then(L.expr a.2.tail).bind fun b=>some (.mk K.seq_ [] [a.1,b.1],b.2)else some a
theorem p_sequence{rb m:Nat}(hX:Below_ rb m)(ts:Toks)(w:World)(hm:wt ts<=m)(h:Rq rb ts w):Calls prog 104 #[ptrV rb] w (AnsN rb 0 w ((choice lf).seqE ts)):=by
 have H1:=hide (p_set hX ts w hm h)
 have HS:=hide (fun(ts:Toks) (w:World) (hm:wt ts<m) (h:Rq rb ts w)=>(hX ts w hm h).1)
 have HA:=hide (fun(ts:Toks) (w:World) (h:Rq rb ts w)=>accept_w (x:=K.semi_) bsK_semi (by decide) h)
 unfold ExprAt at HS
 clear hX h
 go_enter func104,ntmps104
 go_wp2_with fail
 refine(H1.out).mono ?_;rintro e w1⟨hk1,⟨ho1,rfl⟩|⟨t1,r1,b1,ho1,rfl,hm1,hr1⟩⟩
 ·have HQ:=hide (AnsN.no (c:=0) (o:=(choice lf).seqE ts) hk1 (by unfold LFam.seqE;rw[ho1]<;>rfl))
  unfold gaveUp noForm
  go_wp2
  exact⟨rfl,HQ.out⟩
 ·have hlt:mu t1+wt r1<=wt ts:=setE_w ho1
  have HB:=hide (HA.out r1 w1 hr1)
  go_wp2_with fail
  refine(HB.out).mono ?_;rintro e w2⟨hk2,⟨ho2,rfl,hr2⟩|⟨ho2,rfl,hr2⟩⟩
  ·have HQ:=hide (AnsN.yes (c:=0) (o:=(choice lf).seqE ts) (hk1.to hk2) (by unfold LFam.seqE;rw[ho1,Option.bind_some,ho2]<;>rfl) (hm1.kq hr1 hk2) hr2)
   unfold ptrV at *
   go_wp2
   go_ret
   exact HQ.out
  ·have hlt2:=wt_isW_lt ho2
   have HC:=hide (HS.out r1.tail w2 (by omega) hr2)
   go_wp2_with fail
   refine(HC.out).mono ?_;rintro e w3⟨hk3,⟨ho3,rfl⟩|⟨t3,r3,b3,ho3,rfl,hm3,hr3⟩⟩
   ·have HQ:=hide (AnsN.no (c:=0) (o:=(choice lf).seqE ts) ((hk1.to hk2).to hk3) (by unfold LFam.seqE;rw[ho1,Option.bind_some,ho2,cond_true,ho3]<;>rfl))
    unfold gaveUp noForm
    go_wp2
    exact⟨rfl,HQ.out⟩
   ·have HQ:=hide (node2 (o:=(choice lf).seqE ts) KindOf.seq ((hk1.to hk2).to hk3) ((hm1.kq hr1 hk2).kq hr2 hk3) (hm3.since (hk1.to hk2)) hr3 (by unfold LFam.seqE;rw[ho1,Option.bind_some,ho2,cond_true,ho3]<;>rfl))
    have HN:=hide (New2 w3 b1 b3 9 ⟨#[]⟩)
    unfold ptrV at *
    go_wp2_with fail
    refine(HN.out).mono ?_;rintro e w4⟨rfl,rfl⟩
    go_wp2
    go_ret
    exact HQ.out
def LFam.ifE(L:LFam)(ts:Toks):Option (Tr×Toks):=(L.expr ts).bind fun a=>(G.want K.then_ a.2).bind fun r=>(L.expr r).bind fun b=>(G.want K.else_ b.2).bind fun r=>(L.expr r).bind fun c=>some (.mk K.if_ [] [a.1,b.1,c.1],c.2)
theorem p_choice{rb m:Nat}(hX:Below_ rb m)(ts:Toks)(w:World)(hm:wt ts<m)(h:Rq rb ts w):Calls prog 103 #[ptrV rb] w (AnsN rb 0 w ((choice lf).ifE ts)):=by
 have H1:=hide ((hX ts w hm h).1)
 have HS:=hide (fun(ts:Toks) (w:World) (hm:wt ts<m) (h:Rq rb ts w)=>(hX ts w hm h).1)
 have HA:=hide (fun(ts:Toks) (w:World) (h:Rq rb ts w)=>expect_w (x:=K.then_) bsK_then (by decide) h)
 have HB:=hide (fun(ts:Toks) (w:World) (h:Rq rb ts w)=>expect_w (x:=K.else_) bsK_else (by decide) h)
 unfold ExprAt at HS H1
 clear hX h
 go_enter func103,ntmps103
 go_wp2_with fail
 refine(H1.out).mono ?_;rintro e w1⟨hk1,⟨ho1,rfl⟩|⟨t1,r1,b1,ho1,rfl,hm1,hr1⟩⟩
 ·have HQ:=hide (AnsN.no (c:=0) (o:=(choice lf).ifE ts) hk1 (by unfold LFam.ifE;rw[ho1]<;>rfl))
  unfold gaveUp noForm
  go_wp2
  exact⟨rfl,HQ.out⟩
 ·have hlt1:mu t1+wt r1<=wt ts:=(choice lf).expr_w ho1
  have HC:=hide (HA.out r1 w1 hr1)
  go_wp2_with fail
  refine(HC.out).mono ?_;rintro e w2⟨hk2,⟨ho2,rfl⟩|⟨r2,ho2,rfl,hr2⟩⟩
  ·have HQ:=hide (AnsN.no (c:=0) (o:=(choice lf).ifE ts) (hk1.to hk2) (by unfold LFam.ifE;rw[ho1,Option.bind_some,ho2]<;>rfl))
   unfold gaveUp noForm
   go_wp2
   exact⟨rfl,HQ.out⟩
  ·have hlt2:=wt_want ho2
   have HC:=hide (HS.out r2 w2 (by omega) hr2)
   go_wp2_with fail
   refine(HC.out).mono ?_;rintro e w3⟨hk3,⟨ho3,rfl⟩|⟨t3,r3,b3,ho3,rfl,hm3,hr3⟩⟩
   ·have HQ:=hide (AnsN.no (c:=0) (o:=(choice lf).ifE ts) ((hk1.to hk2).to hk3) (by unfold LFam.ifE;rw[ho1,Option.bind_some,ho2,Option.bind_some,ho3]<;>rfl))
    unfold gaveUp noForm
    go_wp2
    exact⟨rfl,HQ.out⟩
   ·have hlt3:mu t3+wt r3<=wt r2:=(choice lf).expr_w ho3
    have HC:=hide (HB.out r3 w3 hr3)
    go_wp2_with fail
    refine(HC.out).mono ?_;rintro e w4⟨hk4,⟨ho4,rfl⟩|⟨r4,ho4,rfl,hr4⟩⟩
    ·have HQ:=hide (AnsN.no (c:=0) (o:=(choice lf).ifE ts) (((hk1.to hk2).to hk3).to hk4) (by unfold LFam.ifE;rw[ho1,Option.bind_some,ho2,Option.bind_some,ho3,Option.bind_some,ho4]<;>rfl))
     unfold gaveUp noForm
     go_wp2
     exact⟨rfl,HQ.out⟩
    ·have hlt4:=wt_want ho4
     have HC:=hide (HS.out r4 w4 (by omega) hr4)
     go_wp2_with fail
     refine(HC.out).mono ?_;rintro e w5⟨hk5,⟨ho5,rfl⟩|⟨t5,r5,b5,ho5,rfl,hm5,hr5⟩⟩
     ·have HQ:=hide (AnsN.no (c:=0) (o:=(choice lf).ifE ts) ((((hk1.to hk2).to hk3).to hk4).to hk5) (by unfold LFam.ifE;rw[ho1,Option.bind_some,ho2,Option.bind_some,ho3,Option.bind_some,ho4,Option.bind_some,ho5]<;>rfl))
      unfold gaveUp noForm
      go_wp2
      exact⟨rfl,HQ.out⟩
     ·have HQ:=hide (node3 (o:=(choice lf).ifE ts) KindOf.if_ ((((hk1.to hk2).to hk3).to hk4).to hk5) ((((hm1.kq hr1 hk2).kq hr2 hk3).kq hr3 hk4).kq hr4 hk5) (((hm3.since (hk1.to hk2)).kq hr3 hk4).kq hr4 hk5) (hm5.since (((hk1.to hk2).to hk3).to hk4)) hr5 (by unfold LFam.ifE;rw[ho1,Option.bind_some,ho2,Option.bind_some,ho3,Option.bind_some,ho4,Option.bind_some,ho5]<;>rfl))
      have HN:=hide (New3 w5 b1 b3 b5 8 ⟨#[]⟩)
      unfold ptrV at *
      go_wp2_with fail
      refine(HN.out).mono ?_;rintro e w9⟨rfl,rfl⟩
      go_wp2
      go_ret
      exact HQ.out
end Go.Proofs.YtcbppnefeonmgaaGreatDoor
