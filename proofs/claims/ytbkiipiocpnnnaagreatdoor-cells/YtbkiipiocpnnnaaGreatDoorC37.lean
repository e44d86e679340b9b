import Derived.Test.YtbkiipiocpnnnaaGreatDoorC36
import Derived.Deep.AppendSrc
set_option linter.all false
set_option maxHeartbeats 40000000
set_option maxRecDepth 100000
open Go.Proofs.Tryz
open Classical (choice)
open Or (inl inr)
open Nat (zero_le)
open List (append_nil length_append length_cons mem_cons_of_mem append_assoc length_nil map_append map_cons)
namespace Go.Proofs.YtbkiipiocpnnnaaGreatDoor
open Go.RowKit
theorem Tryz.infoStr:(prog.info? 9).map (fun i=>(i.zero,i.size,i.bytes))=some (some (.string ByteArray.empty),1,16):=by kernel_rfl
theorem Clone_any(s:ByteArray)(w:World)(hs:s.size<=281474976710656) :
  Calls prog 51 #[.string s] w fun e w'=>e=.returned (.string s)/\Below w.heap.size w w':=by
 go_enter func51,ntmps51
 go_wp2_with (go_at_call 85;refine(Tryz.stringslite_Clone _ _ hs).mono ?_;rintro e w'⟨rfl,hb⟩)
 go_ret
 exact⟨rfl,hb⟩
theorem Cut_any(s:ByteArray)(w:World)(hs:s.size<=maxLen) :
  Calls prog 20 #[.string s] w fun e w'=>∃v,e=.returned (.tuple #[v,.int .i64 (cutL s.data.toList).2.1,.int .i64 (cutL s.data.toList).2.2]) /\
   w'.ownsRow w.heap.size 9 1 v (cutL s.data.toList).1.length ((cutL s.data.toList).1.map strV)/\Below w.heap.size w w':=by
 have hs':s.size<=9223372036854775807:=hs
 by_cases hbig:4000<s.size
 ·have hR:cutL s.data.toList=([],0,1):=by
   unfold cutL;rw[if_pos (show 4000<s.data.toList.length from hbig)]
  rw[hR]
  go_enter func20,ntmps20
  go_wp2
  go_ret3
  exact⟨_,rfl,World.ownsRow_nil _ _ _ _,Below.refl _ _⟩
 ·have hR:cutL s.data.toList=cutF (s.data.toList.length+1) s.data.toList 0 []:=by
   unfold cutL;rw[if_neg (show ¬4000<s.data.toList.length from hbig)]
  have hst:=atHead_start s.data.toList
  rw[<- hR]at hst
  have hgl:=gap_le false s.data.toList
  have hc0:∀wx,Calls prog 49 #[.string s] wx fun e w'=>e=.returned (.int .i64 (gap false s.data.toList))/\w'=wx:=fun wx=>gapLength_any s wx hs
  have hgl':gap false s.data.toList<=s.size:=hgl
  clear hgl hR
  generalize cutL s.data.toList=R at *
  generalize gap false s.data.toList=G0 at *
  have HC0:Hid (∀wx,Calls prog 49 #[.string s] wx fun e w'=>e=.returned (.int .i64 G0)/\w'=wx):=hc0
  have HST:Hid (AtHead s.data.toList R G0 []):=hst
  clear hc0 hst
  obtain⟨i0,hi,hz0,hz1,hz2⟩:=info_parts Tryz.infoStr
  have hb4:decide ((4000:Int)<s.size)=false:=by simp;omega
  go_enter func20,ntmps20
  go_wp2_with (go_at_call 49;refine(HC0.out _).mono ?_;rintro e w'⟨rfl,hw'⟩;subst w')
  go_loopw [5,6] (fun v i wr=>∃(k:Nat) (toks:List (List UInt8)),k<=s.size/\i=.int .i64 k/\toks.length<=k/\wr.ownsRow w.heap.size 9 1 v toks.length (toks.map strV)/\Below w.heap.size w wr/\Hid (AtHead s.data.toList R k toks))
   (fun _ i _=>s.size-(intOf i).toNat)
  case atStart=>exact⟨G0,[],hgl',rfl,zero_le _,World.ownsRow_nil _ _ _ _,Below.refl _ _,HST⟩
  case round=>
   obtain⟨k,toks,hk,rfl,htl,hown,hbel,H⟩:=hrel
   by_cases hlt:k<s.size
   ·have hlt':k<s.data.toList.length:=hlt
    have hc1:∀wx,Calls prog 50 #[.string (s.extract k s.size)] wx fun e w'=>e=.returned (.int .i64 (tokLen (s.data.toList.drop k)))/\w'=wx:=fun wx=>by
     have:=tokenLength_any (s.extract k s.size) wx (by simp;omega) (by simp;omega)
     rw[Lib.extract_to_end]at this;exact this
    have hT:=tokLen_le (s.data.toList.drop k)
    have hTs:tokLen (s.data.toList.drop k)<=s.size-k:=by simpa using hT
    clear hT
    by_cases ht:tokLen (s.data.toList.drop k)=0
    ·have hR:=atHead_bad H.out hlt' ht
     rw[ht]at hc1
     have HC1:Hid (∀wx,Calls prog 50 #[.string (s.extract k s.size)] wx fun e w'=>e=.returned (.int .i64 0)/\w'=wx):=hc1
     have HR:Hid (R=([],k,2)):=hR
     clear hc1 hR hlt' ht hTs
     go_wp2_with (go_at_call 50;refine(HC1.out _).mono ?_;rintro e w'⟨rfl,hw'⟩;subst w')
     go_ret3
     rw[HR.out]
     exact⟨_,rfl,World.ownsRow_nil _ _ _ _,hbel⟩
    ·have hA:=atHead_tok H.out hlt' ht
     have hc3:∀wx,Calls prog 49 #[.string (s.extract (k+tokLen (s.data.toList.drop k)) s.size)] wx fun e w'=>e=.returned (.int .i64 (gap false (s.data.toList.drop (k+tokLen (s.data.toList.drop k)))))/\w'=wx:=fun wx=>by
      have:=gapLength_any (s.extract (k+tokLen (s.data.toList.drop k)) s.size) wx (by simp;omega)
      rw[Lib.extract_to_end]at this;exact this
     have hG:=gap_le false (s.data.toList.drop (k+tokLen (s.data.toList.drop k)))
     rw[List.length_drop,show s.data.toList.length=s.size from rfl]at hG
     have hst:=bs_extract s k (k+tokLen (s.data.toList.drop k))
     rw[Nat.add_sub_cancel_left]at hst
     generalize gap false (s.data.toList.drop (k+tokLen (s.data.toList.drop k)))=G at *
     generalize (s.data.toList.drop k).take (tokLen (s.data.toList.drop k))=tk at *
     generalize tokLen (s.data.toList.drop k)=T at *
     have HC1:Hid (∀wx,Calls prog 50 #[.string (s.extract k s.size)] wx fun e w'=>e=.returned (.int .i64 T)/\w'=wx):=hc1
     have HC3:Hid (∀wx,Calls prog 49 #[.string (s.extract (k+T) s.size)] wx fun e w'=>e=.returned (.int .i64 G)/\w'=wx):=hc3
     have HA:Hid (AtHead s.data.toList R (k+T+G) (toks++[tk])):=hA
     have HS:Hid (s.extract k (k+T)=bs tk):=hst
     have hcl:(s.extract k (k+T)).size<=281474976710656:=by simp;omega
     have hb0:((T:Int)==0)=false:=by simp[ht]
     clear hc1 hc3 hA hst hlt'
     go_wp2_with fail
     refine(HC1.out _).mono ?_;rintro e w'⟨rfl,hw'⟩;subst w'
     go_wp2_with fail
     refine(Clone_any _ _ hcl).mono ?_;rintro e w1⟨rfl,hb1⟩
     have hown1:=ownsRow_below hown hb1
     have hbel1:Below w.heap.size w w1:=hbel.trans (hb1.mono hbel.size)
     clear hown hbel hb1
     go_wp2_with (at_builtin;refine wpList_append_own _ rfl _ _ 22 rfl w.heap.size 9 i0 (.string ByteArray.empty) 1 16 underlying22 hi hz0 hz1 hz2 rfl (by decide) _ _ _ rfl (hown1.alloc _) ⟨w1.heap.size,0,none⟩ 1 1 [.string (s.extract k (k+T))] rfl rfl ?c1 ?c2 ?c3 ?c4 ?c5 ?_)
     case c1=>exact cell_one_new _ _ _
     case c2=>intro u hu;simp at hu;subst hu;rfl
     case c3=>unfold maxLen;omega
     case c4=>omega
     case c5=>have:=hbel1.size;simp;omega
     ·intro v' w2 hown' hgrow _
      have hbel2:Below w.heap.size w w2:=(hbel1.alloc hbel1.size _).grown hgrow (by have:=hbel1.size;simp;omega) (fun g hg=>(hown1.lt g hg).1)
      have hown2:w2.ownsRow w.heap.size 9 1 v' (toks++[tk]).length ((toks++[tk]).map strV):=by
       rw[length_append,map_append]
       rw[HS.out]at hown'
       exact hown'
      clear hown' hgrow hown1 hbel1
      go_wp2_with (go_at_call 49;refine(HC3.out _).mono ?_;rintro e w'⟨rfl,hw'⟩;subst w')
      go_roundw
      case rel=>exact⟨k+T+G,toks++[tk],by omega,by go_num,by simp;omega,hown2,hbel2,HA⟩
      case measure=>simp[intOf];omega
   ·have hR:=atHead_end H.out (show s.size<=k by omega)
    have HR:Hid (R=(toks,0,0)):=hR
    clear hR
    go_wp2
    go_ret3
    rw[HR.out]
    exact⟨_,rfl,hown,hbel⟩
theorem run_append_str{w:World}{base:Nat}{v:Value}{ns:Toks}{ty:TypeId}(k:List UInt8)(hown:w.ownsRow base tyStr 1 v ns.length (ns.map strV))(hn:ns.length<=100000000)(hb:base<=w.heap.size) :
  ∃v' w',(Builtin.append_ #[22,22] ty #[v,.slice (some ⟨w.heap.size,0,none⟩) 1 1]).run prog (w.alloc (.cells #[.string (bs k)] tyStr))=.ok v' w' /\
   w'.ownsRow base tyStr 1 v' (ns++[k]).length ((ns++[k]).map strV)/\(w.alloc (.cells #[.string (bs k)] tyStr)).grownBy w' v.ownBlock/\(∀g,v'.ownBlock=some g->v.ownBlock=some g\/w.heap.size<g)/\∃g cap,v'=.slice (some ⟨g,0,none⟩) (ns++[k]).length cap:=by
 obtain⟨i0,hi,hz0,hz1,hz2⟩:=info_parts Tryz.infoStr
 have hown1:=hown.alloc (.cells #[.string (bs k)] tyStr)
 have hnews:∀j u,[Value.string (bs k)][j]?=some u->(w.alloc (.cells #[.string (bs k)] tyStr)).cell? ((⟨w.heap.size,0,none⟩:Addr).add j)=some u:=fun j u hj=>cell_new rfl (by simpa using hj)
 have h1:∀u∈[Value.string (bs k)],u.oneCell'=true:=by intro u hu;simp at hu;subst hu;rfl
 obtain⟨v',w',hr,ho',hg',_⟩:=run_append_own (P:=prog) (w.alloc (.cells #[.string (bs k)] tyStr)) base 22 ty tyStr i0 (.string ByteArray.empty) 1 16 underlying22 hi hz0 hz1 hz2 rfl (by decide) v ns.length (ns.map strV) hown1 ⟨w.heap.size,0,none⟩ 1 1 [.string (bs k)] rfl hnews h1 (by unfold maxLen;omega) (by omega) (by simp;omega)
 have ho2:w'.ownsRow base tyStr 1 v' (ns++[k]).length ((ns++[k]).map strV):=by
  rw[length_append,map_append];exact ho'
 refine⟨v',w',hr,ho2,hg',?_,?_⟩
 ·intro g hgv
  rcases hown1.2 with⟨rfl,hn0⟩|⟨g0,cap,cur,rfl,hbg,hg,hnc,hcm,hcs,htake⟩
  ·have h:=run_append_nil (P:=prog) (w.alloc (.cells #[.string (bs k)] tyStr)) 22 ty tyStr i0 (.string ByteArray.empty) underlying22 hi hz0 ⟨w.heap.size,0,none⟩ 1 1 [.string (bs k)] (by rw[hz1];rfl) hnews (by omega) (by omega) (by rw[hz2];omega)
   rw[hr]at h
   simp only[Result.ok.injEq]at h
   rw[h.1]at hgv
   simp[Value.ownBlock]at hgv
   omega
  ·by_cases hroom:ns.length+1<=cap
   ·have h:=run_append_room (P:=prog) (w.alloc (.cells #[.string (bs k)] tyStr)) 22 ty tyStr i0 underlying22 hi g0 ns.length cap cur hg ⟨w.heap.size,0,none⟩ 1 1 [.string (bs k)] (by rw[hz1];rfl) hnews h1 hroom (by rw[hcs,hz1];simp only[length_cons,length_nil];omega)
    rw[hr]at h
    simp only[Result.ok.injEq]at h
    rw[h.1]at hgv
    exact inl hgv
   ·have h:=run_append_grow (P:=prog) (w.alloc (.cells #[.string (bs k)] tyStr)) 22 ty tyStr i0 (.string ByteArray.empty) underlying22 hi hz0 ⟨g0,0,none⟩ ns.length cap (ns.map strV) (by rw[hz1];exact hown.1) (hown1.cells (g:=g0) rfl) ⟨w.heap.size,0,none⟩ 1 1 [.string (bs k)] (by rw[hz1];rfl) hnews (by omega) (by omega) (growslice_fits (by omega) (by rw[hz2];omega))
    rw[hr]at h
    simp only[Result.ok.injEq]at h
    rw[h.1]at hgv
    simp[Value.ownBlock]at hgv
    omega
 ·rcases ownsRow_forms ho2 with⟨_,hn0⟩|h
  ·simp at hn0
  ·exact h
theorem append_str{ops:Array Oper}{rest:List Oper}{o:Oper}{a:Act}{Q:Exit->Act->World->Prop}{w:World}(hgd:o.guard=none)(s x:Operand)
  (ho:o.op=.call { callee:=.builtin .append,args:=#[s,x],argTypes:=#[22,22] }) {base:Nat}{v:Value}{ns:Toks} (k:List UInt8)
  (hown:w.ownsRow base tyStr 1 v ns.length (ns.map strV)) (hn:ns.length<=100000000) (hb:base<=w.heap.size) (hs:a.eval s=v) (hx:a.eval x=.slice (some ⟨w.heap.size,0,none⟩) 1 1)
  (h:∀v' w',w'.ownsRow base tyStr 1 v' (ns++[k]).length ((ns++[k]).map strV)->(w.alloc (.cells #[.string (bs k)] tyStr)).grownBy w' v.ownBlock->Hid (∀g,v'.ownBlock=some g->v.ownBlock=some g\/w.heap.size<g)->wpList prog ops Q rest (a.put o.dst v') w') :
  wpList prog ops Q (o::rest) a (w.alloc (.cells #[.string (bs k)] tyStr)):=by
 obtain⟨v',w',hr,h2,h3,h4,_⟩:=run_append_str (ty:=o.type) k hown hn hb
 refine wpList_plain hgd fun K hK=>?_
 unfold Oper.wp execOp
 simp only[ho,resolve,invoke,builtin,Sem.run_bind,Sem.run_pure,Result.andThen_ok,List.map_toArray,map_cons,List.map_nil,hs,hx,hr]
 exact hK _ _ (h v' w' h2 h3 h4)
structure RqT(rb tb:Nat)(ts:Toks)(w:World):Prop where
 len:ts.length<=4000
 toks:∀t∈ts,Tok t/\t≠[]
 own:∃(o cap:Nat) (cs:Array Value),w.heap[rb]?=some (.cells #[.slice (some ⟨tb,o,none⟩) ts.length cap] tyRdr (0,0))/\w.heap[tb]?=some (.cells cs tyStr (0,0))/\ts.length<=cap/\cap<=9223372036854775807/\∀i t,ts[i]?=some t->cs[o+i]?=some (strV t)
theorem RqT.rq{rb tb:Nat}{ts:Toks}{w:World}(h:RqT rb tb ts w):Rq rb ts w:=by
 obtain⟨o,cap,cs,r⟩:=h.own
 exact⟨h.len,h.toks,tb,o,cap,cs,r⟩
theorem Rq.tb{rb:Nat}{ts:Toks}{w:World}(h:Rq rb ts w):∃tb,tb<w.heap.size/\RqT rb tb ts w:=by
 obtain⟨tb,o,cap,cs,h1,h2,r⟩:=h.own
 exact⟨tb,lt_of_heap h2,h.len,h.toks,o,cap,cs,h1,h2,r⟩
theorem RqT.more{rb tb:Nat}{t:List UInt8}{ts:Toks}{w:World}(h:RqT rb tb (t::ts) w):rb<w.heap.size/\(∃o cap,w.cell? ⟨rb,0,none⟩=some (.slice (some ⟨tb,o,none⟩) (ts.length+1) cap)/\w.cell? ⟨tb,o,none⟩=some (.string (bs t))/\tb<w.heap.size/\ts.length+1<=cap/\cap<=9223372036854775807 /\
  ∀o2,(cap=1\/o2=o+1)->RqT rb tb ts (w.setCell ⟨rb,0,none⟩ (.slice (some ⟨tb,o2,none⟩) ts.length (cap-1))))/\w.frozen? ⟨rb,0,none⟩=false:=by
 obtain⟨o,cap,cs,hb,ht,h1,h2,h3⟩:=h.own
 have hl:=lt_of_heap hb
 have hne:tb≠rb:=by
  intro e;subst e
  rw[hb]at ht;simp at ht;exact absurd ht.2 (by decide)
 refine⟨hl,⟨o,cap,by simp[World.cell?,hb],?_,lt_of_heap ht,h1,h2,fun o2 ho=>?_⟩,by simp[World.frozen?,hb]⟩
 ·have:=h3 0 t rfl
  simp[World.cell?,ht]
  simpa [strV]using this
 ·refine⟨by have:=h.len;rw[length_cons]at this;omega,fun x hx=>h.toks x (mem_cons_of_mem _ hx),o2,cap-1,cs,?_,?_,by rw[length_cons]at h1;omega,by omega,?_⟩
  ·simp only[World.setCell,Array.getElem?_modify,if_pos,hb,Option.map_some,Option.isSome_none,Bool.false_eq_true,if_false]
   simp
  ·rw[Below.heap_setCell _ _ _ _ hne];exact ht
  ·intro i x hi
   rcases ho with ho|rfl
   ·exfalso
    have:ts=[]:=List.length_eq_zero_iff.1 (by rw[length_cons]at h1;omega)
    subst this
    simp at hi
   ·have:=h3 (i+1) x (by simpa using hi)
    rw[<- this];congr 1;omega
theorem take_T{rb tb:Nat}{t:List UInt8}{r:Toks}{w:World}(h:RqT rb tb (t::r) w):Calls prog 86 #[ptrV rb] w fun e w'=>e=.returned (.string (bs t))/\Hid (Kq rb w w'/\RqT rb tb r w'):=by
 obtain⟨hl,⟨o,cap,c0,c1,hl2,hc,hc2,hR⟩,hf⟩:=h.more
 have hcap:=h.len
 rw[length_cons]at hcap
 have hfin:∀w',Kq rb w w'->RqT rb tb r w'->(fun(e:Ending) (w':World)=>e=.returned (.string (bs t))/\Hid (Kq rb w w'/\RqT rb tb r w')) (.returned (.string (bs t))) w':=fun w' h1 h2=>⟨rfl,h1,h2⟩
 have HR:=hide hR
 have HF:=hide hfin
 clear h hR hfin
 unfold ptrV
 generalize (fun(e:Ending) (w':World)=>e=.returned (.string (bs t))/\Hid (Kq rb w w'/\RqT rb tb r w'))=Q at *
 generalize bs t=tx at *
 generalize hn:r.length=n at *
 have hd:((n:Int)+1==0)=false:=by simp;omega
 have hd2:¬((n:Int)+1=0):=by omega
 by_cases hc1:cap=1
 ·subst hc1
  obtain rfl:n=0:=by omega
  go_enter func86,ntmps86
  go_wp2
  exact HF.out _ ((Kq.refl _ _).setR _ _) (HR.out _ (inl trivial))
 ·go_enter func86,ntmps86
  go_wp2
  exact HF.out _ ((Kq.refl _ _).setR _ _) (HR.out _ (inr rfl))
def NamesAt(rb tb:Nat)(w:World)(ts:Toks)(gk:Nat)(v:Value)(wr:World):Prop:=
 ∃acc ts1,wr.ownsRow w.heap.size tyStr 1 v acc.length (acc.map strV)/\Kq rb w wr/\RqT rb tb ts1 wr/\gk=ts1.length/\acc.length+ts1.length<=ts.length/\acc++(G.every 110 ts1).1=(G.every 110 ts).1/\(G.every 110 ts1).2=(G.every 110 ts).2
def AnsNs(rb:Nat)(ts:Toks)(w:World)(e:Ending)(w':World):Prop:=
 ∃v,e=.returned v/\Kq rb w w'/\w'.ownsRow w.heap.size tyStr 1 v (G.every 110 ts).1.length ((G.every 110 ts).1.map strV)/\Rq rb (G.every 110 ts).2 w'/\(G.every 110 ts).1.length<=4000
def AnsNsT(rb tb:Nat)(ts:Toks)(w:World)(e:Ending)(w':World):Prop:=
 ∃v,e=.returned v/\Kq rb w w'/\w'.ownsRow w.heap.size tyStr 1 v (G.every 110 ts).1.length ((G.every 110 ts).1.map strV)/\RqT rb tb (G.every 110 ts).2 w'/\(G.every 110 ts).1.length<=4000
theorem p_namesT{rb tb:Nat}(ts:Toks)(w:World)(htb:tb<w.heap.size)(hT:RqT rb tb ts w):Calls prog 127 #[ptrV rb] w (AnsNsT rb tb ts w):=by
 have hlen:=hT.len
 have HAt:Hid (NamesAt rb tb w ts ts.length (.slice none 0 0) w):=⟨[],ts,World.ownsRow_nil _ _ _ _,Kq.refl _ _,hT,rfl,by simp,rfl,rfl⟩
 clear hT
 go_enter func127,ntmps127
 go_wp2_with fail
 go_loopg [3] ts.length (fun gk v wr=>Hid (NamesAt rb tb w ts gk v wr))
 case atStart=>exact HAt
 case round=>
  clear HAt
  obtain⟨acc,ts1,h1,h2,h3,rfl,h5,h6,h7⟩:=hrel.out
  have HP:=hide (peek_any h3.rq)
  have HI:=hide (IsName_tok h3.rq.head wr)
  cases hk:(tokKind (ts1.headD [])==110)
  ·rw[hk]at HI
   have hev:G.every 110 ts1=([],ts1):=by
    cases ts1 with
    |nil=>rfl
    |cons t r=>rw[G.every];rw[show (tokKind t==110)=false from hk]<;>rfl
   rw[hev]at h6 h7
   rw[append_nil]at h6
   have hQ:AnsNsT rb tb ts w (.returned _) wr:=⟨_,rfl,h2,by rw[<- h6];exact h1,by rw[<- h7];exact h3,by rw[<- h6];omega⟩
   have HQ:=hide hQ
   clear hrel h1 h2 h3 h5 h6 h7 hev hk hQ
   generalize bs (ts1.headD [])=bx at *
   go_wp2_with fail
   refine(HP.out).mono ?_;rintro e wp⟨rfl,hw⟩
   rw[hw];clear hw wp
   go_wp2_with fail
   refine(HI.out).mono ?_;rintro e wp⟨rfl,hw⟩
   rw[hw];clear hw wp
   go_wp2_with fail
   go_ret
   exact HQ.out
  ·obtain⟨t,r,rfl⟩:=kind_cons (ts:=ts1) (k:=110) (by decide) hk
   rw[hk]at HI
   have hev:G.every 110 (t::r)=(t::(G.every 110 r).1,(G.every 110 r).2):=by rw[G.every,show (tokKind t==110)=true from hk]<;>rfl
   rw[hev]at h6 h7
   rw[show (t::r).headD []=t from rfl]at HP HI
   have HT:=hide (take_T h3)
   have hacc:acc.length<=100000000:=by rw[length_cons]at h5;omega
   have H1:=hide h1
   have H2:=hide h2
   have H5:=hide h5
   have H6:=hide h6
   have H7:=hide h7
   have HR:=hide h3.rq
   clear hrel h1 h2 h3 h5 h6 h7 hev hk
   go_wp2_with fail
   refine(HP.out).mono ?_;rintro e wp⟨rfl,hw⟩
   rw[hw];clear hw wp
   go_wp2_with fail
   refine(HI.out).mono ?_;rintro e wp⟨rfl,hw⟩
   rw[hw];clear hw wp
   go_wp2_with fail
   refine(HT.out).mono ?_;rintro e w3⟨rfl,hT⟩
   have hown3:=ownsRow_kept (w':=w3) H1.out fun k c f _ he=>kq_other (by decide) HR.out.isR hT.out.1 he
   have hsz:w.heap.size<=w3.heap.size:=(H2.out.to hT.out.1).size
   clear HP HI HT HR
   go_wp2_with (at_builtin;refine append_str rfl _ _ rfl t hown3 hacc hsz rfl rfl ?_)
   intro v4 w4 hown4 hgr HLt
   have hown5:w4.ownsRow w.heap.size tyStr 1 v4 (acc++[t]).length ((acc++[t]).map strV):=by
    rw[length_append,map_append];exact hown4
   have hkg:=((H2.out.to hT.out.1).alloc _).grownOwn hgr (fun g hg=>(hown3.lt g hg).1)
   have hR4:RqT rb tb r w4:=by
    obtain⟨o,cap,cs,e1,e2,e3⟩:=hT.out.2.own
    have hrb:rb<w3.heap.size:=lt_of_heap e1
    refine⟨hT.out.2.len,hT.out.2.toks,o,cap,cs,?_,?_,e3⟩
    ·rw[hgr.block rb (by simp;omega) (fun e=>?_),Below.heap_alloc _ _ _ hrb]
     ·exact e1
     ·rcases hown3.2 with⟨rfl,_⟩|⟨g2,cap2,cur,rfl,_,hgg,_⟩
      ·simp[Value.ownBlock]at e
      ·have e:rb=g2:=by simpa [Value.ownBlock]using e
       subst e
       rw[e1]at hgg;simp at hgg
       exact absurd hgg.2 (by decide)
    ·rw[hgr.block tb (by simp;omega) (fun e=>?_),Below.heap_alloc _ _ _ (by omega)]
     ·exact e2
     ·have:=(hown3.lt tb e.symm).1;omega
   have HAt:Hid (NamesAt rb tb w ts r.length v4 w4):=by
    refine⟨acc++[t],r,hown5,hkg,hR4,rfl,?_,?_,H7.out⟩
    ·have:=H5.out;simp only[length_append,length_cons,length_nil]at *;omega
    ·rw[append_assoc];exact H6.out
   obtain⟨g',cap',rfl⟩:∃g' cap',v4=.slice (some ⟨g',0,none⟩) (acc++[t]).length cap':=by
    rcases ownsRow_forms hown5 with⟨_,hn0⟩|h
    ·simp at hn0
    ·exact h
   clear hown3 hown4 hown5 hgr HLt hkg hR4 H1 H2 H5 H6 H7 hT
   go_wp2_with fail
   go_roundg r.length
   case rel=>exact HAt
   case measure=>simp
theorem p_names{rb:Nat}(ts:Toks)(w:World)(h:Rq rb ts w):Calls prog 127 #[ptrV rb] w (AnsNs rb ts w):=by
 obtain⟨tb,htb,hT⟩:=h.tb
 refine(p_namesT ts w htb hT).mono ?_
 rintro e w'⟨v,h1,h2,h3,h4,h5⟩
 exact⟨v,h1,h2,h3,h4.rq,h5⟩
def FunOf:Prop:=∀(w0 w:World)(v:Value)(l:Toks)(t:Tr)(b:Nat),w0.heap.size<=w.heap.size->w.ownsRow 0 tyStr 1 v l.length (l.map strV)->l.length<=4001->Mem (From w0) w 0 t b ->
 Calls prog 128 #[v,ptrV b] w fun e w'=>∃b',e=.returned (ptrV b')/\Hid (Mem (From w0) w' 0 (G.curried l t) b'/\Below w.heap.size w w')
def AnsB(rb:Nat)(w:World)(o:Option (List UInt8×List UInt8×Tr×Toks))(e:Ending)(w':World):Prop:=
 Kq rb w w'/\((o=none/\e=gaveUp)\/∃is x t r b k,o=some (is,x,t,r)/\((is=K.let_/\k=6)\/(is=K.rec_/\k=7))/\e=.returned (.tuple #[.int .i64 k,.string (bs x),ptrV b])/\Mem (From w) w' 0 t b/\Rq rb r w')
theorem AnsB.no{rb:Nat}{w w':World}{o:Option (List UInt8×List UInt8×Tr×Toks)}(hk:Kq rb w w')(ho:o=none):AnsB rb w o gaveUp w':=⟨hk,inl ⟨ho,rfl⟩⟩
def LFam.bindE(L:LFam)(rc:Bool)(x:List UInt8)(ts:Toks):Option (List UInt8×List UInt8×Tr×Toks):=
 bif rc && (G.every 110 ts).1.isEmpty then none else(G.want K.eq_ (G.every 110 ts).2).bind fun r=>(L.expr r).bind fun z=>some (bif rc then K.rec_ else K.let_,x,G.curried (G.every 110 ts).1 z.1,z.2)
theorem binding_prog(ts:Toks):(choice lf).binding ts=(G.kind 110 (bif G.isW K.rec_ ts then ts.tail else ts)).bind fun nm=>(choice lf).bindE (G.isW K.rec_ ts) nm.1 nm.2:=(choice lf).binding_eq ts
theorem every_wt(k:Int)(ts:Toks):wt (G.every k ts).2<=wt ts:=by have:=wt_every k ts;omega
theorem Rq.onto{rb:Nat}{ts:Toks}{w w':World}(h:Rq rb ts w)(hb:Below w.heap.size w w'):Rq rb ts w':=h.kept fun k hk=>hb.block k hk
theorem p_binding{rb m:Nat}(hF:FunOf)(hX:∀ts w,wt ts<m->Rq rb ts w->ExprAt rb ts w)(ts:Toks)(w:World)(hm:wt ts<=m)(h:Rq rb ts w):Calls prog 88 #[ptrV rb] w (AnsB rb w ((choice lf).binding ts)):=by
 have H1:=hide (accept_w (x:=K.rec_) bsK_rec (by decide) h)
 have HNm:=hide (fun(ts:Toks) (w:World) (h:Rq rb ts w)=>name_any h)
 have HNs:=hide (fun(ts:Toks) (w:World) (h:Rq rb ts w)=>p_names ts w h)
 have HX:=hide (fun(ts:Toks) (w:World) (h:Rq rb ts w)=>expect_w (x:=K.eq_) bsK_eq (by decide) h)
 have HE1:=hide hX
 unfold ExprAt at HE1
 have HE:=hide (binding_prog ts)
 clear hX h
 go_enter func88,ntmps88
 go_wp2_with fail
 refine(H1.out).mono ?_;rintro e w2⟨hk2,⟨ho2,rfl,hr2⟩|⟨ho2,rfl,hr2⟩⟩
 ·rw[ho2,cond_false]at HE
  have HC:=hide (HNm.out ts w2 hr2)
  go_wp2_with fail
  refine(HC.out).mono ?_;rintro e w3⟨hk3,⟨ho3,rfl⟩|⟨x3,r3,ho3,rfl,hr3⟩⟩
  ·have HQ:=hide ((AnsB.no (o:=(choice lf).binding ts) (hk2.to hk3) (by rw[HE.out,ho3]<;>rfl)))
   unfold gaveUp noForm
   go_wp2
   exact⟨rfl,HQ.out⟩
  ·have hw3:=wt_kindO (by decide) ho3
   have hw3:wt ts=x3.length+20+wt r3:=hw3
   have hw4:=every_wt 110 r3
   have HB:=hide (show (choice lf).binding ts=(choice lf).bindE false x3 r3 by rw[HE.out,ho3,Option.bind_some]<;>rfl)
   have HC:=hide (HNs.out r3 w3 hr3)
   go_wp2_with fail
   refine(HC.out).mono ?_;rintro e w4⟨v4,rfl,hk4,hv4,hr4,hl4⟩
   have HD:=hide (HX.out _ w4 hr4)
   go_wp2_with fail
   refine(HD.out).mono ?_;rintro e w5⟨hk5,⟨ho5,rfl⟩|⟨r5,ho5,rfl,hr5⟩⟩
   ·have HQ:=hide ((AnsB.no (o:=(choice lf).binding ts) (((hk2.to hk3).to hk4).to hk5) (by rw[HB.out];unfold LFam.bindE;rw[Bool.false_and,cond_false,ho5]<;>rfl)))
    unfold gaveUp noForm
    go_wp2
    exact⟨rfl,HQ.out⟩
   ·have hw5:=wt_want ho5
    have HD:=hide (HE1.out r5 w5 (by omega) hr5)
    have hv5:=ownsRow_kept (w':=w5) hv4 fun k c f _ he=>kq_other (by decide) hr4.isR hk5 he
    go_wp2_with fail
    refine(HD.out).mono ?_;rintro e w6⟨hk6,⟨ho6,rfl⟩|⟨t6,r6,b6,ho6,rfl,hm6,hr6⟩⟩
    ·have HQ:=hide ((AnsB.no (o:=(choice lf).binding ts) ((((hk2.to hk3).to hk4).to hk5).to hk6) (by rw[HB.out];unfold LFam.bindE;rw[Bool.false_and,cond_false,ho5,Option.bind_some,ho6]<;>rfl)))
     unfold gaveUp noForm
     go_wp2
     exact⟨rfl,HQ.out⟩
    ·have hv6:=ownsRow_kept (w':=w6) hv5 fun k c f _ he=>kq_other (by decide) hr5.isR hk6 he
     have hq6:=(((hk2.to hk3).to hk4).to hk5).to hk6
     have HF:=hide (hF w w6 v4 (G.every 110 r3).1 t6 b6 hq6.size (ownsRow_base hv6 (zero_le _)) (by omega) (hm6.since ((((hk2.to hk3).to hk4).to hk5))))
     have HFin:=hide (show (choice lf).binding ts=some (K.let_,x3,G.curried (G.every 110 r3).1 t6,r6) by rw[HB.out];unfold LFam.bindE;rw[Bool.false_and,cond_false,ho5,Option.bind_some,ho6]<;>rfl)
     have HR6:=hide hr6
     have HQ6:=hide hq6
     clear hv4 hv5 hv6 hr4 hr5 hr6 hm6 hq6 ho6 ho5 ho3 hk6 hk5 hk4 hk3 HB HD HC
     go_wp2_with fail
     refine(HF.out).mono ?_;rintro e w7⟨b7,rfl,h7⟩
     have HQ:=hide (show AnsB rb w ((choice lf).binding ts) (.returned (.tuple #[.int .i64 6,.string (bs x3),ptrV b7])) w7 from⟨HQ6.out.to (Kq.of_below h7.out.2),inr ⟨_,_,_,_,b7,6,HFin.out,inl ⟨rfl,rfl⟩,rfl,h7.out.1,HR6.out.onto h7.out.2⟩⟩)
     clear h7 HF HFin HR6 HQ6
     unfold ptrV at *
     go_wp2
     go_ret3
     exact HQ.out
 ·rw[ho2,cond_true]at HE
  have hw2:=wt_isW_lt ho2
  have HC:=hide (HNm.out ts.tail w2 hr2)
  go_wp2_with fail
  refine(HC.out).mono ?_;rintro e w3⟨hk3,⟨ho3,rfl⟩|⟨x3,r3,ho3,rfl,hr3⟩⟩
  ·have HQ:=hide ((AnsB.no (o:=(choice lf).binding ts) (hk2.to hk3) (by rw[HE.out,ho3]<;>rfl)))
   unfold gaveUp noForm
   go_wp2
   exact⟨rfl,HQ.out⟩
  ·have hw3:=wt_kindO (by decide) ho3
   have hw3:wt ts.tail=x3.length+20+wt r3:=hw3
   have hw4:=every_wt 110 r3
   have HB:=hide (show (choice lf).binding ts=(choice lf).bindE true x3 r3 by rw[HE.out,ho3,Option.bind_some]<;>rfl)
   have HC:=hide (HNs.out r3 w3 hr3)
   go_wp2_with fail
   refine(HC.out).mono ?_;rintro e w4⟨v4,rfl,hk4,hv4,hr4,hl4⟩
   rcases ownsRow_forms hv4 with⟨rfl,hn0⟩|⟨g,cap,rfl⟩
   ·have he0:(G.every 110 r3).1.isEmpty=true:=by rw[List.length_eq_zero_iff.1 hn0];rfl
    have HQ:=hide (AnsB.no (o:=(choice lf).binding ts) ((hk2.to hk3).to hk4) (by rw[HB.out];unfold LFam.bindE;rw[he0]<;>rfl))
    unfold gaveUp noForm at HQ
    clear hv4 hr4 hl4 he0
    go_wp2
    exact⟨rfl,HQ.out⟩
   ·by_cases hn0:(G.every 110 r3).1.length=0
    ·have he0:(G.every 110 r3).1.isEmpty=true:=by rw[List.length_eq_zero_iff.1 hn0];rfl
     have HQ:=hide (AnsB.no (o:=(choice lf).binding ts) ((hk2.to hk3).to hk4) (by rw[HB.out];unfold LFam.bindE;rw[he0]<;>rfl))
     unfold gaveUp noForm at HQ
     clear hv4 hr4 hl4 he0
     generalize (G.every 110 r3).1.length=n at *
     subst hn0
     go_wp2
     exact⟨rfl,HQ.out⟩
    ·have hne:(true && (G.every 110 r3).1.isEmpty)=false:=by
      cases h:(G.every 110 r3).1 with
      |nil=>rw[h]at hn0;simp at hn0
      |cons a b=>rfl
     have hn1:¬((G.every 110 r3).1.length:Int)=0:=by omega
     have hn2:(((G.every 110 r3).1.length:Int)==0)=false:=by simpa using hn1
     have HD:=hide (HX.out _ w4 hr4)
     go_wp2_with fail
     refine(HD.out).mono ?_;rintro e w5⟨hk5,⟨ho5,rfl⟩|⟨r5,ho5,rfl,hr5⟩⟩
     ·have HQ:=hide ((AnsB.no (o:=(choice lf).binding ts) (((hk2.to hk3).to hk4).to hk5) (by rw[HB.out];unfold LFam.bindE;rw[hne,ho5]<;>rfl)))
      unfold gaveUp noForm
      go_wp2
      exact⟨rfl,HQ.out⟩
     ·have hw5:=wt_want ho5
      have HD:=hide (HE1.out r5 w5 (by omega) hr5)
      have hv5:=ownsRow_kept (w':=w5) hv4 fun k c f _ he=>kq_other (by decide) hr4.isR hk5 he
      go_wp2_with fail
      refine(HD.out).mono ?_;rintro e w6⟨hk6,⟨ho6,rfl⟩|⟨t6,r6,b6,ho6,rfl,hm6,hr6⟩⟩
      ·have HQ:=hide ((AnsB.no (o:=(choice lf).binding ts) ((((hk2.to hk3).to hk4).to hk5).to hk6) (by rw[HB.out];unfold LFam.bindE;rw[hne,cond_false,ho5,Option.bind_some,ho6]<;>rfl)))
       unfold gaveUp noForm
       go_wp2
       exact⟨rfl,HQ.out⟩
      ·have hv6:=ownsRow_kept (w':=w6) hv5 fun k c f _ he=>kq_other (by decide) hr5.isR hk6 he
       have hq6:=(((hk2.to hk3).to hk4).to hk5).to hk6
       have HF:=hide (hF w w6 (.slice (some ⟨g,0,none⟩) (G.every 110 r3).1.length cap) (G.every 110 r3).1 t6 b6 hq6.size (ownsRow_base hv6 (zero_le _)) (by omega) (hm6.since ((((hk2.to hk3).to hk4).to hk5))))
       have HFin:=hide (show (choice lf).binding ts=some (K.rec_,x3,G.curried (G.every 110 r3).1 t6,r6) by rw[HB.out];unfold LFam.bindE;rw[hne,cond_false,ho5,Option.bind_some,ho6]<;>rfl)
       have HR6:=hide hr6
       have HQ6:=hide hq6
       clear hv4 hv5 hv6 hr4 hr5 hr6 hm6 hq6 ho6 ho5 ho3 hk6 hk5 hk4 hk3 HB HD HC
       go_wp2_with fail
       refine(HF.out).mono ?_;rintro e w7⟨b7,rfl,h7⟩
       have HQ:=hide (show AnsB rb w ((choice lf).binding ts) (.returned (.tuple #[.int .i64 7,.string (bs x3),ptrV b7])) w7 from⟨HQ6.out.to (Kq.of_below h7.out.2),inr ⟨_,_,_,_,b7,7,HFin.out,inr ⟨rfl,rfl⟩,rfl,h7.out.1,HR6.out.onto h7.out.2⟩⟩)
       clear h7 HF HFin HR6 HQ6
       unfold ptrV at *
       go_wp2
       go_ret3
       exact HQ.out
end Go.Proofs.YtbkiipiocpnnnaaGreatDoor
