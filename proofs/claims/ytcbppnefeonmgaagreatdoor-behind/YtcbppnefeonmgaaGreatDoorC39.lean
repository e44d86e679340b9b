import Derived.Test.YtcbppnefeonmgaaGreatDoorC38
set_option linter.all false
set_option maxHeartbeats 40000000
set_option maxRecDepth 100000
open Go.Proofs.Tryz
open Classical (choice)
open Or (inl inr)
open Nat (le_refl le_trans zero_le)
open List (append_nil length_append length_cons mem_append mem_singleton append_assoc cons_append mem_cons length_nil map_append length_map map_cons nil_append)
namespace Go.Proofs.YtcbppnefeonmgaaGreatDoor
open Go.RowKit
def progD(D:Toks->Option Tr):Nat->Toks->List Tr->List Tr×Nat×Nat
 |0,_,acc=>(acc,0,0)
 |n+1,T,acc=>
  if T.length=0 then(acc,0,0)
  else if stopAt T=T.length then([],acc.length,3)
  else match D (T.take (stopAt T))with
   |none=>([],acc.length,3)
   |some t=>progD D n (T.drop (stopAt T+1)) (acc++[t])
def progAD(D:Toks->Option Tr)(l:List UInt8):List Tr×Nat×Nat:=if (cutL l).2.2=0 then progD D ((cutL l).1.length+1) (cutL l).1 []else([],(cutL l).2.1,(cutL l).2.2)
def Low(D:Toks->Option Tr):Prop:=∀ts t,D ts=some t->∃n,G.decl n ts=some t
def ProgAtL(w:World)(T:Toks)(gk:Nat)(v5 v8:Value)(wr:World):Prop:=
 ∃ts1 acc ps n,gk=ts1.length/\ts1.length<=T.length/\ts1.length<n/\ps.length+ts1.length<=T.length/\T.length<=4000/\((v5=.slice none 0 0/\ts1=[])\/∃tb o cap,v5=.slice (some ⟨tb,o,none⟩) ts1.length cap/\TokAt tb o cap ts1 wr) /\
  wr.ownsRow w.heap.size tyTreeP 1 v8 ps.length (ps.map ptrV)/\Below w.heap.size w wr/\Mem.Mems (fun g=>w.heap.size<=g/\v8.ownBlock≠some g) wr (List.replicate ps.length 4) acc ps/\progD (choice lf).decl (T.length+1) T []=progD (choice lf).decl n ts1 acc
theorem p_ProgramL(hF:FunOf)(txt:ByteArray)(w:World)(hs:txt.size<=maxLen):Calls prog 10 #[.string txt] w (AnsP w (progAD (choice lf).decl txt.data.toList)):=by
 have hc:=Cut_any txt w hs
 have hlen:=cutL_len txt.data.toList
 have hgood:=fun(h0:(cutL txt.data.toList).2.1=0) (h:(cutL txt.data.toList).2.2=0)=>cutL_good txt.data.toList (cutL txt.data.toList).1 (Prod.ext rfl (Prod.ext h0 h))
 have hz:=fun(h:(cutL txt.data.toList).2.2=0)=>cutL_zero txt.data.toList h
 unfold progAD
 generalize cutL txt.data.toList=R at *
 obtain⟨T,at_,er⟩:=R
 simp only at hc hlen hgood hz ⊢
 have HC:=hide hc
 have HF:=hide hF
 clear hc hF
 by_cases her:er=0
 ·subst her
  have h0:=hz rfl
  subst h0
  have HG:=hide (hgood rfl rfl)
  rw[if_pos rfl]
  clear hgood hz
  go_enter func10,ntmps10
  go_wp2_with fail
  refine(HC.out).mono ?_;rintro e w1⟨v1,rfl,hv1,hb1⟩
  have HAt:Hid (ProgAtL w T T.length v1 (.slice none 0 0) w1):=by
   refine⟨T,[],[],T.length+1,rfl,le_refl _,by omega,by simp,hlen,?_,World.ownsRow_nil _ _ _ _,hb1,.nil,rfl⟩
   rcases hv1.2 with⟨rfl,hn0⟩|⟨g,cap,cur,rfl,hbg,hgg,hnc,hcm,hcs,htake⟩
   ·exact inl ⟨rfl,List.length_eq_zero_iff.1 hn0⟩
   ·refine inr ⟨g,0,cap,rfl,hlen,fun t ht=>⟨⟨?_,(HG.out t ht).2⟩,(HG.out t ht).1.1⟩,cur,hgg,hnc,hcm,fun i t hi=>?_⟩
    ·have:=((HG.out t ht).1.2 [] (inl rfl)).1
     rw[append_nil]at this;exact this
    ·have hil:i<T.length:=by
      by_cases hil:i<T.length
      ·exact hil
      ·rw[List.getElem?_eq_none (by omega)]at hi;cases hi
     have h1:(T.map strV)[i]?=some (strV t):=by rw[List.getElem?_map,hi];rfl
     rw[<- htake,List.getElem?_take,if_pos (by omega)]at h1
     rw[Nat.zero_add,<- Array.getElem?_toList];exact h1
  clear HC HG hv1 hb1
  go_wp2_with fail
  go_loopg [5,8] T.length (fun gk v5 v8 wr=>Hid (ProgAtL w T gk v5 v8 wr))
  case atStart=>exact HAt
  case round=>
   clear HAt
   obtain⟨ts1,acc,ps,n,rfl,h1,h2,h3,h4,h5,h6,h7,h8,h9⟩:=hrel.out
   clear hrel
   have hdone:ts1=[]->AnsP w ((progD (choice lf).decl (T.length+1) T [])) (.returned (.tuple #[u8,.int .i64 0,.int .i64 0])) wr:=by
    rintro rfl
    obtain⟨m,rfl⟩:∃m,n=m+1:=⟨n-1,by omega⟩
    have he:(progD (choice lf).decl (T.length+1) T [])=(acc,0,0):=by rw[h9,progD,if_pos (show ([]:Toks).length=0 from rfl)]
    rw[he]
    exact⟨_,ps,rfl,h6,h8.wide fun _ hf _=>hf.1,h7⟩
   have HDone:=hide hdone
   clear hdone
   rcases h5 with⟨rfl,rfl⟩|⟨tb,o,cap,rfl,h5⟩
   ·have HQ:=hide (HDone.out rfl)
    clear h6 h7 h8 h9 HDone
    go_wp2
    go_ret3
    exact HQ.out
   ·by_cases hz:ts1.length=0
    ·have HQ:=hide (HDone.out (List.length_eq_zero_iff.1 hz))
     clear h5 h6 h7 h8 h9 HDone
     generalize ts1.length=n1 at *
     subst hz
     go_wp2
     go_ret3
     exact HQ.out
    ·obtain⟨m,rfl⟩:∃m,n=m+1:=⟨n-1,by omega⟩
     have hle:=stopAt_le ts1
     have hidx:Calls prog 17 #[.slice (some ⟨tb,o,none⟩) ts1.length cap,.string ⟨#[46]⟩] wr fun e w'=>e=.returned (.int .i64 (if stopAt ts1=ts1.length then -1 else(stopAt ts1:Int)))/\w'=wr:=by
      have hI:=Tryz.slices_Index_string tb o ts1.length cap (ts1.map bs) (bs K.dot_) wr (by simp) (by omega) (by
       intro j hj
       obtain⟨cs,e1,e2,e3,e4⟩:=h5.own
       have hj':j<ts1.length:=by simpa using hj
       have:=e4 j ts1[j] (List.getElem?_eq_getElem hj')
       simp[World.cell?,e1,hj']
       exact this)
      rw[List.take_of_length_le (by simp),Lib.idxOfS,idx_stop,Nat.zero_add]at hI
      exact hI
     have hpos:(0:Int)<(ts1.length:Int):=by omega
     have hpsl:ps.length<=100000000:=by omega
     have HI:=hide hidx
     clear hidx
     have hforms:=ownsRow_forms h6
     by_cases hst:stopAt ts1=ts1.length
     ·have he:(progD (choice lf).decl (T.length+1) T [])=([],acc.length,3):=by rw[h9,progD,if_neg hz,if_pos hst]
      have hpl:=h8.length.2
      have HQ:=hide (show AnsP w ((progD (choice lf).decl (T.length+1) T [])) (.returned (.tuple #[.slice none 0 0,.int .i64 (ps.length:Nat),.int .i64 3])) wr by
       rw[he,hpl];exact⟨_,[],rfl,World.ownsRow_nil _ _ _ _,.nil,h7⟩)
      rw[if_pos hst]at HI
      clear h5 h6 h7 h8 h9 HDone he hst hle hpl
      generalize ts1.length=n1 at *
      generalize ps.length=pn at *
      rcases hforms with⟨rfl,rfl⟩|⟨g,cap2,rfl⟩
      ·go_wp2_with fail
       refine(HI.out).mono ?_;rintro e wp⟨rfl,hw⟩
       rw[hw];clear hw wp
       go_wp2
       go_ret3
       exact HQ.out
      ·go_wp2_with fail
       refine(HI.out).mono ?_;rintro e wp⟨rfl,hw⟩
       rw[hw];clear hw wp
       go_wp2
       go_ret3
       exact HQ.out
     ·rw[if_neg hst]at HI
      have hlt:stopAt ts1<ts1.length:=by omega
      obtain⟨cs0,_,hcap1,hcap2,_⟩:=h5.own
      have hR:=p_readDeclaration HF.out (ts1.take (stopAt ts1)) wr (h5.take (stopAt ts1) hle)
      have htl:(ts1.take (stopAt ts1)).length=stopAt ts1:=by simp;omega
      rw[htl]at hR
      have heN:(choice lf).decl (ts1.take (stopAt ts1))=none->(progD (choice lf).decl (T.length+1) T [])=([],acc.length,3):=fun h=>by rw[h9,progD,if_neg hz,if_neg hst,h]
      have heS:∀t,(choice lf).decl (ts1.take (stopAt ts1))=some t->progD (choice lf).decl (T.length+1) T []=progD (choice lf).decl m (ts1.drop (stopAt ts1+1)) (acc++[t]):=fun t h=>by rw[h9,progD,if_neg hz,if_neg hst,h]
      have HEN:=hide heN
      have HES:=hide heS
      have HR:=hide hR
      have H5:=hide h5
      have H6:=hide h6
      have H7:=hide h7
      have H8:=hide h8
      have hdl:(ts1.drop (stopAt ts1+1)).length=ts1.length-(stopAt ts1+1):=by simp
      have HDL:=hide hdl
      have HT5:=hide (fun o2=>h5.drop (stopAt ts1+1) (by omega) o2)
      clear hR heN heS h5 h6 h7 h8 h9 HDone htl hst hdl
      have hk0:(0:Int)<=(stopAt ts1:Int):=by omega
      have hk1:(stopAt ts1:Int)<=(cap:Int):=by omega
      have hk2:¬(stopAt ts1:Int)<0:=by omega
      have hk3:¬cap=0:=by omega
      have hk4:stopAt ts1<=4000:=by omega
      have hk5:(stopAt ts1:Int)+1<=(ts1.length:Int):=by omega
      have hk6:(0:Int)<=(stopAt ts1:Int)+1:=by omega
      go_wp2_with fail
      refine(HI.out).mono ?_;rintro e wp⟨rfl,hw⟩
      rw[hw];clear hw wp
      go_wp2_with fail
      refine(HR.out).mono ?_;rintro e w2⟨hb2,⟨ho2,rfl⟩|⟨t2,b2,ho2,rfl,hm2⟩⟩
      ·have hpl:=H8.out.length.2
       have HQ:=hide (show AnsP w ((progD (choice lf).decl (T.length+1) T [])) (.returned (.tuple #[.slice none 0 0,.int .i64 (ps.length:Nat),.int .i64 3])) w2 by
        rw[HEN.out ho2,hpl];exact⟨_,[],rfl,World.ownsRow_nil _ _ _ _,.nil,H7.out.trans (hb2.mono H7.out.size)⟩)
       clear HI HR HEN HES H5 H6 H7 H8 HDL HT5 hpl
       generalize ps.length=pn at *
       rcases hforms with⟨rfl,rfl⟩|⟨g,cap2,rfl⟩
       ·go_wp2
        go_ret3
        exact HQ.out
       ·go_wp2
        go_ret3
        exact HQ.out
      ·have hown2:=ownsRow_below H6.out hb2
       have hms2:=H8.out.onto hb2
       have hv8:∀g,u8.ownBlock=some g->g<wr.heap.size:=fun g hg=>(H6.out.lt g hg).2
       have hm2':Mem (fun g=>w.heap.size<=g/\u8.ownBlock≠some g) w2 4 t2 b2:=hm2.wide fun k hf _=>⟨le_trans H7.out.size hf,fun e=>by have:=hv8 k e;have hf:wr.heap.size<=k:=hf;omega⟩
       have hbel2:Below w.heap.size w w2:=H7.out.trans (hb2.mono H7.out.size)
       have hbs2:w.heap.size<=w2.heap.size:=hbel2.size
       have HMS:=hide hms2
       have HM:=hide hm2'
       have HBEL:=hide hbel2
       have HPR:=hide (HES.out t2 ho2)
       have HB2:=hide hb2
       have HOWN:=hide hown2
       clear hms2 hm2 hm2' hbel2 hb2 H6 H7 H8 HI HR HEN HES H5 ho2 hforms
       unfold ptrV at *
       go_wp2_with (at_builtin;refine append_ptr rfl _ _ rfl b2 hown2 hpsl hbs2 rfl rfl ?_)
       intro v9 w9 hown9 hgr9 HLt9
       have hown10:w9.ownsRow w.heap.size tyTreeP 1 v9 (ps++[b2]).length ((ps++[b2]).map ptrV):=by
        rw[length_append,map_append];exact hown9
       have hms9:=row_put (A:=fun w v g=>w.heap.size<=g/\v.ownBlock≠some g) rfl HOWN.out HMS.out HM.out hgr9 HLt9.out
       have hbel9:Below w.heap.size w w9:=(HBEL.out.alloc hbs2 _).grown hgr9 (by simp;omega) (fun k e=>(HOWN.out.lt k e).1)
       have htk9:∀{o2:Nat},TokAt tb o2 (cap-(stopAt ts1+1)) (ts1.drop (stopAt ts1+1)) wr->TokAt tb o2 (cap-(stopAt ts1+1)) (ts1.drop (stopAt ts1+1)) w9:=by
        intro o2 h
        refine((h.kept (w':=w2) fun k c f he=>HB2.out.block k (lt_of_heap he))).kept (fun k c f he=>?_)
        rw[hgr9.block k (by have:=lt_of_heap he;simp;omega) (fun e=>?_),Below.heap_alloc _ _ _ (lt_of_heap he)]
        rcases HOWN.out.2 with⟨rfl,_⟩|⟨g2,cap3,cur,rfl,_,hgg,_⟩
        ·simp[Value.ownBlock]at e
        ·have e:k=g2:=by simpa [Value.ownBlock]using e
         subst e
         rw[he]at hgg;simp at hgg
         exact absurd hgg.2.1 (by decide)
       have hcs:List.replicate ps.length 4++[4]=List.replicate (ps++[b2]).length 4:=by rw[length_append];exact(List.replicate_succ' ..).symm
       rw[hcs]at hms9
       have hnext:∀o2,(cap=stopAt ts1+1\/o2=o+(stopAt ts1+1))->ProgAtL w T (ts1.length-(stopAt ts1+1)) (.slice (some ⟨tb,o2,none⟩) (ts1.length-(stopAt ts1+1)) (cap-(stopAt ts1+1))) v9 w9:=by
        intro o2 ho
        have ht:=htk9 (HT5.out o2 ho)
        refine⟨ts1.drop (stopAt ts1+1),acc++[t2],ps++[b2],m,HDL.out.symm,by rw[HDL.out];omega,by rw[HDL.out];omega,by rw[HDL.out];simp;omega,h4,inr ⟨tb,o2,_,by rw[HDL.out],ht⟩,hown10,hbel9,hms9,HPR.out⟩
       have HNX:=hide hnext
       obtain⟨g',cap',rfl⟩:∃g' cap',v9=.slice (some ⟨g',0,none⟩) (ps++[b2]).length cap':=by
        rcases ownsRow_forms hown10 with⟨_,hn0⟩|h
        ·simp at hn0
        ·exact h
       clear hown2 hown9 hown10 hgr9 HLt9 hms9 hbel9 htk9 hcs hnext HMS HM HBEL HPR HB2 HOWN HT5
       by_cases hcap:cap=stopAt ts1+1
       ·have HN1:=hide (HNX.out o (inl hcap))
        rw[show cap-(stopAt ts1+1)=0 by omega]at HN1
        clear HNX
        go_wp2_with fail
        go_roundg (ts1.length-(stopAt ts1+1))
        case rel=>exact HN1
        case measure=>omega
       ·have HN1:=hide (HNX.out (o+(stopAt ts1+1)) (inr rfl))
        clear HNX
        go_wp2_with fail
        go_roundg (ts1.length-(stopAt ts1+1))
        case rel=>exact HN1
        case measure=>omega
 ·rw[if_neg her]
  clear hgood hz
  have hQ:∀w1,Below w.heap.size w w1->AnsP w ([],at_,er) (.returned (.tuple #[.slice none 0 0,.int .i64 at_,.int .i64 er])) w1:=fun w1 hb=>⟨_,[],rfl,World.ownsRow_nil _ _ _ _,.nil,hb⟩
  have HQ:=hide hQ
  have her2:((er:Int) != 0)=true:=by simpa using her
  have her3:¬(er:Int)=0:=by omega
  clear hQ
  go_enter func10,ntmps10
  go_wp2_with fail
  refine(HC.out).mono ?_;rintro e w1⟨v1,rfl,hv1,hb1⟩
  have HB:=hide (HQ.out w1 hb1)
  clear hv1 hb1 HQ
  go_wp2
  go_ret3
  exact HB.out
theorem progD_len(D:Toks->Option Tr):∀(n:Nat)(T:Toks)(acc:List Tr),(progD D n T acc).1.length<=acc.length+T.length:=by
 intro n
 induction n with
 |zero=>intro T acc;exact Nat.le_add_right _ _
 |succ n ih=>
  intro T acc
  rw[progD]
  split
  ·exact Nat.le_add_right _ _
  ·split
   ·exact zero_le _
   ·split
    ·exact zero_le _
    ·rename_i h1 h2 _ t1 _
     have:=ih (T.drop (stopAt T+1)) (acc++[t1])
     refine le_trans this ?_
     rw[length_append,List.length_drop,length_cons,length_nil]
     omega
theorem progD_w{D:Toks->Option Tr}(hL:Low D):∀(n:Nat)(T:Toks)(acc:List Tr)(t:Tr),t∈(progD D n T acc).1->t∈acc\/mu t<=wt T:=by
 intro n
 induction n with
 |zero=>intro T acc t h;exact inl h
 |succ n ih=>
  intro T acc t h
  rw[progD]at h
  split at h
  ·exact inl h
  ·split at h
   ·cases h
   ·split at h
    ·cases h
    ·rename_i t1 ht1
     rcases ih _ _ _ h with h|h
     ·rcases mem_append.1 h with h|h
      ·exact inl h
      ·rw[mem_singleton.1 h]
       obtain⟨_,ht1⟩:=hL _ _ ht1
       have h1:=decl_w ht1
       have h2:=wt_take (stopAt T) T
       exact inr (by omega)
     ·have h2:=wt_drop (stopAt T+1) T
      exact inr (by omega)
theorem progD_full{D:Toks->Option Tr}(hL:Low D):∀(n:Nat)(T:Toks)(acc:List Tr),(∀t∈acc,t.dfull)->∀t∈(progD D n T acc).1,t.dfull:=by
 intro n
 induction n with
 |zero=>intro T acc h;exact h
 |succ n ih=>
  intro T acc h
  rw[progD]
  split
  ·exact h
  ·split
   ·intro t ht;cases ht
   ·split
    ·intro t ht;cases ht
    ·rename_i t1 hd
     refine ih _ _ fun t ht=>?_
     rcases mem_append.1 ht with ht|ht
     ·exact h t ht
     ·rw[mem_singleton.1 ht];obtain⟨_,hd⟩:=hL _ _ hd;exact decl_full hd
theorem progD_acc(D:Toks->Option Tr):∀(n:Nat)(T:Toks)(acc:List Tr),(progD D n T acc).2.2=0->∃D2,(progD D n T acc).1=acc++D2:=by
 intro n
 induction n with
 |zero=>intro T acc _;exact⟨[],by simp[progD]⟩
 |succ n ih=>
  intro T acc h
  rw[progD]at h ⊢
  split at h
  ·rename_i he;rw[if_pos he];exact⟨[],by simp⟩
  ·rename_i he
   rw[if_neg he]
   split at h
   ·simp at h
   ·rename_i hs
    rw[if_neg hs]
    cases hd:D (T.take (stopAt T))with
    |none=>rw[hd]at h;simp at h
    |some t=>
     rw[hd]at h
     simp only at h ⊢
     obtain⟨D2,h2⟩:=ih _ _ h
     exact⟨_,by rw[h2,append_assoc]⟩
theorem progD_err(D:Toks->Option Tr):∀(n:Nat)(T:Toks)(acc:List Tr),((progD D n T acc).2.2=0/\(progD D n T acc).2.1=0)\/(progD D n T acc).2.2=3:=by
 intro n
 induction n with
 |zero=>intro T acc;exact inl ⟨rfl,rfl⟩
 |succ n ih=>
  intro T acc
  rw[progD]
  split
  ·exact inl ⟨rfl,rfl⟩
  ·split
   ·exact inr rfl
   ·split
    ·exact inr rfl
    ·exact ih _ _
theorem progD_more(D:Toks->Option Tr)(T2:Toks):∀(n:Nat)(T:Toks)(acc E:List Tr),T.length<n->progD D n T acc=(E,0,0)->∀n',T.length+T2.length<n'->∃n'',T2.length<n''/\progD D n' (T++T2) acc=progD D n'' T2 E:=by
 intro n
 induction n with
 |zero=>intro T acc E h;omega
 |succ n ih=>
  intro T acc E hl h n' hn'
  rw[progD]at h
  by_cases h0:T.length=0
  ·rw[if_pos h0]at h
   have:T=[]:=List.length_eq_zero_iff.1 h0
   subst this
   have hD:acc=E:=congrArg Prod.fst h
   subst hD
   exact⟨n',by simp at hn';omega,rfl⟩
  ·rw[if_neg h0]at h
   obtain⟨n1,rfl⟩:∃n1,n'=n1+1:=⟨n'-1,by omega⟩
   have hle:=stopAt_le T
   split at h
   ·have:=congrArg (fun q=>q.2.2) h;simp at this
   ·rename_i hs
    have hlt:stopAt T<T.length:=by omega
    have hsa:=stopAt_append T T2 hlt
    cases hd:D (T.take (stopAt T))with
    |none=>rw[hd]at h;have:=congrArg (fun q=>q.2.2) h;simp at this
    |some t=>
     rw[hd]at h
     rw[progD,if_neg (by rw[length_append];omega),hsa,if_neg (by rw[length_append];omega),List.take_append_of_le_length (by omega),hd]
     simp only
     rw[List.drop_append_of_le_length (by omega)]
     simp only at h
     exact ih _ _ _ (by rw[List.length_drop];omega) h _ (by rw[List.length_drop];omega)
theorem prog_behindD{D:Toks->Option Tr}{l m:List UInt8}(h:(progAD D l).2.2=0)(hl:l.length<=1500)(hm:m.length<=1500) :
  (progAD D (35::120::10::(l++10::m))).2.2≠1/\((progAD D (35::120::10::(l++10::m))).2.2=0->∃D2,(progAD D (35::120::10::(l++10::m))).1=(progAD D l).1++D2):=by
 unfold progAD at h
 split at h
 ·rename_i h0
  have hz:=cutL_zero l h0
  have hcut:cutL l=((cutL l).1,0,0):=Prod.ext rfl (Prod.ext hz h0)
  obtain⟨h1,h2⟩:=cut_behind (m:=m) hcut hl hm
  unfold progAD
  rw[if_pos h0]
  split
  ·rename_i h3
   obtain⟨T2,h4⟩:=h2 h3
   rw[h4]
   generalize (cutL l).1=T at *
   have hD:progD D (T.length+1) T []=((progD D (T.length+1) T []).1,0,0):=by
    rcases progD_err D (T.length+1) T []with h5|h5
    ·exact Prod.ext rfl (Prod.ext h5.2 h5.1)
    ·rw[h5]at h;cases h
   obtain⟨n2,_,h6⟩:=progD_more D T2 _ T [] _ (by omega) hD ((T++T2).length+1) (by rw[length_append];omega)
   rw[h6]
   refine⟨?_,fun he=>progD_acc _ _ _ _ he⟩
   rcases progD_err D n2 T2 (progD D (T.length+1) T []).1 with h7|h7
   ·rw[h7.1];decide
   ·rw[h7];decide
  ·rename_i h3
   exact⟨h1,fun he=>absurd he h3⟩
 ·rename_i h0
  exact absurd h h0
theorem progAD_len(D:Toks->Option Tr)(l:List UInt8):(progAD D l).1.length<=4000:=by
 unfold progAD
 split
 ·have:=progD_len D ((cutL l).1.length+1) (cutL l).1 []
  have h2:=cutL_len l
  simp only[length_nil,Nat.zero_add]at this
  omega
 ·exact zero_le _
theorem progAD_full{D:Toks->Option Tr}(hL:Low D)(l:List UInt8):∀t∈(progAD D l).1,t.dfull:=by
 unfold progAD
 split
 ·exact progD_full hL _ _ _ (by simp)
 ·intro t ht;cases ht
theorem low_L:Low (choice lf).decl:=fun ts t h=>((choice lf).decl_Lim ts).gets h
structure DOk(D:Toks->Option Tr):Prop where
 low:Low D
 prog:∀(txt:ByteArray)(w:World),txt.size<=maxLen->Calls prog 10 #[.string txt] w (AnsP w (progAD D txt.data.toList))
theorem dok:DOk (choice lf).decl:=⟨low_L,fun txt w hs=>p_ProgramL funOf_any txt w hs⟩
theorem wt_append:∀(a b:Toks),wt (a++b)=wt a+wt b:=by
 intro a
 induction a with
 |nil=>intro b;rw[nil_append,wt,Nat.zero_add]
 |cons t r ih=>intro b;rw[cons_append,wt,wt,ih];omega
theorem cutF_wt(n:Nat):∀(l:List UInt8) (k:Nat) (acc:List (List UInt8)),wt (cutF n l k acc).1<=wt acc+21*l.length:=by
 induction n with
 |zero=>intro l k acc;simp[cutF]
 |succ n ih=>
  intro l k acc
  simp only[cutF]
  split
  ·simp
  ·split
   ·rw[wt];omega
   ·rename_i h1 h2
    have:=ih ((l.drop (gap false l)).drop (tokLen (l.drop (gap false l)))) (k+gap false l+tokLen (l.drop (gap false l))) (acc++[(l.drop (gap false l)).take (tokLen (l.drop (gap false l)))])
    have h3:=tokLen_le (l.drop (gap false l))
    rw[wt_append,wt,wt]at this
    simp only[List.length_drop,List.length_take]at this h3
    omega
theorem cutL_wt(l:List UInt8):wt (cutL l).1<=84000:=by
 unfold cutL
 split
 ·rw[wt];omega
 ·have:=cutF_wt (l.length+1) l 0 []
  rw[wt]at this
  omega
theorem progAD_mu{D:Toks->Option Tr}(hL:Low D)(l:List UInt8):∀t∈(progAD D l).1,mu t<=84000:=by
 intro t ht
 unfold progAD at ht
 split at ht
 ·rcases progD_w hL _ _ _ t ht with h|h
  ·cases h
  ·exact le_trans h (cutL_wt l)
 ·cases ht
def declsOf(D:Toks->Option Tr)(l:List UInt8):List Nd:=(progAD D l).1.map (ndOf 4)
section
variable {w w':World}
theorem Mems.nds{A:Nat->Prop}:∀{ts:List Tr}{ps:List Nat}{n:Nat},Mem.Mems A w (List.replicate n 4) ts ps->NMem.NMems w (ts.map (ndOf 4)) ps/\∀t∈ts,Sh 4 (ndOf 4 t)/\(ndOf 4 t).ms<=mu t:=by
 intro ts
 induction ts with
 |nil=>
  intro ps n h
  cases ps with
  |nil=>exact⟨by rw[List.map_nil,NMem.NMems];trivial,by simp⟩
  |cons b bs=>cases n<;>simp[Mem.Mems,List.replicate_succ]at h
 |cons t r ih=>
  intro ps n h
  cases n with
  |zero=>cases ps<;>simp[Mem.Mems]at h
  |succ n=>
   rw[List.replicate_succ]at h
   obtain⟨t',r',b0,br,e1,rfl,h1,h2⟩:=h.uncons
   cases e1
   obtain⟨q1,q2⟩:=ih h2
   obtain⟨n1,n2,n3⟩:=h1.nd
   refine⟨by rw[map_cons];exact NMem.joined n1 q1,fun x hx=>?_⟩
   rcases mem_cons.1 hx with rfl|hx
   ·exact⟨n2,n3⟩
   ·exact q2 x hx
def RdA(D:Toks->Option Tr)(l:List UInt8)(w:World)(e:Ending)(w':World):Prop:=
 Below w.heap.size w w' /\
 (((progAD D l).2.2≠0/\e=.returned (.tuple #[.pointer none,.int .i64 (progAD D l).2.1,.int .i64 (progAD D l).2.2])) \/
  ((progAD D l).2.2=0/\(∀nd∈declsOf D l,DeclFine nd) /\
   (((readD 0 ahead (declsOf D l)).1.2≠0/\e=.returned (.tuple #[.pointer none,.int .i64 (readD 0 ahead (declsOf D l)).1.1,.int .i64 (readD 0 ahead (declsOf D l)).1.2])) \/
   ((readD 0 ahead (declsOf D l)).1=(0,0)/\∃pb ad rk tb dv bv,e=.returned (.tuple #[ptrV pb,.int .i64 0,.int .i64 0])/\PsM (arOf (declsOf D l)) ad rk (readD 0 ahead (declsOf D l)).2 tb pb dv bv w'/\∀b∈ad,w.heap.size<=b))))
def AheadAt(w:World)(e:Ending)(w':World):Prop:=
 Kn (fun _=>False) w w'/\∃tb ad rk,e=.returned (.map (some tb))/\w.heap.size<=tb/\(∀b∈ad,w.heap.size<=b)/\Tab ad tb ahead.env w'/\∀ar,ArOk ar->StoM ar ad (fun _=>False) rk ahead.sto w'
theorem readD_cons(i:Nat)(p:PS)(nd:Nd)(r:List Nd):readD i p (nd::r)=if (declare p nd).1≠0 then((i,(declare p nd).1),(declare p nd).2)else readD (i+1) (declare p nd).2 r:=by rw[readD]
theorem readD_snoc:∀(a:List Nd)(i:Nat)(p:PS)(nd:Nd),(readD i p a).1=(0,0)->readD i p (a++[nd])=if (declare (readD i p a).2 nd).1≠0 then((i+a.length,(declare (readD i p a).2 nd).1),(declare (readD i p a).2 nd).2)else((0,0),(declare (readD i p a).2 nd).2):=by
 intro a
 induction a with
 |nil=>
  intro i p nd _
  rw[nil_append,readD_cons,show readD i p []=((0,0),p)from rfl,length_nil,Nat.add_zero]
  rfl
 |cons x r ih=>
  intro i p nd h
  rw[readD_cons]at h
  rw[cons_append,readD_cons]
  split at h
  ·rename_i hx
   exact absurd (Prod.mk.inj h).2 hx
  ·rename_i hx
   rw[if_neg hx]
   rw[show readD i p (x::r)=readD (i+1) (declare p x).2 r by rw[readD_cons,if_neg hx]]
   rw[ih _ _ _ h,show i+1+r.length=i+(r.length+1) by omega,length_cons]
theorem readD_stop:∀(a b:List Nd)(i:Nat)(p:PS),(readD i p a).1.2≠0->readD i p (a++b)=readD i p a:=by
 intro a
 induction a with
 |nil=>intro b i p h;exact absurd rfl h
 |cons x r ih=>
  intro b i p h
  rw[readD_cons]at h
  rw[cons_append,readD_cons,readD_cons]
  split at h
  ·rename_i hx;rw[if_pos hx,if_pos hx]
  ·rename_i hx;rw[if_neg hx,if_neg hx];exact ih b _ _ h
structure RlD(ds:List Nd)(w:World)(pb tb:Nat)(dv:Value)(g:Value)(bl:List Nat)(i:Nat)(wr:World):Prop where
 ok:(readD 0 ahead (ds.take i)).1=(0,0)
 es:EsOk (arOf ds) (readD 0 ahead (ds.take i)).2.env (ds.take i)
 nb:(readD 0 ahead (ds.take i)).2.binds.length<=i
 ps:∃ad rk bv,PsM (arOf ds) ad rk (readD 0 ahead (ds.take i)).2 tb pb dv bv wr/\(∀b∈ad,w.heap.size<=b)/\∀b,bv.ownBlock=some b->w.heap.size<=b
 bw:Below w.heap.size w wr
 tr:NMem.NMems wr ds bl
 rw:wr.ownsRow w.heap.size tyTreeP 1 g bl.length (bl.map ptrV)
theorem declare_binds{p p':PS}{nd:Nd}{e:Nat}(h:declare p nd=(e,p')):p'.binds.length<=p.binds.length+1:=by
 unfold declare at h
 simp only at h
 split at h
 ·cases h;omega
 ·split at h
  ·cases h;dsimp only;omega
  ·split at h
   ·cases h;omega
   ·split at h
    ·cases h;dsimp only;omega
    ·cases h;dsimp only;rw[length_append];simp
theorem RlD.start{D:Toks->Option Tr}{l:List UInt8}{u u2 w:World}{g:Value}{bl:List Nat}{tb:Nat}{dv:Value}{ad:List Nat}{rk:Nat->Nat}(hf:∀nd∈declsOf D l,DeclFine nd)(hr:u.ownsRow w.heap.size tyTreeP 1 g bl.length (bl.map ptrV))(hm:NMem.NMems u (declsOf D l) bl)(hb:Below w.heap.size w u)
  (hk:Kn (fun _=>False) u u2) (ht:Tab ad tb ahead.env u2) (hs:∀ar,ArOk ar->StoM ar ad (fun _=>False) rk ahead.sto u2) (hlo:∀b∈ad,u.heap.size<=b) (hdv:dv=g) :
  RlD (declsOf D l) w u2.heap.size tb dv g bl 0 (u2.alloc (.cells #[dv,.slice none 0 0,.map (some tb)] tyProg)):=by
 have hk3:Kn (fun _=>False) u2 (u2.alloc (.cells #[dv,.slice none 0 0,.map (some tb)] tyProg)):=(Kn.refl _ u2).alloc _
 have hk4:=hk.trans hk3
 have hsz:=hb.size
 refine⟨rfl,ahead_es _,le_refl _,⟨ad,rk,.slice none 0 0,⟨(hs _ (arOf_ok hf)).stays hk3,rfl,ht.stays hk3,(MapKept.heap_alloc u2 _).1,World.ownsRow_nil _ _ _ _,by simp[List.take_zero,readD,ahead]⟩,fun b hb2=>?_,fun b hb2=>by simp[Value.ownBlock]at hb2⟩,?_,?_,?_⟩
 ·have:=hlo b hb2;omega
 ·refine⟨hk4.os.trans hb.os,hk4.tape.trans hb.tape,hk4.output.trans hb.output,le_trans hb.size hk4.size,fun k hk5=>?_⟩
  rw[hk4.block k (by omega) id];exact hb.block k hk5
 ·exact hm.kept (fun q c f hc=>hk4.block q (lt_of_heap hc) id) (fun q c f hc=>hk4.block q (lt_of_heap hc) id)
 ·exact ownsRow_kept hr fun q c f _ hc=>hk4.block q (lt_of_heap hc) id
theorem RlD.step{ds:List Nd}{w:World}{pb tb:Nat}{dv:Value}{a:Option Addr}{n c:Nat}{bl:List Nat}{i:Nat}{wr:World}(hf:∀nd∈ds,DeclFine nd)(hds:ds.length<=100000)(htb:w.heap.size<=tb)(hpb:w.heap.size<=pb)(h:RlD ds w pb tb dv (.slice a n c) bl i wr)(hi:i<n) :
  ∃g b,a=some ⟨g,0,none⟩/\wr.cell? ⟨g,i,none⟩=some (ptrV b)/\g<wr.heap.size /\
   Calls prog 24 #[ptrV pb,ptrV b] wr fun e u=>∃er:Nat,e=.returned (.int .i64 er)/\er<=1000/\Below w.heap.size w u /\
    (er≠0->readD 0 ahead ds=((i,er),(declare (readD 0 ahead (ds.take i)).2 (ds[i]?.getD ⟨0,[],[]⟩)).2))/\(er=0->Hid (RlD ds w pb tb dv (.slice a n c) bl (i+1) u)):=by
 have hlen:=h.tr.len
 obtain⟨hnn,hav⟩:n=bl.length/\(0<bl.length->∃g',a=some ⟨g',0,none⟩):=by
  rcases ownsRow_forms h.rw with⟨h,h0⟩|⟨g,cap,h⟩
  ·cases h;exact⟨h0.symm,fun h=>by omega⟩
  ·cases h;exact⟨rfl,fun _=>⟨g,rfl⟩⟩
 have hv:ds[i]?=some ds[i]:=List.getElem?_eq_getElem (by omega)
 have htk:ds.take (i+1)=ds.take i++[ds[i]]:=by rw[List.take_add_one,hv];rfl
 have hsplit:ds=ds.take i++ds[i]::ds.drop (i+1):=by
  rw[List.getElem_cons_drop]
  exact(List.take_append_drop i ds).symm
 generalize ds[i]=nd at hv htk hsplit
 obtain⟨b,hb,hmb⟩:=h.tr.at hv
 obtain⟨g,rfl⟩:=hav (by omega)
 have hrow:=h.rw
 rw[hnn]at hrow
 refine⟨g,b,rfl,?_,(hrow.lt g rfl).2,?_⟩
 ·rw[hrow.cellAt i (by omega),List.getElem?_map,hb];rfl
 ·obtain⟨ad,rk,bv,hps,hlo,hbo⟩:=h.ps
  have hes:=h.es
  rw[hsplit]at hf
  have hd:=declare_any (a:=ds.take i) (nd:=nd) (b:=ds.drop (i+1)) hf (by rw[<- hsplit];exact hes) (by rw[<- hsplit];exact hps) hmb (by have:=h.nb;omega)
  rw[<- hsplit]at hd hf
  refine hd.mono ?_
  rintro e u⟨hk,rfl,hok⟩
  have hbu:Below w.heap.size w u:=by
   refine⟨hk.os.trans h.bw.os,hk.tape.trans h.bw.tape,hk.output.trans h.bw.output,le_trans h.bw.size hk.size,fun q hq=>?_⟩
   rw[hk.block q (by have:=h.bw.size;omega) fun hd=>?_]
   ·exact h.bw.block q hq
   ·rcases hd with hd|hd|hd|hd
    ·have:=hlo q hd;omega
    ·omega
    ·omega
    ·have:=hbo q hd;omega
  have her:(declare (readD 0 ahead (ds.take i)).2 nd).1<=1000:=by
   unfold declare
   simp only
   split
   ·dsimp only
    unfold lkErr
    split
    ·omega
    ·split<;>omega
   ·split
    ·exact zero_le _
    ·split
     ·dsimp only;omega
     ·split<;>exact zero_le _
  refine⟨_,rfl,her,hbu,fun hne=>?_,fun h0=>?_⟩
  ·have hsn:=readD_snoc (ds.take i) 0 ahead nd h.ok
   rw[if_pos hne,Nat.zero_add,List.length_take,show min i ds.length=i by omega]at hsn
   have hst:=readD_stop (ds.take (i+1)) (ds.drop (i+1)) 0 ahead (by rw[htk,hsn];exact hne)
   rw[List.take_append_drop,htk,hsn]at hst
   rw[hv]
   exact hst
  ·obtain⟨l,rk',bv',hps',hl',hb'⟩:=hok h0
   have hsn:=readD_snoc (ds.take i) 0 ahead nd h.ok
   rw[if_neg (by simpa using h0)]at hsn
   have hdec:declare (readD 0 ahead (ds.take i)).2 nd=(0,(declare (readD 0 ahead (ds.take i)).2 nd).2):=Prod.ext h0 rfl
   have hse:=EsOk.step (b:=ds.drop (i+1)) (hf nd (List.mem_of_getElem? hv)) (by rw[<- hsplit];exact hes) hdec
   rw[<- hsplit]at hse
   have hbn:=declare_binds hdec
   have hkc:∀(q:Nat)(c:Array Value)(f:Nat×Nat)(t:TypeId),t=tyTree\/t=tyTreeP->wr.heap[q]?=some (.cells c t f)->u.heap[q]?=wr.heap[q]?:=fun q c f t ht hc=>hk.block q (lt_of_heap hc) fun hd=>by
    rcases hd with hd|hd|hd|hd
    ·exact hps.not_ad hc (by rcases ht with rfl|rfl<;>decide) hd
    ·exact hps.not_tb hc hd
    ·rw[hd,hps.prog]at hc
     rcases ht with rfl|rfl<;>exact absurd (cells_ty hc) (by decide)
    ·rcases hps.row.2 with⟨h1,_⟩|⟨g',cap',cur',h1,_,hgb,_⟩
     ·rw[h1]at hd;simp[Value.ownBlock]at hd
     ·rw[h1]at hd
      obtain rfl:g'=q:=by simpa [Value.ownBlock]using hd
      rw[hc]at hgb
      rcases ht with rfl|rfl<;>exact absurd (cells_ty hgb) (by decide)
   refine hide ⟨by rw[htk,hsn],by rw[htk,hsn];exact hse,by rw[htk,hsn];have:=h.nb;dsimp only;omega,⟨ad++l,rk',bv',by rw[htk,hsn];exact hps',fun q hq=>?_,fun q hq=>?_⟩,hbu,h.tr.kept (fun q c f hc=>hkc q c f _ (inl rfl) hc) (fun q c f hc=>hkc q c f _ (inr rfl) hc),ownsRow_kept h.rw fun q c f _ hc=>hkc q c f _ (inr rfl) hc⟩
   ·rcases mem_append.1 hq with hq|hq
    ·exact hlo q hq
    ·have:=hl' q hq;have:=h.bw.size;omega
   ·rcases hb' q hq with hq|hq
    ·exact hbo q hq
    ·have:=h.bw.size;omega
end
section
variable {w w':World}
theorem rd_facts{D:Toks->Option Tr}(hD:DOk D)(txt:ByteArray)(w:World)(hs:txt.size<=maxLen)(hA:∀u,Calls prog 23 #[] u (AheadAt u)) :
  Calls prog 10 #[.string txt] w fun e u=>∃a n c,∃place er:Nat,e=.returned (.tuple #[.slice a n c,.int .i64 place,.int .i64 er])/\n<=9223372036854775807/\(er≠0->RdA D txt.data.toList w (.returned (.tuple #[.pointer none,.int .i64 place,.int .i64 er])) u) /\
   (er=0->Calls prog 23 #[] u fun e u2=>∃tb,e=.returned (.map (some tb))/\∃LD:Nat->World->Prop,Hid (LD 0 (u2.alloc (.cells #[.slice a n c,.slice none 0 0,.map (some tb)] tyProg))) /\
    (∀i wr,LD i wr->i<n->∃g b,a=some ⟨g,0,none⟩/\wr.cell? ⟨g,i,none⟩=some (ptrV b)/\g<wr.heap.size/\Calls prog 24 #[ptrV u2.heap.size,ptrV b] wr fun e v=>∃er:Nat,e=.returned (.int .i64 er)/\er<=1000 /\
     (er≠0->RdA D txt.data.toList w (.returned (.tuple #[.pointer none,.int .i64 (i:Nat),.int .i64 er])) v)/\(er=0->Hid (LD (i+1) v))) /\
    ∀wr,LD n wr->RdA D txt.data.toList w (.returned (.tuple #[ptrV u2.heap.size,.int .i64 0,.int .i64 0])) wr):=by
 refine(hD.prog txt w hs).mono ?_
 rintro e u⟨v,ps,rfl,hrow,hm,hb⟩
 obtain⟨a,n,c,rfl⟩:∃a n c,v=.slice a n c:=by
  rcases ownsRow_forms hrow with⟨rfl,_⟩|⟨g,cap,rfl⟩
  ·exact⟨_,_,_,rfl⟩
  ·exact⟨_,_,_,rfl⟩
 have hnn:n=ps.length:=by
  rcases ownsRow_forms hrow with⟨h,h0⟩|⟨g,cap,h⟩
  ·cases h;exact h0.symm
  ·cases h;rfl
 obtain⟨hms,hsh⟩:=Mems.nds hm
 have hf:∀nd∈declsOf D txt.data.toList,DeclFine nd:=fun nd hnd=>by
  obtain⟨t,ht,rfl⟩:=List.mem_map.1 hnd
  obtain⟨q1,q2⟩:=hsh t ht
  have:=progAD_mu hD.low _ t ht
  exact decl_fine q1 (by omega) (progAD_full hD.low _ t ht)
 have hl:=hms.len
 have hdl:(declsOf D txt.data.toList).length<=100000:=by
  have:=progAD_len D txt.data.toList
  unfold declsOf;rw[length_map];omega
 refine⟨a,n,c,_,_,rfl,by have:=ownsRow_max hrow;omega,fun hne=>⟨hb,inl ⟨hne,rfl⟩⟩,fun h0=>(hA u).mono ?_⟩
 rintro e u2⟨hk,tb,ad,rk,rfl,htb,hlo,ht,hst⟩
 have hsz:=hb.size
 have hsz2:=hk.size
 refine⟨tb,rfl,fun i wr=>RlD (declsOf D txt.data.toList) w u2.heap.size tb (.slice a n c) (.slice a n c) ps i wr,hide (RlD.start hf hrow hms hb hk ht hst hlo rfl),fun i wr h hi=>?_,fun wr h=>?_⟩
 ·obtain⟨g,b,e1,e2,e3,hc⟩:=RlD.step hf hdl (by omega) (by omega) h hi
  refine⟨g,b,e1,e2,e3,hc.mono ?_⟩
  rintro e v⟨er,rfl,her,hbv,hbad,hgood⟩
  refine⟨er,rfl,her,fun hne=>⟨hbv,inr ⟨h0,hf,inl ?_⟩⟩,hgood⟩
  rw[hbad hne]
  exact⟨hne,rfl⟩
 ·obtain⟨h1,_,_,⟨ad',rk',bv',hps,hlo',_⟩,hbw,_,_⟩:=h
  have htl:(declsOf D txt.data.toList).take n=declsOf D txt.data.toList:=List.take_of_length_le (by rw[hnn,hl];exact le_refl _)
  rw[htl]at h1 hps
  exact⟨hbw,inr ⟨h0,hf,inr ⟨h1,u2.heap.size,ad',rk',tb,_,bv',rfl,hps,hlo'⟩⟩⟩
theorem Read_of{D:Toks->Option Tr}(hD:DOk D)(txt:ByteArray)(w:World)(hs:txt.size<=maxLen)(hA:∀u,Calls prog 23 #[] u (AheadAt u)):Calls prog 14 #[.string txt] w (RdA D txt.data.toList w):=by
 have hfx:=rd_facts hD txt w hs hA
 have HF:=hide hfx
 clear hfx hA hs hD
 generalize RdA D txt.data.toList w=Q at *
 unfold ptrV at *
 go_enter func14,ntmps14
 go_wp2_with fail
 refine(HF.out).mono ?_;rintro e u⟨a,n,c,place,er,rfl,hn,hbad,hgood⟩
 have HB:=hide hbad
 have HG:=hide hgood
 clear hbad hgood HF
 by_cases her:er=0
 ·subst her
  have HA:=hide (HG.out rfl)
  have e0:((0:Int) != 0)=false:=by decide
  clear HG HB
  go_wp2_with fail
  refine(HA.out).mono ?_;rintro e u2⟨tb,rfl,LD,HL,hs,he⟩
  have HS:=hide hs
  have HE:=hide he
  clear hs he HA
  go_wp2_with fail
  go_loopg [28] n (fun gk v wr=>∃i,v=.int .i64 (i:Nat)/\i+gk=n/\Hid (LD i wr))
  case atStart=>exact⟨0,rfl,by omega,HL⟩
  case round=>
   clear HL
   obtain⟨i,rfl,hi,HL⟩:=hrel
   by_cases hlt:i<n
   ·obtain⟨g,b,rfl,f1,f2,hc⟩:=HS.out _ _ HL.out hlt
    have hlt3:(i:Int)<(n:Int):=by omega
    have HC:=hide hc
    clear hc HS HE HL
    go_wp2_with fail
    refine(HC.out).mono ?_;rintro e w2⟨er,rfl,her,hbad,hgood⟩
    have HB:=hide hbad
    have HG:=hide hgood
    clear HC hbad hgood
    by_cases h0:er=0
    ·subst h0
     have HL:=HG.out rfl
     clear HB HG
     go_wp2_with fail
     go_roundg (n-(i+1))
     case rel=>exact⟨i+1,by simp,by omega,HL⟩
     case measure=>omega
    ·have e2:((er:Int) != 0)=true:=by simp only[bne_iff_ne,ne_eq];omega
     have e1:¬(er:Int)=0:=by omega
     have HQ:=hide (HB.out h0)
     clear HB HG
     go_wp2
     exact⟨rfl,_,(by simp[results,results14,go_sem]),HQ.out⟩
   ·have hin:i=n:=by omega
    subst hin
    have hlt3:¬(i:Int)<(i:Int):=by omega
    have HQ:=hide (HE.out _ HL.out)
    clear HS HE HL
    go_wp2
    exact⟨rfl,_,(by simp[results,results14,go_sem]),HQ.out⟩
 ·have e0:((er:Int) != 0)=true:=by simp only[bne_iff_ne,ne_eq];omega
  have e1:¬(er:Int)=0:=by omega
  have HQ:=hide (HB.out her)
  clear HG HB
  go_wp2
  exact⟨rfl,_,(by simp[results,results14,go_sem]),HQ.out⟩
end
end Go.Proofs.YtcbppnefeonmgaaGreatDoor
