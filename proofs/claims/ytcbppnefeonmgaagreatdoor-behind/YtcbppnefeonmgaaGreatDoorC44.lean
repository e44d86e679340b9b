import Derived.Test.YtcbppnefeonmgaaGreatDoorC43
set_option linter.all false
set_option maxHeartbeats 40000000
set_option maxRecDepth 100000
open Go.Proofs.Tryz
open Classical (choice)
open Or (inl inr)
open Nat (le_refl zero_le)
open List (length_append map_append length_map)
namespace Go.Proofs.YtcbppnefeonmgaaGreatDoor
open Go.RowKit
theorem readD_zero:∀(l:List Nd)(i:Nat)(p:PS),(readD i p l).1.2=0->(readD i p l).1=(0,0):=by
 intro l
 induction l with
 |nil=>intro i p _;rfl
 |cons nd r ih=>
  intro i p h
  rw[readD_cons]at h ⊢
  split at h
  ·rename_i hx;exact absurd h hx
  ·rename_i hx;rw[if_neg hx];exact ih _ _ h
theorem declare_ne1(p:PS)(nd:Nd):(declare p nd).1≠1:=by
 unfold declare
 simp only
 split
 ·unfold lkErr
  split
  ·simp
  ·split<;>simp
 ·split
  ·simp
  ·split
   ·simp
   ·split<;>simp
theorem readD_ne1:∀(l:List Nd)(i:Nat)(p:PS),(readD i p l).1.2≠1:=by
 intro l
 induction l with
 |nil=>intro i p h;cases h
 |cons nd r ih=>
  intro i p
  rw[readD_cons]
  split
  ·exact declare_ne1 p nd
  ·exact ih _ _
theorem typesA_ok{D:Toks->Option Tr}{l:List UInt8}(h:(typesA D l).2.2=0):(progAD D l).2.2=0/\(readD 0 ahead (declsOf D l)).1=(0,0)/\typesA D l=(typeLines (readD 0 ahead (declsOf D l)).2,0,0):=by
 unfold typesA at h ⊢
 split at h
 ·rename_i h1;exact absurd h h1
 ·rename_i h1
  rw[if_neg h1]
  split at h
  ·rename_i h2;exact absurd h h2
  ·rename_i h2
   rw[if_neg h2]
   exact⟨by omega,readD_zero _ _ _ (by omega),rfl⟩
theorem types_behind{D:Toks->Option Tr}{l m:List UInt8}(h:(typesA D l).2.2=0)(hl:l.length<=1500)(hm:m.length<=1500)(hf:(progAD D (35::120::10::(l++10::m))).2.2=0->∀nd∈declsOf D (35::120::10::(l++10::m)),DeclFine nd) :
  (typesA D l).2.1=0/\(typesA D (35::120::10::(l++10::m))).2.2≠1/\((typesA D (35::120::10::(l++10::m))).2.2=0->(typesA D (35::120::10::(l++10::m))).2.1=0/\∃more,(typesA D (35::120::10::(l++10::m))).1=(typesA D l).1++more):=by
 obtain⟨a1,a2,a3⟩:=typesA_ok h
 obtain⟨p1,p2⟩:=prog_behindD a1 hl hm
 refine⟨by rw[a3],?_,fun h0=>?_⟩
 ·unfold typesA
  split
  ·exact p1
  ·split
   ·exact readD_ne1 _ _ _
   ·simp
 ·obtain⟨b1,b2,b3⟩:=typesA_ok h0
  obtain⟨D2,hD⟩:=p2 b1
  have hd:declsOf D (35::120::10::(l++10::m))=declsOf D l++D2.map (ndOf 4):=by unfold declsOf;rw[hD,map_append]
  have hf:=hf b1
  rw[b3,a3]
  refine⟨rfl,?_⟩
  rw[hd]at b2 hf ⊢
  exact behind_lines (fun nd hnd=>(hf nd hnd).full) a2 b2
theorem progD_same{D E:Toks->Option Tr}{T:Toks}{acc:List Tr}(n:Nat)(hd:D (T.take (stopAt T))=E (T.take (stopAt T)))(hr:T.drop (stopAt T+1)=[]):progD D (n+2) T acc=progD E (n+2) T acc:=by
 rw[progD,progD]
 by_cases h0:T.length=0
 ·rw[if_pos h0,if_pos h0]
 ·rw[if_neg h0,if_neg h0]
  by_cases h1:stopAt T=T.length
  ·rw[if_pos h1,if_pos h1]
  ·rw[if_neg h1,if_neg h1,hd,hr]
   cases E (T.take (stopAt T))<;>rfl
theorem types_id{D:Toks->Option Tr}(h:D [[108,101,116],[105,100],[120],[61],[120]]=G.decl 100 [[108,101,116],[105,100],[120],[61],[120]]):typesA D [108,101,116,32,105,100,32,120,32,61,32,120,32,46]=([[105,100,32,58,32,39,97,32,45,62,32,39,97]],0,0):=by
 have hc:cutL [108,101,116,32,105,100,32,120,32,61,32,120,32,46]=([[108,101,116],[105,100],[120],[61],[120],[46]],0,0):=by decide +kernel
 have hp:progAD D [108,101,116,32,105,100,32,120,32,61,32,120,32,46]=progAD (G.decl 100) [108,101,116,32,105,100,32,120,32,61,32,120,32,46]:=by
  unfold progAD
  rw[hc]
  exact progD_same (T:=[[108,101,116],[105,100],[120],[61],[120],[46]]) 5 h rfl
 have hg:typesA (G.decl 100) [108,101,116,32,105,100,32,120,32,61,32,120,32,46]=([[105,100,32,58,32,39,97,32,45,62,32,39,97]],0,0):=by decide +kernel
 rw[<- hg]
 unfold typesA declsOf
 rw[hp]
theorem id_L:(choice lf).decl [[108,101,116],[105,100],[120],[61],[120]]=G.decl 100 [[108,101,116],[105,100],[120],[61],[120]]:=by
 obtain⟨t,ht⟩:∃t,G.decl 100 [[108,101,116],[105,100],[120],[61],[120]]=some t:=Option.isSome_iff_exists.1 (by decide +kernel)
 rw[ht]
 exact(((choice lf).decl_Lim _).iff t).2 ⟨100,ht⟩
theorem ownsRow_take{w:World}{base m cap n:Nat}{e:TypeId}{a:Option Addr}{xs:List Value}(h:w.ownsRow base e 1 (.slice a m cap) m xs)(hn:n<=m):w.ownsRow base e 1 (.slice a n cap) n (xs.take n):=by
 obtain⟨h1,h2⟩:=h
 refine⟨by rw[List.length_take];omega,?_⟩
 rcases h2 with⟨e1,e2⟩|⟨g,c,cur,e1,q1,q2,q3,q4,q5,q6⟩
 ·cases e1
  have:n=0:=by omega
  subst this
  exact inl ⟨rfl,rfl⟩
 ·cases e1
  refine inr ⟨g,cap,cur,rfl,q1,q2,by omega,q4,q5,?_⟩
  rw[<- q6,List.take_take]
  congr 1
  omega
theorem lawSame_yes(toks:List (List UInt8))(v1 v2:Value)(b1 b2:Nat)(w:World)(hn:toks.length<=100000)
  (h1:w.ownsRow b1 9 1 v1 toks.length (toks.map strV)) (h2:w.ownsRow b2 9 1 v2 toks.length (toks.map strV)) :
  Calls prog 6 #[v1,v2] w fun e w'=>e=.returned (.bool true)/\∃nq,w'=w.drewN nq:=by
 by_cases h0:toks.length=0
 ·have hv:∀{v:Value}{b:Nat},w.ownsRow b 9 1 v toks.length (toks.map strV)->∃a c,v=.slice a 0 c:=by
   intro v b h
   rcases ownsRow_forms h with⟨rfl,_⟩|⟨g,cap,rfl⟩
   ·exact⟨_,_,rfl⟩
   ·rw[h0];exact⟨_,_,rfl⟩
  obtain⟨a1,c1,rfl⟩:=hv h1
  obtain⟨a2,c2,rfl⟩:=hv h2
  clear h1 h2 hv
  go_enter func6,ntmps6
  go_wp2
  refine wp_loop_rounds 1 ?_
  rw[rounds_succ]
  go_wp2
  go_ret
  exact⟨rfl,0,rfl⟩
 ·obtain⟨g1,c1,rfl⟩:∃g cap,v1=.slice (some ⟨g,0,none⟩) toks.length cap:=by
   rcases ownsRow_forms h1 with⟨_,h⟩|h
   ·exact absurd h h0
   ·exact h
  obtain⟨g2,c2,rfl⟩:∃g cap,v2=.slice (some ⟨g,0,none⟩) toks.length cap:=by
   rcases ownsRow_forms h2 with⟨_,h⟩|h
   ·exact absurd h h0
   ·exact h
  have hq1:∀k,k<toks.length->w.cell? ⟨g1,k,none⟩=some (strV (toks.getD k [])):=fun k hk=>by
   rw[h1.cellAt k (by omega),List.getElem?_map,List.getElem?_eq_getElem hk,List.getD_eq_getElem?_getD,List.getElem?_eq_getElem hk];rfl
  have hq2:∀k,k<toks.length->w.cell? ⟨g2,k,none⟩=some (strV (toks.getD k [])):=fun k hk=>by
   rw[h2.cellAt k (by omega),List.getElem?_map,List.getElem?_eq_getElem hk,List.getD_eq_getElem?_getD,List.getElem?_eq_getElem hk];rfl
  have HQ1:=hide hq1
  have HQ2:=hide hq2
  clear hq1 hq2 h1 h2
  generalize toks.length=n at *
  have hne:((n:Int) != (n:Int))=false:=by simp
  go_enter func6,ntmps6
  go_wp2
  go_loopw [5] (fun i wr=>∃k:Nat,k<=n/\i=.int .i64 k/\∃nq,wr=w.drewN nq) (fun i _=>n-(intOf i).toNat)
  case atStart=>exact⟨0,zero_le _,rfl,0,rfl⟩
  case round=>
   obtain⟨k,hk,rfl,nq,rfl⟩:=hrel
   by_cases hlt:k<n
   ·have e1:=HQ1.out k hlt
    have e2:=HQ2.out k hlt
    unfold strV at e1 e2
    generalize bs (toks.getD k [])=bk at *
    have hlt2:(k:Int)<(n:Int):=by omega
    have hbb:(bk.toList != bk.toList)=false:=by simp
    go_wp2_with fail
    go_quiet (fail)
    go_wp2
    exact⟨⟨k+1,by omega,by go_num,_,rfl⟩,by simp[intOf];omega⟩
   ·go_wp2
    go_ret
    exact⟨rfl,nq,rfl⟩
theorem keepSame_yes(toks:List (List UInt8))(v1 v2:Value)(b1 b2:Nat)(w:World)(hn:toks.length<=100000)
  (h1:w.ownsRow b1 9 1 v1 toks.length (toks.map strV)) (h2:w.ownsRow b2 9 1 v2 toks.length (toks.map strV)) :
  Calls prog 9 #[v1,v2] w fun e w'=>e=.returned (.bool true)/\∃nq,w'=w.drewN nq:=by
 by_cases h0:toks.length=0
 ·have hv:∀{v:Value}{b:Nat},w.ownsRow b 9 1 v toks.length (toks.map strV)->∃a c,v=.slice a 0 c:=by
   intro v b h
   rcases ownsRow_forms h with⟨rfl,_⟩|⟨g,cap,rfl⟩
   ·exact⟨_,_,rfl⟩
   ·rw[h0];exact⟨_,_,rfl⟩
  obtain⟨a1,c1,rfl⟩:=hv h1
  obtain⟨a2,c2,rfl⟩:=hv h2
  clear h1 h2 hv
  go_enter func9,ntmps9
  go_wp2
  refine wp_loop_rounds 1 ?_
  rw[rounds_succ]
  go_wp2
  go_ret
  exact⟨rfl,0,rfl⟩
 ·obtain⟨g1,c1,rfl⟩:∃g cap,v1=.slice (some ⟨g,0,none⟩) toks.length cap:=by
   rcases ownsRow_forms h1 with⟨_,h⟩|h
   ·exact absurd h h0
   ·exact h
  obtain⟨g2,c2,rfl⟩:∃g cap,v2=.slice (some ⟨g,0,none⟩) toks.length cap:=by
   rcases ownsRow_forms h2 with⟨_,h⟩|h
   ·exact absurd h h0
   ·exact h
  have hq1:∀k,k<toks.length->w.cell? ⟨g1,k,none⟩=some (strV (toks.getD k [])):=fun k hk=>by
   rw[h1.cellAt k (by omega),List.getElem?_map,List.getElem?_eq_getElem hk,List.getD_eq_getElem?_getD,List.getElem?_eq_getElem hk];rfl
  have hq2:∀k,k<toks.length->w.cell? ⟨g2,k,none⟩=some (strV (toks.getD k [])):=fun k hk=>by
   rw[h2.cellAt k (by omega),List.getElem?_map,List.getElem?_eq_getElem hk,List.getD_eq_getElem?_getD,List.getElem?_eq_getElem hk];rfl
  have HQ1:=hide hq1
  have HQ2:=hide hq2
  clear hq1 hq2 h1 h2
  generalize toks.length=n at *
  have hne:((n:Int) != (n:Int))=false:=by simp
  go_enter func9,ntmps9
  go_wp2
  go_loopw [5] (fun i wr=>∃k:Nat,k<=n/\i=.int .i64 k/\∃nq,wr=w.drewN nq) (fun i _=>n-(intOf i).toNat)
  case atStart=>exact⟨0,zero_le _,rfl,0,rfl⟩
  case round=>
   obtain⟨k,hk,rfl,nq,rfl⟩:=hrel
   by_cases hlt:k<n
   ·have e1:=HQ1.out k hlt
    have e2:=HQ2.out k hlt
    unfold strV at e1 e2
    generalize bs (toks.getD k [])=bk at *
    have hlt2:(k:Int)<(n:Int):=by omega
    have hbb:(bk.toList != bk.toList)=false:=by simp
    go_wp2_with fail
    go_quiet (fail)
    go_wp2
    exact⟨⟨k+1,by omega,by go_num,_,rfl⟩,by simp[intOf];omega⟩
   ·go_wp2
    go_ret
    exact⟨rfl,nq,rfl⟩
theorem behind_facts{D:Toks->Option Tr}(hD:DOk D)(text more:ByteArray)(hs:text.size<=maxLen)(w:World) :
  Calls prog 8 #[.string text] w fun e w1=>∃(a:Option Addr) (n cap place er:Nat),e=.returned (.tuple #[.slice a n cap,.int .i64 place,.int .i64 er])/\Below w.heap.size w w1 /\
   (er=0->text.size<=1500->more.size<=1500->place=0/\n<=9223372036854775807/\Calls prog 8 #[.string (⟨#[35,120,10]⟩++text++⟨#[10]⟩++more)] w1 fun e w2=>∃(b:Option Addr) (m c place2 er2:Nat),e=.returned (.tuple #[.slice b m c,.int .i64 place2,.int .i64 er2])/\Below w.heap.size w w2/\er2≠1 /\
    (er2=0->place2=0/\n<=m/\m<=c/\c<=9223372036854775807/\((b=none/\m=0/\c=0)\/∃g,b=some ⟨g,0,none⟩)/\Calls prog 9 #[.slice a n cap,.slice b n c] w2 fun e w3=>e=.returned (.bool true)/\Below w.heap.size w w3)):=by
 refine(kilnTypes_any hD text w hs).mono ?_
 rintro e w1⟨hb1,hf1,v1,rfl,hrow1⟩
 obtain⟨a,n,cap,rfl,hn⟩:∃a n cap,v1=.slice a n cap/\n=(typesA D text.data.toList).1.length:=by
  rcases ownsRow_forms hrow1 with⟨h,h0⟩|⟨g,cap,h⟩
  ·exact⟨_,_,_,h,h0.symm⟩
  ·exact⟨_,_,_,h,rfl⟩
 refine⟨a,n,cap,_,_,rfl,hb1,fun he ht hm=>?_⟩
 have hd:(⟨#[35,120,10]⟩++text++⟨#[10]⟩++more:ByteArray).data.toList=35::120::10::(text.data.toList++10::more.data.toList):=by
  simp[ByteArray.data_append]
 have hsz:(⟨#[35,120,10]⟩++text++⟨#[10]⟩++more:ByteArray).size<=maxLen:=by
  have:(⟨#[35,120,10]⟩++text++⟨#[10]⟩++more:ByteArray).size=3+text.size+1+more.size:=by
   rw[ByteArray.size_append,ByteArray.size_append,ByteArray.size_append];rfl
  unfold maxLen
  omega
 have htl:text.data.toList.length<=1500:=by simpa using ht
 have hml:more.data.toList.length<=1500:=by simpa using hm
 have hc:=kilnTypes_any hD (⟨#[35,120,10]⟩++text++⟨#[10]⟩++more) w1 hsz
 rw[hd]at hc
 have hnm:=ownsRow_max hrow1
 have hpl:(typesA D text.data.toList).2.1=0:=by rw[(typesA_ok he).2.2]
 refine⟨hpl,by omega,hc.mono ?_⟩
 rintro e w2⟨hb2,hf2,v2,rfl,hrow2⟩
 obtain⟨t1,t2,t3⟩:=types_behind he htl hml hf2
 have hbw:Below w.heap.size w w2:=hb1.trans (hb2.mono hb1.size)
 obtain⟨b,m,c,rfl,hm2⟩:∃b m c,v2=.slice b m c/\m=(typesA D (35::120::10::(text.data.toList++10::more.data.toList))).1.length:=by
  rcases ownsRow_forms hrow2 with⟨h,h0⟩|⟨g,cap,h⟩
  ·exact⟨_,_,_,h,h0.symm⟩
  ·exact⟨_,_,_,h,rfl⟩
 refine⟨b,m,c,_,_,rfl,hbw,t2,fun he2=>?_⟩
 obtain⟨q1,mo,q2⟩:=t3 he2
 have hle:n<=m:=by rw[hn,hm2,q2,length_append];omega
 have hcap:m<=c/\c<=9223372036854775807/\((b=none/\m=0/\c=0)\/∃g,b=some ⟨g,0,none⟩):=by
  rcases hrow2.2 with⟨e1,e2⟩|⟨g,cp,cur,e1,_,_,q3,q4,_⟩
  ·cases e1;exact⟨le_refl _,by decide,inl ⟨rfl,rfl,rfl⟩⟩
  ·cases e1;unfold maxLen at q4;exact⟨by omega,by omega,inr ⟨g,rfl⟩⟩
 refine⟨q1,hle,hcap.1,hcap.2.1,hcap.2.2,?_⟩
 have hr1:w2.ownsRow w.heap.size tyStr 1 (.slice a n cap) (typesA D text.data.toList).1.length ((typesA D text.data.toList).1.map strV):=ownsRow_below hrow1 hb2
 have hr2:w2.ownsRow w1.heap.size tyStr 1 (.slice b n c) (typesA D text.data.toList).1.length ((typesA D text.data.toList).1.map strV):=by
  have h1:=hrow2
  rw[<- hm2]at h1
  have h2:=ownsRow_take h1 hle
  rw[q2,map_append,List.take_append_of_le_length (by rw[length_map];omega),List.take_of_length_le (by rw[length_map];omega)]at h2
  rw[<- hn]
  exact h2
 have hlen:(typesA D text.data.toList).1.length<=100000:=by
  rw[(typesA_ok he).2.2]
  show (typeLines _).length<=_
  unfold typeLines
  rw[length_map]
  have h1:=(readD_binds (declsOf D text.data.toList) 0 ahead).1
  have h3:=progAD_len D text.data.toList
  have h4:(declsOf D text.data.toList).length<=100000:=by unfold declsOf;rw[length_map];omega
  have h5:ahead.binds.length=0:=rfl
  omega
 refine(keepSame_yes (typesA D text.data.toList).1 _ _ _ _ _ hlen hr1 hr2).mono ?_
 rintro e w3⟨rfl,nq,rfl⟩
 exact⟨rfl,below_drewN hbw nq⟩
theorem walkBehind(text more:ByteArray)(hs:text.size<=maxLen)(hm:more.size<=maxLen)(w:World) :
  Calls prog 4 #[.string text,.string more] w fun e w'=>e=.returned (.bool true)/\Below w.heap.size w w':=by
 have hc1:=fun wx=>kilnTypes_any dok ⟨#[108,101,116,32,105,100,32,120,32,61,32,120,32,46]⟩ wx (by decide)
 have hA1:∀wx,Calls prog 8 #[.string ⟨#[108,101,116,32,105,100,32,120,32,61,32,120,32,46]⟩] wx fun e w1=>Below wx.heap.size wx w1/\∃v,e=.returned (.tuple #[v,.int .i64 0,.int .i64 0])/\Hid (w1.ownsRow wx.heap.size 9 1 v 1 ([[105,100,32,58,32,39,97,32,45,62,32,39,97]].map strV)):=fun wx=>(hc1 wx).mono fun e w1 ⟨h1,_,v,h2,h3⟩=>by
  rw[show (ByteArray.mk #[108,101,116,32,105,100,32,120,32,61,32,120,32,46]).data.toList=[108,101,116,32,105,100,32,120,32,61,32,120,32,46]from rfl,types_id id_L]at h2 h3
  exact⟨h1,v,h2,hide h3⟩
 have hc2:=behind_facts dok text more hs
 have HC1:=hide hA1
 have HC2:=hide hc2
 clear hc1 hA1 hc2
 go_enter func4,ntmps4
 go_wp2_with fail
 refine(HC1.out _).mono ?_;rintro e w1⟨hbel1,v1,rfl,HO1⟩
 go_wp2_with fail
 have hownA:=HO1.out.alloc (.cells #[.string ⟨#[105,100,32,58,32,39,97,32,45,62,32,39,97]⟩] 9)
 have hownB:=World.ownsRow_lit (base:=w1.heap.size) (e:=9) (size:=1) w1 #[.string ⟨#[105,100,32,58,32,39,97,32,45,62,32,39,97]⟩] 1 (le_refl _) (by decide) rfl
 have hbel2:Below w.heap.size w (w1.alloc (.cells #[.string ⟨#[105,100,32,58,32,39,97,32,45,62,32,39,97]⟩] 9)):=hbel1.alloc hbel1.size _
 refine(keepSame_yes [[105,100,32,58,32,39,97,32,45,62,32,39,97]] _ _ _ _ _ (by decide) hownA hownB).mono ?_;rintro e w3⟨rfl,nq,hw3⟩
 have hbel3:Below w.heap.size w w3:=by rw[hw3];exact below_drewN hbel2 nq
 clear hw3 HO1 hbel1 hownA hownB hbel2 HC1
 go_wp2_with fail
 refine(HC2.out _).mono ?_;rintro e w4⟨a,n,cap,place,er,rfl,hbel4,hnext⟩
 have HB4:Hid (Below w.heap.size w w4):=hbel3.trans (hbel4.mono hbel3.size)
 have HN:=hide hnext
 clear hnext HC2
 have hw3s:=hbel3.size
 have HB3:=hide hbel3
 clear hbel3 hbel4
 by_cases her:er=0
 ·subst her
  have e0:(((0:Nat):Int) != 0)=false:=by decide
  by_cases ht:text.size<=1500
  ·have et:¬(1500:Int)<(text.size:Int):=by omega
   by_cases hmo:more.size<=1500
   ·have em:¬(1500:Int)<(more.size:Int):=by omega
    obtain⟨rfl,hn,hcall⟩:=HN.out rfl ht hmo
    have HC:=hide hcall
    have z1:3+text.size<=9223372036854775807:=by omega
    have z2:3+text.size+1<=9223372036854775807:=by omega
    have z3:3+text.size+1+more.size<=9223372036854775807:=by omega
    clear HN hcall
    go_wp2_with fail
    refine(HC.out).mono ?_;rintro e w5⟨b,m,c,place2,er2,rfl,hbel5,hne1,hok⟩
    have HB5:Hid (Below w.heap.size w w5):=HB3.out.trans (hbel5.mono hw3s)
    have HOK:=hide hok
    clear hok hbel5 HC
    by_cases her2:er2=0
    ·subst her2
     have e2:(((0:Nat):Int) != 0)=false:=by decide
     obtain⟨rfl,hnm,hmc,hcc,hb,hcall⟩:=HOK.out rfl
     have HS:=hide hcall
     have hlt:¬(m:Int)<(n:Int):=by omega
     have hle:(n:Int)<=(c:Int):=by omega
     have hn0:(0:Int)<=(n:Int):=by omega
     clear HOK hcall
     rcases hb with⟨rfl,rfl,rfl⟩|⟨g,rfl⟩
     ·have:n=0:=by omega
      subst this
      go_wp2_with fail
      refine(HS.out).mono ?_;rintro e w6⟨rfl,hbel6⟩
      have HB6:Hid (Below w.heap.size w w6):=HB3.out.trans (hbel6.mono hw3s)
      clear hbel6 HS
      go_wp2_with fail
      go_ret
      exact⟨rfl,HB6.out⟩
     ·go_wp2_with fail
      refine(HS.out).mono ?_;rintro e w6⟨rfl,hbel6⟩
      have HB6:Hid (Below w.heap.size w w6):=HB3.out.trans (hbel6.mono hw3s)
      clear hbel6 HS
      go_wp2_with fail
      go_ret
      exact⟨rfl,HB6.out⟩
    ·have e1:¬(er2:Int)=0:=by omega
     have e2:((er2:Int) != 0)=true:=by simp only[bne_iff_ne,ne_eq];omega
     have e3:((er2:Int) != 1)=true:=by simp only[bne_iff_ne,ne_eq];omega
     clear HOK
     go_wp2_with fail
     go_ret
     exact⟨rfl,HB5.out⟩
   ·have em:(1500:Int)<(more.size:Int):=by omega
    clear HN
    go_wp2_with fail
    go_ret
    exact⟨rfl,HB4.out⟩
  ·have et:(1500:Int)<(text.size:Int):=by omega
   clear HN
   go_wp2_with fail
   go_ret
   exact⟨rfl,HB4.out⟩
 ·have e1:¬(er:Int)=0:=by omega
  have e0:((er:Int) != 0)=true:=by simp only[bne_iff_ne,ne_eq];omega
  clear HN
  go_wp2_with fail
  go_ret
  exact⟨rfl,HB4.out⟩
end Go.Proofs.YtcbppnefeonmgaaGreatDoor
