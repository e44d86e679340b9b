import Derived.WalkKit
import Derived.Lib.Bytealg
import Derived.Lib.Strings
import Derived.Test.YtbkiipiocpnnnaaGreatDoorRows
import Derived.WalkSpells
import Derived.WalkLawsBesides
set_option linter.all false
set_option maxHeartbeats 40000000
set_option maxRecDepth 100000
open Go.Proofs.Tryz
open Or (inl inr)
open Nat (zero_le)
open List (length_cons cons_append nil_append)
namespace Go.Proofs.YtbkiipiocpnnnaaGreatDoor
section
def smallB(c:Int):Bool:=decide (97<=c/\c<=122)
def greatB(c:Int):Bool:=decide (65<=c/\c<=90)
def digitB(c:Int):Bool:=decide (48<=c/\c<=57)
def nameB(c:Int):Bool:=smallB c || digitB c || c==95
def conB(c:Int):Bool:=nameB c || greatB c
def blankB(c:Int):Bool:=c==32 || c==9 || c==10
def no10B(c:Int):Bool:=c != 10
def cnt(p:Int->Bool):List UInt8->Nat
 |[]=>0
 |c::r=>bif p c.toNat then cnt p r+1 else 0
theorem cnt_le(p:Int->Bool)(l:List UInt8):cnt p l<=l.length:=by
 induction l with
 |nil=>simp[cnt]
 |cons c r ih=>cases h:p c.toNat<;>simp[cnt,h];omega
theorem cnt_yes(p:Int->Bool)(l:List UInt8)(k:Nat)(hk:k<l.length)(h:p (l[k]).toNat=true):cnt p (l.drop k)=1+cnt p (l.drop (k+1)):=by
 rw[List.drop_eq_getElem_cons hk];simp[cnt,h];omega
theorem cnt_no(p:Int->Bool)(l:List UInt8)(k:Nat)(hk:k<l.length)(h:p (l[k]).toNat=false):cnt p (l.drop k)=0:=by
 rw[List.drop_eq_getElem_cons hk];simp[cnt,h]
theorem cnt_end(p:Int->Bool)(l:List UInt8)(k:Nat)(hk:l.length<=k):cnt p (l.drop k)=0:=by
 rw[List.drop_of_length_le hk];rfl
theorem cntS_yes(p:Int->Bool)(s:ByteArray)(k:Nat)(hk:k<s.size)(h:p (s[k]).toNat=true):cnt p (s.data.toList.drop k)=1+cnt p (s.data.toList.drop (k+1)):=
 cnt_yes p s.data.toList k (by simpa using hk) h
theorem cntS_no(p:Int->Bool)(s:ByteArray)(k:Nat)(hk:k<s.size)(h:p (s[k]).toNat=false):cnt p (s.data.toList.drop k)=0:=
 cnt_no p s.data.toList k (by simpa using hk) h
theorem cntS_end(p:Int->Bool)(s:ByteArray)(k:Nat)(hk:s.size<=k):cnt p (s.data.toList.drop k)=0:=
 cnt_end p s.data.toList k (by simpa using hk)
def wordL(l:List UInt8):Bool:=l==[108,101,116] || l==[114,101,99] || l==[105,110] || l==[102,117,110] || l==[105,102] || l==[116,104,101,110] || l==[101,108,115,101] || l==[109,97,116,99,104] || l==[119,105,116,104] || l==[101,110,100] || l==[116,121,112,101] || l==[100,111] || l==[116,114,117,101] || l==[102,97,108,115,101]
def nameLen(l:List UInt8):Nat:=
 match l with
 |[]=>0
 |c::_=>bif smallB c.toNat then cnt nameB l else 0
theorem nameLen_le(l:List UInt8):nameLen l<=l.length:=by
 unfold nameLen
 split
 ·simp
 ·rename_i c r
  have:=cnt_le nameB (c::r)
  cases smallB c.toNat<;>simp<;>simpa using this
def numLen(l:List UInt8):Nat:=if 18<cnt digitB l then 0 else cnt digitB l
def letterLen(l:List UInt8):Nat:=
 bif nameLen l.tail==0 || wordL (l.tail.take (nameLen l.tail))then 0 else 1+nameLen l.tail
def signs:List UInt8:=[40,41,61,60,43,45,42,47,59,124,33,46,95]
def signLen(l:List UInt8):Nat:=
 if Lib.hasPrefix l [58,61]=true\/Lib.hasPrefix l [45,62]=true then 2 else
 match l with
 |[]=>0
 |c::_=>if c∈signs then 1 else 0
def tokLen(l:List UInt8):Nat:=
 match l with
 |[]=>0
 |c::_=>bif smallB c.toNat then nameLen l else bif greatB c.toNat then cnt conB l else bif digitB c.toNat then numLen l else if c=39 then letterLen l else signLen l
def gap:Bool->List UInt8->Nat
 |_,[]=>0
 |false,c::r=>bif blankB c.toNat then 1+gap false r else if c=35 then 1+gap true r else 0
 |true,c::r=>if c=10 then 1+gap false r else 1+gap true r
theorem indexByte_ge(l:List UInt8)(c:UInt8):-1<=Lib.indexByte l c:=by
 induction l with
 |nil=>simp[Lib.indexByte]
 |cons b r ih=>simp only[Lib.indexByte];split<;>(try split)<;>omega
theorem indexByte_mem(l:List UInt8)(c:UInt8):0<=Lib.indexByte l c↔c∈l:=by
 induction l with
 |nil=>simp[Lib.indexByte]
 |cons b r ih=>
  have:=indexByte_ge r c
  simp only[Lib.indexByte]
  by_cases h:b=c
  ·simp[h]
  ·have h':¬c=b:=fun e=>h e.symm
   have h2:(b==c)=false:=by simpa using h
   simp only[h2]
   by_cases h3:Lib.indexByte r c=-1
   ·rw[h3]at ih;simp[h3,h',<- ih]
   ·have h4:(Lib.indexByte r c==-1)=false:=by simpa using h3
    simp[h4,h',<- ih];omega
theorem no10_iff(c:UInt8):no10B c.toNat=(c != 10):=by
 simp only[no10B]
 rw[Bool.eq_iff_iff]
 simp only[bne_iff_ne,ne_eq]
 constructor
 ·intro h e;exact h (by rw[e];rfl)
 ·intro h e;exact h (UInt8.toNat_inj.1 (by rw[show (10:UInt8).toNat=10 from rfl];omega))
theorem indexByte_no10(l:List UInt8):(0<=Lib.indexByte l 10->Lib.indexByte l 10=cnt no10B l)/\(Lib.indexByte l 10<0->cnt no10B l=l.length):=by
 induction l with
 |nil=>simp[Lib.indexByte,cnt]
 |cons b r ih=>
  have hge:=indexByte_ge r 10
  simp only[Lib.indexByte,cnt,no10_iff,length_cons]
  by_cases h:b=10
  ·subst h;simp
  ·have h2:(b==10)=false:=by simpa using h
   have h2':(b != 10)=true:=by simpa using h
   simp only[h2,h2',cond_true]
   by_cases h3:Lib.indexByte r 10=-1
   ·have:=ih.2 (by omega)
    simp[h3];omega
   ·have:=ih.1 (by omega)
    have h4:(Lib.indexByte r 10==-1)=false:=by simpa using h3
    simp[h4];omega
theorem remark_len(l:List UInt8):(cnt no10B l:Int)=if 0<=Lib.indexByte l 10 then Lib.indexByte l 10 else l.length:=by
 have:=indexByte_no10 l
 split
 ·rename_i h;rw[this.1 h]
 ·rename_i h;rw[this.2 (by omega)]
end
section
open Go.RowKit
theorem ret_bool{a b:Bool}(h:a=b):Ending.returned (.bool a)=.returned (.bool b):=by rw[h]
theorem isSmall_any(c:Int)(w:World) :
  Calls prog 76 #[.int .u8 c] w fun e w'=>e=.returned (.bool (smallB c))/\w'=w:=by
 by_cases h1:97<=c
 ·by_cases h2:c<=122
  ·go_enter func76,ntmps76
   go_wp2
   go_ret
   exact⟨ret_bool (by simp[smallB,h1,h2]),rfl⟩
  ·go_enter func76,ntmps76
   go_wp2
   go_ret
   exact⟨ret_bool (by simp[smallB,h2]),rfl⟩
 ·go_enter func76,ntmps76
  go_wp2
  go_ret
  exact⟨ret_bool (by simp[smallB];omega),rfl⟩
theorem isGreat_any(c:Int)(w:World) :
  Calls prog 78 #[.int .u8 c] w fun e w'=>e=.returned (.bool (greatB c))/\w'=w:=by
 by_cases h1:65<=c
 ·by_cases h2:c<=90
  ·go_enter func78,ntmps78
   go_wp2
   go_ret
   exact⟨ret_bool (by simp[greatB,h1,h2]),rfl⟩
  ·go_enter func78,ntmps78
   go_wp2
   go_ret
   exact⟨ret_bool (by simp[greatB,h2]),rfl⟩
 ·go_enter func78,ntmps78
  go_wp2
  go_ret
  exact⟨ret_bool (by simp[greatB];omega),rfl⟩
theorem isDigit_any(c:Int)(w:World) :
  Calls prog 81 #[.int .u8 c] w fun e w'=>e=.returned (.bool (digitB c))/\w'=w:=by
 by_cases h1:48<=c
 ·by_cases h2:c<=57
  ·go_enter func81,ntmps81
   go_wp2
   go_ret
   exact⟨ret_bool (by simp[digitB,h1,h2]),rfl⟩
  ·go_enter func81,ntmps81
   go_wp2
   go_ret
   exact⟨ret_bool (by simp[digitB,h2]),rfl⟩
 ·go_enter func81,ntmps81
  go_wp2
  go_ret
  exact⟨ret_bool (by simp[digitB];omega),rfl⟩
theorem isNameByte_any(c:Int)(w:World) :
  Calls prog 118 #[.int .u8 c] w fun e w'=>e=.returned (.bool (nameB c))/\w'=w:=by
 cases h1:smallB c
 ·cases h2:digitB c
  ·go_enter func118,ntmps118
   go_wp2_with (first|(go_at_call 76;refine(isSmall_any _ _).mono ?_;rintro e w'⟨rfl,rfl⟩)|(go_at_call 81;refine(isDigit_any _ _).mono ?_;rintro e w'⟨rfl,rfl⟩))
   go_ret
   exact⟨ret_bool (by simp[nameB,h1,h2]),rfl⟩
  ·go_enter func118,ntmps118
   go_wp2_with (first|(go_at_call 76;refine(isSmall_any _ _).mono ?_;rintro e w'⟨rfl,rfl⟩)|(go_at_call 81;refine(isDigit_any _ _).mono ?_;rintro e w'⟨rfl,rfl⟩))
   go_ret
   exact⟨ret_bool (by simp[nameB,h2]),rfl⟩
 ·go_enter func118,ntmps118
  go_wp2_with (first|(go_at_call 76;refine(isSmall_any _ _).mono ?_;rintro e w'⟨rfl,rfl⟩)|(go_at_call 81;refine(isDigit_any _ _).mono ?_;rintro e w'⟨rfl,rfl⟩))
  go_ret
  exact⟨ret_bool (by simp[nameB,h1]),rfl⟩
theorem isConstructorByte_any(c:Int)(w:World) :
  Calls prog 80 #[.int .u8 c] w fun e w'=>e=.returned (.bool (conB c))/\w'=w:=by
 cases h1:nameB c
 ·go_enter func80,ntmps80
  go_wp2_with (first|(go_at_call 118;refine(isNameByte_any _ _).mono ?_;rintro e w'⟨rfl,rfl⟩)|(go_at_call 78;refine(isGreat_any _ _).mono ?_;rintro e w'⟨rfl,rfl⟩))
  go_ret
  exact⟨ret_bool (by simp[conB,h1]),rfl⟩
 ·go_enter func80,ntmps80
  go_wp2_with (first|(go_at_call 118;refine(isNameByte_any _ _).mono ?_;rintro e w'⟨rfl,rfl⟩)|(go_at_call 78;refine(isGreat_any _ _).mono ?_;rintro e w'⟨rfl,rfl⟩))
  go_ret
  exact⟨ret_bool (by simp[conB,h1]),rfl⟩
end
section
theorem gap_true(l:List UInt8):gap true l=cnt no10B l+gap false (l.drop (cnt no10B l)):=by
 induction l with
 |nil=>simp[gap,cnt]
 |cons c r ih=>
  by_cases h:c=10
  ·subst h
   have e1:no10B 10=false:=by decide
   have e2:blankB 10=true:=by decide
   simp[gap,cnt,e1,e2]
  ·have h2:(c != 10)=true:=by simpa using h
   simp only[gap,if_neg h,cnt,no10_iff,h2,cond_true,List.drop_succ_cons]
   omega
theorem gap_le(b:Bool)(l:List UInt8):gap b l<=l.length:=by
 induction l generalizing b with
 |nil=>simp[gap]
 |cons c r ih=>
  have h1:=ih true
  have h2:=ih false
  cases b
  ·simp only[gap,length_cons]
   cases blankB c.toNat
   ·simp only[cond_false];split<;>omega
   ·simp only[cond_true];omega
  ·simp only[gap,length_cons]
   split<;>omega
theorem gap_end(l:List UInt8)(k:Nat)(hk:l.length<=k):gap false (l.drop k)=0:=by
 rw[List.drop_of_length_le hk];rfl
theorem gap_blank(l:List UInt8)(k:Nat)(hk:k<l.length)(h:blankB (l[k]).toNat=true):gap false (l.drop k)=1+gap false (l.drop (k+1)):=by
 rw[List.drop_eq_getElem_cons hk];simp[gap,h]
theorem gap_other(l:List UInt8)(k:Nat)(hk:k<l.length)(h:blankB (l[k]).toNat=false)(h':l[k]≠35):gap false (l.drop k)=0:=by
 rw[List.drop_eq_getElem_cons hk];simp[gap,h,h']
theorem gap_remark(l:List UInt8)(k:Nat)(hk:k<l.length)(h:l[k]=35) :
  gap false (l.drop k)=cnt no10B (l.drop k)+gap false (l.drop (k+cnt no10B (l.drop k)))/\1<=cnt no10B (l.drop k):=by
 have e1:no10B 35=true:=by decide
 have e2:blankB 35=false:=by decide
 have e3:l.drop k=35::l.drop (k+1):=by rw[List.drop_eq_getElem_cons hk,h]
 have e4:cnt no10B (l.drop k)=cnt no10B (l.drop (k+1))+1:=by rw[e3];simp[cnt,e1]
 have e5:gap false (l.drop k)=1+gap true (l.drop (k+1)):=by rw[e3];simp[gap,e2]
 have e6:=gap_true (l.drop (k+1))
 rw[List.drop_drop]at e6
 refine⟨?_,by omega⟩
 rw[e5,e6,e4]
 have e7:k+1+cnt no10B (l.drop (k+1))=k+(cnt no10B (l.drop (k+1))+1):=by omega
 rw[e7]
 omega
theorem gap_gap(l:List UInt8)(b:Bool):gap false (l.drop (gap b l))=0:=by
 induction l generalizing b with
 |nil=>simp[gap]
 |cons c r ih=>
  cases b
  ·cases h:blankB c.toNat
   ·by_cases h2:c=35
    ·have e2:blankB (35:UInt8).toNat=false:=by decide
     have:=ih true
     subst h2
     simp only[gap,e2,cond_false,if_true]
     rw[Nat.add_comm,List.drop_succ_cons];exact this
    ·simp[gap,h,h2]
   ·have:=ih false
    simp only[gap,h,cond_true]
    rw[Nat.add_comm,List.drop_succ_cons];exact this
  ·by_cases h2:c=10
   ·have:=ih false
    simp only[gap,h2,if_true]
    rw[Nat.add_comm,List.drop_succ_cons];exact this
   ·have:=ih true
    simp only[gap,if_neg h2]
    rw[Nat.add_comm,List.drop_succ_cons];exact this
theorem tokLen_le(l:List UInt8):tokLen l<=l.length:=by
 match l with
 |[]=>simp[tokLen]
 |c::r=>
  have h1:=nameLen_le (c::r)
  have h2:=cnt_le conB (c::r)
  have h3:=cnt_le digitB (c::r)
  have h4:=nameLen_le r
  simp only[tokLen]
  cases smallB c.toNat
  ·cases greatB c.toNat
   ·cases digitB c.toNat
    ·simp only[cond_false]
     split
     ·simp only[letterLen,List.tail_cons]
      cases (nameLen r==0 || wordL (List.take (nameLen r) r))
      ·simp only[cond_false,length_cons];omega
      ·simp
     ·simp only[signLen]
      split
      ·rename_i h
       rcases h with h|h
       all_goals
        simp only[Lib.hasPrefix]at h
        have:=List.IsPrefix.length_le (List.isPrefixOf_iff_prefix.1 h)
        simpa using this
      ·split<;>simp
    ·simp only[cond_false,cond_true,numLen];split<;>omega
   ·simpa using h2
  ·simpa using h1
def cutF:Nat->List UInt8->Nat->List (List UInt8)->List (List UInt8)×Nat×Nat
 |0,_,_,acc=>(acc,0,0)
 |n+1,l,at_,acc=>
  if (l.drop (gap false l)).isEmpty then(acc,0,0)
  else if tokLen (l.drop (gap false l))=0 then([],at_+gap false l,2)
  else cutF n ((l.drop (gap false l)).drop (tokLen (l.drop (gap false l)))) (at_+gap false l+tokLen (l.drop (gap false l))) (acc++[(l.drop (gap false l)).take (tokLen (l.drop (gap false l)))])
def cutL(l:List UInt8):List (List UInt8)×Nat×Nat:=
 if 4000<l.length then([],0,1)else cutF (l.length+1) l 0 []
end
section
open Go.RowKit
def bs(l:List UInt8):ByteArray:=⟨l.toArray⟩
def strV(l:List UInt8):Value:=.string (bs l)
theorem bs_data(l:List UInt8):(bs l).data.toList=l:=by simp[bs]
theorem bs_extract(s:ByteArray)(a b:Nat):s.extract a b=bs ((s.data.toList.drop a).take (b-a)):=by
 have:=Lib.extract_data s a b
 rw[<- this]
 rfl
theorem cut_end(n:Nat)(l:List UInt8)(k:Nat)(acc:List (List UInt8))(h:l=[]):cutF n l k acc=(acc,0,0):=by
 subst h
 cases n<;>simp[cutF,gap]
theorem cut_bad(n:Nat)(l:List UInt8)(k:Nat)(acc:List (List UInt8))(hn:0<n)(hl:l≠[])(hg:gap false l=0)(ht:tokLen l=0):cutF n l k acc=([],k,2):=by
 obtain⟨m,rfl⟩:∃m,n=m+1:=⟨n-1,by omega⟩
 have:l.isEmpty=false:=by cases l<;>simp_all
 simp[cutF,hg,this,ht]
theorem cut_tok(n:Nat)(l:List UInt8)(k:Nat)(acc:List (List UInt8))(hn:0<n)(hl:l≠[])(hg:gap false l=0)(ht:tokLen l≠0) :
  cutF n l k acc=cutF (n-1) (l.drop (tokLen l)) (k+tokLen l) (acc++[l.take (tokLen l)]):=by
 obtain⟨m,rfl⟩:∃m,n=m+1:=⟨n-1,by omega⟩
 have:l.isEmpty=false:=by cases l<;>simp_all
 simp[cutF,hg,this,ht]
theorem cut_gap(n:Nat)(l:List UInt8)(k:Nat)(acc:List (List UInt8))(hn:0<n) :
  cutF n l k acc=cutF n (l.drop (gap false l)) (k+gap false l) acc:=by
 obtain⟨m,rfl⟩:∃m,n=m+1:=⟨n-1,by omega⟩
 have h:=gap_gap l false
 simp only[cutF,h,List.drop_zero,Nat.add_zero]
theorem ownsRow_below{w w':World}{base:Nat}{e:TypeId}{size:Nat}{v:Value}{n:Nat}{xs:List Value}(h:w.ownsRow base e size v n xs)(hb:Below w.heap.size w w'):w'.ownsRow base e size v n xs:=by
 obtain⟨h1,h2⟩:=h
 refine⟨h1,?_⟩
 rcases h2 with h2|⟨g,cap,cur,hv,hg,hh,r⟩
 ·exact inl h2
 ·refine inr ⟨g,cap,cur,hv,hg,?_,r⟩
  have hlt:g<w.heap.size:=by
   by_cases h:g<w.heap.size
   ·exact h
   ·rw[Array.getElem?_eq_none (by omega)]at hh;cases hh
  rw[hb.block g hlt];exact hh
def AtHead(l:List UInt8)(R:List (List UInt8)×Nat×Nat)(k:Nat)(toks:List (List UInt8)):Prop:=
 ∃n,l.length<n+k/\cutF n (l.drop k) k toks=R/\gap false (l.drop k)=0
theorem atHead_start(l:List UInt8):AtHead l (cutF (l.length+1) l 0 []) (gap false l) []:=by
 refine⟨l.length+1,by omega,?_,gap_gap l false⟩
 have:=cut_gap (l.length+1) l 0 [] (by omega)
 rw[Nat.zero_add]at this
 exact this.symm
theorem atHead_end{l:List UInt8}{R:List (List UInt8)×Nat×Nat}{k:Nat}{toks:List (List UInt8)}(h:AtHead l R k toks)(hk:l.length<=k):R=(toks,0,0):=by
 obtain⟨n,_,h2,_⟩:=h
 rw[<- h2]
 exact cut_end _ _ _ _ (List.drop_of_length_le hk)
theorem atHead_bad{l:List UInt8}{R:List (List UInt8)×Nat×Nat}{k:Nat}{toks:List (List UInt8)}(h:AtHead l R k toks)(hk:k<l.length)(ht:tokLen (l.drop k)=0):R=([],k,2):=by
 obtain⟨n,h1,h2,h3⟩:=h
 rw[<- h2]
 refine cut_bad _ _ _ _ (by omega) (fun e=>?_) h3 ht
 have:=congrArg List.length e
 simp at this;omega
theorem atHead_tok{l:List UInt8}{R:List (List UInt8)×Nat×Nat}{k:Nat}{toks:List (List UInt8)}(h:AtHead l R k toks)(hk:k<l.length)(ht:tokLen (l.drop k)≠0) :
  AtHead l R (k+tokLen (l.drop k)+gap false (l.drop (k+tokLen (l.drop k)))) (toks++[(l.drop k).take (tokLen (l.drop k))]):=by
 obtain⟨n,h1,h2,h3⟩:=h
 refine⟨n-1,by omega,?_,?_⟩
 ·rw[<- h2,cut_tok n _ _ _ (by omega) (fun e=>by have:=congrArg List.length e;simp at this;omega) h3 ht,List.drop_drop,cut_gap (n-1) (l.drop (k+tokLen (l.drop k))) (k+tokLen (l.drop k)) _ (by omega),List.drop_drop]
 ·have:=gap_gap (l.drop (k+tokLen (l.drop k))) false
  rw[List.drop_drop]at this;exact this
theorem hide{p:Prop}(h:p):Hid p:=h
end
section
open Go.RowKit
def tokKind(l:List UInt8):Int:=
 match l with
 |[]=>0
 |c::_=>bif smallB c.toNat then(bif wordL (l.take (nameLen l))then 119 else 110)else bif greatB c.toNat then 99 else bif digitB c.toNat then(if numLen l=0 then 0 else 100)else if c=39 then(if letterLen l=0 then 0 else 108)else if signLen l=0 then 0 else 119
def Stops(r:List UInt8):Prop:=r=[]\/∃c t,r=c::t/\(blankB c.toNat=true\/c=35)
theorem Stops.con{r:List UInt8}(h:Stops r):r=[]\/∃c t,r=c::t/\conB c.toNat=false:=by
 rcases h with h|⟨c,t,rfl,h⟩
 ·exact inl h
 ·refine inr ⟨c,t,rfl,?_⟩
  rcases h with h|rfl
  ·revert h
   simp only[blankB,conB,nameB,smallB,digitB,greatB,Bool.or_eq_true,beq_iff_eq,Bool.or_eq_false_iff,decide_eq_false_iff_not,beq_eq_false_iff_ne]
   omega
  ·decide
theorem con_imp{p:Int->Bool}(hp:∀c,conB c=false->p c=false){r:List UInt8}(h:Stops r):r=[]\/∃c t,r=c::t/\p c.toNat=false:=by
 rcases h.con with h|⟨c,t,e,h⟩
 ·exact inl h
 ·exact inr ⟨c,t,e,hp _ h⟩
theorem cnt_stop{p:Int->Bool}{r:List UInt8}(hr:r=[]\/∃c t,r=c::t/\p c.toNat=false)(l:List UInt8):cnt p (l.take (cnt p l)++r)=cnt p l:=by
 induction l with
 |nil=>
  rcases hr with rfl|⟨c,t,rfl,h⟩
  ·rfl
  ·simp[cnt,h]
 |cons c t ih=>
  cases h:p c.toNat
  ·have h0:cnt p (c::t)=0:=by simp[cnt,h]
   rw[h0]
   rcases hr with rfl|⟨d,t',rfl,h'⟩
   ·rfl
   ·simp[cnt,h']
  ·have h0:cnt p (c::t)=cnt p t+1:=by simp[cnt,h]
   rw[h0,List.take_succ_cons,cons_append]
   simp[cnt,h,ih]
theorem nameB_con(c:Int)(h:conB c=false):nameB c=false:=by
 simp only[conB,Bool.or_eq_false_iff]at h;exact h.1
theorem digitB_con(c:Int)(h:conB c=false):digitB c=false:=by
 have:=nameB_con c h
 simp only[nameB,Bool.or_eq_false_iff]at this;exact this.1.2
theorem small_name(c:Int)(h:smallB c=true):nameB c=true:=by simp[nameB,h]
theorem nameLen_stop{r:List UInt8}(hr:Stops r)(l:List UInt8):nameLen (l.take (nameLen l)++r)=nameLen l:=by
 cases l with
 |nil=>
  rcases hr.con with rfl|⟨c,t,rfl,h⟩
  ·rfl
  ·have h2:smallB c.toNat=false:=by
    have:=nameB_con _ h
    simp only[nameB,Bool.or_eq_false_iff]at this;exact this.1.1
   simp[nameLen,h2]
 |cons c t=>
  cases h:smallB c.toNat
  ·have h0:nameLen (c::t)=0:=by simp[nameLen,h]
   rw[h0]
   rcases hr.con with rfl|⟨d,t',rfl,h'⟩
   ·rfl
   ·have h2:smallB d.toNat=false:=by
     have:=nameB_con _ h'
     simp only[nameB,Bool.or_eq_false_iff]at this;exact this.1.1
    simp[nameLen,h2]
  ·have h0:nameLen (c::t)=cnt nameB (c::t):=by simp[nameLen,h]
   have h1:cnt nameB (c::t)=cnt nameB t+1:=by simp[cnt,small_name _ h]
   have h2:=cnt_stop (con_imp nameB_con hr) (c::t)
   rw[h0]
   rw[h1,List.take_succ_cons,cons_append]at h2 ⊢
   rw[<- h2]
   simp[nameLen,h]
theorem take_take_app(l r:List UInt8)(n:Nat)(hn:n<=l.length):(l.take n++r).take n=l.take n:=by
 rw[List.take_append_of_le_length (by simp;omega),List.take_take,Nat.min_self]
theorem tok_stop{r:List UInt8}(hr:Stops r)(l:List UInt8)(ht:tokLen l≠0):tokLen (l.take (tokLen l)++r)=tokLen l/\tokKind (l.take (tokLen l)++r)=tokKind l:=by
 cases l with
 |nil=>simp[tokLen]at ht
 |cons c t=>
  cases h1:smallB c.toNat
  ·cases h2:greatB c.toNat
   ·cases h3:digitB c.toNat
    ·by_cases h4:c=39
     ·have e:tokLen (c::t)=letterLen (c::t):=by simp only[tokLen,h1,h2,h3,cond_false];rw[if_pos h4]
      have e2:letterLen (c::t)=bif nameLen t==0 || wordL (t.take (nameLen t))then 0 else 1+nameLen t:=rfl
      have e3:(nameLen t==0 || wordL (t.take (nameLen t)))=false:=by
       cases hb:(nameLen t==0 || wordL (t.take (nameLen t)))
       ·rfl
       ·rw[hb]at e2;rw[e,e2]at ht;exact absurd rfl ht
      rw[e3]at e2
      simp only[cond_false]at e2
      have e4:letterLen (c::(t.take (nameLen t)++r))=1+nameLen t:=by
       have:=nameLen_stop hr t
       simp only[letterLen,List.tail_cons,this,take_take_app t r _ (nameLen_le t),e3,cond_false]
      have e5:(c::t).take (tokLen (c::t))++r=c::(t.take (nameLen t)++r):=by
       rw[e,e2,Nat.add_comm,List.take_succ_cons,cons_append]
      rw[e5]
      constructor
      ·rw[e,e2]
       simp only[tokLen,h1,h2,h3,cond_false];rw[if_pos h4,e4]
      ·simp only[tokKind,h1,h2,h3,cond_false];rw[if_pos h4,if_pos h4,e4,e2]
     ·have e:tokLen (c::t)=signLen (c::t):=by simp only[tokLen,h1,h2,h3,cond_false];rw[if_neg h4]
      have e6:∀x,tokLen (c::x)=signLen (c::x):=fun x=>by simp only[tokLen,h1,h2,h3,cond_false];rw[if_neg h4]
      have e7:∀x,tokKind (c::x)=if signLen (c::x)=0 then 0 else 119:=fun x=>by simp only[tokKind,h1,h2,h3,cond_false];rw[if_neg h4]
      have key:∀x,(c::t).take (signLen (c::t))++r=c::x->signLen (c::x)=signLen (c::t):=by
       intro x hx
       by_cases hp:Lib.hasPrefix (c::t) [58,61]=true\/Lib.hasPrefix (c::t) [45,62]=true
       ·have s2:signLen (c::t)=2:=by simp only[signLen];rw[if_pos hp]
        rw[s2]at hx ⊢
        cases t with
        |nil=>simp[Lib.hasPrefix,List.isPrefixOf]at hp
        |cons d t'=>
         simp only[List.take_succ_cons,List.take_zero,cons_append,nil_append,List.cons.injEq,true_and]at hx
         subst hx
         have hp':Lib.hasPrefix (c::d::r) [58,61]=true\/Lib.hasPrefix (c::d::r) [45,62]=true:=by
          simpa [Lib.hasPrefix,List.isPrefixOf]using hp
         simp only[signLen];rw[if_pos hp']
       ·have s1:signLen (c::t)=if c∈signs then 1 else 0:=by simp only[signLen];rw[if_neg hp]
        have hc:c∈signs:=by
         by_cases hc:c∈signs
         ·exact hc
         ·rw[if_neg hc]at s1;rw[e,s1]at ht;exact absurd rfl ht
        rw[s1,if_pos hc]at hx ⊢
        simp only[List.take_succ_cons,List.take_zero,cons_append,nil_append,List.cons.injEq,true_and]at hx
        subst hx
        have hp':¬(Lib.hasPrefix (c::r) [58,61]=true\/Lib.hasPrefix (c::r) [45,62]=true):=by
         rcases hr with rfl|⟨d,t',rfl,hd⟩
         ·simp[Lib.hasPrefix,List.isPrefixOf]
         ·intro hp'
          have:d=61\/d=62:=by
           simp[Lib.hasPrefix,List.isPrefixOf]at hp'
           rcases hp' with h|h
           ·exact inl h.2.symm
           ·exact inr h.2.symm
          rcases this with rfl|rfl<;>revert hd<;>decide
        simp only[signLen];rw[if_neg hp',if_pos hc]
      have hne:signLen (c::t)≠0:=by rw[<- e];exact ht
      obtain⟨m,hm⟩:∃m,signLen (c::t)=m+1:=⟨signLen (c::t)-1,by omega⟩
      have e5:(c::t).take (signLen (c::t))++r=c::(t.take m++r):=by rw[hm,List.take_succ_cons,cons_append]
      rw[e,e5,e6,e7,e7,key _ e5]
      exact⟨rfl,rfl⟩
    ·have e:tokLen (c::t)=numLen (c::t):=by simp only[tokLen,h1,h2,h3,cond_false,cond_true]
     have hn:¬18<cnt digitB (c::t):=by
      intro h;apply ht;rw[e];unfold numLen;rw[if_pos h]
     have e2:numLen (c::t)=cnt digitB (c::t):=by unfold numLen;rw[if_neg hn]
     have e3:cnt digitB (c::t)=cnt digitB t+1:=by simp[cnt,h3]
     have h:=cnt_stop (con_imp digitB_con hr) (c::t)
     rw[e,e2]
     rw[e3,List.take_succ_cons,cons_append]at h ⊢
     have e4:numLen (c::(t.take (cnt digitB t)++r))=cnt digitB t+1:=by
      unfold numLen;rw[h,if_neg (by omega)]
     constructor
     ·simp only[tokLen,h1,h2,h3,cond_false,cond_true];exact e4
     ·simp only[tokKind,h1,h2,h3,cond_false,cond_true];rw[e4,e2,e3]
   ·have e:tokLen (c::t)=cnt conB (c::t):=by simp only[tokLen,h1,h2,cond_false,cond_true]
    have e3:cnt conB (c::t)=cnt conB t+1:=by simp[cnt,conB,h2]
    have h:=cnt_stop hr.con (c::t)
    rw[e]
    rw[e3,List.take_succ_cons,cons_append]at h ⊢
    constructor
    ·simp only[tokLen,h1,h2,cond_false,cond_true];exact h
    ·simp only[tokKind,h1,h2,cond_false,cond_true]
  ·have e:tokLen (c::t)=nameLen (c::t):=by simp only[tokLen,h1,cond_true]
   have h:=nameLen_stop hr (c::t)
   have hle:=nameLen_le (c::t)
   have e3:nameLen (c::t)=cnt nameB t+1:=by simp[nameLen,h1,cnt,small_name _ h1]
   have h5:=take_take_app (c::t) r (nameLen (c::t)) hle
   rw[e]
   have e4:(c::t).take (nameLen (c::t))++r=c::(t.take (cnt nameB t)++r):=by rw[e3,List.take_succ_cons,cons_append]
   rw[e4]at h h5 ⊢
   constructor
   ·simp only[tokLen,h1,cond_true];exact h
   ·simp only[tokKind,h1,cond_true];rw[h,h5]
end
section
open Go.RowKit
theorem ownsRow_forms{w:World}{base size n:Nat}{e:TypeId}{v:Value}{xs:List Value}(h:w.ownsRow base e size v n xs):(v=.slice none 0 0/\n=0)\/∃g cap,v=.slice (some ⟨g,0,none⟩) n cap:=by
 rcases h.2 with h2|⟨g,cap,cur,hv,hg,r⟩
 ·exact inl h2
 ·exact inr ⟨g,cap,hv⟩
end
section
open Go.RowKit
namespace K
def let_:List UInt8:=[108,101,116]
def rec_:List UInt8:=[114,101,99]
def in_:List UInt8:=[105,110]
def fun_:List UInt8:=[102,117,110]
def if_:List UInt8:=[105,102]
def then_:List UInt8:=[116,104,101,110]
def else_:List UInt8:=[101,108,115,101]
def match_:List UInt8:=[109,97,116,99,104]
def with_:List UInt8:=[119,105,116,104]
def end_:List UInt8:=[101,110,100]
def type_:List UInt8:=[116,121,112,101]
def do_:List UInt8:=[100,111]
def true_:List UInt8:=[116,114,117,101]
def false_:List UInt8:=[102,97,108,115,101]
def open_:List UInt8:=[40]
def shut_:List UInt8:=[41]
def eq_:List UInt8:=[61]
def semi_:List UInt8:=[59]
def set_:List UInt8:=[58,61]
def arrow_:List UInt8:=[45,62]
def bar_:List UInt8:=[124]
def bang_:List UInt8:=[33]
def dot_:List UInt8:=[46]
def under_:List UInt8:=[95]
def unit_:List UInt8:=[40,41]
def var_:List UInt8:=[118,97,114]
def named_:List UInt8:=[110,97,109,101,100]
def num_:List UInt8:=[110,117,109]
def const_:List UInt8:=[99,111,110,115,116]
def con_:List UInt8:=[99,111,110]
def app_:List UInt8:=[97,112,112]
def row_:List UInt8:=[114,111,119]
def seq_:List UInt8:=[115,101,113]
def setN_:List UInt8:=[115,101,116]
end K
def numberP:List UInt8->List UInt8
 |[]=>[]
 |[c]=>[c]
 |c::d::r=>if c=48 then numberP (d::r)else c::d::r
def signsAt(k:Nat):List UInt8:=if k=0 then[61,60]else if k=1 then[43,45]else[42,47]
end
section
open Go.RowKit
theorem cell_new{w:World}{cs:Array Value}{t:TypeId}{n j:Nat}{u:Value}(hn:n=w.heap.size)(hu:cs[j]?=some u):(w.alloc (.cells cs t)).cell? ((⟨n,0,none⟩:Addr).add j)=some u:=by
 subst hn
 have:(⟨w.heap.size,0,none⟩:Addr).add j=⟨w.heap.size,j,none⟩:=by unfold Addr.add;split<;>simp_all
 rw[this]
 simp only[World.cell?,World.alloc,Array.getElem?_push_size,Option.isSome_none,Bool.false_eq_true,if_false]
 exact hu
theorem bsK_let:bs K.let_=⟨#[108,101,116]⟩:=rfl
theorem bsK_rec:bs K.rec_=⟨#[114,101,99]⟩:=rfl
theorem bsK_in:bs K.in_=⟨#[105,110]⟩:=rfl
theorem bsK_fun:bs K.fun_=⟨#[102,117,110]⟩:=rfl
theorem bsK_if:bs K.if_=⟨#[105,102]⟩:=rfl
theorem bsK_then:bs K.then_=⟨#[116,104,101,110]⟩:=rfl
theorem bsK_else:bs K.else_=⟨#[101,108,115,101]⟩:=rfl
theorem bsK_match:bs K.match_=⟨#[109,97,116,99,104]⟩:=rfl
theorem bsK_with:bs K.with_=⟨#[119,105,116,104]⟩:=rfl
theorem bsK_end:bs K.end_=⟨#[101,110,100]⟩:=rfl
theorem bsK_open:bs K.open_=⟨#[40]⟩:=rfl
theorem bsK_shut:bs K.shut_=⟨#[41]⟩:=rfl
theorem bsK_eq:bs K.eq_=⟨#[61]⟩:=rfl
theorem bsK_semi:bs K.semi_=⟨#[59]⟩:=rfl
theorem bsK_set:bs K.set_=⟨#[58,61]⟩:=rfl
theorem bsK_arrow:bs K.arrow_=⟨#[45,62]⟩:=rfl
theorem bsK_bar:bs K.bar_=⟨#[124]⟩:=rfl
theorem bsK_bang:bs K.bang_=⟨#[33]⟩:=rfl
theorem bsK_under:bs K.under_=⟨#[95]⟩:=rfl
theorem bsK_unit:bs K.unit_=⟨#[40,41]⟩:=rfl
theorem bsK_nil:bs []=⟨#[]⟩:=rfl
abbrev tyStr:TypeId:=9
end
section
open Go.RowKit
theorem ret_int{k:IntKind}{a b:Int}(h:a=b):Ending.returned (.int k a)=.returned (.int k b):=by rw[h]
theorem countWhile_isNameByte(s:ByteArray)(w:World)(hs:s.size<=maxLen) :
  Calls prog 79 #[.string s,.func (.func 118) #[] #[]] w fun e w'=>e=.returned (.int .i64 (cnt nameB s.data.toList))/\w'=w:=by
 unfold maxLen at hs
 go_enter func79,ntmps79
 go_wp2
 go_loop [8] (fun i=>∃k:Nat,k<=s.size/\i=.int .i64 k/\Hid (cnt nameB s.data.toList=k+cnt nameB (s.data.toList.drop k))) (fun i=>s.size-(intOf i).toNat)
 case atStart=>exact⟨0,zero_le _,rfl,show cnt _ _=_ by simp⟩
 case round=>
  obtain⟨k,hk,rfl,H⟩:=hrel
  by_cases hlt:k<s.size
  ·cases hb:nameB s[k].toNat
   ·go_wp2_with (go_at_call 118;refine(isNameByte_any _ _).mono ?_;rintro e w'⟨rfl,rfl⟩)
    go_ret
    exact⟨ret_int (by have:=H.out;rw[cntS_no _ _ _ hlt hb]at this;omega),rfl⟩
   ·go_wp2_with (go_at_call 118;refine(isNameByte_any _ _).mono ?_;rintro e w'⟨rfl,rfl⟩)
    go_round
    case rel=>exact⟨k+1,by omega,by go_num,show cnt _ _=_ by have:=H.out;rw[cntS_yes _ _ _ hlt hb]at this;omega⟩
    case measure=>simp[intOf];omega
  ·go_wp2
   go_ret
   exact⟨ret_int (by have:=H.out;rw[cntS_end _ _ _ (by omega)]at this;omega),rfl⟩
theorem countWhile_isConstructorByte(s:ByteArray)(w:World)(hs:s.size<=maxLen) :
  Calls prog 79 #[.string s,.func (.func 80) #[] #[]] w fun e w'=>e=.returned (.int .i64 (cnt conB s.data.toList))/\w'=w:=by
 unfold maxLen at hs
 go_enter func79,ntmps79
 go_wp2
 go_loop [8] (fun i=>∃k:Nat,k<=s.size/\i=.int .i64 k/\Hid (cnt conB s.data.toList=k+cnt conB (s.data.toList.drop k))) (fun i=>s.size-(intOf i).toNat)
 case atStart=>exact⟨0,zero_le _,rfl,show cnt _ _=_ by simp⟩
 case round=>
  obtain⟨k,hk,rfl,H⟩:=hrel
  by_cases hlt:k<s.size
  ·cases hb:conB s[k].toNat
   ·go_wp2_with (go_at_call 80;refine(isConstructorByte_any _ _).mono ?_;rintro e w'⟨rfl,rfl⟩)
    go_ret
    exact⟨ret_int (by have:=H.out;rw[cntS_no _ _ _ hlt hb]at this;omega),rfl⟩
   ·go_wp2_with (go_at_call 80;refine(isConstructorByte_any _ _).mono ?_;rintro e w'⟨rfl,rfl⟩)
    go_round
    case rel=>exact⟨k+1,by omega,by go_num,show cnt _ _=_ by have:=H.out;rw[cntS_yes _ _ _ hlt hb]at this;omega⟩
    case measure=>simp[intOf];omega
  ·go_wp2
   go_ret
   exact⟨ret_int (by have:=H.out;rw[cntS_end _ _ _ (by omega)]at this;omega),rfl⟩
theorem countWhile_isDigit(s:ByteArray)(w:World)(hs:s.size<=maxLen) :
  Calls prog 79 #[.string s,.func (.func 81) #[] #[]] w fun e w'=>e=.returned (.int .i64 (cnt digitB s.data.toList))/\w'=w:=by
 unfold maxLen at hs
 go_enter func79,ntmps79
 go_wp2
 go_loop [8] (fun i=>∃k:Nat,k<=s.size/\i=.int .i64 k/\Hid (cnt digitB s.data.toList=k+cnt digitB (s.data.toList.drop k))) (fun i=>s.size-(intOf i).toNat)
 case atStart=>exact⟨0,zero_le _,rfl,show cnt _ _=_ by simp⟩
 case round=>
  obtain⟨k,hk,rfl,H⟩:=hrel
  by_cases hlt:k<s.size
  ·cases hb:digitB s[k].toNat
   ·go_wp2_with (go_at_call 81;refine(isDigit_any _ _).mono ?_;rintro e w'⟨rfl,rfl⟩)
    go_ret
    exact⟨ret_int (by have:=H.out;rw[cntS_no _ _ _ hlt hb]at this;omega),rfl⟩
   ·go_wp2_with (go_at_call 81;refine(isDigit_any _ _).mono ?_;rintro e w'⟨rfl,rfl⟩)
    go_round
    case rel=>exact⟨k+1,by omega,by go_num,show cnt _ _=_ by have:=H.out;rw[cntS_yes _ _ _ hlt hb]at this;omega⟩
    case measure=>simp[intOf];omega
  ·go_wp2
   go_ret
   exact⟨ret_int (by have:=H.out;rw[cntS_end _ _ _ (by omega)]at this;omega),rfl⟩
end
end Go.Proofs.YtbkiipiocpnnnaaGreatDoor
