import Derived.WalkKit
import Derived.Lib.Bytealg
import Derived.Lib.Strings
import Derived.Test.YthakgdfmbknakaaGreatDoorRows
import Derived.WalkSpells
import Derived.WalkLawsBesides
import Derived.Shelf.Strings.Builder1
import Derived.Shelf.Strings.Trim
import Derived.Shelf.Small.Utf8
import Derived.Shelf.Small.Bits
import Derived.Shelf.Small.Strs
import Derived.Shelf.Strings.BuilderF
import Derived.Shelf.Strings.BuilderK
import Derived.Shelf.Strconv.Itoa0
import Derived.Shelf.Strconv.Itoa1
import Derived.Shelf.LaysM
import Derived.Shelf.Strconv.Itoa2
import Derived.Shelf.Strconv.Itoa3
import Derived.Shelf.Strconv.ParseIntEmpty
import Derived.Shelf.Strconv.Clone
import Derived.Shelf.Strconv.SyntaxError
import Derived.Shelf.LaysC
import Derived.Shelf.Strconv.ToError
import Derived.Shelf.Strconv.Lower
import Derived.Shelf.Strconv.ParseUint10
import Derived.Shelf.Strconv.ParseUint10Empty
import Derived.Shelf.Strconv.ParseUint10Any
import Derived.Shelf.Strconv.ParseInt10
import Derived.Shelf.Strconv.RangeError
import Derived.Shelf.Strconv.ToErrorRange
import Derived.Shelf.Strconv.ParseUintEmpty
import Derived.Shelf.Strconv.ParseUint10b64
import Derived.Shelf.Strconv.ParseUint10b32
import Derived.Shelf.Strconv.ParseUint10b16
import Derived.Shelf.Strconv.ParseUint10b8
import Derived.Shelf.Strconv.ParseUint10At
import Derived.Shelf.Strconv.ParseInt10At64
import Derived.Shelf.Strconv.ParseInt10At32
import Derived.Shelf.Strconv.ParseInt10At16
import Derived.Shelf.Strconv.ParseInt10At8
import Derived.Shelf.Strconv.ParseInt10All
import Derived.Shelf.Strconv.ParseIntPublic10
import Derived.Shelf.Strconv.ErrVarParseInt
import Derived.Shelf.Strings.Search1
import Derived.Shelf.Sort.Plain
import Derived.Shelf.Strings.Prefix
import Derived.Shelf.Unicode.Decode
import Derived.Shelf.Strings.Runes
import Derived.Shelf.Strings.AsciiSet
import Derived.Shelf.Unicode.DecodeSlow
import Derived.Shelf.Unicode.DecodeAny
import Derived.Shelf.Strings.BuilderCap
import Derived.Shelf.Slices.Turned
import Derived.Shelf.Slices.CompactS
import Derived.Shelf.Slices.Cells
import Derived.Shelf.Slices.In.SortNone
import Derived.Test.YthakgdfmbknakaaGreatDoorProg
import Derived.Lib.IndexBytes
import Derived.Deep.QuietTactic
import Derived.BigQuiet
import Derived.Deep.LoopGhost
import Derived.Maps.OwnSet
import Derived.DeepKeys4
import Derived.Laws.AppendOwn
set_option linter.all false
set_option maxHeartbeats 40000000
set_option maxRecDepth 100000
open Go.Proofs.Tryz
open Or (inl inr)
open Nat (le_refl le_trans zero_le lt_of_lt_of_le)
open List (length_append length_cons mem_cons_self mem_cons_of_mem mem_append mem_singleton cons_append mem_cons length_nil map_append map_cons nil_append)
namespace Go.Proofs.YthakgdfmbknakaaGreatDoor
section
def cT(c:Int):Bool:=decide (97<=c/\c<=122)
def dQ(c:Int):Bool:=decide (65<=c/\c<=90)
def bS(c:Int):Bool:=decide (48<=c/\c<=57)
def eQ(c:Int):Bool:=cT c || bS c || c==95
def kC(c:Int):Bool:=eQ c || dQ c
def gO(c:Int):Bool:=c==32 || c==9 || c==10
def fJ(c:Int):Bool:=c != 10
def cnt(p:Int->Bool):List UInt8->Nat
 |[]=>0
 |c::r=>bif p c.toNat then cnt p r+1 else 0
def wX(p:Int->Bool)(l:List UInt8):cnt p l<=l.length:=by
 induction l with
 |nil=>simp[cnt]
 |cons c r ih=>cases h:p c.toNat<;>simp[cnt,h];omega
def Ce(p:Int->Bool)(l:List UInt8)(k:Nat)(hk:k<l.length)(h:p (l[k]).toNat=true):cnt p (l.drop k)=1+cnt p (l.drop (k+1)):=by
 rw[List.drop_eq_getElem_cons hk];simp[cnt,h];omega
def Fu(p:Int->Bool)(l:List UInt8)(k:Nat)(hk:k<l.length)(h:p (l[k]).toNat=false):cnt p (l.drop k)=0:=by
 rw[List.drop_eq_getElem_cons hk];simp[cnt,h]
def Cf(p:Int->Bool)(l:List UInt8)(k:Nat)(hk:l.length<=k):cnt p (l.drop k)=0:=by
 rw[List.drop_of_length_le hk];rfl
def sY(p:Int->Bool)(s:ByteArray)(k:Nat)(hk:k<s.size)(h:p (s[k]).toNat=true):cnt p (s.data.toList.drop k)=1+cnt p (s.data.toList.drop (k+1)):=
 Ce p s.data.toList k (by simpa using hk) h
def wY(p:Int->Bool)(s:ByteArray)(k:Nat)(hk:k<s.size)(h:p (s[k]).toNat=false):cnt p (s.data.toList.drop k)=0:=
 Fu p s.data.toList k (by simpa using hk) h
def sZ(p:Int->Bool)(s:ByteArray)(k:Nat)(hk:s.size<=k):cnt p (s.data.toList.drop k)=0:=
 Cf p s.data.toList k (by simpa using hk)
def iB(l:List UInt8):Bool:=l==[108,101,116] || l==[114,101,99] || l==[105,110] || l==[102,117,110] || l==[105,102] || l==[116,104,101,110] || l==[101,108,115,101] || l==[109,97,116,99,104] || l==[119,105,116,104] || l==[101,110,100] || l==[116,121,112,101] || l==[100,111] || l==[116,114,117,101] || l==[102,97,108,115,101]
def aX(l:List UInt8):Nat:=
 match l with
 |[]=>0
 |c::_=>bif cT c.toNat then cnt eQ l else 0
def jC(l:List UInt8):aX l<=l.length:=by
 unfold aX
 split
 ·simp
 ·rename_i c r;have:=wX eQ (c::r);cases cT c.toNat<;>simp<;>simpa using this
def gK(l:List UInt8):Nat:=if 18<cnt bS l then 0 else cnt bS l
def dW(l:List UInt8):Nat:=
 bif aX l.tail==0 || iB (l.tail.take (aX l.tail))then 0 else 1+aX l.tail
def signs:List UInt8:=[40,41,61,60,43,45,42,47,59,124,33,46,95]
def cG(l:List UInt8):Nat:=
 if Lib.hasPrefix l [58,61]=true\/Lib.hasPrefix l [45,62]=true then 2 else
 match l with
 |[]=>0
 |c::_=>if c∈signs then 1 else 0
def aY(l:List UInt8):Nat:=
 match l with
 |[]=>0
 |c::_=>bif cT c.toNat then aX l else bif dQ c.toNat then cnt kC l else bif bS c.toNat then gK l else if c=39 then dW l else cG l
def gap:Bool->List UInt8->Nat
 |_,[]=>0
 |false,c::r=>bif gO c.toNat then 1+gap false r else if c=35 then 1+gap true r else 0
 |true,c::r=>if c=10 then 1+gap false r else 1+gap true r
def oI(l:List UInt8)(c:UInt8):-1<=Lib.indexByte l c:=by
 induction l with
 |nil=>simp[Lib.indexByte]
 |cons b r ih=>simp only[Lib.indexByte];split<;>(try split)<;>omega
def uG(l:List UInt8)(c:UInt8):0<=Lib.indexByte l c↔c∈l:=by
 induction l with
 |nil=>simp[Lib.indexByte]
 |cons b r ih=>
  have:=oI r c;simp only[Lib.indexByte]
  by_cases h:b=c
  ·simp[h]
  ·have h':¬c=b:=fun e=>h e.symm;have h2:(b==c)=false:=by simpa using h
   simp only[h2]
   by_cases h3:Lib.indexByte r c=-1
   ·rw[h3]at ih;simp[h3,h',<- ih]
   ·have h4:(Lib.indexByte r c==-1)=false:=by simpa using h3
    simp[h4,h',<- ih];omega
def zC(c:UInt8):fJ c.toNat=(c != 10):=by
 simp only[fJ];rw[Bool.eq_iff_iff];simp only[bne_iff_ne,ne_eq];constructor
 ·intro h e;exact h (by rw[e];rfl)
 ·intro h e;exact h (UInt8.toNat_inj.1 (by rw[show (10:UInt8).toNat=10 from rfl];omega))
def sL(l:List UInt8):(0<=Lib.indexByte l 10->Lib.indexByte l 10=cnt fJ l)/\(Lib.indexByte l 10<0->cnt fJ l=l.length):=by
 induction l with
 |nil=>simp[Lib.indexByte,cnt]
 |cons b r ih=>
  have hge:=oI r 10;simp only[Lib.indexByte,cnt,zC,length_cons]
  by_cases h:b=10
  ·subst h;simp
  ·have h2:(b==10)=false:=by simpa using h
   have V8:(b != 10)=true:=by simpa using h
   simp only[h2,V8,cond_true]
   by_cases h3:Lib.indexByte r 10=-1
   ·have:=ih.2 (by omega);simp[h3];omega
   ·have:=ih.1 (by omega);have h4:(Lib.indexByte r 10==-1)=false:=by simpa using h3
    simp[h4];omega
def GP(l:List UInt8):(cnt fJ l:Int)=if 0<=Lib.indexByte l 10 then Lib.indexByte l 10 else l.length:=by
 have:=sL l
 split
 ·rename_i h;rw[this.1 h]
 ·rename_i h;rw[this.2 (by omega)]
end
section
open Go.RowKit
def bW{a b:Bool}(h:a=b):Ending.returned (.bool a)=.returned (.bool b):=by rw[h]
def dM(c:Int)(w:World) :
  Calls prog 95 #[.int .u8 c] w fun e w'=>e=.returned (.bool (cT c))/\w'=w:=by
 by_cases h1:97<=c
 ·by_cases h2:c<=122
  ·go_enter func95,ntmps95;go_wp2;go_ret;exact⟨bW (by simp[cT,h1,h2]),rfl⟩
  ·go_enter func95,ntmps95;go_wp2;go_ret;exact⟨bW (by simp[cT,h2]),rfl⟩
 ·go_enter func95,ntmps95;go_wp2;go_ret;exact⟨bW (by simp[cT];omega),rfl⟩
def eW(c:Int)(w:World) :
  Calls prog 97 #[.int .u8 c] w fun e w'=>e=.returned (.bool (dQ c))/\w'=w:=by
 by_cases h1:65<=c
 ·by_cases h2:c<=90
  ·go_enter func97,ntmps97;go_wp2;go_ret;exact⟨bW (by simp[dQ,h1,h2]),rfl⟩
  ·go_enter func97,ntmps97;go_wp2;go_ret;exact⟨bW (by simp[dQ,h2]),rfl⟩
 ·go_enter func97,ntmps97;go_wp2;go_ret;exact⟨bW (by simp[dQ];omega),rfl⟩
def dY(c:Int)(w:World) :
  Calls prog 100 #[.int .u8 c] w fun e w'=>e=.returned (.bool (bS c))/\w'=w:=by
 by_cases h1:48<=c
 ·by_cases h2:c<=57
  ·go_enter func100,ntmps100;go_wp2;go_ret;exact⟨bW (by simp[bS,h1,h2]),rfl⟩
  ·go_enter func100,ntmps100;go_wp2;go_ret;exact⟨bW (by simp[bS,h2]),rfl⟩
 ·go_enter func100,ntmps100;go_wp2;go_ret;exact⟨bW (by simp[bS];omega),rfl⟩
def gN(c:Int)(w:World) :
  Calls prog 140 #[.int .u8 c] w fun e w'=>e=.returned (.bool (eQ c))/\w'=w:=by
 cases h1:cT c
 ·cases h2:bS c
  ·go_enter func140,ntmps140
   go_wp2_with (first|(go_at_call 95;refine(dM _ _).mono ?_;rintro e w'⟨rfl,rfl⟩)|(go_at_call 100;refine(dY _ _).mono ?_;rintro e w'⟨rfl,rfl⟩))
   go_ret;exact⟨bW (by simp[eQ,h1,h2]),rfl⟩
  ·go_enter func140,ntmps140
   go_wp2_with (first|(go_at_call 95;refine(dM _ _).mono ?_;rintro e w'⟨rfl,rfl⟩)|(go_at_call 100;refine(dY _ _).mono ?_;rintro e w'⟨rfl,rfl⟩))
   go_ret;exact⟨bW (by simp[eQ,h2]),rfl⟩
 ·go_enter func140,ntmps140
  go_wp2_with (first|(go_at_call 95;refine(dM _ _).mono ?_;rintro e w'⟨rfl,rfl⟩)|(go_at_call 100;refine(dY _ _).mono ?_;rintro e w'⟨rfl,rfl⟩))
  go_ret;exact⟨bW (by simp[eQ,h1]),rfl⟩
def gR(c:Int)(w:World) :
  Calls prog 99 #[.int .u8 c] w fun e w'=>e=.returned (.bool (kC c))/\w'=w:=by
 cases h1:eQ c
 ·go_enter func99,ntmps99
  go_wp2_with (first|(go_at_call 140;refine(gN _ _).mono ?_;rintro e w'⟨rfl,rfl⟩)|(go_at_call 97;refine(eW _ _).mono ?_;rintro e w'⟨rfl,rfl⟩))
  go_ret;exact⟨bW (by simp[kC,h1]),rfl⟩
 ·go_enter func99,ntmps99
  go_wp2_with (first|(go_at_call 140;refine(gN _ _).mono ?_;rintro e w'⟨rfl,rfl⟩)|(go_at_call 97;refine(eW _ _).mono ?_;rintro e w'⟨rfl,rfl⟩))
  go_ret;exact⟨bW (by simp[kC,h1]),rfl⟩
end
section
def VI(l:List UInt8):gap true l=cnt fJ l+gap false (l.drop (cnt fJ l)):=by
 induction l with
 |nil=>simp[gap,cnt]
 |cons c r ih=>
  by_cases h:c=10
  ·subst h;have e1:fJ 10=false:=by decide
   have e2:gO 10=true:=by decide
   simp[gap,cnt,e1,e2]
  ·have h2:(c != 10)=true:=by simpa using h
   simp only[gap,if_neg h,cnt,zC,h2,cond_true,List.drop_succ_cons];omega
def VJ(b:Bool)(l:List UInt8):gap b l<=l.length:=by
 induction l generalizing b with
 |nil=>simp[gap]
 |cons c r ih=>
  have h1:=ih true;have h2:=ih false;cases b
  ·simp only[gap,length_cons];cases gO c.toNat
   ·simp only[cond_false];split<;>omega
   ·simp only[cond_true];omega
  ·simp only[gap,length_cons]
   split<;>omega
def Bh(l:List UInt8)(k:Nat)(hk:l.length<=k):gap false (l.drop k)=0:=by
 rw[List.drop_of_length_le hk];rfl
def PF(l:List UInt8)(k:Nat)(hk:k<l.length)(h:gO (l[k]).toNat=true):gap false (l.drop k)=1+gap false (l.drop (k+1)):=by
 rw[List.drop_eq_getElem_cons hk];simp[gap,h]
def PE(l:List UInt8)(k:Nat)(hk:k<l.length)(h:gO (l[k]).toNat=false)(h':l[k]≠35):gap false (l.drop k)=0:=by
 rw[List.drop_eq_getElem_cons hk];simp[gap,h,h']
def IV(l:List UInt8)(k:Nat)(hk:k<l.length)(h:l[k]=35) :
  gap false (l.drop k)=cnt fJ (l.drop k)+gap false (l.drop (k+cnt fJ (l.drop k)))/\1<=cnt fJ (l.drop k):=by
 have e1:fJ 35=true:=by decide
 have e2:gO 35=false:=by decide
 have e3:l.drop k=35::l.drop (k+1):=by rw[List.drop_eq_getElem_cons hk,h]
 have e4:cnt fJ (l.drop k)=cnt fJ (l.drop (k+1))+1:=by rw[e3];simp[cnt,e1]
 have e5:gap false (l.drop k)=1+gap true (l.drop (k+1)):=by rw[e3];simp[gap,e2]
 have e6:=VI (l.drop (k+1));rw[List.drop_drop]at e6;refine⟨?_,by omega⟩;rw[e5,e6,e4];have e7:k+1+cnt fJ (l.drop (k+1))=k+(cnt fJ (l.drop (k+1))+1):=by omega
 rw[e7];omega
def qZ(l:List UInt8)(b:Bool):gap false (l.drop (gap b l))=0:=by
 induction l generalizing b with
 |nil=>simp[gap]
 |cons c r ih=>
  cases b
  ·cases h:gO c.toNat
   ·by_cases h2:c=35
    ·have e2:gO (35:UInt8).toNat=false:=by decide
     have:=ih true;subst h2;simp only[gap,e2,cond_false,if_true];rw[Nat.add_comm,List.drop_succ_cons];exact this
    ·simp[gap,h,h2]
   ·have:=ih false;simp only[gap,h,cond_true];rw[Nat.add_comm,List.drop_succ_cons];exact this
  ·by_cases h2:c=10
   ·have:=ih false;simp only[gap,h2,if_true];rw[Nat.add_comm,List.drop_succ_cons];exact this
   ·have:=ih true;simp only[gap,if_neg h2];rw[Nat.add_comm,List.drop_succ_cons];exact this
def pE(l:List UInt8):aY l<=l.length:=by
 match l with
 |[]=>simp[aY]
 |c::r=>
  have h1:=jC (c::r);have h2:=wX kC (c::r);have h3:=wX bS (c::r);have h4:=jC r;simp only[aY];cases cT c.toNat
  ·cases dQ c.toNat
   ·cases bS c.toNat
    ·simp only[cond_false]
     split
     ·simp only[dW,List.tail_cons];cases (aX r==0 || iB (List.take (aX r) r))
      ·simp only[cond_false,length_cons];omega
      ·simp
     ·simp only[cG]
      split
      ·rename_i h;rcases h with h|h
       all_goals
        simp only[Lib.hasPrefix]at h;have:=List.IsPrefix.length_le (List.isPrefixOf_iff_prefix.1 h)
        simpa using this
      ·split<;>simp
    ·simp only[cond_false,cond_true,gK];split<;>omega
   ·simpa using h2
  ·simpa using h1
def kB:Nat->List UInt8->Nat->List (List UInt8)->List (List UInt8)×Nat×Nat
 |0,_,_,acc=>(acc,0,0)
 |n+1,l,at_,acc=>
  if (l.drop (gap false l)).isEmpty then(acc,0,0)
  else if aY (l.drop (gap false l))=0 then([],at_+gap false l,2)
  else kB n ((l.drop (gap false l)).drop (aY (l.drop (gap false l)))) (at_+gap false l+aY (l.drop (gap false l))) (acc++[(l.drop (gap false l)).take (aY (l.drop (gap false l)))])
def nO(l:List UInt8):List (List UInt8)×Nat×Nat:=
 if 4000<l.length then([],0,1)else kB (l.length+1) l 0 []
end
section
open Go.RowKit
def bs(l:List UInt8):ByteArray:=⟨l.toArray⟩
def bM(l:List UInt8):Value:=.string (bs l)
def dD(l:List UInt8):(bs l).data.toList=l:=by simp[bs]
def JL(s:ByteArray)(a b:Nat):s.extract a b=bs ((s.data.toList.drop a).take (b-a)):=by
 have:=Lib.extract_data s a b;rw[<- this];rfl
def Bx(n:Nat)(l:List UInt8)(k:Nat)(acc:List (List UInt8))(h:l=[]):kB n l k acc=(acc,0,0):=by
 subst h;cases n<;>simp[kB,gap]
def Bz(n:Nat)(l:List UInt8)(k:Nat)(acc:List (List UInt8))(hn:0<n)(hl:l≠[])(hg:gap false l=0)(ht:aY l=0):kB n l k acc=([],k,2):=by
 obtain⟨m,rfl⟩:∃m,n=m+1:=⟨n-1,by omega⟩;have:l.isEmpty=false:=by cases l<;>simp_all
 simp[kB,hg,this,ht]
def Bw(n:Nat)(l:List UInt8)(k:Nat)(acc:List (List UInt8))(hn:0<n)(hl:l≠[])(hg:gap false l=0)(ht:aY l≠0) :
  kB n l k acc=kB (n-1) (l.drop (aY l)) (k+aY l) (acc++[l.take (aY l)]):=by
 obtain⟨m,rfl⟩:∃m,n=m+1:=⟨n-1,by omega⟩;have:l.isEmpty=false:=by cases l<;>simp_all
 simp[kB,hg,this,ht]
def MA(n:Nat)(l:List UInt8)(k:Nat)(acc:List (List UInt8))(hn:0<n) :
  kB n l k acc=kB n (l.drop (gap false l)) (k+gap false l) acc:=by
 obtain⟨m,rfl⟩:∃m,n=m+1:=⟨n-1,by omega⟩;have h:=qZ l false;simp only[kB,h,List.drop_zero,Nat.add_zero]
def uC{w w':World}{base:Nat}{e:TypeId}{size:Nat}{v:Value}{n:Nat}{xs:List Value}(h:w.ownsRow base e size v n xs)(hb:Below w.heap.size w w'):w'.ownsRow base e size v n xs:=by
 obtain⟨h1,h2⟩:=h;refine⟨h1,?_⟩;rcases h2 with h2|⟨g,cap,cur,hv,hg,hh,r⟩
 ·exact inl h2
 ·refine inr ⟨g,cap,cur,hv,hg,?_,r⟩
  have Js:g<w.heap.size:=by
   by_cases h:g<w.heap.size
   ·exact h
   ·rw[Array.getElem?_eq_none (by omega)]at hh;cases hh
  rw[hb.block g Js];exact hh
def mG(l:List UInt8)(R:List (List UInt8)×Nat×Nat)(k:Nat)(toks:List (List UInt8)):Prop:=
 ∃n,l.length<n+k/\kB n (l.drop k) k toks=R/\gap false (l.drop k)=0
def xF(l:List UInt8):mG l (kB (l.length+1) l 0 []) (gap false l) []:=by
 refine⟨l.length+1,by omega,?_,qZ l false⟩;have:=MA (l.length+1) l 0 [] (by omega);rw[Nat.zero_add]at this;exact this.symm
def JU{l:List UInt8}{R:List (List UInt8)×Nat×Nat}{k:Nat}{toks:List (List UInt8)}(h:mG l R k toks)(hk:l.length<=k):R=(toks,0,0):=by
 obtain⟨n,_,h2,_⟩:=h;rw[<- h2];exact Bx _ _ _ _ (List.drop_of_length_le hk)
def JV{l:List UInt8}{R:List (List UInt8)×Nat×Nat}{k:Nat}{toks:List (List UInt8)}(h:mG l R k toks)(hk:k<l.length)(ht:aY (l.drop k)=0):R=([],k,2):=by
 obtain⟨n,h1,h2,h3⟩:=h;rw[<- h2];refine Bz _ _ _ _ (by omega) (fun e=>?_) h3 ht;have:=congrArg List.length e;simp at this;omega
def JT{l:List UInt8}{R:List (List UInt8)×Nat×Nat}{k:Nat}{toks:List (List UInt8)}(h:mG l R k toks)(hk:k<l.length)(ht:aY (l.drop k)≠0) :
  mG l R (k+aY (l.drop k)+gap false (l.drop (k+aY (l.drop k)))) (toks++[(l.drop k).take (aY (l.drop k))]):=by
 obtain⟨n,h1,h2,h3⟩:=h;refine⟨n-1,by omega,?_,?_⟩
 ·rw[<- h2,Bw n _ _ _ (by omega) (fun e=>by have:=congrArg List.length e;simp at this;omega) h3 ht,List.drop_drop,MA (n-1) (l.drop (k+aY (l.drop k))) (k+aY (l.drop k)) _ (by omega),List.drop_drop]
 ·have:=qZ (l.drop (k+aY (l.drop k))) false;rw[List.drop_drop]at this;exact this
def aC{p:Prop}(h:p):Hid p:=h
end
section
open Go.RowKit
def aR(l:List UInt8):Int:=
 match l with
 |[]=>0
 |c::_=>bif cT c.toNat then(bif iB (l.take (aX l))then 119 else 110)else bif dQ c.toNat then 99 else bif bS c.toNat then(if gK l=0 then 0 else 100)else if c=39 then(if dW l=0 then 0 else 108)else if cG l=0 then 0 else 119
def Stops(r:List UInt8):Prop:=r=[]\/∃c t,r=c::t/\(gO c.toNat=true\/c=35)
def Stops.con{r:List UInt8}(h:Stops r):r=[]\/∃c t,r=c::t/\kC c.toNat=false:=by
 rcases h with h|⟨c,t,rfl,h⟩
 ·exact inl h
 ·refine inr ⟨c,t,rfl,?_⟩;rcases h with h|rfl
  ·revert h;simp only[gO,kC,eQ,cT,bS,dQ,Bool.or_eq_true,beq_iff_eq,Bool.or_eq_false_iff,decide_eq_false_iff_not,beq_eq_false_iff_ne];omega
  ·decide
def MC{p:Int->Bool}(hp:∀c,kC c=false->p c=false){r:List UInt8}(h:Stops r):r=[]\/∃c t,r=c::t/\p c.toNat=false:=by
 rcases h.con with h|⟨c,t,e,h⟩
 ·exact inl h
 ·exact inr ⟨c,t,e,hp _ h⟩
def sX{p:Int->Bool}{r:List UInt8}(hr:r=[]\/∃c t,r=c::t/\p c.toNat=false)(l:List UInt8):cnt p (l.take (cnt p l)++r)=cnt p l:=by
 induction l with
 |nil=>
  rcases hr with rfl|⟨c,t,rfl,h⟩
  ·rfl
  ·simp[cnt,h]
 |cons c t ih=>
  cases h:p c.toNat
  ·have h0:cnt p (c::t)=0:=by simp[cnt,h]
   rw[h0];rcases hr with rfl|⟨d,t',rfl,h'⟩
   ·rfl
   ·simp[cnt,h']
  ·have h0:cnt p (c::t)=cnt p t+1:=by simp[cnt,h]
   rw[h0,List.take_succ_cons,cons_append];simp[cnt,h,ih]
def mL(c:Int)(h:kC c=false):eQ c=false:=by
 simp only[kC,Bool.or_eq_false_iff]at h;exact h.1
def JB(c:Int)(h:kC c=false):bS c=false:=by
 have:=mL c h;simp only[eQ,Bool.or_eq_false_iff]at this;exact this.1.2
def rK(c:Int)(h:cT c=true):eQ c=true:=by simp[eQ,h]
def oF{r:List UInt8}(hr:Stops r)(l:List UInt8):aX (l.take (aX l)++r)=aX l:=by
 cases l with
 |nil=>
  rcases hr.con with rfl|⟨c,t,rfl,h⟩
  ·rfl
  ·have h2:cT c.toNat=false:=by
    have:=mL _ h;simp only[eQ,Bool.or_eq_false_iff]at this;exact this.1.1
   simp[aX,h2]
 |cons c t=>
  cases h:cT c.toNat
  ·have h0:aX (c::t)=0:=by simp[aX,h]
   rw[h0];rcases hr.con with rfl|⟨d,t',rfl,h'⟩
   ·rfl
   ·have h2:cT d.toNat=false:=by
     have:=mL _ h';simp only[eQ,Bool.or_eq_false_iff]at this;exact this.1.1
    simp[aX,h2]
  ·have h0:aX (c::t)=cnt eQ (c::t):=by simp[aX,h]
   have h1:cnt eQ (c::t)=cnt eQ t+1:=by simp[cnt,rK _ h]
   have h2:=sX (MC mL hr) (c::t);rw[h0];rw[h1,List.take_succ_cons,cons_append]at h2 ⊢;rw[<- h2];simp[aX,h]
def nB(l r:List UInt8)(n:Nat)(hn:n<=l.length):(l.take n++r).take n=l.take n:=by
 rw[List.take_append_of_le_length (by simp;omega),List.take_take,Nat.min_self]
def SI{r:List UInt8}(hr:Stops r)(l:List UInt8)(ht:aY l≠0):aY (l.take (aY l)++r)=aY l/\aR (l.take (aY l)++r)=aR l:=by
 cases l with
 |nil=>simp[aY]at ht
 |cons c t=>
  cases h1:cT c.toNat
  ·cases h2:dQ c.toNat
   ·cases h3:bS c.toNat
    ·by_cases h4:c=39
     ·have e:aY (c::t)=dW (c::t):=by simp only[aY,h1,h2,h3,cond_false];rw[if_pos h4]
      have e2:dW (c::t)=bif aX t==0 || iB (t.take (aX t))then 0 else 1+aX t:=rfl
      have e3:(aX t==0 || iB (t.take (aX t)))=false:=by
       cases hb:(aX t==0 || iB (t.take (aX t)))
       ·rfl
       ·rw[hb]at e2;rw[e,e2]at ht;exact absurd rfl ht
      rw[e3]at e2;simp only[cond_false]at e2
      have e4:dW (c::(t.take (aX t)++r))=1+aX t:=by
       have:=oF hr t;simp only[dW,List.tail_cons,this,nB t r _ (jC t),e3,cond_false]
      have e5:(c::t).take (aY (c::t))++r=c::(t.take (aX t)++r):=by
       rw[e,e2,Nat.add_comm,List.take_succ_cons,cons_append]
      rw[e5];constructor
      ·rw[e,e2];simp only[aY,h1,h2,h3,cond_false];rw[if_pos h4,e4]
      ·simp only[aR,h1,h2,h3,cond_false];rw[if_pos h4,if_pos h4,e4,e2]
     ·have e:aY (c::t)=cG (c::t):=by simp only[aY,h1,h2,h3,cond_false];rw[if_neg h4]
      have e6:∀x,aY (c::x)=cG (c::x):=fun x=>by simp only[aY,h1,h2,h3,cond_false];rw[if_neg h4]
      have e7:∀x,aR (c::x)=if cG (c::x)=0 then 0 else 119:=fun x=>by simp only[aR,h1,h2,h3,cond_false];rw[if_neg h4]
      have key:∀x,(c::t).take (cG (c::t))++r=c::x->cG (c::x)=cG (c::t):=by
       intro x hx
       by_cases hp:Lib.hasPrefix (c::t) [58,61]=true\/Lib.hasPrefix (c::t) [45,62]=true
       ·have s2:cG (c::t)=2:=by simp only[cG];rw[if_pos hp]
        rw[s2]at hx ⊢
        cases t with
        |nil=>simp[Lib.hasPrefix,List.isPrefixOf]at hp
        |cons d t'=>
         simp only[List.take_succ_cons,List.take_zero,cons_append,nil_append,List.cons.injEq,true_and]at hx;subst hx
         have Py:Lib.hasPrefix (c::d::r) [58,61]=true\/Lib.hasPrefix (c::d::r) [45,62]=true:=by
          simpa [Lib.hasPrefix,List.isPrefixOf]using hp
         simp only[cG];rw[if_pos Py]
       ·have s1:cG (c::t)=if c∈signs then 1 else 0:=by simp only[cG];rw[if_neg hp]
        have hc:c∈signs:=by
         by_cases hc:c∈signs
         ·exact hc
         ·rw[if_neg hc]at s1;rw[e,s1]at ht;exact absurd rfl ht
        rw[s1,if_pos hc]at hx ⊢;simp only[List.take_succ_cons,List.take_zero,cons_append,nil_append,List.cons.injEq,true_and]at hx;subst hx
        have Py:¬(Lib.hasPrefix (c::r) [58,61]=true\/Lib.hasPrefix (c::r) [45,62]=true):=by
         rcases hr with rfl|⟨d,t',rfl,hd⟩
         ·simp[Lib.hasPrefix,List.isPrefixOf]
         ·intro Py
          have:d=61\/d=62:=by
           simp[Lib.hasPrefix,List.isPrefixOf]at Py;rcases Py with h|h
           ·exact inl h.2.symm
           ·exact inr h.2.symm
          rcases this with rfl|rfl<;>revert hd<;>decide
        simp only[cG];rw[if_neg Py,if_pos hc]
      have Ju:cG (c::t)≠0:=by rw[<- e];exact ht
      obtain⟨m,hm⟩:∃m,cG (c::t)=m+1:=⟨cG (c::t)-1,by omega⟩;have e5:(c::t).take (cG (c::t))++r=c::(t.take m++r):=by rw[hm,List.take_succ_cons,cons_append]
      rw[e,e5,e6,e7,e7,key _ e5];exact⟨rfl,rfl⟩
    ·have e:aY (c::t)=gK (c::t):=by simp only[aY,h1,h2,h3,cond_false,cond_true]
     have hn:¬18<cnt bS (c::t):=by
      intro h;apply ht;rw[e];unfold gK;rw[if_pos h]
     have e2:gK (c::t)=cnt bS (c::t):=by unfold gK;rw[if_neg hn]
     have e3:cnt bS (c::t)=cnt bS t+1:=by simp[cnt,h3]
     have h:=sX (MC JB hr) (c::t);rw[e,e2];rw[e3,List.take_succ_cons,cons_append]at h ⊢
     have e4:gK (c::(t.take (cnt bS t)++r))=cnt bS t+1:=by
      unfold gK;rw[h,if_neg (by omega)]
     constructor
     ·simp only[aY,h1,h2,h3,cond_false,cond_true];exact e4
     ·simp only[aR,h1,h2,h3,cond_false,cond_true];rw[e4,e2,e3]
   ·have e:aY (c::t)=cnt kC (c::t):=by simp only[aY,h1,h2,cond_false,cond_true]
    have e3:cnt kC (c::t)=cnt kC t+1:=by simp[cnt,kC,h2]
    have h:=sX hr.con (c::t);rw[e];rw[e3,List.take_succ_cons,cons_append]at h ⊢;constructor
    ·simp only[aY,h1,h2,cond_false,cond_true];exact h
    ·simp only[aR,h1,h2,cond_false,cond_true]
  ·have e:aY (c::t)=aX (c::t):=by simp only[aY,h1,cond_true]
   have h:=oF hr (c::t);have hle:=jC (c::t);have e3:aX (c::t)=cnt eQ t+1:=by simp[aX,h1,cnt,rK _ h1]
   have h5:=nB (c::t) r (aX (c::t)) hle;rw[e];have e4:(c::t).take (aX (c::t))++r=c::(t.take (cnt eQ t)++r):=by rw[e3,List.take_succ_cons,cons_append]
   rw[e4]at h h5 ⊢;constructor
   ·simp only[aY,h1,cond_true];exact h
   ·simp only[aR,h1,cond_true];rw[h,h5]
end
section
open Go.RowKit
def aD{w:World}{base size n:Nat}{e:TypeId}{v:Value}{xs:List Value}(h:w.ownsRow base e size v n xs):(v=.slice none 0 0/\n=0)\/∃g cap,v=.slice (some ⟨g,0,none⟩) n cap:=by
 rcases h.2 with h2|⟨g,cap,cur,hv,hg,r⟩
 ·exact inl h2
 ·exact inr ⟨g,cap,hv⟩
end
section
open Go.RowKit
namespace K
def EB:List UInt8:=[108,101,116]
def rec_:List UInt8:=[114,101,99]
def in_:List UInt8:=[105,110]
def fun_:List UInt8:=[102,117,110]
def if_:List UInt8:=[105,102]
def then_:List UInt8:=[116,104,101,110]
def else_:List UInt8:=[101,108,115,101]
def DI:List UInt8:=[109,97,116,99,104]
def with_:List UInt8:=[119,105,116,104]
def end_:List UInt8:=[101,110,100]
def open_:List UInt8:=[40]
def DR:List UInt8:=[41]
def eq_:List UInt8:=[61]
def semi_:List UInt8:=[59]
def set_:List UInt8:=[58,61]
def DB:List UInt8:=[45,62]
def bar_:List UInt8:=[124]
def DM:List UInt8:=[33]
def DC:List UInt8:=[95]
end K
end
section
open Go.RowKit
def fK{w:World}{cs:Array Value}{t:TypeId}{n j:Nat}{u:Value}(hn:n=w.heap.size)(hu:cs[j]?=some u):(w.alloc (.cells cs t)).cell? ((⟨n,0,none⟩:Addr).add j)=some u:=by
 subst hn;have:(⟨w.heap.size,0,none⟩:Addr).add j=⟨w.heap.size,j,none⟩:=by unfold Addr.add;split<;>simp_all
 rw[this];simp only[World.cell?,World.alloc,Array.getElem?_push_size,Option.isSome_none,Bool.false_eq_true,if_false];exact hu
def xC:bs K.EB=⟨#[108,101,116]⟩:=rfl
def ME:bs K.rec_=⟨#[114,101,99]⟩:=rfl
def Gc:bs K.in_=⟨#[105,110]⟩:=rfl
def MF:bs K.fun_=⟨#[102,117,110]⟩:=rfl
def WQ:bs K.if_=⟨#[105,102]⟩:=rfl
def WP:bs K.then_=⟨#[116,104,101,110]⟩:=rfl
def WR:bs K.else_=⟨#[101,108,115,101]⟩:=rfl
def pS:bs K.DI=⟨#[109,97,116,99,104]⟩:=rfl
def WO:bs K.with_=⟨#[119,105,116,104]⟩:=rfl
def Cp:bs K.end_=⟨#[101,110,100]⟩:=rfl
def fO:bs K.open_=⟨#[40]⟩:=rfl
def oN:bs K.DR=⟨#[41]⟩:=rfl
def JM:bs K.eq_=⟨#[61]⟩:=rfl
def EO:bs K.semi_=⟨#[59]⟩:=rfl
def Co:bs K.set_=⟨#[58,61]⟩:=rfl
def vN:bs K.DB=⟨#[45,62]⟩:=rfl
def rA:bs K.bar_=⟨#[124]⟩:=rfl
def tD:bs K.DM=⟨#[33]⟩:=rfl
def vM:bs K.DC=⟨#[95]⟩:=rfl
def mM:bs []=⟨#[]⟩:=rfl
abbrev aI:TypeId:=9
end
section
open Go.RowKit
def cD{k:IntKind}{a b:Int}(h:a=b):Ending.returned (.int k a)=.returned (.int k b):=by rw[h]
def gS(s:ByteArray)(w:World)(hs:s.size<=maxLen) :
  Calls prog 98 #[.string s,.func (.func 140) #[] #[]] w fun e w'=>e=.returned (.int .i64 (cnt eQ s.data.toList))/\w'=w:=by
 unfold maxLen at hs;go_enter func98,ntmps98;go_wp2
 go_loop [8] (fun i=>∃k:Nat,k<=s.size/\i=.int .i64 k/\Hid (cnt eQ s.data.toList=k+cnt eQ (s.data.toList.drop k))) (fun i=>s.size-(intOf i).toNat)
 case atStart=>exact⟨0,zero_le _,rfl,show cnt _ _=_ by simp⟩
 case round=>
  obtain⟨k,hk,rfl,H⟩:=hrel
  by_cases Js:k<s.size
  ·cases hb:eQ s[k].toNat
   ·go_wp2_with (go_at_call 140;refine(gN _ _).mono ?_;rintro e w'⟨rfl,rfl⟩)
    go_ret;exact⟨cD (by have:=H.out;rw[wY _ _ _ Js hb]at this;omega),rfl⟩
   ·go_wp2_with (go_at_call 140;refine(gN _ _).mono ?_;rintro e w'⟨rfl,rfl⟩)
    go_round
    case rel=>exact⟨k+1,by omega,by go_num,show cnt _ _=_ by have:=H.out;rw[sY _ _ _ Js hb]at this;omega⟩
    case measure=>simp[intOf];omega
  ·go_wp2;go_ret;exact⟨cD (by have:=H.out;rw[sZ _ _ _ (by omega)]at this;omega),rfl⟩
def iM(s:ByteArray)(w:World)(hs:s.size<=maxLen) :
  Calls prog 98 #[.string s,.func (.func 99) #[] #[]] w fun e w'=>e=.returned (.int .i64 (cnt kC s.data.toList))/\w'=w:=by
 unfold maxLen at hs;go_enter func98,ntmps98;go_wp2
 go_loop [8] (fun i=>∃k:Nat,k<=s.size/\i=.int .i64 k/\Hid (cnt kC s.data.toList=k+cnt kC (s.data.toList.drop k))) (fun i=>s.size-(intOf i).toNat)
 case atStart=>exact⟨0,zero_le _,rfl,show cnt _ _=_ by simp⟩
 case round=>
  obtain⟨k,hk,rfl,H⟩:=hrel
  by_cases Js:k<s.size
  ·cases hb:kC s[k].toNat
   ·go_wp2_with (go_at_call 99;refine(gR _ _).mono ?_;rintro e w'⟨rfl,rfl⟩)
    go_ret;exact⟨cD (by have:=H.out;rw[wY _ _ _ Js hb]at this;omega),rfl⟩
   ·go_wp2_with (go_at_call 99;refine(gR _ _).mono ?_;rintro e w'⟨rfl,rfl⟩)
    go_round
    case rel=>exact⟨k+1,by omega,by go_num,show cnt _ _=_ by have:=H.out;rw[sY _ _ _ Js hb]at this;omega⟩
    case measure=>simp[intOf];omega
  ·go_wp2;go_ret;exact⟨cD (by have:=H.out;rw[sZ _ _ _ (by omega)]at this;omega),rfl⟩
def jH(s:ByteArray)(w:World)(hs:s.size<=maxLen) :
  Calls prog 98 #[.string s,.func (.func 100) #[] #[]] w fun e w'=>e=.returned (.int .i64 (cnt bS s.data.toList))/\w'=w:=by
 unfold maxLen at hs;go_enter func98,ntmps98;go_wp2
 go_loop [8] (fun i=>∃k:Nat,k<=s.size/\i=.int .i64 k/\Hid (cnt bS s.data.toList=k+cnt bS (s.data.toList.drop k))) (fun i=>s.size-(intOf i).toNat)
 case atStart=>exact⟨0,zero_le _,rfl,show cnt _ _=_ by simp⟩
 case round=>
  obtain⟨k,hk,rfl,H⟩:=hrel
  by_cases Js:k<s.size
  ·cases hb:bS s[k].toNat
   ·go_wp2_with (go_at_call 100;refine(dY _ _).mono ?_;rintro e w'⟨rfl,rfl⟩)
    go_ret;exact⟨cD (by have:=H.out;rw[wY _ _ _ Js hb]at this;omega),rfl⟩
   ·go_wp2_with (go_at_call 100;refine(dY _ _).mono ?_;rintro e w'⟨rfl,rfl⟩)
    go_round
    case rel=>exact⟨k+1,by omega,by go_num,show cnt _ _=_ by have:=H.out;rw[sY _ _ _ Js hb]at this;omega⟩
    case measure=>simp[intOf];omega
  ·go_wp2;go_ret;exact⟨cD (by have:=H.out;rw[sZ _ _ _ (by omega)]at this;omega),rfl⟩
end
end Go.Proofs.YthakgdfmbknakaaGreatDoor
namespace Go.Proofs
open Go.Shelf
def Tryz.lays161_ren:Go.Shelf.Ren:=⟨fun|161=>329|231=>331|227=>332|233=>333|235=>334|228=>335|197=>336|151=>337|260=>338|152=>339|137=>139|119=>340|224=>341|225=>342|217=>191|266=>251|n=>n,fun|9=>9|4=>4|3=>3|5=>5|117=>331|116=>330|0=>0|124=>334|105=>335|21=>21|119=>339|46=>281|139=>342|138=>341|n=>n,fun|3=>6|4=>7|n=>n⟩
def Tryz.lays161:Go.Proofs.Lays.n161 prog Tryz.lays161_ren:=by repeat' first|(intros;kernel_rfl)|constructor
open Go.RowKit in
def Tryz.strings_TrimLeft_one(s:ByteArray)(c:UInt8)(hc:c.toNat<128)(w:World) :
  Calls prog 329 #[.string s,.string ⟨#[c]⟩] w fun e w'=>e=.returned (.string ⟨(Lib.trimLeftB s.data.toList c).toArray⟩)/\w'=w:=Any.strings_TrimLeft_one Tryz.lays161 s c hc w
def Tryz.lays137_ren:Go.Shelf.Ren:=⟨fun|137=>139|217=>191|266=>251|n=>n,fun|9=>9|5=>5|3=>3|n=>n,fun|n=>n⟩
def Tryz.lays137:Go.Proofs.Lays.n137 prog Tryz.lays137_ren:=by repeat' first|(intros;kernel_rfl)|constructor
open Go.RowKit in
def Tryz.strings_IndexByte(s:ByteArray)(c:Int)(w:World) :
  Calls prog 139 #[.string s,.int .u8 c] w fun e w'=>e=.returned (.int .i64 (Lib.indexByte s.data.toList c.toNat.toUInt8))/\w'=w:=Any.strings_IndexByte Tryz.lays137 s c w
def Tryz.laysM246_ren:Go.Shelf.Ren:=⟨fun|246=>165|283=>214|284=>215|285=>216|286=>217|129=>269|317=>268|318=>270|319=>271|320=>272|337=>290|338=>291|n=>n,fun|2=>2|3=>3|9=>9|4=>4|171=>253|0=>0|53=>254|37=>67|5=>5|173=>257|212=>277|51=>278|20=>20|213=>279|46=>281|232=>312|233=>313|n=>n,fun|17=>0|18=>4|19=>5|n=>n⟩
def Tryz.laysM243_ren:Go.Shelf.Ren:=⟨fun|243=>120|246=>165|283=>214|284=>215|285=>216|286=>217|129=>269|317=>268|318=>270|319=>271|320=>272|337=>290|338=>291|n=>n,fun|3=>3|9=>9|2=>2|4=>4|171=>253|0=>0|53=>254|37=>67|5=>5|173=>257|212=>277|51=>278|20=>20|213=>279|46=>281|232=>312|233=>313|n=>n,fun|17=>0|18=>4|19=>5|n=>n⟩
def Tryz.laysM171_ren:Go.Shelf.Ren:=⟨fun|171=>79|243=>120|246=>165|283=>214|284=>215|285=>216|286=>217|129=>269|317=>268|318=>270|319=>271|320=>272|337=>290|338=>291|n=>n,fun|3=>3|9=>9|2=>2|4=>4|171=>253|0=>0|53=>254|37=>67|5=>5|173=>257|212=>277|51=>278|20=>20|213=>279|46=>281|232=>312|233=>313|n=>n,fun|17=>0|18=>4|19=>5|n=>n⟩
def Tryz.lays171_ren:Go.Shelf.Ren:=⟨fun|171=>79|243=>120|246=>165|283=>214|284=>215|285=>216|286=>217|129=>269|317=>268|318=>270|319=>271|320=>272|337=>290|338=>291|n=>n,fun|3=>3|9=>9|2=>2|4=>4|171=>253|0=>0|53=>254|37=>67|5=>5|173=>257|212=>277|51=>278|20=>20|213=>279|46=>281|232=>312|233=>313|n=>n,fun|17=>0|18=>4|19=>5|n=>n⟩
def Tryz.lays171:Go.Proofs.Lays.n171 prog Tryz.lays171_ren:=by repeat' first|(intros;kernel_rfl)|constructor
open Go.RowKit Go.Sort Go.Lib in
def Tryz.strconv_Itoa_small(i:Nat)(hi:i<100)(w:World) :
  Calls prog 79 #[.int .i64 i] w fun e w'=>e=.returned (.string ⟨(Lib.decDigits i).toArray⟩)/\w'=w:=Any.strconv_Itoa_small Tryz.lays171 i hi w
def Tryz.laysM316_ren:Go.Shelf.Ren:=⟨fun|316=>104|n=>n,fun|9=>9|3=>3|4=>4|37=>67|0=>0|127=>116|5=>5|n=>n,fun|n=>n⟩
def Tryz.laysM316:Go.Proofs.LaysM.n316 prog Tryz.laysM316_ren:=by repeat' first|(intros;kernel_rfl)|constructor
open Go.RowKit in
def Tryz.stringslite_Clone(s:ByteArray)(w:World)(hlim:s.size<=281474976710656) :
  Calls prog 104 #[.string s] w fun e w'=>e=.returned (.string s)/\Below w.heap.size w w':=Any.stringslite_Clone Tryz.laysM316 s w hlim
def Tryz.laysC245_ren:Go.Shelf.Ren:=⟨fun|245=>219|279=>274|280=>275|281=>276|282=>277|316=>104|171=>79|205=>294|243=>120|246=>165|283=>214|284=>215|285=>216|286=>217|129=>269|317=>268|318=>270|319=>271|320=>272|337=>290|338=>291|n=>n,fun|9=>9|3=>3|75=>106|167=>283|4=>4|168=>286|210=>298|37=>67|0=>0|127=>116|145=>316|143=>314|2=>2|171=>253|53=>254|5=>5|173=>257|212=>277|51=>278|20=>20|213=>279|46=>281|232=>312|233=>313|80=>50|n=>n,fun|15=>2|16=>3|17=>0|18=>4|19=>5|n=>n⟩
def Tryz.laysC174_ren:Go.Shelf.Ren:=⟨fun|174=>168|247=>218|245=>219|287=>273|279=>274|280=>275|281=>276|282=>277|321=>292|322=>293|316=>104|171=>79|205=>294|243=>120|246=>165|283=>214|284=>215|285=>216|286=>217|129=>269|317=>268|318=>270|319=>271|320=>272|337=>290|338=>291|n=>n,fun|9=>9|3=>3|2=>2|75=>106|85=>218|4=>4|167=>283|5=>5|53=>254|175=>284|46=>281|168=>286|37=>67|0=>0|210=>298|21=>21|127=>116|145=>316|143=>314|171=>253|173=>257|212=>277|51=>278|20=>20|213=>279|232=>312|233=>313|80=>50|n=>n,fun|15=>2|16=>3|17=>0|18=>4|19=>5|n=>n⟩
def Tryz.laysC174:Go.Proofs.LaysC.n174 prog Tryz.laysC174_ren:=by repeat' first|(intros;kernel_rfl)|constructor
open Go.RowKit in
def Tryz.strconv_ParseInt_10_at64_ok(s:ByteArray)(Ob:s.size<=9223372036854775806)(v:Int)(h:Lib.parseIntB 64 s.data.toList=.ok v)(w:World) :
  Calls prog 168 #[.string s,.int .i64 10,.int .i64 64] w fun e w'=>e=.returned (.tuple #[.int .i64 v,.nilIface])/\(w'=w\/∃t,w'=Lib.bytesWorld w 5 t):=Any.strconv_ParseInt_10_at64_ok Tryz.laysC174 s Ob v h w
def Tryz.lays190_ren:Go.Shelf.Ren:=⟨fun|190=>257|125=>285|258=>284|128=>307|129=>269|302=>298|303=>299|304=>300|305=>301|306=>302|307=>303|308=>304|309=>305|310=>306|333=>312|329=>313|330=>314|334=>315|335=>316|336=>317|344=>321|n=>n,fun|31=>22|9=>9|3=>3|46=>281|0=>0|51=>278|53=>254|4=>4|183=>303|182=>302|131=>157|5=>5|218=>317|222=>251|228=>323|229=>324|n=>n,fun|n=>n⟩
def Tryz.lays190:Go.Proofs.Lays.n190 prog Tryz.lays190_ren:=by repeat' first|(intros;kernel_rfl)|constructor
open Go.Sort Go.RowKit in
def Tryz.slices_Sort_string(blk off cap:Nat)(ss:List (List UInt8))(w:World)(hH:Holds encStr w blk off ss.toArray)(hblk:blk<w.heap.size)(Ke:ss.length<4611686018427387904) :
  Calls prog 257 #[.slice (some ⟨blk,off,none⟩) ss.length cap] w fun e w'=>
   e=.returned (.tuple #[])/\∃n os,w'=grow (putRow encStr (Sort.ahead w n) blk off (ss.mergeSort fun x y=>decide (x<=y)).toArray) os:=Any.slices_Sort_string Tryz.lays190 blk off cap ss w hH hblk Ke
def Tryz.lays206_ren:Go.Shelf.Ren:=⟨fun|206=>192|n=>n,fun|9=>9|4=>4|3=>3|n=>n,fun|n=>n⟩
def Tryz.lays99_ren:Go.Shelf.Ren:=⟨fun|99=>142|206=>192|n=>n,fun|9=>9|4=>4|3=>3|n=>n,fun|n=>n⟩
def Tryz.lays99:Go.Proofs.Lays.n99 prog Tryz.lays99_ren:=by repeat' first|(intros;kernel_rfl)|constructor
open Go.RowKit Go.Lib in
def Tryz.strings_HasPrefix(s p:ByteArray)(w:World) :
  Calls prog 142 #[.string s,.string p] w fun e w'=>e=.returned (.bool (Lib.hasPrefix s.data.toList p.data.toList))/\w'=w:=Any.strings_HasPrefix Tryz.lays99 s p w
def Tryz.lays109_ren:Go.Shelf.Ren:=⟨fun|109=>32|n=>n,fun|31=>22|9=>9|3=>3|0=>0|4=>4|n=>n,fun|n=>n⟩
def Tryz.lays109:Go.Proofs.Lays.n109 prog Tryz.lays109_ren:=by repeat' first|(intros;kernel_rfl)|constructor
open Go.Lib in
def Tryz.slices_Index_string(b off n c:Nat)(zs:List ByteArray)(x:ByteArray)(w:World)(hz:n<=zs.length)(Mo:n<=9223372036854775807)(hc:∀j,j<zs.length->w.cell? ⟨b,off+j,none⟩=some (.string (zs.getD j ByteArray.empty))) :
  Calls prog 32 #[.slice (some ⟨b,off,none⟩) n c,.string x] w fun e w'=>e=.returned (.int .i64 (Lib.idxOfS (zs.take n) x))/\w'=w:=Any.slices_Index_string Tryz.lays109 b off n c zs x w hz Mo hc
def Tryz.lays110_ren:Go.Shelf.Ren:=⟨fun|110=>204|109=>32|n=>n,fun|31=>22|9=>9|4=>4|3=>3|0=>0|n=>n,fun|n=>n⟩
def Tryz.lays110:Go.Proofs.Lays.n110 prog Tryz.lays110_ren:=by repeat' first|(intros;kernel_rfl)|constructor
open Go.Lib in
def Tryz.slices_Contains_string(b off n c:Nat)(zs:List ByteArray)(x:ByteArray)(w:World)(hz:n<=zs.length)(Mo:n<=9223372036854775807)(hc:∀j,j<zs.length->w.cell? ⟨b,off+j,none⟩=some (.string (zs.getD j ByteArray.empty))) :
  Calls prog 204 #[.slice (some ⟨b,off,none⟩) n c,.string x] w fun e w'=>e=.returned (.bool (Lib.containsS (zs.take n) x))/\w'=w:=Any.slices_Contains_string Tryz.lays110 b off n c zs x w hz Mo hc
open Go.Lib in
def Tryz.slices_Contains_string_empty(a:Option Addr)(c:Nat)(x:ByteArray)(w:World) :
  Calls prog 204 #[.slice a 0 c,.string x] w fun e w'=>e=.returned (.bool false)/\w'=w:=Any.slices_Contains_string_empty Tryz.lays110 a c x w
def Tryz.lays194_ren:Go.Shelf.Ren:=⟨fun|194=>202|n=>n,fun|31=>22|9=>9|3=>3|4=>4|0=>0|n=>n,fun|n=>n⟩
def Tryz.lays194:Go.Proofs.Lays.n194 prog Tryz.lays194_ren:=by repeat' first|(intros;kernel_rfl)|constructor
open Go.RowKit Go.Lib Go.Sort in
def Tryz.slices_Compact_string(blk off cap:Nat)(zs:List (List UInt8))(w:World)(hH:Holds encStr w blk off zs.toArray)(Ke:zs.length<=9223372036854775807)(Oc:zs.length<=cap) :
  Calls prog 202 #[.slice (some ⟨blk,off,none⟩) zs.length cap] w fun e w'=>e=.returned (.slice (some ⟨blk,off,none⟩) (Lib.compact zs).length cap)/\∃q,w'=putRow encStr (Sort.ahead w q) blk off (Lib.compact zs++List.replicate (zs.length-(Lib.compact zs).length) []).toArray:=Any.slices_Compact_string Tryz.lays194 blk off cap zs w hH Ke Oc
open Go.RowKit Go.Lib Go.Sort in
def Tryz.slices_Compact_string_empty(a:Option Addr)(cap:Nat)(w:World) :
  Calls prog 202 #[.slice a 0 cap] w fun e w'=>e=.returned (.slice a 0 cap)/\w'=w:=Any.slices_Compact_string_empty Tryz.lays194 a cap w
open Go.RowKit Go.Sort in
def Tryz.slices_Sort_string_none(p:Option Addr)(cap:Nat)(w:World) :
  Calls prog 257 #[.slice p 0 cap] w fun e w'=>e=.returned (.tuple #[])/\w'=w:=Any.slices_Sort_string_none Tryz.lays190 p cap w
end Go.Proofs
namespace Go.Proofs.YthakgdfmbknakaaGreatDoor
section
open Go.RowKit
def fA(s:ByteArray)(hp:0<s.size):s.data.toList=s[0]::s.data.toList.tail:=by
 obtain⟨⟨l⟩⟩:=s
 match l,hp with
 |c::r,_=>rfl
def gD(s:ByteArray)(h:s.size=0):s.data.toList=[]:=by
 obtain⟨⟨l⟩⟩:=s
 match l,h with
 |[],_=>rfl
def kR(s:ByteArray)(w:World) :
  Calls prog 141 #[.string s] w fun e w'=>e=.returned (.bool (iB s.data.toList))/\w'=w:=by
 go_enter func141,ntmps141;go_wp2
 all_goals
  go_ret;refine⟨bW ?_,rfl⟩;rw[iB,<- ByteArray.toList_eq];simp[*]at *
def eV(s:ByteArray)(w:World)(hs:s.size<=maxLen) :
  Calls prog 96 #[.string s] w fun e w'=>e=.returned (.int .i64 (aX s.data.toList))/\w'=w:=by
 have N3:s.size<=9223372036854775807:=hs
 by_cases h0:s.size=0
 ·have he:s.toList.isEmpty=true:=by rw[ByteArray.toList_eq,gD s h0];rfl
  go_enter func96,ntmps96;go_wp2;go_ret;exact⟨cD (by rw[gD s h0];rfl),rfl⟩
 ·have hp:0<s.size:=by omega
  have he:s.toList.isEmpty=false:=by rw[ByteArray.toList_eq,fA s hp];rfl
  cases hb:cT s[0].toNat
  ·go_enter func96,ntmps96
   go_wp2_with (first|(go_at_call 95;refine(dM _ _).mono ?_;rintro e w'⟨rfl,rfl⟩)|(go_at_call 98;refine(gS _ _ hs).mono ?_;rintro e w'⟨rfl,rfl⟩))
   go_ret;exact⟨cD (by rw[fA s hp];simp[aX,hb]),rfl⟩
  ·go_enter func96,ntmps96
   go_wp2_with (first|(go_at_call 95;refine(dM _ _).mono ?_;rintro e w'⟨rfl,rfl⟩)|(go_at_call 98;refine(gS _ _ hs).mono ?_;rintro e w'⟨rfl,rfl⟩))
   go_ret;exact⟨cD (by rw[fA s hp];simp[aX,hb]),rfl⟩
def pJ(s:ByteArray)(w:World)(hs:s.size<=maxLen) :
  Calls prog 101 #[.string s] w fun e w'=>e=.returned (.int .i64 (gK s.data.toList))/\w'=w:=by
 by_cases h:18<cnt bS s.data.toList
 ·have h':(18:Int)<(cnt bS s.data.toList:Int):=by omega
  go_enter func101,ntmps101
  go_wp2_with (go_at_call 98;refine(jH _ _ hs).mono ?_;rintro e w'⟨rfl,rfl⟩)
  go_ret;exact⟨cD (by simp[gK,h]),rfl⟩
 ·have h':¬(18:Int)<(cnt bS s.data.toList:Int):=by omega
  go_enter func101,ntmps101
  go_wp2_with (go_at_call 98;refine(jH _ _ hs).mono ?_;rintro e w'⟨rfl,rfl⟩)
  go_ret;exact⟨cD (by simp[gK,h]),rfl⟩
end
section
open Go.RowKit
def Tok(t:List UInt8):Prop:=aY t=t.length/\t.length<=4000
def Tok.nil:Tok []:=⟨rfl,zero_le _⟩
def vC(t:List UInt8):Bool:=decide (0<aX t) && !iB t
def OF{t:List UInt8}(h:Tok t):vC t=(aR t==110):=by
 obtain⟨h,_⟩:=h;unfold vC
 cases t with
 |nil=>rfl
 |cons c r=>
  unfold aR;simp only;cases hb:cT c.toNat
  ·rw[cond_false];have h0:aX (c::r)=0:=by simp[aX,hb]
   rw[h0];cases dQ c.toNat
   ·rw[cond_false];cases bS c.toNat
    ·rw[cond_false]
     split
     ·split<;>rfl
     ·split<;>rfl
    ·rw[cond_true];split<;>rfl
   ·rfl
  ·rw[cond_true]
   have hl:aX (c::r)=(c::r).length:=by
    rw[<- h];unfold aY;simp only[hb,cond_true]
   rw[hl,List.take_length];cases iB (c::r)<;>simp
def lZ(f:Int->Bool)(t:List UInt8):Bool:=match t with
 |[]=>false
 |c::_=>f c.toNat
def rU(c:Int):Bool:=c==39
def WG(t:List UInt8):lZ dQ t=(aR t==99):=by
 cases t with
 |nil=>rfl
 |cons c r=>
  unfold aR lZ;simp only;cases hs:cT c.toNat
  ·rw[cond_false];cases hg:dQ c.toNat
   ·rw[cond_false];cases bS c.toNat
    ·rw[cond_false]
     split
     ·split<;>rfl
     ·split<;>rfl
    ·rw[cond_true];split<;>rfl
   ·rfl
  ·rw[cond_true]
   have:dQ c.toNat=false:=by
    simp only[cT,dQ,decide_eq_true_eq,decide_eq_false_iff_not]at *;omega
   rw[this];cases iB ((c::r).take (aX (c::r)))<;>rfl
def TW{t:List UInt8}(h:Tok t):lZ bS t=(aR t==100):=by
 obtain⟨h,_⟩:=h
 cases t with
 |nil=>rfl
 |cons c r=>
  unfold aY at h;unfold aR lZ;simp only at h ⊢;cases hs:cT c.toNat
  ·rw[hs,cond_false]at h;rw[cond_false];cases hg:dQ c.toNat
   ·rw[hg,cond_false]at h;rw[cond_false];cases hd:bS c.toNat
    ·rw[cond_false]
     split
     ·split<;>rfl
     ·split<;>rfl
    ·rw[hd,cond_true]at h;rw[cond_true,if_neg (by rw[h];simp)];rfl
   ·have:bS c.toNat=false:=by
     simp only[bS,dQ,decide_eq_true_eq,decide_eq_false_iff_not]at *;omega
    rw[this];rfl
  ·have:bS c.toNat=false:=by
    simp only[cT,bS,decide_eq_true_eq,decide_eq_false_iff_not]at *;omega
   rw[this,cond_true];cases iB ((c::r).take (aX (c::r)))<;>rfl
def zM{t:List UInt8}(h:Tok t):lZ rU t=(aR t==108):=by
 obtain⟨h,_⟩:=h
 cases t with
 |nil=>rfl
 |cons c r=>
  unfold aY at h;unfold aR lZ;simp only at h ⊢
  by_cases hc:c=39
  ·subst hc;have h1:cT (39:UInt8).toNat=false:=by decide
   have h2:dQ (39:UInt8).toNat=false:=by decide
   have h3:bS (39:UInt8).toNat=false:=by decide
   rw[h1,h2,h3,cond_false,cond_false,cond_false,if_pos rfl]at h;rw[h1,h2,h3,cond_false,cond_false,cond_false,if_pos rfl,if_neg (by rw[h];simp)];rfl
  ·have hq:rU c.toNat=false:=by
    cases hq:rU c.toNat
    ·rfl
    ·exfalso;simp only[rU,beq_iff_eq]at hq;exact hc (UInt8.toNat_inj.1 (by show c.toNat=39;omega))
   rw[hq,if_neg hc];cases hs:cT c.toNat
   ·rw[cond_false];cases hg:dQ c.toNat
    ·rw[cond_false];cases hd:bS c.toNat
     ·rw[cond_false];split<;>rfl
     ·rw[cond_true];split<;>rfl
    ·rfl
   ·rw[cond_true];cases iB ((c::r).take (aX (c::r)))<;>rfl
def nN(f:Int->Bool)(s:ByteArray)(hp:0<s.size):lZ f s.data.toList=f s[0].toNat:=by
 rw[fA s hp];rfl
def pO(f:Int->Bool)(s:ByteArray)(h0:s.size=0):lZ f s.data.toList=false:=by
 rw[gD s h0];rfl
def oY(s:ByteArray)(w:World)(hs:s.size<=maxLen) :
  Calls prog 196 #[.string s] w fun e w'=>e=.returned (.bool (lZ dQ s.data.toList))/\w'=w:=by
 have N3:s.size<=9223372036854775807:=hs
 by_cases h0:s.size=0
 ·have he:s.toList.isEmpty=true:=by rw[ByteArray.toList_eq,gD s h0];rfl
  go_enter func196,ntmps196;go_wp2;go_ret;exact⟨bW (by rw[pO _ _ h0]),rfl⟩
 ·have hp:0<s.size:=by omega
  have he:s.toList.isEmpty=false:=by rw[ByteArray.toList_eq,fA s hp];rfl
  go_enter func196,ntmps196
  go_wp2_with (go_at_call 97;refine(eW _ _).mono ?_;rintro e w'⟨rfl,rfl⟩)
  go_ret;exact⟨bW (by rw[nN _ _ hp]),rfl⟩
def xU(s:ByteArray)(w:World)(hs:s.size<=maxLen) :
  Calls prog 326 #[.string s] w fun e w'=>e=.returned (.bool (lZ bS s.data.toList))/\w'=w:=by
 have N3:s.size<=9223372036854775807:=hs
 by_cases h0:s.size=0
 ·have he:s.toList.isEmpty=true:=by rw[ByteArray.toList_eq,gD s h0];rfl
  go_enter func326,ntmps326;go_wp2;go_ret;exact⟨bW (by rw[pO _ _ h0]),rfl⟩
 ·have hp:0<s.size:=by omega
  have he:s.toList.isEmpty=false:=by rw[ByteArray.toList_eq,fA s hp];rfl
  go_enter func326,ntmps326
  go_wp2_with (go_at_call 100;refine(dY _ _).mono ?_;rintro e w'⟨rfl,rfl⟩)
  go_ret;exact⟨bW (by rw[nN _ _ hp]),rfl⟩
def xV(s:ByteArray)(w:World)(hs:s.size<=maxLen) :
  Calls prog 252 #[.string s] w fun e w'=>e=.returned (.bool (lZ rU s.data.toList))/\w'=w:=by
 have N3:s.size<=9223372036854775807:=hs
 by_cases h0:s.size=0
 ·have he:s.toList.isEmpty=true:=by rw[ByteArray.toList_eq,gD s h0];rfl
  go_enter func252,ntmps252;go_wp2;go_ret;exact⟨bW (by rw[pO _ _ h0]),rfl⟩
 ·have hp:0<s.size:=by omega
  have he:s.toList.isEmpty=false:=by rw[ByteArray.toList_eq,fA s hp];rfl
  go_enter func252,ntmps252;go_wp2;go_ret;exact⟨bW (by rw[nN _ _ hp];rfl),rfl⟩
def KN(s:ByteArray)(w:World)(hs:s.size<=maxLen) :
  Calls prog 193 #[.string s] w fun e w'=>e=.returned (.bool (vC s.data.toList))/\w'=w:=by
 by_cases hn:0<aX s.data.toList
 ·have hn':(0:Int)<(aX s.data.toList:Int):=by omega
  cases hw:iB s.data.toList
  ·go_enter func193,ntmps193
   go_wp2_with (first|(go_at_call 96;refine(eV _ _ hs).mono ?_;rintro e w'⟨rfl,rfl⟩)|(go_at_call 141;refine(kR _ _).mono ?_;rintro e w'⟨rfl,rfl⟩))
   go_ret;exact⟨bW (by simp[vC,hn,hw]),rfl⟩
  ·go_enter func193,ntmps193
   go_wp2_with (first|(go_at_call 96;refine(eV _ _ hs).mono ?_;rintro e w'⟨rfl,rfl⟩)|(go_at_call 141;refine(kR _ _).mono ?_;rintro e w'⟨rfl,rfl⟩))
   go_ret;exact⟨bW (by simp[vC,hn,hw]),rfl⟩
 ·have hn':¬(0:Int)<(aX s.data.toList:Int):=by omega
  go_enter func193,ntmps193
  go_wp2_with (first|(go_at_call 96;refine(eV _ _ hs).mono ?_;rintro e w'⟨rfl,rfl⟩)|(go_at_call 141;refine(kR _ _).mono ?_;rintro e w'⟨rfl,rfl⟩))
  go_ret;exact⟨bW (by simp[vC,hn]),rfl⟩
end
section
open Go.RowKit
def ES{B:Nat}{a w:World}(h:Below B a w)(n:Nat):Below B a (w.drewN n):=⟨h.os,h.tape,h.output,h.size,h.block⟩
def MD(a b:List UInt8):((bs a).toList==(bs b).toList)=(a==b):=by
 rw[ByteArray.toList_eq,ByteArray.toList_eq,dD,dD]
end
section
open Go.RowKit
def xB(x y:List UInt8):bs x++bs y=bs (x++y):=by
 apply ByteArray.ext;simp[bs]
end
section
open Go.RowKit
abbrev dL:=List (List UInt8)
namespace G
end G
end
section
open Go.RowKit
abbrev SH:TypeId:=144
abbrev cS:TypeId:=57
abbrev aH:TypeId:=51
structure Kq(rb:Nat)(w w':World):Prop where
 os:w'.os=w.os
 tape:w'.tape=w.tape
 output:w'.output=w.output
 size:w.heap.size<=w'.heap.size
 block:∀k,k<w.heap.size->k≠rb->w'.heap[k]?=w.heap[k]?
def Kq.refl(rb:Nat)(w:World):Kq rb w w:=⟨rfl,rfl,rfl,le_refl _,fun _ _ _=>rfl⟩
def Kq.trans{rb:Nat}{a b c:World}(h:Kq rb a b)(k:Kq rb b c):Kq rb a c:=
 ⟨k.os.trans h.os,k.tape.trans h.tape,k.output.trans h.output,le_trans h.size k.size,fun i hi hr=>(k.block i (lt_of_lt_of_le hi h.size) hr).trans (h.block i hi hr)⟩
def Kq.AP{rb:Nat}{w w':World}(h:Below w.heap.size w w'):Kq rb w w':=⟨h.os,h.tape,h.output,h.size,fun k hk _=>h.block k hk⟩
def Kq.alloc{rb:Nat}{a w:World}(h:Kq rb a w)(o:Obj):Kq rb a (w.alloc o):=
 h.trans (Kq.AP ((Below.refl _ _).alloc (le_refl _) o))
def Kq.setR{rb:Nat}{a w:World}(h:Kq rb a w)(o:Nat)(v:Value):Kq rb a (w.setCell ⟨rb,o,none⟩ v):=
 h.trans ⟨rfl,rfl,rfl,by simp[World.setCell],fun k _ hk=>Below.heap_setCell _ _ _ _ hk⟩
def Kq.BX{rb:Nat}{a w w':World}{row:Option Nat}(h:Kq rb a w)(hg:w.grownBy w' row)(hr:∀k,row=some k->a.heap.size<=k):Kq rb a w':=
 ⟨hg.os.trans h.os,hg.tape.trans h.tape,hg.output.trans h.output,le_trans h.size hg.size,fun k hk Qw=>by
  rw[hg.block k (lt_of_lt_of_le hk h.size) (fun e=>by have:=hr k e.symm;omega)]
  exact h.block k hk Qw⟩
def aA(b:Nat):Value:=.pointer (some ⟨b,0,none⟩)
def aE{w w':World}{base:Nat}{t:TypeId}{size:Nat}{v:Value}{n:Nat}{xs:List Value}(h:w.ownsRow base t size v n xs)(hk:∀(k:Nat)(c:Array Value)(f:Nat×Nat),v.ownBlock=some k->w.heap[k]?=some (.cells c t f)->w'.heap[k]?=w.heap[k]?):w'.ownsRow base t size v n xs:=by
 refine⟨h.1,?_⟩;rcases h.2 with hn|⟨g,cap,cur,rfl,hb,Ng,rest⟩
 ·exact .inl hn
 ·exact .inr ⟨g,cap,cur,rfl,hb,by rw[hk g _ _ rfl Ng];exact Ng,rest⟩
def aB{w:World}{k:Nat}{o:Obj}(h:w.heap[k]?=some o):k<w.heap.size:=(Array.getElem?_eq_some_iff.1 h).1
end
section
open Go.RowKit
def Tryz.infoPtr:(prog.info? 51).map (fun i=>(i.zero,i.size,i.bytes))=some (some (.pointer none),1,8):=by kernel_rfl
def gG{w:World}{base n m:Nat}{v z z0:Value}{xs:List Value}{sty ety ty:TypeId}(hu:prog.underlying sty=some (.slice ety))(hf:(prog.info? ety).map (fun i=>(i.zero,i.size,i.bytes))=some (some z0,1,m))(hm:m<=24)(hz:z0.cells.size=1)(hx:z.oneCell'=true)(Jr:w.ownsRow base ety 1 v n xs)(hn:n<=100000000)(hb:base<=w.heap.size) :
  ∃v' w',(Builtin.append_ #[sty,sty] ty #[v,.slice (some ⟨w.heap.size,0,none⟩) 1 1]).run prog (w.alloc (.cells #[z] ety))=.ok v' w' /\
   w'.ownsRow base ety 1 v' (n+1) (xs++[z])/\(w.alloc (.cells #[z] ety)).grownBy w' v.ownBlock/\(∀g,v'.ownBlock=some g->v.ownBlock=some g\/w.heap.size<g)/\∃g cap,v'=.slice (some ⟨g,0,none⟩) (n+1) cap:=by
 obtain⟨i0,hi,Og,Lz,Nj⟩:=info_parts hf;have Ll:=Jr.alloc (.cells #[z] ety);have Ks:∀j u,[z][j]?=some u->(w.alloc (.cells #[z] ety)).cell? ((⟨w.heap.size,0,none⟩:Addr).add j)=some u:=fun j u hj=>fK rfl (by simpa using hj);have h1:∀u∈[z],u.oneCell'=true:=by intro u hu;simp at hu;subst hu;exact hx
 have hmul:(n+1)*m<=100000001*24:=Nat.mul_le_mul (by omega) hm;obtain⟨v',w',hr,ho',Pe,_⟩:=run_append_own (P:=prog) (w.alloc (.cells #[z] ety)) base sty ty ety i0 z0 1 m hu hi Og Lz Nj hz (by decide) v n xs Ll ⟨w.heap.size,0,none⟩ 1 1 [z] rfl Ks h1 (by unfold maxLen;omega) (by omega) (by simp;omega);refine⟨v',w',hr,ho',Pe,?_,?_⟩
 ·intro g Oy;rcases Ll.2 with⟨rfl,Ou⟩|⟨g0,cap,cur,rfl,Wo,hg,Wk,Xo,Rh,Oz⟩
  ·have h:=run_append_nil (P:=prog) (w.alloc (.cells #[z] ety)) sty ty ety i0 z0 hu hi Og ⟨w.heap.size,0,none⟩ 1 1 [z] (by rw[Lz];rfl) Ks (by omega) (by omega) (by rw[Nj];omega);rw[hr]at h;simp only[Result.ok.injEq]at h;rw[h.1]at Oy;simp[Value.ownBlock]at Oy;omega
  ·by_cases Pa:n+1<=cap
   ·have h:=run_append_room (P:=prog) (w.alloc (.cells #[z] ety)) sty ty ety i0 hu hi g0 n cap cur hg ⟨w.heap.size,0,none⟩ 1 1 [z] (by rw[Lz];rfl) Ks h1 Pa (by rw[Rh,Lz];simp only[length_cons,length_nil];omega);rw[hr]at h;simp only[Result.ok.injEq]at h;rw[h.1]at Oy;exact inl Oy
   ·have h:=run_append_grow (P:=prog) (w.alloc (.cells #[z] ety)) sty ty ety i0 z0 hu hi Og ⟨g0,0,none⟩ n cap xs (by rw[Lz];exact Jr.1) (Ll.cells (g:=g0) rfl) ⟨w.heap.size,0,none⟩ 1 1 [z] (by rw[Lz];rfl) Ks (by omega) (by omega) (growslice_fits (by omega) (by rw[Nj];omega));rw[hr]at h;simp only[Result.ok.injEq]at h;rw[h.1]at Oy;simp[Value.ownBlock]at Oy;omega
 ·rcases aD ho' with⟨_,Ou⟩|h
  ·omega
  ·exact h
def iY{w:World}{base:Nat}{v:Value}{ns:List Nat}{ty:TypeId}(k:Nat)(Jr:w.ownsRow base aH 1 v ns.length (ns.map aA))(hn:ns.length<=100000000)(hb:base<=w.heap.size) :
  ∃v' w',(Builtin.append_ #[41,41] ty #[v,.slice (some ⟨w.heap.size,0,none⟩) 1 1]).run prog (w.alloc (.cells #[.pointer (some ⟨k,0,none⟩)] aH))=.ok v' w' /\
   w'.ownsRow base aH 1 v' (ns++[k]).length ((ns++[k]).map aA)/\(w.alloc (.cells #[.pointer (some ⟨k,0,none⟩)] aH)).grownBy w' v.ownBlock/\(∀g,v'.ownBlock=some g->v.ownBlock=some g\/w.heap.size<g)/\∃g cap,v'=.slice (some ⟨g,0,none⟩) (ns++[k]).length cap:=by
 rw[length_append,map_append];exact gG underlying41 Tryz.infoPtr (by decide) rfl rfl Jr hn hb
def JY{ops:Array Oper}{rest:List Oper}{o:Oper}{a:Act}{Q:Exit->Act->World->Prop}{w:World}(Vx:o.guard=none)(s x:Operand)
  (ho:o.op=.call { callee:=.builtin .append,args:=#[s,x],argTypes:=#[41,41] }) {base:Nat}{v:Value}{ns:List Nat} (k:Nat)
  (Jr:w.ownsRow base aH 1 v ns.length (ns.map aA)) (hn:ns.length<=100000000) (hb:base<=w.heap.size) (hs:a.eval s=v) (hx:a.eval x=.slice (some ⟨w.heap.size,0,none⟩) 1 1)
  (h:∀v' w',w'.ownsRow base aH 1 v' (ns++[k]).length ((ns++[k]).map aA)->(w.alloc (.cells #[.pointer (some ⟨k,0,none⟩)] aH)).grownBy w' v.ownBlock->Hid (∀g,v'.ownBlock=some g->v.ownBlock=some g\/w.heap.size<g)->wpList prog ops Q rest (a.put o.dst v') w') :
  wpList prog ops Q (o::rest) a (w.alloc (.cells #[.pointer (some ⟨k,0,none⟩)] aH)):=by
 obtain⟨v',w',hr,h2,h3,h4,_⟩:=iY (ty:=o.type) k Jr hn hb;refine wpList_plain Vx fun K hK=>?_;unfold Oper.wp execOp;simp only[ho,resolve,invoke,builtin,Sem.run_bind,Sem.run_pure,Result.andThen_ok,List.map_toArray,map_cons,List.map_nil,hs,hx,hr];exact hK _ _ (h v' w' h2 h3 h4)
def Hc(w:World)(a:Nat):(w.alloc (.cells #[.pointer (some ⟨a,0,none⟩)] aH)).ownsRow w.heap.size aH 1 (.slice (some ⟨w.heap.size,0,none⟩) 1 1) [a].length ([a].map aA):=
 World.ownsRow_lit (base:=w.heap.size) (size:=1) w _ 1 (le_refl _) (by unfold maxLen;omega) rfl
def Hb(w:World)(a b:Nat):(w.alloc (.cells #[.pointer (some ⟨a,0,none⟩),.pointer (some ⟨b,0,none⟩)] aH)).ownsRow w.heap.size aH 1 (.slice (some ⟨w.heap.size,0,none⟩) 2 2) [a,b].length ([a,b].map aA):=
 World.ownsRow_lit (base:=w.heap.size) (size:=1) w _ 2 (le_refl _) (by unfold maxLen;omega) rfl
def Ij(w:World)(a b c:Nat):(w.alloc (.cells #[.pointer (some ⟨a,0,none⟩),.pointer (some ⟨b,0,none⟩),.pointer (some ⟨c,0,none⟩)] aH)).ownsRow w.heap.size aH 1 (.slice (some ⟨w.heap.size,0,none⟩) 3 3) [a,b,c].length ([a,b,c].map aA):=
 World.ownsRow_lit (base:=w.heap.size) (size:=1) w _ 3 (le_refl _) (by unfold maxLen;omega) rfl
def bN{w:World}{b b':Nat}{t:TypeId}{size:Nat}{v:Value}{n:Nat}{xs:List Value}(h:w.ownsRow b t size v n xs)(hb:b'<=b):w.ownsRow b' t size v n xs:=by
 refine⟨h.1,?_⟩;rcases h.2 with hn|⟨g,cap,cur,rfl,Wo,rest⟩
 ·exact .inl hn
 ·exact .inr ⟨g,cap,cur,rfl,le_trans hb Wo,rest⟩
end
section
open Go.RowKit Go.MapKept Go.ChangeMaps
structure jL(P:Program)(k:TypeId){κ:Type}(ok:κ->Prop)(side:World->κ->Prop)(kv:κ->Value):Prop where
 inj:∀{a b:κ},ok a->ok b->kv a=kv b->a=b
 check:∀(w:World) (em:Bool) {x:κ},ok x->(Instr.checkKey em 10000 k (kv x)).run P w=.ok () w
 find:∀(w:World) {x:κ},ok x->side w x->∀es:List MapEntry,(∀e∈es,∃y,ok y/\side w y/\e.key=kv y) ->
  ((Instr.findKey k (kv x) es).run P w=.ok none w/\∀e∈es,e.key≠kv x)\/∃j e,(Instr.findKey k (kv x) es).run P w=.ok (some (j,e.val)) w/\es[j]?=some e/\e.key=kv x
 stays:∀(w:World) {x:κ},ok x->(Instr.keyThatStays (kv x) (kv x)).run P w=.ok (kv x) w
def jL.of_law{P:Program}{k:TypeId}{κ:Type}{ok:κ->Prop}{kv:κ->Value}(K:WideMaps.KeyLaw P k)(hk:∀x,ok x->∃l,keyOf P k (kv x)=some l)(hi:∀{a b:κ},ok a->ok b->kv a=kv b->a=b):jL P k ok (fun _ _=>True) kv where
 inj:=hi
 check w em x h:=by obtain⟨l,hl⟩:=hk x h;exact K.check w em hl
 find w x h _ es K6:=by
  obtain⟨l,hl⟩:=hk x h;exact K.find w hl es fun e he=>by obtain⟨y,hy,_,e2⟩:=K6 e he;rw[e2];exact hk y hy
 stays w x h:=by obtain⟨l,hl⟩:=hk x h;exact K.stays w hl
variable {κ:Type}
def aQ(ok:κ->Prop)(kv:κ->Value)(w:World)(b n:Nat)(f:κ->Option Value):Prop:=
 ∃es clock,w.heap[b]?=some (.map es clock)/\(∀e∈es.toList,∃x,ok x/\e.key=kv x)/\es.toList.Pairwise (fun x y=>x.key≠y.key)/\es.size=n /\
  ∀x,ok x->∀v,f x=some v↔∃e∈es.toList,e.key=kv x/\e.val=v
variable {ok:κ->Prop}{kv:κ->Value}{w:World}{b n:Nat}{f:κ->Option Value}
def aQ.lt(h:aQ ok kv w b n f):b<w.heap.size:=by
 obtain⟨es,clock,hb,_⟩:=h;exact(Array.getElem?_eq_some_iff.1 hb).1
def aQ.kept{w':World}(h:aQ ok kv w b n f)(hk:w'.heap[b]?=w.heap[b]?):aQ ok kv w' b n f:=by
 obtain⟨es,clock,hb,r⟩:=h;exact⟨es,clock,hk.trans hb,r⟩
def aQ.made(ok:κ->Prop)(kv:κ->Value)(w:World):aQ ok kv (w.alloc (.map #[] 0)) w.heap.size 0 (fun _=>none):=
 ⟨#[],0,(MapKept.heap_alloc w _).1,by simp,by simp,rfl,by simp⟩
variable {P:Program}{k t e:TypeId}{side:World->κ->Prop}
def pM{es:Array MapEntry}(hg:∀e∈es.toList,∃x,ok x/\e.key=kv x)(hf:∀x,ok x->∀v,f x=some v↔∃e∈es.toList,e.key=kv x/\e.val=v)(hS:∀y,(f y).isSome=true->side w y):∀e∈es.toList,∃y,ok y/\side w y/\e.key=kv y:=fun e he=>by
 obtain⟨y,hy,e2⟩:=hg e he;refine⟨y,hy,hS y ?_,e2⟩;rw[(hf y hy e.val).2 ⟨e,he,e2,rfl⟩];rfl
def aQ.look(h:aQ ok kv w b n f)(K:jL P k ok side kv)(ht:P.underlying t=some (.map k e)){z:Value}(hz:(zeroValue e).run P w=.ok z w){x:κ}(hx:ok x)(M7:side w x)(hS:∀y,(f y).isSome=true->side w y)(c:Bool) :
  (Instr.lookup t (.map (some b)) (kv x) c).run P w=.ok (if c then .tuple #[(f x).getD z,.bool (f x).isSome]else(f x).getD z) w:=by
 obtain⟨es,clock,hb,hg,hp,hn,hf⟩:=h;have hc:=K.check w es.isEmpty hx;rcases K.find w hx M7 es.toList (pM hg hf hS)with⟨h1,h2⟩|⟨j,e0,h1,h2,h3⟩
 ·have Qz:f x=none:=by
   cases Qz:f x with
   |none=>rfl
   |some v=>
    obtain⟨e1,Np,Pf,_⟩:=(hf x hx v).1 Qz;exact absurd Pf (h2 e1 Np)
  cases c<;>simp[Instr.lookup,run_underlying ht,MapKept.run_getObj_map hb,hc,h1,hz,Qz,Result.andThen]
 ·have Qz:f x=some e0.val:=(hf x hx e0.val).2 ⟨e0,List.mem_of_getElem? h2,h3,rfl⟩;cases c<;>simp[Instr.lookup,run_underlying ht,MapKept.run_getObj_map hb,hc,h1,Qz,Result.andThen]
def PV{es:List MapEntry}(hp:es.Pairwise (fun x y=>x.key≠y.key)){a b:MapEntry}(ha:a∈es)(hb:b∈es)(h:a.key=b.key):a=b:=by
 induction es with
 |nil=>cases ha
 |cons x r ih=>
  obtain⟨h1,h2⟩:=List.pairwise_cons.1 hp;rcases mem_cons.1 ha with Wp|Wp<;>rcases mem_cons.1 hb with Vi|Vi
  ·rw[Wp,Vi]
  ·subst Wp;exact absurd h (h1 b Vi)
  ·subst Vi;exact absurd h.symm (h1 a Wp)
  ·exact ih h2 Wp Vi
def aQ.store[DecidableEq κ](h:aQ ok kv w b n f)(K:jL P k ok side kv)(ht:P.underlying t=some (.map k e)){x:κ}{v:Value}(hx:ok x)(M7:side w x)(hS:∀y,(f y).isSome=true->side w y) :
  ∃w',(Instr.mapUpdate t (.map (some b)) (kv x) v).run P w=.ok () w'/\aQ ok kv w' b (if (f x).isSome then n else n+1) (fun y=>if y=x then some v else f y)/\w.mapTurned w' b:=by
 obtain⟨es,clock,hb,hg,hp,hn,hf⟩:=h;have hc:=K.check w false hx;rcases K.find w hx M7 es.toList (pM hg hf hS)with⟨h1,h2⟩|⟨j,e0,h1,h2,h3⟩
 ·have Qz:f x=none:=by
   cases Qz:f x with
   |none=>rfl
   |some v=>
    obtain⟨e1,Np,Pf,_⟩:=(hf x hx v).1 Qz;exact absurd Pf (h2 e1 Np)
  refine⟨_,by simp[Instr.mapUpdate,run_underlying ht,MapKept.run_getObj_map hb,hc,h1,MapKept.run_setObj_map _ hb,Result.andThen];rfl,⟨es.push ⟨kv x,v,clock⟩,clock+1,(MapKept.heap_set hb).1,?_,?_,?_,?_⟩,⟨es,clock,_,_,hb,rfl⟩⟩
  ·intro e1 Np;simp only[Array.toList_push,mem_append,mem_singleton]at Np;rcases Np with Np|rfl
   ·exact hg e1 Np
   ·exact⟨x,hx,rfl⟩
  ·simp only[Array.toList_push];refine List.pairwise_append.2 ⟨hp,by simp,?_⟩;intro a ha c hc;simp only[mem_singleton]at hc;subst hc;exact h2 a ha
  ·simp[Qz,hn]
  ·intro y Wv u;simp only[Array.toList_push,mem_append,mem_singleton]
   by_cases hy:y=x
   ·subst hy;simp only[if_true,Option.some.injEq];constructor
    ·rintro rfl;exact⟨_,inr rfl,rfl,rfl⟩
    ·rintro⟨e1,Np|rfl,Pf,Vc⟩
     ·exact absurd Pf (h2 e1 Np)
     ·exact Vc
   ·simp only[if_neg hy];rw[hf y Wv u];constructor
    ·rintro⟨e1,Np,r⟩;exact⟨e1,inl Np,r⟩
    ·rintro⟨e1,Np|rfl,Pf,Vc⟩
     ·exact⟨e1,Np,Pf,Vc⟩
     ·exact absurd (K.inj Wv hx Pf.symm) hy
 ·have Qz:f x=some e0.val:=(hf x hx e0.val).2 ⟨e0,List.mem_of_getElem? h2,h3,rfl⟩;have hj:es[j]?=some e0:=by rw[<- h2];simp
  have Zc:((es[j]?).map (·.key)).getD (kv x)=kv x:=by rw[hj];exact h3
  have Jo:(Instr.keyThatStays (((es[j]?).map (·.key)).getD (kv x)) (kv x)).run P w=.ok (kv x) w:=by rw[Zc];exact K.stays w hx
  have Mc:j<es.size:=(Array.getElem?_eq_some_iff.1 hj).1
  have Jv:∀e1,e1∈(es.modify j fun e=>{ e with key:=kv x,val:=v }).toList↔(e1={ e0 with key:=kv x,val:=v }\/(e1∈es.toList/\e1.key≠kv x)):=by
   intro e1;constructor
   ·intro h;obtain⟨i,hi⟩:=List.getElem?_of_mem h;rw[Array.getElem?_toList,Array.getElem?_modify]at hi
    by_cases Qy:j=i
    ·subst Qy;rw[if_pos rfl,hj]at hi;exact inl (Option.some.inj hi).symm
    ·rw[if_neg Qy]at hi;have hm:e1∈es.toList:=Array.mem_toList_iff.2 (Array.mem_of_getElem? hi);refine inr ⟨hm,fun hk=>?_⟩;obtain⟨Lc,S1⟩:=Array.getElem?_eq_some_iff.1 hi;have R8:=(Array.getElem?_eq_some_iff.1 hj).2;have:=PV hp hm (List.mem_of_getElem? h2) (hk.trans h3.symm);rw[List.pairwise_iff_getElem]at hp;rcases Nat.lt_or_gt_of_ne Qy with Js|Js
     ·exact hp j i (by simpa using Mc) (by simpa using Lc) Js (by simp only[Array.getElem_toList];rw[R8,S1,this])
     ·exact hp i j (by simpa using Lc) (by simpa using Mc) Js (by simp only[Array.getElem_toList];rw[R8,S1,this])
   ·rintro (rfl|⟨hm,hk⟩)
    ·have:(es.modify j fun e=>{ e with key:=kv x,val:=v })[j]?=some { e0 with key:=kv x,val:=v }:=by
      rw[Array.getElem?_modify,if_pos rfl,hj];rfl
     exact Array.mem_toList_iff.2 (Array.mem_of_getElem? this)
    ·obtain⟨i,hi⟩:=List.getElem?_of_mem hm
     have Qy:j≠i:=by
      rintro rfl;rw[h2]at hi;exact hk ((Option.some.inj hi) ▸ h3)
     have:(es.modify j fun e=>{ e with key:=kv x,val:=v })[i]?=some e1:=by
      rw[Array.getElem?_modify,if_neg Qy];rw[<- hi];simp
     exact Array.mem_toList_iff.2 (Array.mem_of_getElem? this)
  have Q3:(es.modify j fun e=>{ e with key:=kv x,val:=v }).toList.map (·.key)=es.toList.map (·.key):=
   modify_keys j _ fun e he=>by rw[hj]at he;rw[<- Option.some.inj he];exact h3.symm
  refine⟨_,by simp[Instr.mapUpdate,run_underlying ht,MapKept.run_getObj_map hb,hc,h1,Jo,MapKept.run_setObj_map _ hb,Result.andThen];rfl,⟨es.modify j fun e=>{ e with key:=kv x,val:=v },clock,(MapKept.heap_set hb).1,?_,?_,?_,?_⟩,⟨es,clock,_,_,hb,rfl⟩⟩
  ·intro e1 Np;rcases (Jv e1).1 Np with rfl|⟨hm,_⟩
   ·exact⟨x,hx,rfl⟩
   ·exact hg e1 hm
  ·have:((es.modify j fun e=>{ e with key:=kv x,val:=v }).toList.map (·.key)).Nodup:=by
    rw[Q3];exact List.pairwise_map.2 hp
   exact List.pairwise_map.1 this
  ·simp[Qz,hn]
  ·intro y Wv u
   by_cases hy:y=x
   ·subst hy;simp only[if_true,Option.some.injEq];constructor
    ·rintro rfl;exact⟨_,(Jv _).2 (inl rfl),rfl,rfl⟩
    ·rintro⟨e1,Np,Pf,Vc⟩;rcases (Jv e1).1 Np with rfl|⟨_,hk⟩
     ·exact Vc
     ·exact absurd Pf hk
   ·simp only[if_neg hy];rw[hf y Wv u];constructor
    ·rintro⟨e1,Np,Pf,Vc⟩;exact⟨e1,(Jv e1).2 (inr ⟨Np,fun h=>hy (K.inj Wv hx (Pf.symm.trans h))⟩),Pf,Vc⟩
    ·rintro⟨e1,Np,Pf,Vc⟩;rcases (Jv e1).1 Np with rfl|⟨hm,_⟩
     ·exact absurd (K.inj Wv hx Pf.symm) hy
     ·exact⟨e1,hm,Pf,Vc⟩
def aQ.drop[DecidableEq κ](h:aQ ok kv w b n f)(K:jL P k ok side kv)(ht:P.underlying t=some (.map k e)){x:κ}(hx:ok x)(M7:side w x)(hS:∀y,(f y).isSome=true->side w y)(ty:TypeId) :
  ∃w',(Builtin.delete_ #[t,k] ty #[.map (some b),kv x]).run P w=.ok (.tuple #[]) w'/\aQ ok kv w' b (if (f x).isSome then n-1 else n) (fun y=>if y=x then none else f y)/\w.mapTurned w' b:=by
 obtain⟨es,clock,hb,hg,hp,hn,hf⟩:=h;have hc:=K.check w es.isEmpty hx;rcases K.find w hx M7 es.toList (pM hg hf hS)with⟨h1,h2⟩|⟨j,e0,h1,h2,h3⟩
 ·have Qz:f x=none:=by
   cases Qz:f x with
   |none=>rfl
   |some v=>
    obtain⟨e1,Np,Pf,_⟩:=(hf x hx v).1 Qz;exact absurd Pf (h2 e1 Np)
  refine⟨_,by simp[Builtin.delete_,run_underlying ht,MapKept.run_getObj_map hb,hc,h1,MapKept.run_setObj_map _ hb,Result.andThen];rfl,⟨es,clock,(MapKept.heap_set hb).1,hg,hp,by simp[Qz,hn],?_⟩,⟨es,clock,_,_,hb,rfl⟩⟩;intro y Wv u
  by_cases hy:y=x
  ·subst hy;simp only[if_true];rw[<- hf y hx,Qz]
  ·simp only[if_neg hy];rw[hf y Wv]
 ·have Qz:f x=some e0.val:=(hf x hx e0.val).2 ⟨e0,List.mem_of_getElem? h2,h3,rfl⟩;have hj:es[j]?=some e0:=by rw[<- h2];simp
  have Mc:j<es.size:=(Array.getElem?_eq_some_iff.1 hj).1
  have Oh:(es.eraseIdxIfInBounds j).toList=es.toList.eraseIdx j:=by
   unfold Array.eraseIdxIfInBounds;rw[dif_pos Mc];simp
  have x7:=hp
  have Jv:∀e1,e1∈es.toList.eraseIdx j↔(e1∈es.toList/\e1.key≠kv x):=by
   intro e1;rw[List.mem_eraseIdx_iff_getElem?];rw[List.pairwise_iff_getElem]at x7;obtain⟨R7,R8⟩:=List.getElem?_eq_some_iff.1 h2;constructor
   ·rintro⟨i,Qy,hi⟩;refine⟨List.mem_of_getElem? hi,fun hk=>?_⟩;obtain⟨Lc,S1⟩:=List.getElem?_eq_some_iff.1 hi;rcases Nat.lt_or_gt_of_ne Qy with Js|Js
    ·exact x7 i j Lc R7 Js (by rw[S1,R8,hk,h3])
    ·exact x7 j i R7 Lc Js (by rw[S1,R8,hk,h3])
   ·rintro⟨hm,hk⟩;obtain⟨i,hi⟩:=List.getElem?_of_mem hm;refine⟨i,?_,hi⟩;rintro rfl;rw[h2]at hi;exact hk ((Option.some.inj hi) ▸ h3)
  refine⟨_,by simp[Builtin.delete_,run_underlying ht,MapKept.run_getObj_map hb,hc,h1,MapKept.run_setObj_map _ hb,Result.andThen];rfl,⟨es.eraseIdxIfInBounds j,clock,(MapKept.heap_set hb).1,?_,?_,?_,?_⟩,⟨es,clock,_,_,hb,rfl⟩⟩
  ·intro e1 Np;rw[Oh]at Np;exact hg e1 ((Jv e1).1 Np).1
  ·rw[Oh];exact hp.sublist (List.eraseIdx_sublist _ _)
  ·have:(es.eraseIdxIfInBounds j).size=es.size-1:=by
    unfold Array.eraseIdxIfInBounds;rw[dif_pos Mc];simp
   rw[this,hn];simp[Qz]
  ·intro y Wv u;rw[Oh]
   by_cases hy:y=x
   ·subst hy;simp only[if_true];constructor
    ·intro h;cases h
    ·rintro⟨e1,Np,Pf,_⟩;exact absurd Pf ((Jv e1).1 Np).2
   ·simp only[if_neg hy];rw[hf y Wv u];constructor
    ·rintro⟨e1,Np,Pf,Vc⟩;exact⟨e1,(Jv e1).2 ⟨Np,fun h=>hy (K.inj Wv hx (Pf.symm.trans h))⟩,Pf,Vc⟩
    ·rintro⟨e1,Np,Pf,Vc⟩;exact⟨e1,((Jv e1).1 Np).1,Pf,Vc⟩
def aQ.len(h:aQ ok kv w b n f)(ht:P.underlying t=some (.map k e))(ty:TypeId):(Builtin.len_ #[t] ty #[.map (some b)]).run P w=.ok (.int .i64 n) w:=by
 obtain⟨es,clock,hb,hg,hp,hn,hf⟩:=h;simp[Builtin.len_,run_underlying ht,MapKept.run_getObj_map hb,goInt,Result.andThen,hn]
end
section
abbrev Nm:=List UInt8
structure Nd where
 k:Nat
 txt:Nm
 ps:List Nd
def Nd.all:Nd->List Nd
 |.mk k txt ps=>.mk k txt ps::alls ps
 where
 alls:List Nd->List Nd
  |[]=>[]
  |p::r=>p.all++alls r
def Nd.ht:Nd->Nat
 |.mk _ _ ps=>hts ps+1
 where
 hts:List Nd->Nat
  |[]=>0
  |p::r=>max p.ht (hts r)
def Nd.DS(k:Nat)(txt:Nm)(ps:List Nd):(Nd.mk k txt ps).ht=Nd.ht.hts ps+1:=by rw[Nd.ht]
def Nd.DY{p:Nd}:∀{ps:List Nd},p∈ps->p.ht<=Nd.ht.hts ps:=by
 intro ps
 induction ps with
 |nil=>intro h;cases h
 |cons q r ih=>
  intro h;rw[Nd.ht.hts];rcases mem_cons.1 h with rfl|h
  ·exact Nat.le_max_left _ _
  ·exact le_trans (ih h) (Nat.le_max_right _ _)
def Nd.BG{k:Nat}{txt:Nm}{ps:List Nd}{p:Nd}{n:Nat}(h:p∈ps)(hn:(Nd.mk k txt ps).ht<n+1):p.ht<n:=by
 rw[Nd.DS]at hn;have:=Nd.DY h;omega
structure Vr where
 data:Nm
 AE:List Nm
 parts:List Nd
 sibs:Nat
structure Mg where
 scheme:Option Nat
 vr:Vr
 AE:Nat
def Vr.zero:Vr:=⟨[],[],[],0⟩
def Mg.zero:Mg:=⟨none,Vr.zero,0⟩
def Mg.var(t:Nat):Mg:=⟨some t,Vr.zero,0⟩
def Mg.type(n:Nat):Mg:=⟨none,Vr.zero,n⟩
def Mg.con(v:Vr):Mg:=⟨none,v,0⟩
abbrev Ky:=Nat×Nm
abbrev Env:=List (Ky×Mg)
def Env.get:Env->Ky->Option Mg
 |[],_=>none
 |(y,m)::r,x=>if x=y then some m else Env.get r x
structure Lk where
 wn:Bool
 wc:Bool
def Lk.name(s:Lk)(b:Bool):Lk:=⟨s.wn || b,s.wc⟩
def dS(A:Env)(key:Ky)(cnt:Mg->Nat)(np:Nat)(s:Lk):Lk:=
 ⟨s.wn || (A.get key).isNone,s.wc || decide (np≠cnt ((A.get key).getD Mg.zero))⟩
def jT(A:Env)(nd:Nd)(s:Lk):Lk:=dS A (1,nd.txt) (fun m=>m.vr.parts.length) nd.ps.length s
def bK(p:Nd):List Nm:=(p.all.filter (fun n=>n.k==3)).map Nd.txt
def cE(A:Env)(vs:List Nm)(m:Mg):Env:=vs.foldl (fun A v=>(((0,v),m)::A:Env)) A
def bZ(l:List Nm):Bool:=!decide l.Nodup
def lH:Nat->Env->Nd->Lk->Lk
 |0,_,_,s=>s
 |n+1,A,.mk k txt ps,s=>
  match k,ps with
  |3,_=>s.name (A.get (0,txt)).isNone
  |5,[a]=>lH n (((0,txt),Mg.zero)::A) a s
  |6,[a,b]=>lH n (((0,txt),Mg.zero)::A) b (lH n A a s)
  |7,[a,b]=>lH n (((0,txt),Mg.zero)::A) b (lH n (((0,txt),Mg.zero)::A) a s)
  |16,[p,e]=>lH n (cE A (bK p) Mg.zero) e (((p.all.filter (fun n=>n.k==14)).foldl (fun s n=>jT A n s) s).name (bZ (bK p)))
  |14,ps=>ps.foldl (fun s p=>lH n A p s) (jT A (.mk 14 txt ps) s)
  |_,ps=>ps.foldl (fun s p=>lH n A p s) s
def FJ(A:Env)(AE:List Nm)(l:List Nd)(s:Lk):Lk:=
 l.foldl (fun s n=>if n.k=21 then s.name (!AE.contains n.txt)else if n.k=22 then dS A (2,n.txt) Mg.AE n.ps.length s else s) s
def only(k:Nat)(ps:List Nd):List Nd:=ps.filter (fun n=>n.k==k)
def jY(A:Env)(txt:Nm)(ps:List Nd)(s:Lk):Lk:=
 let ls:=(only 19 ps).map Nd.txt
 let vs:=only 20 ps
 let cs:=vs.map Nd.txt
 let s1:=s.name ((A.get (2,txt)).isSome || bZ ls || bZ cs)
 let s2:=cs.foldl (fun s c=>s.name (A.get (1,c)).isSome) s1
 vs.foldl (fun s v=>v.ps.foldl (fun s p=>FJ (((2,txt),Mg.type ls.length)::A) ls p.all s) s) s2
def uE(A:Env):Nd->Lk->Lk
 |.mk k txt ps,s=>
  match k,ps with
  |18,ps=>jY A txt ps s
  |7,a::_=>lH (a.ht+1) (((0,txt),Mg.zero)::A) a s
  |_,a::_=>lH (a.ht+1) A a s
  |_,[]=>s
def jF(s:Lk):Nat:=if s.wn then 4 else if s.wc then 5 else 0
abbrev gJ:Nat:=9223372036854775807
structure TN where
 name:Nm
 parts:List Nat
 depth:Nat
structure TS where
 nodes:List TN
 fnd:List (Nat×Nat)
 given:List Nat
def jR:List (Nat×Nat)->Nat->Nat
 |[],i=>i
 |(t,o)::r,i=>if jR r i=t then o else jR r i
def TS.root(U:TS)(i:Nat):Nat:=jR U.fnd i
def TS.node(U:TS)(i:Nat):TN:=(U.nodes[i]?).getD ⟨[],[],0⟩
def TS.AC(U:TS)(i:Nat):Bool:=(U.node i).name==[]
def TS.depth(U:TS)(i:Nat):Nat:=(U.node i).depth
def TS.new(U:TS)(t:TN):Nat×TS:=(U.nodes.length,{ U with nodes:=U.nodes++[t] })
def TS.named(U:TS)(nm:Nm)(ps:List Nat):Nat×TS:=U.new ⟨nm,ps,0⟩
def TS.letter(U:TS)(d:Nat):Nat×TS:=U.new ⟨[],[],d⟩
def TS.AG(U:TS)(i d:Nat):TS:={ U with nodes:=U.nodes.modify i (fun t=>{ t with depth:=d }) }
def TS.give(U:TS)(i:Nat):TS:={ U with given:=U.given++[i] }
def bA:Nm:=[45,62]
def eI:Nm:=[105,110,116]
def dZ:Nm:=[98,111,111,108]
def bY:Nm:=[117,110,105,116]
def gP:Nm:=[114,101,102]
def wk(U:TS)(T:List Nat->Nat->Bool):Nat->List Nat->Nat->Option (List Nat×Bool)
 |0,_,_=>none
 |n+1,acc,i=>if T acc (U.root i)then wkL (wk U T n) (acc++[U.root i]) (U.node (U.root i)).parts else some (acc++[U.root i],false)
 where
 wkL (g:List Nat->Nat->Option (List Nat×Bool)) (acc:List Nat):List Nat->Option (List Nat×Bool)
  |[]=>some (acc,true)
  |p::ps=>
   match g acc p with
   |some (acc',true)=>wkL g acc' ps
   |x=>x
abbrev eR:Nat:=200
abbrev dF:Nat:=202
def oK(acc:List Nat)(_:Nat):Bool:=decide (acc.length+1<=eR)
def TS.fits(U:TS)(i:Nat):Bool:=(wk U oK dF [] i).any Prod.snd
def TS.AW(U:TS)(i:Nat):Bool:=!(wk U (fun _ j=>!U.AC j) dF [] i).any Prod.snd
def TS.pre(U:TS)(i:Nat):List Nat:=((wk U (fun _ _=>true) dF [] i).getD ([],true)).1
def TS.AV(U:TS)(d i:Nat):TS:=
 (U.pre i).foldl (fun s j=>if s.AC j && decide (d<s.depth j)then s.AG j gJ else s) U
def TS.AJ(U:TS)(t o:Nat):Option TS:=
 if U.fits o && (wk U (fun _ j=>j != t) dF [] o).any Prod.snd then
  let s:=(U.pre o).foldl (fun s j=>if s.AC j then s.AG j (min (s.depth j) (s.depth t))else s) U
  some { s with fnd:=(t,o)::s.fnd }
 else none
def un:Nat->TS->Nat->Nat->Nat->Option (TS×Nat)
 |0,_,_,_,_=>none
 |n+1,U,pl,a,b=>
  if U.root a=U.root b then some (U,pl+1)
  else if eR<pl+1 then none
  else if U.AC (U.root a)then(U.AJ (U.root a) (U.root b)).map (·,pl+1)
  else if U.AC (U.root b)then(U.AJ (U.root b) (U.root a)).map (·,pl+1)
  else if (U.node (U.root a)).name=(U.node (U.root b)).name then unL (un n) U (pl+1) (U.node (U.root a)).parts (U.node (U.root b)).parts
  else none
 where
 unL (g:TS->Nat->Nat->Nat->Option (TS×Nat)) (U:TS) (pl:Nat):List Nat->List Nat->Option (TS×Nat)
  |a::az,b::bs=>
   match g U pl a b with
   |some (U',pl')=>unL g U' pl' az bs
   |none=>none
  |_,_=>some (U,pl)
def TS.AO(U:TS)(a b:Nat):Option TS:=(un dF U 0 a b).map Prod.fst
def inst(d:Nat):Nat->TS->List (Nat×Nat)->Nat->Option (Nat×TS×List (Nat×Nat))
 |0,_,_,_=>none
 |n+1,U,m,i=>
  if U.AC (U.root i)then
   if U.depth (U.root i)≠gJ then some (U.root i,U,m)
   else match m.lookup (U.root i)with
    |some j=>some (j,U,m)
    |none=>some (U.nodes.length,(U.letter d).2,m++[(U.root i,U.nodes.length)])
  else
   match instL (inst d n) U m (U.node (U.root i)).parts with
   |some (js,U',m')=>some (U'.nodes.length,(U'.named (U.node (U.root i)).name js).2,m')
   |none=>none
 where
 instL (g:TS->List (Nat×Nat)->Nat->Option (Nat×TS×List (Nat×Nat))) (U:TS) (m:List (Nat×Nat)):List Nat->Option (List Nat×TS×List (Nat×Nat))
  |[]=>some ([],U,m)
  |p::ps=>
   match g U m p with
   |none=>none
   |some (j,U',m')=>
    match instL g U' m' ps with
    |none=>none
    |some (js,U'',m'')=>some (j::js,U'',m'')
def TS.inst(U:TS)(d i:Nat):Option (Nat×TS):=(Go.Proofs.YthakgdfmbknakaaGreatDoor.inst d dF U [] i).map fun r=>(r.1,r.2.1)
def Fa(k:Nat):Nm:=if k=0 then eI else if k=1 then dZ else bY
def bB:Nat->Nd->Bool
 |0,_=>false
 |n+1,.mk k _ ps=>decide (k<=3) || decide (k=5) || (decide (k=14) && ps.all (bB n))
def written:Nat->List (Nm×Nat)->Nd->TS->Nat×TS
 |0,_,_,U=>U.named dZ []
 |n+1,ch,.mk k txt ps,U=>
  if k=21 then(match ch.lookup txt with|some j=>(j,U)|none=>U.named dZ [])
  else
   let r:=writtenL (written n ch) ps U
   if k=23 then
    match r.1 with
    |[a,b]=>r.2.named bA [a,b]
    |_=>r.2.named dZ []
   else r.2.named txt r.1
 where
 writtenL (g:Nd->TS->Nat×TS):List Nd->TS->List Nat×TS
  |[],U=>([],U)
  |p::r,U=>
   let x:=g p U
   let y:=writtenL g r x.2
   (x.1::y.1,y.2)
def dG(d:Nat):List Nm->TS->List (Nm×Nat)×TS
 |[],U=>([],U)
 |l::r,U=>
  let y:=dG d r (U.letter d).2
  ((l,U.nodes.length)::y.1,y.2)
def iN{S:Type}(get:S->TS)(put:S->TS->S)(A:Env)(d:Nat)(txt:Nm)(ps:List Nd)(ex:Nd->Nat->S->Option S)(s:S):Option (Nat×S):=
 match A.get (1,txt)with
 |none=>none
 |some m=>
  let ls:=dG d m.vr.AE (get s)
  match go ex ls.1 (ps.zip m.vr.parts) (put s ls.2)with
  |some s'=>
   let r:=(get s').named m.vr.data (ls.1.map Prod.snd)
   some (r.1,put s' r.2)
  |none=>none
 where
 go (ex:Nd->Nat->S->Option S) (ch:List (Nm×Nat)):List (Nd×Nd)->S->Option S
  |[],s=>some s
  |(p,q)::r,s=>
   let x:=written (q.ht+1) ch q (get s)
   match ex p x.1 (put s x.2)with
   |some s'=>go ex ch r s'
   |none=>none
def kI(A:Env)(d:Nat):Nat->Nd->TS×List (Nm×Nat)->Option (Nat×(TS×List (Nm×Nat)))
 |0,_,_=>none
 |n+1,.mk k txt ps,s=>
  if k=4 then some (s.1.nodes.length,((s.1.letter d).2,s.2))
  else if k=3 then some (s.1.nodes.length,((s.1.letter d).2,s.2++[(txt,s.1.nodes.length)]))
  else if k=14 then iN Prod.fst (fun s U=>(U,s.2)) A d txt ps (patX (kI A d n)) s
  else some (s.1.nodes.length,((s.1.named (Fa k) []).2,s.2))
 where
 patX (g:Nd->TS×List (Nm×Nat)->Option (Nat×(TS×List (Nm×Nat)))) (p:Nd) (want:Nat) (s:TS×List (Nm×Nat)):Option (TS×List (Nm×Nat)):=
  match g p s with
  |some (t,s')=>((s'.1.give t).AO t want).map (·,s'.2)
  |none=>none
def IB(A:Env)(d:Nat)(p:Nd)(want:Nat)(s:TS×List (Nm×Nat)):Option (TS×List (Nm×Nat)):=kI.patX (kI A d (p.ht+1)) p want s
def eD(A:Env)(vs:List (Nm×Nat)):Env:=vs.foldl (fun A v=>(((0,v.1),Mg.var v.2)::A:Env)) A
def lI(g:Env->Nat->Nd->TS->Option (Nat×TS))(A:Env)(d:Nat)(p:Nd)(want:Nat)(U:TS):Option TS:=
 match g A d p U with
 |some (t,U')=>U'.AO t want
 |none=>none
def gY(g:Env->Nat->Nd->TS->Option (Nat×TS))(A:Env)(d:Nat)(isRec:Bool)(txt:Nm)(a:Nd)(U:TS):Option (Nat×TS):=
 let d':=if bB (a.ht+1) a then d+1 else d
 let r:=if isRec then
   match g (((0,txt),Mg.var U.nodes.length)::A) d' a (U.letter d').2 with
   |some (t,U')=>(U'.AO U.nodes.length t).map fun s=>(U.nodes.length,s)
   |none=>none
  else g A d' a U
 match r with
 |some (t,U')=>if U'.fits t then some (t,U'.AV d t)else none
 |none=>none
def qC(g:Env->Nat->Nd->TS->Option (Nat×TS))(A:Env)(d subj ans:Nat):List Nd->TS->Option TS
 |[],U=>some U
 |.mk _ _ [p,e]::r,U=>
  match IB A d p subj (U,[])with
  |some (U',vs)=>
   match lI g (eD A vs) d e ans U' with
   |some U''=>qC g A d subj ans r U''
   |none=>none
  |none=>none
 |_::_,_=>none
def fF(g:Env->Nat->Nd->TS->Option (Nat×TS))(A:Env)(d:Nat):Nd->TS->Option (Nat×TS)
 |.mk k txt ps,U=>
  match k,ps with
  |0,_=>some (U.named eI [])
  |1,_=>some (U.named dZ [])
  |2,_=>some (U.named bY [])
  |3,_=>
   match ((A.get (0,txt)).getD Mg.zero).scheme with
   |some t=>if U.fits t then U.inst d t else none
   |none=>none
  |14,ps=>iN id (fun _ U=>U) A d txt ps (lI g A d) U
  |5,[a]=>
   match g (((0,txt),Mg.var U.nodes.length)::A) d a (U.letter d).2 with
   |some (t,U')=>some (U'.named bA [U.nodes.length,t])
   |none=>none
  |13,[a,b]=>
   match g A d a U with
   |some (f,U1)=>
    match g A d b U1 with
    |some (x,U2)=>
     let y:=U2.nodes.length
     let r:=(U2.letter d).2.named bA [x,y]
     (r.2.AO f r.1).map fun s=>(y,s)
    |none=>none
   |none=>none
  |6,[a,b]=>
   match gY g A d false txt a U with
   |some (t,U')=>g (((0,txt),Mg.var t)::A) d b U'
   |none=>none
  |7,[a,b]=>
   match gY g A d true txt a U with
   |some (t,U')=>g (((0,txt),Mg.var t)::A) d b U'
   |none=>none
  |8,[c,a,b]=>
   match lI g A d c U.nodes.length (U.named dZ []).2 with
   |some U1=>
    match g A d a U1 with
    |some (t,U2)=>(lI g A d b t U2).map fun s=>(t,s)
    |none=>none
   |none=>none
  |9,[a,b]=>
   match lI g A d a U.nodes.length (U.named bY []).2 with
   |some U1=>g A d b U1
   |none=>none
  |10,[a,b]=>
   match g A d a U with
   |some (c,U1)=>
    match g A d b U1 with
    |some (v,U2)=>
     match (U2.named gP [v]).2.AO c U2.nodes.length with
     |some U3=>some (U3.named bY [])
     |none=>none
    |none=>none
   |none=>none
  |12,[a]=>
   (lI g A d a (U.nodes.length+1) ((U.letter d).2.named gP [U.nodes.length]).2).map fun s=>(U.nodes.length,s)
  |15,a::rows=>
   match g A d a U with
   |some (t,U1)=>(qC g A d t U1.nodes.length (only 16 rows) (U1.letter d).2).map fun s=>(U1.nodes.length,s)
   |none=>none
  |_,[a,b]=>
   match lI g A d a U.nodes.length (U.named eI []).2 with
   |some U1=>
    match lI g A d b U1.nodes.length (U1.named eI []).2 with
    |some U2=>some (U2.named (if txt=[61]\/txt=[60]then dZ else eI) [])
    |none=>none
   |none=>none
  |_,_=>none
def pQ:Nat->Env->Nat->Nd->TS->Option (Nat×TS)
 |0,_,_,_,_=>none
 |n+1,A,d,nd,U=>
  match fF (pQ n) A d nd U with
  |some (t,U')=>some (t,U'.give t)
  |none=>none
def mB(A:Env):Nd->TS->Option (Nat×TS)
 |.mk k txt ps,U=>
  match ps with
  |a::_=>
   let r:=if k=17 then
     (lI (pQ (a.ht+1)) A 0 a U.nodes.length (U.named bY []).2).map fun s=>(s.nodes.length,(s.named bY []).2)
    else
     match gY (pQ (a.ht+1)) A 0 (k==7) txt a U with
     |some (t,s)=>if bB (a.ht+1) a || !s.AW t then some (t,s)else none
     |none=>none
   match r with
   |some (t,s)=>if s.given.all s.fits then some (t,{ s with given:=[] })else none
   |none=>none
  |[]=>none
structure PS where
 env:Env
 sto:TS
 binds:List (Nm×Nat)
def cA(A:Env)(txt:Nm)(ps:List Nd):Env:=
 (only 20 ps).foldl (fun A v=>(((1,v.txt),Mg.con ⟨txt,(only 19 ps).map Nd.txt,v.ps,(only 20 ps).length⟩)::A:Env)) (((2,txt),Mg.type ((only 19 ps).map Nd.txt).length)::A)
def cI(p:PS)(nd:Nd):Nat×PS:=
 let e:=jF (uE p.env nd ⟨false,false⟩)
 if e≠0 then(e,p)
 else if nd.k=18 then(0,{ p with env:=cA p.env nd.txt nd.ps })
 else
  match mB p.env nd p.sto with
  |none=>(6,p)
  |some (t,s)=>
   if nd.k=17 then(0,{ p with sto:=s })
   else(0,⟨((0,nd.txt),Mg.var t)::p.env,s,p.binds++[(nd.txt,t)]⟩)
def ahead:PS:=
 let U:TS:=⟨[⟨[],[],gJ⟩,⟨eI,[],0⟩,⟨bY,[],0⟩,⟨bA,[1,2],0⟩,⟨bY,[],0⟩,⟨eI,[],0⟩,⟨bA,[4,5],0⟩,⟨gP,[0],0⟩,⟨bA,[0,7],0⟩],[],[]⟩
 ⟨[((0,[112,117,116]),Mg.var 3),((0,[103,101,116]),Mg.var 6),((0,gP),Mg.var 8),((2,eI),Mg.type 0),((2,dZ),Mg.type 0),((2,bY),Mg.type 0),((2,gP),Mg.type 1)],U,[]⟩
def dB(i:Nat)(p:PS):List Nd->(Nat×Nat)×PS
 |[]=>((0,0),p)
 |nd::r=>
  let x:=cI p nd
  if x.1≠0 then((i,x.1),x.2)else dB (i+1) x.2 r
end
section
def iJ(U:TS):List (Nat×Nat)->Prop
 |[]=>True
 |(t,o)::r=>jR r t=t/\jR r o=o/\t≠o/\t<U.nodes.length/\o<U.nodes.length/\U.AC t=true/\iJ U r
def GM{U:TS}:∀{l:List (Nat×Nat)},iJ U l->∀i,jR l (jR l i)=jR l i:=by
 intro l
 induction l with
 |nil=>intro _ i;rfl
 |cons x r ih=>
  obtain⟨t,o⟩:=x;intro h i;obtain⟨h1,h2,h3,_,_,_,h7⟩:=h;simp only[jR]
  by_cases hi:jR r i=t
  ·simp only[if_pos hi];rw[h2,if_neg (Ne.symm h3)]
  ·simp only[if_neg hi];rw[ih h7 i,if_neg hi]
def yR{U:TS}:∀{l:List (Nat×Nat)},iJ U l->∀{i},i<U.nodes.length->jR l i<U.nodes.length:=by
 intro l
 induction l with
 |nil=>intro _ i hi;exact hi
 |cons x r ih=>
  obtain⟨t,o⟩:=x;intro h i hi;obtain⟨_,_,_,_,h5,_,h7⟩:=h;simp only[jR]
  split
  ·exact h5
  ·exact ih h7 hi
structure TS.Rg(U:TS):Prop where
 fnd:iJ U U.fnd
 parts:∀(i:Nat),i<U.nodes.length->∀p∈(U.node i).parts,p<U.nodes.length
structure TS.Ok(ar:Nm->Nat)(U:TS):Prop where
 fnd:iJ U U.fnd
 parts:∀(i:Nat)(tn:TN),U.nodes[i]?=some tn->(∀p∈tn.parts,p<U.nodes.length)/\(tn.name=[]->tn.parts=[])/\(tn.name≠[]->tn.parts.length=ar tn.name)
 given:∀g∈U.given,g<U.nodes.length
variable {ar:Nm->Nat}{U:TS}
def TS.Ok.AZ(h:U.Ok ar)(i:Nat):U.root (U.root i)=U.root i:=GM h.fnd i
def TS.Ok.AK(h:U.Ok ar){i:Nat}(hi:i<U.nodes.length):U.root i<U.nodes.length:=yR h.fnd hi
def TS.CH{i:Nat}{tn:TN}(h:U.nodes[i]?=some tn):U.node i=tn:=by unfold TS.node;rw[h];rfl
def TS.AR{i:Nat}(h:i<U.nodes.length):U.nodes[i]?=some (U.node i):=by
 unfold TS.node;rw[List.getElem?_eq_getElem h];rfl
def TS.Ok.AQ(h:U.Ok ar){i p:Nat}(hi:i<U.nodes.length)(hp:p∈(U.node i).parts):p<U.nodes.length:=
 (h.parts i _ (TS.AR hi)).1 p hp
def TS.Ok.rg(h:U.Ok ar):U.Rg:=⟨h.fnd,fun _ hi _ hp=>h.AQ hi hp⟩
def TS.Rg.AK(h:U.Rg){i:Nat}(hi:i<U.nodes.length):U.root i<U.nodes.length:=yR h.fnd hi
def TS.Rg.AQ(h:U.Rg){i p:Nat}(hi:i<U.nodes.length)(hp:p∈(U.node i).parts):p<U.nodes.length:=h.parts i hi p hp
structure Alike(U τ:TS):Prop where
 len:τ.nodes.length=U.nodes.length
 fnd:τ.fnd=U.fnd
 given:τ.given=U.given
 name:∀i,(τ.node i).name=(U.node i).name
 parts:∀i,(τ.node i).parts=(U.node i).parts
def Alike.refl(U:TS):Alike U U:=⟨rfl,rfl,rfl,fun _=>rfl,fun _=>rfl⟩
def Alike.trans{a b c:TS}(h:Alike a b)(k:Alike b c):Alike a c:=
 ⟨k.len.trans h.len,k.fnd.trans h.fnd,k.given.trans h.given,fun i=>(k.name i).trans (h.name i),fun i=>(k.parts i).trans (h.parts i)⟩
def Alike.root{a b:TS}(h:Alike a b)(i:Nat):b.root i=a.root i:=by unfold TS.root;rw[h.fnd]
def Alike.AC{a b:TS}(h:Alike a b)(i:Nat):b.AC i=a.AC i:=by unfold TS.AC;rw[h.name]
def TS.AX(U:TS)(i d j:Nat):(U.AG i d).node j=if j=i/\i<U.nodes.length then { U.node j with depth:=d }else U.node j:=by
 unfold TS.AG TS.node;simp only[List.getElem?_modify]
 by_cases hj:i=j
 ·subst hj
  by_cases hl:i<U.nodes.length
  ·rw[if_pos ⟨rfl,hl⟩,List.getElem?_eq_getElem hl];simp
  ·rw[if_neg (fun h=>hl h.2),List.getElem?_eq_none (by omega)];simp
 ·rw[if_neg (fun h=>hj h.1.symm)];simp[hj]
def Alike.AG(U:TS)(i d:Nat):Alike U (U.AG i d) where
 len:=by simp[TS.AG]
 fnd:=rfl
 given:=rfl
 name j:=by rw[TS.AX];split<;>rfl
 parts j:=by rw[TS.AX];split<;>rfl
def iJ.alike{U τ:TS}(h:Alike U τ):∀{l:List (Nat×Nat)},iJ U l->iJ τ l:=by
 intro l
 induction l with
 |nil=>intro _;trivial
 |cons x r ih=>
  obtain⟨t,o⟩:=x;intro ⟨h1,h2,h3,h4,h5,h6,h7⟩;exact⟨h1,h2,h3,by rw[h.len];exact h4,by rw[h.len];exact h5,by rw[h.AC];exact h6,ih h7⟩
def TS.Ok.alike{τ:TS}(h:U.Ok ar)(k:Alike U τ):τ.Ok ar where
 fnd:=by rw[k.fnd];exact h.fnd.alike k
 parts i tn hi:=by
  have hl:i<U.nodes.length:=by rw[<- k.len];exact(List.getElem?_eq_some_iff.1 hi).1
  have e1:=TS.CH hi;have:=h.parts i _ (TS.AR hl);rw[<- k.name i,<- k.parts i,e1]at this;rw[k.len];exact this
 given g hg:=by rw[k.len];rw[k.given]at hg;exact h.given g hg
def RJ{U τ:TS}(h:Alike U τ)(T:List Nat->Nat->Bool):∀n acc i,wk τ T n acc i=wk U T n acc i:=by
 intro n
 induction n with
 |zero=>intro acc i;rfl
 |succ n ih=>
  intro acc i;have:wk τ T n=wk U T n:=funext fun a=>funext fun j=>ih a j;rw[wk,wk,h.root,h.parts,this]
def Alike.fits{U τ:TS}(h:Alike U τ)(i:Nat):τ.fits i=U.fits i:=by unfold TS.fits;rw[RJ h]
def RL{g g':List Nat->Nat->Option (List Nat×Bool)}:∀{ps:List Nat}{acc acc':List Nat},wk.wkL g acc ps=some (acc',true)->(∀p∈ps,∀a a',g a p=some (a',true)->∀b,∃x,g' b p=some x)->∀b,∃x,wk.wkL g' b ps=some x:=by
 intro ps
 induction ps with
 |nil=>intro acc acc' _ _ b;exact⟨_,rfl⟩
 |cons p r ih=>
  intro acc acc' h hp b;rw[wk.wkL]at h
  cases hg:g acc p with
  |none=>rw[hg]at h;cases h
  |some x=>
   obtain⟨a1,b1⟩:=x;rw[hg]at h
   cases b1 with
   |false=>cases h
   |true=>
    obtain⟨⟨a2,b2⟩,h2⟩:=hp p (mem_cons_self ..) _ _ hg b;rw[wk.wkL,h2]
    cases b2 with
    |false=>exact⟨_,rfl⟩
    |true=>exact ih h (fun q hq=>hp q (mem_cons_of_mem _ hq)) a2
def XU{U:TS}{T T':List Nat->Nat->Bool}:∀{n:Nat}{acc acc':List Nat}{i:Nat},wk U T n acc i=some (acc',true)->∀b,∃x,wk U T' n b i=some x:=by
 intro n
 induction n with
 |zero=>intro acc acc' i h;cases h
 |succ n ih=>
  intro acc acc' i h b;rw[wk]at h ⊢;split at h
  ·split
   ·exact RL h (fun p _ a a' hg b=>ih hg b) _
   ·exact⟨_,rfl⟩
  ·cases h
def TS.BW{U:TS}{i:Nat}(h:U.fits i=true)(T:List Nat->Nat->Bool):∃acc b,wk U T dF [] i=some (acc,b):=by
 unfold TS.fits at h
 cases hw:wk U oK dF [] i with
 |none=>rw[hw]at h;cases h
 |some x=>
  obtain⟨a,b⟩:=x;rw[hw]at h;simp at h;subst h;obtain⟨⟨c,d⟩,hx⟩:=XU (T':=T) hw [];exact⟨c,d,hx⟩
def MR{g:List Nat->Nat->Option (List Nat×Bool)}{m:Nat}(hg:∀acc p,m<=acc.length->∃acc' b,g acc p=some (acc',b)/\acc.length<=acc'.length):∀(ps:List Nat)(acc:List Nat),m<=acc.length->∃acc' b,wk.wkL g acc ps=some (acc',b)/\acc.length<=acc'.length:=by
 intro ps
 induction ps with
 |nil=>intro acc _;exact⟨acc,true,rfl,le_refl _⟩
 |cons p r ih=>
  intro acc h;obtain⟨a1,b1,h1,h2⟩:=hg acc p h;rw[wk.wkL,h1]
  cases b1 with
  |false=>exact⟨a1,false,rfl,h2⟩
  |true=>
   obtain⟨a2,b2,h3,h4⟩:=ih a1 (by omega);exact⟨a2,b2,h3,by omega⟩
def RI{U:TS}:∀(n:Nat)(acc:List Nat)(i:Nat),1<=n->eR+1<=acc.length+n->∃acc' b,wk U oK n acc i=some (acc',b)/\acc.length<=acc'.length:=by
 intro n
 induction n with
 |zero=>intro acc i h;omega
 |succ n ih=>
  intro acc i _ h;rw[wk]
  by_cases hT:oK acc (U.root i)=true
  ·rw[if_pos hT];have Jm:acc.length+1<=eR:=by simpa [oK]using hT
   obtain⟨a,b,h1,h2⟩:=MR (g:=wk U oK n) (m:=acc.length+1) (fun c p hc=>ih c p (by omega) (by omega)) (U.node (U.root i)).parts (acc++[U.root i]) (by simp);exact⟨a,b,h1,by simp at h2;omega⟩
  ·rw[if_neg hT];exact⟨_,_,rfl,by simp⟩
def TS.BR(U:TS)(i:Nat):∃acc,wk U oK dF [] i=some (acc,U.fits i):=by
 obtain⟨a,b,h,_⟩:=RI (U:=U) dF [] i (by decide) (by decide);refine⟨a,?_⟩;unfold TS.fits;rw[h];cases b<;>rfl
def RK{g g':List Nat->Nat->Option (List Nat×Bool)}:∀{ps:List Nat}{acc acc':List Nat},wk.wkL g acc ps=some (acc',true)->(∀p∈ps,∀a a',g a p=some (a',true)->g' a p=some (a',true))->wk.wkL g' acc ps=some (acc',true):=by
 intro ps
 induction ps with
 |nil=>intro acc acc' h _;exact h
 |cons p r ih=>
  intro acc acc' h hp;rw[wk.wkL]at h ⊢
  cases hg:g acc p with
  |none=>rw[hg]at h;cases h
  |some x=>
   obtain⟨a1,b1⟩:=x;rw[hg]at h
   cases b1 with
   |false=>cases h
   |true=>
    rw[hp p (mem_cons_self ..) _ _ hg];exact ih h fun q hq=>hp q (mem_cons_of_mem _ hq)
def KV{U:TS}{T:List Nat->Nat->Bool}:∀{n:Nat}{acc acc':List Nat}{i:Nat},wk U T n acc i=some (acc',true)->wk U (fun _ _=>true) n acc i=some (acc',true):=by
 intro n
 induction n with
 |zero=>intro acc acc' i h;cases h
 |succ n ih=>
  intro acc acc' i h;rw[wk]at h ⊢;split at h
  ·rw[if_pos rfl];exact RK h fun p _ a a' hg=>ih hg
  ·cases h
def TS.BV{U:TS}{i:Nat}(h:U.fits i=true):wk U (fun _ _=>true) dF [] i=some (U.pre i,true):=by
 obtain⟨a,ha⟩:=U.BR i;rw[h]at ha;have:=KV ha;unfold TS.pre;rw[this];rfl
end
section
variable {ar:Nm->Nat}{U:TS}
def TS.BB(U:TS)(t:TN)(i:Nat):(U.new t).2.node i=if i=U.nodes.length then t else U.node i:=by
 unfold TS.new TS.node;simp only
 by_cases hi:i=U.nodes.length
 ·subst hi;simp
 ·rw[if_neg hi]
  by_cases hl:i<U.nodes.length
  ·rw[List.getElem?_append_left hl]
  ·rw[List.getElem?_eq_none (by simp;omega),List.getElem?_eq_none (by omega)]
def TS.BD(U:TS)(t:TN):(U.new t).2.nodes.length=U.nodes.length+1:=by simp[TS.new]
def NO{U:TS}:∀{l:List (Nat×Nat)},iJ U l->∀{i},U.nodes.length<=i->jR l i=i:=by
 intro l
 induction l with
 |nil=>intro _ i _;rfl
 |cons x r ih=>
  obtain⟨t,o⟩:=x;intro ⟨_,_,_,h4,_,_,h7⟩ i hi;simp only[jR];rw[ih h7 hi,if_neg (by omega)]
def iJ.grow{U τ:TS}(Jm:U.nodes.length<=τ.nodes.length)(F2:∀i,i<U.nodes.length->τ.AC i=U.AC i):∀{l:List (Nat×Nat)},iJ U l->iJ τ l:=by
 intro l
 induction l with
 |nil=>intro _;trivial
 |cons x r ih=>
  obtain⟨t,o⟩:=x;intro ⟨h1,h2,h3,h4,h5,h6,h7⟩;exact⟨h1,h2,h3,by omega,by omega,by rw[F2 t h4];exact h6,ih h7⟩
def TS.Ok.new(h:U.Ok ar){t:TN}(hp:∀p∈t.parts,p<U.nodes.length)(h0:t.name=[]->t.parts=[])(ha:t.name≠[]->t.parts.length=ar t.name):(U.new t).2.Ok ar where
 fnd:=iJ.grow (by simp[TS.new]) (fun i hi=>by unfold TS.AC;rw[TS.BB,if_neg (by omega)]) h.fnd
 parts i tn hi:=by
  rw[TS.BD];have hn:=TS.CH hi;rw[TS.BB]at hn;have Js:i<U.nodes.length+1:=by rw[<- TS.BD];exact(List.getElem?_eq_some_iff.1 hi).1
  by_cases he:i=U.nodes.length
  ·rw[if_pos he]at hn;subst hn;exact⟨fun p Py=>Nat.lt_succ_of_lt (hp p Py),h0,ha⟩
  ·rw[if_neg he]at hn;have:=h.parts i _ (TS.AR (by omega));rw[hn]at this;exact⟨fun p Py=>Nat.lt_succ_of_lt (this.1 p Py),this.2⟩
 given g hg:=by rw[TS.BD];exact Nat.lt_succ_of_lt (h.given g hg)
def TS.Ok.give(h:U.Ok ar){i:Nat}(hi:i<U.nodes.length):(U.give i).Ok ar where
 fnd:=iJ.grow (U:=U) (τ:=U.give i) (le_refl _) (fun _ _=>rfl) h.fnd
 parts:=h.parts
 given g hg:=by
  rcases mem_append.1 hg with h1|h1
  ·exact h.given g h1
  ·rw[mem_singleton.1 h1];exact hi
def lower(U:TS)(t:Nat)(l:List Nat):TS:=l.foldl (fun s j=>if s.AC j then s.AG j (min (s.depth j) (s.depth t))else s) U
def iG:∀(l:List Nat)(U:TS)(t:Nat),Alike U (lower U t l):=by
 intro l
 induction l with
 |nil=>intro U t;exact Alike.refl _
 |cons j r ih=>
  intro U t;unfold lower;rw[List.foldl_cons]
  split
  ·exact(Alike.AG _ _ _).trans (ih _ _)
  ·exact ih _ _
def IG(U:TS)(t:Nat)(l:List Nat)(j:Nat):lower U t (l++[j])=if (lower U t l).AC j then(lower U t l).AG j (min ((lower U t l).depth j) ((lower U t l).depth t))else lower U t l:=by
 unfold lower;rw[List.foldl_append];rfl
def opened(U:TS)(d:Nat)(l:List Nat):TS:=l.foldl (fun s j=>if s.AC j && decide (d<s.depth j)then s.AG j gJ else s) U
def gI:∀(l:List Nat)(U:TS)(d:Nat),Alike U (opened U d l):=by
 intro l
 induction l with
 |nil=>intro U t;exact Alike.refl _
 |cons j r ih=>
  intro U t;unfold opened;rw[List.foldl_cons]
  split
  ·exact(Alike.AG _ _ _).trans (ih _ _)
  ·exact ih _ _
def yZ(U:TS)(d:Nat)(l:List Nat)(j:Nat):opened U d (l++[j])=if (opened U d l).AC j && decide (d<(opened U d l).depth j)then(opened U d l).AG j gJ else opened U d l:=by
 unfold opened;rw[List.foldl_append];rfl
def TS.found(U:TS)(t o:Nat):TS:={ U with fnd:=(t,o)::U.fnd }
def TS.Ok.found(h:U.Ok ar){t o:Nat}(ht:t<U.nodes.length)(ho:o<U.nodes.length)(hl:U.AC t=true)(h1:U.root t=t)(h2:U.root o=o)(Ju:t≠o):(U.found t o).Ok ar where
 fnd:=⟨h1,h2,Ju,ht,ho,hl,iJ.grow (U:=U) (τ:=U.found t o) (le_refl _) (fun _ _=>rfl) h.fnd⟩
 parts:=h.parts
 given:=h.given
def TS.AT(U:TS)(t o i:Nat):(U.found t o).root i=if U.root i=t then o else U.root i:=rfl
def TS.BL(U:TS)(t o:Nat):U.AJ t o=if U.fits o && (wk U (fun _ j=>j != t) dF [] o).any Prod.snd then some ((lower U t (U.pre o)).found t o)else none:=by
 unfold TS.AJ
 split
 ·have h:=iG (U.pre o) U t;unfold lower at h;simp only[TS.found,lower]
 ·rfl
end
end Go.Proofs.YthakgdfmbknakaaGreatDoor
