import Derived.Test.YtcbppnefeonmgaaGreatDoorC35
set_option linter.all false
set_option maxHeartbeats 40000000
set_option maxRecDepth 100000
open Go.Proofs.Tryz
open Or (inl inr)
open Nat (zero_le)
open List (append_nil length_append length_cons mem_cons_of_mem append_assoc length_nil map_append map_cons)
namespace Go.Proofs.YtcbppnefeonmgaaGreatDoor
open Go.RowKit
theorem tail_extract(s:ByteArray):(s.extract 1 s.size).data.toList=s.data.toList.tail:=by
 rw[Lib.extract_to_end];simp
theorem letterLength_any(s:ByteArray)(w:World)(hs:s.size<=maxLen)(hp:0<s.size) :
  Calls prog 60 #[.string s] w fun e w'=>e=.returned (.int .i64 (letterLen s.data.toList))/\w'=w:=by
 have hs':s.size<=9223372036854775807:=hs
 have hz:(s.extract 1 s.size).size<=maxLen:=by simp;omega
 have hle:=nameLen_le s.data.toList.tail
 have hc:∀wx,Calls prog 54 #[.string (s.extract 1 s.size)] wx fun e w'=>e=.returned (.int .i64 (nameLen s.data.toList.tail))/\w'=wx:=fun wx=>by
  have:=nameLength_any _ wx hz;rw[tail_extract]at this;exact this
 have hx:((s.extract 1 s.size).extract 0 (nameLen s.data.toList.tail)).data.toList=s.data.toList.tail.take (nameLen s.data.toList.tail):=by
  rw[Lib.extract_data,tail_extract];simp
 have hd:∀wx,Calls prog 93 #[.string ((s.extract 1 s.size).extract 0 (nameLen s.data.toList.tail))] wx fun e w'=>e=.returned (.bool (wordL (s.data.toList.tail.take (nameLen s.data.toList.tail))))/\w'=wx:=fun wx=>by
  have:=isWord_any ((s.extract 1 s.size).extract 0 (nameLen s.data.toList.tail)) wx;rw[hx]at this;exact this
 have hsz:nameLen s.data.toList.tail<=s.size-1:=by simpa using hle
 clear hx hle
 have hfin:letterLen s.data.toList=bif nameLen s.data.toList.tail==0 || wordL (s.data.toList.tail.take (nameLen s.data.toList.tail))then 0 else 1+nameLen s.data.toList.tail:=rfl
 generalize wordL (s.data.toList.tail.take (nameLen s.data.toList.tail))=b at *
 generalize nameLen s.data.toList.tail=n at *
 generalize letterLen s.data.toList=R at *
 have HC:Hid (∀wx,Calls prog 54 #[.string (s.extract 1 s.size)] wx fun e w'=>e=.returned (.int .i64 n)/\w'=wx):=hc
 have HD:Hid (∀wx,Calls prog 93 #[.string ((s.extract 1 s.size).extract 0 n)] wx fun e w'=>e=.returned (.bool b)/\w'=wx):=hd
 have HF:Hid (R=bif n==0 || b then 0 else 1+n):=hfin
 clear hc hd hfin
 by_cases hn:n=0
 ·subst hn
  go_enter func60,ntmps60
  go_wp2_with (go_at_call 54;refine(HC.out _).mono ?_;rintro e w'⟨rfl,rfl⟩)
  go_ret
  exact⟨ret_int (by rw[HF.out];simp),rfl⟩
 ·have hb:((n:Int)==0)=false:=by simp[hn]
  have hsl:=fun wx=>run_slice_of_slice (P:=prog) 9 underlying9 s 1 s.size 0 n (by omega) (by omega) wx
  cases b
  ·go_enter func60,ntmps60
   go_wp2_with (first|(go_at_call 54;refine(HC.out _).mono ?_;rintro e w'⟨rfl,rfl⟩)|(go_at_call 93;refine(HD.out _).mono ?_;rintro e w'⟨rfl,rfl⟩))
   go_ret
   exact⟨ret_int (by
             have h3:(n==0)=false:=by simpa using hn
             rw[HF.out];simp[h3]),rfl⟩
  ·go_enter func60,ntmps60
   go_wp2_with (first|(go_at_call 54;refine(HC.out _).mono ?_;rintro e w'⟨rfl,rfl⟩)|(go_at_call 93;refine(HD.out _).mono ?_;rintro e w'⟨rfl,rfl⟩))
   go_ret
   exact⟨ret_int (by rw[HF.out];simp),rfl⟩
theorem remarkLength_any(s:ByteArray)(w:World) :
  Calls prog 52 #[.string s] w fun e w'=>e=.returned (.int .i64 (cnt no10B s.data.toList))/\w'=w:=by
 have hc:∀wx,Calls prog 91 #[.string s,.int .u8 10] wx fun e w'=>e=.returned (.int .i64 (Lib.indexByte s.data.toList 10))/\w'=wx:=fun wx=>Tryz.strings_IndexByte s 10 wx
 have hr:=remark_len s.data.toList
 have hlen:s.data.toList.length=s.size:=rfl
 rw[hlen]at hr
 clear hlen
 generalize Lib.indexByte s.data.toList 10=i at *
 generalize cnt no10B s.data.toList=n at *
 have HC:Hid (∀wx,Calls prog 91 #[.string s,.int .u8 10] wx fun e w'=>e=.returned (.int .i64 i)/\w'=wx):=hc
 have HR:Hid ((n:Int)=if 0<=i then i else s.size):=hr
 clear hc hr
 by_cases h:0<=i
 ·go_enter func52,ntmps52
  go_wp2_with (go_at_call 91;refine(HC.out _).mono ?_;rintro e w'⟨rfl,rfl⟩)
  go_ret
  exact⟨ret_int (by rw[HR.out,if_pos h]),rfl⟩
 ·go_enter func52,ntmps52
  go_wp2_with (go_at_call 91;refine(HC.out _).mono ?_;rintro e w'⟨rfl,rfl⟩)
  go_ret
  exact⟨ret_int (by rw[HR.out,if_neg (by omega)]),rfl⟩
theorem sign_of(s:ByteArray)(hp:0<s.size) :
  (signLen s.data.toList:Int)=if Lib.hasPrefix s.data.toList [58,61]=true\/Lib.hasPrefix s.data.toList [45,62]=true then 2 else if 0<=Lib.indexByte signs s[0]then 1 else 0:=by
 have h0:(0<=Lib.indexByte signs s[0])=(s[0]∈signs):=propext (indexByte_mem _ _)
 simp only[h0]
 have e:=head_cons s hp
 simp only[signLen]
 split
 ·rfl
 ·rw[e];dsimp only;split<;>rfl
theorem signLength_any(s:ByteArray)(w:World)(hp:0<s.size) :
  Calls prog 61 #[.string s] w fun e w'=>e=.returned (.int .i64 (signLen s.data.toList))/\w'=w:=by
 have hc1:∀wx,Calls prog 94 #[.string s,.string ⟨#[58,61]⟩] wx fun e w'=>e=.returned (.bool (Lib.hasPrefix s.data.toList [58,61]))/\w'=wx:=fun wx=>Tryz.strings_HasPrefix s ⟨#[58,61]⟩ wx
 have hc2:∀wx,Calls prog 94 #[.string s,.string ⟨#[45,62]⟩] wx fun e w'=>e=.returned (.bool (Lib.hasPrefix s.data.toList [45,62]))/\w'=wx:=fun wx=>Tryz.strings_HasPrefix s ⟨#[45,62]⟩ wx
 have hc3:∀wx,Calls prog 91 #[.string ⟨#[40,41,61,60,43,45,42,47,59,124,33,46,95]⟩,.int .u8 s[0].toNat] wx fun e w'=>e=.returned (.int .i64 (Lib.indexByte signs s[0]))/\w'=wx:=fun wx=>by
  have:=Tryz.strings_IndexByte ⟨#[40,41,61,60,43,45,42,47,59,124,33,46,95]⟩ s[0].toNat wx
  simp only[Int.toNat_natCast,UInt8.ofNat_toNat,Nat.toUInt8_eq]at this
  exact this
 have hr:=sign_of s hp
 generalize Lib.hasPrefix s.data.toList [58,61]=b1 at *
 generalize Lib.hasPrefix s.data.toList [45,62]=b2 at *
 generalize Lib.indexByte signs s[0]=i at *
 generalize signLen s.data.toList=n at *
 have HC1:Hid (∀wx,Calls prog 94 #[.string s,.string ⟨#[58,61]⟩] wx fun e w'=>e=.returned (.bool b1)/\w'=wx):=hc1
 have HC2:Hid (∀wx,Calls prog 94 #[.string s,.string ⟨#[45,62]⟩] wx fun e w'=>e=.returned (.bool b2)/\w'=wx):=hc2
 have HC3:Hid (∀wx,Calls prog 91 #[.string ⟨#[40,41,61,60,43,45,42,47,59,124,33,46,95]⟩,.int .u8 s[0].toNat] wx fun e w'=>e=.returned (.int .i64 i)/\w'=wx):=hc3
 have HR:Hid ((n:Int)=if b1=true\/b2=true then 2 else if 0<=i then 1 else 0):=hr
 clear hc1 hc2 hc3 hr
 cases b1
 ·cases b2
  ·by_cases h:0<=i
   all_goals
    go_enter func61,ntmps61
    go_wp2_with fail
    refine(HC1.out _).mono ?_;rintro e w'⟨rfl,rfl⟩
    go_wp2_with fail
    refine(HC2.out _).mono ?_;rintro e w'⟨rfl,rfl⟩
    go_wp2_with fail
    refine(HC3.out _).mono ?_;rintro e w'⟨rfl,rfl⟩
    go_wp2_with fail
    go_ret
    exact⟨ret_int (by rw[HR.out];simp[h]),rfl⟩
  ·go_enter func61,ntmps61
   go_wp2_with fail
   refine(HC1.out _).mono ?_;rintro e w'⟨rfl,rfl⟩
   go_wp2_with fail
   refine(HC2.out _).mono ?_;rintro e w'⟨rfl,rfl⟩
   go_wp2_with fail
   go_ret
   exact⟨ret_int (by rw[HR.out];simp),rfl⟩
 ·go_enter func61,ntmps61
  go_wp2_with fail
  refine(HC1.out _).mono ?_;rintro e w'⟨rfl,rfl⟩
  go_wp2_with fail
  go_ret
  exact⟨ret_int (by rw[HR.out];simp),rfl⟩
theorem u8_ne{c:UInt8}{n:Nat}(hn:n<256)(h:((c.toNat:Int)==(n:Int))=false):c≠UInt8.ofNat n:=by
 intro e;subst e
 simp at h;omega
theorem gapLength_any(s:ByteArray)(w:World)(hs:s.size<=maxLen) :
  Calls prog 26 #[.string s] w fun e w'=>e=.returned (.int .i64 (gap false s.data.toList))/\w'=w:=by
 unfold maxLen at hs
 go_enter func26,ntmps26
 go_wp2
 go_loop [3] (fun i=>∃k:Nat,k<=s.size/\i=.int .i64 k/\Hid (gap false s.data.toList=k+gap false (s.data.toList.drop k))) (fun i=>s.size-(intOf i).toNat)
 case atStart=>exact⟨0,zero_le _,rfl,show gap _ _=_ by simp⟩
 case round=>
  obtain⟨k,hk,rfl,H⟩:=hrel
  by_cases hlt:k<s.size
  ·have hl:s.data.toList.length=s.size:=rfl
   have hg:s.data.toList[k]=s[k]:=rfl
   cases hb:blankB s[k].toNat
   ·have hb':((s[k].toNat:Int)==32)=false/\((s[k].toNat:Int)==9)=false/\((s[k].toNat:Int)==10)=false:=by
     simp only[blankB,Bool.or_eq_false_iff]at hb;exact⟨hb.1.1,hb.1.2,hb.2⟩
    obtain⟨h32,h9,h10⟩:=hb'
    cases h35:((s[k].toNat:Int)==35)
    ·have HO:Hid (gap false (s.data.toList.drop k)=0):=gap_other s.data.toList k hlt hb (u8_ne (n:=35) (by omega) h35)
     clear hl hg hb
     go_wp2
     go_ret
     exact⟨ret_int (by rw[H.out,HO.out];simp),rfl⟩
    ·have hc35:s[k]=35:=by
      rw[beq_iff_eq]at h35
      exact UInt8.toNat_inj.1 (by rw[show (35:UInt8).toNat=35 from rfl];omega)
     have hr:=gap_remark s.data.toList k hlt hc35
     have hle:=cnt_le no10B (s.data.toList.drop k)
     rw[List.length_drop,hl]at hle
     have hc:∀wx,Calls prog 52 #[.string (s.extract k s.size)] wx fun e w'=>e=.returned (.int .i64 (cnt no10B (s.data.toList.drop k)))/\w'=wx:=fun wx=>by
      have:=remarkLength_any (s.extract k s.size) wx;rw[Lib.extract_to_end]at this;exact this
     clear hc35 hg hl hb
     generalize cnt no10B (s.data.toList.drop k)=n at *
     have HR:Hid (gap false (s.data.toList.drop k)=n+gap false (s.data.toList.drop (k+n))):=hr.1
     have hn1:=hr.2
     have HC:Hid (∀wx,Calls prog 52 #[.string (s.extract k s.size)] wx fun e w'=>e=.returned (.int .i64 n)/\w'=wx):=hc
     clear hc hr
     go_wp2_with (go_at_call 52;refine(HC.out _).mono ?_;rintro e w'⟨rfl,rfl⟩)
     go_round
     case rel=>exact⟨k+n,by omega,by go_num,show gap _ _=_ by rw[H.out,HR.out];omega⟩
     case measure=>simp[intOf];omega
   ·have HB:Hid (gap false (s.data.toList.drop k)=1+gap false (s.data.toList.drop (k+1))):=gap_blank s.data.toList k hlt hb
    have hb':((s[k].toNat:Int)==32)=true\/(((s[k].toNat:Int)==32)=false/\((s[k].toNat:Int)==9)=true)\/(((s[k].toNat:Int)==32)=false/\((s[k].toNat:Int)==9)=false/\((s[k].toNat:Int)==10)=true):=by
     simp only[blankB]at hb
     revert hb
     cases ((s[k].toNat:Int)==32)<;>cases ((s[k].toNat:Int)==9)<;>cases ((s[k].toNat:Int)==10)<;>simp
    clear hl hg hb
    rcases hb' with h32|⟨h32,h9⟩|⟨h32,h9,h10⟩
    all_goals
     go_wp2
     go_round
     case rel=>exact⟨k+1,by omega,by go_num,show gap _ _=_ by rw[H.out,HB.out];omega⟩
     case measure=>simp[intOf];omega
  ·go_wp2
   go_ret
   exact⟨ret_int (by rw[H.out,gap_end _ _ (show s.size<=k by omega)];simp),rfl⟩
theorem tokenLength_any(s:ByteArray)(w:World)(hs:s.size<=maxLen)(hp:0<s.size) :
  Calls prog 27 #[.string s] w fun e w'=>e=.returned (.int .i64 (tokLen s.data.toList))/\w'=w:=by
 have ht:tokLen s.data.toList=bif smallB s[0].toNat then nameLen s.data.toList else bif greatB s[0].toNat then cnt conB s.data.toList else bif digitB s[0].toNat then numLen s.data.toList else if s[0]=39 then letterLen s.data.toList else signLen s.data.toList:=by
  obtain⟨r,e⟩:∃r,s.data.toList=s[0]::r:=⟨_,head_cons s hp⟩
  rw[e];rfl
 generalize tokLen s.data.toList=R at *
 have HT:Hid (R=bif smallB s[0].toNat then nameLen s.data.toList else bif greatB s[0].toNat then cnt conB s.data.toList else bif digitB s[0].toNat then numLen s.data.toList else if s[0]=39 then letterLen s.data.toList else signLen s.data.toList):=ht
 clear ht
 cases h1:smallB s[0].toNat
 ·cases h2:greatB s[0].toNat
  ·cases h3:digitB s[0].toNat
   ·cases h4:((s[0].toNat:Int)==39)
    ·go_enter func27,ntmps27
     go_wp2_with (first|(go_at_call 53;refine(isSmall_any _ _).mono ?_;rintro e w'⟨rfl,rfl⟩)|(go_at_call 55;refine(isGreat_any _ _).mono ?_;rintro e w'⟨rfl,rfl⟩)|(go_at_call 58;refine(isDigit_any _ _).mono ?_;rintro e w'⟨rfl,rfl⟩)|(go_at_call 61;refine(signLength_any _ _ hp).mono ?_;rintro e w'⟨rfl,rfl⟩))
     go_ret
     exact⟨ret_int (by rw[HT.out,h1,h2,h3];simp[if_neg (show ¬s[0]=39 from u8_ne (n:=39) (by omega) h4)]),rfl⟩
    ·have h5:s[0]=39:=by
      rw[beq_iff_eq]at h4
      exact UInt8.toNat_inj.1 (by rw[show (39:UInt8).toNat=39 from rfl];omega)
     have H5:Hid (s[0]=39):=h5
     clear h5
     go_enter func27,ntmps27
     go_wp2_with (first|(go_at_call 53;refine(isSmall_any _ _).mono ?_;rintro e w'⟨rfl,rfl⟩)|(go_at_call 55;refine(isGreat_any _ _).mono ?_;rintro e w'⟨rfl,rfl⟩)|(go_at_call 58;refine(isDigit_any _ _).mono ?_;rintro e w'⟨rfl,rfl⟩)|(go_at_call 60;refine(letterLength_any _ _ hs hp).mono ?_;rintro e w'⟨rfl,rfl⟩))
     go_ret
     exact⟨ret_int (by rw[HT.out,h1,h2,h3];simp[H5.out]),rfl⟩
   ·go_enter func27,ntmps27
    go_wp2_with (first|(go_at_call 53;refine(isSmall_any _ _).mono ?_;rintro e w'⟨rfl,rfl⟩)|(go_at_call 55;refine(isGreat_any _ _).mono ?_;rintro e w'⟨rfl,rfl⟩)|(go_at_call 58;refine(isDigit_any _ _).mono ?_;rintro e w'⟨rfl,rfl⟩)|(go_at_call 59;refine(numberLength_any _ _ hs).mono ?_;rintro e w'⟨rfl,rfl⟩))
    go_ret
    exact⟨ret_int (by rw[HT.out,h1,h2,h3];simp),rfl⟩
  ·go_enter func27,ntmps27
   go_wp2_with (first|(go_at_call 53;refine(isSmall_any _ _).mono ?_;rintro e w'⟨rfl,rfl⟩)|(go_at_call 55;refine(isGreat_any _ _).mono ?_;rintro e w'⟨rfl,rfl⟩)|(go_at_call 56;refine(countWhile_isConstructorByte _ _ hs).mono ?_;rintro e w'⟨rfl,rfl⟩))
   go_ret
   exact⟨ret_int (by rw[HT.out,h1,h2];simp),rfl⟩
 ·go_enter func27,ntmps27
  go_wp2_with (first|(go_at_call 53;refine(isSmall_any _ _).mono ?_;rintro e w'⟨rfl,rfl⟩)|(go_at_call 54;refine(nameLength_any _ _ hs).mono ?_;rintro e w'⟨rfl,rfl⟩))
  go_ret
  exact⟨ret_int (by rw[HT.out,h1];simp),rfl⟩
theorem Tryz.infoStr:(prog.info? 9).map (fun i=>(i.zero,i.size,i.bytes))=some (some (.string ByteArray.empty),1,16):=by kernel_rfl
theorem Clone_any(s:ByteArray)(w:World)(hs:s.size<=281474976710656) :
  Calls prog 28 #[.string s] w fun e w'=>e=.returned (.string s)/\Below w.heap.size w w':=by
 go_enter func28,ntmps28
 go_wp2_with (go_at_call 62;refine(Tryz.stringslite_Clone _ _ hs).mono ?_;rintro e w'⟨rfl,hb⟩)
 go_ret
 exact⟨rfl,hb⟩
theorem Cut_any(s:ByteArray)(w:World)(hs:s.size<=maxLen) :
  Calls prog 16 #[.string s] w fun e w'=>∃v,e=.returned (.tuple #[v,.int .i64 (cutL s.data.toList).2.1,.int .i64 (cutL s.data.toList).2.2]) /\
   w'.ownsRow w.heap.size 9 1 v (cutL s.data.toList).1.length ((cutL s.data.toList).1.map strV)/\Below w.heap.size w w':=by
 have hs':s.size<=9223372036854775807:=hs
 by_cases hbig:4000<s.size
 ·have hR:cutL s.data.toList=([],0,1):=by
   unfold cutL;rw[if_pos (show 4000<s.data.toList.length from hbig)]
  rw[hR]
  go_enter func16,ntmps16
  go_wp2
  go_ret3
  exact⟨_,rfl,World.ownsRow_nil _ _ _ _,Below.refl _ _⟩
 ·have hR:cutL s.data.toList=cutF (s.data.toList.length+1) s.data.toList 0 []:=by
   unfold cutL;rw[if_neg (show ¬4000<s.data.toList.length from hbig)]
  have hst:=atHead_start s.data.toList
  rw[<- hR]at hst
  have hgl:=gap_le false s.data.toList
  have hc0:∀wx,Calls prog 26 #[.string s] wx fun e w'=>e=.returned (.int .i64 (gap false s.data.toList))/\w'=wx:=fun wx=>gapLength_any s wx hs
  have hgl':gap false s.data.toList<=s.size:=hgl
  clear hgl hR
  generalize cutL s.data.toList=R at *
  generalize gap false s.data.toList=G0 at *
  have HC0:Hid (∀wx,Calls prog 26 #[.string s] wx fun e w'=>e=.returned (.int .i64 G0)/\w'=wx):=hc0
  have HST:Hid (AtHead s.data.toList R G0 []):=hst
  clear hc0 hst
  obtain⟨i0,hi,hz0,hz1,hz2⟩:=info_parts Tryz.infoStr
  have hb4:decide ((4000:Int)<s.size)=false:=by simp;omega
  go_enter func16,ntmps16
  go_wp2_with (go_at_call 26;refine(HC0.out _).mono ?_;rintro e w'⟨rfl,hw'⟩;subst w')
  go_loopw [5,6] (fun v i wr=>∃(k:Nat) (toks:List (List UInt8)),k<=s.size/\i=.int .i64 k/\toks.length<=k/\wr.ownsRow w.heap.size 9 1 v toks.length (toks.map strV)/\Below w.heap.size w wr/\Hid (AtHead s.data.toList R k toks))
   (fun _ i _=>s.size-(intOf i).toNat)
  case atStart=>exact⟨G0,[],hgl',rfl,zero_le _,World.ownsRow_nil _ _ _ _,Below.refl _ _,HST⟩
  case round=>
   obtain⟨k,toks,hk,rfl,htl,hown,hbel,H⟩:=hrel
   by_cases hlt:k<s.size
   ·have hlt':k<s.data.toList.length:=hlt
    have hc1:∀wx,Calls prog 27 #[.string (s.extract k s.size)] wx fun e w'=>e=.returned (.int .i64 (tokLen (s.data.toList.drop k)))/\w'=wx:=fun wx=>by
     have:=tokenLength_any (s.extract k s.size) wx (by simp;omega) (by simp;omega)
     rw[Lib.extract_to_end]at this;exact this
    have hT:=tokLen_le (s.data.toList.drop k)
    have hTs:tokLen (s.data.toList.drop k)<=s.size-k:=by simpa using hT
    clear hT
    by_cases ht:tokLen (s.data.toList.drop k)=0
    ·have hR:=atHead_bad H.out hlt' ht
     rw[ht]at hc1
     have HC1:Hid (∀wx,Calls prog 27 #[.string (s.extract k s.size)] wx fun e w'=>e=.returned (.int .i64 0)/\w'=wx):=hc1
     have HR:Hid (R=([],k,2)):=hR
     clear hc1 hR hlt' ht hTs
     go_wp2_with (go_at_call 27;refine(HC1.out _).mono ?_;rintro e w'⟨rfl,hw'⟩;subst w')
     go_ret3
     rw[HR.out]
     exact⟨_,rfl,World.ownsRow_nil _ _ _ _,hbel⟩
    ·have hA:=atHead_tok H.out hlt' ht
     have hc3:∀wx,Calls prog 26 #[.string (s.extract (k+tokLen (s.data.toList.drop k)) s.size)] wx fun e w'=>e=.returned (.int .i64 (gap false (s.data.toList.drop (k+tokLen (s.data.toList.drop k)))))/\w'=wx:=fun wx=>by
      have:=gapLength_any (s.extract (k+tokLen (s.data.toList.drop k)) s.size) wx (by simp;omega)
      rw[Lib.extract_to_end]at this;exact this
     have hG:=gap_le false (s.data.toList.drop (k+tokLen (s.data.toList.drop k)))
     rw[List.length_drop,show s.data.toList.length=s.size from rfl]at hG
     have hst:=bs_extract s k (k+tokLen (s.data.toList.drop k))
     rw[Nat.add_sub_cancel_left]at hst
     generalize gap false (s.data.toList.drop (k+tokLen (s.data.toList.drop k)))=G at *
     generalize (s.data.toList.drop k).take (tokLen (s.data.toList.drop k))=tk at *
     generalize tokLen (s.data.toList.drop k)=T at *
     have HC1:Hid (∀wx,Calls prog 27 #[.string (s.extract k s.size)] wx fun e w'=>e=.returned (.int .i64 T)/\w'=wx):=hc1
     have HC3:Hid (∀wx,Calls prog 26 #[.string (s.extract (k+T) s.size)] wx fun e w'=>e=.returned (.int .i64 G)/\w'=wx):=hc3
     have HA:Hid (AtHead s.data.toList R (k+T+G) (toks++[tk])):=hA
     have HS:Hid (s.extract k (k+T)=bs tk):=hst
     have hcl:(s.extract k (k+T)).size<=281474976710656:=by simp;omega
     have hb0:((T:Int)==0)=false:=by simp[ht]
     clear hc1 hc3 hA hst hlt'
     go_wp2_with fail
     refine(HC1.out _).mono ?_;rintro e w'⟨rfl,hw'⟩;subst w'
     go_wp2_with fail
     refine(Clone_any _ _ hcl).mono ?_;rintro e w1⟨rfl,hb1⟩
     have hown1:=ownsRow_below hown hb1
     have hbel1:Below w.heap.size w w1:=hbel.trans (hb1.mono hbel.size)
     clear hown hbel hb1
     go_wp2_with (at_builtin;refine wpList_append_own _ rfl _ _ 22 rfl w.heap.size 9 i0 (.string ByteArray.empty) 1 16 underlying22 hi hz0 hz1 hz2 rfl (by decide) _ _ _ rfl (hown1.alloc _) ⟨w1.heap.size,0,none⟩ 1 1 [.string (s.extract k (k+T))] rfl rfl ?c1 ?c2 ?c3 ?c4 ?c5 ?_)
     case c1=>exact cell_one_new _ _ _
     case c2=>intro u hu;simp at hu;subst hu;rfl
     case c3=>unfold maxLen;omega
     case c4=>omega
     case c5=>have:=hbel1.size;simp;omega
     ·intro v' w2 hown' hgrow _
      have hbel2:Below w.heap.size w w2:=(hbel1.alloc hbel1.size _).grown hgrow (by have:=hbel1.size;simp;omega) (fun g hg=>(hown1.lt g hg).1)
      have hown2:w2.ownsRow w.heap.size 9 1 v' (toks++[tk]).length ((toks++[tk]).map strV):=by
       rw[length_append,map_append]
       rw[HS.out]at hown'
       exact hown'
      clear hown' hgrow hown1 hbel1
      go_wp2_with (go_at_call 26;refine(HC3.out _).mono ?_;rintro e w'⟨rfl,hw'⟩;subst w')
      go_roundw
      case rel=>exact⟨k+T+G,toks++[tk],by omega,by go_num,by simp;omega,hown2,hbel2,HA⟩
      case measure=>simp[intOf];omega
   ·have hR:=atHead_end H.out (show s.size<=k by omega)
    have HR:Hid (R=(toks,0,0)):=hR
    clear hR
    go_wp2
    go_ret3
    rw[HR.out]
    exact⟨_,rfl,hown,hbel⟩
theorem run_append_str{w:World}{base:Nat}{v:Value}{ns:Toks}{ty:TypeId}(k:List UInt8)(hown:w.ownsRow base tyStr 1 v ns.length (ns.map strV))(hn:ns.length<=100000000)(hb:base<=w.heap.size) :
  ∃v' w',(Builtin.append_ #[22,22] ty #[v,.slice (some ⟨w.heap.size,0,none⟩) 1 1]).run prog (w.alloc (.cells #[.string (bs k)] tyStr))=.ok v' w' /\
   w'.ownsRow base tyStr 1 v' (ns++[k]).length ((ns++[k]).map strV)/\(w.alloc (.cells #[.string (bs k)] tyStr)).grownBy w' v.ownBlock/\(∀g,v'.ownBlock=some g->v.ownBlock=some g\/w.heap.size<g)/\∃g cap,v'=.slice (some ⟨g,0,none⟩) (ns++[k]).length cap:=by
 obtain⟨i0,hi,hz0,hz1,hz2⟩:=info_parts Tryz.infoStr
 have hown1:=hown.alloc (.cells #[.string (bs k)] tyStr)
 have hnews:∀j u,[Value.string (bs k)][j]?=some u->(w.alloc (.cells #[.string (bs k)] tyStr)).cell? ((⟨w.heap.size,0,none⟩:Addr).add j)=some u:=fun j u hj=>cell_new rfl (by simpa using hj)
 have h1:∀u∈[Value.string (bs k)],u.oneCell'=true:=by intro u hu;simp at hu;subst hu;rfl
 obtain⟨v',w',hr,ho',hg',_⟩:=run_append_own (P:=prog) (w.alloc (.cells #[.string (bs k)] tyStr)) base 22 ty tyStr i0 (.string ByteArray.empty) 1 16 underlying22 hi hz0 hz1 hz2 rfl (by decide) v ns.length (ns.map strV) hown1 ⟨w.heap.size,0,none⟩ 1 1 [.string (bs k)] rfl hnews h1 (by unfold maxLen;omega) (by omega) (by simp;omega)
 have ho2:w'.ownsRow base tyStr 1 v' (ns++[k]).length ((ns++[k]).map strV):=by
  rw[length_append,map_append];exact ho'
 refine⟨v',w',hr,ho2,hg',?_,?_⟩
 ·intro g hgv
  rcases hown1.2 with⟨rfl,hn0⟩|⟨g0,cap,cur,rfl,hbg,hg,hnc,hcm,hcs,htake⟩
  ·have h:=run_append_nil (P:=prog) (w.alloc (.cells #[.string (bs k)] tyStr)) 22 ty tyStr i0 (.string ByteArray.empty) underlying22 hi hz0 ⟨w.heap.size,0,none⟩ 1 1 [.string (bs k)] (by rw[hz1];rfl) hnews (by omega) (by omega) (by rw[hz2];omega)
   rw[hr]at h
   simp only[Result.ok.injEq]at h
   rw[h.1]at hgv
   simp[Value.ownBlock]at hgv
   omega
  ·by_cases hroom:ns.length+1<=cap
   ·have h:=run_append_room (P:=prog) (w.alloc (.cells #[.string (bs k)] tyStr)) 22 ty tyStr i0 underlying22 hi g0 ns.length cap cur hg ⟨w.heap.size,0,none⟩ 1 1 [.string (bs k)] (by rw[hz1];rfl) hnews h1 hroom (by rw[hcs,hz1];simp only[length_cons,length_nil];omega)
    rw[hr]at h
    simp only[Result.ok.injEq]at h
    rw[h.1]at hgv
    exact inl hgv
   ·have h:=run_append_grow (P:=prog) (w.alloc (.cells #[.string (bs k)] tyStr)) 22 ty tyStr i0 (.string ByteArray.empty) underlying22 hi hz0 ⟨g0,0,none⟩ ns.length cap (ns.map strV) (by rw[hz1];exact hown.1) (hown1.cells (g:=g0) rfl) ⟨w.heap.size,0,none⟩ 1 1 [.string (bs k)] (by rw[hz1];rfl) hnews (by omega) (by omega) (growslice_fits (by omega) (by rw[hz2];omega))
    rw[hr]at h
    simp only[Result.ok.injEq]at h
    rw[h.1]at hgv
    simp[Value.ownBlock]at hgv
    omega
 ·rcases ownsRow_forms ho2 with⟨_,hn0⟩|h
  ·simp at hn0
  ·exact h
theorem append_str{ops:Array Oper}{rest:List Oper}{o:Oper}{a:Act}{Q:Exit->Act->World->Prop}{w:World}(hgd:o.guard=none)(s x:Operand)
  (ho:o.op=.call { callee:=.builtin .append,args:=#[s,x],argTypes:=#[22,22] }) {base:Nat}{v:Value}{ns:Toks} (k:List UInt8)
  (hown:w.ownsRow base tyStr 1 v ns.length (ns.map strV)) (hn:ns.length<=100000000) (hb:base<=w.heap.size) (hs:a.eval s=v) (hx:a.eval x=.slice (some ⟨w.heap.size,0,none⟩) 1 1)
  (h:∀v' w',w'.ownsRow base tyStr 1 v' (ns++[k]).length ((ns++[k]).map strV)->(w.alloc (.cells #[.string (bs k)] tyStr)).grownBy w' v.ownBlock->Hid (∀g,v'.ownBlock=some g->v.ownBlock=some g\/w.heap.size<g)->wpList prog ops Q rest (a.put o.dst v') w') :
  wpList prog ops Q (o::rest) a (w.alloc (.cells #[.string (bs k)] tyStr)):=by
 obtain⟨v',w',hr,h2,h3,h4,_⟩:=run_append_str (ty:=o.type) k hown hn hb
 refine wpList_plain hgd fun K hK=>?_
 unfold Oper.wp execOp
 simp only[ho,resolve,invoke,builtin,Sem.run_bind,Sem.run_pure,Result.andThen_ok,List.map_toArray,map_cons,List.map_nil,hs,hx,hr]
 exact hK _ _ (h v' w' h2 h3 h4)
structure RqT(rb tb:Nat)(ts:Toks)(w:World):Prop where
 len:ts.length<=4000
 toks:∀t∈ts,Tok t/\t≠[]
 own:∃(o cap:Nat) (cs:Array Value),w.heap[rb]?=some (.cells #[.slice (some ⟨tb,o,none⟩) ts.length cap] tyRdr (0,0))/\w.heap[tb]?=some (.cells cs tyStr (0,0))/\ts.length<=cap/\cap<=9223372036854775807/\∀i t,ts[i]?=some t->cs[o+i]?=some (strV t)
theorem RqT.rq{rb tb:Nat}{ts:Toks}{w:World}(h:RqT rb tb ts w):Rq rb ts w:=by
 obtain⟨o,cap,cs,r⟩:=h.own
 exact⟨h.len,h.toks,tb,o,cap,cs,r⟩
theorem Rq.tb{rb:Nat}{ts:Toks}{w:World}(h:Rq rb ts w):∃tb,tb<w.heap.size/\RqT rb tb ts w:=by
 obtain⟨tb,o,cap,cs,h1,h2,r⟩:=h.own
 exact⟨tb,lt_of_heap h2,h.len,h.toks,o,cap,cs,h1,h2,r⟩
theorem RqT.more{rb tb:Nat}{t:List UInt8}{ts:Toks}{w:World}(h:RqT rb tb (t::ts) w):rb<w.heap.size/\(∃o cap,w.cell? ⟨rb,0,none⟩=some (.slice (some ⟨tb,o,none⟩) (ts.length+1) cap)/\w.cell? ⟨tb,o,none⟩=some (.string (bs t))/\tb<w.heap.size/\ts.length+1<=cap/\cap<=9223372036854775807 /\
  ∀o2,(cap=1\/o2=o+1)->RqT rb tb ts (w.setCell ⟨rb,0,none⟩ (.slice (some ⟨tb,o2,none⟩) ts.length (cap-1))))/\w.frozen? ⟨rb,0,none⟩=false:=by
 obtain⟨o,cap,cs,hb,ht,h1,h2,h3⟩:=h.own
 have hl:=lt_of_heap hb
 have hne:tb≠rb:=by
  intro e;subst e
  rw[hb]at ht;simp at ht;exact absurd ht.2 (by decide)
 refine⟨hl,⟨o,cap,by simp[World.cell?,hb],?_,lt_of_heap ht,h1,h2,fun o2 ho=>?_⟩,by simp[World.frozen?,hb]⟩
 ·have:=h3 0 t rfl
  simp[World.cell?,ht]
  simpa [strV]using this
 ·refine⟨by have:=h.len;rw[length_cons]at this;omega,fun x hx=>h.toks x (mem_cons_of_mem _ hx),o2,cap-1,cs,?_,?_,by rw[length_cons]at h1;omega,by omega,?_⟩
  ·simp only[World.setCell,Array.getElem?_modify,if_pos,hb,Option.map_some,Option.isSome_none,Bool.false_eq_true,if_false]
   simp
  ·rw[Below.heap_setCell _ _ _ _ hne];exact ht
  ·intro i x hi
   rcases ho with ho|rfl
   ·exfalso
    have:ts=[]:=List.length_eq_zero_iff.1 (by rw[length_cons]at h1;omega)
    subst this
    simp at hi
   ·have:=h3 (i+1) x (by simpa using hi)
    rw[<- this];congr 1;omega
theorem take_T{rb tb:Nat}{t:List UInt8}{r:Toks}{w:World}(h:RqT rb tb (t::r) w):Calls prog 63 #[ptrV rb] w fun e w'=>e=.returned (.string (bs t))/\Hid (Kq rb w w'/\RqT rb tb r w'):=by
 obtain⟨hl,⟨o,cap,c0,c1,hl2,hc,hc2,hR⟩,hf⟩:=h.more
 have hcap:=h.len
 rw[length_cons]at hcap
 have hfin:∀w',Kq rb w w'->RqT rb tb r w'->(fun(e:Ending) (w':World)=>e=.returned (.string (bs t))/\Hid (Kq rb w w'/\RqT rb tb r w')) (.returned (.string (bs t))) w':=fun w' h1 h2=>⟨rfl,h1,h2⟩
 have HR:=hide hR
 have HF:=hide hfin
 clear h hR hfin
 unfold ptrV
 generalize (fun(e:Ending) (w':World)=>e=.returned (.string (bs t))/\Hid (Kq rb w w'/\RqT rb tb r w'))=Q at *
 generalize bs t=tx at *
 generalize hn:r.length=n at *
 have hd:((n:Int)+1==0)=false:=by simp;omega
 have hd2:¬((n:Int)+1=0):=by omega
 by_cases hc1:cap=1
 ·subst hc1
  obtain rfl:n=0:=by omega
  go_enter func63,ntmps63
  go_wp2
  exact HF.out _ ((Kq.refl _ _).setR _ _) (HR.out _ (inl trivial))
 ·go_enter func63,ntmps63
  go_wp2
  exact HF.out _ ((Kq.refl _ _).setR _ _) (HR.out _ (inr rfl))
def NamesAt(rb tb:Nat)(w:World)(ts:Toks)(gk:Nat)(v:Value)(wr:World):Prop:=
 ∃acc ts1,wr.ownsRow w.heap.size tyStr 1 v acc.length (acc.map strV)/\Kq rb w wr/\RqT rb tb ts1 wr/\gk=ts1.length/\acc.length+ts1.length<=ts.length/\acc++(G.every 110 ts1).1=(G.every 110 ts).1/\(G.every 110 ts1).2=(G.every 110 ts).2
def AnsNs(rb:Nat)(ts:Toks)(w:World)(e:Ending)(w':World):Prop:=
 ∃v,e=.returned v/\Kq rb w w'/\w'.ownsRow w.heap.size tyStr 1 v (G.every 110 ts).1.length ((G.every 110 ts).1.map strV)/\Rq rb (G.every 110 ts).2 w'/\(G.every 110 ts).1.length<=4000
def AnsNsT(rb tb:Nat)(ts:Toks)(w:World)(e:Ending)(w':World):Prop:=
 ∃v,e=.returned v/\Kq rb w w'/\w'.ownsRow w.heap.size tyStr 1 v (G.every 110 ts).1.length ((G.every 110 ts).1.map strV)/\RqT rb tb (G.every 110 ts).2 w'/\(G.every 110 ts).1.length<=4000
theorem p_namesT{rb tb:Nat}(ts:Toks)(w:World)(htb:tb<w.heap.size)(hT:RqT rb tb ts w):Calls prog 101 #[ptrV rb] w (AnsNsT rb tb ts w):=by
 have hlen:=hT.len
 have HAt:Hid (NamesAt rb tb w ts ts.length (.slice none 0 0) w):=⟨[],ts,World.ownsRow_nil _ _ _ _,Kq.refl _ _,hT,rfl,by simp,rfl,rfl⟩
 clear hT
 go_enter func101,ntmps101
 go_wp2_with fail
 go_loopg [3] ts.length (fun gk v wr=>Hid (NamesAt rb tb w ts gk v wr))
 case atStart=>exact HAt
 case round=>
  clear HAt
  obtain⟨acc,ts1,h1,h2,h3,rfl,h5,h6,h7⟩:=hrel.out
  have HP:=hide (peek_any h3.rq)
  have HI:=hide (IsName_tok h3.rq.head wr)
  cases hk:(tokKind (ts1.headD [])==110)
  ·rw[hk]at HI
   have hev:G.every 110 ts1=([],ts1):=by
    cases ts1 with
    |nil=>rfl
    |cons t r=>rw[G.every];rw[show (tokKind t==110)=false from hk]<;>rfl
   rw[hev]at h6 h7
   rw[append_nil]at h6
   have hQ:AnsNsT rb tb ts w (.returned _) wr:=⟨_,rfl,h2,by rw[<- h6];exact h1,by rw[<- h7];exact h3,by rw[<- h6];omega⟩
   have HQ:=hide hQ
   clear hrel h1 h2 h3 h5 h6 h7 hev hk hQ
   generalize bs (ts1.headD [])=bx at *
   go_wp2_with fail
   refine(HP.out).mono ?_;rintro e wp⟨rfl,hw⟩
   rw[hw];clear hw wp
   go_wp2_with fail
   refine(HI.out).mono ?_;rintro e wp⟨rfl,hw⟩
   rw[hw];clear hw wp
   go_wp2_with fail
   go_ret
   exact HQ.out
  ·obtain⟨t,r,rfl⟩:=kind_cons (ts:=ts1) (k:=110) (by decide) hk
   rw[hk]at HI
   have hev:G.every 110 (t::r)=(t::(G.every 110 r).1,(G.every 110 r).2):=by rw[G.every,show (tokKind t==110)=true from hk]<;>rfl
   rw[hev]at h6 h7
   rw[show (t::r).headD []=t from rfl]at HP HI
   have HT:=hide (take_T h3)
   have hacc:acc.length<=100000000:=by rw[length_cons]at h5;omega
   have H1:=hide h1
   have H2:=hide h2
   have H5:=hide h5
   have H6:=hide h6
   have H7:=hide h7
   have HR:=hide h3.rq
   clear hrel h1 h2 h3 h5 h6 h7 hev hk
   go_wp2_with fail
   refine(HP.out).mono ?_;rintro e wp⟨rfl,hw⟩
   rw[hw];clear hw wp
   go_wp2_with fail
   refine(HI.out).mono ?_;rintro e wp⟨rfl,hw⟩
   rw[hw];clear hw wp
   go_wp2_with fail
   refine(HT.out).mono ?_;rintro e w3⟨rfl,hT⟩
   have hown3:=ownsRow_kept (w':=w3) H1.out fun k c f _ he=>kq_other (by decide) HR.out.isR hT.out.1 he
   have hsz:w.heap.size<=w3.heap.size:=(H2.out.to hT.out.1).size
   clear HP HI HT HR
   go_wp2_with (at_builtin;refine append_str rfl _ _ rfl t hown3 hacc hsz rfl rfl ?_)
   intro v4 w4 hown4 hgr HLt
   have hown5:w4.ownsRow w.heap.size tyStr 1 v4 (acc++[t]).length ((acc++[t]).map strV):=by
    rw[length_append,map_append];exact hown4
   have hkg:=((H2.out.to hT.out.1).alloc _).grownOwn hgr (fun g hg=>(hown3.lt g hg).1)
   have hR4:RqT rb tb r w4:=by
    obtain⟨o,cap,cs,e1,e2,e3⟩:=hT.out.2.own
    have hrb:rb<w3.heap.size:=lt_of_heap e1
    refine⟨hT.out.2.len,hT.out.2.toks,o,cap,cs,?_,?_,e3⟩
    ·rw[hgr.block rb (by simp;omega) (fun e=>?_),Below.heap_alloc _ _ _ hrb]
     ·exact e1
     ·rcases hown3.2 with⟨rfl,_⟩|⟨g2,cap2,cur,rfl,_,hgg,_⟩
      ·simp[Value.ownBlock]at e
      ·have e:rb=g2:=by simpa [Value.ownBlock]using e
       subst e
       rw[e1]at hgg;simp at hgg
       exact absurd hgg.2 (by decide)
    ·rw[hgr.block tb (by simp;omega) (fun e=>?_),Below.heap_alloc _ _ _ (by omega)]
     ·exact e2
     ·have:=(hown3.lt tb e.symm).1;omega
   have HAt:Hid (NamesAt rb tb w ts r.length v4 w4):=by
    refine⟨acc++[t],r,hown5,hkg,hR4,rfl,?_,?_,H7.out⟩
    ·have:=H5.out;simp only[length_append,length_cons,length_nil]at *;omega
    ·rw[append_assoc];exact H6.out
   obtain⟨g',cap',rfl⟩:∃g' cap',v4=.slice (some ⟨g',0,none⟩) (acc++[t]).length cap':=by
    rcases ownsRow_forms hown5 with⟨_,hn0⟩|h
    ·simp at hn0
    ·exact h
   clear hown3 hown4 hown5 hgr HLt hkg hR4 H1 H2 H5 H6 H7 hT
   go_wp2_with fail
   go_roundg r.length
   case rel=>exact HAt
   case measure=>simp
theorem p_names{rb:Nat}(ts:Toks)(w:World)(h:Rq rb ts w):Calls prog 101 #[ptrV rb] w (AnsNs rb ts w):=by
 obtain⟨tb,htb,hT⟩:=h.tb
 refine(p_namesT ts w htb hT).mono ?_
 rintro e w'⟨v,h1,h2,h3,h4,h5⟩
 exact⟨v,h1,h2,h3,h4.rq,h5⟩
end Go.Proofs.YtcbppnefeonmgaaGreatDoor
