import Derived.Shelf.Strings.Builder1
import Derived.Shelf.Strings.Trim
import Derived.Shelf.Small.Utf8
import Derived.Shelf.Small.Bits
import Derived.Shelf.Small.Strs
import Derived.Shelf.Strings.BuilderF
import Derived.Shelf.Strings.BuilderK
import Derived.Shelf.Strconv.Itoa0
import Derived.Shelf.Strconv.Itoa1
import Derived.Shelf.LaysM
import Derived.Shelf.Strconv.Itoa2
import Derived.Shelf.Strconv.Itoa3
import Derived.Shelf.Strconv.ParseIntEmpty
import Derived.Shelf.Strconv.Clone
import Derived.Shelf.Strconv.SyntaxError
import Derived.Shelf.LaysC
import Derived.Shelf.Strconv.ToError
import Derived.Shelf.Strconv.Lower
import Derived.Shelf.Strconv.ParseUint10
import Derived.Shelf.Strconv.ParseUint10Empty
import Derived.Shelf.Strconv.ParseUint10Any
import Derived.Shelf.Strconv.ParseInt10
import Derived.Shelf.Strconv.RangeError
import Derived.Shelf.Strconv.ToErrorRange
import Derived.Shelf.Strconv.ParseUintEmpty
import Derived.Shelf.Strconv.ParseUint10b64
import Derived.Shelf.Strconv.ParseUint10b32
import Derived.Shelf.Strconv.ParseUint10b16
import Derived.Shelf.Strconv.ParseUint10b8
import Derived.Shelf.Strconv.ParseUint10At
import Derived.Shelf.Strconv.ParseInt10At64
import Derived.Shelf.Strconv.ParseInt10At32
import Derived.Shelf.Strconv.ParseInt10At16
import Derived.Shelf.Strconv.ParseInt10At8
import Derived.Shelf.Strconv.ParseInt10All
import Derived.Shelf.Strconv.ParseIntPublic10
import Derived.Shelf.Strconv.ErrVarParseInt
import Derived.Shelf.Strings.Search1
import Derived.Shelf.Sort.Plain
import Derived.Shelf.Strings.Prefix
import Derived.Shelf.Unicode.Decode
import Derived.Shelf.Strings.Runes
import Derived.Shelf.Strings.AsciiSet
import Derived.Shelf.Unicode.DecodeSlow
import Derived.Shelf.Unicode.DecodeAny
import Derived.Shelf.Strings.BuilderCap
import Derived.Shelf.Slices.Turned
import Derived.Shelf.Slices.CompactS
import Derived.Shelf.Slices.Cells
import Derived.Shelf.Slices.In.SortNone
import Derived.Test.YtbkiipiocpnnnaaGreatDoorProg
import Derived.Test.YtbkiipiocpnnnaaGreatDoorC1
import Derived.Lib.IndexBytes
import Derived.Deep.QuietTactic
import Derived.BigQuiet
import Derived.Deep.LoopGhost
set_option linter.all false
set_option maxHeartbeats 40000000
set_option maxRecDepth 100000
open Go.Proofs.Tryz
open Nat (zero_le)
namespace Go.Proofs
open Go.Shelf
def Tryz.lays161_ren:Go.Shelf.Ren:=⟨fun|161=>308|231=>310|227=>311|233=>312|235=>313|228=>314|197=>315|151=>316|260=>317|152=>318|137=>117|119=>319|224=>320|225=>321|217=>167|266=>228|n=>n,fun|9=>9|4=>4|3=>3|5=>5|117=>305|116=>304|0=>0|124=>308|105=>309|21=>21|119=>313|46=>254|139=>316|138=>315|n=>n,fun|3=>6|4=>7|n=>n⟩
theorem Tryz.lays161:Go.Proofs.Lays.n161 prog Tryz.lays161_ren:={
 mixed:=by kernel_rfl
 f119:=func319.trans (congrArg some (by kernel_rfl))
 f137:=func117.trans (congrArg some (by kernel_rfl))
 f151:=func316.trans (congrArg some (by kernel_rfl))
 f152:=func318.trans (congrArg some (by kernel_rfl))
 f161:=func308.trans (congrArg some (by kernel_rfl))
 f197:=func315.trans (congrArg some (by kernel_rfl))
 f217:=func167.trans (congrArg some (by kernel_rfl))
 f224:=func320.trans (congrArg some (by kernel_rfl))
 f225:=func321.trans (congrArg some (by kernel_rfl))
 f227:=func311.trans (congrArg some (by kernel_rfl))
 f228:=func314.trans (congrArg some (by kernel_rfl))
 f231:=func310.trans (congrArg some (by kernel_rfl))
 f233:=func312.trans (congrArg some (by kernel_rfl))
 f235:=func313.trans (congrArg some (by kernel_rfl))
 f260:=func317.trans (congrArg some (by kernel_rfl))
 f266:=func228.trans (congrArg some (by kernel_rfl))
 t0:=underlying0
 a0:=Tryz.isAgg0
 z0:=Tryz.sizeOf0
 v0:=Tryz.zeroValue0
 t3:=underlying3
 a3:=Tryz.isAgg3
 z3:=Tryz.sizeOf3
 v3:=Tryz.zeroValue3
 t4:=underlying4
 a4:=Tryz.isAgg4
 z4:=Tryz.sizeOf4
 v4:=Tryz.zeroValue4
 t5:=underlying5
 a5:=Tryz.isAgg5
 z5:=Tryz.sizeOf5
 v5:=Tryz.zeroValue5
 t9:=underlying9
 a9:=Tryz.isAgg9
 z9:=Tryz.sizeOf9
 v9:=Tryz.zeroValue9
 t21:=underlying21
 a21:=Tryz.isAgg21
 z21:=Tryz.sizeOf21
 v21:=Tryz.zeroValue21
 t46:=underlying254
 a46:=Tryz.isAgg254
 z46:=Tryz.sizeOf254
 v46:=Tryz.zeroValue254
 t105:=underlying309
 a105:=Tryz.isAgg309
 z105:=Tryz.sizeOf309
 v105:=Tryz.zeroValue309
 t116:=underlying304
 a116:=Tryz.isAgg304
 z116:=Tryz.sizeOf304
 t117:=underlying305
 a117:=Tryz.isAgg305
 z117:=Tryz.sizeOf305
 v117:=Tryz.zeroValue305
 t119:=underlying313
 a119:=Tryz.isAgg313
 z119:=Tryz.sizeOf313
 t124:=underlying308
 a124:=Tryz.isAgg308
 z124:=Tryz.sizeOf308
 v124:=Tryz.zeroValue308
 t138:=underlying315
 a138:=Tryz.isAgg315
 z138:=Tryz.sizeOf315
 v138:=Tryz.zeroValue315
 t139:=underlying316
 a139:=Tryz.isAgg316
 z139:=Tryz.sizeOf316
 v139:=Tryz.zeroValue316
 g3:=by kernel_rfl
 g4:=by kernel_rfl }
open Go.RowKit in
theorem Tryz.strings_TrimLeft_one(s:ByteArray)(c:UInt8)(hc:c.toNat<128)(w:World) :
  Calls prog 308 #[.string s,.string ⟨#[c]⟩] w fun e w'=>e=.returned (.string ⟨(Lib.trimLeftB s.data.toList c).toArray⟩)/\w'=w:=Any.strings_TrimLeft_one Tryz.lays161 s c hc w
def Tryz.lays137_ren:Go.Shelf.Ren:=⟨fun|137=>117|217=>167|266=>228|n=>n,fun|9=>9|5=>5|3=>3|n=>n,fun|n=>n⟩
theorem Tryz.lays137:Go.Proofs.Lays.n137 prog Tryz.lays137_ren:={
 mixed:=by kernel_rfl
 f137:=func117.trans (congrArg some (by kernel_rfl))
 f217:=func167.trans (congrArg some (by kernel_rfl))
 f266:=func228.trans (congrArg some (by kernel_rfl))
 t3:=underlying3
 a3:=Tryz.isAgg3
 z3:=Tryz.sizeOf3
 v3:=Tryz.zeroValue3
 t5:=underlying5
 a5:=Tryz.isAgg5
 z5:=Tryz.sizeOf5
 v5:=Tryz.zeroValue5
 t9:=underlying9
 a9:=Tryz.isAgg9
 z9:=Tryz.sizeOf9
 v9:=Tryz.zeroValue9 }
open Go.RowKit in
theorem Tryz.strings_IndexByte(s:ByteArray)(c:Int)(w:World) :
  Calls prog 117 #[.string s,.int .u8 c] w fun e w'=>e=.returned (.int .i64 (Lib.indexByte s.data.toList c.toNat.toUInt8))/\w'=w:=Any.strings_IndexByte Tryz.lays137 s c w
def Tryz.laysM246_ren:Go.Shelf.Ren:=⟨fun|246=>143|283=>191|284=>192|285=>193|286=>194|129=>248|317=>247|318=>249|319=>250|320=>251|337=>269|338=>270|n=>n,fun|2=>2|3=>3|9=>9|4=>4|171=>225|0=>0|53=>226|37=>31|5=>5|173=>229|212=>250|51=>251|20=>20|213=>252|46=>254|232=>285|233=>286|n=>n,fun|17=>0|18=>4|19=>5|n=>n⟩
def Tryz.laysM243_ren:Go.Shelf.Ren:=⟨fun|243=>101|246=>143|283=>191|284=>192|285=>193|286=>194|129=>248|317=>247|318=>249|319=>250|320=>251|337=>269|338=>270|n=>n,fun|3=>3|9=>9|2=>2|4=>4|171=>225|0=>0|53=>226|37=>31|5=>5|173=>229|212=>250|51=>251|20=>20|213=>252|46=>254|232=>285|233=>286|n=>n,fun|17=>0|18=>4|19=>5|n=>n⟩
def Tryz.laysM171_ren:Go.Shelf.Ren:=⟨fun|171=>66|243=>101|246=>143|283=>191|284=>192|285=>193|286=>194|129=>248|317=>247|318=>249|319=>250|320=>251|337=>269|338=>270|n=>n,fun|3=>3|9=>9|2=>2|4=>4|171=>225|0=>0|53=>226|37=>31|5=>5|173=>229|212=>250|51=>251|20=>20|213=>252|46=>254|232=>285|233=>286|n=>n,fun|17=>0|18=>4|19=>5|n=>n⟩
def Tryz.lays171_ren:Go.Shelf.Ren:=⟨fun|171=>66|243=>101|246=>143|283=>191|284=>192|285=>193|286=>194|129=>248|317=>247|318=>249|319=>250|320=>251|337=>269|338=>270|n=>n,fun|3=>3|9=>9|2=>2|4=>4|171=>225|0=>0|53=>226|37=>31|5=>5|173=>229|212=>250|51=>251|20=>20|213=>252|46=>254|232=>285|233=>286|n=>n,fun|17=>0|18=>4|19=>5|n=>n⟩
theorem Tryz.lays171:Go.Proofs.Lays.n171 prog Tryz.lays171_ren:={
 mixed:=by kernel_rfl
 f129:=func248.trans (congrArg some (by kernel_rfl))
 f171:=func66.trans (congrArg some (by kernel_rfl))
 f243:=func101.trans (congrArg some (by kernel_rfl))
 f246:=func143.trans (congrArg some (by kernel_rfl))
 f283:=func191.trans (congrArg some (by kernel_rfl))
 f284:=func192.trans (congrArg some (by kernel_rfl))
 f285:=func193.trans (congrArg some (by kernel_rfl))
 f286:=func194.trans (congrArg some (by kernel_rfl))
 f317:=func247.trans (congrArg some (by kernel_rfl))
 f318:=func249.trans (congrArg some (by kernel_rfl))
 f319:=func250.trans (congrArg some (by kernel_rfl))
 f320:=func251.trans (congrArg some (by kernel_rfl))
 f337:=func269.trans (congrArg some (by kernel_rfl))
 f338:=func270.trans (congrArg some (by kernel_rfl))
 t0:=underlying0
 a0:=Tryz.isAgg0
 z0:=Tryz.sizeOf0
 v0:=Tryz.zeroValue0
 t2:=underlying2
 a2:=Tryz.isAgg2
 z2:=Tryz.sizeOf2
 v2:=Tryz.zeroValue2
 t3:=underlying3
 a3:=Tryz.isAgg3
 z3:=Tryz.sizeOf3
 v3:=Tryz.zeroValue3
 t4:=underlying4
 a4:=Tryz.isAgg4
 z4:=Tryz.sizeOf4
 v4:=Tryz.zeroValue4
 t5:=underlying5
 a5:=Tryz.isAgg5
 z5:=Tryz.sizeOf5
 v5:=Tryz.zeroValue5
 t9:=underlying9
 a9:=Tryz.isAgg9
 z9:=Tryz.sizeOf9
 v9:=Tryz.zeroValue9
 t20:=underlying20
 a20:=Tryz.isAgg20
 z20:=Tryz.sizeOf20
 v20:=Tryz.zeroValue20
 t37:=underlying31
 a37:=Tryz.isAgg31
 z37:=Tryz.sizeOf31
 v37:=Tryz.zeroValue31
 t46:=underlying254
 a46:=Tryz.isAgg254
 z46:=Tryz.sizeOf254
 v46:=Tryz.zeroValue254
 t51:=underlying251
 a51:=Tryz.isAgg251
 z51:=Tryz.sizeOf251
 v51:=Tryz.zeroValue251
 t53:=underlying226
 a53:=Tryz.isAgg226
 z53:=Tryz.sizeOf226
 v53:=Tryz.zeroValue226
 t171:=underlying225
 a171:=Tryz.isAgg225
 z171:=Tryz.sizeOf225
 v171:=Tryz.zeroValue225
 t173:=underlying229
 a173:=Tryz.isAgg229
 z173:=Tryz.sizeOf229
 v173:=Tryz.zeroValue229
 t212:=underlying250
 a212:=Tryz.isAgg250
 z212:=Tryz.sizeOf250
 v212:=Tryz.zeroValue250
 t213:=underlying252
 a213:=Tryz.isAgg252
 z213:=Tryz.sizeOf252
 t232:=underlying285
 a232:=Tryz.isAgg285
 z232:=Tryz.sizeOf285
 v232:=Tryz.zeroValue285
 t233:=underlying286
 a233:=Tryz.isAgg286
 z233:=Tryz.sizeOf286
 v233:=Tryz.zeroValue286
 g17:=by kernel_rfl
 g18:=by kernel_rfl
 g19:=by kernel_rfl }
open Go.RowKit Go.Sort Go.Lib in
theorem Tryz.strconv_Itoa_small(i:Nat)(hi:i<100)(w:World) :
  Calls prog 66 #[.int .i64 i] w fun e w'=>e=.returned (.string ⟨(Lib.decDigits i).toArray⟩)/\w'=w:=Any.strconv_Itoa_small Tryz.lays171 i hi w
def Tryz.laysM316_ren:Go.Shelf.Ren:=⟨fun|316=>85|n=>n,fun|9=>9|3=>3|4=>4|37=>31|0=>0|127=>97|5=>5|n=>n,fun|n=>n⟩
theorem Tryz.laysM316:Go.Proofs.LaysM.n316 prog Tryz.laysM316_ren:={
 mixed:=by kernel_rfl
 f316:=func85.trans (congrArg some (by kernel_rfl))
 t0:=underlying0
 a0:=Tryz.isAgg0
 z0:=Tryz.sizeOf0
 v0:=Tryz.zeroValue0
 t3:=underlying3
 a3:=Tryz.isAgg3
 z3:=Tryz.sizeOf3
 v3:=Tryz.zeroValue3
 t4:=underlying4
 a4:=Tryz.isAgg4
 z4:=Tryz.sizeOf4
 v4:=Tryz.zeroValue4
 t9:=underlying9
 a9:=Tryz.isAgg9
 z9:=Tryz.sizeOf9
 v9:=Tryz.zeroValue9
 t37:=underlying31
 a37:=Tryz.isAgg31
 z37:=Tryz.sizeOf31
 v37:=Tryz.zeroValue31
 t127:=underlying97
 a127:=Tryz.isAgg97
 z127:=Tryz.sizeOf97
 v127:=Tryz.zeroValue97
 t5:=underlying5
 a5:=Tryz.isAgg5
 z5:=Tryz.sizeOf5
 v5:=Tryz.zeroValue5
 i0:=by kernel_rfl
 i3:=by kernel_rfl
 i4:=by kernel_rfl
 i5:=by kernel_rfl
 i9:=by kernel_rfl
 i37:=by kernel_rfl
 i127:=by kernel_rfl }
open Go.RowKit in
theorem Tryz.stringslite_Clone(s:ByteArray)(w:World)(hlim:s.size<=281474976710656) :
  Calls prog 85 #[.string s] w fun e w'=>e=.returned (.string s)/\Below w.heap.size w w':=Any.stringslite_Clone Tryz.laysM316 s w hlim
def Tryz.laysC245_ren:Go.Shelf.Ren:=⟨fun|245=>196|279=>253|280=>254|281=>255|282=>256|316=>85|171=>66|205=>273|243=>101|246=>143|283=>191|284=>192|285=>193|286=>194|129=>248|317=>247|318=>249|319=>250|320=>251|337=>269|338=>270|n=>n,fun|9=>9|3=>3|75=>87|167=>256|4=>4|168=>259|210=>271|37=>31|0=>0|127=>97|145=>289|143=>287|2=>2|171=>225|53=>226|5=>5|173=>229|212=>250|51=>251|20=>20|213=>252|46=>254|232=>285|233=>286|80=>45|n=>n,fun|15=>2|16=>3|17=>0|18=>4|19=>5|n=>n⟩
def Tryz.laysC174_ren:Go.Shelf.Ren:=⟨fun|174=>144|247=>195|245=>196|287=>252|279=>253|280=>254|281=>255|282=>256|321=>271|322=>272|316=>85|171=>66|205=>273|243=>101|246=>143|283=>191|284=>192|285=>193|286=>194|129=>248|317=>247|318=>249|319=>250|320=>251|337=>269|338=>270|n=>n,fun|9=>9|3=>3|2=>2|75=>87|85=>187|4=>4|167=>256|5=>5|53=>226|175=>257|46=>254|168=>259|37=>31|0=>0|210=>271|21=>21|127=>97|145=>289|143=>287|171=>225|173=>229|212=>250|51=>251|20=>20|213=>252|232=>285|233=>286|80=>45|n=>n,fun|15=>2|16=>3|17=>0|18=>4|19=>5|n=>n⟩
theorem Tryz.laysC174:Go.Proofs.LaysC.n174 prog Tryz.laysC174_ren:={
 mixed:=by kernel_rfl
 f129:=func248.trans (congrArg some (by kernel_rfl))
 f171:=func66.trans (congrArg some (by kernel_rfl))
 f174:=func144.trans (congrArg some (by kernel_rfl))
 f205:=func273.trans (congrArg some (by kernel_rfl))
 f243:=func101.trans (congrArg some (by kernel_rfl))
 f245:=func196.trans (congrArg some (by kernel_rfl))
 f246:=func143.trans (congrArg some (by kernel_rfl))
 f247:=func195.trans (congrArg some (by kernel_rfl))
 f279:=func253.trans (congrArg some (by kernel_rfl))
 f280:=func254.trans (congrArg some (by kernel_rfl))
 f281:=func255.trans (congrArg some (by kernel_rfl))
 f282:=func256.trans (congrArg some (by kernel_rfl))
 f283:=func191.trans (congrArg some (by kernel_rfl))
 f284:=func192.trans (congrArg some (by kernel_rfl))
 f285:=func193.trans (congrArg some (by kernel_rfl))
 f286:=func194.trans (congrArg some (by kernel_rfl))
 f287:=func252.trans (congrArg some (by kernel_rfl))
 f316:=func85.trans (congrArg some (by kernel_rfl))
 f317:=func247.trans (congrArg some (by kernel_rfl))
 f318:=func249.trans (congrArg some (by kernel_rfl))
 f319:=func250.trans (congrArg some (by kernel_rfl))
 f320:=func251.trans (congrArg some (by kernel_rfl))
 f321:=func271.trans (congrArg some (by kernel_rfl))
 f322:=func272.trans (congrArg some (by kernel_rfl))
 f337:=func269.trans (congrArg some (by kernel_rfl))
 f338:=func270.trans (congrArg some (by kernel_rfl))
 t0:=underlying0
 a0:=Tryz.isAgg0
 z0:=Tryz.sizeOf0
 v0:=Tryz.zeroValue0
 t2:=underlying2
 a2:=Tryz.isAgg2
 z2:=Tryz.sizeOf2
 v2:=Tryz.zeroValue2
 t3:=underlying3
 a3:=Tryz.isAgg3
 z3:=Tryz.sizeOf3
 v3:=Tryz.zeroValue3
 t4:=underlying4
 a4:=Tryz.isAgg4
 z4:=Tryz.sizeOf4
 v4:=Tryz.zeroValue4
 t5:=underlying5
 a5:=Tryz.isAgg5
 z5:=Tryz.sizeOf5
 v5:=Tryz.zeroValue5
 t9:=underlying9
 a9:=Tryz.isAgg9
 z9:=Tryz.sizeOf9
 v9:=Tryz.zeroValue9
 t20:=underlying20
 a20:=Tryz.isAgg20
 z20:=Tryz.sizeOf20
 v20:=Tryz.zeroValue20
 t21:=underlying21
 a21:=Tryz.isAgg21
 z21:=Tryz.sizeOf21
 v21:=Tryz.zeroValue21
 t37:=underlying31
 a37:=Tryz.isAgg31
 z37:=Tryz.sizeOf31
 v37:=Tryz.zeroValue31
 t46:=underlying254
 a46:=Tryz.isAgg254
 z46:=Tryz.sizeOf254
 v46:=Tryz.zeroValue254
 t51:=underlying251
 a51:=Tryz.isAgg251
 z51:=Tryz.sizeOf251
 v51:=Tryz.zeroValue251
 t53:=underlying226
 a53:=Tryz.isAgg226
 z53:=Tryz.sizeOf226
 v53:=Tryz.zeroValue226
 t75:=underlying87
 a75:=Tryz.isAgg87
 z75:=Tryz.sizeOf87
 v75:=Tryz.zeroValue87
 t85:=underlying187
 a85:=Tryz.isAgg187
 z85:=Tryz.sizeOf187
 v85:=Tryz.zeroValue187
 t127:=underlying97
 a127:=Tryz.isAgg97
 z127:=Tryz.sizeOf97
 v127:=Tryz.zeroValue97
 t143:=underlying287
 a143:=Tryz.isAgg287
 z143:=Tryz.sizeOf287
 v143:=Tryz.zeroValue287
 t145:=underlying289
 a145:=Tryz.isAgg289
 z145:=Tryz.sizeOf289
 v145:=Tryz.zeroValue289
 t167:=underlying256
 a167:=Tryz.isAgg256
 z167:=Tryz.sizeOf256
 v167:=Tryz.zeroValue256
 t168:=underlying259
 a168:=Tryz.isAgg259
 z168:=Tryz.sizeOf259
 v168:=Tryz.zeroValue259
 t171:=underlying225
 a171:=Tryz.isAgg225
 z171:=Tryz.sizeOf225
 v171:=Tryz.zeroValue225
 t173:=underlying229
 a173:=Tryz.isAgg229
 z173:=Tryz.sizeOf229
 v173:=Tryz.zeroValue229
 t175:=underlying257
 a175:=Tryz.isAgg257
 z175:=Tryz.sizeOf257
 v175:=Tryz.zeroValue257
 t210:=underlying271
 a210:=Tryz.isAgg271
 z210:=Tryz.sizeOf271
 v210:=Tryz.zeroValue271
 t212:=underlying250
 a212:=Tryz.isAgg250
 z212:=Tryz.sizeOf250
 v212:=Tryz.zeroValue250
 t213:=underlying252
 a213:=Tryz.isAgg252
 z213:=Tryz.sizeOf252
 t232:=underlying285
 a232:=Tryz.isAgg285
 z232:=Tryz.sizeOf285
 v232:=Tryz.zeroValue285
 t233:=underlying286
 a233:=Tryz.isAgg286
 z233:=Tryz.sizeOf286
 v233:=Tryz.zeroValue286
 g15:=by kernel_rfl
 g16:=by kernel_rfl
 g17:=by kernel_rfl
 g18:=by kernel_rfl
 g19:=by kernel_rfl
 t80:=underlying45
 a80:=Tryz.isAgg45
 z80:=Tryz.sizeOf45
 v80:=Tryz.zeroValue45
 i0:=by kernel_rfl
 i2:=by kernel_rfl
 i3:=by kernel_rfl
 i4:=by kernel_rfl
 i5:=by kernel_rfl
 i9:=by kernel_rfl
 i20:=by kernel_rfl
 i21:=by kernel_rfl
 i37:=by kernel_rfl
 i46:=by kernel_rfl
 i51:=by kernel_rfl
 i53:=by kernel_rfl
 i75:=by kernel_rfl
 i80:=by kernel_rfl
 i85:=by kernel_rfl
 i127:=by kernel_rfl
 i143:=by kernel_rfl
 i145:=by kernel_rfl
 i167:=by kernel_rfl
 i168:=by kernel_rfl
 i171:=by kernel_rfl
 i173:=by kernel_rfl
 i175:=by kernel_rfl
 i210:=by kernel_rfl
 i212:=by kernel_rfl
 i232:=by kernel_rfl
 i233:=by kernel_rfl
 m15:=by kernel_rfl
 m16:=by kernel_rfl
 m17:=by kernel_rfl
 m18:=by kernel_rfl
 m19:=by kernel_rfl
 c0:=by kernel_rfl
 c2:=by kernel_rfl
 c3:=by kernel_rfl
 c4:=by kernel_rfl
 c5:=by kernel_rfl
 c9:=by kernel_rfl
 c20:=by kernel_rfl
 c21:=by kernel_rfl
 c37:=by kernel_rfl
 c46:=by kernel_rfl
 c51:=by kernel_rfl
 c53:=by kernel_rfl
 c75:=by kernel_rfl
 c80:=by kernel_rfl
 c85:=by kernel_rfl
 c127:=by kernel_rfl
 c143:=by kernel_rfl
 c145:=by kernel_rfl
 c167:=by kernel_rfl
 c168:=by kernel_rfl
 c171:=by kernel_rfl
 c173:=by kernel_rfl
 c175:=by kernel_rfl
 c210:=by kernel_rfl
 c212:=by kernel_rfl
 c213:=by kernel_rfl
 c232:=by kernel_rfl
 c233:=by kernel_rfl }
open Go.RowKit in
theorem Tryz.strconv_ParseInt_10_at64_ok(s:ByteArray)(hmax:s.size<=9223372036854775806)(v:Int)(h:Lib.parseIntB 64 s.data.toList=.ok v)(w:World) :
  Calls prog 144 #[.string s,.int .i64 10,.int .i64 64] w fun e w'=>e=.returned (.tuple #[.int .i64 v,.nilIface])/\(w'=w\/∃t,w'=Lib.bytesWorld w 5 t):=Any.strconv_ParseInt_10_at64_ok Tryz.laysC174 s hmax v h w
def Tryz.lays206_ren:Go.Shelf.Ren:=⟨fun|206=>168|n=>n,fun|9=>9|4=>4|3=>3|n=>n,fun|n=>n⟩
def Tryz.lays99_ren:Go.Shelf.Ren:=⟨fun|99=>120|206=>168|n=>n,fun|9=>9|4=>4|3=>3|n=>n,fun|n=>n⟩
theorem Tryz.lays99:Go.Proofs.Lays.n99 prog Tryz.lays99_ren:={
 mixed:=by kernel_rfl
 f99:=func120.trans (congrArg some (by kernel_rfl))
 f206:=func168.trans (congrArg some (by kernel_rfl))
 t3:=underlying3
 a3:=Tryz.isAgg3
 z3:=Tryz.sizeOf3
 v3:=Tryz.zeroValue3
 t4:=underlying4
 a4:=Tryz.isAgg4
 z4:=Tryz.sizeOf4
 v4:=Tryz.zeroValue4
 t9:=underlying9
 a9:=Tryz.isAgg9
 z9:=Tryz.sizeOf9
 v9:=Tryz.zeroValue9 }
open Go.RowKit Go.Lib in
theorem Tryz.strings_HasPrefix(s p:ByteArray)(w:World) :
  Calls prog 120 #[.string s,.string p] w fun e w'=>e=.returned (.bool (Lib.hasPrefix s.data.toList p.data.toList))/\w'=w:=Any.strings_HasPrefix Tryz.lays99 s p w
def Tryz.lays109_ren:Go.Shelf.Ren:=⟨fun|109=>21|n=>n,fun|31=>22|9=>9|3=>3|0=>0|4=>4|n=>n,fun|n=>n⟩
theorem Tryz.lays109:Go.Proofs.Lays.n109 prog Tryz.lays109_ren:={
 mixed:=by kernel_rfl
 f109:=func21.trans (congrArg some (by kernel_rfl))
 t0:=underlying0
 a0:=Tryz.isAgg0
 z0:=Tryz.sizeOf0
 v0:=Tryz.zeroValue0
 t3:=underlying3
 a3:=Tryz.isAgg3
 z3:=Tryz.sizeOf3
 v3:=Tryz.zeroValue3
 t4:=underlying4
 a4:=Tryz.isAgg4
 z4:=Tryz.sizeOf4
 v4:=Tryz.zeroValue4
 t9:=underlying9
 a9:=Tryz.isAgg9
 z9:=Tryz.sizeOf9
 v9:=Tryz.zeroValue9
 t31:=underlying22
 a31:=Tryz.isAgg22
 z31:=Tryz.sizeOf22
 v31:=Tryz.zeroValue22 }
open Go.Lib in
theorem Tryz.slices_Index_string(b off n c:Nat)(zs:List ByteArray)(x:ByteArray)(w:World)(hz:n<=zs.length)(hbig:n<=9223372036854775807)(hc:∀j,j<zs.length->w.cell? ⟨b,off+j,none⟩=some (.string (zs.getD j ByteArray.empty))) :
  Calls prog 21 #[.slice (some ⟨b,off,none⟩) n c,.string x] w fun e w'=>e=.returned (.int .i64 (Lib.idxOfS (zs.take n) x))/\w'=w:=Any.slices_Index_string Tryz.lays109 b off n c zs x w hz hbig hc
def Tryz.lays110_ren:Go.Shelf.Ren:=⟨fun|110=>181|109=>21|n=>n,fun|31=>22|9=>9|4=>4|3=>3|0=>0|n=>n,fun|n=>n⟩
theorem Tryz.lays110:Go.Proofs.Lays.n110 prog Tryz.lays110_ren:={
 mixed:=by kernel_rfl
 f109:=func21.trans (congrArg some (by kernel_rfl))
 f110:=func181.trans (congrArg some (by kernel_rfl))
 t0:=underlying0
 a0:=Tryz.isAgg0
 z0:=Tryz.sizeOf0
 v0:=Tryz.zeroValue0
 t3:=underlying3
 a3:=Tryz.isAgg3
 z3:=Tryz.sizeOf3
 v3:=Tryz.zeroValue3
 t4:=underlying4
 a4:=Tryz.isAgg4
 z4:=Tryz.sizeOf4
 v4:=Tryz.zeroValue4
 t9:=underlying9
 a9:=Tryz.isAgg9
 z9:=Tryz.sizeOf9
 v9:=Tryz.zeroValue9
 t31:=underlying22
 a31:=Tryz.isAgg22
 z31:=Tryz.sizeOf22
 v31:=Tryz.zeroValue22 }
open Go.Lib in
theorem Tryz.slices_Contains_string(b off n c:Nat)(zs:List ByteArray)(x:ByteArray)(w:World)(hz:n<=zs.length)(hbig:n<=9223372036854775807)(hc:∀j,j<zs.length->w.cell? ⟨b,off+j,none⟩=some (.string (zs.getD j ByteArray.empty))) :
  Calls prog 181 #[.slice (some ⟨b,off,none⟩) n c,.string x] w fun e w'=>e=.returned (.bool (Lib.containsS (zs.take n) x))/\w'=w:=Any.slices_Contains_string Tryz.lays110 b off n c zs x w hz hbig hc
end Go.Proofs
namespace Go.Proofs.YtbkiipiocpnnnaaGreatDoor
section
open Go.RowKit
theorem head_cons(s:ByteArray)(hp:0<s.size):s.data.toList=s[0]::s.data.toList.tail:=by
 obtain⟨⟨l⟩⟩:=s
 match l,hp with
 |c::r,_=>rfl
theorem nil_of_size(s:ByteArray)(h:s.size=0):s.data.toList=[]:=by
 obtain⟨⟨l⟩⟩:=s
 match l,h with
 |[],_=>rfl
theorem isWord_any(s:ByteArray)(w:World) :
  Calls prog 119 #[.string s] w fun e w'=>e=.returned (.bool (wordL s.data.toList))/\w'=w:=by
 go_enter func119,ntmps119
 go_wp2
 all_goals
  go_ret
  refine⟨ret_bool ?_,rfl⟩
  rw[wordL,<- ByteArray.toList_eq]
  simp[*]at *
theorem nameLength_any(s:ByteArray)(w:World)(hs:s.size<=maxLen) :
  Calls prog 77 #[.string s] w fun e w'=>e=.returned (.int .i64 (nameLen s.data.toList))/\w'=w:=by
 have hs':s.size<=9223372036854775807:=hs
 by_cases h0:s.size=0
 ·have he:s.toList.isEmpty=true:=by rw[ByteArray.toList_eq,nil_of_size s h0];rfl
  go_enter func77,ntmps77
  go_wp2
  go_ret
  exact⟨ret_int (by rw[nil_of_size s h0];rfl),rfl⟩
 ·have hp:0<s.size:=by omega
  have he:s.toList.isEmpty=false:=by rw[ByteArray.toList_eq,head_cons s hp];rfl
  cases hb:smallB s[0].toNat
  ·go_enter func77,ntmps77
   go_wp2_with (first|(go_at_call 76;refine(isSmall_any _ _).mono ?_;rintro e w'⟨rfl,rfl⟩)|(go_at_call 79;refine(countWhile_isNameByte _ _ hs).mono ?_;rintro e w'⟨rfl,rfl⟩))
   go_ret
   exact⟨ret_int (by rw[head_cons s hp];simp[nameLen,hb]),rfl⟩
  ·go_enter func77,ntmps77
   go_wp2_with (first|(go_at_call 76;refine(isSmall_any _ _).mono ?_;rintro e w'⟨rfl,rfl⟩)|(go_at_call 79;refine(countWhile_isNameByte _ _ hs).mono ?_;rintro e w'⟨rfl,rfl⟩))
   go_ret
   exact⟨ret_int (by rw[head_cons s hp];simp[nameLen,hb]),rfl⟩
theorem numberLength_any(s:ByteArray)(w:World)(hs:s.size<=maxLen) :
  Calls prog 82 #[.string s] w fun e w'=>e=.returned (.int .i64 (numLen s.data.toList))/\w'=w:=by
 by_cases h:18<cnt digitB s.data.toList
 ·have h':(18:Int)<(cnt digitB s.data.toList:Int):=by omega
  go_enter func82,ntmps82
  go_wp2_with (go_at_call 79;refine(countWhile_isDigit _ _ hs).mono ?_;rintro e w'⟨rfl,rfl⟩)
  go_ret
  exact⟨ret_int (by simp[numLen,h]),rfl⟩
 ·have h':¬(18:Int)<(cnt digitB s.data.toList:Int):=by omega
  go_enter func82,ntmps82
  go_wp2_with (go_at_call 79;refine(countWhile_isDigit _ _ hs).mono ?_;rintro e w'⟨rfl,rfl⟩)
  go_ret
  exact⟨ret_int (by simp[numLen,h]),rfl⟩
end
section
open Go.RowKit
def Tok(t:List UInt8):Prop:=tokLen t=t.length/\t.length<=4000
theorem Tok.nil:Tok []:=⟨rfl,zero_le _⟩
def nameK(t:List UInt8):Bool:=decide (0<nameLen t) && !wordL t
theorem name_kind{t:List UInt8}(h:Tok t):nameK t=(tokKind t==110):=by
 obtain⟨h,_⟩:=h
 unfold nameK
 cases t with
 |nil=>rfl
 |cons c r=>
  unfold tokKind
  simp only
  cases hb:smallB c.toNat
  ·rw[cond_false]
   have h0:nameLen (c::r)=0:=by simp[nameLen,hb]
   rw[h0]
   cases greatB c.toNat
   ·rw[cond_false]
    cases digitB c.toNat
    ·rw[cond_false]
     split
     ·split<;>rfl
     ·split<;>rfl
    ·rw[cond_true];split<;>rfl
   ·rfl
  ·rw[cond_true]
   have hl:nameLen (c::r)=(c::r).length:=by
    rw[<- h];unfold tokLen;simp only[hb,cond_true]
   rw[hl,List.take_length]
   cases wordL (c::r)<;>simp
def headK(f:Int->Bool)(t:List UInt8):Bool:=match t with
 |[]=>false
 |c::_=>f c.toNat
def quoteB(c:Int):Bool:=c==39
theorem con_kind(t:List UInt8):headK greatB t=(tokKind t==99):=by
 cases t with
 |nil=>rfl
 |cons c r=>
  unfold tokKind headK
  simp only
  cases hs:smallB c.toNat
  ·rw[cond_false]
   cases hg:greatB c.toNat
   ·rw[cond_false]
    cases digitB c.toNat
    ·rw[cond_false]
     split
     ·split<;>rfl
     ·split<;>rfl
    ·rw[cond_true];split<;>rfl
   ·rfl
  ·rw[cond_true]
   have:greatB c.toNat=false:=by
    simp only[smallB,greatB,decide_eq_true_eq,decide_eq_false_iff_not]at *;omega
   rw[this]
   cases wordL ((c::r).take (nameLen (c::r)))<;>rfl
theorem num_kind{t:List UInt8}(h:Tok t):headK digitB t=(tokKind t==100):=by
 obtain⟨h,_⟩:=h
 cases t with
 |nil=>rfl
 |cons c r=>
  unfold tokLen at h
  unfold tokKind headK
  simp only at h ⊢
  cases hs:smallB c.toNat
  ·rw[hs,cond_false]at h
   rw[cond_false]
   cases hg:greatB c.toNat
   ·rw[hg,cond_false]at h
    rw[cond_false]
    cases hd:digitB c.toNat
    ·rw[cond_false]
     split
     ·split<;>rfl
     ·split<;>rfl
    ·rw[hd,cond_true]at h
     rw[cond_true,if_neg (by rw[h];simp)];rfl
   ·have:digitB c.toNat=false:=by
     simp only[digitB,greatB,decide_eq_true_eq,decide_eq_false_iff_not]at *;omega
    rw[this];rfl
  ·have:digitB c.toNat=false:=by
    simp only[smallB,digitB,decide_eq_true_eq,decide_eq_false_iff_not]at *;omega
   rw[this,cond_true]
   cases wordL ((c::r).take (nameLen (c::r)))<;>rfl
theorem letter_kind{t:List UInt8}(h:Tok t):headK quoteB t=(tokKind t==108):=by
 obtain⟨h,_⟩:=h
 cases t with
 |nil=>rfl
 |cons c r=>
  unfold tokLen at h
  unfold tokKind headK
  simp only at h ⊢
  by_cases hc:c=39
  ·subst hc
   have h1:smallB (39:UInt8).toNat=false:=by decide
   have h2:greatB (39:UInt8).toNat=false:=by decide
   have h3:digitB (39:UInt8).toNat=false:=by decide
   rw[h1,h2,h3,cond_false,cond_false,cond_false,if_pos rfl]at h
   rw[h1,h2,h3,cond_false,cond_false,cond_false,if_pos rfl,if_neg (by rw[h];simp)]
   rfl
  ·have hq:quoteB c.toNat=false:=by
    cases hq:quoteB c.toNat
    ·rfl
    ·exfalso
     simp only[quoteB,beq_iff_eq]at hq
     exact hc (UInt8.toNat_inj.1 (by show c.toNat=39;omega))
   rw[hq,if_neg hc]
   cases hs:smallB c.toNat
   ·rw[cond_false]
    cases hg:greatB c.toNat
    ·rw[cond_false]
     cases hd:digitB c.toNat
     ·rw[cond_false];split<;>rfl
     ·rw[cond_true];split<;>rfl
    ·rfl
   ·rw[cond_true]
    cases wordL ((c::r).take (nameLen (c::r)))<;>rfl
theorem headK_cons(f:Int->Bool)(s:ByteArray)(hp:0<s.size):headK f s.data.toList=f s[0].toNat:=by
 rw[head_cons s hp];rfl
theorem headK_nil(f:Int->Bool)(s:ByteArray)(h0:s.size=0):headK f s.data.toList=false:=by
 rw[nil_of_size s h0];rfl
theorem IsConstructor_any(s:ByteArray)(w:World)(hs:s.size<=maxLen) :
  Calls prog 172 #[.string s] w fun e w'=>e=.returned (.bool (headK greatB s.data.toList))/\w'=w:=by
 have hs':s.size<=9223372036854775807:=hs
 by_cases h0:s.size=0
 ·have he:s.toList.isEmpty=true:=by rw[ByteArray.toList_eq,nil_of_size s h0];rfl
  go_enter func172,ntmps172
  go_wp2
  go_ret
  exact⟨ret_bool (by rw[headK_nil _ _ h0]),rfl⟩
 ·have hp:0<s.size:=by omega
  have he:s.toList.isEmpty=false:=by rw[ByteArray.toList_eq,head_cons s hp];rfl
  go_enter func172,ntmps172
  go_wp2_with (go_at_call 78;refine(isGreat_any _ _).mono ?_;rintro e w'⟨rfl,rfl⟩)
  go_ret
  exact⟨ret_bool (by rw[headK_cons _ _ hp]),rfl⟩
theorem IsNumber_any(s:ByteArray)(w:World)(hs:s.size<=maxLen) :
  Calls prog 305 #[.string s] w fun e w'=>e=.returned (.bool (headK digitB s.data.toList))/\w'=w:=by
 have hs':s.size<=9223372036854775807:=hs
 by_cases h0:s.size=0
 ·have he:s.toList.isEmpty=true:=by rw[ByteArray.toList_eq,nil_of_size s h0];rfl
  go_enter func305,ntmps305
  go_wp2
  go_ret
  exact⟨ret_bool (by rw[headK_nil _ _ h0]),rfl⟩
 ·have hp:0<s.size:=by omega
  have he:s.toList.isEmpty=false:=by rw[ByteArray.toList_eq,head_cons s hp];rfl
  go_enter func305,ntmps305
  go_wp2_with (go_at_call 81;refine(isDigit_any _ _).mono ?_;rintro e w'⟨rfl,rfl⟩)
  go_ret
  exact⟨ret_bool (by rw[headK_cons _ _ hp]),rfl⟩
theorem IsLetter_any(s:ByteArray)(w:World)(hs:s.size<=maxLen) :
  Calls prog 229 #[.string s] w fun e w'=>e=.returned (.bool (headK quoteB s.data.toList))/\w'=w:=by
 have hs':s.size<=9223372036854775807:=hs
 by_cases h0:s.size=0
 ·have he:s.toList.isEmpty=true:=by rw[ByteArray.toList_eq,nil_of_size s h0];rfl
  go_enter func229,ntmps229
  go_wp2
  go_ret
  exact⟨ret_bool (by rw[headK_nil _ _ h0]),rfl⟩
 ·have hp:0<s.size:=by omega
  have he:s.toList.isEmpty=false:=by rw[ByteArray.toList_eq,head_cons s hp];rfl
  go_enter func229,ntmps229
  go_wp2
  go_ret
  exact⟨ret_bool (by rw[headK_cons _ _ hp];rfl),rfl⟩
theorem IsName_any(s:ByteArray)(w:World)(hs:s.size<=maxLen) :
  Calls prog 169 #[.string s] w fun e w'=>e=.returned (.bool (nameK s.data.toList))/\w'=w:=by
 by_cases hn:0<nameLen s.data.toList
 ·have hn':(0:Int)<(nameLen s.data.toList:Int):=by omega
  cases hw:wordL s.data.toList
  ·go_enter func169,ntmps169
   go_wp2_with (first|(go_at_call 77;refine(nameLength_any _ _ hs).mono ?_;rintro e w'⟨rfl,rfl⟩)|(go_at_call 119;refine(isWord_any _ _).mono ?_;rintro e w'⟨rfl,rfl⟩))
   go_ret
   exact⟨ret_bool (by simp[nameK,hn,hw]),rfl⟩
  ·go_enter func169,ntmps169
   go_wp2_with (first|(go_at_call 77;refine(nameLength_any _ _ hs).mono ?_;rintro e w'⟨rfl,rfl⟩)|(go_at_call 119;refine(isWord_any _ _).mono ?_;rintro e w'⟨rfl,rfl⟩))
   go_ret
   exact⟨ret_bool (by simp[nameK,hn,hw]),rfl⟩
 ·have hn':¬(0:Int)<(nameLen s.data.toList:Int):=by omega
  go_enter func169,ntmps169
  go_wp2_with (first|(go_at_call 77;refine(nameLength_any _ _ hs).mono ?_;rintro e w'⟨rfl,rfl⟩)|(go_at_call 119;refine(isWord_any _ _).mono ?_;rintro e w'⟨rfl,rfl⟩))
  go_ret
  exact⟨ret_bool (by simp[nameK,hn]),rfl⟩
end
section
open Go.RowKit
theorem below_drewN{B:Nat}{a w:World}(h:Below B a w)(n:Nat):Below B a (w.drewN n):=⟨h.os,h.tape,h.output,h.size,h.block⟩
theorem bs_eq(a b:List UInt8):((bs a).toList==(bs b).toList)=(a==b):=by
 rw[ByteArray.toList_eq,ByteArray.toList_eq,bs_data,bs_data]
end
section
open Go.RowKit
theorem bs_app(x y:List UInt8):bs x++bs y=bs (x++y):=by
 apply ByteArray.ext
 simp[bs]
end
section
open Go.RowKit
structure Tr where
 mk ::
 is:List UInt8
 name:List UInt8
 parts:List Tr
def leafT(is:List UInt8):Bool:=is==K.num_ || is==K.var_ || is==K.const_
def headT(is name:List UInt8):List UInt8:=bif is==K.named_ then 40::name else bif name==[]then 40::is else 40::is++32::name
def Tr.text:Tr->List UInt8
 |.mk is name parts=>bif leafT is then name else headT is name++texts parts++[41]
 where
 texts:List Tr->List UInt8
  |[]=>[]
  |t::r=>32::t.text++texts r
end
section
open Go.RowKit
abbrev Toks:=List (List UInt8)
namespace G
def kindOf(ts:Toks):Int:=tokKind (ts.headD [])
def isW(x:List UInt8)(ts:Toks):Bool:=tokKind (ts.headD [])==119 && ts.headD []==x
def want(x:List UInt8)(ts:Toks):Option Toks:=bif isW x ts then some ts.tail else none
def kind(k:Int)(ts:Toks):Option (List UInt8×Toks):=bif kindOf ts==k then some (ts.headD [],ts.tail)else none
def every(k:Int):Toks->Toks×Toks
 |[]=>([],[])
 |t::r=>bif tokKind t==k then(t::(every k r).1,(every k r).2)else([],t::r)
def curried:Toks->Tr->Tr
 |[],x=>x
 |a::r,x=>.mk K.fun_ a [curried r x]
def apps:List Tr->Tr->Tr
 |[],f=>f
 |a::r,f=>apps r (.mk K.app_ [] [f,a])
def plain(ts:Toks):Option (Tr×Toks):=
 bif kindOf ts==100 then some (.mk K.num_ (numberP (ts.headD [])) [],ts.tail)
 else bif kindOf ts==110 then some (.mk K.var_ (ts.headD []) [],ts.tail)
 else bif kindOf ts==99 then some (.mk K.con_ (ts.headD []) [],ts.tail)
 else bif isW K.true_ ts || isW K.false_ ts then some (.mk K.const_ (ts.headD []) [],ts.tail)
 else none
def atypes:Nat->Toks->Option (List Tr×Toks)
 |0,_=>none
 |n+1,ts=>
  bif kindOf ts==108 then(atypes n ts.tail).bind fun l=>some (.mk K.var_ (ts.headD []) []::l.1,l.2)
  else bif kindOf ts==110 then(atypes n ts.tail).bind fun l=>some (.mk K.named_ (ts.headD []) []::l.1,l.2)
  else bif isW K.open_ ts then(typ n ts.tail).bind fun q=>(want K.shut_ q.2).bind fun r=>(atypes n r).bind fun l=>some (q.1::l.1,l.2)
  else some ([],ts)
 where
 typ1:Nat->Toks->Option (Tr×Toks)
  |0,_=>none
  |n+1,ts=>
   bif kindOf ts==110 then(atypes n ts.tail).bind fun l=>some (.mk K.named_ (ts.headD []) l.1,l.2)
   else bif kindOf ts==108 then some (.mk K.var_ (ts.headD []) [],ts.tail)
   else(want K.open_ ts).bind fun r=>(typ n r).bind fun q=>(want K.shut_ q.2).bind fun r=>some (q.1,r)
 typ:Nat->Toks->Option (Tr×Toks)
  |0,_=>none
  |n+1,ts=>(typ1 n ts).bind fun a=>bif isW K.arrow_ a.2 then(typ n a.2.tail).bind fun b=>some (.mk K.arrow_ [] [a.1,b.1],b.2)else some a
def pattern:Nat->Toks->Option (Tr×Toks)
 |0,_=>none
 |n+1,ts=>
  bif kindOf ts==99 then(apatterns n ts.tail).bind fun l=>some (.mk K.con_ (ts.headD []) l.1,l.2)
  else(apattern n ts).bind fun q=>q.1.bind fun t=>some (t,q.2)
 where
 apatterns:Nat->Toks->Option (List Tr×Toks)
  |0,_=>none
  |n+1,ts=>(apattern n ts).bind fun q=>match q.1 with
   |none=>some ([],q.2)
   |some t=>(apatterns n q.2).bind fun l=>some (t::l.1,l.2)
 apattern:Nat->Toks->Option (Option Tr×Toks)
  |0,_=>none
  |n+1,ts=>match plain ts with
   |some q=>some (some q.1,q.2)
   |none=>
    bif isW K.under_ ts then some (some (.mk K.const_ K.under_ []),ts.tail)
    else bif isW K.open_ ts then
     bif isW K.shut_ ts.tail then some (some (.mk K.const_ K.unit_ []),ts.tail.tail)
     else(pattern n ts.tail).bind fun q=>(want K.shut_ q.2).bind fun r=>some (some q.1,r)
    else some (none,ts)
def binding:Nat->Toks->Option (List UInt8×List UInt8×Tr×Toks)
 |0,_=>none
 |n+1,ts0=>
  let r:=isW K.rec_ ts0
  (kind 110 (bif r then ts0.tail else ts0)).bind fun nm=>
   bif r && (every 110 nm.2).1.isEmpty then none
   else(want K.eq_ (every 110 nm.2).2).bind fun ts=>(expr n ts).bind fun x=>some (bif r then K.rec_ else K.let_,nm.1,curried (every 110 nm.2).1 x.1,x.2)
 where
 expr:Nat->Toks->Option (Tr×Toks)
  |0,_=>none
  |n+1,ts=>
   bif isW K.let_ ts then(binding n ts.tail).bind fun b=>(want K.in_ b.2.2.2).bind fun r=>(expr n r).bind fun x=>some (.mk b.1 b.2.1 [b.2.2.1,x.1],x.2)
   else bif isW K.fun_ ts then(kind 110 ts.tail).bind fun one=>(want K.arrow_ (every 110 one.2).2).bind fun r=>(expr n r).bind fun x=>some (curried (one.1::(every 110 one.2).1) x.1,x.2)
   else bif isW K.if_ ts then(expr n ts.tail).bind fun a=>(want K.then_ a.2).bind fun r=>(expr n r).bind fun b=>(want K.else_ b.2).bind fun r=>(expr n r).bind fun c=>some (.mk K.if_ [] [a.1,b.1,c.1],c.2)
   else(level n 0 ts).bind fun a=>(set n a.1 a.2).bind fun a=>bif isW K.semi_ a.2 then(expr n a.2.tail).bind fun b=>some (.mk K.seq_ [] [a.1,b.1],b.2)else some a
 set:Nat->Tr->Toks->Option (Tr×Toks)
  |0,_,_=>none
  |n+1,a,ts=>bif isW K.set_ ts then(level n 0 ts.tail).bind fun b=>some (.mk K.setN_ [] [a,b.1],b.2)else some (a,ts)
 level:Nat->Nat->Toks->Option (Tr×Toks)
  |0,_,_=>none
  |n+1,k,ts=>if k=3 then app n ts else(level n (k+1) ts).bind fun a=>levels n k a.1 a.2
 levels:Nat->Nat->Tr->Toks->Option (Tr×Toks)
  |0,_,_,_=>none
  |n+1,k,a,ts=>
   bif kindOf ts==119 && (ts.headD []).length==1 && (signsAt k).contains ((ts.headD []).getD 0 0)then
    (level n (k+1) ts.tail).bind fun b=>if k=0 then some (.mk (ts.headD []) [] [a,b.1],b.2)else levels n k (.mk (ts.headD []) [] [a,b.1]) b.2
   else some (a,ts)
 app:Nat->Toks->Option (Tr×Toks)
  |0,_=>none
  |n+1,ts=>
   bif kindOf ts==99 then(atoms n ts.tail).bind fun l=>some (.mk K.con_ (ts.headD []) l.1,l.2)
   else(atoms n ts).bind fun l=>match l.1 with
    |[]=>none
    |f::r=>some (apps r f,l.2)
 atoms:Nat->Toks->Option (List Tr×Toks)
  |0,_=>none
  |n+1,ts=>(atom n ts).bind fun q=>match q.1 with
   |none=>some ([],q.2)
   |some t=>(atoms n q.2).bind fun l=>some (t::l.1,l.2)
 atom:Nat->Toks->Option (Option Tr×Toks)
  |0,_=>none
  |n+1,ts=>match plain ts with
   |some q=>some (some q.1,q.2)
   |none=>
    bif isW K.open_ ts then
     bif isW K.shut_ ts.tail then some (some (.mk K.const_ K.unit_ []),ts.tail.tail)
     else(expr n ts.tail).bind fun q=>(want K.shut_ q.2).bind fun r=>some (some q.1,r)
    else bif isW K.bang_ ts then(atom n ts.tail).bind fun a=>a.1.bind fun t=>some (some (.mk K.bang_ [] [t]),a.2)
    else bif isW K.match_ ts then(matches_ n ts.tail).bind fun q=>some (some q.1,q.2)
    else some (none,ts)
 matches_:Nat->Toks->Option (Tr×Toks)
  |0,_=>none
  |n+1,ts=>(expr n ts).bind fun x=>(want K.with_ x.2).bind fun r=>(rows n r).bind fun l=>if 12<l.1.length then none else some (.mk K.match_ [] (x.1::l.1),l.2)
 rows:Nat->Toks->Option (List Tr×Toks)
  |0,_=>none
  |n+1,ts=>(want K.bar_ ts).bind fun r=>(pattern n r).bind fun p=>(want K.arrow_ p.2).bind fun r=>(expr n r).bind fun a=>
    bif isW K.end_ a.2 then some ([.mk K.row_ [] [p.1,a.1]],a.2.tail)else(rows n a.2).bind fun l=>some (.mk K.row_ [] [p.1,a.1]::l.1,l.2)
def letters(l:Toks):List Tr:=l.map fun a=>.mk K.var_ (a.drop 1) []
def variants:Nat->Toks->Option (List Tr×Toks)
 |0,_=>none
 |n+1,ts=>(kind 99 ts).bind fun c=>(atypes n c.2).bind fun l=>
   bif isW K.bar_ l.2 then(variants n l.2.tail).bind fun v=>some (.mk K.named_ c.1 l.1::v.1,v.2)else some ([.mk K.named_ c.1 l.1],l.2)
def decl(n:Nat)(ts:Toks):Option Tr:=
 (bif isW K.type_ ts then(kind 110 ts.tail).bind fun nm=>(want K.eq_ (every 108 nm.2).2).bind fun r=>(variants n r).bind fun v=>some (Tr.mk K.type_ nm.1 (letters (every 108 nm.2).1++v.1),v.2)
 else bif isW K.do_ ts then(binding.expr n ts.tail).bind fun x=>some (.mk K.do_ [] [x.1],x.2)
 else(want K.let_ ts).bind fun r=>(binding n r).bind fun b=>some (.mk b.1 b.2.1 [b.2.2.1],b.2.2.2)).bind fun q=>bif q.2.isEmpty then some q.1 else none
end G
end
end Go.Proofs.YtbkiipiocpnnnaaGreatDoor
