import Derived.Shelf.Strings.Builder1
import Derived.Shelf.Strings.Trim
import Derived.Shelf.Small.Utf8
import Derived.Shelf.Small.Bits
import Derived.Shelf.Small.Strs
import Derived.Shelf.Strings.BuilderF
import Derived.Shelf.Strings.BuilderK
import Derived.Shelf.Strconv.Itoa0
import Derived.Shelf.Strconv.Itoa1
import Derived.Shelf.LaysM
import Derived.Shelf.Strconv.Itoa2
import Derived.Shelf.Strconv.Itoa3
import Derived.Shelf.Strconv.Clone
import Derived.Shelf.Strings.Search1
import Derived.Shelf.Sort.Plain
import Derived.Shelf.Strings.Prefix
import Derived.Shelf.Unicode.Decode
import Derived.Shelf.Strings.Runes
import Derived.Shelf.Strings.AsciiSet
import Derived.Shelf.Unicode.DecodeSlow
import Derived.Shelf.Unicode.DecodeAny
import Derived.Shelf.Strings.BuilderCap
import Derived.Shelf.Slices.Turned
import Derived.Shelf.Slices.CompactS
import Derived.Shelf.Slices.Cells
import Derived.Shelf.Slices.In.SortNone
import Derived.Test.YtcbppnefeonmgaaGreatDoorProg
import Derived.Test.YtcbppnefeonmgaaGreatDoorC1
import Derived.Lib.IndexBytes
import Derived.Deep.QuietTactic
import Derived.BigQuiet
import Derived.Deep.LoopGhost
set_option linter.all false
set_option maxHeartbeats 40000000
set_option maxRecDepth 100000
open Go.Proofs.Tryz
open Nat (zero_le)
namespace Go.Proofs
open Go.Shelf
open Go.RowKit in
open Go.RowKit in
open Go.RowKit in
open Go.RowKit in
def Tryz.lays161_ren:Go.Shelf.Ren:=⟨fun|161=>241|231=>243|227=>244|233=>245|235=>246|228=>247|197=>248|151=>249|260=>250|152=>251|137=>91|119=>252|224=>253|225=>254|217=>123|266=>146|n=>n,fun|9=>9|4=>4|3=>3|5=>5|117=>243|116=>242|0=>0|124=>246|105=>247|21=>21|119=>251|46=>206|139=>254|138=>253|n=>n,fun|3=>4|4=>5|n=>n⟩
theorem Tryz.lays161:Go.Proofs.Lays.n161 prog Tryz.lays161_ren:={
 mixed:=by kernel_rfl
 f119:=func252.trans (congrArg some (by kernel_rfl))
 f137:=func91.trans (congrArg some (by kernel_rfl))
 f151:=func249.trans (congrArg some (by kernel_rfl))
 f152:=func251.trans (congrArg some (by kernel_rfl))
 f161:=func241.trans (congrArg some (by kernel_rfl))
 f197:=func248.trans (congrArg some (by kernel_rfl))
 f217:=func123.trans (congrArg some (by kernel_rfl))
 f224:=func253.trans (congrArg some (by kernel_rfl))
 f225:=func254.trans (congrArg some (by kernel_rfl))
 f227:=func244.trans (congrArg some (by kernel_rfl))
 f228:=func247.trans (congrArg some (by kernel_rfl))
 f231:=func243.trans (congrArg some (by kernel_rfl))
 f233:=func245.trans (congrArg some (by kernel_rfl))
 f235:=func246.trans (congrArg some (by kernel_rfl))
 f260:=func250.trans (congrArg some (by kernel_rfl))
 f266:=func146.trans (congrArg some (by kernel_rfl))
 t0:=underlying0
 a0:=Tryz.isAgg0
 z0:=Tryz.sizeOf0
 v0:=Tryz.zeroValue0
 t3:=underlying3
 a3:=Tryz.isAgg3
 z3:=Tryz.sizeOf3
 v3:=Tryz.zeroValue3
 t4:=underlying4
 a4:=Tryz.isAgg4
 z4:=Tryz.sizeOf4
 v4:=Tryz.zeroValue4
 t5:=underlying5
 a5:=Tryz.isAgg5
 z5:=Tryz.sizeOf5
 v5:=Tryz.zeroValue5
 t9:=underlying9
 a9:=Tryz.isAgg9
 z9:=Tryz.sizeOf9
 v9:=Tryz.zeroValue9
 t21:=underlying21
 a21:=Tryz.isAgg21
 z21:=Tryz.sizeOf21
 v21:=Tryz.zeroValue21
 t46:=underlying206
 a46:=Tryz.isAgg206
 z46:=Tryz.sizeOf206
 v46:=Tryz.zeroValue206
 t105:=underlying247
 a105:=Tryz.isAgg247
 z105:=Tryz.sizeOf247
 v105:=Tryz.zeroValue247
 t116:=underlying242
 a116:=Tryz.isAgg242
 z116:=Tryz.sizeOf242
 t117:=underlying243
 a117:=Tryz.isAgg243
 z117:=Tryz.sizeOf243
 v117:=Tryz.zeroValue243
 t119:=underlying251
 a119:=Tryz.isAgg251
 z119:=Tryz.sizeOf251
 t124:=underlying246
 a124:=Tryz.isAgg246
 z124:=Tryz.sizeOf246
 v124:=Tryz.zeroValue246
 t138:=underlying253
 a138:=Tryz.isAgg253
 z138:=Tryz.sizeOf253
 v138:=Tryz.zeroValue253
 t139:=underlying254
 a139:=Tryz.isAgg254
 z139:=Tryz.sizeOf254
 v139:=Tryz.zeroValue254
 g3:=by kernel_rfl
 g4:=by kernel_rfl }
open Go.RowKit in
theorem Tryz.strings_TrimLeft_one(s:ByteArray)(c:UInt8)(hc:c.toNat<128)(w:World) :
  Calls prog 241 #[.string s,.string ⟨#[c]⟩] w fun e w'=>e=.returned (.string ⟨(Lib.trimLeftB s.data.toList c).toArray⟩)/\w'=w:=Any.strings_TrimLeft_one Tryz.lays161 s c hc w
def Tryz.lays137_ren:Go.Shelf.Ren:=⟨fun|137=>91|217=>123|266=>146|n=>n,fun|9=>9|5=>5|3=>3|n=>n,fun|n=>n⟩
theorem Tryz.lays137:Go.Proofs.Lays.n137 prog Tryz.lays137_ren:={
 mixed:=by kernel_rfl
 f137:=func91.trans (congrArg some (by kernel_rfl))
 f217:=func123.trans (congrArg some (by kernel_rfl))
 f266:=func146.trans (congrArg some (by kernel_rfl))
 t3:=underlying3
 a3:=Tryz.isAgg3
 z3:=Tryz.sizeOf3
 v3:=Tryz.zeroValue3
 t5:=underlying5
 a5:=Tryz.isAgg5
 z5:=Tryz.sizeOf5
 v5:=Tryz.zeroValue5
 t9:=underlying9
 a9:=Tryz.isAgg9
 z9:=Tryz.sizeOf9
 v9:=Tryz.zeroValue9 }
open Go.RowKit in
theorem Tryz.strings_IndexByte(s:ByteArray)(c:Int)(w:World) :
  Calls prog 91 #[.string s,.int .u8 c] w fun e w'=>e=.returned (.int .i64 (Lib.indexByte s.data.toList c.toNat.toUInt8))/\w'=w:=Any.strings_IndexByte Tryz.lays137 s c w
open Go.RowKit in
open Go.RowKit in
open Go.RowKit in
open Go.RowKit in
open Go.RowKit in
open Go.RowKit in
open Go.Lib in
open Go.Lib in
open Go.Lib in
open Go.Lib in
open Go.RowKit Go.Sort Go.Lib in
def Tryz.laysM246_ren:Go.Shelf.Ren:=⟨fun|246=>145|283=>167|284=>168|285=>169|286=>170|129=>189|317=>188|318=>190|319=>191|320=>192|337=>205|338=>206|n=>n,fun|2=>2|3=>3|9=>9|4=>4|171=>191|0=>0|53=>192|37=>53|5=>5|173=>195|212=>202|51=>203|20=>20|213=>204|46=>206|232=>227|233=>228|n=>n,fun|17=>1|18=>2|19=>3|n=>n⟩
open Go.RowKit Go.Sort Go.Lib in
open Go.RowKit Go.Sort Go.Lib in
def Tryz.laysM243_ren:Go.Shelf.Ren:=⟨fun|243=>122|246=>145|283=>167|284=>168|285=>169|286=>170|129=>189|317=>188|318=>190|319=>191|320=>192|337=>205|338=>206|n=>n,fun|3=>3|9=>9|2=>2|4=>4|171=>191|0=>0|53=>192|37=>53|5=>5|173=>195|212=>202|51=>203|20=>20|213=>204|46=>206|232=>227|233=>228|n=>n,fun|17=>1|18=>2|19=>3|n=>n⟩
open Go.RowKit Go.Sort Go.Lib in
open Go.RowKit Go.Sort Go.Lib in
def Tryz.laysM171_ren:Go.Shelf.Ren:=⟨fun|171=>90|243=>122|246=>145|283=>167|284=>168|285=>169|286=>170|129=>189|317=>188|318=>190|319=>191|320=>192|337=>205|338=>206|n=>n,fun|3=>3|9=>9|2=>2|4=>4|171=>191|0=>0|53=>192|37=>53|5=>5|173=>195|212=>202|51=>203|20=>20|213=>204|46=>206|232=>227|233=>228|n=>n,fun|17=>1|18=>2|19=>3|n=>n⟩
open Go.RowKit Go.Sort Go.Lib in
def Tryz.lays171_ren:Go.Shelf.Ren:=⟨fun|171=>90|243=>122|246=>145|283=>167|284=>168|285=>169|286=>170|129=>189|317=>188|318=>190|319=>191|320=>192|337=>205|338=>206|n=>n,fun|3=>3|9=>9|2=>2|4=>4|171=>191|0=>0|53=>192|37=>53|5=>5|173=>195|212=>202|51=>203|20=>20|213=>204|46=>206|232=>227|233=>228|n=>n,fun|17=>1|18=>2|19=>3|n=>n⟩
theorem Tryz.lays171:Go.Proofs.Lays.n171 prog Tryz.lays171_ren:={
 mixed:=by kernel_rfl
 f129:=func189.trans (congrArg some (by kernel_rfl))
 f171:=func90.trans (congrArg some (by kernel_rfl))
 f243:=func122.trans (congrArg some (by kernel_rfl))
 f246:=func145.trans (congrArg some (by kernel_rfl))
 f283:=func167.trans (congrArg some (by kernel_rfl))
 f284:=func168.trans (congrArg some (by kernel_rfl))
 f285:=func169.trans (congrArg some (by kernel_rfl))
 f286:=func170.trans (congrArg some (by kernel_rfl))
 f317:=func188.trans (congrArg some (by kernel_rfl))
 f318:=func190.trans (congrArg some (by kernel_rfl))
 f319:=func191.trans (congrArg some (by kernel_rfl))
 f320:=func192.trans (congrArg some (by kernel_rfl))
 f337:=func205.trans (congrArg some (by kernel_rfl))
 f338:=func206.trans (congrArg some (by kernel_rfl))
 t0:=underlying0
 a0:=Tryz.isAgg0
 z0:=Tryz.sizeOf0
 v0:=Tryz.zeroValue0
 t2:=underlying2
 a2:=Tryz.isAgg2
 z2:=Tryz.sizeOf2
 v2:=Tryz.zeroValue2
 t3:=underlying3
 a3:=Tryz.isAgg3
 z3:=Tryz.sizeOf3
 v3:=Tryz.zeroValue3
 t4:=underlying4
 a4:=Tryz.isAgg4
 z4:=Tryz.sizeOf4
 v4:=Tryz.zeroValue4
 t5:=underlying5
 a5:=Tryz.isAgg5
 z5:=Tryz.sizeOf5
 v5:=Tryz.zeroValue5
 t9:=underlying9
 a9:=Tryz.isAgg9
 z9:=Tryz.sizeOf9
 v9:=Tryz.zeroValue9
 t20:=underlying20
 a20:=Tryz.isAgg20
 z20:=Tryz.sizeOf20
 v20:=Tryz.zeroValue20
 t37:=underlying53
 a37:=Tryz.isAgg53
 z37:=Tryz.sizeOf53
 v37:=Tryz.zeroValue53
 t46:=underlying206
 a46:=Tryz.isAgg206
 z46:=Tryz.sizeOf206
 v46:=Tryz.zeroValue206
 t51:=underlying203
 a51:=Tryz.isAgg203
 z51:=Tryz.sizeOf203
 v51:=Tryz.zeroValue203
 t53:=underlying192
 a53:=Tryz.isAgg192
 z53:=Tryz.sizeOf192
 v53:=Tryz.zeroValue192
 t171:=underlying191
 a171:=Tryz.isAgg191
 z171:=Tryz.sizeOf191
 v171:=Tryz.zeroValue191
 t173:=underlying195
 a173:=Tryz.isAgg195
 z173:=Tryz.sizeOf195
 v173:=Tryz.zeroValue195
 t212:=underlying202
 a212:=Tryz.isAgg202
 z212:=Tryz.sizeOf202
 v212:=Tryz.zeroValue202
 t213:=underlying204
 a213:=Tryz.isAgg204
 z213:=Tryz.sizeOf204
 t232:=underlying227
 a232:=Tryz.isAgg227
 z232:=Tryz.sizeOf227
 v232:=Tryz.zeroValue227
 t233:=underlying228
 a233:=Tryz.isAgg228
 z233:=Tryz.sizeOf228
 v233:=Tryz.zeroValue228
 g17:=by kernel_rfl
 g18:=by kernel_rfl
 g19:=by kernel_rfl }
open Go.RowKit Go.Sort Go.Lib in
theorem Tryz.strconv_Itoa_small(i:Nat)(hi:i<100)(w:World) :
  Calls prog 90 #[.int .i64 i] w fun e w'=>e=.returned (.string ⟨(Lib.decDigits i).toArray⟩)/\w'=w:=Any.strconv_Itoa_small Tryz.lays171 i hi w
def Tryz.laysM316_ren:Go.Shelf.Ren:=⟨fun|316=>62|n=>n,fun|9=>9|3=>3|4=>4|37=>53|0=>0|127=>82|5=>5|n=>n,fun|n=>n⟩
theorem Tryz.laysM316:Go.Proofs.LaysM.n316 prog Tryz.laysM316_ren:={
 mixed:=by kernel_rfl
 f316:=func62.trans (congrArg some (by kernel_rfl))
 t0:=underlying0
 a0:=Tryz.isAgg0
 z0:=Tryz.sizeOf0
 v0:=Tryz.zeroValue0
 t3:=underlying3
 a3:=Tryz.isAgg3
 z3:=Tryz.sizeOf3
 v3:=Tryz.zeroValue3
 t4:=underlying4
 a4:=Tryz.isAgg4
 z4:=Tryz.sizeOf4
 v4:=Tryz.zeroValue4
 t9:=underlying9
 a9:=Tryz.isAgg9
 z9:=Tryz.sizeOf9
 v9:=Tryz.zeroValue9
 t37:=underlying53
 a37:=Tryz.isAgg53
 z37:=Tryz.sizeOf53
 v37:=Tryz.zeroValue53
 t127:=underlying82
 a127:=Tryz.isAgg82
 z127:=Tryz.sizeOf82
 v127:=Tryz.zeroValue82
 t5:=underlying5
 a5:=Tryz.isAgg5
 z5:=Tryz.sizeOf5
 v5:=Tryz.zeroValue5
 i0:=by kernel_rfl
 i3:=by kernel_rfl
 i4:=by kernel_rfl
 i5:=by kernel_rfl
 i9:=by kernel_rfl
 i37:=by kernel_rfl
 i127:=by kernel_rfl }
open Go.RowKit in
theorem Tryz.stringslite_Clone(s:ByteArray)(w:World)(hlim:s.size<=281474976710656) :
  Calls prog 62 #[.string s] w fun e w'=>e=.returned (.string s)/\Below w.heap.size w w':=Any.stringslite_Clone Tryz.laysM316 s w hlim
open Go.RowKit Go.Lib in
open Go.RowKit Go.Lib in
def Tryz.lays190_ren:Go.Shelf.Ren:=⟨fun|190=>175|125=>200|258=>199|128=>220|129=>189|302=>211|303=>212|304=>213|305=>214|306=>215|307=>216|308=>217|309=>218|310=>219|333=>225|329=>226|330=>227|334=>228|335=>229|336=>230|344=>236|n=>n,fun|31=>22|9=>9|3=>3|46=>206|0=>0|51=>203|53=>192|4=>4|183=>218|182=>217|131=>144|5=>5|218=>229|222=>189|228=>236|229=>237|n=>n,fun|n=>n⟩
theorem Tryz.lays190:Go.Proofs.Lays.n190 prog Tryz.lays190_ren:={
 mixed:=by kernel_rfl
 f125:=func200.trans (congrArg some (by kernel_rfl))
 f128:=func220.trans (congrArg some (by kernel_rfl))
 f129:=func189.trans (congrArg some (by kernel_rfl))
 f190:=func175.trans (congrArg some (by kernel_rfl))
 f258:=func199.trans (congrArg some (by kernel_rfl))
 f302:=func211.trans (congrArg some (by kernel_rfl))
 f303:=func212.trans (congrArg some (by kernel_rfl))
 f304:=func213.trans (congrArg some (by kernel_rfl))
 f305:=func214.trans (congrArg some (by kernel_rfl))
 f306:=func215.trans (congrArg some (by kernel_rfl))
 f307:=func216.trans (congrArg some (by kernel_rfl))
 f308:=func217.trans (congrArg some (by kernel_rfl))
 f309:=func218.trans (congrArg some (by kernel_rfl))
 f310:=func219.trans (congrArg some (by kernel_rfl))
 f329:=func226.trans (congrArg some (by kernel_rfl))
 f330:=func227.trans (congrArg some (by kernel_rfl))
 f333:=func225.trans (congrArg some (by kernel_rfl))
 f334:=func228.trans (congrArg some (by kernel_rfl))
 f335:=func229.trans (congrArg some (by kernel_rfl))
 f336:=func230.trans (congrArg some (by kernel_rfl))
 f344:=func236.trans (congrArg some (by kernel_rfl))
 t0:=underlying0
 a0:=Tryz.isAgg0
 z0:=Tryz.sizeOf0
 v0:=Tryz.zeroValue0
 t3:=underlying3
 a3:=Tryz.isAgg3
 z3:=Tryz.sizeOf3
 v3:=Tryz.zeroValue3
 t4:=underlying4
 a4:=Tryz.isAgg4
 z4:=Tryz.sizeOf4
 v4:=Tryz.zeroValue4
 t5:=underlying5
 a5:=Tryz.isAgg5
 z5:=Tryz.sizeOf5
 v5:=Tryz.zeroValue5
 t9:=underlying9
 a9:=Tryz.isAgg9
 z9:=Tryz.sizeOf9
 v9:=Tryz.zeroValue9
 t31:=underlying22
 a31:=Tryz.isAgg22
 z31:=Tryz.sizeOf22
 v31:=Tryz.zeroValue22
 t46:=underlying206
 a46:=Tryz.isAgg206
 z46:=Tryz.sizeOf206
 v46:=Tryz.zeroValue206
 t51:=underlying203
 a51:=Tryz.isAgg203
 z51:=Tryz.sizeOf203
 v51:=Tryz.zeroValue203
 t53:=underlying192
 a53:=Tryz.isAgg192
 z53:=Tryz.sizeOf192
 v53:=Tryz.zeroValue192
 t131:=underlying144
 a131:=Tryz.isAgg144
 z131:=Tryz.sizeOf144
 v131:=Tryz.zeroValue144
 t182:=underlying217
 a182:=Tryz.isAgg217
 z182:=Tryz.sizeOf217
 v182:=Tryz.zeroValue217
 t183:=underlying218
 a183:=Tryz.isAgg218
 z183:=Tryz.sizeOf218
 v183:=Tryz.zeroValue218
 t218:=underlying229
 a218:=Tryz.isAgg229
 z218:=Tryz.sizeOf229
 v218:=Tryz.zeroValue229
 t222:=underlying189
 a222:=Tryz.isAgg189
 z222:=Tryz.sizeOf189
 v222:=Tryz.zeroValue189
 t228:=underlying236
 a228:=Tryz.isAgg236
 z228:=Tryz.sizeOf236
 v228:=Tryz.zeroValue236
 t229:=underlying237
 a229:=Tryz.isAgg237
 z229:=Tryz.sizeOf237
 v229:=Tryz.zeroValue237 }
open Go.Sort Go.RowKit in
theorem Tryz.slices_Sort_string(blk off cap:Nat)(ss:List (List UInt8))(w:World)(hH:Holds encStr w blk off ss.toArray)(hblk:blk<w.heap.size)(hsz:ss.length<4611686018427387904) :
  Calls prog 175 #[.slice (some ⟨blk,off,none⟩) ss.length cap] w fun e w'=>
   e=.returned (.tuple #[])/\∃n os,w'=grow (putRow encStr (Sort.ahead w n) blk off (ss.mergeSort fun x y=>decide (x<=y)).toArray) os:=Any.slices_Sort_string Tryz.lays190 blk off cap ss w hH hblk hsz
def Tryz.lays206_ren:Go.Shelf.Ren:=⟨fun|206=>124|n=>n,fun|9=>9|4=>4|3=>3|n=>n,fun|n=>n⟩
open Go.RowKit Go.Lib in
def Tryz.lays99_ren:Go.Shelf.Ren:=⟨fun|99=>94|206=>124|n=>n,fun|9=>9|4=>4|3=>3|n=>n,fun|n=>n⟩
theorem Tryz.lays99:Go.Proofs.Lays.n99 prog Tryz.lays99_ren:={
 mixed:=by kernel_rfl
 f99:=func94.trans (congrArg some (by kernel_rfl))
 f206:=func124.trans (congrArg some (by kernel_rfl))
 t3:=underlying3
 a3:=Tryz.isAgg3
 z3:=Tryz.sizeOf3
 v3:=Tryz.zeroValue3
 t4:=underlying4
 a4:=Tryz.isAgg4
 z4:=Tryz.sizeOf4
 v4:=Tryz.zeroValue4
 t9:=underlying9
 a9:=Tryz.isAgg9
 z9:=Tryz.sizeOf9
 v9:=Tryz.zeroValue9 }
open Go.RowKit Go.Lib in
theorem Tryz.strings_HasPrefix(s p:ByteArray)(w:World) :
  Calls prog 94 #[.string s,.string p] w fun e w'=>e=.returned (.bool (Lib.hasPrefix s.data.toList p.data.toList))/\w'=w:=Any.strings_HasPrefix Tryz.lays99 s p w
open Go.RowKit Go.Lib in
open Go.RowKit Go.Lib in
open Go.RowKit Go.Lib in
open Go.RowKit Go.Lib in
open Go.RowKit Go.Lib in
open Go.RowKit Go.Lib in
open Go.RowKit Go.Lib in
def Tryz.lays109_ren:Go.Shelf.Ren:=⟨fun|109=>17|n=>n,fun|31=>22|9=>9|3=>3|0=>0|4=>4|n=>n,fun|n=>n⟩
theorem Tryz.lays109:Go.Proofs.Lays.n109 prog Tryz.lays109_ren:={
 mixed:=by kernel_rfl
 f109:=func17.trans (congrArg some (by kernel_rfl))
 t0:=underlying0
 a0:=Tryz.isAgg0
 z0:=Tryz.sizeOf0
 v0:=Tryz.zeroValue0
 t3:=underlying3
 a3:=Tryz.isAgg3
 z3:=Tryz.sizeOf3
 v3:=Tryz.zeroValue3
 t4:=underlying4
 a4:=Tryz.isAgg4
 z4:=Tryz.sizeOf4
 v4:=Tryz.zeroValue4
 t9:=underlying9
 a9:=Tryz.isAgg9
 z9:=Tryz.sizeOf9
 v9:=Tryz.zeroValue9
 t31:=underlying22
 a31:=Tryz.isAgg22
 z31:=Tryz.sizeOf22
 v31:=Tryz.zeroValue22 }
open Go.Lib in
theorem Tryz.slices_Index_string(b off n c:Nat)(zs:List ByteArray)(x:ByteArray)(w:World)(hz:n<=zs.length)(hbig:n<=9223372036854775807)(hc:∀j,j<zs.length->w.cell? ⟨b,off+j,none⟩=some (.string (zs.getD j ByteArray.empty))) :
  Calls prog 17 #[.slice (some ⟨b,off,none⟩) n c,.string x] w fun e w'=>e=.returned (.int .i64 (Lib.idxOfS (zs.take n) x))/\w'=w:=Any.slices_Index_string Tryz.lays109 b off n c zs x w hz hbig hc
open Go.Lib in
def Tryz.lays110_ren:Go.Shelf.Ren:=⟨fun|110=>157|109=>17|n=>n,fun|31=>22|9=>9|4=>4|3=>3|0=>0|n=>n,fun|n=>n⟩
theorem Tryz.lays110:Go.Proofs.Lays.n110 prog Tryz.lays110_ren:={
 mixed:=by kernel_rfl
 f109:=func17.trans (congrArg some (by kernel_rfl))
 f110:=func157.trans (congrArg some (by kernel_rfl))
 t0:=underlying0
 a0:=Tryz.isAgg0
 z0:=Tryz.sizeOf0
 v0:=Tryz.zeroValue0
 t3:=underlying3
 a3:=Tryz.isAgg3
 z3:=Tryz.sizeOf3
 v3:=Tryz.zeroValue3
 t4:=underlying4
 a4:=Tryz.isAgg4
 z4:=Tryz.sizeOf4
 v4:=Tryz.zeroValue4
 t9:=underlying9
 a9:=Tryz.isAgg9
 z9:=Tryz.sizeOf9
 v9:=Tryz.zeroValue9
 t31:=underlying22
 a31:=Tryz.isAgg22
 z31:=Tryz.sizeOf22
 v31:=Tryz.zeroValue22 }
open Go.Lib in
theorem Tryz.slices_Contains_string(b off n c:Nat)(zs:List ByteArray)(x:ByteArray)(w:World)(hz:n<=zs.length)(hbig:n<=9223372036854775807)(hc:∀j,j<zs.length->w.cell? ⟨b,off+j,none⟩=some (.string (zs.getD j ByteArray.empty))) :
  Calls prog 157 #[.slice (some ⟨b,off,none⟩) n c,.string x] w fun e w'=>e=.returned (.bool (Lib.containsS (zs.take n) x))/\w'=w:=Any.slices_Contains_string Tryz.lays110 b off n c zs x w hz hbig hc
open Go.Lib in
theorem Tryz.slices_Contains_string_empty(a:Option Addr)(c:Nat)(x:ByteArray)(w:World) :
  Calls prog 157 #[.slice a 0 c,.string x] w fun e w'=>e=.returned (.bool false)/\w'=w:=Any.slices_Contains_string_empty Tryz.lays110 a c x w
def Tryz.lays194_ren:Go.Shelf.Ren:=⟨fun|194=>154|n=>n,fun|31=>22|9=>9|3=>3|4=>4|0=>0|n=>n,fun|n=>n⟩
theorem Tryz.lays194:Go.Proofs.Lays.n194 prog Tryz.lays194_ren:={
 mixed:=by kernel_rfl
 f194:=func154.trans (congrArg some (by kernel_rfl))
 t0:=underlying0
 a0:=Tryz.isAgg0
 z0:=Tryz.sizeOf0
 v0:=Tryz.zeroValue0
 t3:=underlying3
 a3:=Tryz.isAgg3
 z3:=Tryz.sizeOf3
 v3:=Tryz.zeroValue3
 t4:=underlying4
 a4:=Tryz.isAgg4
 z4:=Tryz.sizeOf4
 v4:=Tryz.zeroValue4
 t9:=underlying9
 a9:=Tryz.isAgg9
 z9:=Tryz.sizeOf9
 v9:=Tryz.zeroValue9
 t31:=underlying22
 a31:=Tryz.isAgg22
 z31:=Tryz.sizeOf22
 v31:=Tryz.zeroValue22 }
open Go.RowKit Go.Lib Go.Sort in
open Go.RowKit Go.Lib Go.Sort in
theorem Tryz.slices_Compact_string(blk off cap:Nat)(zs:List (List UInt8))(w:World)(hH:Holds encStr w blk off zs.toArray)(hsz:zs.length<=9223372036854775807)(hcap:zs.length<=cap) :
  Calls prog 154 #[.slice (some ⟨blk,off,none⟩) zs.length cap] w fun e w'=>e=.returned (.slice (some ⟨blk,off,none⟩) (Lib.compact zs).length cap)/\∃q,w'=putRow encStr (Sort.ahead w q) blk off (Lib.compact zs++List.replicate (zs.length-(Lib.compact zs).length) []).toArray:=Any.slices_Compact_string Tryz.lays194 blk off cap zs w hH hsz hcap
open Go.RowKit Go.Lib Go.Sort in
theorem Tryz.slices_Compact_string_empty(a:Option Addr)(cap:Nat)(w:World) :
  Calls prog 154 #[.slice a 0 cap] w fun e w'=>e=.returned (.slice a 0 cap)/\w'=w:=Any.slices_Compact_string_empty Tryz.lays194 a cap w
open Go.RowKit Go.Lib Go.Sort in
open Go.RowKit Go.Sort in
theorem Tryz.slices_Sort_string_none(p:Option Addr)(cap:Nat)(w:World) :
  Calls prog 175 #[.slice p 0 cap] w fun e w'=>e=.returned (.tuple #[])/\w'=w:=Any.slices_Sort_string_none Tryz.lays190 p cap w
end Go.Proofs
namespace Go.Proofs.YtcbppnefeonmgaaGreatDoor
section
open Go.RowKit
theorem head_cons(s:ByteArray)(hp:0<s.size):s.data.toList=s[0]::s.data.toList.tail:=by
 obtain⟨⟨l⟩⟩:=s
 match l,hp with
 |c::r,_=>rfl
theorem nil_of_size(s:ByteArray)(h:s.size=0):s.data.toList=[]:=by
 obtain⟨⟨l⟩⟩:=s
 match l,h with
 |[],_=>rfl
theorem isWord_any(s:ByteArray)(w:World) :
  Calls prog 93 #[.string s] w fun e w'=>e=.returned (.bool (wordL s.data.toList))/\w'=w:=by
 go_enter func93,ntmps93
 go_wp2
 all_goals
  go_ret
  refine⟨ret_bool ?_,rfl⟩
  rw[wordL,<- ByteArray.toList_eq]
  simp[*]at *
theorem nameLength_any(s:ByteArray)(w:World)(hs:s.size<=maxLen) :
  Calls prog 54 #[.string s] w fun e w'=>e=.returned (.int .i64 (nameLen s.data.toList))/\w'=w:=by
 have hs':s.size<=9223372036854775807:=hs
 by_cases h0:s.size=0
 ·have he:s.toList.isEmpty=true:=by rw[ByteArray.toList_eq,nil_of_size s h0];rfl
  go_enter func54,ntmps54
  go_wp2
  go_ret
  exact⟨ret_int (by rw[nil_of_size s h0];rfl),rfl⟩
 ·have hp:0<s.size:=by omega
  have he:s.toList.isEmpty=false:=by rw[ByteArray.toList_eq,head_cons s hp];rfl
  cases hb:smallB s[0].toNat
  ·go_enter func54,ntmps54
   go_wp2_with (first|(go_at_call 53;refine(isSmall_any _ _).mono ?_;rintro e w'⟨rfl,rfl⟩)|(go_at_call 56;refine(countWhile_isNameByte _ _ hs).mono ?_;rintro e w'⟨rfl,rfl⟩))
   go_ret
   exact⟨ret_int (by rw[head_cons s hp];simp[nameLen,hb]),rfl⟩
  ·go_enter func54,ntmps54
   go_wp2_with (first|(go_at_call 53;refine(isSmall_any _ _).mono ?_;rintro e w'⟨rfl,rfl⟩)|(go_at_call 56;refine(countWhile_isNameByte _ _ hs).mono ?_;rintro e w'⟨rfl,rfl⟩))
   go_ret
   exact⟨ret_int (by rw[head_cons s hp];simp[nameLen,hb]),rfl⟩
theorem numberLength_any(s:ByteArray)(w:World)(hs:s.size<=maxLen) :
  Calls prog 59 #[.string s] w fun e w'=>e=.returned (.int .i64 (numLen s.data.toList))/\w'=w:=by
 by_cases h:18<cnt digitB s.data.toList
 ·have h':(18:Int)<(cnt digitB s.data.toList:Int):=by omega
  go_enter func59,ntmps59
  go_wp2_with (go_at_call 56;refine(countWhile_isDigit _ _ hs).mono ?_;rintro e w'⟨rfl,rfl⟩)
  go_ret
  exact⟨ret_int (by simp[numLen,h]),rfl⟩
 ·have h':¬(18:Int)<(cnt digitB s.data.toList:Int):=by omega
  go_enter func59,ntmps59
  go_wp2_with (go_at_call 56;refine(countWhile_isDigit _ _ hs).mono ?_;rintro e w'⟨rfl,rfl⟩)
  go_ret
  exact⟨ret_int (by simp[numLen,h]),rfl⟩
end
section
open Go.RowKit
def Tok(t:List UInt8):Prop:=tokLen t=t.length/\t.length<=4000
theorem Tok.nil:Tok []:=⟨rfl,zero_le _⟩
def nameK(t:List UInt8):Bool:=decide (0<nameLen t) && !wordL t
theorem name_kind{t:List UInt8}(h:Tok t):nameK t=(tokKind t==110):=by
 obtain⟨h,_⟩:=h
 unfold nameK
 cases t with
 |nil=>rfl
 |cons c r=>
  unfold tokKind
  simp only
  cases hb:smallB c.toNat
  ·rw[cond_false]
   have h0:nameLen (c::r)=0:=by simp[nameLen,hb]
   rw[h0]
   cases greatB c.toNat
   ·rw[cond_false]
    cases digitB c.toNat
    ·rw[cond_false]
     split
     ·split<;>rfl
     ·split<;>rfl
    ·rw[cond_true];split<;>rfl
   ·rfl
  ·rw[cond_true]
   have hl:nameLen (c::r)=(c::r).length:=by
    rw[<- h];unfold tokLen;simp only[hb,cond_true]
   rw[hl,List.take_length]
   cases wordL (c::r)<;>simp
def headK(f:Int->Bool)(t:List UInt8):Bool:=match t with
 |[]=>false
 |c::_=>f c.toNat
def quoteB(c:Int):Bool:=c==39
theorem con_kind(t:List UInt8):headK greatB t=(tokKind t==99):=by
 cases t with
 |nil=>rfl
 |cons c r=>
  unfold tokKind headK
  simp only
  cases hs:smallB c.toNat
  ·rw[cond_false]
   cases hg:greatB c.toNat
   ·rw[cond_false]
    cases digitB c.toNat
    ·rw[cond_false]
     split
     ·split<;>rfl
     ·split<;>rfl
    ·rw[cond_true];split<;>rfl
   ·rfl
  ·rw[cond_true]
   have:greatB c.toNat=false:=by
    simp only[smallB,greatB,decide_eq_true_eq,decide_eq_false_iff_not]at *;omega
   rw[this]
   cases wordL ((c::r).take (nameLen (c::r)))<;>rfl
theorem num_kind{t:List UInt8}(h:Tok t):headK digitB t=(tokKind t==100):=by
 obtain⟨h,_⟩:=h
 cases t with
 |nil=>rfl
 |cons c r=>
  unfold tokLen at h
  unfold tokKind headK
  simp only at h ⊢
  cases hs:smallB c.toNat
  ·rw[hs,cond_false]at h
   rw[cond_false]
   cases hg:greatB c.toNat
   ·rw[hg,cond_false]at h
    rw[cond_false]
    cases hd:digitB c.toNat
    ·rw[cond_false]
     split
     ·split<;>rfl
     ·split<;>rfl
    ·rw[hd,cond_true]at h
     rw[cond_true,if_neg (by rw[h];simp)];rfl
   ·have:digitB c.toNat=false:=by
     simp only[digitB,greatB,decide_eq_true_eq,decide_eq_false_iff_not]at *;omega
    rw[this];rfl
  ·have:digitB c.toNat=false:=by
    simp only[smallB,digitB,decide_eq_true_eq,decide_eq_false_iff_not]at *;omega
   rw[this,cond_true]
   cases wordL ((c::r).take (nameLen (c::r)))<;>rfl
theorem letter_kind{t:List UInt8}(h:Tok t):headK quoteB t=(tokKind t==108):=by
 obtain⟨h,_⟩:=h
 cases t with
 |nil=>rfl
 |cons c r=>
  unfold tokLen at h
  unfold tokKind headK
  simp only at h ⊢
  by_cases hc:c=39
  ·subst hc
   have h1:smallB (39:UInt8).toNat=false:=by decide
   have h2:greatB (39:UInt8).toNat=false:=by decide
   have h3:digitB (39:UInt8).toNat=false:=by decide
   rw[h1,h2,h3,cond_false,cond_false,cond_false,if_pos rfl]at h
   rw[h1,h2,h3,cond_false,cond_false,cond_false,if_pos rfl,if_neg (by rw[h];simp)]
   rfl
  ·have hq:quoteB c.toNat=false:=by
    cases hq:quoteB c.toNat
    ·rfl
    ·exfalso
     simp only[quoteB,beq_iff_eq]at hq
     exact hc (UInt8.toNat_inj.1 (by show c.toNat=39;omega))
   rw[hq,if_neg hc]
   cases hs:smallB c.toNat
   ·rw[cond_false]
    cases hg:greatB c.toNat
    ·rw[cond_false]
     cases hd:digitB c.toNat
     ·rw[cond_false];split<;>rfl
     ·rw[cond_true];split<;>rfl
    ·rfl
   ·rw[cond_true]
    cases wordL ((c::r).take (nameLen (c::r)))<;>rfl
theorem headK_cons(f:Int->Bool)(s:ByteArray)(hp:0<s.size):headK f s.data.toList=f s[0].toNat:=by
 rw[head_cons s hp];rfl
theorem headK_nil(f:Int->Bool)(s:ByteArray)(h0:s.size=0):headK f s.data.toList=false:=by
 rw[nil_of_size s h0];rfl
theorem IsConstructor_any(s:ByteArray)(w:World)(hs:s.size<=maxLen) :
  Calls prog 128 #[.string s] w fun e w'=>e=.returned (.bool (headK greatB s.data.toList))/\w'=w:=by
 have hs':s.size<=9223372036854775807:=hs
 by_cases h0:s.size=0
 ·have he:s.toList.isEmpty=true:=by rw[ByteArray.toList_eq,nil_of_size s h0];rfl
  go_enter func128,ntmps128
  go_wp2
  go_ret
  exact⟨ret_bool (by rw[headK_nil _ _ h0]),rfl⟩
 ·have hp:0<s.size:=by omega
  have he:s.toList.isEmpty=false:=by rw[ByteArray.toList_eq,head_cons s hp];rfl
  go_enter func128,ntmps128
  go_wp2_with (go_at_call 55;refine(isGreat_any _ _).mono ?_;rintro e w'⟨rfl,rfl⟩)
  go_ret
  exact⟨ret_bool (by rw[headK_cons _ _ hp]),rfl⟩
theorem IsNumber_any(s:ByteArray)(w:World)(hs:s.size<=maxLen) :
  Calls prog 238 #[.string s] w fun e w'=>e=.returned (.bool (headK digitB s.data.toList))/\w'=w:=by
 have hs':s.size<=9223372036854775807:=hs
 by_cases h0:s.size=0
 ·have he:s.toList.isEmpty=true:=by rw[ByteArray.toList_eq,nil_of_size s h0];rfl
  go_enter func238,ntmps238
  go_wp2
  go_ret
  exact⟨ret_bool (by rw[headK_nil _ _ h0]),rfl⟩
 ·have hp:0<s.size:=by omega
  have he:s.toList.isEmpty=false:=by rw[ByteArray.toList_eq,head_cons s hp];rfl
  go_enter func238,ntmps238
  go_wp2_with (go_at_call 58;refine(isDigit_any _ _).mono ?_;rintro e w'⟨rfl,rfl⟩)
  go_ret
  exact⟨ret_bool (by rw[headK_cons _ _ hp]),rfl⟩
theorem IsLetter_any(s:ByteArray)(w:World)(hs:s.size<=maxLen) :
  Calls prog 147 #[.string s] w fun e w'=>e=.returned (.bool (headK quoteB s.data.toList))/\w'=w:=by
 have hs':s.size<=9223372036854775807:=hs
 by_cases h0:s.size=0
 ·have he:s.toList.isEmpty=true:=by rw[ByteArray.toList_eq,nil_of_size s h0];rfl
  go_enter func147,ntmps147
  go_wp2
  go_ret
  exact⟨ret_bool (by rw[headK_nil _ _ h0]),rfl⟩
 ·have hp:0<s.size:=by omega
  have he:s.toList.isEmpty=false:=by rw[ByteArray.toList_eq,head_cons s hp];rfl
  go_enter func147,ntmps147
  go_wp2
  go_ret
  exact⟨ret_bool (by rw[headK_cons _ _ hp];rfl),rfl⟩
theorem IsName_any(s:ByteArray)(w:World)(hs:s.size<=maxLen) :
  Calls prog 125 #[.string s] w fun e w'=>e=.returned (.bool (nameK s.data.toList))/\w'=w:=by
 by_cases hn:0<nameLen s.data.toList
 ·have hn':(0:Int)<(nameLen s.data.toList:Int):=by omega
  cases hw:wordL s.data.toList
  ·go_enter func125,ntmps125
   go_wp2_with (first|(go_at_call 54;refine(nameLength_any _ _ hs).mono ?_;rintro e w'⟨rfl,rfl⟩)|(go_at_call 93;refine(isWord_any _ _).mono ?_;rintro e w'⟨rfl,rfl⟩))
   go_ret
   exact⟨ret_bool (by simp[nameK,hn,hw]),rfl⟩
  ·go_enter func125,ntmps125
   go_wp2_with (first|(go_at_call 54;refine(nameLength_any _ _ hs).mono ?_;rintro e w'⟨rfl,rfl⟩)|(go_at_call 93;refine(isWord_any _ _).mono ?_;rintro e w'⟨rfl,rfl⟩))
   go_ret
   exact⟨ret_bool (by simp[nameK,hn,hw]),rfl⟩
 ·have hn':¬(0:Int)<(nameLen s.data.toList:Int):=by omega
  go_enter func125,ntmps125
  go_wp2_with (first|(go_at_call 54;refine(nameLength_any _ _ hs).mono ?_;rintro e w'⟨rfl,rfl⟩)|(go_at_call 93;refine(isWord_any _ _).mono ?_;rintro e w'⟨rfl,rfl⟩))
  go_ret
  exact⟨ret_bool (by simp[nameK,hn]),rfl⟩
end
section
open Go.RowKit
theorem below_drewN{B:Nat}{a w:World}(h:Below B a w)(n:Nat):Below B a (w.drewN n):=⟨h.os,h.tape,h.output,h.size,h.block⟩
theorem bs_eq(a b:List UInt8):((bs a).toList==(bs b).toList)=(a==b):=by
 rw[ByteArray.toList_eq,ByteArray.toList_eq,bs_data,bs_data]
end
section
open Go.RowKit
theorem bs_app(x y:List UInt8):bs x++bs y=bs (x++y):=by
 apply ByteArray.ext
 simp[bs]
end
section
open Go.RowKit
structure Tr where
 mk ::
 is:List UInt8
 name:List UInt8
 parts:List Tr
def leafT(is:List UInt8):Bool:=is==K.num_ || is==K.var_ || is==K.const_
def headT(is name:List UInt8):List UInt8:=bif is==K.named_ then 40::name else bif name==[]then 40::is else 40::is++32::name
def Tr.text:Tr->List UInt8
 |.mk is name parts=>bif leafT is then name else headT is name++texts parts++[41]
 where
 texts:List Tr->List UInt8
  |[]=>[]
  |t::r=>32::t.text++texts r
end
section
open Go.RowKit
abbrev Toks:=List (List UInt8)
namespace G
def kindOf(ts:Toks):Int:=tokKind (ts.headD [])
def isW(x:List UInt8)(ts:Toks):Bool:=tokKind (ts.headD [])==119 && ts.headD []==x
def want(x:List UInt8)(ts:Toks):Option Toks:=bif isW x ts then some ts.tail else none
def kind(k:Int)(ts:Toks):Option (List UInt8×Toks):=bif kindOf ts==k then some (ts.headD [],ts.tail)else none
def every(k:Int):Toks->Toks×Toks
 |[]=>([],[])
 |t::r=>bif tokKind t==k then(t::(every k r).1,(every k r).2)else([],t::r)
def curried:Toks->Tr->Tr
 |[],x=>x
 |a::r,x=>.mk K.fun_ a [curried r x]
def apps:List Tr->Tr->Tr
 |[],f=>f
 |a::r,f=>apps r (.mk K.app_ [] [f,a])
def plain(ts:Toks):Option (Tr×Toks):=
 bif kindOf ts==100 then some (.mk K.num_ (numberP (ts.headD [])) [],ts.tail)
 else bif kindOf ts==110 then some (.mk K.var_ (ts.headD []) [],ts.tail)
 else bif kindOf ts==99 then some (.mk K.con_ (ts.headD []) [],ts.tail)
 else bif isW K.true_ ts || isW K.false_ ts then some (.mk K.const_ (ts.headD []) [],ts.tail)
 else none
def atypes:Nat->Toks->Option (List Tr×Toks)
 |0,_=>none
 |n+1,ts=>
  bif kindOf ts==108 then(atypes n ts.tail).bind fun l=>some (.mk K.var_ (ts.headD []) []::l.1,l.2)
  else bif kindOf ts==110 then(atypes n ts.tail).bind fun l=>some (.mk K.named_ (ts.headD []) []::l.1,l.2)
  else bif isW K.open_ ts then(typ n ts.tail).bind fun q=>(want K.shut_ q.2).bind fun r=>(atypes n r).bind fun l=>some (q.1::l.1,l.2)
  else some ([],ts)
 where
 typ1:Nat->Toks->Option (Tr×Toks)
  |0,_=>none
  |n+1,ts=>
   bif kindOf ts==110 then(atypes n ts.tail).bind fun l=>some (.mk K.named_ (ts.headD []) l.1,l.2)
   else bif kindOf ts==108 then some (.mk K.var_ (ts.headD []) [],ts.tail)
   else(want K.open_ ts).bind fun r=>(typ n r).bind fun q=>(want K.shut_ q.2).bind fun r=>some (q.1,r)
 typ:Nat->Toks->Option (Tr×Toks)
  |0,_=>none
  |n+1,ts=>(typ1 n ts).bind fun a=>bif isW K.arrow_ a.2 then(typ n a.2.tail).bind fun b=>some (.mk K.arrow_ [] [a.1,b.1],b.2)else some a
def pattern:Nat->Toks->Option (Tr×Toks)
 |0,_=>none
 |n+1,ts=>
  bif kindOf ts==99 then(apatterns n ts.tail).bind fun l=>some (.mk K.con_ (ts.headD []) l.1,l.2)
  else(apattern n ts).bind fun q=>q.1.bind fun t=>some (t,q.2)
 where
 apatterns:Nat->Toks->Option (List Tr×Toks)
  |0,_=>none
  |n+1,ts=>(apattern n ts).bind fun q=>match q.1 with
   |none=>some ([],q.2)
   |some t=>(apatterns n q.2).bind fun l=>some (t::l.1,l.2)
 apattern:Nat->Toks->Option (Option Tr×Toks)
  |0,_=>none
  |n+1,ts=>match plain ts with
   |some q=>some (some q.1,q.2)
   |none=>
    bif isW K.under_ ts then some (some (.mk K.const_ K.under_ []),ts.tail)
    else bif isW K.open_ ts then
     bif isW K.shut_ ts.tail then some (some (.mk K.const_ K.unit_ []),ts.tail.tail)
     else(pattern n ts.tail).bind fun q=>(want K.shut_ q.2).bind fun r=>some (some q.1,r)
    else some (none,ts)
def binding:Nat->Toks->Option (List UInt8×List UInt8×Tr×Toks)
 |0,_=>none
 |n+1,ts0=>
  let r:=isW K.rec_ ts0
  (kind 110 (bif r then ts0.tail else ts0)).bind fun nm=>
   bif r && (every 110 nm.2).1.isEmpty then none
   else(want K.eq_ (every 110 nm.2).2).bind fun ts=>(expr n ts).bind fun x=>some (bif r then K.rec_ else K.let_,nm.1,curried (every 110 nm.2).1 x.1,x.2)
 where
 expr:Nat->Toks->Option (Tr×Toks)
  |0,_=>none
  |n+1,ts=>
   bif isW K.let_ ts then(binding n ts.tail).bind fun b=>(want K.in_ b.2.2.2).bind fun r=>(expr n r).bind fun x=>some (.mk b.1 b.2.1 [b.2.2.1,x.1],x.2)
   else bif isW K.fun_ ts then(kind 110 ts.tail).bind fun one=>(want K.arrow_ (every 110 one.2).2).bind fun r=>(expr n r).bind fun x=>some (curried (one.1::(every 110 one.2).1) x.1,x.2)
   else bif isW K.if_ ts then(expr n ts.tail).bind fun a=>(want K.then_ a.2).bind fun r=>(expr n r).bind fun b=>(want K.else_ b.2).bind fun r=>(expr n r).bind fun c=>some (.mk K.if_ [] [a.1,b.1,c.1],c.2)
   else(level n 0 ts).bind fun a=>(set n a.1 a.2).bind fun a=>bif isW K.semi_ a.2 then(expr n a.2.tail).bind fun b=>some (.mk K.seq_ [] [a.1,b.1],b.2)else some a
 set:Nat->Tr->Toks->Option (Tr×Toks)
  |0,_,_=>none
  |n+1,a,ts=>bif isW K.set_ ts then(level n 0 ts.tail).bind fun b=>some (.mk K.setN_ [] [a,b.1],b.2)else some (a,ts)
 level:Nat->Nat->Toks->Option (Tr×Toks)
  |0,_,_=>none
  |n+1,k,ts=>if k=3 then app n ts else(level n (k+1) ts).bind fun a=>levels n k a.1 a.2
 levels:Nat->Nat->Tr->Toks->Option (Tr×Toks)
  |0,_,_,_=>none
  |n+1,k,a,ts=>
   bif kindOf ts==119 && (ts.headD []).length==1 && (signsAt k).contains ((ts.headD []).getD 0 0)then
    (level n (k+1) ts.tail).bind fun b=>if k=0 then some (.mk (ts.headD []) [] [a,b.1],b.2)else levels n k (.mk (ts.headD []) [] [a,b.1]) b.2
   else some (a,ts)
 app:Nat->Toks->Option (Tr×Toks)
  |0,_=>none
  |n+1,ts=>
   bif kindOf ts==99 then(atoms n ts.tail).bind fun l=>some (.mk K.con_ (ts.headD []) l.1,l.2)
   else(atoms n ts).bind fun l=>match l.1 with
    |[]=>none
    |f::r=>some (apps r f,l.2)
 atoms:Nat->Toks->Option (List Tr×Toks)
  |0,_=>none
  |n+1,ts=>(atom n ts).bind fun q=>match q.1 with
   |none=>some ([],q.2)
   |some t=>(atoms n q.2).bind fun l=>some (t::l.1,l.2)
 atom:Nat->Toks->Option (Option Tr×Toks)
  |0,_=>none
  |n+1,ts=>match plain ts with
   |some q=>some (some q.1,q.2)
   |none=>
    bif isW K.open_ ts then
     bif isW K.shut_ ts.tail then some (some (.mk K.const_ K.unit_ []),ts.tail.tail)
     else(expr n ts.tail).bind fun q=>(want K.shut_ q.2).bind fun r=>some (some q.1,r)
    else bif isW K.bang_ ts then(atom n ts.tail).bind fun a=>a.1.bind fun t=>some (some (.mk K.bang_ [] [t]),a.2)
    else bif isW K.match_ ts then(matches_ n ts.tail).bind fun q=>some (some q.1,q.2)
    else some (none,ts)
 matches_:Nat->Toks->Option (Tr×Toks)
  |0,_=>none
  |n+1,ts=>(expr n ts).bind fun x=>(want K.with_ x.2).bind fun r=>(rows n r).bind fun l=>if 12<l.1.length then none else some (.mk K.match_ [] (x.1::l.1),l.2)
 rows:Nat->Toks->Option (List Tr×Toks)
  |0,_=>none
  |n+1,ts=>(want K.bar_ ts).bind fun r=>(pattern n r).bind fun p=>(want K.arrow_ p.2).bind fun r=>(expr n r).bind fun a=>
    bif isW K.end_ a.2 then some ([.mk K.row_ [] [p.1,a.1]],a.2.tail)else(rows n a.2).bind fun l=>some (.mk K.row_ [] [p.1,a.1]::l.1,l.2)
def letters(l:Toks):List Tr:=l.map fun a=>.mk K.var_ (a.drop 1) []
def variants:Nat->Toks->Option (List Tr×Toks)
 |0,_=>none
 |n+1,ts=>(kind 99 ts).bind fun c=>(atypes n c.2).bind fun l=>
   bif isW K.bar_ l.2 then(variants n l.2.tail).bind fun v=>some (.mk K.named_ c.1 l.1::v.1,v.2)else some ([.mk K.named_ c.1 l.1],l.2)
def decl(n:Nat)(ts:Toks):Option Tr:=
 (bif isW K.type_ ts then(kind 110 ts.tail).bind fun nm=>(want K.eq_ (every 108 nm.2).2).bind fun r=>(variants n r).bind fun v=>some (Tr.mk K.type_ nm.1 (letters (every 108 nm.2).1++v.1),v.2)
 else bif isW K.do_ ts then(binding.expr n ts.tail).bind fun x=>some (.mk K.do_ [] [x.1],x.2)
 else(want K.let_ ts).bind fun r=>(binding n r).bind fun b=>some (.mk b.1 b.2.1 [b.2.2.1],b.2.2.2)).bind fun q=>bif q.2.isEmpty then some q.1 else none
end G
end
end Go.Proofs.YtcbppnefeonmgaaGreatDoor
