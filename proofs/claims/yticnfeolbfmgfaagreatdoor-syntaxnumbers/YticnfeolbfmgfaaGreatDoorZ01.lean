/- What the claims of this seat share: base. -/
import Derived.Shelf.Strings.Builder1
import Derived.Shelf.Strings.Trim
import Derived.Shelf.Small.Utf8
import Derived.Shelf.Small.Bits
import Derived.Shelf.Small.Strs
import Derived.Shelf.Small.Wraps
import Derived.Shelf.Strings.BuilderF
import Derived.Shelf.Strings.BuilderK
import Derived.Shelf.Strconv.Itoa0
import Derived.Shelf.Strconv.Itoa1
import Derived.Shelf.LaysM
import Derived.Shelf.Strconv.Itoa2
import Derived.Shelf.Strconv.Itoa3
import Derived.Shelf.Strconv.Itoa4
import Derived.Shelf.Strconv.ParseIntEmpty
import Derived.Shelf.Strconv.Clone
import Derived.Shelf.Strconv.SyntaxError
import Derived.Shelf.LaysC
import Derived.Shelf.Strconv.ToError
import Derived.Shelf.Strconv.Lower
import Derived.Shelf.Strconv.ParseUint10
import Derived.Shelf.Strconv.ParseUint10Empty
import Derived.Shelf.Strconv.ParseUint10Any
import Derived.Shelf.Strconv.ParseInt10
import Derived.Shelf.Strconv.RangeError
import Derived.Shelf.Strconv.ToErrorRange
import Derived.Shelf.Strconv.ParseUintEmpty
import Derived.Shelf.Strconv.ParseUint10b64
import Derived.Shelf.Strconv.ParseUint10b32
import Derived.Shelf.Strconv.ParseUint10b16
import Derived.Shelf.Strconv.ParseUint10b8
import Derived.Shelf.Strconv.ParseUint10At
import Derived.Shelf.Strconv.ParseInt10At64
import Derived.Shelf.Strconv.ParseInt10At32
import Derived.Shelf.Strconv.ParseInt10At16
import Derived.Shelf.Strconv.ParseInt10At8
import Derived.Shelf.Strconv.ParseInt10All
import Derived.Shelf.Strconv.ParseIntPublic10
import Derived.Shelf.Strings.Search1
import Derived.Shelf.Strings.Search2
import Derived.Shelf.Strings.Cut
import Derived.Shelf.Strings.Shaped
import Derived.Shelf.Sort.Plain
import Derived.Shelf.Strings.Prefix
import Derived.Shelf.Strings.Runes
import Derived.Shelf.Strings.AsciiSet
import Derived.Shelf.Unicode.DecodeSlow
import Derived.Shelf.Slices.Turned
import Derived.Shelf.Slices.CompactS
import Derived.Shelf.Slices.Cells
import Derived.Shelf.Slices.In.SortNone
import Derived.Test.YticnfeolbfmgfaaGreatDoorRows
import Derived.WalkKit
import Derived.WalkSpells
import Derived.WalkLawsBesides
import Derived.Handy
import Derived.BigQuiet
import Derived.Deep.QuietTactic
import Derived.Lib.AppendStr
import Derived.Lib.UnsafeStr
import Derived.Lib.MakeNoZero
import Derived.Laws.Externs
import Derived.OwnWalk
import Derived.WalkMore
import Derived.ScopeJumps
import Derived.Deep.RegionHeld3
import Derived.Lib.Bytealg
import Derived.Lib.AppendIntMem
import Derived.Lib.ItoaLen
import Derived.LoopN
import Derived.Lib.ConvBytes
import Derived.Lib.AtoiErrMem
set_option maxRecDepth 100000
set_option maxHeartbeats 4000000
namespace Go.Proofs
open Go.Shelf
def Tryz.lays169_ren:Go.Shelf.Ren:=⟨fun | 169=>130 | n=>n,fun | 70=>151 | 9=>9 | 0=>0 | 72=>153 | 37=>48 | 127=>172 | 3=>3 | 5=>5 | n=>n,fun | n=>n⟩
theorem Tryz.lays169:Go.Proofs.Lays.n169 Tryz.prog Tryz.lays169_ren:={
 mixed:=by kernel_rfl
 f169:=Tryz.func130.trans (congrArg some (by kernel_rfl))
 t0:=Tryz.underlying0
 a0:=Tryz.isAgg0
 z0:=Tryz.sizeOf0
 v0:=Tryz.zeroValue0
 t3:=Tryz.underlying3
 a3:=Tryz.isAgg3
 z3:=Tryz.sizeOf3
 v3:=Tryz.zeroValue3
 t9:=Tryz.underlying9
 a9:=Tryz.isAgg9
 z9:=Tryz.sizeOf9
 v9:=Tryz.zeroValue9
 t37:=Tryz.underlying48
 a37:=Tryz.isAgg48
 z37:=Tryz.sizeOf48
 v37:=Tryz.zeroValue48
 t70:=Tryz.underlying151
 a70:=Tryz.isAgg151
 z70:=Tryz.sizeOf151
 v70:=Tryz.zeroValue151
 t72:=Tryz.underlying153
 a72:=Tryz.isAgg153
 z72:=Tryz.sizeOf153
 v72:=Tryz.zeroValue153
 t127:=Tryz.underlying172
 a127:=Tryz.isAgg172
 z127:=Tryz.sizeOf172
 v127:=Tryz.zeroValue172}
theorem Tryz.Builder_Extra_169:Builder.Extra Tryz.prog Tryz.lays169_ren:={
 sizeBuilder:=by kernel_rfl
 liesBuilder:=by kernel_rfl
 t5:=Tryz.underlying5
 a5:=Tryz.isAgg5
 z5:=Tryz.sizeOf5
 v5:=Tryz.zeroValue5
 infoByte:=by kernel_rfl
 cellsByte:=by kernel_rfl
 sizeByte:=by kernel_rfl
 neB5:=by decide}
open Go.RowKit in
theorem Tryz.Builder_String_any (B b:Nat) (l:List UInt8) (w:World) (h:Lib.IsBuilder 153 5 B b (Lib.byteCells l) w) (hBw:B≤w.heap.size):
  Calls Tryz.prog 130 #[.pointer (some ⟨b,0,none⟩)] w fun e w'=>e=.returned (.string ⟨l.toArray⟩)∧Below B w w':=Any.Builder_String_any Tryz.lays169 Tryz.Builder_Extra_169 B b l w h hBw
def Tryz.lays160_ren:Go.Shelf.Ren:=⟨fun | 160=>186 | 232=>219 | 231=>218 | 227=>220 | 234=>222 | 233=>221 | 236=>224 | 235=>223 | 228=>245 | 271=>248 | 151=>247 | 197=>246 | 120=>271 | 152=>270 | 260=>269 | 137=>281 | 119=>282 | 224=>236 | 225=>235 | 217=>234 | 266=>262 | n=>n,fun | 9=>9 | 4=>4 | 3=>3 | 5=>5 | 117=>241 | 116=>240 | 0=>0 | 124=>244 | 21=>21 | 105=>260 | 46=>223 | 119=>293 | 139=>296 | 138=>295 | n=>n,fun | 3=>6 | 4=>7 | n=>n⟩
theorem Tryz.lays160:Go.Proofs.Lays.n160 Tryz.prog Tryz.lays160_ren:={
 mixed:=by kernel_rfl
 f119:=Tryz.func282.trans (congrArg some (by kernel_rfl))
 f120:=Tryz.func271.trans (congrArg some (by kernel_rfl))
 f137:=Tryz.func281.trans (congrArg some (by kernel_rfl))
 f151:=Tryz.func247.trans (congrArg some (by kernel_rfl))
 f152:=Tryz.func270.trans (congrArg some (by kernel_rfl))
 f160:=Tryz.func186.trans (congrArg some (by kernel_rfl))
 f197:=Tryz.func246.trans (congrArg some (by kernel_rfl))
 f217:=Tryz.func234.trans (congrArg some (by kernel_rfl))
 f224:=Tryz.func236.trans (congrArg some (by kernel_rfl))
 f225:=Tryz.func235.trans (congrArg some (by kernel_rfl))
 f227:=Tryz.func220.trans (congrArg some (by kernel_rfl))
 f228:=Tryz.func245.trans (congrArg some (by kernel_rfl))
 f231:=Tryz.func218.trans (congrArg some (by kernel_rfl))
 f232:=Tryz.func219.trans (congrArg some (by kernel_rfl))
 f233:=Tryz.func221.trans (congrArg some (by kernel_rfl))
 f234:=Tryz.func222.trans (congrArg some (by kernel_rfl))
 f235:=Tryz.func223.trans (congrArg some (by kernel_rfl))
 f236:=Tryz.func224.trans (congrArg some (by kernel_rfl))
 f260:=Tryz.func269.trans (congrArg some (by kernel_rfl))
 f266:=Tryz.func262.trans (congrArg some (by kernel_rfl))
 f271:=Tryz.func248.trans (congrArg some (by kernel_rfl))
 t0:=Tryz.underlying0
 a0:=Tryz.isAgg0
 z0:=Tryz.sizeOf0
 v0:=Tryz.zeroValue0
 t3:=Tryz.underlying3
 a3:=Tryz.isAgg3
 z3:=Tryz.sizeOf3
 v3:=Tryz.zeroValue3
 t4:=Tryz.underlying4
 a4:=Tryz.isAgg4
 z4:=Tryz.sizeOf4
 v4:=Tryz.zeroValue4
 t5:=Tryz.underlying5
 a5:=Tryz.isAgg5
 z5:=Tryz.sizeOf5
 v5:=Tryz.zeroValue5
 t9:=Tryz.underlying9
 a9:=Tryz.isAgg9
 z9:=Tryz.sizeOf9
 v9:=Tryz.zeroValue9
 t21:=Tryz.underlying21
 a21:=Tryz.isAgg21
 z21:=Tryz.sizeOf21
 v21:=Tryz.zeroValue21
 t46:=Tryz.underlying223
 a46:=Tryz.isAgg223
 z46:=Tryz.sizeOf223
 v46:=Tryz.zeroValue223
 t105:=Tryz.underlying260
 a105:=Tryz.isAgg260
 z105:=Tryz.sizeOf260
 v105:=Tryz.zeroValue260
 t116:=Tryz.underlying240
 a116:=Tryz.isAgg240
 z116:=Tryz.sizeOf240
 t117:=Tryz.underlying241
 a117:=Tryz.isAgg241
 z117:=Tryz.sizeOf241
 v117:=Tryz.zeroValue241
 t119:=Tryz.underlying293
 a119:=Tryz.isAgg293
 z119:=Tryz.sizeOf293
 t124:=Tryz.underlying244
 a124:=Tryz.isAgg244
 z124:=Tryz.sizeOf244
 v124:=Tryz.zeroValue244
 t138:=Tryz.underlying295
 a138:=Tryz.isAgg295
 z138:=Tryz.sizeOf295
 v138:=Tryz.zeroValue295
 t139:=Tryz.underlying296
 a139:=Tryz.isAgg296
 z139:=Tryz.sizeOf296
 v139:=Tryz.zeroValue296
 g3:=by kernel_rfl
 g4:=by kernel_rfl}
def Tryz.lays211_ren:Go.Shelf.Ren:=⟨fun | 211=>238 | 207=>264 | n=>n,fun | 9=>9 | 4=>4 | 3=>3 | n=>n,fun | n=>n⟩
def Tryz.lays104_ren:Go.Shelf.Ren:=⟨fun | 104=>211 | 211=>238 | 207=>264 | n=>n,fun | 9=>9 | 4=>4 | 24=>197 | 3=>3 | n=>n,fun | n=>n⟩
theorem Tryz.lays104:Go.Proofs.Lays.n104 Tryz.prog Tryz.lays104_ren:={
 mixed:=by kernel_rfl
 f104:=Tryz.func211.trans (congrArg some (by kernel_rfl))
 f207:=Tryz.func264.trans (congrArg some (by kernel_rfl))
 f211:=Tryz.func238.trans (congrArg some (by kernel_rfl))
 t3:=Tryz.underlying3
 a3:=Tryz.isAgg3
 z3:=Tryz.sizeOf3
 v3:=Tryz.zeroValue3
 t4:=Tryz.underlying4
 a4:=Tryz.isAgg4
 z4:=Tryz.sizeOf4
 v4:=Tryz.zeroValue4
 t9:=Tryz.underlying9
 a9:=Tryz.isAgg9
 z9:=Tryz.sizeOf9
 v9:=Tryz.zeroValue9
 t24:=Tryz.underlying197
 a24:=Tryz.isAgg197
 z24:=Tryz.sizeOf197
 v24:=Tryz.zeroValue197}
open Go.RowKit in
theorem Tryz.strings_CutSuffix (s p:ByteArray) (w:World) (hs:s.size≤9223372036854775807):
  Calls Tryz.prog 211 #[.string s,.string p] w fun e w'=>e=.returned (.tuple #[.string ⟨(Lib.trimSuffix s.data.toList p.data.toList).toArray⟩,.bool (Lib.hasSuffix s.data.toList p.data.toList)])∧w'=w:=Any.strings_CutSuffix Tryz.lays104 s p w hs
def Tryz.laysM246_ren:Go.Shelf.Ren:=⟨fun | 246=>131 | 283=>172 | 284=>173 | 285=>174 | 286=>175 | 129=>203 | 317=>202 | 318=>204 | 319=>205 | 320=>206 | 337=>229 | 338=>230 | n=>n,fun | 2=>2 | 3=>3 | 9=>9 | 4=>4 | 171=>185 | 0=>0 | 53=>186 | 37=>48 | 5=>5 | 173=>189 | 212=>220 | 51=>221 | 20=>20 | 213=>222 | 46=>223 | 232=>271 | 233=>272 | n=>n,fun | 17=>0 | 18=>2 | 19=>3 | n=>n⟩
def Tryz.laysM173_ren:Go.Shelf.Ren:=⟨fun | 173=>81 | 246=>131 | 283=>172 | 284=>173 | 285=>174 | 286=>175 | 129=>203 | 317=>202 | 318=>204 | 319=>205 | 320=>206 | 337=>229 | 338=>230 | n=>n,fun | 2=>2 | 3=>3 | 9=>9 | 4=>4 | 171=>185 | 0=>0 | 53=>186 | 37=>48 | 5=>5 | 173=>189 | 212=>220 | 51=>221 | 20=>20 | 213=>222 | 46=>223 | 232=>271 | 233=>272 | n=>n,fun | 17=>0 | 18=>2 | 19=>3 | n=>n⟩
theorem Tryz.laysM173:Go.Proofs.LaysM.n173 Tryz.prog Tryz.laysM173_ren:={
 mixed:=by kernel_rfl
 f129:=Tryz.func203.trans (congrArg some (by kernel_rfl))
 f173:=Tryz.func81.trans (congrArg some (by kernel_rfl))
 f246:=Tryz.func131.trans (congrArg some (by kernel_rfl))
 f283:=Tryz.func172.trans (congrArg some (by kernel_rfl))
 f284:=Tryz.func173.trans (congrArg some (by kernel_rfl))
 f285:=Tryz.func174.trans (congrArg some (by kernel_rfl))
 f286:=Tryz.func175.trans (congrArg some (by kernel_rfl))
 f317:=Tryz.func202.trans (congrArg some (by kernel_rfl))
 f318:=Tryz.func204.trans (congrArg some (by kernel_rfl))
 f319:=Tryz.func205.trans (congrArg some (by kernel_rfl))
 f320:=Tryz.func206.trans (congrArg some (by kernel_rfl))
 f337:=Tryz.func229.trans (congrArg some (by kernel_rfl))
 f338:=Tryz.func230.trans (congrArg some (by kernel_rfl))
 t0:=Tryz.underlying0
 a0:=Tryz.isAgg0
 z0:=Tryz.sizeOf0
 v0:=Tryz.zeroValue0
 t2:=Tryz.underlying2
 a2:=Tryz.isAgg2
 z2:=Tryz.sizeOf2
 v2:=Tryz.zeroValue2
 t3:=Tryz.underlying3
 a3:=Tryz.isAgg3
 z3:=Tryz.sizeOf3
 v3:=Tryz.zeroValue3
 t4:=Tryz.underlying4
 a4:=Tryz.isAgg4
 z4:=Tryz.sizeOf4
 v4:=Tryz.zeroValue4
 t5:=Tryz.underlying5
 a5:=Tryz.isAgg5
 z5:=Tryz.sizeOf5
 v5:=Tryz.zeroValue5
 t9:=Tryz.underlying9
 a9:=Tryz.isAgg9
 z9:=Tryz.sizeOf9
 v9:=Tryz.zeroValue9
 t20:=Tryz.underlying20
 a20:=Tryz.isAgg20
 z20:=Tryz.sizeOf20
 v20:=Tryz.zeroValue20
 t37:=Tryz.underlying48
 a37:=Tryz.isAgg48
 z37:=Tryz.sizeOf48
 v37:=Tryz.zeroValue48
 t46:=Tryz.underlying223
 a46:=Tryz.isAgg223
 z46:=Tryz.sizeOf223
 v46:=Tryz.zeroValue223
 t51:=Tryz.underlying221
 a51:=Tryz.isAgg221
 z51:=Tryz.sizeOf221
 v51:=Tryz.zeroValue221
 t53:=Tryz.underlying186
 a53:=Tryz.isAgg186
 z53:=Tryz.sizeOf186
 v53:=Tryz.zeroValue186
 t171:=Tryz.underlying185
 a171:=Tryz.isAgg185
 z171:=Tryz.sizeOf185
 v171:=Tryz.zeroValue185
 t173:=Tryz.underlying189
 a173:=Tryz.isAgg189
 z173:=Tryz.sizeOf189
 v173:=Tryz.zeroValue189
 t212:=Tryz.underlying220
 a212:=Tryz.isAgg220
 z212:=Tryz.sizeOf220
 v212:=Tryz.zeroValue220
 t213:=Tryz.underlying222
 a213:=Tryz.isAgg222
 z213:=Tryz.sizeOf222
 t232:=Tryz.underlying271
 a232:=Tryz.isAgg271
 z232:=Tryz.sizeOf271
 v232:=Tryz.zeroValue271
 t233:=Tryz.underlying272
 a233:=Tryz.isAgg272
 z233:=Tryz.sizeOf272
 v233:=Tryz.zeroValue272
 g17:=by kernel_rfl
 g18:=by kernel_rfl
 g19:=by kernel_rfl
 i0:=by kernel_rfl
 i2:=by kernel_rfl
 i3:=by kernel_rfl
 i4:=by kernel_rfl
 i5:=by kernel_rfl
 i9:=by kernel_rfl
 i20:=by kernel_rfl
 i37:=by kernel_rfl
 i46:=by kernel_rfl
 i51:=by kernel_rfl
 i53:=by kernel_rfl
 i171:=by kernel_rfl
 i173:=by kernel_rfl
 i212:=by kernel_rfl
 i232:=by kernel_rfl
 i233:=by kernel_rfl
 m17:=by kernel_rfl
 m18:=by kernel_rfl
 m19:=by kernel_rfl}
open Go.RowKit Go.Sort Go.Lib in
theorem Tryz.strconv_FormatInt_10 (n:Int) (h0: -9223372036854775808≤n) (h1:n≤9223372036854775807) (w:World) (htab:Lib.TabIs Tryz.prog w "internal/strconv.uint64pow10" .u64 Lib.pow10Tab):
  Calls Tryz.prog 81 #[.int .i64 n,.int .i64 10] w fun e w'=>e=.returned (.string ⟨(Lib.itoa n).toArray⟩)∧∃ k os,w'=grow (w.drewN k) os:=Any.strconv_FormatInt_10 Tryz.laysM173 n h0 h1 w htab
def Tryz.laysM316_ren:Go.Shelf.Ren:=⟨fun | 316=>115 | n=>n,fun | 9=>9 | 3=>3 | 4=>4 | 37=>48 | 0=>0 | 127=>172 | 5=>5 | n=>n,fun | n=>n⟩
theorem Tryz.laysM316:Go.Proofs.LaysM.n316 Tryz.prog Tryz.laysM316_ren:={
 mixed:=by kernel_rfl
 f316:=Tryz.func115.trans (congrArg some (by kernel_rfl))
 t0:=Tryz.underlying0
 a0:=Tryz.isAgg0
 z0:=Tryz.sizeOf0
 v0:=Tryz.zeroValue0
 t3:=Tryz.underlying3
 a3:=Tryz.isAgg3
 z3:=Tryz.sizeOf3
 v3:=Tryz.zeroValue3
 t4:=Tryz.underlying4
 a4:=Tryz.isAgg4
 z4:=Tryz.sizeOf4
 v4:=Tryz.zeroValue4
 t9:=Tryz.underlying9
 a9:=Tryz.isAgg9
 z9:=Tryz.sizeOf9
 v9:=Tryz.zeroValue9
 t37:=Tryz.underlying48
 a37:=Tryz.isAgg48
 z37:=Tryz.sizeOf48
 v37:=Tryz.zeroValue48
 t127:=Tryz.underlying172
 a127:=Tryz.isAgg172
 z127:=Tryz.sizeOf172
 v127:=Tryz.zeroValue172
 t5:=Tryz.underlying5
 a5:=Tryz.isAgg5
 z5:=Tryz.sizeOf5
 v5:=Tryz.zeroValue5
 i0:=by kernel_rfl
 i3:=by kernel_rfl
 i4:=by kernel_rfl
 i5:=by kernel_rfl
 i9:=by kernel_rfl
 i37:=by kernel_rfl
 i127:=by kernel_rfl}
open Go.RowKit in
theorem Tryz.stringslite_Clone (s:ByteArray) (w:World) (hlim:s.size≤281474976710656):
  Calls Tryz.prog 115 #[.string s] w fun e w'=>e=.returned (.string s)∧Below w.heap.size w w':=Any.stringslite_Clone Tryz.laysM316 s w hlim
def Tryz.laysC245_ren:Go.Shelf.Ren:=⟨fun | 245=>214 | 279=>241 | 280=>242 | 281=>243 | 282=>244 | 316=>115 | 171=>268 | 205=>267 | 243=>280 | 246=>131 | 283=>172 | 284=>173 | 285=>174 | 286=>175 | 129=>203 | 317=>202 | 318=>204 | 319=>205 | 320=>206 | 337=>229 | 338=>230 | n=>n,fun | 9=>9 | 3=>3 | 75=>156 | 167=>256 | 4=>4 | 168=>257 | 210=>281 | 37=>48 | 0=>0 | 127=>172 | 145=>292 | 143=>290 | 2=>2 | 171=>185 | 53=>186 | 5=>5 | 173=>189 | 212=>220 | 51=>221 | 20=>20 | 213=>222 | 46=>223 | 232=>271 | 233=>272 | 80=>138 | n=>n,fun | 15=>4 | 16=>5 | 17=>0 | 18=>2 | 19=>3 | n=>n⟩
theorem Tryz.laysC245:Go.Proofs.LaysC.n245 Tryz.prog Tryz.laysC245_ren:={
 mixed:=by kernel_rfl
 f129:=Tryz.func203.trans (congrArg some (by kernel_rfl))
 f171:=Tryz.func268.trans (congrArg some (by kernel_rfl))
 f205:=Tryz.func267.trans (congrArg some (by kernel_rfl))
 f243:=Tryz.func280.trans (congrArg some (by kernel_rfl))
 f245:=Tryz.func214.trans (congrArg some (by kernel_rfl))
 f246:=Tryz.func131.trans (congrArg some (by kernel_rfl))
 f279:=Tryz.func241.trans (congrArg some (by kernel_rfl))
 f280:=Tryz.func242.trans (congrArg some (by kernel_rfl))
 f281:=Tryz.func243.trans (congrArg some (by kernel_rfl))
 f282:=Tryz.func244.trans (congrArg some (by kernel_rfl))
 f283:=Tryz.func172.trans (congrArg some (by kernel_rfl))
 f284:=Tryz.func173.trans (congrArg some (by kernel_rfl))
 f285:=Tryz.func174.trans (congrArg some (by kernel_rfl))
 f286:=Tryz.func175.trans (congrArg some (by kernel_rfl))
 f316:=Tryz.func115.trans (congrArg some (by kernel_rfl))
 f317:=Tryz.func202.trans (congrArg some (by kernel_rfl))
 f318:=Tryz.func204.trans (congrArg some (by kernel_rfl))
 f319:=Tryz.func205.trans (congrArg some (by kernel_rfl))
 f320:=Tryz.func206.trans (congrArg some (by kernel_rfl))
 f337:=Tryz.func229.trans (congrArg some (by kernel_rfl))
 f338:=Tryz.func230.trans (congrArg some (by kernel_rfl))
 t0:=Tryz.underlying0
 a0:=Tryz.isAgg0
 z0:=Tryz.sizeOf0
 v0:=Tryz.zeroValue0
 t2:=Tryz.underlying2
 a2:=Tryz.isAgg2
 z2:=Tryz.sizeOf2
 v2:=Tryz.zeroValue2
 t3:=Tryz.underlying3
 a3:=Tryz.isAgg3
 z3:=Tryz.sizeOf3
 v3:=Tryz.zeroValue3
 t4:=Tryz.underlying4
 a4:=Tryz.isAgg4
 z4:=Tryz.sizeOf4
 v4:=Tryz.zeroValue4
 t5:=Tryz.underlying5
 a5:=Tryz.isAgg5
 z5:=Tryz.sizeOf5
 v5:=Tryz.zeroValue5
 t9:=Tryz.underlying9
 a9:=Tryz.isAgg9
 z9:=Tryz.sizeOf9
 v9:=Tryz.zeroValue9
 t20:=Tryz.underlying20
 a20:=Tryz.isAgg20
 z20:=Tryz.sizeOf20
 v20:=Tryz.zeroValue20
 t37:=Tryz.underlying48
 a37:=Tryz.isAgg48
 z37:=Tryz.sizeOf48
 v37:=Tryz.zeroValue48
 t46:=Tryz.underlying223
 a46:=Tryz.isAgg223
 z46:=Tryz.sizeOf223
 v46:=Tryz.zeroValue223
 t51:=Tryz.underlying221
 a51:=Tryz.isAgg221
 z51:=Tryz.sizeOf221
 v51:=Tryz.zeroValue221
 t53:=Tryz.underlying186
 a53:=Tryz.isAgg186
 z53:=Tryz.sizeOf186
 v53:=Tryz.zeroValue186
 t75:=Tryz.underlying156
 a75:=Tryz.isAgg156
 z75:=Tryz.sizeOf156
 v75:=Tryz.zeroValue156
 t127:=Tryz.underlying172
 a127:=Tryz.isAgg172
 z127:=Tryz.sizeOf172
 v127:=Tryz.zeroValue172
 t143:=Tryz.underlying290
 a143:=Tryz.isAgg290
 z143:=Tryz.sizeOf290
 v143:=Tryz.zeroValue290
 t145:=Tryz.underlying292
 a145:=Tryz.isAgg292
 z145:=Tryz.sizeOf292
 v145:=Tryz.zeroValue292
 t167:=Tryz.underlying256
 a167:=Tryz.isAgg256
 z167:=Tryz.sizeOf256
 v167:=Tryz.zeroValue256
 t168:=Tryz.underlying257
 a168:=Tryz.isAgg257
 z168:=Tryz.sizeOf257
 v168:=Tryz.zeroValue257
 t171:=Tryz.underlying185
 a171:=Tryz.isAgg185
 z171:=Tryz.sizeOf185
 v171:=Tryz.zeroValue185
 t173:=Tryz.underlying189
 a173:=Tryz.isAgg189
 z173:=Tryz.sizeOf189
 v173:=Tryz.zeroValue189
 t210:=Tryz.underlying281
 a210:=Tryz.isAgg281
 z210:=Tryz.sizeOf281
 v210:=Tryz.zeroValue281
 t212:=Tryz.underlying220
 a212:=Tryz.isAgg220
 z212:=Tryz.sizeOf220
 v212:=Tryz.zeroValue220
 t213:=Tryz.underlying222
 a213:=Tryz.isAgg222
 z213:=Tryz.sizeOf222
 t232:=Tryz.underlying271
 a232:=Tryz.isAgg271
 z232:=Tryz.sizeOf271
 v232:=Tryz.zeroValue271
 t233:=Tryz.underlying272
 a233:=Tryz.isAgg272
 z233:=Tryz.sizeOf272
 v233:=Tryz.zeroValue272
 g15:=by kernel_rfl
 g16:=by kernel_rfl
 g17:=by kernel_rfl
 g18:=by kernel_rfl
 g19:=by kernel_rfl
 t80:=Tryz.underlying138
 a80:=Tryz.isAgg138
 z80:=Tryz.sizeOf138
 v80:=Tryz.zeroValue138
 i0:=by kernel_rfl
 i2:=by kernel_rfl
 i3:=by kernel_rfl
 i4:=by kernel_rfl
 i5:=by kernel_rfl
 i9:=by kernel_rfl
 i20:=by kernel_rfl
 i37:=by kernel_rfl
 i46:=by kernel_rfl
 i51:=by kernel_rfl
 i53:=by kernel_rfl
 i75:=by kernel_rfl
 i80:=by kernel_rfl
 i127:=by kernel_rfl
 i143:=by kernel_rfl
 i145:=by kernel_rfl
 i167:=by kernel_rfl
 i168:=by kernel_rfl
 i171:=by kernel_rfl
 i173:=by kernel_rfl
 i210:=by kernel_rfl
 i212:=by kernel_rfl
 i232:=by kernel_rfl
 i233:=by kernel_rfl
 m15:=by kernel_rfl
 m16:=by kernel_rfl
 m17:=by kernel_rfl
 m18:=by kernel_rfl
 m19:=by kernel_rfl
 c0:=by kernel_rfl
 c2:=by kernel_rfl
 c3:=by kernel_rfl
 c4:=by kernel_rfl
 c5:=by kernel_rfl
 c9:=by kernel_rfl
 c20:=by kernel_rfl
 c37:=by kernel_rfl
 c46:=by kernel_rfl
 c51:=by kernel_rfl
 c53:=by kernel_rfl
 c75:=by kernel_rfl
 c80:=by kernel_rfl
 c127:=by kernel_rfl
 c143:=by kernel_rfl
 c145:=by kernel_rfl
 c167:=by kernel_rfl
 c168:=by kernel_rfl
 c171:=by kernel_rfl
 c173:=by kernel_rfl
 c210:=by kernel_rfl
 c212:=by kernel_rfl
 c213:=by kernel_rfl
 c232:=by kernel_rfl
 c233:=by kernel_rfl}
open Go.RowKit in
theorem Tryz.strconv_toError_syntax (fn s:ByteArray) (base bits:Int) (ev:Value) (w:World) (hlim:s.size≤281474976710656) (hv:w.cell? ⟨4,0,none⟩=some ev) (hev:ev=.nilIface∨∃ te pe,ev=.iface te pe):
  Calls Tryz.prog 214 #[.string fn,.string s,.int .i64 base,.int .i64 bits,.iface 256 (.int .i64 2)] w fun e w'=>∃ N,e=.returned (.iface 257 (.pointer (some ⟨N,0,none⟩)))∧w.heap.size≤N∧w'.heap[N]? =some (.cells #[.string fn,.string s,ev] 281 (0,0))∧Below w.heap.size w w':=Any.strconv_toError_syntax Tryz.laysC245 fn s base bits ev w hlim hv hev
def Tryz.lays321_ren:Go.Shelf.Ren:=⟨fun | 321=>265 | n=>n,fun | 5=>5 | n=>n,fun | n=>n⟩
theorem Tryz.lays321:Go.Proofs.Lays.n321 Tryz.prog Tryz.lays321_ren:={
 mixed:=by kernel_rfl
 f321:=Tryz.func265.trans (congrArg some (by kernel_rfl))
 t5:=Tryz.underlying5
 a5:=Tryz.isAgg5
 z5:=Tryz.sizeOf5
 v5:=Tryz.zeroValue5}
open Go.RowKit in
theorem Tryz.internal_strconv_lower (c:Int) (w:World):
  Calls Tryz.prog 265 #[.int .u8 c] w fun e w'=>e=.returned (.int .u8 (bits .or .u8 c 32))∧w'=w:=Any.internal_strconv_lower Tryz.lays321 c w
def Tryz.laysC174_ren:Go.Shelf.Ren:=⟨fun | 174=>184 | 247=>213 | 245=>214 | 287=>240 | 279=>241 | 280=>242 | 281=>243 | 282=>244 | 321=>265 | 322=>266 | 316=>115 | 171=>268 | 205=>267 | 243=>280 | 246=>131 | 283=>172 | 284=>173 | 285=>174 | 286=>175 | 129=>203 | 317=>202 | 318=>204 | 319=>205 | 320=>206 | 337=>229 | 338=>230 | n=>n,fun | 9=>9 | 3=>3 | 2=>2 | 75=>156 | 85=>199 | 4=>4 | 167=>256 | 5=>5 | 53=>186 | 175=>254 | 46=>223 | 168=>257 | 37=>48 | 0=>0 | 210=>281 | 21=>21 | 127=>172 | 145=>292 | 143=>290 | 171=>185 | 173=>189 | 212=>220 | 51=>221 | 20=>20 | 213=>222 | 232=>271 | 233=>272 | 80=>138 | n=>n,fun | 15=>4 | 16=>5 | 17=>0 | 18=>2 | 19=>3 | n=>n⟩
theorem Tryz.laysC174:Go.Proofs.LaysC.n174 Tryz.prog Tryz.laysC174_ren:={
 mixed:=by kernel_rfl
 f129:=Tryz.func203.trans (congrArg some (by kernel_rfl))
 f171:=Tryz.func268.trans (congrArg some (by kernel_rfl))
 f174:=Tryz.func184.trans (congrArg some (by kernel_rfl))
 f205:=Tryz.func267.trans (congrArg some (by kernel_rfl))
 f243:=Tryz.func280.trans (congrArg some (by kernel_rfl))
 f245:=Tryz.func214.trans (congrArg some (by kernel_rfl))
 f246:=Tryz.func131.trans (congrArg some (by kernel_rfl))
 f247:=Tryz.func213.trans (congrArg some (by kernel_rfl))
 f279:=Tryz.func241.trans (congrArg some (by kernel_rfl))
 f280:=Tryz.func242.trans (congrArg some (by kernel_rfl))
 f281:=Tryz.func243.trans (congrArg some (by kernel_rfl))
 f282:=Tryz.func244.trans (congrArg some (by kernel_rfl))
 f283:=Tryz.func172.trans (congrArg some (by kernel_rfl))
 f284:=Tryz.func173.trans (congrArg some (by kernel_rfl))
 f285:=Tryz.func174.trans (congrArg some (by kernel_rfl))
 f286:=Tryz.func175.trans (congrArg some (by kernel_rfl))
 f287:=Tryz.func240.trans (congrArg some (by kernel_rfl))
 f316:=Tryz.func115.trans (congrArg some (by kernel_rfl))
 f317:=Tryz.func202.trans (congrArg some (by kernel_rfl))
 f318:=Tryz.func204.trans (congrArg some (by kernel_rfl))
 f319:=Tryz.func205.trans (congrArg some (by kernel_rfl))
 f320:=Tryz.func206.trans (congrArg some (by kernel_rfl))
 f321:=Tryz.func265.trans (congrArg some (by kernel_rfl))
 f322:=Tryz.func266.trans (congrArg some (by kernel_rfl))
 f337:=Tryz.func229.trans (congrArg some (by kernel_rfl))
 f338:=Tryz.func230.trans (congrArg some (by kernel_rfl))
 t0:=Tryz.underlying0
 a0:=Tryz.isAgg0
 z0:=Tryz.sizeOf0
 v0:=Tryz.zeroValue0
 t2:=Tryz.underlying2
 a2:=Tryz.isAgg2
 z2:=Tryz.sizeOf2
 v2:=Tryz.zeroValue2
 t3:=Tryz.underlying3
 a3:=Tryz.isAgg3
 z3:=Tryz.sizeOf3
 v3:=Tryz.zeroValue3
 t4:=Tryz.underlying4
 a4:=Tryz.isAgg4
 z4:=Tryz.sizeOf4
 v4:=Tryz.zeroValue4
 t5:=Tryz.underlying5
 a5:=Tryz.isAgg5
 z5:=Tryz.sizeOf5
 v5:=Tryz.zeroValue5
 t9:=Tryz.underlying9
 a9:=Tryz.isAgg9
 z9:=Tryz.sizeOf9
 v9:=Tryz.zeroValue9
 t20:=Tryz.underlying20
 a20:=Tryz.isAgg20
 z20:=Tryz.sizeOf20
 v20:=Tryz.zeroValue20
 t21:=Tryz.underlying21
 a21:=Tryz.isAgg21
 z21:=Tryz.sizeOf21
 v21:=Tryz.zeroValue21
 t37:=Tryz.underlying48
 a37:=Tryz.isAgg48
 z37:=Tryz.sizeOf48
 v37:=Tryz.zeroValue48
 t46:=Tryz.underlying223
 a46:=Tryz.isAgg223
 z46:=Tryz.sizeOf223
 v46:=Tryz.zeroValue223
 t51:=Tryz.underlying221
 a51:=Tryz.isAgg221
 z51:=Tryz.sizeOf221
 v51:=Tryz.zeroValue221
 t53:=Tryz.underlying186
 a53:=Tryz.isAgg186
 z53:=Tryz.sizeOf186
 v53:=Tryz.zeroValue186
 t75:=Tryz.underlying156
 a75:=Tryz.isAgg156
 z75:=Tryz.sizeOf156
 v75:=Tryz.zeroValue156
 t85:=Tryz.underlying199
 a85:=Tryz.isAgg199
 z85:=Tryz.sizeOf199
 v85:=Tryz.zeroValue199
 t127:=Tryz.underlying172
 a127:=Tryz.isAgg172
 z127:=Tryz.sizeOf172
 v127:=Tryz.zeroValue172
 t143:=Tryz.underlying290
 a143:=Tryz.isAgg290
 z143:=Tryz.sizeOf290
 v143:=Tryz.zeroValue290
 t145:=Tryz.underlying292
 a145:=Tryz.isAgg292
 z145:=Tryz.sizeOf292
 v145:=Tryz.zeroValue292
 t167:=Tryz.underlying256
 a167:=Tryz.isAgg256
 z167:=Tryz.sizeOf256
 v167:=Tryz.zeroValue256
 t168:=Tryz.underlying257
 a168:=Tryz.isAgg257
 z168:=Tryz.sizeOf257
 v168:=Tryz.zeroValue257
 t171:=Tryz.underlying185
 a171:=Tryz.isAgg185
 z171:=Tryz.sizeOf185
 v171:=Tryz.zeroValue185
 t173:=Tryz.underlying189
 a173:=Tryz.isAgg189
 z173:=Tryz.sizeOf189
 v173:=Tryz.zeroValue189
 t175:=Tryz.underlying254
 a175:=Tryz.isAgg254
 z175:=Tryz.sizeOf254
 v175:=Tryz.zeroValue254
 t210:=Tryz.underlying281
 a210:=Tryz.isAgg281
 z210:=Tryz.sizeOf281
 v210:=Tryz.zeroValue281
 t212:=Tryz.underlying220
 a212:=Tryz.isAgg220
 z212:=Tryz.sizeOf220
 v212:=Tryz.zeroValue220
 t213:=Tryz.underlying222
 a213:=Tryz.isAgg222
 z213:=Tryz.sizeOf222
 t232:=Tryz.underlying271
 a232:=Tryz.isAgg271
 z232:=Tryz.sizeOf271
 v232:=Tryz.zeroValue271
 t233:=Tryz.underlying272
 a233:=Tryz.isAgg272
 z233:=Tryz.sizeOf272
 v233:=Tryz.zeroValue272
 g15:=by kernel_rfl
 g16:=by kernel_rfl
 g17:=by kernel_rfl
 g18:=by kernel_rfl
 g19:=by kernel_rfl
 t80:=Tryz.underlying138
 a80:=Tryz.isAgg138
 z80:=Tryz.sizeOf138
 v80:=Tryz.zeroValue138
 i0:=by kernel_rfl
 i2:=by kernel_rfl
 i3:=by kernel_rfl
 i4:=by kernel_rfl
 i5:=by kernel_rfl
 i9:=by kernel_rfl
 i20:=by kernel_rfl
 i21:=by kernel_rfl
 i37:=by kernel_rfl
 i46:=by kernel_rfl
 i51:=by kernel_rfl
 i53:=by kernel_rfl
 i75:=by kernel_rfl
 i80:=by kernel_rfl
 i85:=by kernel_rfl
 i127:=by kernel_rfl
 i143:=by kernel_rfl
 i145:=by kernel_rfl
 i167:=by kernel_rfl
 i168:=by kernel_rfl
 i171:=by kernel_rfl
 i173:=by kernel_rfl
 i175:=by kernel_rfl
 i210:=by kernel_rfl
 i212:=by kernel_rfl
 i232:=by kernel_rfl
 i233:=by kernel_rfl
 m15:=by kernel_rfl
 m16:=by kernel_rfl
 m17:=by kernel_rfl
 m18:=by kernel_rfl
 m19:=by kernel_rfl
 c0:=by kernel_rfl
 c2:=by kernel_rfl
 c3:=by kernel_rfl
 c4:=by kernel_rfl
 c5:=by kernel_rfl
 c9:=by kernel_rfl
 c20:=by kernel_rfl
 c21:=by kernel_rfl
 c37:=by kernel_rfl
 c46:=by kernel_rfl
 c51:=by kernel_rfl
 c53:=by kernel_rfl
 c75:=by kernel_rfl
 c80:=by kernel_rfl
 c85:=by kernel_rfl
 c127:=by kernel_rfl
 c143:=by kernel_rfl
 c145:=by kernel_rfl
 c167:=by kernel_rfl
 c168:=by kernel_rfl
 c171:=by kernel_rfl
 c173:=by kernel_rfl
 c175:=by kernel_rfl
 c210:=by kernel_rfl
 c212:=by kernel_rfl
 c213:=by kernel_rfl
 c232:=by kernel_rfl
 c233:=by kernel_rfl}
open Go.RowKit in
theorem Tryz.strconv_ParseInt_10_at64_ok (s:ByteArray) (hmax:s.size≤9223372036854775806) (v:Int) (h:Lib.parseIntB 64 s.data.toList=.ok v) (w:World):
  Calls Tryz.prog 184 #[.string s,.int .i64 10,.int .i64 64] w fun e w'=>e=.returned (.tuple #[.int .i64 v,.nilIface])∧(w'=w∨∃ t,w'=Lib.bytesWorld w 5 t):=Any.strconv_ParseInt_10_at64_ok Tryz.laysC174 s hmax v h w
open Go.RowKit in
theorem Tryz.strconv_ParseInt_10_at64_syntax (s:ByteArray) (hlim:s.size≤281474976710656) (h:Lib.parseIntB 64 s.data.toList= .«syntax») (ev:Value) (w:World) (hv:w.cell? ⟨4,0,none⟩=some ev) (hev:ev=.nilIface∨∃ te pe,ev=.iface te pe):
  Calls Tryz.prog 184 #[.string s,.int .i64 10,.int .i64 64] w fun e w'=>∃ N,e=.returned (.tuple #[.int .i64 (0),.iface 257 (.pointer (some ⟨N,0,none⟩))])∧w.heap.size≤N∧w'.heap[N]? =some (.cells #[.string ⟨#[80,97,114,115,101,73,110,116]⟩,.string s,ev] 281 (0,0))∧Below w.heap.size w w':=Any.strconv_ParseInt_10_at64_syntax Tryz.laysC174 s hlim h ev w hv hev
open Go.RowKit in
theorem Tryz.strconv_ParseInt_10_at64_range (s:ByteArray) (hlim:s.size≤281474976710656) (h:Lib.parseIntB 64 s.data.toList=.range) (ev:Value) (w:World) (hv:w.cell? ⟨5,0,none⟩=some ev) (hev:ev=.nilIface∨∃ te pe,ev=.iface te pe):
  Calls Tryz.prog 184 #[.string s,.int .i64 10,.int .i64 64] w fun e w'=>∃ N,e=.returned (.tuple #[.int .i64 (Lib.intSat 64 s.data.toList),.iface 257 (.pointer (some ⟨N,0,none⟩))])∧w.heap.size≤N∧w'.heap[N]? =some (.cells #[.string ⟨#[80,97,114,115,101,73,110,116]⟩,.string s,ev] 281 (0,0))∧Below w.heap.size w w':=Any.strconv_ParseInt_10_at64_range Tryz.laysC174 s hlim h ev w hv hev
def Tryz.lays219_ren:Go.Shelf.Ren:=⟨fun | 219=>209 | 217=>234 | 225=>235 | 224=>236 | 267=>237 | 266=>262 | 314=>263 | n=>n,fun | 9=>9 | 3=>3 | 4=>4 | 5=>5 | 46=>223 | 146=>277 | 51=>221 | n=>n,fun | 1=>1 | n=>n⟩
theorem Tryz.lays219:Go.Proofs.Lays.n219 Tryz.prog Tryz.lays219_ren:={
 mixed:=by kernel_rfl
 f217:=Tryz.func234.trans (congrArg some (by kernel_rfl))
 f219:=Tryz.func209.trans (congrArg some (by kernel_rfl))
 f224:=Tryz.func236.trans (congrArg some (by kernel_rfl))
 f225:=Tryz.func235.trans (congrArg some (by kernel_rfl))
 f266:=Tryz.func262.trans (congrArg some (by kernel_rfl))
 f267:=Tryz.func237.trans (congrArg some (by kernel_rfl))
 f314:=Tryz.func263.trans (congrArg some (by kernel_rfl))
 t3:=Tryz.underlying3
 a3:=Tryz.isAgg3
 z3:=Tryz.sizeOf3
 v3:=Tryz.zeroValue3
 t4:=Tryz.underlying4
 a4:=Tryz.isAgg4
 z4:=Tryz.sizeOf4
 v4:=Tryz.zeroValue4
 t5:=Tryz.underlying5
 a5:=Tryz.isAgg5
 z5:=Tryz.sizeOf5
 v5:=Tryz.zeroValue5
 t9:=Tryz.underlying9
 a9:=Tryz.isAgg9
 z9:=Tryz.sizeOf9
 v9:=Tryz.zeroValue9
 t46:=Tryz.underlying223
 a46:=Tryz.isAgg223
 z46:=Tryz.sizeOf223
 v46:=Tryz.zeroValue223
 t51:=Tryz.underlying221
 a51:=Tryz.isAgg221
 z51:=Tryz.sizeOf221
 v51:=Tryz.zeroValue221
 t146:=Tryz.underlying277
 a146:=Tryz.isAgg277
 z146:=Tryz.sizeOf277
 v146:=Tryz.zeroValue277
 g1:=by kernel_rfl}
open Go.RowKit Go.Lib in
theorem Tryz.stringslite_Index_one (s:ByteArray) (c:UInt8) (w:World):
  Calls Tryz.prog 209 #[.string s,.string ⟨#[c]⟩] w fun e w'=>e=.returned (.int .i64 (Lib.indexByte s.data.toList c))∧w'=w:=Any.stringslite_Index_one Tryz.lays219 s c w
def Tryz.lays190_ren:Go.Shelf.Ren:=⟨fun | 190=>198 | 125=>228 | 258=>227 | 128=>258 | 129=>203 | 302=>249 | 303=>250 | 304=>251 | 305=>252 | 306=>253 | 307=>254 | 308=>255 | 309=>256 | 310=>257 | 333=>272 | 329=>273 | 330=>274 | 334=>275 | 335=>276 | 336=>277 | 344=>283 | n=>n,fun | 31=>22 | 9=>9 | 3=>3 | 46=>223 | 0=>0 | 51=>221 | 53=>186 | 4=>4 | 183=>265 | 182=>264 | 131=>269 | 5=>5 | 218=>284 | 222=>288 | 228=>298 | 229=>112 | n=>n,fun | n=>n⟩
theorem Tryz.lays190:Go.Proofs.Lays.n190 Tryz.prog Tryz.lays190_ren:={
 mixed:=by kernel_rfl
 f125:=Tryz.func228.trans (congrArg some (by kernel_rfl))
 f128:=Tryz.func258.trans (congrArg some (by kernel_rfl))
 f129:=Tryz.func203.trans (congrArg some (by kernel_rfl))
 f190:=Tryz.func198.trans (congrArg some (by kernel_rfl))
 f258:=Tryz.func227.trans (congrArg some (by kernel_rfl))
 f302:=Tryz.func249.trans (congrArg some (by kernel_rfl))
 f303:=Tryz.func250.trans (congrArg some (by kernel_rfl))
 f304:=Tryz.func251.trans (congrArg some (by kernel_rfl))
 f305:=Tryz.func252.trans (congrArg some (by kernel_rfl))
 f306:=Tryz.func253.trans (congrArg some (by kernel_rfl))
 f307:=Tryz.func254.trans (congrArg some (by kernel_rfl))
 f308:=Tryz.func255.trans (congrArg some (by kernel_rfl))
 f309:=Tryz.func256.trans (congrArg some (by kernel_rfl))
 f310:=Tryz.func257.trans (congrArg some (by kernel_rfl))
 f329:=Tryz.func273.trans (congrArg some (by kernel_rfl))
 f330:=Tryz.func274.trans (congrArg some (by kernel_rfl))
 f333:=Tryz.func272.trans (congrArg some (by kernel_rfl))
 f334:=Tryz.func275.trans (congrArg some (by kernel_rfl))
 f335:=Tryz.func276.trans (congrArg some (by kernel_rfl))
 f336:=Tryz.func277.trans (congrArg some (by kernel_rfl))
 f344:=Tryz.func283.trans (congrArg some (by kernel_rfl))
 t0:=Tryz.underlying0
 a0:=Tryz.isAgg0
 z0:=Tryz.sizeOf0
 v0:=Tryz.zeroValue0
 t3:=Tryz.underlying3
 a3:=Tryz.isAgg3
 z3:=Tryz.sizeOf3
 v3:=Tryz.zeroValue3
 t4:=Tryz.underlying4
 a4:=Tryz.isAgg4
 z4:=Tryz.sizeOf4
 v4:=Tryz.zeroValue4
 t5:=Tryz.underlying5
 a5:=Tryz.isAgg5
 z5:=Tryz.sizeOf5
 v5:=Tryz.zeroValue5
 t9:=Tryz.underlying9
 a9:=Tryz.isAgg9
 z9:=Tryz.sizeOf9
 v9:=Tryz.zeroValue9
 t31:=Tryz.underlying22
 a31:=Tryz.isAgg22
 z31:=Tryz.sizeOf22
 v31:=Tryz.zeroValue22
 t46:=Tryz.underlying223
 a46:=Tryz.isAgg223
 z46:=Tryz.sizeOf223
 v46:=Tryz.zeroValue223
 t51:=Tryz.underlying221
 a51:=Tryz.isAgg221
 z51:=Tryz.sizeOf221
 v51:=Tryz.zeroValue221
 t53:=Tryz.underlying186
 a53:=Tryz.isAgg186
 z53:=Tryz.sizeOf186
 v53:=Tryz.zeroValue186
 t131:=Tryz.underlying269
 a131:=Tryz.isAgg269
 z131:=Tryz.sizeOf269
 v131:=Tryz.zeroValue269
 t182:=Tryz.underlying264
 a182:=Tryz.isAgg264
 z182:=Tryz.sizeOf264
 v182:=Tryz.zeroValue264
 t183:=Tryz.underlying265
 a183:=Tryz.isAgg265
 z183:=Tryz.sizeOf265
 v183:=Tryz.zeroValue265
 t218:=Tryz.underlying284
 a218:=Tryz.isAgg284
 z218:=Tryz.sizeOf284
 v218:=Tryz.zeroValue284
 t222:=Tryz.underlying288
 a222:=Tryz.isAgg288
 z222:=Tryz.sizeOf288
 v222:=Tryz.zeroValue288
 t228:=Tryz.underlying298
 a228:=Tryz.isAgg298
 z228:=Tryz.sizeOf298
 v228:=Tryz.zeroValue298
 t229:=Tryz.underlying112
 a229:=Tryz.isAgg112
 z229:=Tryz.sizeOf112
 v229:=Tryz.zeroValue112}
def Tryz.lays99_ren:Go.Shelf.Ren:=⟨fun | 99=>182 | 206=>210 | n=>n,fun | 9=>9 | 4=>4 | 3=>3 | n=>n,fun | n=>n⟩
theorem Tryz.lays99:Go.Proofs.Lays.n99 Tryz.prog Tryz.lays99_ren:={
 mixed:=by kernel_rfl
 f99:=Tryz.func182.trans (congrArg some (by kernel_rfl))
 f206:=Tryz.func210.trans (congrArg some (by kernel_rfl))
 t3:=Tryz.underlying3
 a3:=Tryz.isAgg3
 z3:=Tryz.sizeOf3
 v3:=Tryz.zeroValue3
 t4:=Tryz.underlying4
 a4:=Tryz.isAgg4
 z4:=Tryz.sizeOf4
 v4:=Tryz.zeroValue4
 t9:=Tryz.underlying9
 a9:=Tryz.isAgg9
 z9:=Tryz.sizeOf9
 v9:=Tryz.zeroValue9}
open Go.RowKit Go.Lib in
theorem Tryz.strings_HasPrefix (s p:ByteArray) (w:World):
  Calls Tryz.prog 182 #[.string s,.string p] w fun e w'=>e=.returned (.bool (Lib.hasPrefix s.data.toList p.data.toList))∧w'=w:=Any.strings_HasPrefix Tryz.lays99 s p w
def Tryz.lays110_ren:Go.Shelf.Ren:=⟨fun | 110=>163 | 109=>195 | n=>n,fun | 31=>22 | 9=>9 | 4=>4 | 3=>3 | 0=>0 | n=>n,fun | n=>n⟩
theorem Tryz.lays110:Go.Proofs.Lays.n110 Tryz.prog Tryz.lays110_ren:={
 mixed:=by kernel_rfl
 f109:=Tryz.func195.trans (congrArg some (by kernel_rfl))
 f110:=Tryz.func163.trans (congrArg some (by kernel_rfl))
 t0:=Tryz.underlying0
 a0:=Tryz.isAgg0
 z0:=Tryz.sizeOf0
 v0:=Tryz.zeroValue0
 t3:=Tryz.underlying3
 a3:=Tryz.isAgg3
 z3:=Tryz.sizeOf3
 v3:=Tryz.zeroValue3
 t4:=Tryz.underlying4
 a4:=Tryz.isAgg4
 z4:=Tryz.sizeOf4
 v4:=Tryz.zeroValue4
 t9:=Tryz.underlying9
 a9:=Tryz.isAgg9
 z9:=Tryz.sizeOf9
 v9:=Tryz.zeroValue9
 t31:=Tryz.underlying22
 a31:=Tryz.isAgg22
 z31:=Tryz.sizeOf22
 v31:=Tryz.zeroValue22}
open Go.Lib in
theorem Tryz.slices_Contains_string (b off n c:Nat) (zs:List ByteArray) (x:ByteArray) (w:World) (hz:n≤zs.length) (hbig:n≤9223372036854775807) (hc:∀ j,j<zs.length→w.cell? ⟨b,off+j,none⟩=some (.string (zs.getD j ByteArray.empty))):
  Calls Tryz.prog 163 #[.slice (some ⟨b,off,none⟩) n c,.string x] w fun e w'=>e=.returned (.bool (Lib.containsS (zs.take n) x))∧w'=w:=Any.slices_Contains_string Tryz.lays110 b off n c zs x w hz hbig hc
open Go.Lib in
theorem Tryz.slices_Contains_string_empty (a:Option Addr) (c:Nat) (x:ByteArray) (w:World):
  Calls Tryz.prog 163 #[.slice a 0 c,.string x] w fun e w'=>e=.returned (.bool false)∧w'=w:=Any.slices_Contains_string_empty Tryz.lays110 a c x w
def Tryz.lays194_ren:Go.Shelf.Ren:=⟨fun | 194=>199 | n=>n,fun | 31=>22 | 9=>9 | 3=>3 | 4=>4 | 0=>0 | n=>n,fun | n=>n⟩
theorem Tryz.lays194:Go.Proofs.Lays.n194 Tryz.prog Tryz.lays194_ren:={
 mixed:=by kernel_rfl
 f194:=Tryz.func199.trans (congrArg some (by kernel_rfl))
 t0:=Tryz.underlying0
 a0:=Tryz.isAgg0
 z0:=Tryz.sizeOf0
 v0:=Tryz.zeroValue0
 t3:=Tryz.underlying3
 a3:=Tryz.isAgg3
 z3:=Tryz.sizeOf3
 v3:=Tryz.zeroValue3
 t4:=Tryz.underlying4
 a4:=Tryz.isAgg4
 z4:=Tryz.sizeOf4
 v4:=Tryz.zeroValue4
 t9:=Tryz.underlying9
 a9:=Tryz.isAgg9
 z9:=Tryz.sizeOf9
 v9:=Tryz.zeroValue9
 t31:=Tryz.underlying22
 a31:=Tryz.isAgg22
 z31:=Tryz.sizeOf22
 v31:=Tryz.zeroValue22}
open Go.RowKit Go.Lib Go.Sort in
theorem Tryz.slices_Compact_string (blk off cap:Nat) (zs:List (List UInt8)) (w:World) (hH:Holds encStr w blk off zs.toArray) (hsz:zs.length≤9223372036854775807) (hcap:zs.length≤cap):
  Calls Tryz.prog 199 #[.slice (some ⟨blk,off,none⟩) zs.length cap] w fun e w'=>e=.returned (.slice (some ⟨blk,off,none⟩) (Lib.compact zs).length cap)∧∃ q,w'=putRow encStr (Sort.ahead w q) blk off (Lib.compact zs++List.replicate (zs.length - (Lib.compact zs).length) []).toArray:=Any.slices_Compact_string Tryz.lays194 blk off cap zs w hH hsz hcap
open Go.RowKit Go.Lib Go.Sort in
theorem Tryz.slices_Compact_string_empty (a:Option Addr) (cap:Nat) (w:World):
  Calls Tryz.prog 199 #[.slice a 0 cap] w fun e w'=>e=.returned (.slice a 0 cap)∧w'=w:=Any.slices_Compact_string_empty Tryz.lays194 a cap w
end Go.Proofs
namespace Go.Proofs.YticnfeolbfmgfaaGreatDoor
def sz (n:Int):Int:=(n.natAbs:Int)
def gc (a b:Int):Int:=((Nat.gcd a.toNat b.toNat:Nat):Int)
theorem sz_of_neg {n:Int} (h:n<0):sz n= -n:=by unfold sz;omega
theorem sz_of_nonneg {n:Int} (h:0≤n):sz n=n:=by unfold sz;omega
theorem sz_nonneg (n:Int):0≤sz n:=by unfold sz;omega
theorem sz_le {n:Int} (h1: -9223372036854775808≤n) (h2:n≤9223372036854775807):sz n≤9223372036854775808:=by unfold sz;omega
theorem gc_zero (a:Int) (h:0≤a):gc a 0=a:=by unfold gc;simp;omega
theorem gc_step (a b:Int) (ha:0≤a) (hb:0<b):gc b (a % b)=gc a b:=by
 unfold gc
 have e:(a % b).toNat=a.toNat % b.toNat:=by
  obtain ⟨x,rfl⟩:=Int.eq_ofNat_of_zero_le ha
  obtain ⟨y,rfl⟩:=Int.eq_ofNat_of_zero_le (Int.le_of_lt hb)
  simp [← Int.natCast_emod]
 rw [e,Nat.gcd_comm b.toNat,← Nat.gcd_rec,Nat.gcd_comm]
def sg (b:Bool) (n:Int):Int:=if b then -n else n
def okF (p q:Int):Bool:=decide (-9223372036854775808≤p∧p≤9223372036854775807∧q≤9223372036854775807)
def outN (p q:Int):Int:=if okF p q then p else 0
def outD (p q:Int):Int:=if okF p q then q else 0
def outE (p q:Int):Int:=if okF p q then 0 else 10
def rN (p q:Int):Int:=outN (p / gc (sz p) q) (q / gc (sz p) q)
def rD (p q:Int):Int:=outD (p / gc (sz p) q) (q / gc (sz p) q)
def rE (p q:Int):Int:=outE (p / gc (sz p) q) (q / gc (sz p) q)
theorem sz_sg (b:Bool) (n:Int):sz (sg b n)=sz n:=by unfold sz sg;split<;>omega
theorem gc_pos (a b:Int) (hb:0<b):0<gc a b:=by
 unfold gc
 have:0<Nat.gcd a.toNat b.toNat:=Nat.gcd_pos_of_pos_right _ (by omega)
 omega
theorem gc_dvd_left (a b:Int) (ha:0≤a):gc a b∣a:=by
 unfold gc
 have h:=Int.natCast_dvd_natCast.2 (Nat.gcd_dvd_left a.toNat b.toNat)
 have e:((a.toNat:Nat):Int)=a:=by omega
 rwa [e] at h
theorem sg_div (b:Bool) (n g:Int) (h:g∣n):sg b (n / g)=sg b n / g:=by
 unfold sg;split
 ·exact (Int.neg_ediv_of_dvd h).symm
 ·rfl
theorem sg_sz (n:Int) (b:Bool):sg (decide (n<0) != b) (sz n)=sg b n:=by
 unfold sg sz
 by_cases h:n<0<;>cases b<;>simp [h]<;>omega
theorem div_le_self (a g:Int) (ha:0≤a) (hg:0<g):a / g≤a:=by
 have h1:=Int.ediv_mul_le a (show g≠0 by omega)
 have h2:0≤a / g:=Int.ediv_nonneg ha (by omega)
 have h3:a / g*1≤a / g*g:=Int.mul_le_mul_of_nonneg_left (by omega) h2
 omega
end Go.Proofs.YticnfeolbfmgfaaGreatDoor
namespace Go.Proofs.YticnfeolbfmgfaaGreatDoor
open Go.RowKit
theorem ret_int {k:IntKind} {a b:Int} (h:a=b):Ending.returned (.int k a)=.returned (.int k b):=by rw [h]
theorem bdrewN {B:Nat} {a w:World} (n:Nat) (h:Below B a w):Below B a (w.drewN n):=⟨h.os,h.tape,h.output,h.size,h.block⟩
theorem bf {w W w1:World} (h0:Below w.heap.size w W) (hb:Below W.heap.size W w1):
  (∀ b o,b<W.heap.size→w1.cell? ⟨b,o,none⟩=W.cell? ⟨b,o,none⟩)∧(∀ b o,b<W.heap.size→w1.frozen? ⟨b,o,none⟩=W.frozen? ⟨b,o,none⟩)∧W.heap.size≤w1.heap.size∧Below w.heap.size w w1:=
 ⟨fun b o h=>hb.cell (p:=⟨b,o,none⟩) h,fun b o h=>hb.frozen (p:=⟨b,o,none⟩) h,hb.size,h0.trans (hb.mono h0.size)⟩
theorem size_any (n:Int) (w:World) (h1: -9223372036854775808≤n) (h2:n≤9223372036854775807):
  Calls Tryz.prog 215 #[.int .i64 n] w fun e w'=>e=.returned (.int .u64 (sz n))∧w'=w:=by
 by_cases h:n<0
 ·go_enter Tryz.func215,Tryz.ntmps215
  go_wp2
  go_ret
  exact ⟨ret_int (by rw [sz_of_neg h];go_arith),rfl⟩
 ·have h':0≤n:=by omega
  go_enter Tryz.func215,Tryz.ntmps215
  go_wp2
  go_ret
  exact ⟨ret_int (by rw [sz_of_nonneg h']),rfl⟩
theorem divisor_any (a b:Int) (w:World) (ha:0≤a) (hb:0≤b) (ha':a≤18446744073709551615) (hb':b≤18446744073709551615):
  Calls Tryz.prog 216 #[.int .u64 a,.int .u64 b] w fun e w'=>e=.returned (.int .u64 (gc a b))∧∃ k,w'=w.drewN k:=by
 go_enter Tryz.func216,Tryz.ntmps216
 go_wp2
 go_loopw [0,1] (fun u v wr=>∃ x y:Int,0≤x∧0≤y∧x≤18446744073709551615∧y≤18446744073709551615∧Hid (gc x y=gc a b)∧u=.int .u64 x∧v=.int .u64 y∧∃ k,wr=w.drewN k) (fun _ v _=>(intOf v).toNat)
 case atStart=>exact ⟨a,b,ha,hb,ha',hb',rfl,rfl,rfl,0,rfl⟩
 case round=>
  obtain ⟨x,y,hx,hy,hx',hy',hg,rfl,rfl,k,rfl⟩:=hrel
  by_cases hz:y=0
  ·subst hz
   go_wp2
   go_ret
   exact ⟨ret_int (by rw [← hg.out,gc_zero _ hx]),k,rfl⟩
  ·have hz':(y != 0)=true:=by simpa using hz
   have hp:0<y:=by omega
   go_wp2
   go_quiet (fail)
   go_wp2
   exact ⟨⟨y,x % y,hy,Int.emod_nonneg _ hz,hy',by have:=Int.emod_lt_of_pos x hp;omega,(gc_step x y hx hp).trans hg.out,rfl,rfl,k+nq,World.drewN_drewN ..⟩,by have:=Int.emod_lt_of_pos x hp;have:=Int.emod_nonneg x hz;simp [intOf];omega⟩
theorem out_yes {p q:Int} (h1: -9223372036854775808≤p) (h2:p≤9223372036854775807) (h3:q≤9223372036854775807):outN p q=p∧outD p q=q∧outE p q=0:=by
 have h:okF p q=true:=by simp [okF];omega
 simp [outN,outD,outE,h]
theorem out_no {p q:Int} (h:¬ (-9223372036854775808≤p∧p≤9223372036854775807∧q≤9223372036854775807)):outN p q=0∧outD p q=0∧outE p q=10:=by
 have h:okF p q=false:=by simp [okF];omega
 simp [outN,outD,outE,h]
theorem ret_frac {a b c a' b' c':Int} (h1:a=a') (h2:b=b') (h3:c=c'):Ending.returned (.tuple #[.agg #[.int .i64 a,.int .i64 b],.int .i64 c])=Ending.returned (.tuple #[.agg #[.int .i64 a',.int .i64 b'],.int .i64 c']):=by rw [h1,h2,h3]
theorem fit_any (b:Bool) (n d:Int) (w:World) (h0:0≤n) (h1:n≤18446744073709551615) (g0:0≤d) (g1:d≤18446744073709551615):
  Calls Tryz.prog 217 #[.agg #[.bool b,.int .u64 n,.int .u64 d]] w fun e w'=>e=.returned (.tuple #[.agg #[.int .i64 (outN (sg b n) d),.int .i64 (outD (sg b n) d)],.int .i64 (outE (sg b n) d)])∧Below w.heap.size w w':=by
 cases b
 ·by_cases a1:n≤9223372036854775807
  ·by_cases a2:d≤9223372036854775807
   ·obtain ⟨e1,e2,e3⟩:=out_yes (p:=n) (q:=d) (by omega) a1 a2
    have H1:Hid (outN (sg false n) d=n):=e1
    have H2:Hid (outD (sg false n) d=d):=e2
    have H3:Hid (outE (sg false n) d=0):=e3
    clear e1 e2 e3
    go_enter Tryz.func217,Tryz.ntmps217
    go_wp2
    go_returns
    exact ⟨ret_frac H1.out.symm H2.out.symm H3.out.symm,by go_grown⟩
   ·obtain ⟨e1,e2,e3⟩:=out_no (p:=n) (q:=d) (by omega)
    have H1:Hid (outN (sg false n) d=0):=e1
    have H2:Hid (outD (sg false n) d=0):=e2
    have H3:Hid (outE (sg false n) d=10):=e3
    clear e1 e2 e3
    go_enter Tryz.func217,Tryz.ntmps217
    go_wp2
    go_returns
    exact ⟨ret_frac H1.out.symm H2.out.symm H3.out.symm,by go_grown⟩
  ·obtain ⟨e1,e2,e3⟩:=out_no (p:=n) (q:=d) (by omega)
   have H1:Hid (outN (sg false n) d=0):=e1
   have H2:Hid (outD (sg false n) d=0):=e2
   have H3:Hid (outE (sg false n) d=10):=e3
   clear e1 e2 e3
   go_enter Tryz.func217,Tryz.ntmps217
   go_wp2
   go_returns
   exact ⟨ret_frac H1.out.symm H2.out.symm H3.out.symm,by go_grown⟩
 ·by_cases a1:n≤9223372036854775808
  ·by_cases a2:d≤9223372036854775807
   ·obtain ⟨e1,e2,e3⟩:=out_yes (p:= -n) (q:=d) (by omega) (by omega) a2
    have H1:Hid (outN (sg true n) d= -n):=e1
    have H2:Hid (outD (sg true n) d=d):=e2
    have H3:Hid (outE (sg true n) d=0):=e3
    clear e1 e2 e3
    go_enter Tryz.func217,Tryz.ntmps217
    go_wp2
    go_returns
    exact ⟨ret_frac (H1.out.trans (by go_arith)).symm H2.out.symm H3.out.symm,by go_grown⟩
   ·obtain ⟨e1,e2,e3⟩:=out_no (p:= -n) (q:=d) (by omega)
    have H1:Hid (outN (sg true n) d=0):=e1
    have H2:Hid (outD (sg true n) d=0):=e2
    have H3:Hid (outE (sg true n) d=10):=e3
    clear e1 e2 e3
    go_enter Tryz.func217,Tryz.ntmps217
    go_wp2
    go_returns
    exact ⟨ret_frac H1.out.symm H2.out.symm H3.out.symm,by go_grown⟩
  ·obtain ⟨e1,e2,e3⟩:=out_no (p:= -n) (q:=d) (by omega)
   have H1:Hid (outN (sg true n) d=0):=e1
   have H2:Hid (outD (sg true n) d=0):=e2
   have H3:Hid (outE (sg true n) d=10):=e3
   clear e1 e2 e3
   go_enter Tryz.func217,Tryz.ntmps217
   go_wp2
   go_returns
   exact ⟨ret_frac H1.out.symm H2.out.symm H3.out.symm,by go_grown⟩
end Go.Proofs.YticnfeolbfmgfaaGreatDoor
namespace Go.Proofs.YticnfeolbfmgfaaGreatDoor
open Go.RowKit Go.Shelf
theorem szB:(Tryz.prog.info? 153).map (·.size)=some 2:=by kernel_rfl
theorem inB:(Tryz.prog.info? 5).map (fun i=>(i.zero,i.size,i.bytes))=some (some (.int .u8 0),1,1):=by kernel_rfl
theorem ck_used (b:Nat) (w:World) (h0:w.cell? ⟨b,0,none⟩=some (.pointer (some ⟨b,0,none⟩))):
  Calls Tryz.prog 170 #[.pointer (some ⟨b,0,none⟩)] w fun e w'=>e=.returned (.tuple #[])∧w'=w:=by
 obtain ⟨j,hj,_⟩:=Option.map_eq_some_iff.1 szB
 have hr:=Lib.run_neq_ptr_same (P:=Tryz.prog) w ⟨b,0,none⟩ Tryz.underlying151 hj
 go_enter Tryz.func170,Tryz.ntmps170
 go_wp2
 go_end0
 exact ⟨rfl,rfl⟩
theorem ck_fresh (b:Nat) (w:World) (h0:w.cell? ⟨b,0,none⟩=some (.pointer none)) (hsh:w.shape? b=some (153,2)) (hfz:w.frozen? ⟨b,0,none⟩=false):
  Calls Tryz.prog 170 #[.pointer (some ⟨b,0,none⟩)] w fun e w'=>e=.returned (.tuple #[])∧w'=w.setCell ⟨b,0,none⟩ (.pointer (some ⟨b,0,none⟩)):=by
 obtain ⟨j,hj,hjs⟩:=Option.map_eq_some_iff.1 szB
 have r1:=Lib.run_to_unsafe (P:=Tryz.prog) w ⟨b,0,none⟩ Tryz.underlying151 Tryz.underlying215 hj (by rw [hjs];decide) hsh (Nat.zero_lt_succ 1)
 have r3:=Lib.run_from_unsafe (P:=Tryz.prog) w ⟨b,0,none⟩ Tryz.underlying215 Tryz.underlying151 hj hsh (by kernel_rfl)
 go_enter Tryz.func170,Tryz.ntmps170
 have r2:(callFunc 200 #[.pointer (some ⟨b,0,none⟩)]).run Tryz.prog w=.ok (.value (.pointer (some ⟨b,0,none⟩))) w:=by
  rw [run_callFunc_extern Tryz.func200 (by kernel_rfl) (by kernel_rfl) (by kernel_rfl) (e:=Extern.AbiNoEscape.same) (by kernel_rfl),Lib.run_noEscape]
  rfl
 go_wp2
 go_end0
 exact ⟨rfl,rfl⟩
theorem ck (B b:Nat) (bs:List Value) (w:World) (h:Lib.IsBuilder 153 5 B b bs w):
  Calls Tryz.prog 170 #[.pointer (some ⟨b,0,none⟩)] w fun e w'=>e=.returned (.tuple #[])∧Lib.BuilderAt 153 5 B b (.pointer (some ⟨b,0,none⟩)) bs w'∧Below B w w':=by
 rcases h with h | h
 ·refine (ck_fresh b w h.cell0 h.shape h.frozen0).mono ?_
  rintro e w' ⟨rfl,rfl⟩
  exact ⟨rfl,h.used _,(Below.refl B w).setCell (p:=⟨b,0,none⟩) h.1 _⟩
 ·refine (ck_used b w h.cell0).mono ?_
  rintro e w' ⟨rfl,rfl⟩
  exact ⟨rfl,h,Below.refl B _⟩
theorem wbyte (B b:Nat) (bs:List Value) (c:Int) (w:World) (h:Lib.IsBuilder 153 5 B b bs w) (hlen:bs.length+1≤140737488355328) (hBw:B≤w.heap.size):
  Calls Tryz.prog 207 #[.pointer (some ⟨b,0,none⟩),.int .u8 c] w fun e w'=>e=.returned .nilIface∧Lib.BuilderAt 153 5 B b (.pointer (some ⟨b,0,none⟩)) (bs++[.int .u8 c]) w'∧Below B w w':=by
 obtain ⟨i0,hi,hz0,hz1,hz2⟩:=info_parts inB
 go_enter Tryz.func207,Tryz.ntmps207
 go_wp2_with (go_at_call 170;refine (ck B b bs _ h).mono ?_)
 rintro e w1 ⟨rfl,⟨hB,v,hbk,hown,hne⟩,hb1⟩
 have s1:=hb1.size
 have c1:w1.cell? ⟨b,1,none⟩=some v:=by rw [Lib.cell_of_heap hbk];rfl
 go_wp2_with (at_builtin;refine wpList_append_own _ rfl _ _ 48 rfl B 5 i0 (.int .u8 0) 1 1 Tryz.underlying48 hi hz0 hz1 hz2 rfl (by decide) _ _ _ rfl (hown.alloc _) ⟨w1.heap.size,0,none⟩ 1 1 [.int .u8 c] rfl rfl ?c1 ?c2 ?c3 ?c4 ?c5 ?_)
 case c1=>
  intro j u hj
  match j,hj with
  | 0,hj=>simp at hj;subst hj;simp [Addr.add]
 case c2=>intro u hu;simp at hu;subst hu;rfl
 case c3=>unfold maxLen;omega
 case c4=>omega
 case c5=>simp;omega
 intro v' w2 hown' hgrow _
 have hlt:b<w1.heap.size:=Lib.BuilderAt.lt ⟨hB,v,hbk,hown,hne⟩
 have hb2:w2.heap[b]? =some (.cells #[.pointer (some ⟨b,0,none⟩),v] 153 (0,0)):=by
  rw [hgrow.block b (by simp;omega) (fun e=>hne e.symm),Lib.alloc_old w1 _ b hlt]
  exact hbk
 have d1:w2.cell? ⟨b,1,none⟩=some v:=by rw [Lib.cell_of_heap hb2];rfl
 have f1:w2.frozen? ⟨b,1,none⟩=false:=Lib.frozen_of_heap hb2 1
 obtain ⟨g,cap,rfl⟩:∃ g cap,v'=.slice (some ⟨g,0,none⟩) (bs.length+1) cap:=by
  rcases hown'.2 with ⟨_,h0⟩ | ⟨g,cap,cur,hv,_⟩
  ·omega
  ·exact ⟨g,cap,hv⟩
 go_wp2
 go_ret
 refine ⟨rfl, ?_, ?_⟩
 ·exact Lib.BuilderAt.put (T:=153) (e:=5) hB hb2 (bs':=bs++[.int .u8 c]) (by simpa using hown') (by decide)
 ·exact ((hb1.alloc (by omega) _).grown hgrow (by simp;omega) (fun k hk=>(hown.lt k hk).1)).setCell (p:=⟨b,1,none⟩) hB _
theorem wstr (B b:Nat) (bs:List Value) (s:ByteArray) (w:World) (h:Lib.IsBuilder 153 5 B b bs w) (hlen:bs.length+s.size≤140737488355328) (hBw:B≤w.heap.size):
  Calls Tryz.prog 129 #[.pointer (some ⟨b,0,none⟩),.string s] w fun e w'=>e=.returned (.tuple #[.int .i64 s.size,.nilIface])∧Lib.BuilderAt 153 5 B b (.pointer (some ⟨b,0,none⟩)) (bs++Lib.strCells s) w'∧Below B w w':=by
 obtain ⟨i0,hi,hz0,hz1,hz2⟩:=info_parts inB
 go_enter Tryz.func129,Tryz.ntmps129
 go_wp2_with (go_at_call 170;refine (ck B b bs _ h).mono ?_)
 rintro e w1 ⟨rfl,⟨hB,v,hbk,hown,hne⟩,hb1⟩
 have s1:=hb1.size
 have c1:w1.cell? ⟨b,1,none⟩=some v:=by rw [Lib.cell_of_heap hbk];rfl
 go_wp2_with (at_builtin;refine Lib.wpList_append_own_string _ rfl _ _ 48 9 rfl B 5 i0 Tryz.underlying48 Tryz.underlying9 hi hz0 hz1 hz2 _ _ _ rfl hown s rfl ?c3 ?c4 ?c5 ?_)
 case c3=>unfold maxLen;omega
 case c4=>omega
 case c5=>omega
 intro v' w2 hown' hgrow _
 have hlt:b<w1.heap.size:=Lib.BuilderAt.lt ⟨hB,v,hbk,hown,hne⟩
 have hb2:w2.heap[b]? =some (.cells #[.pointer (some ⟨b,0,none⟩),v] 153 (0,0)):=by
  rw [hgrow.block b hlt (fun e=>hne e.symm)]
  exact hbk
 have d1:w2.cell? ⟨b,1,none⟩=some v:=by rw [Lib.cell_of_heap hb2];rfl
 have f1:w2.frozen? ⟨b,1,none⟩=false:=Lib.frozen_of_heap hb2 1
 obtain ⟨ao,n',cap,rfl⟩:∃ ao n' cap,v'=.slice ao n' cap:=by
  rcases hown'.2 with ⟨hv,_⟩ | ⟨g,cap,cur,hv,_⟩
  ·exact ⟨_,_,_,hv⟩
  ·exact ⟨_,_,_,hv⟩
 go_wp2
 go_ret2
 refine ⟨rfl, ?_, ?_⟩
 ·exact Lib.BuilderAt.put (T:=153) (e:=5) hB hb2 (bs':=bs++Lib.strCells s) (by simpa [Lib.strCells_length] using hown') (by decide)
 ·exact (hb1.grown hgrow (by omega) (fun k hk=>(hown.lt k hk).1)).setCell (p:=⟨b,1,none⟩) hB _
end Go.Proofs.YticnfeolbfmgfaaGreatDoor
namespace Go.Proofs.YticnfeolbfmgfaaGreatDoor
open Go.RowKit Go.Shelf
set_option linter.unusedVariables false
theorem own_neX {w:World} {B e e' size n T:Nat} {v:Value} {xs:List Value} {cur:Array Value} {fr:Nat×Nat} (h:w.ownsRow B e size v n xs) (hT:w.heap[T]? =some (.cells cur e' fr)) (hne:e≠e'):v.ownBlock≠some T:=by
 intro hv
 obtain ⟨-,⟨rfl, -⟩ | ⟨g,cap,cur',rfl, -,hg, -⟩⟩:=h
 ·cases hv
 ·injection hv with hv
  have hv':g=T:=hv
  subst hv'
  rw [hg] at hT
  injection hT with hT
  injection hT with _ h2 _
  exact hne h2
end Go.Proofs.YticnfeolbfmgfaaGreatDoor
namespace Go.Proofs.YticnfeolbfmgfaaGreatDoor
namespace LX
def digN (n:Nat):Bool:=decide (48≤n) && decide (n≤57)
def lowN (n:Nat):Bool:=decide (97≤n) && decide (n≤122)
def inwN (n:Nat):Bool:=lowN n || digN n || n==95
def hd:List UInt8→Nat
 | []=>0
 | c::_=>c.toNat
def run (p:Nat→Bool):List UInt8→Nat
 | []=>0
 | c::t=>if p c.toNat then run p t+1 else 0
def numLen (l:List UInt8):Nat:=
 if hd (l.drop (run digN l))=47∧digN (hd (l.drop (run digN l+1)))=true then run digN l+1+run digN (l.drop (run digN l+1)) else run digN l
def brk:List UInt8→Option Nat
 | []=>none
 | c::t=>if c.toNat=93 then some 1 else (brk t).map (·+1)
def qend:Bool→List UInt8→Option Nat
 | _,[]=>none
 | true,_::t=>(qend false t).map (·+1)
 | false,c::t=>if c.toNat=34 then some 1 else (qend (c.toNat==92) t).map (·+1)
def beh:List UInt8→Nat×Nat
 | []=>(0,0)
 | c::t=>
  if c.toNat=40 then (1,1) else if c.toNat=41 then (2,1) else if lowN c.toNat then (3,1+run inwN t)
  else if digN c.toNat || (c.toNat==45 && digN (hd t)) then (6,1+numLen t)
  else if c.toNat=60∧hd t=61 then (4,2)
  else if c.toNat=61∨c.toNat=43∨c.toNat=42∨c.toNat=60∨c.toNat=45 then (4,1)
  else if c.toNat=91 then ((brk t).elim (0,0) fun k=>(5,1+k))
  else if c.toNat=34 then ((qend false t).elim (0,0) fun k=>(6,1+k))
  else if c.toNat=64 then (7,1+run digN t)
  else (0,0)
theorem beh_cons (c:UInt8) (t:List UInt8):beh (c::t)=
  if c.toNat=40 then (1,1) else if c.toNat=41 then (2,1) else if lowN c.toNat then (3,1+run inwN t)
  else if digN c.toNat || (c.toNat==45 && digN (hd t)) then (6,1+numLen t)
  else if c.toNat=60∧hd t=61 then (4,2)
  else if c.toNat=61∨c.toNat=43∨c.toNat=42∨c.toNat=60∨c.toNat=45 then (4,1)
  else if c.toNat=91 then ((brk t).elim (0,0) fun k=>(5,1+k))
  else if c.toNat=34 then ((qend false t).elim (0,0) fun k=>(6,1+k))
  else if c.toNat=64 then (7,1+run digN t)
  else (0,0):=rfl
theorem run_le (p:Nat→Bool) (l:List UInt8):run p l≤l.length:=by
 induction l with
 | nil=>simp [run]
 | cons c t ih=>simp only [run];split<;>simp;exact ih
theorem brk_le (l:List UInt8) (k:Nat) (h:brk l=some k):1≤k∧k≤l.length:=by
 induction l generalizing k with
 | nil=>simp [brk] at h
 | cons c t ih=>
  simp only [brk] at h
  split at h
  ·cases h;simp
  ·cases hb:brk t with
   | none=>simp [hb] at h
   | some j=>simp [hb] at h;have:=ih j hb;simp;omega
theorem qend_le (b:Bool) (l:List UInt8) (k:Nat) (h:qend b l=some k):1≤k∧k≤l.length:=by
 induction l generalizing k b with
 | nil=>cases b<;>simp [qend] at h
 | cons c t ih=>
  cases b with
  | true=>
   simp only [qend] at h
   cases hb:qend false t with
   | none=>simp [hb] at h
   | some j=>simp [hb] at h;have:=ih false j hb;simp;omega
  | false=>
   simp only [qend] at h
   split at h
   ·cases h;simp
   ·cases hb:qend (c.toNat==92) t with
    | none=>simp [hb] at h
    | some j=>simp [hb] at h;have:=ih _ j hb;simp;omega
theorem numLen_le (l:List UInt8):numLen l≤l.length:=by
 unfold numLen
 have h1:=run_le digN l
 split
 ·rename_i h
  have h2:=run_le digN (l.drop (run digN l+1))
  have h3:run digN l+1<l.length:=by
   apply Classical.byContradiction
   intro h3
   have:l.drop (run digN l+1)=[]:=List.drop_eq_nil_of_le (by omega)
   rw [this] at h
   simp [hd,digN] at h
  simp at h2
  omega
 ·exact h1
theorem beh_le (l:List UInt8) (h:(beh l).1≠0):1≤(beh l).2∧(beh l).2≤l.length:=by
 cases l with
 | nil=>simp [beh] at h
 | cons c t=>
  have h1:=run_le inwN t
  have h2:=run_le digN t
  have h3:=numLen_le t
  revert h
  rw [beh_cons]
  split
  ·intro _;simp
  split
  ·intro _;simp
  split
  ·intro _;simp;omega
  split
  ·intro _;simp;omega
  split
  ·rename_i h5;intro _
   cases t with
   | nil=>simp [hd] at h5
   | cons=>simp
  split
  ·intro _;simp
  split
  ·cases hb:brk t with
   | none=>simp
   | some k=>intro _;have:=brk_le t k hb;simp;omega
  split
  ·cases hb:qend false t with
   | none=>simp
   | some k=>intro _;have:=qend_le false t k hb;simp;omega
  split
  ·intro _;simp;omega
  ·simp
theorem run_take (p:Nat→Bool) (l:List UInt8) (m:Nat) (h:run p l≤m):run p (l.take m)=run p l:=by
 induction l generalizing m with
 | nil=>simp [run]
 | cons c t ih=>
  cases m with
  | zero=>simp only [run] at h ⊢;split<;>simp_all [run]
  | succ m=>
   simp only [run,List.take_succ_cons] at h ⊢
   split
   ·rename_i hc;simp [hc] at h;rw [ih m h]
   ·rfl
theorem brk_app (l r:List UInt8) (k:Nat) (h:brk l=some k):brk (l.take k++r)=some k:=by
 induction l generalizing k with
 | nil=>simp [brk] at h
 | cons c t ih=>
  simp only [brk] at h
  split at h
  ·rename_i hc;cases h;simp [brk,hc]
  ·rename_i hc
   cases hb:brk t with
   | none=>simp [hb] at h
   | some j=>simp [hb] at h;subst h;simp [brk,hc,ih j hb]
theorem qend_app (b:Bool) (l r:List UInt8) (k:Nat) (h:qend b l=some k):qend b (l.take k++r)=some k:=by
 induction l generalizing k b with
 | nil=>cases b<;>simp [qend] at h
 | cons c t ih=>
  cases b with
  | true=>
   simp only [qend] at h
   cases hb:qend false t with
   | none=>simp [hb] at h
   | some j=>simp [hb] at h;subst h;simp [qend,ih _ j hb]
  | false=>
   simp only [qend] at h
   split at h
   ·rename_i hc;cases h;simp [qend,hc]
   ·rename_i hc
    cases hb:qend (c.toNat==92) t with
    | none=>simp [hb] at h
    | some j=>simp [hb] at h;subst h;simp only [List.take_succ_cons,List.cons_append,qend,if_neg hc,ih _ j hb];rfl
theorem take_split (l:List UInt8) (k m:Nat) (h:k≤m):l.take m=l.take k++(l.drop k).take (m - k):=by
 rw [← List.take_append_drop k (l.take m),List.take_take,List.drop_take,Nat.min_eq_left h]
theorem hd_take (l:List UInt8) (m:Nat) (h:0<m):hd (l.take m)=hd l:=by
 cases l<;>cases m<;>simp_all [hd]
theorem numLen_take (l:List UInt8) (m:Nat) (h:numLen l≤m):numLen (l.take m)=numLen l:=by
 have hr:run digN l≤m:=by
  unfold numLen at h
  split at h<;>omega
 unfold numLen at h ⊢
 rw [run_take digN l m hr,List.drop_take,List.drop_take]
 split at h
 ·rename_i hc
  have h1:run digN l+1+1≤m:=by
   have:run digN (l.drop (run digN l+1))≠0:=by
    cases hl:l.drop (run digN l+1) with
    | nil=>rw [hl] at hc;simp [hd,digN] at hc
    | cons c t=>rw [hl] at hc;simp [run];exact hc.2
   omega
  rw [hd_take _ _ (by omega),hd_take _ _ (by omega),if_pos hc,if_pos hc,run_take]
  omega
 ·rename_i hc
  rw [if_neg hc,if_neg]
  intro hx
  apply hc
  have h0:0<m - run digN l:=by
   apply Classical.byContradiction;intro h0
   have:m - run digN l=0:=by omega
   rw [this] at hx;simp [hd] at hx
  have h1:0<m - (run digN l+1):=by
   apply Classical.byContradiction;intro h1
   have:m - (run digN l+1)=0:=by omega
   rw [this] at hx;simp [hd,digN] at hx
  rw [hd_take _ _ h0,hd_take _ _ h1] at hx
  exact hx
theorem beh_take (l:List UInt8) (m:Nat) (h:(beh l).1≠0) (hm:(beh l).2≤m):beh (l.take m)=beh l:=by
 cases l with
 | nil=>simp [beh] at h
 | cons c t=>
  have hpos:=(beh_le (c::t) h).1
  obtain ⟨j,rfl⟩:∃ j,m=j+1:=⟨m - 1,by omega⟩
  rw [List.take_succ_cons]
  by_cases h1:c.toNat=40
  ·simp [beh,h1]
  by_cases h2:c.toNat=41
  ·simp [beh,h2]
  by_cases h3:lowN c.toNat=true
  ·have e:beh (c::t)=(3,1+run inwN t):=by simp [beh_cons,h1,h2,h3]
   rw [e] at hm ⊢
   dsimp only at hm
   simp [beh_cons,h1,h2,h3,run_take inwN t j (by omega)]
  by_cases h4:digN c.toNat=true∨(c.toNat=45∧digN (hd t)=true)
  ·have e:beh (c::t)=(6,1+numLen t):=by simp [beh_cons,h1,h2,h3,h4]
   rw [e] at hm ⊢
   dsimp only at hm
   have h4':digN c.toNat=true∨(c.toNat=45∧digN (hd (t.take j))=true):=by
    rcases h4 with h4 | ⟨h4,h5⟩
    ·exact .inl h4
    ·refine .inr ⟨h4, ?_⟩
     have:numLen t≠0:=by
      cases t with
      | nil=>simp [hd,digN] at h5
      | cons a b=>
       have:run digN (a::b)≠0:=by simp [run];simpa [hd] using h5
       unfold numLen;split<;>omega
     rw [hd_take _ _ (by omega)]
     exact h5
   simp [beh_cons,h1,h2,h3,h4',numLen_take t j (by omega)]
  by_cases h5:c.toNat=60∧hd t=61
  ·have e:beh (c::t)=(4,2):=by rw [beh_cons];simp_all
   rw [e] at hm ⊢
   dsimp only at hm
   have h5':c.toNat=60∧hd (t.take j)=61:=by rw [hd_take _ _ (by omega)];exact h5
   rw [beh_cons]
   rw [if_neg h1,if_neg h2,if_neg h3,if_neg (by simp [h5.1];decide),if_pos h5']
  by_cases h6:c.toNat=61∨c.toNat=43∨c.toNat=42∨c.toNat=60∨c.toNat=45
  ·have e:beh (c::t)=(4,1):=by rw [beh_cons];rw [if_neg h1,if_neg h2,if_neg h3,if_neg (by simpa using h4),if_neg h5,if_pos h6]
   rw [e]
   have hj:hd (t.take j)=0∨hd (t.take j)=hd t:=by
    cases j with
    | zero=>left;simp [hd]
    | succ j=>right;exact hd_take _ _ (by omega)
   rw [beh_cons]
   rw [if_neg h1,if_neg h2,if_neg h3,if_neg,if_neg,if_pos h6]
   ·rcases hj with hj | hj<;>rw [hj]
    ·simp
    ·exact h5
   ·rcases hj with hj | hj<;>rw [hj]
    ·simp at h4 ⊢;exact ⟨h4.1,fun _=>by decide⟩
    ·simpa using h4
  by_cases h7:c.toNat=91
  ·cases hb:brk t with
   | none=>exfalso;apply h;rw [beh_cons];rw [if_neg h1,if_neg h2,if_neg h3,if_neg (by simpa using h4),if_neg h5,if_neg h6,if_pos h7,hb];rfl
   | some k=>
    have e:beh (c::t)=(5,1+k):=by rw [beh_cons];rw [if_neg h1,if_neg h2,if_neg h3,if_neg (by simpa using h4),if_neg h5,if_neg h6,if_pos h7,hb];rfl
    rw [e] at hm ⊢
    dsimp only at hm
    have hb2:=brk_app t ((t.drop k).take (j - k)) k hb
    rw [← take_split t k j (by omega)] at hb2
    rw [beh_cons]
    rw [if_neg h1,if_neg h2,if_neg h3,if_neg (by simp [h7];decide),if_neg (by omega),if_neg h6,if_pos h7,hb2]
    rfl
  by_cases h8:c.toNat=34
  ·cases hb:qend false t with
   | none=>exfalso;apply h;rw [beh_cons];rw [if_neg h1,if_neg h2,if_neg h3,if_neg (by simpa using h4),if_neg h5,if_neg h6,if_neg h7,if_pos h8,hb];rfl
   | some k=>
    have e:beh (c::t)=(6,1+k):=by rw [beh_cons];rw [if_neg h1,if_neg h2,if_neg h3,if_neg (by simpa using h4),if_neg h5,if_neg h6,if_neg h7,if_pos h8,hb];rfl
    rw [e] at hm ⊢
    dsimp only at hm
    have hb2:=qend_app false t ((t.drop k).take (j - k)) k hb
    rw [← take_split t k j (by omega)] at hb2
    rw [beh_cons]
    rw [if_neg h1,if_neg h2,if_neg h3,if_neg (by simp [h8];decide),if_neg (by omega),if_neg h6,if_neg h7,if_pos h8,hb2]
    rfl
  by_cases h9:c.toNat=64
  ·have e:beh (c::t)=(7,1+run digN t):=by rw [beh_cons];rw [if_neg h1,if_neg h2,if_neg h3,if_neg (by simpa using h4),if_neg h5,if_neg h6,if_neg h7,if_neg h8,if_pos h9]
   rw [e] at hm ⊢
   dsimp only at hm
   rw [beh_cons]
   rw [if_neg h1,if_neg h2,if_neg h3,if_neg (by simp [h9];decide),if_neg (by omega),if_neg h6,if_neg h7,if_neg h8,if_pos h9,run_take digN t j (by omega)]
  ·exfalso;apply h;rw [beh_cons];rw [if_neg h1,if_neg h2,if_neg h3,if_neg (by simpa using h4),if_neg h5,if_neg h6,if_neg h7,if_neg h8,if_neg h9]
def blk (c:UInt8):Bool:=c.toNat==32 || c.toNat==10
structure Tok (V:Type) where
 k:Nat
 at_:Nat
 x:List UInt8
 v:V
section
variable {V:Type} (sd:Nat→List UInt8→V×Bool)
def fine (l:List UInt8):Prop:=(beh l).1≠0∧(sd (beh l).1 (l.take (beh l).2)).2=true
instance (l:List UInt8):Decidable (fine sd l):=inferInstanceAs (Decidable (_∧_))
def tokAt (l:List UInt8) (p:Nat):Tok V:=⟨(beh l).1,p,l.take (beh l).2,(sd (beh l).1 (l.take (beh l).2)).1⟩
def toks:Nat→List UInt8→Nat→List (Tok V)×Option Nat
 | 0,_,_=>([],none)
 | _+1,[],_=>([],none)
 | f+1,c::t,p=>
  if blk c then toks f t (p+1)
  else if fine sd (c::t) then (tokAt sd (c::t) p::(toks f ((c::t).drop (beh (c::t)).2) (p+(beh (c::t)).2)).1,(toks f ((c::t).drop (beh (c::t)).2) (p+(beh (c::t)).2)).2)
  else ([],some p)
theorem toks_fuel (f g:Nat) (l:List UInt8) (p:Nat) (hf:l.length≤f) (hg:l.length≤g):toks sd f l p=toks sd g l p:=by
 induction f generalizing g l p with
 | zero=>
  have:l=[]:=List.length_eq_zero_iff.mp (by omega)
  subst this
  cases g<;>simp [toks]
 | succ f ih=>
  cases l with
  | nil=>cases g<;>simp [toks]
  | cons c t=>
   cases g with
   | zero=>simp at hg
   | succ g=>
    simp at hf hg
    simp only [toks]
    rw [ih g t (p+1) hf hg]
    split
    ·rfl
    split
    ·rename_i h
     have h1:=beh_le _ h.1
     have h2:((c::t).drop (beh (c::t)).2).length≤t.length:=by simp;omega
     rw [ih g ((c::t).drop (beh (c::t)).2) (p+(beh (c::t)).2) (by omega) (by omega)]
    ·rfl
def T (l:List UInt8) (p:Nat):List (Tok V)×Option Nat:=toks sd l.length l p
theorem T_nil (p:Nat):T sd [] p=([],none):=rfl
theorem T_blank {c:UInt8} (t:List UInt8) (p:Nat) (h:blk c=true):T sd (c::t) p=T sd t (p+1):=by
 simp [T,toks,h]
theorem T_tok {c:UInt8} {t:List UInt8} (p:Nat) (h:blk c=false) (hf:fine sd (c::t)):
  T sd (c::t) p=(tokAt sd (c::t) p::(T sd ((c::t).drop (beh (c::t)).2) (p+(beh (c::t)).2)).1,(T sd ((c::t).drop (beh (c::t)).2) (p+(beh (c::t)).2)).2):=by
 have h1:=beh_le _ hf.1
 have h2:((c::t).drop (beh (c::t)).2).length≤t.length:=by simp;omega
 simp only [T]
 rw [show (c::t).length=t.length+1 from rfl]
 simp only [toks,h,if_pos hf]
 rw [toks_fuel sd t.length _ ((c::t).drop (beh (c::t)).2) _ h2 (Nat.le_refl _)]
 rfl
theorem T_none {c:UInt8} {t:List UInt8} (p:Nat) (h:blk c=false) (hf:¬ fine sd (c::t)):T sd (c::t) p=([],some p):=by
 simp [T,toks,h,hf]
theorem T_cases (l:List UInt8) (p:Nat):
  ((∀ c∈l,blk c=true)∧T sd l p=([],none))
  ∨(∃ b,b<l.length∧(∀ c∈l.take b,blk c=true)∧hd (l.drop b)≠32∧hd (l.drop b)≠10∧fine sd (l.drop b)∧T sd l p=(tokAt sd (l.drop b) (p+b)::(T sd (l.drop (b+(beh (l.drop b)).2)) (p+b+(beh (l.drop b)).2)).1,(T sd (l.drop (b+(beh (l.drop b)).2)) (p+b+(beh (l.drop b)).2)).2))
  ∨(∃ b,b<l.length∧(∀ c∈l.take b,blk c=true)∧hd (l.drop b)≠32∧hd (l.drop b)≠10∧¬ fine sd (l.drop b)∧T sd l p=([],some (p+b))):=by
 induction l generalizing p with
 | nil=>left;exact ⟨by simp,rfl⟩
 | cons c t ih=>
  cases hb:blk c with
  | true=>
   rw [T_blank sd t p hb]
   rcases ih (p+1) with ⟨h1,h2⟩ | ⟨b,h1,h2,h2a,h2b,h3,h4⟩ | ⟨b,h1,h2,h2a,h2b,h3,h4⟩
   ·left;exact ⟨by intro x hx;cases hx with | head=>exact hb | tail _ h=>exact h1 x h,h2⟩
   ·right;left
    refine ⟨b+1,by simp;omega, ?_,h2a,h2b,h3, ?_⟩
    ·intro x hx
     rw [List.take_succ_cons] at hx
     cases hx with | head=>exact hb | tail _ h=>exact h2 x h
    ·rw [h4,show b+1+(beh ((c::t).drop (b+1))).2=b+(beh (t.drop b)).2+1 by simp;omega]
     simp only [List.drop_succ_cons]
     rw [show p+1+b=p+(b+1) by omega]
   ·right;right
    refine ⟨b+1,by simp;omega, ?_,h2a,h2b,h3, ?_⟩
    ·intro x hx
     rw [List.take_succ_cons] at hx
     cases hx with | head=>exact hb | tail _ h=>exact h2 x h
    ·rw [h4,show p+1+b=p+(b+1) by omega]
  | false=>
   have hn:c.toNat≠32∧c.toNat≠10:=by simpa [blk] using hb
   by_cases hf:fine sd (c::t)
   ·right;left
    refine ⟨0,by simp,by simp,hn.1,hn.2,hf, ?_⟩
    rw [T_tok sd p hb hf];simp
   ·right;right
    exact ⟨0,by simp,by simp,hn.1,hn.2,hf,T_none sd p hb hf⟩
theorem T_blanks (b r:List UInt8) (p:Nat) (h:∀ c∈b,blk c=true):T sd (b++r) p=T sd r (p+b.length):=by
 induction b generalizing p with
 | nil=>rfl
 | cons c t ih=>
  rw [List.cons_append,T_blank sd _ _ (h c (by simp)),ih (p+1) (fun x hx=>h x (by simp [hx]))]
  simp;congr 1;omega
theorem blk_of {l:List UInt8} (h0:l≠[]) (h1:hd l≠32) (h2:hd l≠10):∃ c t,l=c::t∧blk c=false:=by
 cases l with
 | nil=>exact absurd rfl h0
 | cons c t=>exact ⟨c,t,rfl,by simp [blk];simpa [hd] using ⟨h1,h2⟩⟩
theorem T_tok' {l:List UInt8} (p:Nat) (h0:l≠[]) (h1:hd l≠32) (h2:hd l≠10) (hf:fine sd l):
  T sd l p=(tokAt sd l p::(T sd (l.drop (beh l).2) (p+(beh l).2)).1,(T sd (l.drop (beh l).2) (p+(beh l).2)).2):=by
 obtain ⟨c,t,rfl,hb⟩:=blk_of h0 h1 h2
 exact T_tok sd p hb hf
theorem T_none' {l:List UInt8} (p:Nat) (h0:l≠[]) (h1:hd l≠32) (h2:hd l≠10) (hf:¬ fine sd l):T sd l p=([],some p):=by
 obtain ⟨c,t,rfl,hb⟩:=blk_of h0 h1 h2
 exact T_none sd p hb hf
theorem fine_take (l:List UInt8) (m:Nat) (hm:(beh l).2≤m) (h:fine sd l):fine sd (l.take m)∧(∀ p,tokAt sd (l.take m) p=tokAt sd l p):=by
 have e:=beh_take l m h.1 hm
 refine ⟨?_,fun p=> ?_⟩
 ·unfold fine;rw [e,List.take_take,Nat.min_eq_left hm];exact h
 ·unfold tokAt;rw [e,List.take_take,Nat.min_eq_left hm]
theorem T_ahead (n:Nat) (l:List UInt8) (hn:l.length≤n) (p q:Nat) (h:(T sd l p).2=some q):
  p≤q∧q - p<l.length∧(T sd (l.take (q - p)) p).2=none∧T sd (l.drop (q - p)) 0=([],some 0):=by
 induction n generalizing l p with
 | zero=>
  have:l=[]:=List.length_eq_zero_iff.mp (by omega)
  subst this
  simp [T,toks] at h
 | succ n ih=>
  rcases T_cases sd l p with ⟨h1,h2⟩ | ⟨b,h1,h2,h2a,h2b,h3,h4⟩ | ⟨b,h1,h2,h2a,h2b,h3,h4⟩
  ·rw [h2] at h;cases h
  ·rw [h4] at h
   have hle:=beh_le _ h3.1
   have hl:(l.drop b).length=l.length - b:=by simp
   have hne:l.drop b≠[]:=by intro x;rw [x] at hl;simp at hl;omega
   obtain ⟨m,hm⟩:∃ m,(beh (l.drop b)).2=m:=⟨_,rfl⟩
   rw [hm] at h h4 hle
   dsimp only at h
   obtain ⟨g1,g2,g3,g4⟩:=ih (l.drop (b+m)) (by simp;omega) (p+b+m) h
   simp only [List.length_drop] at g2
   refine ⟨by omega,by omega, ?_, ?_⟩
   ·have e1:l.take (q - p)=l.take b++(l.drop b).take (q - p - b):=take_split l b (q - p) (by omega)
    rw [e1,T_blanks sd _ _ _ h2]
    have hlb:(l.take b).length=b:=by simp;omega
    rw [hlb]
    obtain ⟨f1,f2⟩:=fine_take sd (l.drop b) (q - p - b) (by omega) h3
    have hd1:hd ((l.drop b).take (q - p - b))=hd (l.drop b):=hd_take _ _ (by omega)
    have e2:beh ((l.drop b).take (q - p - b))=beh (l.drop b):=beh_take _ _ h3.1 (by omega)
    rw [T_tok' sd (p+b) (by intro x;rw [x] at hd1;have:=f1.1;rw [x] at this;simp [beh] at this) (by rw [hd1];exact h2a) (by rw [hd1];exact h2b) f1]
    rw [e2,hm,List.drop_take,List.drop_drop]
    dsimp only
    rw [show q - p - b - m=q - (p+b+m) by omega]
    exact g3
   ·rw [List.drop_drop] at g4
    rw [show q - p=b+m+(q - (p+b+m)) by omega]
    exact g4
  ·rw [h4] at h
   have hq:q=p+b:=by simpa using h.symm
   subst hq
   have hne:l.drop b≠[]:=by
    intro x
    have:(l.drop b).length=l.length - b:=by simp
    rw [x] at this;simp at this;omega
   rw [show p+b - p=b by omega]
   refine ⟨by omega,h1, ?_,T_none' sd 0 hne h2a h2b h3⟩
   have:=T_blanks sd (l.take b) [] p h2
   rw [List.append_nil] at this
   rw [this];rfl
structure Good (t:Tok V):Prop where
 k:t.k≠0
 b:beh t.x=(t.k,t.x.length)
 s:sd t.k t.x=(t.v,true)
theorem good_at (l:List UInt8) (p:Nat) (h:fine sd l):Good sd (tokAt sd l p):=by
 have hle:=beh_le l h.1
 refine ⟨h.1, ?_, ?_⟩
 ·show beh (l.take (beh l).2)=((beh l).1,(l.take (beh l).2).length)
  rw [beh_take l _ h.1 (Nat.le_refl _),List.length_take,Nat.min_eq_left hle.2]
 ·show sd (beh l).1 (l.take (beh l).2)=((sd (beh l).1 (l.take (beh l).2)).1,true)
  rw [← h.2]
theorem T_good (n:Nat) (l:List UInt8) (hn:l.length≤n) (p:Nat):∀ t∈(T sd l p).1,Good sd t:=by
 induction n generalizing l p with
 | zero=>
  have:l=[]:=List.length_eq_zero_iff.mp (by omega)
  subst this
  simp [T,toks]
 | succ n ih=>
  rcases T_cases sd l p with ⟨h1,h2⟩ | ⟨b,h1,h2,h2a,h2b,h3,h4⟩ | ⟨b,h1,h2,h2a,h2b,h3,h4⟩
  ·rw [h2];simp
  ·rw [h4]
   have hle:=beh_le _ h3.1
   intro t ht
   cases ht with
   | head=>exact good_at sd _ _ h3
   | tail _ ht=>exact ih _ (by simp;omega) _ t ht
  ·rw [h4];simp
end
end LX
end Go.Proofs.YticnfeolbfmgfaaGreatDoor
namespace Go.Proofs.YticnfeolbfmgfaaGreatDoor
open LX
set_option linter.unusedVariables false
def resv:List (List UInt8):=[[116,114,117,101],[102,97,108,115,101],[110,111,116],[97,110,100],[111,114],[101,120,105,115,116,115],[112,114,101,118],[110,101,120,116],[111,110,99,101],[115,111,111,110],[115,105,110,99,101],[117,110,116,105,108],[98,101,102,111,114,101],[97,102,116,101,114],[97,103,103],[108,101,116],[108,101,116,112,97,115,116],[106,111,105,110],[97,110,121],[116,101,115,116],[97,108,116],[115,101,113],[115,116,97,114]]
def inAll:List UInt8→Bool
 | []=>true
 | c::l=>inwN c.toNat && inAll l
def nameL (l:List UInt8):Bool:=decide (1≤l.length) && decide (l.length≤16) && lowN (hd l) && !resv.contains l && inAll l
def nameB (s:ByteArray):Bool:=nameL s.data.toList
end Go.Proofs.YticnfeolbfmgfaaGreatDoor
namespace Go.Proofs.YticnfeolbfmgfaaGreatDoor
open Go.RowKit LX
def Exit.jumps (J:Nat→Act→World→Prop) (Q:Exit→Act→World→Prop):Exit→Act→World→Prop
 | .goto l,a,w=>J l a w
 | e,a,w=>Q e a w
section
variable {P:Program} {a:Act} {w:World} {Q:Exit→Act→World→Prop}
theorem wp_scope_labels {c:Code} (J:Nat→Act→World→Prop) (μ:Nat→Act→World→Nat)
  (first:c.wp P (Exit.jumps J Q) a w)
  (pass:∀ l a w,J l a w→∃ rest,findLabel c l=some rest∧rest.wp P (Exit.jumps (fun l' a' w'=>J l' a' w'∧μ l' a' w'<μ l a w) Q) a w):(Code.scope c).wp P Q a w:=by
 intro b k cs
 have key:∀ n l a w rest,findLabel c l=some rest→μ l a w=n→J l a w→∃ e a' w',Q e a' w'∧Arrives P (lone (b.at a (.code rest::.inScope c::k)) cs w) b k cs e a' w':=by
  intro n
  induction n using Nat.strongRecOn with
  | _ n ih=>
   intro l a w rest hf hn hJ
   obtain ⟨rest',hf',hp⟩:=pass l a w hJ
   rw [hf] at hf'
   cases hf'
   obtain ⟨e,a₁,w₁,hq,harr⟩:=hp b (.inScope c::k) cs
   cases e with
   | normal=>exact ⟨.normal,a₁,w₁,hq,Steps.trans harr (.one step_inScope)⟩
   | exit id=>exact ⟨.exit id,a₁,w₁,hq,fun k' hk=>harr k' (by simp [exitTo,hk])⟩
   | goto l'=>
    obtain ⟨hJ',hlt⟩:=hq
    obtain ⟨rest2,hf2, -⟩:=pass l' a₁ w₁ hJ'
    have hg:gotoIn l' (.inScope c::k)=some (.code rest2::.inScope c::k):=by simp [gotoIn,hf2]
    obtain ⟨e₂,a₂,w₂,hq₂,harr₂⟩:=ih _ (by omega) l' a₁ w₁ rest2 hf2 rfl hJ'
    exact ⟨e₂,a₂,w₂,hq₂,.of_steps (harr _ hg) harr₂⟩
   | ret=>exact ⟨_,a₁,w₁,hq,harr⟩
   | panic ch=>exact ⟨_,a₁,w₁,hq,harr⟩
   | outgrown=>exact ⟨_,a₁,w₁,hq,harr⟩
 obtain ⟨e,a₁,w₁,hq,harr⟩:=first b (.inScope c::k) cs
 cases e with
 | normal=>exact ⟨.normal,a₁,w₁,hq,.head step_scope (Steps.trans harr (.one step_inScope))⟩
 | exit id=>exact ⟨.exit id,a₁,w₁,hq,fun k' hk=>.head step_scope (harr k' (by simp [exitTo,hk]))⟩
 | goto l'=>
  obtain ⟨rest,hf, -⟩:=pass l' a₁ w₁ hq
  have hg:gotoIn l' (.inScope c::k)=some (.code rest::.inScope c::k):=by simp [gotoIn,hf]
  obtain ⟨e₂,a₂,w₂,hq₂,harr₂⟩:=key _ l' a₁ w₁ rest hf rfl hq
  exact ⟨e₂,a₂,w₂,hq₂,.of_steps (.head step_scope (harr _ hg)) harr₂⟩
 | ret=>exact ⟨_,a₁,w₁,hq,.of_steps (.one step_scope) harr⟩
 | panic ch=>exact ⟨_,a₁,w₁,hq,.of_steps (.one step_scope) harr⟩
 | outgrown=>exact ⟨_,a₁,w₁,hq,.of_steps (.one step_scope) harr⟩
theorem wp_scope_gotos {c:Code} (J:Nat→Act→World→Prop) (μ:Nat→Act→World→Nat)
  (pass:∀ l a w,J l a w→∃ y,findLabel c l=some (.seq .skip y)∧y.wp P (Exit.jumps (fun l' a' w'=>J l' a' w'∧μ l' a' w'<μ l a w) Q) a w)
  (first:(∀ l a w y,J l a w→findLabel c l=some (.seq .skip y)→y.wp P (Exit.jumps J Q) a w)→c.wp P (Exit.jumps J Q) a w):(Code.scope c).wp P Q a w:=by
 refine wp_scope_labels J μ (first ?_) ?_
 ·intro l a w y h hf
  obtain ⟨r,hr,hp⟩:=pass l a w h
  rw [hf] at hr
  cases hr
  refine wp_mono hp ?_
  intro e a w h
  cases e with
  | goto l=>exact h.1
  | _=>exact h
 ·intro l a w h
  obtain ⟨r,hr,hp⟩:=pass l a w h
  exact ⟨_,hr,wp_seq (wp_skip hp)⟩
theorem wp_scope_from {y0:Code} (l0:Nat) (J:Nat→Act→World→Prop) (μ:Nat→Act→World→Nat) (hf:findLabel (.seq (.label l0) y0) l0=some (.seq .skip y0))
  (h0:J l0 a w)
  (pass:∀ l a w,J l a w→∃ y,findLabel (.seq (.label l0) y0) l=some (.seq .skip y)∧y.wp P (Exit.jumps (fun l' a' w'=>J l' a' w'∧μ l' a' w'<μ l a w) Q) a w):(Code.scope (.seq (.label l0) y0)).wp P Q a w:=
 wp_scope_gotos J μ pass (fun h=>wp_seq (wp_label (h l0 a w y0 h0 hf)))
end
theorem reti {k:IntKind} {a b:Int} (h:a=b):Ending.returned (.int k a)=.returned (.int k b):=by rw [h]
theorem retb {a b:Bool} (h:a=b):Ending.returned (.bool a)=.returned (.bool b):=by rw [h]
theorem hd_drop (s:ByteArray) (i:Nat) (h:i<s.size):hd (s.data.toList.drop i)=s[i].toNat:=by
 have h':i<s.data.toList.length:=by simpa using h
 rw [List.drop_eq_getElem_cons h']
 rfl
theorem hd_end (s:ByteArray) (i:Nat) (h:s.size≤i):hd (s.data.toList.drop i)=0:=by
 rw [List.drop_eq_nil_of_le (by simpa using h)];rfl
theorem hd_lt (l:List UInt8):hd l<256:=by
 cases l with
 | nil=>simp [hd]
 | cons c t=>exact c.toNat_lt
theorem letter_any (c:Nat) (w:World) (hc:c<256):
  Calls Tryz.prog 109 #[.int .u8 c] w fun e w'=>e=.returned (.bool (lowN c))∧w'=w:=by
 go_enter Tryz.func109,Tryz.ntmps109
 go_wp2
 all_goals go_ret
 all_goals refine ⟨retb ?_,rfl⟩
 all_goals unfold lowN
 all_goals rw [Bool.eq_iff_iff]
 all_goals simp
 all_goals omega
theorem digit_any (c:Nat) (w:World) (hc:c<256):
  Calls Tryz.prog 110 #[.int .u8 c] w fun e w'=>e=.returned (.bool (digN c))∧w'=w:=by
 go_enter Tryz.func110,Tryz.ntmps110
 go_wp2
 all_goals go_ret
 all_goals refine ⟨retb ?_,rfl⟩
 all_goals unfold digN
 all_goals rw [Bool.eq_iff_iff]
 all_goals simp
 all_goals omega
theorem inword_any (c:Nat) (w:World) (hc:c<256):
  Calls Tryz.prog 114 #[.int .u8 c] w fun e w'=>e=.returned (.bool (inwN c))∧w'=w:=by
 have A:Hid (∀ W:World,Calls Tryz.prog 109 #[.int .u8 c] W fun e w'=>e=.returned (.bool (lowN c))∧w'=W):=fun W=>letter_any c W hc
 have D:Hid (∀ W:World,Calls Tryz.prog 110 #[.int .u8 c] W fun e w'=>e=.returned (.bool (digN c))∧w'=W):=fun W=>digit_any c W hc
 unfold inwN
 generalize lowN c=a at A ⊢
 generalize digN c=b at D ⊢
 cases a
 ·cases b
  ·go_enter Tryz.func114,Tryz.ntmps114
   go_wp2_with fail
   refine (A.out _).mono ?_
   rintro e w1 ⟨rfl,rfl⟩
   go_wp2_with fail
   refine (D.out _).mono ?_
   rintro e w1 ⟨rfl,rfl⟩
   go_wp2
   all_goals go_ret
   all_goals refine ⟨retb ?_,rfl⟩
   all_goals rw [Bool.eq_iff_iff]
   all_goals simp
   all_goals omega
  ·go_enter Tryz.func114,Tryz.ntmps114
   go_wp2_with fail
   refine (A.out _).mono ?_
   rintro e w1 ⟨rfl,rfl⟩
   go_wp2_with fail
   refine (D.out _).mono ?_
   rintro e w1 ⟨rfl,rfl⟩
   go_wp2
   go_ret
   exact ⟨rfl,rfl⟩
 ·go_enter Tryz.func114,Tryz.ntmps114
  go_wp2_with fail
  refine (A.out _).mono ?_
  rintro e w1 ⟨rfl,rfl⟩
  go_wp2
  go_ret
  exact ⟨rfl,rfl⟩
theorem peek_any (s:ByteArray) (i:Nat) (w:World):
  Calls Tryz.prog 111 #[.string s,.int .i64 i] w fun e w'=>e=.returned (.int .u8 (hd (s.data.toList.drop i)))∧w'=w:=by
 by_cases h:i<s.size
 ·rw [hd_drop s i h]
  go_enter Tryz.func111,Tryz.ntmps111
  go_wp2
  go_ret
  exact ⟨rfl,rfl⟩
 ·rw [hd_end s i (by omega)]
  go_enter Tryz.func111,Tryz.ntmps111
  go_wp2
  go_ret
  exact ⟨rfl,rfl⟩
end Go.Proofs.YticnfeolbfmgfaaGreatDoor
namespace Go.Proofs.YticnfeolbfmgfaaGreatDoor
open Go.RowKit LX
set_option linter.unusedVariables false
theorem aletter_any (c:Nat) (w:World) (hc:c<256):
  Calls Tryz.prog 150 #[.int .u8 c] w fun e w'=>e=.returned (.bool (lowN c))∧w'=w:=by
 go_enter Tryz.func150,Tryz.ntmps150
 go_wp2
 all_goals go_ret
 all_goals refine ⟨retb ?_,rfl⟩
 all_goals unfold lowN
 all_goals rw [Bool.eq_iff_iff]
 all_goals simp
 all_goals omega
theorem ne_list {s:ByteArray} {l:List UInt8} (h:¬ s.data.toList=l):(s.toList==l)=false:=by rw [ByteArray.toList_eq];simpa using h
theorem of_list {s:ByteArray} {l:List UInt8} (h:s.data.toList=l):s=⟨l.toArray⟩:=by
 cases s
 subst h
 simp
theorem reserved_any (s:ByteArray) (w:World):
  Calls Tryz.prog 151 #[.string s] w fun e w'=>e=.returned (.bool (resv.contains s.data.toList))∧w'=w:=by
 by_cases h0:s.data.toList=[116,114,117,101]
 ·have hs:=of_list h0
  subst hs
  go_enter Tryz.func151,Tryz.ntmps151
  go_wp2
  go_ret
  exact ⟨rfl,rfl⟩
 by_cases h1:s.data.toList=[102,97,108,115,101]
 ·have hs:=of_list h1
  subst hs
  go_enter Tryz.func151,Tryz.ntmps151
  go_wp2
  go_ret
  exact ⟨rfl,rfl⟩
 by_cases h2:s.data.toList=[110,111,116]
 ·have hs:=of_list h2
  subst hs
  go_enter Tryz.func151,Tryz.ntmps151
  go_wp2
  go_ret
  exact ⟨rfl,rfl⟩
 by_cases h3:s.data.toList=[97,110,100]
 ·have hs:=of_list h3
  subst hs
  go_enter Tryz.func151,Tryz.ntmps151
  go_wp2
  go_ret
  exact ⟨rfl,rfl⟩
 by_cases h4:s.data.toList=[111,114]
 ·have hs:=of_list h4
  subst hs
  go_enter Tryz.func151,Tryz.ntmps151
  go_wp2
  go_ret
  exact ⟨rfl,rfl⟩
 by_cases h5:s.data.toList=[101,120,105,115,116,115]
 ·have hs:=of_list h5
  subst hs
  go_enter Tryz.func151,Tryz.ntmps151
  go_wp2
  go_ret
  exact ⟨rfl,rfl⟩
 by_cases h6:s.data.toList=[112,114,101,118]
 ·have hs:=of_list h6
  subst hs
  go_enter Tryz.func151,Tryz.ntmps151
  go_wp2
  go_ret
  exact ⟨rfl,rfl⟩
 by_cases h7:s.data.toList=[110,101,120,116]
 ·have hs:=of_list h7
  subst hs
  go_enter Tryz.func151,Tryz.ntmps151
  go_wp2
  go_ret
  exact ⟨rfl,rfl⟩
 by_cases h8:s.data.toList=[111,110,99,101]
 ·have hs:=of_list h8
  subst hs
  go_enter Tryz.func151,Tryz.ntmps151
  go_wp2
  go_ret
  exact ⟨rfl,rfl⟩
 by_cases h9:s.data.toList=[115,111,111,110]
 ·have hs:=of_list h9
  subst hs
  go_enter Tryz.func151,Tryz.ntmps151
  go_wp2
  go_ret
  exact ⟨rfl,rfl⟩
 by_cases h10:s.data.toList=[115,105,110,99,101]
 ·have hs:=of_list h10
  subst hs
  go_enter Tryz.func151,Tryz.ntmps151
  go_wp2
  go_ret
  exact ⟨rfl,rfl⟩
 by_cases h11:s.data.toList=[117,110,116,105,108]
 ·have hs:=of_list h11
  subst hs
  go_enter Tryz.func151,Tryz.ntmps151
  go_wp2
  go_ret
  exact ⟨rfl,rfl⟩
 by_cases h12:s.data.toList=[98,101,102,111,114,101]
 ·have hs:=of_list h12
  subst hs
  go_enter Tryz.func151,Tryz.ntmps151
  go_wp2
  go_ret
  exact ⟨rfl,rfl⟩
 by_cases h13:s.data.toList=[97,102,116,101,114]
 ·have hs:=of_list h13
  subst hs
  go_enter Tryz.func151,Tryz.ntmps151
  go_wp2
  go_ret
  exact ⟨rfl,rfl⟩
 by_cases h14:s.data.toList=[97,103,103]
 ·have hs:=of_list h14
  subst hs
  go_enter Tryz.func151,Tryz.ntmps151
  go_wp2
  go_ret
  exact ⟨rfl,rfl⟩
 by_cases h15:s.data.toList=[108,101,116]
 ·have hs:=of_list h15
  subst hs
  go_enter Tryz.func151,Tryz.ntmps151
  go_wp2
  go_ret
  exact ⟨rfl,rfl⟩
 by_cases h16:s.data.toList=[108,101,116,112,97,115,116]
 ·have hs:=of_list h16
  subst hs
  go_enter Tryz.func151,Tryz.ntmps151
  go_wp2
  go_ret
  exact ⟨rfl,rfl⟩
 by_cases h17:s.data.toList=[106,111,105,110]
 ·have hs:=of_list h17
  subst hs
  go_enter Tryz.func151,Tryz.ntmps151
  go_wp2
  go_ret
  exact ⟨rfl,rfl⟩
 by_cases h18:s.data.toList=[97,110,121]
 ·have hs:=of_list h18
  subst hs
  go_enter Tryz.func151,Tryz.ntmps151
  go_wp2
  go_ret
  exact ⟨rfl,rfl⟩
 by_cases h19:s.data.toList=[116,101,115,116]
 ·have hs:=of_list h19
  subst hs
  go_enter Tryz.func151,Tryz.ntmps151
  go_wp2
  go_ret
  exact ⟨rfl,rfl⟩
 by_cases h20:s.data.toList=[97,108,116]
 ·have hs:=of_list h20
  subst hs
  go_enter Tryz.func151,Tryz.ntmps151
  go_wp2
  go_ret
  exact ⟨rfl,rfl⟩
 by_cases h21:s.data.toList=[115,101,113]
 ·have hs:=of_list h21
  subst hs
  go_enter Tryz.func151,Tryz.ntmps151
  go_wp2
  go_ret
  exact ⟨rfl,rfl⟩
 by_cases h22:s.data.toList=[115,116,97,114]
 ·have hs:=of_list h22
  subst hs
  go_enter Tryz.func151,Tryz.ntmps151
  go_wp2
  go_ret
  exact ⟨rfl,rfl⟩
 have g0:=ne_list h0
 have g1:=ne_list h1
 have g2:=ne_list h2
 have g3:=ne_list h3
 have g4:=ne_list h4
 have g5:=ne_list h5
 have g6:=ne_list h6
 have g7:=ne_list h7
 have g8:=ne_list h8
 have g9:=ne_list h9
 have g10:=ne_list h10
 have g11:=ne_list h11
 have g12:=ne_list h12
 have g13:=ne_list h13
 have g14:=ne_list h14
 have g15:=ne_list h15
 have g16:=ne_list h16
 have g17:=ne_list h17
 have g18:=ne_list h18
 have g19:=ne_list h19
 have g20:=ne_list h20
 have g21:=ne_list h21
 have g22:=ne_list h22
 have hn:Hid (resv.contains s.data.toList=false):=by
  unfold Hid resv
  simp [h0,h1,h2,h3,h4,h5,h6,h7,h8,h9,h10,h11,h12,h13,h14,h15,h16,h17,h18,h19,h20,h21,h22]
 rw [hn.out]
 clear h0 h1 h2 h3 h4 h5 h6 h7 h8 h9 h10 h11 h12 h13 h14 h15 h16 h17 h18 h19 h20 h21 h22
 go_enter Tryz.func151,Tryz.ntmps151
 go_wp2
 go_ret
 exact ⟨rfl,rfl⟩
theorem nameL_len {l:List UInt8} (h:nameL l=true):l.length≤16:=by
 unfold nameL at h
 simp at h
 exact h.1.1.1.2
theorem nameL_all {l:List UInt8} (h1:1≤l.length) (h2:l.length≤16) (h3:lowN (hd l)=true) (h4:resv.contains l=false):nameL l=inAll l:=by
 unfold nameL
 rw [h3,h4,decide_eq_true h1,decide_eq_true h2]
 rfl
theorem name_any (s:ByteArray) (w:World):
  Calls Tryz.prog 119 #[.string s] w fun e w'=>e=.returned (.bool (nameB s))∧w'=w:=by
 have hl:s.data.toList.length=s.size:=by simp
 by_cases h0:s.size=0
 ·have hs:s=⟨#[]⟩:=of_list (l:=[]) (List.eq_nil_of_length_eq_zero (by omega))
  subst hs
  go_enter Tryz.func119,Tryz.ntmps119
  go_wp2
  go_ret
  exact ⟨rfl,rfl⟩
 ·have e0:(s.toList==[])=false:=by
   rw [ByteArray.toList_eq]
   simp
   intro h
   apply h0
   rw [← hl,h]
   rfl
  by_cases h1:16<s.size
  ·have hn:Hid (nameB s=false):=by
    unfold Hid nameB
    cases h:nameL s.data.toList with
    | false=>rfl
    | true=>exact absurd (nameL_len h) (by omega)
   have h1':(16:Int)<s.size:=by omega
   rw [hn.out]
   go_enter Tryz.func119,Tryz.ntmps119
   go_wp2
   go_ret
   exact ⟨rfl,rfl⟩
  ·have h1':¬ (16:Int)<s.size:=by omega
   have hp:0<s.size:=by omega
   have hh:hd s.data.toList=s[0].toNat:=by simpa using hd_drop s 0 hp
   have A:Hid (∀ W:World,Calls Tryz.prog 150 #[.int .u8 s[0].toNat] W fun e w'=>e=.returned (.bool (lowN (hd s.data.toList)))∧w'=W):=fun W=>by
    rw [hh]
    exact aletter_any _ W s[0].toNat_lt
   have R:Hid (∀ W:World,Calls Tryz.prog 151 #[.string s] W fun e w'=>e=.returned (.bool (resv.contains s.data.toList))∧w'=W):=fun W=>reserved_any s W
   by_cases hb:lowN (hd s.data.toList)=true
   ·by_cases hr:resv.contains s.data.toList=true
    ·have hn:Hid (nameB s=false):=by unfold Hid nameB nameL;rw [hr];simp
     rw [hn.out]
     rw [hb] at A
     rw [hr] at R
     clear hh hb hr
     go_enter Tryz.func119,Tryz.ntmps119
     go_wp2_with fail
     refine (A.out _).mono ?_
     rintro e w1 ⟨rfl,rfl⟩
     go_wp2_with fail
     refine (R.out _).mono ?_
     rintro e w1 ⟨rfl,rfl⟩
     go_wp2
     go_ret
     exact ⟨rfl,rfl⟩
    ·have hr':resv.contains s.data.toList=false:=by simpa using hr
     have hn:Hid (nameB s=inAll s.data.toList):=nameL_all (by omega) (by omega) hb hr'
     rw [hn.out]
     rw [hb] at A
     rw [hr'] at R
     clear hh hb hr hr' hn
     obtain ⟨n,en⟩:∃ n:Nat,Hid (s.size=n):=⟨_,rfl⟩
     go_enter Tryz.func119,Tryz.ntmps119
     go_wp2_with fail
     refine (A.out _).mono ?_
     rintro e w1 ⟨rfl,rfl⟩
     go_wp2_with fail
     refine (R.out _).mono ?_
     rintro e w1 ⟨rfl,rfl⟩
     clear A R
     go_wp2
     go_loop [24] (fun i=>∃ k:Nat,k≤s.size∧i=.int .i64 k∧Hid (inAll s.data.toList=inAll (s.data.toList.drop k))) (fun i=>s.size - (intOf i).toNat)
     case atStart=>exact ⟨0,Nat.zero_le _,rfl,by simp [Hid]⟩
     case round=>
      obtain ⟨k,hk,rfl,hrr⟩:=hrel
      by_cases hlt:k<s.size
      ·have hd1:s.data.toList.drop k=s[k]::s.data.toList.drop (k+1):=by
        rw [List.drop_eq_getElem_cons (by omega)]
        rfl
       have hr2:Hid (inAll s.data.toList=(inwN s[k].toNat && inAll (s.data.toList.drop (k+1)))):=by
        have h:=hrr.out
        rw [hd1] at h
        exact h
       have hlt':(k:Int)<s.size:=by omega
       have hC:=s[k].toNat_lt
       have A:Hid (∀ W:World,Calls Tryz.prog 150 #[.int .u8 s[k].toNat] W fun e w'=>e=.returned (.bool (lowN s[k].toNat))∧w'=W):=fun W=>aletter_any _ W hC
       clear hrr hd1
       obtain ⟨c,ec⟩:∃ c:Nat,Hid (s[k].toNat=c):=⟨_,(show s[k].toNat=s[k].toNat from rfl)⟩
       rw [ec.out] at A hr2 hC
       have ec2:=ec.out
       cases hA:lowN c with
       | true=>
        have hr3:Hid (inAll s.data.toList=inAll (s.data.toList.drop (k+1))):=by
         have h:=hr2.out
         have hi:inwN c=true:=by unfold inwN;rw [hA];rfl
         rw [hi,Bool.true_and] at h
         exact h
        rw [hA] at A
        go_wp2_with fail
        refine (A.out _).mono ?_
        rintro e w1 ⟨rfl,rfl⟩
        clear A
        go_wp2
        exact ⟨⟨k+1,by omega,by go_num,hr3⟩,by simp [intOf];omega⟩
       | false=>
        rw [hA] at A
        by_cases hI:inwN c=true
        ·have hr3:Hid (inAll s.data.toList=inAll (s.data.toList.drop (k+1))):=by
          have h:=hr2.out
          rw [hI,Bool.true_and] at h
          exact h
         have hx:(48≤c∧c≤57)∨c=95:=by
          unfold inwN digN at hI
          rw [hA] at hI
          simpa using hI
         rcases hx with ⟨x1,x2⟩ | x3
         ·have y1:¬ (c:Int)<48:=by omega
          have y2:¬ (57:Int)<c:=by omega
          clear hI
          go_wp2_with fail
          refine (A.out _).mono ?_
          rintro e w1 ⟨rfl,rfl⟩
          clear A
          go_wp2
          exact ⟨⟨k+1,by omega,by go_num,hr3⟩,by simp [intOf];omega⟩
         ·subst x3
          clear hI
          go_wp2_with fail
          refine (A.out _).mono ?_
          rintro e w1 ⟨rfl,rfl⟩
          clear A
          go_wp2
          exact ⟨⟨k+1,by omega,by go_num,hr3⟩,by simp [intOf];omega⟩
        ·have hI':inwN c=false:=by simpa using hI
         have hr3:Hid (inAll s.data.toList=false):=by
          have h:=hr2.out
          rw [hI',Bool.false_and] at h
          exact h
         have hx:(c<48∨57<c)∧c≠95:=by
          unfold inwN digN at hI'
          rw [hA] at hI'
          simp at hI'
          omega
         have y3:((c:Int)==95)=false:=by simp;omega
         clear hI hI'
         rcases hx.1 with x1 | x1
         ·have y1:(c:Int)<48:=by omega
          go_wp2_with fail
          refine (A.out _).mono ?_
          rintro e w1 ⟨rfl,rfl⟩
          clear A
          go_wp2
          go_ret
          exact ⟨retb hr3.out.symm,rfl⟩
         ·have y1:¬ (c:Int)<48:=by omega
          have y2:(57:Int)<c:=by omega
          go_wp2_with fail
          refine (A.out _).mono ?_
          rintro e w1 ⟨rfl,rfl⟩
          clear A
          go_wp2
          go_ret
          exact ⟨retb hr3.out.symm,rfl⟩
      ·have hlt':¬ (k:Int)<s.size:=by omega
       have hr3:Hid (inAll s.data.toList=true):=by
        have h:=hrr.out
        rw [List.drop_eq_nil_of_le (by omega)] at h
        exact h
       go_wp2
       go_ret
       exact ⟨retb hr3.out.symm,rfl⟩
   ·have hb':lowN (hd s.data.toList)=false:=by simpa using hb
    have hn:Hid (nameB s=false):=by unfold Hid nameB nameL;rw [hb'];simp
    rw [hn.out]
    rw [hb'] at A
    clear hh hb hb'
    go_enter Tryz.func119,Tryz.ntmps119
    go_wp2_with fail
    refine (A.out _).mono ?_
    rintro e w1 ⟨rfl,rfl⟩
    go_wp2
    go_ret
    exact ⟨rfl,rfl⟩
end Go.Proofs.YticnfeolbfmgfaaGreatDoor
namespace Go.Proofs.YticnfeolbfmgfaaGreatDoor
open Go.RowKit Go.Extern.Stop Go.Stop Go.Extern
set_option linter.unusedVariables false
theorem bgX {n:Nat} {W0 W w1:World} (h0:Below n W0 W) (hn:n≤W.heap.size) (hb:Below W.heap.size W w1):Below n W0 w1∧n≤w1.heap.size:=⟨h0.trans (hb.mono hn),Nat.le_trans hn hb.size⟩
end Go.Proofs.YticnfeolbfmgfaaGreatDoor
namespace Go.Proofs.YticnfeolbfmgfaaGreatDoor
open Go.RowKit
theorem u64_tdiv (a b:Int) (ha:0≤a) (ha':a≤18446744073709551615) (hb:0<b):IntKind.u64.wrap (a.tdiv b)=a / b:=by
 rw [Int.tdiv_eq_ediv_of_nonneg ha,IntKind.wrap_u64]
 have h1:=div_le_self a b ha hb
 have h2:0≤a / b:=Int.ediv_nonneg ha (by omega)
 omega
theorem of_zero (n:Int) (w:World):
  Calls Tryz.prog 185 #[.int .i64 n,.int .i64 0] w fun e w'=>e=.returned (.tuple #[.agg #[.int .i64 0,.int .i64 0],.int .i64 11])∧Below w.heap.size w w':=by
 go_enter Tryz.func185,Tryz.ntmps185
 go_wp2
 go_returns
 exact ⟨rfl,by go_grown⟩
theorem of_raw (n d:Int) (w:World) (h1: -9223372036854775808≤n) (h2:n≤9223372036854775807) (g1: -9223372036854775808≤d) (g2:d≤9223372036854775807) (hd:(d==0)=false):
  Calls Tryz.prog 185 #[.int .i64 n,.int .i64 d] w fun e w'=>(∃ b:Bool,b=(!(decide (n<0)==decide (d<0)))∧e=.returned (.tuple #[.agg #[.int .i64 (outN (sg b (sz n / gc (sz n) (sz d))) (sz d / gc (sz n) (sz d))),.int .i64 (outD (sg b (sz n / gc (sz n) (sz d))) (sz d / gc (sz n) (sz d)))],.int .i64 (outE (sg b (sz n / gc (sz n) (sz d))) (sz d / gc (sz n) (sz d)))]))∧Below w.heap.size w w':=by
 have hd':d≠0:=by simpa using hd
 have hz:0<sz d:=by unfold sz;omega
 have hz2:=sz_nonneg n
 have hz3:=sz_le h1 h2
 have hz4:=sz_le g1 g2
 have hp:=gc_pos (sz n) (sz d) hz
 have q1:0≤sz n / gc (sz n) (sz d):=Int.ediv_nonneg hz2 (by omega)
 have q2:0≤sz d / gc (sz n) (sz d):=Int.ediv_nonneg (by omega) (by omega)
 have q3:=div_le_self (sz n) _ hz2 hp
 have q4:=div_le_self (sz d) _ (by omega) hp
 have hne:¬ gc (sz n) (sz d)=0:=by omega
 have t1:=u64_tdiv (sz n) (gc (sz n) (sz d)) hz2 (by omega) hp
 have t2:=u64_tdiv (sz d) (gc (sz n) (sz d)) (by omega) (by omega) hp
 clear hd'
 go_enter Tryz.func185,Tryz.ntmps185
 go_wp2_with (first
  | (go_at_call 215;refine (size_any _ _ (by omega) (by omega)).mono ?_;rintro e w' ⟨rfl,rfl⟩)
  | (go_at_call 216;refine (divisor_any _ _ _ (by omega) (by omega) (by omega) (by omega)).mono ?_;rintro e w' ⟨rfl,k,rfl⟩))
 go_region_held3 (fun _=>True) (trivial)
  (first
   | (go_at_call 217;refine (fit_any _ _ _ _ q1 (by omega) q2 (by omega)).mono ?_;rintro e w1 ⟨rfl,hb⟩;obtain ⟨hc,hf,hz5,hB⟩:=bf (w:=w) (bdrewN _ (by go_grown)) hb))
 go_wp2
 refine bodyPost_ret (by simp [results,Tryz.results185,go_sem,hc];try rfl) rfl ?_
 refine ⟨⟨_,rfl,rfl⟩, ?_⟩
 go_grown
def ofP (n d:Int):Int:=sg (decide (d<0)) n
theorem of_any (n d:Int) (w:World) (h1: -9223372036854775808≤n) (h2:n≤9223372036854775807) (g1: -9223372036854775808≤d) (g2:d≤9223372036854775807) (hd:(d==0)=false):
  Calls Tryz.prog 185 #[.int .i64 n,.int .i64 d] w fun e w'=>e=.returned (.tuple #[.agg #[.int .i64 (rN (ofP n d) (sz d)),.int .i64 (rD (ofP n d) (sz d))],.int .i64 (rE (ofP n d) (sz d))])∧Below w.heap.size w w':=by
 refine (of_raw n d w h1 h2 g1 g2 hd).mono ?_
 rintro e w' ⟨⟨b,rfl,rfl⟩,hb⟩
 refine ⟨?_,hb⟩
 have e1:sg (!(decide (n<0)==decide (d<0))) (sz n / gc (sz n) (sz d))=ofP n d / gc (sz n) (sz d):=by
  rw [sg_div _ _ _ (gc_dvd_left _ _ (sz_nonneg n))]
  exact congrArg (·/ gc (sz n) (sz d)) (sg_sz n (decide (d<0)))
 have e2:sz (ofP n d)=sz n:=sz_sg _ _
 unfold rN rD rE
 rw [e1,e2]
def oN (n d:Int):Int:=if d=0 then 0 else rN (ofP n d) (sz d)
def oD (n d:Int):Int:=if d=0 then 0 else rD (ofP n d) (sz d)
def oE (n d:Int):Int:=if d=0 then 11 else rE (ofP n d) (sz d)
theorem of_all (n d:Int) (w:World) (h1: -9223372036854775808≤n) (h2:n≤9223372036854775807) (g1: -9223372036854775808≤d) (g2:d≤9223372036854775807):
  Calls Tryz.prog 185 #[.int .i64 n,.int .i64 d] w fun e w'=>e=.returned (.tuple #[.agg #[.int .i64 (oN n d),.int .i64 (oD n d)],.int .i64 (oE n d)])∧Below w.heap.size w w':=by
 unfold oN oD oE
 by_cases h:d=0
 ·subst h;simpa using of_zero n w
 ·simpa [h] using of_any n d w h1 h2 g1 g2 (by simpa using h)
def mayB (n d:Int):Bool:=oE n d==0 && (oN n d==n && oD n d==d)
end Go.Proofs.YticnfeolbfmgfaaGreatDoor
namespace Go.Proofs.YticnfeolbfmgfaaGreatDoor
open Go.RowKit Go.Shelf
def hi (x:Int):Int:=x / 18446744073709551616
def lo (x:Int):Int:=x % 18446744073709551616
theorem bcl {n:Nat} {W0 wx:World} (h:Below n W0 wx) {a:Addr} {v:Value} (hv:W0.cell? a=some v) (ha:a.block<n):wx.cell? a=some v:=(h.cell ha).trans hv
theorem bg0 {n:Nat} {W0 W w1:World} (h0:Below n W0 W) (hn:n≤W.heap.size) (hb:Below W.heap.size W w1):Below n W0 w1∧n≤w1.heap.size:=⟨h0.trans (hb.mono hn),Nat.le_trans hn hb.size⟩
def hexd (n:Nat):UInt8:=if n<10 then (48+n).toUInt8 else (87+n).toUInt8
def esc (c:UInt8):List UInt8:=if c.toNat=34∨c.toNat=92 then [92,c] else if 32≤c.toNat∧c.toNat≤126 then [c] else [92,120,hexd (c.toNat / 16),hexd (c.toNat % 16)]
def inside (l:List UInt8):List UInt8:=l.flatMap esc
def quoted (l:List UInt8):List UInt8:=34::inside l++[34]
theorem esc_len (c:UInt8):(esc c).length≤4:=by
 unfold esc;split
 ·simp
 ·split<;>simp
theorem inside_len (l:List UInt8):(inside l).length≤4*l.length:=by
 induction l with
 | nil=>simp [inside]
 | cons c l ih=>
  have:=esc_len c
  simp only [inside,List.flatMap_cons,List.length_append,List.length_cons] at ih ⊢
  omega
theorem inside_snoc (l:List UInt8) (c:UInt8):inside (l++[c])=inside l++esc c:=by simp [inside]
theorem inside_take (s:ByteArray) (k:Nat) (h:k<s.size):inside (s.data.toList.take (k+1))=inside (s.data.toList.take k)++esc s[k]:=by
 rw [← inside_snoc]
 congr 1
 have h':k<s.data.toList.length:=by simpa using h
 rw [List.take_succ_eq_append_getElem h']
 rfl
theorem cells_snoc (l:List UInt8) (c:UInt8):Lib.byteCells l++[.int .u8 c.toNat]=Lib.byteCells (l++[c]):=by simp [Lib.byteCells]
theorem hex_all:∀ i:Fin 16,(⟨#[48,49,50,51,52,53,54,55,56,57,97,98,99,100,101,102]⟩:ByteArray)[i.1]'i.2=hexd i.1:=by decide
theorem hex_tab (n:Nat) (h:n<16):(⟨#[48,49,50,51,52,53,54,55,56,57,97,98,99,100,101,102]⟩:ByteArray)[n]'h=hexd n:=hex_all ⟨n,h⟩
theorem quote_any (s:ByteArray) (w:World) (hs:s.size≤35184372088830):
  Calls Tryz.prog 177 #[.string s] w fun e w'=>e=.returned (.string ⟨(quoted s.data.toList).toArray⟩)∧Below w.heap.size w w':=by
 go_enter Tryz.func177,Tryz.ntmps177
 go_wp2_with fail
 refine (wbyte w.heap.size w.heap.size [] 34 _ (Lib.fresh_isBuilder _ _ w) (by simp) (by simp)).mono ?_
 rintro e w1 ⟨rfl,h1,hb1⟩
 go_wp2
 go_loopw [9] (fun i wr=>∃ k:Nat,k≤s.size∧i=.int .i64 k∧Hid (Lib.IsBuilder 153 5 w.heap.size w.heap.size (Lib.byteCells (34::inside (s.data.toList.take k))) wr)∧Below w.heap.size w wr) (fun i _=>s.size - (intOf i).toNat)
 case atStart=>exact ⟨0,by omega,rfl,Or.inr h1,(Below.refl _ w |>.alloc (Nat.le_refl _) _).trans hb1⟩
 case round=>
  obtain ⟨k,hk,rfl,hI,hB⟩:=hrel
  have hsz:=hB.size
  by_cases hke:k=s.size
  ·subst hke
   have e0:s.data.toList.take s.size=s.data.toList:=List.take_of_length_le (by simp)
   rw [e0] at hI
   have hl:=inside_len s.data.toList
   have hl2:s.data.toList.length=s.size:=by simp
   go_wp2_with fail
   refine (wbyte w.heap.size w.heap.size _ 34 _ hI.out (by rw [Lib.byteCells_length];simp;omega) hsz).mono ?_
   rintro e w2 ⟨rfl,h2,hb2⟩
   have h2':Hid (Lib.IsBuilder 153 5 w.heap.size w.heap.size (Lib.byteCells (quoted s.data.toList)) w2):=by
    have:=cells_snoc (34::inside s.data.toList) 34
    unfold quoted
    refine Or.inr ?_
    rw [← this];exact h2
   have hB2:=hB.trans hb2
   clear h2 hI
   go_wp2_with fail
   refine (Tryz.Builder_String_any w.heap.size w.heap.size _ _ h2'.out hB2.size).mono ?_
   rintro e w3 ⟨rfl,hb3⟩
   go_wp2
   go_ret
   exact ⟨rfl,hB2.trans hb3⟩
  ·have hk':(k:Int)<s.size:=by omega
   have hkk:k<s.size:=by omega
   have hstep:=inside_take s k hkk
   have hl:=inside_len (s.data.toList.take k)
   have hl2:(s.data.toList.take k).length≤k:=by simp;omega
   have hbd:(Lib.byteCells (34::inside (s.data.toList.take k))).length+4≤140737488355328:=by rw [Lib.byteCells_length];simp;omega
   have HS:Hid (inside (s.data.toList.take (k+1))=inside (s.data.toList.take k)++esc s[k]):=hstep
   clear hstep hl hl2
   have hu:s[k].toNat<256:=s[k].toNat_lt
   obtain ⟨c,hc⟩:∃ c:UInt8,s[k]=c:=⟨_,rfl⟩
   rw [hc] at hu
   rw [hc] at HS
   by_cases a1:(c.toNat:Int)=34∨(c.toNat:Int)=92
   ·rcases a1 with a1 | a1
    ·obtain rfl:c=34:=UInt8.toNat_inj.1 (show c.toNat=34 from (by omega))
     have he:Hid (esc 34=[92,34]):=(show esc 34=[92,34] from (by decide))
     clear a1 hu
     go_wp2_with fail
     refine (wbyte w.heap.size w.heap.size _ _ _ hI.out (by omega) hsz).mono ?_
     rintro e w2 ⟨rfl,h2,hb2⟩
     have s2:=hb2.size
     have h2':Hid (Lib.IsBuilder 153 5 w.heap.size w.heap.size (Lib.byteCells (34::inside (s.data.toList.take k))++[Value.int IntKind.u8 92]) w2):=Or.inr h2
     clear h2
     go_wp2_with fail
     refine (wbyte w.heap.size w.heap.size _ _ _ h2'.out (by simp;omega) (by omega)).mono ?_
     rintro e w3 ⟨rfl,h3,hb3⟩
     go_wp2
     refine ⟨⟨k+1,by omega,by simp, ?_,(hB.trans hb2).trans hb3⟩,by simp [intOf];omega⟩
     have h4:Lib.IsBuilder 153 5 w.heap.size w.heap.size (Lib.byteCells (34::inside (s.data.toList.take (k+1)))) w3:=by
      have e1:=cells_snoc (34::inside (s.data.toList.take k)) 92
      have e2:=cells_snoc (34::inside (s.data.toList.take k)++[92]) 34
      rw [HS.out,he.out,← List.cons_append,show ([92,34]:List UInt8)=[92]++[34] from rfl,← List.append_assoc,← e2,← e1]
      exact Or.inr h3
     exact h4
    ·obtain rfl:c=92:=UInt8.toNat_inj.1 (show c.toNat=92 from (by omega))
     have he:Hid (esc 92=[92,92]):=(show esc 92=[92,92] from (by decide))
     clear a1 hu
     go_wp2_with fail
     refine (wbyte w.heap.size w.heap.size _ _ _ hI.out (by omega) hsz).mono ?_
     rintro e w2 ⟨rfl,h2,hb2⟩
     have s2:=hb2.size
     have h2':Hid (Lib.IsBuilder 153 5 w.heap.size w.heap.size (Lib.byteCells (34::inside (s.data.toList.take k))++[Value.int IntKind.u8 92]) w2):=Or.inr h2
     clear h2
     go_wp2_with fail
     refine (wbyte w.heap.size w.heap.size _ _ _ h2'.out (by simp;omega) (by omega)).mono ?_
     rintro e w3 ⟨rfl,h3,hb3⟩
     go_wp2
     refine ⟨⟨k+1,by omega,by simp, ?_,(hB.trans hb2).trans hb3⟩,by simp [intOf];omega⟩
     have h4:Lib.IsBuilder 153 5 w.heap.size w.heap.size (Lib.byteCells (34::inside (s.data.toList.take (k+1)))) w3:=by
      have e1:=cells_snoc (34::inside (s.data.toList.take k)) 92
      have e2:=cells_snoc (34::inside (s.data.toList.take k)++[92]) 92
      rw [HS.out,he.out,← List.cons_append,show ([92,92]:List UInt8)=[92]++[92] from rfl,← List.append_assoc,← e2,← e1]
      exact Or.inr h3
     exact h4
   ·have a2:((c.toNat:Int)==34)=false:=by simp;omega
    have a3:((c.toNat:Int)==92)=false:=by simp;omega
    by_cases a4:32≤(c.toNat:Int)∧(c.toNat:Int)≤126
    ·have he:Hid (esc c=[c]):=by unfold Hid esc;rw [if_neg (by omega),if_pos (by omega)]
     obtain ⟨a5,a6⟩:=a4
     go_wp2_with fail
     refine (wbyte w.heap.size w.heap.size _ _ _ hI.out (by omega) hsz).mono ?_
     rintro e w2 ⟨rfl,h2,hb2⟩
     go_wp2
     refine ⟨⟨k+1,by omega,by simp, ?_,hB.trans hb2⟩,by simp [intOf];omega⟩
     have h3:Lib.IsBuilder 153 5 w.heap.size w.heap.size (Lib.byteCells (34::inside (s.data.toList.take (k+1)))) w2:=by
      rw [HS.out,he.out,← List.cons_append,← cells_snoc]
      exact Or.inr h2
     exact h3
    ·have he:Hid (esc c=[92,120,hexd (c.toNat / 16),hexd (c.toNat % 16)]):=by unfold Hid esc;rw [if_neg (by omega),if_neg (by omega)]
     by_cases a5:32≤(c.toNat:Int)
     ·have a6:((c.toNat:Int)≤126)=False:=by simp;omega
      go_wp2_with fail
      refine (wstr w.heap.size w.heap.size _ _ _ hI.out (show _+2≤140737488355328 from (by omega)) hsz).mono ?_
      rintro e w2 ⟨rfl,h2,hb2⟩
      have s2:=hb2.size
      have h2':Hid (Lib.IsBuilder 153 5 w.heap.size w.heap.size (Lib.byteCells (34::inside (s.data.toList.take k))++Lib.strCells ⟨#[92,120]⟩) w2):=Or.inr h2
      have l2:(Lib.byteCells (34::inside (s.data.toList.take k))++Lib.strCells ⟨#[92,120]⟩).length+2≤140737488355328:=by
       have:(Lib.strCells ⟨#[92,120]⟩).length=2:=rfl
       rw [List.length_append];omega
      clear h2
      go_wp2_with fail
      refine (wbyte w.heap.size w.heap.size _ _ _ h2'.out (by omega) (by omega)).mono ?_
      rintro e w3 ⟨rfl,h3,hb3⟩
      have s3:=hb3.size
      have h3':Hid (Lib.IsBuilder 153 5 w.heap.size w.heap.size _ w3):=Or.inr h3
      clear h3
      go_wp2_with fail
      refine (wbyte w.heap.size w.heap.size _ _ _ h3'.out (by rw [List.length_append];simp only [List.length_cons,List.length_nil];omega) (by omega)).mono ?_
      rintro e w4 ⟨rfl,h4,hb4⟩
      go_wp2
      refine ⟨⟨k+1,by omega,by simp, ?_,((hB.trans hb2).trans hb3).trans hb4⟩,by simp [intOf];omega⟩
      have h5:Lib.IsBuilder 153 5 w.heap.size w.heap.size (Lib.byteCells (34::inside (s.data.toList.take (k+1)))) w4:=by
       rw [HS.out,he.out,← hex_tab (c.toNat / 16) (by omega),← hex_tab (c.toNat % 16) (by omega)]
       refine Or.inr ?_
       simp only [Lib.byteCells,Lib.strCells,List.map_cons,List.map_append,List.map_nil,List.cons_append,List.append_assoc,List.nil_append] at h4 ⊢
       exact h4
      exact h5
     ·have a6:(32≤(c.toNat:Int))=False:=by simp;omega
      go_wp2_with fail
      refine (wstr w.heap.size w.heap.size _ _ _ hI.out (show _+2≤140737488355328 from (by omega)) hsz).mono ?_
      rintro e w2 ⟨rfl,h2,hb2⟩
      have s2:=hb2.size
      have h2':Hid (Lib.IsBuilder 153 5 w.heap.size w.heap.size (Lib.byteCells (34::inside (s.data.toList.take k))++Lib.strCells ⟨#[92,120]⟩) w2):=Or.inr h2
      have l2:(Lib.byteCells (34::inside (s.data.toList.take k))++Lib.strCells ⟨#[92,120]⟩).length+2≤140737488355328:=by
       have:(Lib.strCells ⟨#[92,120]⟩).length=2:=rfl
       rw [List.length_append];omega
      clear h2
      go_wp2_with fail
      refine (wbyte w.heap.size w.heap.size _ _ _ h2'.out (by omega) (by omega)).mono ?_
      rintro e w3 ⟨rfl,h3,hb3⟩
      have s3:=hb3.size
      have h3':Hid (Lib.IsBuilder 153 5 w.heap.size w.heap.size _ w3):=Or.inr h3
      clear h3
      go_wp2_with fail
      refine (wbyte w.heap.size w.heap.size _ _ _ h3'.out (by rw [List.length_append];simp only [List.length_cons,List.length_nil];omega) (by omega)).mono ?_
      rintro e w4 ⟨rfl,h4,hb4⟩
      go_wp2
      refine ⟨⟨k+1,by omega,by simp, ?_,((hB.trans hb2).trans hb3).trans hb4⟩,by simp [intOf];omega⟩
      have h5:Lib.IsBuilder 153 5 w.heap.size w.heap.size (Lib.byteCells (34::inside (s.data.toList.take (k+1)))) w4:=by
       rw [HS.out,he.out,← hex_tab (c.toNat / 16) (by omega),← hex_tab (c.toNat % 16) (by omega)]
       refine Or.inr ?_
       simp only [Lib.byteCells,Lib.strCells,List.map_cons,List.map_append,List.map_nil,List.cons_append,List.append_assoc,List.nil_append] at h4 ⊢
       exact h4
      exact h5
def pureB (k n d:Int) (s:ByteArray):Bool:=if k=1 then d==0 && s.toList.isEmpty else if k=2 then mayB n d && s.toList.isEmpty else if k=3 then n==0 && d==0 else false
def chk (k n d:Int) (s:ByteArray):Int:=if pureB k n d s=false then 20 else if 64<s.size then 2 else 0
theorem ret_bool {a b:Bool} (h:a=b):Ending.returned (.bool a)=.returned (.bool b):=by rw [h]
theorem pure_any (k n d:Int) (s:ByteArray) (w:World) (h1: -9223372036854775808≤n) (h2:n≤9223372036854775807) (g1: -9223372036854775808≤d) (g2:d≤9223372036854775807):
  Calls Tryz.prog 149 #[.agg #[.int .i64 k,.int .i64 n,.int .i64 d,.string s]] w fun e w'=>e=.returned (.bool (pureB k n d s))∧Below w.heap.size w w':=by
 by_cases k1:k=1
 ·subst k1
  cases hd:d==0
  ·go_enter Tryz.func149,Tryz.ntmps149
   go_wp2
   go_ret
   exact ⟨ret_bool (by simp [pureB,hd]),by go_grown⟩
  ·have hd':d=0:=by simpa using hd
   subst hd'
   go_enter Tryz.func149,Tryz.ntmps149
   go_wp2
   go_ret
   exact ⟨ret_bool (by simp [pureB]),by go_grown⟩
 ·have k1':(k==1)=false:=by simpa using k1
  by_cases k2:k=2
  ·subst k2
   have e0:pureB 2 n d s=(mayB n d && s.toList.isEmpty):=by simp [pureB]
   rw [e0]
   by_cases a1:oE n d=0
   ·cases m:(oN n d==n && oD n d==d)
    ·go_enter Tryz.func149,Tryz.ntmps149
     go_wp2_with (first
      | (go_at_call 185;refine (of_all _ _ _ h1 h2 g1 g2).mono ?_;rintro e w1 ⟨rfl,hb⟩;obtain ⟨hc,hf,hz,hB⟩:=bf (w:=w) (by go_grown) hb;simp only [World.size_alloc] at hz;have z0:w.heap.size<w1.heap.size:=(by omega)))
     all_goals
      go_ret
      exact ⟨ret_bool (by simp_all [mayB]),by go_grown⟩
    ·go_enter Tryz.func149,Tryz.ntmps149
     go_wp2_with (first
      | (go_at_call 185;refine (of_all _ _ _ h1 h2 g1 g2).mono ?_;rintro e w1 ⟨rfl,hb⟩;obtain ⟨hc,hf,hz,hB⟩:=bf (w:=w) (by go_grown) hb;simp only [World.size_alloc] at hz;have z0:w.heap.size<w1.heap.size:=(by omega)))
     all_goals
      go_ret
      exact ⟨ret_bool (by simp_all [mayB]),by go_grown⟩
   ·have a2:(oE n d==0)=false:=by simpa using a1
    go_enter Tryz.func149,Tryz.ntmps149
    go_wp2_with (first
     | (go_at_call 185;refine (of_all _ _ _ h1 h2 g1 g2).mono ?_;rintro e w1 ⟨rfl,hb⟩;obtain ⟨hc,hf,hz,hB⟩:=bf (w:=w) (by go_grown) hb;simp only [World.size_alloc] at hz;have z0:w.heap.size<w1.heap.size:=(by omega)))
    all_goals
     go_ret
     exact ⟨ret_bool (by simp [mayB,a2]),by go_grown⟩
  ·have k2':(k==2)=false:=by simpa using k2
   by_cases k3:k=3
   ·subst k3
    have e0:pureB 3 n d s=(n==0 && d==0):=by simp [pureB]
    rw [e0]
    cases hn:n==0
    ·go_enter Tryz.func149,Tryz.ntmps149
     go_wp2
     go_ret
     exact ⟨ret_bool (by simp),by go_grown⟩
    ·go_enter Tryz.func149,Tryz.ntmps149
     go_wp2
     go_ret
     exact ⟨ret_bool (by simp),by go_grown⟩
   ·have k3':(k==3)=false:=by simpa using k3
    have e0:pureB k n d s=false:=by simp [pureB,k1,k2,k3]
    rw [e0]
    go_enter Tryz.func149,Tryz.ntmps149
    go_wp2
    go_ret
    exact ⟨rfl,by go_grown⟩
theorem check_any (k n d:Int) (s:ByteArray) (w:World) (h1: -9223372036854775808≤n) (h2:n≤9223372036854775807) (g1: -9223372036854775808≤d) (g2:d≤9223372036854775807):
  Calls Tryz.prog 132 #[.agg #[.int .i64 k,.int .i64 n,.int .i64 d,.string s]] w fun e w'=>e=.returned (.int .i64 (chk k n d s))∧Below w.heap.size w w':=by
 cases hp:pureB k n d s
 ·have e0:chk k n d s=20:=by simp [chk,hp]
  rw [e0]
  go_enter Tryz.func132,Tryz.ntmps132
  go_wp2_with fail
  refine (pure_any k n d s _ h1 h2 g1 g2).mono ?_
  rintro e w1 ⟨rfl,hb⟩
  obtain ⟨hc,hf,hz,hB⟩:=bf (w:=w) (by go_grown) hb
  rw [hp]
  go_wp2
  go_ret
  exact ⟨rfl,hB⟩
 ·by_cases hl:64<s.size
  ·have e0:chk k n d s=2:=by simp [chk,hp,hl]
   rw [e0]
   have hl':(64:Int)<s.size:=by omega
   go_enter Tryz.func132,Tryz.ntmps132
   go_wp2_with fail
   refine (pure_any k n d s _ h1 h2 g1 g2).mono ?_
   rintro e w1 ⟨rfl,hb⟩
   obtain ⟨hc,hf,hz,hB⟩:=bf (w:=w) (by go_grown) hb
   rw [hp]
   go_wp2
   go_ret
   exact ⟨rfl,hB⟩
  ·have e0:chk k n d s=0:=by simp [chk,hp,hl]
   rw [e0]
   have hl':((64:Int)<s.size)=False:=by simp;omega
   go_enter Tryz.func132,Tryz.ntmps132
   go_wp2_with fail
   refine (pure_any k n d s _ h1 h2 g1 g2).mono ?_
   rintro e w1 ⟨rfl,hb⟩
   obtain ⟨hc,hf,hz,hB⟩:=bf (w:=w) (by go_grown) hb
   rw [hp]
   go_wp2
   go_ret
   exact ⟨rfl,hB⟩
end Go.Proofs.YticnfeolbfmgfaaGreatDoor
namespace Go.Proofs.YticnfeolbfmgfaaGreatDoor
open Go.RowKit
theorem wp_world {P:Program} {c:Code} {Q:Exit→Act→World→Prop} {a:Act} {w:World} (h:∀ W,W=w→c.wp P Q a W):c.wp P Q a w:=h w rfl
end Go.Proofs.YticnfeolbfmgfaaGreatDoor
namespace Go.Proofs.YticnfeolbfmgfaaGreatDoor
open Go.RowKit Go.Shelf
def sameB (k n d:Int) (s:ByteArray) (k' n' d':Int) (s':ByteArray):Bool:=k==k' && (n==n' && (d==d' && s.toList==s'.toList))
theorem rsame_any (k n d:Int) (s:ByteArray) (k' n' d':Int) (s':ByteArray) (w:World):
  Calls Tryz.prog 107 #[.agg #[.int .i64 k,.int .i64 n,.int .i64 d,.string s],.agg #[.int .i64 k',.int .i64 n',.int .i64 d',.string s']] w fun e w'=>e=.returned (.bool (sameB k n d s k' n' d' s'))∧Below w.heap.size w w':=by
 by_cases hk:k=k'
 ·subst hk
  by_cases hn:n=n'
  ·subst hn
   by_cases hd:d=d'
   ·subst hd
    go_enter Tryz.func107,Tryz.ntmps107
    go_wp2
    go_ret
    exact ⟨ret_bool (by simp [sameB]),by go_grown⟩
   ·have e1:(d==d')=false:=by simpa using hd
    go_enter Tryz.func107,Tryz.ntmps107
    go_wp2
    go_ret
    exact ⟨ret_bool (by simp [sameB,hd]),by go_grown⟩
  ·have e1:(n==n')=false:=by simpa using hn
   go_enter Tryz.func107,Tryz.ntmps107
   go_wp2
   go_ret
   exact ⟨ret_bool (by simp [sameB,hn]),by go_grown⟩
 ·have e1:(k==k')=false:=by simpa using hk
  go_enter Tryz.func107,Tryz.ntmps107
  go_wp2
  go_ret
  exact ⟨ret_bool (by simp [sameB,hk]),by go_grown⟩
theorem vsame_any (k n d:Int) (s:ByteArray) (k' n' d':Int) (s':ByteArray) (w:World):
  Calls Tryz.prog 196 #[.agg #[.int .i64 k,.int .i64 n,.int .i64 d,.string s],.agg #[.int .i64 k',.int .i64 n',.int .i64 d',.string s']] w fun e w'=>e=.returned (.bool (sameB k n d s k' n' d' s'))∧Below w.heap.size w w':=by
 go_enter Tryz.func196,Tryz.ntmps196
 go_wp2
 all_goals
  go_ret
  exact ⟨ret_bool (by simp_all [sameB]),by go_grown⟩
def Pow (w:World):Prop:=Lib.TabIs Tryz.prog w "internal/strconv.uint64pow10" .u64 Lib.pow10Tab
theorem Pow.below {w W:World} (h:Pow w) (hb:Below w.heap.size w W):Pow W:=Lib.tabBelow_of_tabIs h W hb
theorem below_grow (w:World) (k:Nat) (os:Array Obj):Below w.heap.size w (Sort.grow (w.drewN k) os):=
 ⟨rfl,rfl,rfl,by simp [Sort.grow],fun i hi=>by simp [Sort.grow,Array.getElem?_append,hi]⟩
theorem dec_any (n:Int) (w:World) (h1: -9223372036854775808≤n) (h2:n≤9223372036854775807) (ht:Pow w):
  Calls Tryz.prog 176 #[.int .i64 n] w fun e w'=>e=.returned (.string ⟨(Lib.itoa n).toArray⟩)∧Below w.heap.size w w':=by
 go_enter Tryz.func176,Tryz.ntmps176
 go_wp2_with fail
 refine (Tryz.strconv_FormatInt_10 n h1 h2 _ ht).mono ?_
 rintro e w1 ⟨rfl,k,os,rfl⟩
 go_wp2
 go_ret
 exact ⟨rfl,below_grow w k os⟩
theorem text_rat (n d:Int) (s:ByteArray) (w:World) (h1: -9223372036854775808≤n) (h2:n≤9223372036854775807) (g1: -9223372036854775808≤d) (g2:d≤9223372036854775807) (ht:Pow w):
  Calls Tryz.prog 133 #[.agg #[.int .i64 2,.int .i64 n,.int .i64 d,.string s]] w fun e w'=>e=.returned (.string ⟨(Lib.itoa n++47::Lib.itoa d).toArray⟩)∧Below w.heap.size w w':=by
 go_enter Tryz.func133,Tryz.ntmps133
 go_upto_region 5 with fail
 refine wp_world ?_
 intro W0 hW0
 have c1:W0.cell? ⟨w.heap.size,1,none⟩=some (.int .i64 n):=by rw [hW0];simp [go_sem]
 have c2:W0.cell? ⟨w.heap.size,2,none⟩=some (.int .i64 d):=by rw [hW0];simp [go_sem]
 have k0:Below w.heap.size w W0:=by rw [hW0];go_grown
 have k1:w.heap.size<W0.heap.size:=by rw [hW0];simp
 clear hW0
 have lA:=Lib.itoa_length_le n h1 h2
 have lB:=Lib.itoa_length_le d g1 g2
 obtain ⟨A,eA⟩:∃ A:ByteArray,A=⟨(Lib.itoa n).toArray⟩:=⟨_,rfl⟩
 obtain ⟨B,eB⟩:∃ B:ByteArray,B=⟨(Lib.itoa d).toArray⟩:=⟨_,rfl⟩
 have sA:A.size≤21:=by rw [eA];show (Lib.itoa n).toArray.size≤21;simpa using lA
 have sB:B.size≤21:=by rw [eB];show (Lib.itoa d).toArray.size≤21;simpa using lB
 have DA:=fun (W:World) (h:Pow W)=>dec_any n W h1 h2 h
 have DB:=fun (W:World) (h:Pow W)=>dec_any d W g1 g2 h
 rw [← eA] at DA
 rw [← eB] at DB
 obtain ⟨C,eC⟩:∃ C:ByteArray,C=A++⟨#[47]⟩:=⟨_,rfl⟩
 have sC:C.size≤22:=by rw [eC,ByteArray.size_append];have:(⟨#[47]⟩:ByteArray).size=1:=rfl
                       omega
 have x1:∀ W:World,(Op.stringOp .add A ⟨#[47]⟩).run Tryz.prog W=.ok (.string C) W:=fun W=>by
  rw [run_string_add_sum W _ _ (by have:(⟨#[47]⟩:ByteArray).size=1:=rfl
                                   omega),eC]
 have x2:∀ W:World,(Op.stringOp .add C B).run Tryz.prog W=.ok (.string (C++B)) W:=fun W=>run_string_add_sum W _ _ (by omega)
 have eF:Hid (C++B=⟨(Lib.itoa n++47::Lib.itoa d).toArray⟩):=by
  rw [eC,eA,eB]
  apply ByteArray.ext
  simp
 have DA':Hid (∀ W:World,Pow W→Calls Tryz.prog 176 #[.int .i64 n] W fun e w'=>e=.returned (.string A)∧Below W.heap.size W w'):=DA
 have DB':Hid (∀ W:World,Pow W→Calls Tryz.prog 176 #[.int .i64 d] W fun e w'=>e=.returned (.string B)∧Below W.heap.size W w'):=DB
 clear DA DB eA eB eC sA sB sC lA lB
 go_region_held3 (fun w'=>w'.cell? ⟨w.heap.size,1,none⟩=some (.int .i64 n)∧w'.cell? ⟨w.heap.size,2,none⟩=some (.int .i64 d)) (exact ⟨bcl (n:=W0.heap.size) (by go_grown) c1 k1,bcl (n:=W0.heap.size) (by go_grown) c2 k1⟩)
  (first
   | (go_at_call_of 176 (Value.int IntKind.i64 n);refine (DA'.out _ (ht.below (k0.trans (Below.mono (B:=W0.heap.size) (by go_grown) k0.size)))).mono ?_;rintro e w1 ⟨rfl,hb1⟩;obtain ⟨hB1,hn1⟩:=bg0 (n:=W0.heap.size) (W0:=W0) (by go_grown) (by go_size) hb1)
   | (go_at_call_of 176 (Value.int IntKind.i64 d);refine (DB'.out _ (ht.below (k0.trans (Below.mono (B:=W0.heap.size) (by go_grown) k0.size)))).mono ?_;rintro e w2 ⟨rfl,hb2⟩;obtain ⟨hB2,hn2⟩:=bg0 (n:=W0.heap.size) (W0:=W0) (by go_grown) (by go_size) hb2))
 all_goals
  go_wp2
  go_ret
  exact ⟨by rw [eF.out];rfl,k0.trans (Below.mono (B:=W0.heap.size) (by go_grown) k0.size)⟩
theorem text_int (n d:Int) (s:ByteArray) (w:World) (h1: -9223372036854775808≤n) (h2:n≤9223372036854775807) (ht:Pow w):
  Calls Tryz.prog 133 #[.agg #[.int .i64 1,.int .i64 n,.int .i64 d,.string s]] w fun e w'=>e=.returned (.string ⟨(Lib.itoa n).toArray⟩)∧Below w.heap.size w w':=by
 go_enter Tryz.func133,Tryz.ntmps133
 go_wp2_with fail
 refine (dec_any n _ h1 h2 (ht.below (by go_grown))).mono ?_
 rintro e w1 ⟨rfl,hb⟩
 obtain ⟨hc,hf,hz,hB⟩:=bf (w:=w) (by go_grown) hb
 go_wp2
 go_ret
 exact ⟨rfl,hB⟩
theorem text_str (k n d:Int) (s:ByteArray) (w:World) (hs:s.size≤35184372088830) (k1:(k==1)=false) (k2:(k==2)=false):
  Calls Tryz.prog 133 #[.agg #[.int .i64 k,.int .i64 n,.int .i64 d,.string s]] w fun e w'=>e=.returned (.string ⟨(quoted s.data.toList).toArray⟩)∧Below w.heap.size w w':=by
 go_enter Tryz.func133,Tryz.ntmps133
 go_wp2_with fail
 refine (quote_any s _ hs).mono ?_
 rintro e w1 ⟨rfl,hb⟩
 obtain ⟨hc,hf,hz,hB⟩:=bf (w:=w) (by go_grown) hb
 go_wp2
 go_ret
 exact ⟨rfl,hB⟩
def vtext (k n d:Int) (s:ByteArray):List UInt8:=if k=1 then Lib.itoa n else if k=2 then Lib.itoa n++47::Lib.itoa d else quoted s.data.toList
theorem text_any (k n d:Int) (s:ByteArray) (w:World) (h1: -9223372036854775808≤n) (h2:n≤9223372036854775807) (g1: -9223372036854775808≤d) (g2:d≤9223372036854775807) (hs:s.size≤35184372088830) (ht:Pow w):
  Calls Tryz.prog 133 #[.agg #[.int .i64 k,.int .i64 n,.int .i64 d,.string s]] w fun e w'=>e=.returned (.string ⟨(vtext k n d s).toArray⟩)∧Below w.heap.size w w':=by
 unfold vtext
 by_cases k1:k=1
 ·subst k1;exact text_int n d s w h1 h2 ht
 ·rw [if_neg k1]
  by_cases k2:k=2
  ·subst k2;exact text_rat n d s w h1 h2 g1 g2 ht
  ·rw [if_neg k2];exact text_str k n d s w hs (by simpa using k1) (by simpa using k2)
theorem chk_size {k n d:Int} {s:ByteArray} (h:chk k n d s=0):s.size≤64:=by
 unfold chk at h
 split at h
 ·cases h
 ·split at h
  ·cases h
  ·omega
theorem print_any (k n d:Int) (s:ByteArray) (w:World) (h1: -9223372036854775808≤n) (h2:n≤9223372036854775807) (g1: -9223372036854775808≤d) (g2:d≤9223372036854775807) (ht:Pow w):
  Calls Tryz.prog 82 #[.agg #[.int .i64 k,.int .i64 n,.int .i64 d,.string s]] w fun e w'=>e=.returned (.tuple #[.string ⟨(if chk k n d s=0 then vtext k n d s else []).toArray⟩,.int .i64 (chk k n d s)])∧Below w.heap.size w w':=by
 by_cases hc0:chk k n d s=0
 ·have hs:=chk_size hc0
  rw [if_pos hc0,hc0]
  go_enter Tryz.func82,Tryz.ntmps82
  go_wp2_with fail
  refine (check_any k n d s _ h1 h2 g1 g2).mono ?_
  rintro e w1 ⟨rfl,hb⟩
  obtain ⟨hc,hf,hz,hB⟩:=bf (w:=w) (by go_grown) hb
  rw [hc0]
  have ht1:=ht.below hB
  go_wp2_with fail
  refine (text_any k n d s _ h1 h2 g1 g2 (by omega) ht1).mono ?_
  rintro e w2 ⟨rfl,hb2⟩
  go_wp2
  go_ret2
  exact ⟨rfl,hB.trans (hb2.mono hB.size)⟩
 ·rw [if_neg hc0]
  have hc1:(chk k n d s != 0)=true:=by simpa using hc0
  go_enter Tryz.func82,Tryz.ntmps82
  go_wp2_with fail
  refine (check_any k n d s _ h1 h2 g1 g2).mono ?_
  rintro e w1 ⟨rfl,hb⟩
  obtain ⟨hc,hf,hz,hB⟩:=bf (w:=w) (by go_grown) hb
  go_wp2
  go_ret2
  exact ⟨rfl,hB⟩
theorem isB_below {T e:TypeId} {B b:Nat} {bs:List Value} {w W:World} (h:Lib.IsBuilder T e B b bs w) (hb:Below w.heap.size w W):Lib.IsBuilder T e B b bs W:=by
 have go:∀ p,Lib.BuilderAt T e B b p bs w→Lib.BuilderAt T e B b p bs W:=by
  intro p h
  have hlt:=h.lt
  obtain ⟨hB,v,hbk,hown,hne⟩:=h
  exact ⟨hB,v,(hb.block b hlt).trans hbk,hown.kept (row:=none) ⟨hb.os,hb.tape,hb.output,hb.size,fun k hk _=>hb.block k hk⟩ (Classical.em _),hne⟩
 rcases h with h | h
 ·exact Or.inl (go _ h)
 ·exact Or.inr (go _ h)
structure BlkV (W:World) (B:Nat) (k n d:Int) (s:ByteArray):Prop where
 c0:W.cell? ⟨B,0,none⟩=some (.int .i64 k)
 c1:W.cell? ⟨B,1,none⟩=some (.int .i64 n)
 c2:W.cell? ⟨B,2,none⟩=some (.int .i64 d)
 c3:W.cell? ⟨B,3,none⟩=some (.string s)
 f0:W.frozen? ⟨B,0,none⟩=false
 f1:W.frozen? ⟨B,1,none⟩=false
 f2:W.frozen? ⟨B,2,none⟩=false
 f3:W.frozen? ⟨B,3,none⟩=false
theorem BlkV.below {W W':World} {B m:Nat} {k n d:Int} {s:ByteArray} (h:BlkV W B k n d s) (hb:Below m W W') (hB:B<m):BlkV W' B k n d s:=
 ⟨(hb.cell (p:=⟨B,0,none⟩) hB).trans h.c0,(hb.cell (p:=⟨B,1,none⟩) hB).trans h.c1,(hb.cell (p:=⟨B,2,none⟩) hB).trans h.c2,(hb.cell (p:=⟨B,3,none⟩) hB).trans h.c3,
  (hb.frozen (p:=⟨B,0,none⟩) hB).trans h.f0,(hb.frozen (p:=⟨B,1,none⟩) hB).trans h.f1,(hb.frozen (p:=⟨B,2,none⟩) hB).trans h.f2,(hb.frozen (p:=⟨B,3,none⟩) hB).trans h.f3⟩
theorem BlkV.four {W:World} {B:Nat} {k n d k' n' d':Int} {s s':ByteArray} (h:BlkV W B k n d s):BlkV ((((W.setCell ⟨B,0,none⟩ (.int .i64 k')).setCell ⟨B,1,none⟩ (.int .i64 n')).setCell ⟨B,2,none⟩ (.int .i64 d')).setCell ⟨B,3,none⟩ (.string s')) B k' n' d' s':=by
 obtain ⟨c0,c1,c2,c3,f0,f1,f2,f3⟩:=h
 constructor<;>simp (maxDischargeDepth:=12) [go_sem,c0,c1,c2,c3,f0,f1,f2,f3]
end Go.Proofs.YticnfeolbfmgfaaGreatDoor
namespace Go.Proofs.YticnfeolbfmgfaaGreatDoor
open Go.RowKit Go.Shelf
set_option linter.unusedVariables false
theorem toList_data (s:ByteArray):s.toList=s.data.toList:=by simp [ByteArray.toList_eq]
structure Val where
 k:Int
 n:Int
 d:Int
 s:ByteArray
structure Val.Fits (x:Val):Prop where
 n1: -9223372036854775808≤x.n
 n2:x.n≤9223372036854775807
 d1: -9223372036854775808≤x.d
 d2:x.d≤9223372036854775807
def Val.may (x:Val):Int:=chk x.k x.n x.d x.s
end Go.Proofs.YticnfeolbfmgfaaGreatDoor
namespace Go.Proofs.YticnfeolbfmgfaaGreatDoor
open Go.RowKit LX Go.Shelf
set_option linter.unusedVariables false
inductive Tm where
 | mk (k:Int) (nm:ByteArray) (v:Val) (subs:List Tm)
section
mutual
inductive Fm where
 | mk (k:Int) (nm:ByteArray) (op:Int) (vars:List ByteArray) (terms:List Tm) (lo:Int) (hi:Int) (opn:Bool) (subs:List Fm) (rgx:List Rx)
inductive Rx where
 | mk (k:Int) (test:List Fm) (subs:List Rx)
end
end
def Tm.k:Tm→Int | .mk k _ _ _=>k
def Tm.nm:Tm→ByteArray | .mk _ n _ _=>n
def Tm.v:Tm→Val | .mk _ _ v _=>v
def Tm.subs:Tm→List Tm | .mk _ _ _ s=>s
def Fm.k:Fm→Int | .mk k _ _ _ _ _ _ _ _ _=>k
def Fm.nm:Fm→ByteArray | .mk _ n _ _ _ _ _ _ _ _=>n
def Fm.op:Fm→Int | .mk _ _ o _ _ _ _ _ _ _=>o
def Fm.vars:Fm→List ByteArray | .mk _ _ _ v _ _ _ _ _ _=>v
def Fm.terms:Fm→List Tm | .mk _ _ _ _ t _ _ _ _ _=>t
def Fm.lo:Fm→Int | .mk _ _ _ _ _ l _ _ _ _=>l
def Fm.hi:Fm→Int | .mk _ _ _ _ _ _ h _ _ _=>h
def Fm.opn:Fm→Bool | .mk _ _ _ _ _ _ _ o _ _=>o
def Fm.subs:Fm→List Fm | .mk _ _ _ _ _ _ _ _ s _=>s
def Fm.rgx:Fm→List Rx | .mk _ _ _ _ _ _ _ _ _ r=>r
def Rx.k:Rx→Int | .mk k _ _=>k
def Rx.test:Rx→List Fm | .mk _ t _=>t
def Rx.subs:Rx→List Rx | .mk _ _ s=>s
theorem Tm.subs_lt (t:Tm):SizeOf.sizeOf t.subs<SizeOf.sizeOf t:=by cases t;simp [Tm.subs];omega
theorem Fm.subs_lt (f:Fm):SizeOf.sizeOf f.subs<SizeOf.sizeOf f:=by cases f;simp [Fm.subs];omega
theorem Fm.rgx_lt (f:Fm):SizeOf.sizeOf f.rgx<SizeOf.sizeOf f:=by cases f;simp [Fm.rgx];omega
theorem Rx.test_lt (r:Rx):SizeOf.sizeOf r.test<SizeOf.sizeOf r:=by cases r;simp [Rx.test];omega
theorem Rx.subs_lt (r:Rx):SizeOf.sizeOf r.subs<SizeOf.sizeOf r:=by cases r;simp [Rx.subs];omega
theorem mem_lt {α:Type} [SizeOf α] {l:List α} (i:Nat) (h:i<l.length):SizeOf.sizeOf l[i]<SizeOf.sizeOf l:=List.sizeOf_lt_of_mem (List.getElem_mem h)
def NmsAt (w:World) (v:Value) (vs:List ByteArray):Prop:=vs.length≤9223372036854775807∧∃ p c,v=.slice p vs.length c∧vs.length≤c∧(vs=[]∨∃ b off,p=some ⟨b,off,none⟩∧b<w.heap.size∧∀ i (h:i<vs.length),w.cell? ⟨b,off+i,none⟩=some (.string vs[i]))
def TmC (w:World) (b o:Nat) (t:Tm) (u:Value):Prop:=w.cell? ⟨b,o,none⟩=some (.int .i64 t.k)∧w.cell? ⟨b,o+1,none⟩=some (.string t.nm)∧w.cell? ⟨b,o+2,none⟩=some (.int .i64 t.v.k)∧w.cell? ⟨b,o+3,none⟩=some (.int .i64 t.v.n)∧w.cell? ⟨b,o+4,none⟩=some (.int .i64 t.v.d)∧w.cell? ⟨b,o+5,none⟩=some (.string t.v.s)∧w.cell? ⟨b,o+6,none⟩=some u
inductive TmsAt (w:World):Value→List Tm→Prop
 | nil {p:Option Addr} {c:Nat}:TmsAt w (.slice p 0 c) []
 | row {b off c:Nat} {ts:List Tm} (us:Nat→Value) (hl:ts.length≤9223372036854775807) (fit:∀ i (h:i<ts.length),ts[i].v.Fits) (hc:ts.length≤c) (hb:b<w.heap.size) (cells:∀ i (h:i<ts.length),TmC w b (off+i*7) ts[i] (us i)) (sub:∀ i (h:i<ts.length),TmsAt w (us i) ts[i].subs):TmsAt w (.slice (some ⟨b,off,none⟩) ts.length c) ts
def FmC (w:World) (b o:Nat) (f:Fm) (uv ut us ur:Value):Prop:=w.cell? ⟨b,o,none⟩=some (.int .i64 f.k)∧w.cell? ⟨b,o+1,none⟩=some (.string f.nm)∧w.cell? ⟨b,o+2,none⟩=some (.int .i64 f.op)∧w.cell? ⟨b,o+3,none⟩=some uv∧w.cell? ⟨b,o+4,none⟩=some ut∧w.cell? ⟨b,o+5,none⟩=some (.int .i64 f.lo)∧w.cell? ⟨b,o+6,none⟩=some (.int .i64 f.hi)∧w.cell? ⟨b,o+7,none⟩=some (.bool f.opn)∧w.cell? ⟨b,o+8,none⟩=some us∧w.cell? ⟨b,o+9,none⟩=some ur
def RxC (w:World) (b o:Nat) (r:Rx) (ut us:Value):Prop:=w.cell? ⟨b,o,none⟩=some (.int .i64 r.k)∧w.cell? ⟨b,o+1,none⟩=some ut∧w.cell? ⟨b,o+2,none⟩=some us
section
mutual
inductive FmsAt (w:World):Value→List Fm→Prop
 | nil {p:Option Addr} {c:Nat}:FmsAt w (.slice p 0 c) []
 | row {b off c:Nat} {fs:List Fm} (uv ut us ur:Nat→Value) (hl:fs.length≤9223372036854775807) (hc:fs.length≤c) (hb:b<w.heap.size) (cells:∀ i (h:i<fs.length),FmC w b (off+i*10) fs[i] (uv i) (ut i) (us i) (ur i)) (vars:∀ i (h:i<fs.length),NmsAt w (uv i) fs[i].vars) (terms:∀ i (h:i<fs.length),TmsAt w (ut i) fs[i].terms) (sub:∀ i (h:i<fs.length),FmsAt w (us i) fs[i].subs) (rgx:∀ i (h:i<fs.length),RxsAt w (ur i) fs[i].rgx):FmsAt w (.slice (some ⟨b,off,none⟩) fs.length c) fs
inductive RxsAt (w:World):Value→List Rx→Prop
 | nil {p:Option Addr} {c:Nat}:RxsAt w (.slice p 0 c) []
 | row {b off c:Nat} {rs:List Rx} (ut us:Nat→Value) (hl:rs.length≤9223372036854775807) (hc:rs.length≤c) (hb:b<w.heap.size) (cells:∀ i (h:i<rs.length),RxC w b (off+i*3) rs[i] (ut i) (us i)) (test:∀ i (h:i<rs.length),FmsAt w (ut i) rs[i].test) (sub:∀ i (h:i<rs.length),RxsAt w (us i) rs[i].subs):RxsAt w (.slice (some ⟨b,off,none⟩) rs.length c) rs
end
end
theorem NmsAt.below {w w':World} {v:Value} {vs:List ByteArray} (h:NmsAt w v vs) (hb:Below w.heap.size w w'):NmsAt w' v vs:=by
 obtain ⟨hl,p,c,e,hc,h | ⟨b,off,h1,h2,h3⟩⟩:=h
 ·exact ⟨hl,p,c,e,hc,Or.inl h⟩
 ·exact ⟨hl,p,c,e,hc,Or.inr ⟨b,off,h1,Nat.lt_of_lt_of_le h2 hb.size,fun i hi=>(hb.cell (p:=⟨b,_,none⟩) h2).trans (h3 i hi)⟩⟩
theorem TmC.below {w w':World} {b o:Nat} {t:Tm} {u:Value} (h:TmC w b o t u) (hb:Below w.heap.size w w') (hB:b<w.heap.size):TmC w' b o t u:=by
 obtain ⟨h0,h1,h2,h3,h4,h5,h6⟩:=h
 exact ⟨(hb.cell (p:=⟨b,_,none⟩) hB).trans h0,(hb.cell (p:=⟨b,_,none⟩) hB).trans h1,(hb.cell (p:=⟨b,_,none⟩) hB).trans h2,(hb.cell (p:=⟨b,_,none⟩) hB).trans h3,(hb.cell (p:=⟨b,_,none⟩) hB).trans h4,(hb.cell (p:=⟨b,_,none⟩) hB).trans h5,(hb.cell (p:=⟨b,_,none⟩) hB).trans h6⟩
theorem TmsAt.bel {w w':World} {v:Value} {ts:List Tm} (h:TmsAt w v ts) (hb:Below w.heap.size w w'):TmsAt w' v ts:=by
 induction h with
 | nil=>exact .nil
 | row us hl fit hc hB cells sub ih=>exact .row us hl fit hc (Nat.lt_of_lt_of_le hB hb.size) (fun i h=>(cells i h).below hb hB) ih
theorem FmC.below {w w':World} {b o:Nat} {f:Fm} {uv ut us ur:Value} (h:FmC w b o f uv ut us ur) (hb:Below w.heap.size w w') (hB:b<w.heap.size):FmC w' b o f uv ut us ur:=by
 obtain ⟨h0,h1,h2,h3,h4,h5,h6,h7,h8,h9⟩:=h
 exact ⟨(hb.cell (p:=⟨b,_,none⟩) hB).trans h0,(hb.cell (p:=⟨b,_,none⟩) hB).trans h1,(hb.cell (p:=⟨b,_,none⟩) hB).trans h2,(hb.cell (p:=⟨b,_,none⟩) hB).trans h3,(hb.cell (p:=⟨b,_,none⟩) hB).trans h4,(hb.cell (p:=⟨b,_,none⟩) hB).trans h5,(hb.cell (p:=⟨b,_,none⟩) hB).trans h6,(hb.cell (p:=⟨b,_,none⟩) hB).trans h7,(hb.cell (p:=⟨b,_,none⟩) hB).trans h8,(hb.cell (p:=⟨b,_,none⟩) hB).trans h9⟩
theorem RxC.below {w w':World} {b o:Nat} {r:Rx} {ut us:Value} (h:RxC w b o r ut us) (hb:Below w.heap.size w w') (hB:b<w.heap.size):RxC w' b o r ut us:=by
 obtain ⟨h0,h1,h2⟩:=h
 exact ⟨(hb.cell (p:=⟨b,_,none⟩) hB).trans h0,(hb.cell (p:=⟨b,_,none⟩) hB).trans h1,(hb.cell (p:=⟨b,_,none⟩) hB).trans h2⟩
theorem both_below {w w':World} (hb:Below w.heap.size w w'):∀ n,(∀ (v:Value) (fs:List Fm),SizeOf.sizeOf fs≤n→FmsAt w v fs→FmsAt w' v fs)∧(∀ (v:Value) (rs:List Rx),SizeOf.sizeOf rs≤n→RxsAt w v rs→RxsAt w' v rs):=by
 intro n
 induction n with
 | zero=>
  refine ⟨fun v fs hn h=> ?_,fun v rs hn h=> ?_⟩
  ·cases fs<;>simp at hn
  ·cases rs<;>simp at hn
 | succ n ih=>
  refine ⟨fun v fs hn h=> ?_,fun v rs hn h=> ?_⟩
  ·cases h with
   | nil=>exact .nil
   | row uv ut us ur hl hc hB cells vars terms sub rgx=>
    exact .row uv ut us ur hl hc (Nat.lt_of_lt_of_le hB hb.size) (fun i h=>(cells i h).below hb hB) (fun i h=>(vars i h).below hb) (fun i h=>(terms i h).bel hb)
     (fun i h=>ih.1 _ _ (by have:=mem_lt i h;have:=Fm.subs_lt fs[i];omega) (sub i h)) (fun i h=>ih.2 _ _ (by have:=mem_lt i h;have:=Fm.rgx_lt fs[i];omega) (rgx i h))
  ·cases h with
   | nil=>exact .nil
   | row ut us hl hc hB cells test sub=>
    exact .row ut us hl hc (Nat.lt_of_lt_of_le hB hb.size) (fun i h=>(cells i h).below hb hB)
     (fun i h=>ih.1 _ _ (by have:=mem_lt i h;have:=Rx.test_lt rs[i];omega) (test i h)) (fun i h=>ih.2 _ _ (by have:=mem_lt i h;have:=Rx.subs_lt rs[i];omega) (sub i h))
theorem FmsAt.bel {w w':World} {v:Value} {fs:List Fm} (h:FmsAt w v fs) (hb:Below w.heap.size w w'):FmsAt w' v fs:=(both_below hb _).1 v fs (Nat.le_refl _) h
theorem RxsAt.bel {w w':World} {v:Value} {rs:List Rx} (h:RxsAt w v rs) (hb:Below w.heap.size w w'):RxsAt w' v rs:=(both_below hb _).2 v rs (Nat.le_refl _) h
theorem TmsAt.form {w:World} {v:Value} {ts:List Tm} (h:TmsAt w v ts):∃ p c,v=.slice p ts.length c∧ts.length≤9223372036854775807∧ts.length≤c∧∀ i (hi:i<ts.length),∃ b off u,p=some ⟨b,off,none⟩∧b<w.heap.size∧TmC w b (off+i*7) ts[i] u∧TmsAt w u ts[i].subs∧ts[i].v.Fits:=by
 cases h with
 | nil=>exact ⟨_,_,rfl,by simp,by simp,fun i hi=>by simp at hi⟩
 | row us hl fit hc hB cells sub=>exact ⟨_,_,rfl,hl,hc,fun i hi=>⟨_,_,us i,rfl,hB,cells i hi,sub i hi,fit i hi⟩⟩
theorem FmsAt.form {w:World} {v:Value} {fs:List Fm} (h:FmsAt w v fs):∃ p c,v=.slice p fs.length c∧fs.length≤9223372036854775807∧fs.length≤c∧∀ i (hi:i<fs.length),∃ b off uv ut us ur,p=some ⟨b,off,none⟩∧b<w.heap.size∧FmC w b (off+i*10) fs[i] uv ut us ur∧NmsAt w uv fs[i].vars∧TmsAt w ut fs[i].terms∧FmsAt w us fs[i].subs∧RxsAt w ur fs[i].rgx:=by
 cases h with
 | nil=>exact ⟨_,_,rfl,by simp,by simp,fun i hi=>by simp at hi⟩
 | row uv ut us ur hl hc hB cells vars terms sub rgx=>exact ⟨_,_,rfl,hl,hc,fun i hi=>⟨_,_,uv i,ut i,us i,ur i,rfl,hB,cells i hi,vars i hi,terms i hi,sub i hi,rgx i hi⟩⟩
theorem RxsAt.form {w:World} {v:Value} {rs:List Rx} (h:RxsAt w v rs):∃ p c,v=.slice p rs.length c∧rs.length≤9223372036854775807∧rs.length≤c∧∀ i (hi:i<rs.length),∃ b off ut us,p=some ⟨b,off,none⟩∧b<w.heap.size∧RxC w b (off+i*3) rs[i] ut us∧FmsAt w ut rs[i].test∧RxsAt w us rs[i].subs:=by
 cases h with
 | nil=>exact ⟨_,_,rfl,by simp,by simp,fun i hi=>by simp at hi⟩
 | row ut us hl hc hB cells test sub=>exact ⟨_,_,rfl,hl,hc,fun i hi=>⟨_,_,ut i,us i,rfl,hB,cells i hi,test i hi,sub i hi⟩⟩
end Go.Proofs.YticnfeolbfmgfaaGreatDoor
